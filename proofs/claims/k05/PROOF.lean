import PyProof.Rows.All
import Wide.All
import OpenK.AllK
import Wide.FinOn
import Lean
import PyProof.EqAt
import PyProof.EqKinds
import PyProof.TupleCall
import KE.KRevIter
import KE.KRevSl
import PyProof.AttrMissHeap
import PySem.Challenge.RW_pointsure_k05_kinds
section
set_option Elab.async false
set_option linter.all false
set_option maxRecDepth 100000
namespace L2
open PySem PySem.Spec PyProof.Rows
abbrev Key:=Sum Int Str
def keyIs:Key→Value→Bool
  | .inl k,v=>Value.isInt k v
  | .inr x,v=>Value.isStrOf x v
def keyH (w:World):Key→Int
  | .inl k=>hashInt k
  | .inr x=>hashStr w x
theorem keyIs_shape:∀ {k:Key}{v:Value},keyIs k v=true→(∃ i t,k=Sum.inl i∧v=Value.int i t) ∨ (∃ x t,k=Sum.inr x∧v=Value.str x t)
  | .inl i,v,h=>by
    obtain ⟨t,e⟩:=Value.isInt_shape (k:=i) (v:=v) h
    exact .inl ⟨i,t,rfl,e⟩
  | .inr x,v,h=>by
    obtain ⟨t,e⟩:=Value.isStrOf_shape (x:=x) (v:=v) h
    exact .inr ⟨x,t,rfl,e⟩
theorem keyIs_int (i:Int) (t:Tok):keyIs (.inl i) (.int i t)=true:=by simp [keyIs,Value.isInt]
theorem keyIs_str (x:Str) (t:Tok):keyIs (.inr x) (.str x t)=true:=by simp [keyIs,Value.isStrOf]
theorem key_ll (a b:Int):decide ((Sum.inl a:Key)=Sum.inl b)=(a == b):=by
  by_cases e:a=b
  · subst e; simp
  · have h:¬ (Sum.inl a:Key)=Sum.inl b:=fun q=>e (Sum.inl.inj q)
    rw [decide_eq_false h]
    exact (beq_eq_false_iff_ne.mpr e).symm
theorem key_rr (a b:Str):decide ((Sum.inr a:Key)=Sum.inr b)=decide (a=b):=by
  by_cases e:a=b
  · subst e; simp
  · have h:¬ (Sum.inr a:Key)=Sum.inr b:=fun q=>e (Sum.inr.inj q)
    rw [decide_eq_false h,decide_eq_false e]
theorem key_lr (a:Int) (b:Str):decide ((Sum.inl a:Key)=Sum.inr b)=false:=decide_eq_false (fun q=>nomatch q)
theorem key_rl (a:Str) (b:Int):decide ((Sum.inr a:Key)=Sum.inl b)=false:=decide_eq_false (fun q=>nomatch q)
def mixKind (prog:Program) (w:World):PySem.KeyKind prog w Key where
  is:=keyIs
  hash:=keyH w
  inj:=fun v a b ha hb=>by
    rcases keyIs_shape ha with ⟨i,t,rfl,rfl⟩ | ⟨x,t,rfl,rfl⟩
    · rcases keyIs_shape hb with ⟨j,u,rfl,e⟩ | ⟨y,u,rfl,e⟩
      · injection e with e1 _; rw [e1]
      · exact nomatch e
    · rcases keyIs_shape hb with ⟨j,u,rfl,e⟩ | ⟨y,u,rfl,e⟩
      · exact nomatch e
      · injection e with e1 _; rw [e1]
  byValue:=fun k v h=>by
    rcases keyIs_shape h with ⟨i,t,rfl,rfl⟩ | ⟨x,t,rfl,rfl⟩ <;> rfl
  pyHash:=fun hv h=>by
    rcases keyIs_shape hv with ⟨i,t,rfl,rfl⟩ | ⟨x,t,rfl,rfl⟩
    · exact wpAny_pyHash_int h
    · exact wpAny_pyHash_str h
  eqBool:=fun hu hv h=>by
    rcases keyIs_shape hu with ⟨i,t,rfl,rfl⟩ | ⟨x,t,rfl,rfl⟩
    · rcases keyIs_shape hv with ⟨j,u,rfl,rfl⟩ | ⟨y,u,rfl,rfl⟩
      · rw [key_ll] at h; exact wpAny_eqBool_int h
      · rw [key_lr] at h; exact SeqAt.EqAt.int_str i t y u _ _ _ _ h
    · rcases keyIs_shape hv with ⟨j,u,rfl,rfl⟩ | ⟨y,u,rfl,rfl⟩
      · rw [key_rl] at h; exact SeqAt.EqAt.str_int x t j u _ _ _ _ h
      · rw [key_rr] at h; exact wpAny_eqBool_str h
  «strs»:=fun k x t v h=>by
    rcases keyIs_shape h with ⟨i,u,rfl,e⟩ | ⟨y,u,rfl,e⟩
    · exact nomatch e
    · injection e with e1 _
      subst e1
      cases v <;> rfl
theorem mixKind_int (prog:Program) (w:World) (i:Int) (t:Tok):(mixKind prog w).is (.inl i) (.int i t)=true:=keyIs_int i t
theorem mixKind_str (prog:Program) (w:World) (x:Str) (t:Tok):(mixKind prog w).is (.inr x) (.str x t)=true:=keyIs_str x t
end L2
namespace L2
open PySem PySem.Spec PyProof.Rows
inductive V where
  | non | bl (b:Bool) | int (i:Int) | str (x:Str) | byt (b:Array UInt8) | flt (b:UInt64) | ref (a:Addr) | ty (n:String)
  deriving DecidableEq
def RelV:V→Value→Prop
  | .non,u=>u=Value.none
  | .bl b,u=>u=Value.bool b
  | .int i,u=>∃ t,u=Value.int i t
  | .str x,u=>∃ t,u=Value.str x t
  | .byt b,u=>∃ t,u=Value.bytes b t
  | .flt b,u=>∃ t,u=Value.float b t
  | .ref a,u=>u=Value.ref a
  | .ty n,u=>u=Value.type n
abbrev Vals:List V→List Value→Prop:=Paired RelV
theorem Vals.length {xs:List V}{us:List Value} (r:Vals xs us):xs.length=us.length:=Paired.length r
theorem Vals.get:∀ {xs:List V}{us:List Value}{i:Nat}{x:V},Vals xs us→xs[i]?=some x→∃ u,us[i]?=some u∧RelV x u
  | _,_,_,_,.nil,e=>by simp at e
  | _,_,0,_,.cons r _,e=>by simp at e; subst e; exact ⟨_,rfl,r⟩
  | _,_,i + 1,x,.cons _ t,e=>by
    obtain ⟨u,h1,h2⟩:=Vals.get (i:=i) (x:=x) t (by simpa using e)
    exact ⟨u,by simpa using h1,h2⟩
theorem Vals.set {x:V}{u:Value} (r:RelV x u):∀ {xs:List V}{us:List Value} (i:Nat),Vals xs us→Vals (xs.set i x) (us.set i u)
  | _,_,_,.nil=>.nil
  | _,_,0,.cons _ t=>.cons r t
  | _,_,i + 1,.cons q t=>.cons q (Vals.set r i t)
theorem Vals.append:∀ {xs ys:List V}{us ws:List Value},Vals xs us→Vals ys ws→Vals (xs++ys) (us++ws)
  | _,_,_,_,.nil,s=>s
  | _,_,_,_,.cons r t,s=>.cons r (Vals.append t s)
theorem Vals.take:∀ {xs:List V}{us:List Value} (n:Nat),Vals xs us→Vals (xs.take n) (us.take n)
  | _,_,0,_=>.nil
  | _,_,_ + 1,.nil=>.nil
  | _,_,n + 1,.cons r t=>.cons r (Vals.take n t)
theorem Vals.drop:∀ {xs:List V}{us:List Value} (n:Nat),Vals xs us→Vals (xs.drop n) (us.drop n)
  | _,_,0,r=>r
  | _,_,_ + 1,.nil=>.nil
  | _,_,n + 1,.cons _ t=>Vals.drop n t
def RelO:Option V→Option Value→Prop
  | some v,some u=>RelV v u
  | none,none=>True
  | _,_=>False
def KV {κ:Type}:List (κ × V)→List (κ × Value)→Prop:=Paired fun (p:κ × V) (q:κ × Value)=>p.1=q.1∧RelV p.2 q.2
def kV:Key→V
  | .inl i=>.int i
  | .inr x=>.str x
inductive HO where
  | lst (xs:List V)
  | tup (xs:List V)
  | dK (kvs:List (Key × V)) | dT (kvs:List (List Key × V))
  | set (S:Int→Bool) (n:Nat)
  | ins (C dx:Addr) (fs:List (Str × V))
  | own (x:Addr)
  | xd (fs:List (Str × V))
  | met (f x:Addr)
  | rng (lo hi:Int)
  | frz (o:Obj) (u:HO)
  | tbl (ps:Array Value)
  | ext (φ:Heap→Prop)
abbrev Hp:=Addr→Option HO
def upd (H:Hp) (a:Addr) (o:HO):Hp:=fun b=>if b=a then some o else H b
theorem upd_same {H:Hp}{a:Addr}{o:HO}:upd H a o a=some o:=by unfold upd; rw [if_pos rfl]
theorem upd_ne {H:Hp}{a b:Addr}{o:HO} (h:b ≠ a):upd H a o b=H b:=by unfold upd; rw [if_neg h]
theorem ne_of {H:Hp}{a b:Addr}{o u:HO} (h:H a=some o) (h':H b=some u) (d:o ≠ u):a ≠ b:=by
  intro e; subst e; rw [h] at h'; exact d (Option.some.inj h')
theorem ne_of_none {H:Hp}{a b:Addr}{o:HO} (h:H a=some o) (h':H b=none):a ≠ b:=by
  intro e; subst e; rw [h] at h'; cases h'
section
variable (P:Program) (w:World)
def ObjOk (H:Hp) (h:Heap) (a:Addr):HO→Prop
  | .lst xs=>xs.length ≤ sizeLine∧∃ (its:List Value) (n:Nat),Vals xs its∧h.get? a=some { cls:=.type "list",data:=.seq its.toArray n }
  | .tup xs=>xs.length ≤ sizeLine∧∃ its:List Value,Vals xs its∧IsTup h a its.toArray
  | .dK kvs=>kvs.length ≤ sizeLine∧(a == sysModules)=false∧∃ vs,KV kvs vs∧h.DictOf (mixKind P w) a vs
  | .dT kvs=>kvs.length ≤ sizeLine∧(a == sysModules)=false∧∃ xs:List (List Key × Addr × Value),
      Paired (fun (p:List Key × V) (q:List Key × Addr × Value)=>p.1=q.1∧H q.2.1=some (.tup (p.1.map kV))∧RelV p.2 q.2.2) kvs xs ∧
      ∃ o es ep,h.get? a=some o∧o.ExactDict∧o.data=.dict es ep∧es.toList=xs.map (entryOfKey (tupleKind (mixKind P w)))∧(xs.map (·.1)).Nodup
  | .set S n=>h.SetOf (intKind P w) a S n
  | .ins C dx fs=>H dx=some (.own a)∧fs.length ≤ 1000∧dx ≠ a∧h.get? a=some (W.instObj C dx) ∧
      ∃ mA,h.Ns1 dx mA∧(∀ f,RelO (fs.lookup f) (mA f))∧PySem.Within mA (fs.map (·.1))
  | .own _=>∃ o,h.get? a=some o
  | .xd fs=>∃ mA,h.Ns1 a mA∧∀ f,RelO (fs.lookup f) (mA f)
  | .rng lo hi=>∃ t u v,h.get? a=some { cls:=.type "range",data:=.fields #[.int lo t,.int hi u,.int 1 v] }
  | .frz o u=>h.get? a=some o∧ObjOk H h a u
  | .tbl ps=>h.get? a=some { cls:=.none,data:=.fields ps }
  | .met f x=>h.get? a=some (W.methodObj (.ref f) (.ref x))
  | .ext φ=>φ h∧(∃ o,h.get? a=some o)∧∀ h1 h2:Heap,φ h1→(∀ o,h1.get? a=some o→h2.get? a=some o)→φ h2
def HOk (H:Hp) (h:Heap):Prop:=∀ a o,H a=some o→ObjOk P w H h a o
end
section
variable {P:Program}{w:World}{H H':Hp}{h h':Heap}{a:Addr}{o:HO}
theorem ObjOk.lt (x:ObjOk P w H h a o):a < h.objs.size:=by
  cases o with
  | lst xs=>obtain ⟨_,_,_,_,e⟩:=x; exact Heap.lt_size e
  | tup xs=>obtain ⟨_,_,_,p⟩:=x; exact p.lt
  | dK kvs=>obtain ⟨_,_,_,_,o,_,_,e,_⟩:=x; exact Heap.lt_size e
  | dT kvs=>obtain ⟨_,_,_,_,o,_,_,e,_⟩:=x; exact Heap.lt_size e
  | set S n=>obtain ⟨o,_,_,_,e,_⟩:=x; exact Heap.lt_size e
  | ins C dx fs=>obtain ⟨_,_,_,e,_⟩:=x; exact Heap.lt_size e
  | own y=>obtain ⟨_,e⟩:=x; exact Heap.lt_size e
  | xd fs=>obtain ⟨_,⟨_,_,_,e,_⟩,_⟩:=x; exact Heap.lt_size e
  | rng lo hi=>obtain ⟨_,_,_,e⟩:=x; exact Heap.lt_size e
  | frz ob u=>obtain ⟨e,_⟩:=x; exact Heap.lt_size e
  | tbl ps=>exact Heap.lt_size (show h.get? a=some _ from x)
  | met f y=>exact Heap.lt_size (show h.get? a=some _ from x)
  | ext φ=>obtain ⟨_,⟨_,e⟩,_⟩:=x; exact Heap.lt_size e
theorem Paired.mapP {α β:Type}{F G:α→β→Prop}:∀ {l₁:List α}{l₂:List β},Paired F l₁ l₂→(∀ a b,F a b→G a b)→Paired G l₁ l₂
  | _,_,.nil,_=>.nil
  | _,_,.cons r t,f=>.cons (f _ _ r) (Paired.mapP t f)
theorem ObjOk.stay (x:ObjOk P w H h a o) (k:∀ b u,(b=a ∨ H b=some (.own a))→h.get? b=some u→h'.get? b=some u)
    (ho:∀ b,H b=some (.own a)→H' b=some (.own a)) (ht:∀ b xs,H b=some (.tup xs)→H' b=some (.tup xs)):ObjOk P w H' h' a o:=by
  induction o with
  | lst xs=>obtain ⟨z,its,n,r,e⟩:=x; exact ⟨z,its,n,r,k _ _ (.inl rfl) e⟩
  | tup xs=>obtain ⟨z,its,r,ob,e,c⟩:=x; exact ⟨z,its,r,ob,k _ _ (.inl rfl) e,c⟩
  | dK kvs=>obtain ⟨z,y,vs,r,ob,es,ep,e,c⟩:=x; exact ⟨z,y,vs,r,ob,es,ep,k _ _ (.inl rfl) e,c⟩
  | dT kvs =>
    obtain ⟨z,y,xs,r,ob,es,ep,e,c⟩:=x
    exact ⟨z,y,xs,Paired.mapP r fun p q z=>⟨z.1,ht _ _ z.2.1,z.2.2⟩,ob,es,ep,k _ _ (.inl rfl) e,c⟩
  | set S n=>obtain ⟨ob,es,ep,t,e,c⟩:=x; exact ⟨ob,es,ep,t,k _ _ (.inl rfl) e,c⟩
  | ins C dx fs =>
    obtain ⟨d,z,ne,e,mA,⟨od,es,ep,e2,c⟩,r⟩:=x
    exact ⟨ho _ d,z,ne,k _ _ (.inl rfl) e,mA,⟨od,es,ep,k _ _ (.inr d) e2,c⟩,r⟩
  | own y=>obtain ⟨ob,e⟩:=x; exact ⟨ob,k _ _ (.inl rfl) e⟩
  | xd fs=>obtain ⟨mA,⟨od,es,ep,e,c⟩,r⟩:=x; exact ⟨mA,⟨od,es,ep,k _ _ (.inl rfl) e,c⟩,r⟩
  | rng lo hi=>obtain ⟨t,u,v,e⟩:=x; exact ⟨t,u,v,k _ _ (.inl rfl) e⟩
  | frz ob u ih=>obtain ⟨e,q⟩:=x; exact ⟨k _ _ (.inl rfl) e,ih q⟩
  | tbl ps =>
    have e:h.get? a=some { cls:=.none,data:=.fields ps }:=x
    show h'.get? a=some { cls:=.none,data:=.fields ps }
    exact k a _ (.inl rfl) e
  | met f y =>
    have e:h.get? a=some (W.methodObj (.ref f) (.ref y)):=x
    show h'.get? a=some (W.methodObj (.ref f) (.ref y))
    exact k a _ (.inl rfl) e
  | ext φ=>obtain ⟨p,⟨o,e⟩,st⟩:=x; exact ⟨st _ _ p fun o q=>k _ _ (.inl rfl) q,⟨o,k _ _ (.inl rfl) e⟩,st⟩
theorem HOk.lt (x:HOk P w H h) (e:H a=some o):a < h.objs.size:=(x a o e).lt
theorem HOk.fresh (x:HOk P w H h) (e:h.objs.size ≤ a):H a=none:=by
  cases q:H a with
  | none=>rfl
  | some u=>exact absurd (Nat.lt_of_lt_of_le (x.lt q) e) (Nat.lt_irrefl _)
theorem HOk.kept (x:HOk P w H h) (k:∀ b u,h.get? b=some u→h'.get? b=some u):HOk P w H h':=fun a o e =>
  (x a o e).stay (fun b u _ q=>k b u q) (fun _ q=>q) fun _ _ q=>q
theorem HOk.laid (x:HOk P w H h) (k:∀ b u,h.get? b=some u→h'.get? b=some u) (hp:h.objs.size ≤ a) (new:ObjOk P w (upd H a o) h' a o):HOk P w (upd H a o) h':=fun b u e=>by
  have hn:=x.fresh hp
  by_cases hb:b=a
  · subst hb; rw [upd_same] at e; cases e; exact new
  · rw [upd_ne hb] at e
    exact (x b u e).stay (fun c v _ q=>k c v q) (fun c q=>by rw [upd_ne (ne_of_none q hn)]; exact q) fun c xs q=>by rw [upd_ne (ne_of_none q hn)]; exact q
end
def Rd (H:Hp) (a:Addr) (u:HO):Prop:=H a=some u ∨ ∃ o,H a=some (.frz o u)
theorem Rd.ok {P:Program}{w:World}{H:Hp}{h:Heap}{a:Addr}{u:HO} (r:Rd H a u) (x:HOk P w H h):ObjOk P w H h a u:=by
  rcases r with r | ⟨o,r⟩
  · exact x a u r
  · obtain ⟨_,q⟩:=x a _ r
    exact q
def Mut:Option HO→Prop
  | some (.lst _)=>True
  | some (.dK _)=>True
  | some (.dT _)=>True
  | some (.set _ _)=>True
  | some (.ins _ _ _)=>True
  | some (.ext _)=>True
  | _=>False
section
variable {P:Program}{w:World}{H:Hp}{h h':Heap}{x e:Addr}{o':HO}
theorem HOk.write (ok:HOk P w H h) (mu:Mut (H x)) (he:e=x ∨ H e=some (.own x)) (k:∀ b u,b ≠ e→h.get? b=some u→h'.get? b=some u) (heo:∃ u,h'.get? e=some u)
    (new:ObjOk P w (upd H x o') h' x o'):HOk P w (upd H x o') h':=fun b u q=>by
  have nown:∀ c y,H c=some (.own y)→c ≠ x:=fun c y r z=>by subst z; rw [r] at mu; exact mu
  have ntup:∀ c xs,H c=some (.tup xs)→c ≠ x:=fun c xs r z=>by subst z; rw [r] at mu; exact mu
  by_cases hb:b=x
  · subst hb; rw [upd_same] at q; cases q; exact new
  · rw [upd_ne hb] at q
    by_cases hbe:b=e
    · have q':H b=some (.own x):=by
        rcases he with z | z
        · exact absurd (hbe.trans z) hb
        · rw [hbe]; exact z
      rw [q] at q'; cases q'
      obtain ⟨v,hv⟩:=heo
      exact ⟨v,by rw [hbe]; exact hv⟩
    · refine (ok b u q).stay (fun c v hc r=>k c v ?_ r) (fun c r=>by rw [upd_ne (nown c b r)]; exact r) fun c xs r=>by rw [upd_ne (ntup c xs r)]; exact r
      rcases hc with rfl | hc
      · exact hbe
      · rintro rfl
        rcases he with z | z
        · exact nown c b hc z
        · rw [hc] at z; cases z; exact hb rfl
end
structure Un (fs ex:List Addr) (H H':Hp) (h h':Heap):Prop where
  keep:∀ b o,h.get? b=some o→H b=none→b ∉ fs→b ∉ ex→h'.get? b=some o
  slot:∀ b o,h.get? b=some o→H b=none→b∈fs→b ∉ ex→∃ sl,h'.get? b=some { o with slots:=sl }
  free:∀ b o,h.get? b=some o→H b=none→b ∉ ex→H' b=none
  there:∀ b o,h.get? b=some o→b ∉ ex→∃ o',h'.get? b=some o'
  tups:∀ b xs,H b=some (.tup xs)→H' b=some (.tup xs)
  frzs:∀ b o u,H b=some (.frz o u)→H' b=some (.frz o u)
  tbls:∀ b ps,H b=some (.tbl ps)→∃ more,H' b=some (.tbl (ps++more))
section
variable {fs fs' ex ex':List Addr}{H H1 H2:Hp}{h h1 h2 h':Heap}{a x e:Addr}{o:HO}
theorem Un.any (u:Un fs ex H H1 h h1) {b:Addr}{ob:Obj} (q:h.get? b=some ob) (n:H b=none) (hx:b ∉ ex):∃ sl,h1.get? b=some { ob with slots:=sl }:=by
  by_cases hb:b∈fs
  · exact u.slot b ob q n hb hx
  · exact ⟨ob.slots,u.keep b ob q n hb hx⟩
theorem Un.kept (k:∀ b u,h.get? b=some u→h'.get? b=some u):Un fs ex H H h h' :=
  ⟨fun b ob q _ _ _=>k b ob q,fun b ob q _ _ _=>⟨ob.slots,k b ob q⟩,fun _ _ _ n _=>n,fun b ob q _=>⟨ob,k b ob q⟩,fun _ _ q=>q,fun _ _ _ q=>q,fun _ ps q=>⟨#[],by rw [q]; simp⟩⟩
theorem Un.refl:Un fs ex H H h h:=Un.kept fun _ _ q=>q
theorem Un.laid (k:∀ b u,h.get? b=some u→h'.get? b=some u) (hp:h.objs.size ≤ a) (hn:H a=none):Un fs ex H (upd H a o) h h' where
  keep:=fun b u q _ _ _=>k b u q
  slot:=fun b u q _ _ _=>⟨u.slots,k b u q⟩
  free:=fun b u q n _=>by rw [upd_ne (Nat.ne_of_lt (Nat.lt_of_lt_of_le (Heap.lt_size q) hp))]; exact n
  there:=fun b u q _=>⟨u,k b u q⟩
  tups:=fun b xs q=>by rw [upd_ne (ne_of_none q hn)]; exact q
  frzs:=fun b u xs q=>by rw [upd_ne (ne_of_none q hn)]; exact q
  tbls:=fun b ps q=>⟨#[],by rw [upd_ne (ne_of_none q hn),q]; simp⟩
theorem Un.write (mu:Mut (H x)) (he:e=x ∨ H e=some (.own x)) (k:∀ b u,b ≠ e→h.get? b=some u→h'.get? b=some u) (heo:∃ u,h'.get? e=some u):Un fs ex H (upd H x o) h h':=by
  have hx:∀ b,H b=none→b ≠ x:=fun b n z=>by subst z; rw [n] at mu; exact mu
  have hb:∀ b,H b=none→b ≠ e:=fun b n z=>by
    subst z
    rcases he with r | r
    · exact hx b n r
    · rw [n] at r; cases r
  have hm:∀ b u,H b=some u→¬ Mut (some u)→b ≠ x:=fun b u q nm z=>by subst z; rw [q] at mu; exact nm mu
  refine ⟨fun b u q n _ _=>k b u (hb b n) q,fun b u q n _ _=>⟨u.slots,k b u (hb b n) q⟩,fun b u q n _=>by rw [upd_ne (hx b n)]; exact n,fun b u q _=>?_,
    fun b xs q=>by rw [upd_ne (hm b _ q fun z=>z)]; exact q,fun b u xs q=>by rw [upd_ne (hm b _ q fun z=>z)]; exact q,fun b ps q=>⟨#[],by rw [upd_ne (hm b _ q fun z=>z),q]; simp⟩⟩
  by_cases hbe:b=e
  · subst hbe; exact heo
  · exact ⟨u,k b u hbe q⟩
end
def trk (h:Heap) (H:Hp):List Addr:=(List.range h.objs.size).filter fun a=>(H a).isSome
def hidT (h:Heap) (H:Hp):Heap:=W.hideAll h (trk h H)
theorem hidT_size (h:Heap) (H:Hp):(hidT h H).objs.size=h.objs.size:=W.hideAll_size _ _
theorem hidT_get {h:Heap}{H:Hp}{b:Addr}{o:Obj} (e:h.get? b=some o) (n:H b=none):(hidT h H).get? b=some o :=
  W.hideAll_get _ e fun hm=>by
    have q:(H b).isSome=true:=(List.mem_filter.mp hm).2
    rw [n] at q; simp at q
theorem of_hidT {h:Heap}{H:Hp}{b:Addr}{o:Obj} (e:(hidT h H).get? b=some o):h.get? b=some o∧H b=none:=by
  have e':h.get? b=some o:=W.of_hideAll (trk h H) e
  refine ⟨e',?_⟩
  cases q:H b with
  | none=>rfl
  | some x =>
    have hm:b∈trk h H:=List.mem_filter.mpr ⟨List.mem_range.mpr (Heap.lt_size e'),by simp [q]⟩
    have z:(hidT h H).get? b=none:=W.hideAll_none (trk h H) hm
    rw [z] at e; cases e
def allNews (g h:Heap) (L:Addr):List (Addr × Obj):=(List.range h.objs.size).filterMap fun a=>if a=L ∨ (g.get? a).isSome=true then none else (h.get? a).map fun o=>(a,o)
def rest (g h:Heap) (L d:Addr):List (Addr × Obj):=(allNews g h L).filter fun p=>decide (p.1 ≠ d)
end L2
namespace L2
open PySem PySem.Spec PyProof.Rows
structure Mod (K:W.Frag) (mg:Str→Option Value) (base:Heap):Prop where
  kin:K.In base
  glob:base.Ns mainGlobals mg
  blt:∃ mb,base.Ns builtinsNs mb∧∀ x:Str,x ≠ "__name__"→mb x=bootBuiltins x
  nolimit:base.NoLimit
structure Cx where
  prog:Program
  w:World
  K:W.Frag
  mg:Str→Option Value
  base:Heap
  A:Around
  N:List Str
  s₀:Shared
  H₀:Hp
  env:Env
  outer:List Env
  stack:List Env
  ex:List Addr
  fn:Str→Bool
  calm:Bool
  pn:List (Addr × Obj)
  xe:Value→Shared→Prop
def frs (l:List Env):List Addr:=l.filterMap (·.frame)
abbrev Cx.fs (X:Cx):List Addr:=frs X.outer
def Vis (sc:Scope) (x:Str):Prop:=sc.names.lookup x=some .local ∨ sc.names.lookup x=some .cell ∨ sc.names.lookup x=some .free
def Loc (sc:Scope) (x:Str):Prop:=sc.names.lookup x=some .local ∨ sc.names.lookup x=some .cell
def Look (env:Env) (h:Heap) (m:Str→Option Value) (x:Str) (u:Value):Prop :=
  (env.kindOf x=some .local∧m x=some u) ∨ ((env.kindOf x=some .cell ∨ env.kindOf x=some .free)∧∃ c,env.cells.lookup x=some c∧h.IsCell c (some u))
structure Cx.Ok (X:Cx):Prop where
  mod:Mod X.K X.mg X.base
  kind:X.env.scope.kind=.function
  glob:X.env.globals=mainGlobals
  blt:X.env.builtins=builtinsNs
  above:X.s₀.heap.objs.size ≤ X.env.locals
  inj:∀ x y c,X.env.cells.lookup x=some c→X.env.cells.lookup y=some c→x=y
  has:∀ x,(X.env.kindOf x=some .cell ∨ X.env.kindOf x=some .free)→∃ c,X.env.cells.lookup x=some c
  cab:∀ x c,X.fn x=true→X.env.cells.lookup x=some c→X.s₀.heap.objs.size ≤ c
  hd:X.calm=true→X.A.handled=none
  frames:X.A.frames=some X.stack
  stk:X.stack=X.outer ∨ (X.stack=X.env :: X.outer∧X.env.frame=some X.env.locals)
  exf:∀ b∈X.ex,b ≠ X.env.locals∧∀ x c,X.env.cells.lookup x=some c→c ≠ b
  bs:∀ b o,X.base.get? b=some o→X.s₀.heap.get? b=some o∧X.H₀ b=none
  bsz:X.base.objs.size ≤ X.s₀.heap.objs.size
  noex:∀ b o,X.base.get? b=some o→b ∉ X.ex
  exfs:∀ b∈X.ex,b ∉ X.fs
  funs:X.s₀.heap.FunFrames X.base X.outer
  frf:∀ b∈X.fs,X.H₀ b=none
structure Inv (X:Cx) (pins:List (Addr × Obj)) (σ:List (Option V)) (H:Hp) (s:Shared):Prop where
  ok:X.Ok
  os:s.os=X.s₀.os
  bare:AllBare s.gens
  base:Un X.fs X.ex X.H₀ H X.s₀.heap s.heap
  loc:∃ m,s.heap.Ns X.env.locals m∧∀ (i:Nat) (x:Str) (v:V),X.N[i]?=some x→σ[i]?=some (some v)→Vis X.env.scope x→∃ u,RelV v u∧Look X.env s.heap m x u
  cell:∀ x c,X.env.cells.lookup x=some c→∃ v,s.heap.IsCell c v
  free:H X.env.locals=none
  freeC:∀ x c,X.env.cells.lookup x=some c→H c=none
  pin:∀ p∈X.pn++pins,s.heap.get? p.1=some p.2∧H p.1=none∧p.1 ≠ X.env.locals∧p.1 ∉ X.fs∧∀ v,p.2.data ≠ .cell v
  hok:HOk X.prog X.w H s.heap
  len:σ.length=X.N.length
section
variable {X:Cx}{pins:List (Addr × Obj)}{σ:List (Option V)}{H H':Hp}{s:Shared}{h':Heap}
theorem Cx.Ok.nofr (ok:X.Ok) {b:Addr}{o:Obj} (e:X.base.get? b=some o):b ∉ X.fs:=fun hb=>by
  have:=(ok.funs.mem hb).1
  rw [e] at this; cases this
theorem Inv.bs (I:Inv X pins σ H s):∀ b o,X.base.get? b=some o→s.heap.get? b=some o∧H b=none:=fun b o e =>
  ⟨I.base.keep b o (I.ok.bs b o e).1 (I.ok.bs b o e).2 (I.ok.nofr e) (I.ok.noex b o e),I.base.free b o (I.ok.bs b o e).1 (I.ok.bs b o e).2 (I.ok.noex b o e)⟩
theorem Inv.bk (I:Inv X pins σ H s):∀ b o,X.base.get? b=some o→s.heap.get? b=some o:=fun b o e=>(I.bs b o e).1
theorem Inv.mod (I:Inv X pins σ H s):Mod X.K X.mg X.base:=I.ok.mod
theorem Inv.kIn (I:Inv X pins σ H s):X.K.In s.heap:=I.ok.mod.kin.keeps I.bk
theorem Inv.lt (I:Inv X pins σ H s):X.env.locals < s.heap.objs.size:=let ⟨_,hn,_⟩:=I.loc; hn.lt
theorem Inv.sz (I:Inv X pins σ H s):X.s₀.heap.objs.size ≤ s.heap.objs.size:=Nat.le_trans I.ok.above (Nat.le_of_lt I.lt)
theorem Inv.nofs (I:Inv X pins σ H s) {a:Addr} (h:s.heap.objs.size ≤ a):a ∉ X.fs:=fun hb=>by
  obtain ⟨_,o,ho,_⟩:=I.ok.funs.mem hb
  exact absurd (Nat.lt_of_lt_of_le (Heap.lt_size ho) (Nat.le_trans I.sz h)) (Nat.lt_irrefl _)
theorem Inv.cne (I:Inv X pins σ H s):∀ x c,X.env.cells.lookup x=some c→c ≠ X.env.locals:=fun x c e z=>by
  obtain ⟨v,o,ho,hd⟩:=I.cell x c e
  obtain ⟨m,⟨o',es,ep,ho',hd',_⟩,_⟩:=I.loc
  rw [z,ho'] at ho; cases ho; rw [hd'] at hd; cases hd
theorem Inv.funs (I:Inv X pins σ H s):s.heap.FunFrames X.base X.outer:=by
  have all:∀ (l:List Env),(∀ b∈frs l,b∈X.fs)→X.s₀.heap.FunFrames X.base l→s.heap.FunFrames X.base l:=by
    intro l
    induction l with
    | nil=>intro _ _; trivial
    | cons env r ih =>
      intro hs hl
      obtain ⟨hk,⟨L,o,hf,hn,ho,hd⟩,hr⟩:=hl
      have hL:L∈X.fs:=hs L (by unfold frs; rw [List.filterMap_cons,hf]; exact List.mem_cons_self)
      obtain ⟨sl,e⟩:=I.base.slot L o ho (I.ok.frf L hL) hL fun z=>I.ok.exfs L z hL
      exact ⟨hk,⟨L,_,hf,hn,e,hd⟩,ih (fun b hb=>hs b (by unfold frs; rw [List.filterMap_cons,hf]; exact List.mem_cons_of_mem _ hb)) hr⟩
  exact all X.outer (fun _ hb=>hb) I.ok.funs
theorem Inv.stack (I:Inv X pins σ H s):s.heap.FunFrames X.base X.stack:=by
  rcases I.ok.stk with e | ⟨e,hf⟩
  · rw [e]; exact I.funs
  · rw [e]
    obtain ⟨m,hn,_⟩:=I.loc
    refine .cons (by rw [I.ok.kind]; decide) hf hn ?_ I.funs
    exact Heap.get?_none_of_le (Nat.le_trans I.ok.bsz I.ok.above)
theorem Inv.stkSub (I:Inv X pins σ H s):∀ b∈frs X.stack,b∈X.env.locals :: X.fs:=fun b hb=>by
  rcases I.ok.stk with e | ⟨e,hf⟩
  · rw [e] at hb; exact List.mem_cons_of_mem _ hb
  · rw [e] at hb
    unfold frs at hb
    rw [List.filterMap_cons,hf] at hb
    exact hb
theorem Inv.stkFree (I:Inv X pins σ H s):∀ b∈frs X.stack,H b=none:=fun b hb=>by
  rcases List.mem_cons.mp (I.stkSub b hb) with e | hb
  · rw [e]; exact I.free
  · obtain ⟨_,o,ho,_⟩:=I.ok.funs.mem hb
    exact I.base.free b o ho (I.ok.frf b hb) fun z=>I.ok.exfs b z hb
theorem Inv.step {g':Array GenState}{t':Nat}{d':Drawn}{ch:List Addr} (I:Inv X pins σ H s)
    (hch:∀ b∈ch,(b∈X.ex ∨ X.s₀.heap.objs.size ≤ b)∧b ≠ X.env.locals∧(∀ x c,X.env.cells.lookup x=some c→c ≠ b)∧∀ p∈X.pn++pins,p.1 ≠ b)
    (keep:∀ b o,b ≠ X.env.locals→b ∉ X.fs→b ∉ ch→s.heap.get? b=some o→H b=none→h'.get? b=some o)
    (slot:∀ b o,b ≠ X.env.locals→b∈X.fs→b ∉ ch→s.heap.get? b=some o→H b=none→∃ sl,h'.get? b=some { o with slots:=sl }) (free:∀ b o,b ∉ ch→s.heap.get? b=some o→H b=none→H' b=none)
    (there:∀ b o,b ∉ ch→s.heap.get? b=some o→∃ o',h'.get? b=some o')
    (tups:∀ b xs,H b=some (.tup xs)→H' b=some (.tup xs)) (frzs:∀ b o u,H b=some (.frz o u)→H' b=some (.frz o u)) (tbls:∀ b ps,H b=some (.tbl ps)→∃ more,H' b=some (.tbl (ps++more)))
    (ns:∀ m,s.heap.Ns X.env.locals m→h'.Ns X.env.locals m) (hok:HOk X.prog X.w H' h') (hg:AllBare g') :
    Inv X pins σ H' { s with heap:=h',gens:=g',drawn:=d',toks:=t' }:=by
  have neL:∀ b o,X.s₀.heap.get? b=some o→b ≠ X.env.locals:=fun b o e=>Nat.ne_of_lt (Nat.lt_of_lt_of_le (Heap.lt_size e) I.ok.above)
  have neC:∀ b o,X.s₀.heap.get? b=some o→b ∉ X.ex→b ∉ ch:=fun b o e hx hb=>by
    rcases (hch b hb).1 with z | z
    · exact hx z
    · exact absurd (Nat.lt_of_lt_of_le (Heap.lt_size e) z) (Nat.lt_irrefl _)
  have cellK:∀ x c,X.env.cells.lookup x=some c→∀ v,s.heap.IsCell c v→h'.IsCell c v:=fun x c e v ⟨o,ho,hd⟩=>by
    have nch:c ∉ ch:=fun z=>(hch c z).2.2.1 x c e rfl
    by_cases hc:c∈X.fs
    · obtain ⟨sl,q⟩:=slot c o (I.cne x c e) hc nch ho (I.freeC x c e)
      exact ⟨_,q,hd⟩
    · exact ⟨o,keep c o (I.cne x c e) hc nch ho (I.freeC x c e),hd⟩
  refine ⟨I.ok,I.os,hg,⟨fun b o e n hb hx=>?_,fun b o e n hb hx=>?_,fun b o e n hx=>?_,fun b o e hx=>?_,fun b xs e=>tups b xs (I.base.tups b xs e),fun b o xs e=>frzs b o xs (I.base.frzs b o xs e),fun b ps e=>?_⟩,?_,fun x c e=>?_,?_,fun x c e=>?_,fun p hp=>?_,hok,I.len⟩
  · exact keep b o (neL b o e) hb (neC b o e hx) (I.base.keep b o e n hb hx) (I.base.free b o e n hx)
  · obtain ⟨sl,e1⟩:=I.base.slot b o e n hb hx
    obtain ⟨sl',e2⟩:=slot b _ (neL b o e) hb (neC b o e hx) e1 (I.base.free b o e n hx)
    exact ⟨sl',e2⟩
  · obtain ⟨o',e1⟩:=I.base.there b o e hx
    exact free b o' (neC b o e hx) e1 (I.base.free b o e n hx)
  · obtain ⟨o',e1⟩:=I.base.there b o e hx
    exact there b o' (neC b o e hx) e1
  · obtain ⟨m1,e1⟩:=I.base.tbls b ps e
    obtain ⟨m2,e2⟩:=tbls b _ e1
    exact ⟨m1++m2,by rw [e2,Array.append_assoc]⟩
  · obtain ⟨m,hn,hl⟩:=I.loc
    refine ⟨m,ns m hn,fun i x v e1 e2 e3=>?_⟩
    obtain ⟨u,r,l⟩:=hl i x v e1 e2 e3
    refine ⟨u,r,?_⟩
    rcases l with l | ⟨k,c,e,z⟩
    · exact .inl l
    · exact .inr ⟨k,c,e,cellK x c e _ z⟩
  · obtain ⟨v,z⟩:=I.cell x c e
    exact ⟨v,cellK x c e v z⟩
  · obtain ⟨m,⟨o,_,_,ho,_⟩,_⟩:=I.loc
    exact free _ o (fun z=>(hch _ z).2.1 rfl) ho I.free
  · obtain ⟨v,o,ho,hd⟩:=I.cell x c e
    exact free c o (fun z=>(hch c z).2.2.1 x c e rfl) ho (I.freeC x c e)
  · obtain ⟨e,n,ne,nf,d⟩:=I.pin p hp
    have nch:p.1 ∉ ch:=fun z=>(hch p.1 z).2.2.2 p hp rfl
    exact ⟨keep p.1 p.2 ne nf nch e n,free p.1 p.2 nch e n,ne,nf,d⟩
theorem Inv.un {t':Nat} (I:Inv X pins σ H s) (u:Un X.fs [] H H' s.heap h') (hok:HOk X.prog X.w H' h'):Inv X pins σ H' { s with heap:=h',toks:=t' }:=by
  obtain ⟨m,⟨o,es,ep,ho,r⟩,_⟩:=id I.loc
  obtain ⟨sl,hL⟩:=u.any ho I.free (by simp)
  exact I.step (g':=s.gens) (d':=s.drawn) (ch:=[]) (fun _ z=>nomatch z) (fun b o _ hb _ e n=>u.keep b o e n hb (by simp)) (fun b o _ hb _ e n=>u.slot b o e n hb (by simp)) (fun b o _ e n=>u.free b o e n (by simp)) (fun b o _ e=>u.there b o e (by simp)) u.tups u.frzs u.tbls (fun m' hm=>by
    obtain ⟨o',es',ep',ho',r'⟩:=hm
    rw [ho] at ho'; cases ho'
    exact ⟨_,es',ep',hL,r'⟩) hok I.bare
theorem Inv.call {g':Array GenState}{t':Nat}{d':Drawn}{ch:List Addr} (I:Inv X pins σ H s) (u:Un (frs X.stack) ch H H' s.heap h') (hok:HOk X.prog X.w H' h') (hg:AllBare g')
    (hch:∀ b∈ch,(b∈X.ex ∨ X.s₀.heap.objs.size ≤ b)∧b ≠ X.env.locals∧(∀ x c,X.env.cells.lookup x=some c→c ≠ b)∧∀ p∈X.pn++pins,p.1 ≠ b) :
    Inv X pins σ H' { s with heap:=h',gens:=g',drawn:=d',toks:=t' }:=by
  obtain ⟨m,⟨o,es,ep,ho,r⟩,_⟩:=id I.loc
  obtain ⟨sl,hL⟩:=u.any ho I.free fun z=>(hch _ z).2.1 rfl
  exact I.step (ch:=ch) hch (fun b o hL hb hc e n=>u.keep b o e n (fun z=>(List.mem_cons.mp (I.stkSub b z)).elim hL hb) hc) (fun b o _ _ hc e n=>u.any e n hc) (fun b o hc e n=>u.free b o e n hc) (fun b o hc e=>u.there b o e hc) u.tups u.frzs u.tbls (fun m' hm=>by
    obtain ⟨o',es',ep',ho',r'⟩:=hm
    rw [ho] at ho'; cases ho'
    exact ⟨_,es',ep',hL,r'⟩) hok hg
theorem Inv.turned {t':Nat}{it:Addr} (I:Inv X pins σ H s) (k:∀ b o,b ≠ it→s.heap.get? b=some o→h'.get? b=some o) (hn:H it=none) (hL:it ≠ X.env.locals)
    (h1:it∈X.ex ∨ X.s₀.heap.objs.size ≤ it) (h2:∀ x c,X.env.cells.lookup x=some c→c ≠ it) (h3:∀ p∈X.pn++pins,p.1 ≠ it):Inv X pins σ H { s with heap:=h',toks:=t' }:=by
  have nit:∀ b u,H b=some u→b ≠ it:=fun b u e z=>by rw [z,hn] at e; cases e
  refine I.step (g':=s.gens) (d':=s.drawn) (ch:=[it]) (fun b hb=>?_) (fun b o _ _ hc e _=>k b o (fun z=>hc (by simp [z])) e) (fun b o _ _ hc e _=>⟨o.slots,k b o (fun z=>hc (by simp [z])) e⟩) (fun _ _ _ _ n=>n)
    (fun b o hc e=>⟨o,k b o (fun z=>hc (by simp [z])) e⟩) (fun _ _ e=>e) (fun _ _ _ e=>e) (fun b ps e=>⟨#[],by rw [e]; simp⟩) (fun m hm=>?_) (fun b u e=>?_) I.bare
  · have e:b=it:=by simpa using hb
    subst e
    exact ⟨h1,hL,h2,h3⟩
  · obtain ⟨o,es,ep,ho,r⟩:=hm
    exact ⟨o,es,ep,k _ o (Ne.symm hL) ho,r⟩
  · refine (I.hok b u e).stay (fun c v hc q=>k c v ?_ q) (fun _ q=>q) fun _ _ q=>q
    rcases hc with z | z
    · rw [z]; exact nit b u e
    · exact nit c _ z
theorem Inv.tok (I:Inv X pins σ H s) (t:Nat):Inv X pins σ H { s with toks:=t }:=I.un (h':=s.heap) (t':=t) Un.refl I.hok
theorem Inv.kept {t':Nat} (I:Inv X pins σ H s) (k:∀ b u,s.heap.get? b=some u→h'.get? b=some u):Inv X pins σ H { s with heap:=h',toks:=t' }:=I.un (Un.kept k) (I.hok.kept k)
theorem Inv.laid {a:Addr}{o:HO}{t':Nat} (I:Inv X pins σ H s) (k:∀ b u,s.heap.get? b=some u→h'.get? b=some u) (hp:s.heap.objs.size ≤ a) (new:ObjOk X.prog X.w (upd H a o) h' a o) :
    Inv X pins σ (upd H a o) { s with heap:=h',toks:=t' }:=I.un (Un.laid k hp (I.hok.fresh hp)) (I.hok.laid k hp new)
theorem Inv.write {x e:Addr}{o:HO}{t':Nat} (I:Inv X pins σ H s) (mu:Mut (H x)) (he:e=x ∨ H e=some (.own x)) (k:∀ b u,b ≠ e→s.heap.get? b=some u→h'.get? b=some u) (heo:∃ u,h'.get? e=some u)
    (new:ObjOk X.prog X.w (upd H x o) h' x o):Inv X pins σ (upd H x o) { s with heap:=h',toks:=t' }:=I.un (Un.write mu he k heo) (I.hok.write mu he k heo new)
theorem Inv.pins_of {pins':List (Addr × Obj)} (I:Inv X pins σ H s) (h:∀ p∈pins',s.heap.get? p.1=some p.2∧H p.1=none∧p.1 ≠ X.env.locals∧p.1 ∉ X.fs∧∀ v,p.2.data ≠ .cell v):Inv X pins' σ H s :=
  ⟨I.ok,I.os,I.bare,I.base,I.loc,I.cell,I.free,I.freeC,fun p hp=>(List.mem_append.mp hp).elim (fun z=>I.pin p (List.mem_append_left _ z)) (h p),I.hok,I.len⟩
theorem nodup_ix {N:List Str} (hN:N.Nodup) {i j:Nat}{x:Str} (a:N[i]?=some x) (b:N[j]?=some x):i=j:=by
  obtain ⟨h1,e1⟩:=List.getElem?_eq_some_iff.mp a
  obtain ⟨h2,e2⟩:=List.getElem?_eq_some_iff.mp b
  exact (List.getElem_inj hN).mp (e1.trans e2.symm)
theorem store_ok2 {M:Model}{A:Around}{E:Value→Shared→Prop}{i:Nat}{x:Str}{v:V}{u:Value}{Q:Unit→Shared→Prop} (I:Inv X pins σ H s) (hN:X.N.Nodup) (hi:X.N[i]?=some x) (hx:Loc X.env.scope x) (r:RelV v u)
    (h:∀ s',Inv X pins (σ.set i (some v)) H s'→(∃ a,Heap.SameBut a s.heap s'.heap∧(a=X.env.locals ∨ X.env.cells.lookup x=some a))→Q () s') (hf:X.fn x=true ∨ X.env.scope.names.lookup x=some .local:=by first | exact .inl rfl | exact .inr rfl | assumption):wpAny M A (storeName X.env x u) Q E s:=by
  obtain ⟨m,hn,hl⟩:=id I.loc
  have hcls:(X.env.scope.kind == .class || (X.env.scope.kind == .module && X.env.locals != X.env.globals))=false:=by rw [I.ok.kind]; rfl
  have hiσ:i < σ.length:=by rw [I.len]; exact (List.getElem?_eq_some_iff.mp hi).1
  have cne:=I.cne
  have tracked:∀ {a:Addr}{h':Heap},(∃ o,s.heap.get? a=some o∧H a=none)→Heap.SameBut a s.heap h'→HOk X.prog X.w H h':=fun {a h'} ha hs b ob e=>by
    obtain ⟨_,_,hfree⟩:=ha
    refine (I.hok b ob e).stay (fun c w' hc q=>(hs.2 c ?_).trans q) (fun _ q=>q) fun _ _ q=>q
    rintro rfl
    rcases hc with rfl | hc
    · rw [hfree] at e; cases e
    · rw [hfree] at hc; cases hc
  rcases hx with hk | hk
  · refine wpAny_storeName_local hk hn (fun h' hn' hs=>?_) hcls
    obtain ⟨oL,_,_,hoL,_⟩:=id hn
    refine h _ ⟨I.ok,I.os,I.bare,⟨fun b o e n hb hx=>?_,fun b o e n hb hx=>?_,I.base.free,fun b o e hx=>?_,I.base.tups,I.base.frzs,I.base.tbls⟩,⟨_,hn',fun j y v' e1 e2 e3=>?_⟩,fun y c e=>?_,I.free,I.freeC,fun p hp=>?_,tracked ⟨oL,hoL,I.free⟩ hs,by simpa using I.len⟩ ⟨_,hs,.inl rfl⟩
    · exact (hs.2 b (Nat.ne_of_lt (Nat.lt_of_lt_of_le (Heap.lt_size e) I.ok.above))).trans (I.base.keep b o e n hb hx)
    · obtain ⟨sl,e1⟩:=I.base.slot b o e n hb hx
      exact ⟨sl,(hs.2 b (Nat.ne_of_lt (Nat.lt_of_lt_of_le (Heap.lt_size e) I.ok.above))).trans e1⟩
    · obtain ⟨o',e1⟩:=I.base.there b o e hx
      exact ⟨o',(hs.2 b (Nat.ne_of_lt (Nat.lt_of_lt_of_le (Heap.lt_size e) I.ok.above))).trans e1⟩
    · by_cases hj:j=i
      · subst hj
        rw [hi] at e1; cases e1
        rw [List.getElem?_set_self hiσ] at e2
        cases e2
        exact ⟨u,r,.inl ⟨hk,by simp⟩⟩
      · rw [List.getElem?_set_ne (Ne.symm hj)] at e2
        obtain ⟨u',r',q⟩:=hl j y v' e1 e2 e3
        refine ⟨u',r',?_⟩
        rcases q with ⟨k,e⟩ | ⟨k,c,e,z⟩
        · refine .inl ⟨k,?_⟩
          have:y ≠ x:=fun e=>hj (nodup_ix hN e1 (e ▸ hi))
          simp [this,e]
        · exact .inr ⟨k,c,e,z.sameBut hs (cne y c e)⟩
    · obtain ⟨w',z⟩:=I.cell y c e
      exact ⟨w',z.sameBut hs (cne y c e)⟩
    · obtain ⟨e,n,ne,nf,d⟩:=I.pin p hp
      exact ⟨(hs.2 p.1 ne).trans e,n,ne,nf,d⟩
  · have hfn:X.fn x=true:=by
      rcases hf with z | z
      · exact z
      · rw [z] at hk; cases hk
    obtain ⟨c,hc⟩:=I.ok.has x (.inl hk)
    obtain ⟨w',z⟩:=I.cell x c hc
    refine wpAny_storeName_cell I.ok.kind hk hc z (fun h' hc' hs=>?_)
    obtain ⟨oc,hoc,hocd⟩:=id z
    refine h { s with heap:=h' } ⟨I.ok,I.os,I.bare,⟨fun b o e n hb hx=>?_,fun b o e n hb hx=>?_,I.base.free,fun b o e hx=>?_,I.base.tups,I.base.frzs,I.base.tbls⟩,⟨m,hn.sameBut hs (Ne.symm (cne x c hc)),fun j y v' e1 e2 e3=>?_⟩,fun y c' e=>?_,I.free,I.freeC,fun p hp=>?_,tracked ⟨oc,hoc,I.freeC x c hc⟩ hs,by simpa using I.len⟩ ⟨c,hs,.inr hc⟩
    · exact (hs.2 b (Nat.ne_of_lt (Nat.lt_of_lt_of_le (Heap.lt_size e) (I.ok.cab x c hfn hc)))).trans (I.base.keep b o e n hb hx)
    · obtain ⟨sl,e1⟩:=I.base.slot b o e n hb hx
      exact ⟨sl,(hs.2 b (Nat.ne_of_lt (Nat.lt_of_lt_of_le (Heap.lt_size e) (I.ok.cab x c hfn hc)))).trans e1⟩
    · obtain ⟨o',e1⟩:=I.base.there b o e hx
      exact ⟨o',(hs.2 b (Nat.ne_of_lt (Nat.lt_of_lt_of_le (Heap.lt_size e) (I.ok.cab x c hfn hc)))).trans e1⟩
    · by_cases hj:j=i
      · subst hj
        rw [hi] at e1; cases e1
        rw [List.getElem?_set_self hiσ] at e2
        cases e2
        exact ⟨u,r,.inr ⟨.inl hk,c,hc,hc'⟩⟩
      · rw [List.getElem?_set_ne (Ne.symm hj)] at e2
        obtain ⟨u',r',q⟩:=hl j y v' e1 e2 e3
        refine ⟨u',r',?_⟩
        rcases q with q | ⟨k,c',e,z'⟩
        · exact .inl q
        · refine .inr ⟨k,c',e,z'.sameBut hs ?_⟩
          rintro rfl
          exact hj (nodup_ix hN e1 (I.ok.inj _ _ _ e hc ▸ hi))
    · by_cases hcc:c'=c
      · subst hcc; exact ⟨_,hc'⟩
      · obtain ⟨w2,z2⟩:=I.cell y c' e
        exact ⟨w2,z2.sameBut hs hcc⟩
    · obtain ⟨e,n,ne,nf,d⟩:=I.pin p hp
      refine ⟨(hs.2 p.1 ?_).trans e,n,ne,nf,d⟩
      intro q
      rw [q,hoc] at e
      have q':oc=p.2:=Option.some.inj e
      exact d w' (by rw [← q']; exact hocd)
theorem store_ok {M:Model}{A:Around}{E:Value→Shared→Prop}{i:Nat}{x:Str}{v:V}{u:Value}{Q:Unit→Shared→Prop} (I:Inv X pins σ H s) (hN:X.N.Nodup) (hi:X.N[i]?=some x) (hx:Loc X.env.scope x) (r:RelV v u)
    (h:∀ s',Inv X pins (σ.set i (some v)) H s'→Q () s') (hf:X.fn x=true ∨ X.env.scope.names.lookup x=some .local:=by first | exact .inl rfl | exact .inr rfl | assumption):wpAny M A (storeName X.env x u) Q E s :=
  store_ok2 I hN hi hx r (fun s' I' _=>h s' I') hf
theorem Inv.call' {s':Shared}{ch:List Addr} (I:Inv X pins σ H s) (ho:s'.os=s.os) (u:Un (frs X.stack) ch H H' s.heap s'.heap) (hok:HOk X.prog X.w H' s'.heap) (hg:AllBare s'.gens)
    (hch:∀ b∈ch,(b∈X.ex ∨ X.s₀.heap.objs.size ≤ b)∧b ≠ X.env.locals∧(∀ x c,X.env.cells.lookup x=some c→c ≠ b)∧∀ p∈X.pn++pins,p.1 ≠ b):Inv X pins σ H' s':=by
  obtain ⟨h',g',d',t',o'⟩:=s'
  have e:o'=s.os:=ho
  subst e
  exact I.call (g':=g') (t':=t') (d':=d') u hok hg hch
end
abbrev XK:=Value→Option Addr→Hp→Prop
abbrev St:=List (Option V)
abbrev VK:=V→Hp→Prop
abbrev TE:=St→Hp→VK→Prop
abbrev TT:=St→Hp→(Bool→Hp→Prop)→Prop
abbrev TA:=St→Hp→(List V→Hp→Prop)→Prop
structure Ends where
  nx:St→Hp→Prop
  rt:VK
  bk:St→Hp→Prop:=fun _ _=>False
  ct:St→Hp→Prop:=fun _ _=>False
abbrev TS:=Ends→St→Hp→Prop
def EP (X:Cx) (pins:List (Addr × Obj)) (σ:St) (Q:VK) (u:Value) (s':Shared):Prop:=∃ v H',Inv X pins σ H' s'∧RelV v u∧Q v H'
def TP (X:Cx) (pins:List (Addr × Obj)) (σ:St) (Q:Bool→Hp→Prop) (b:Bool) (s':Shared):Prop:=∃ H',Inv X pins σ H' s'∧Q b H'
def AP (X:Cx) (pins:List (Addr × Obj)) (σ:St) (Q:List V→Hp→Prop) (us:List Value) (s':Shared):Prop:=∃ vs H',Inv X pins σ H' s'∧Vals vs us∧Q vs H'
def SP (X:Cx) (pins:List (Addr × Obj)) (D:Ends) (f:Flow) (s':Shared):Prop :=
  match f with
  | .next=>∃ σ' H',Inv X pins σ' H' s'∧D.nx σ' H'
  | .brk=>∃ σ' H',Inv X pins σ' H' s'∧D.bk σ' H'
  | .cont=>∃ σ' H',Inv X pins σ' H' s'∧D.ct σ' H'
  | .ret u=>∃ v σ' H',Inv X pins σ' H' s'∧RelV v u∧D.rt v H'
def PE (X:Cx) (e:Expr) (t:TE):Prop :=
  ∀ (pins:List (Addr × Obj)) (s:Shared) (σ:St) (H:Hp) (Q:VK),Inv X pins σ H s→t σ H Q→wpAny (model X.prog X.w) X.A (eval e X.env) (EP X pins σ Q) X.xe s
def PT (X:Cx) (e:Expr) (t:TT):Prop :=
  ∀ (pins:List (Addr × Obj)) (s:Shared) (σ:St) (H:Hp) (Q:Bool→Hp→Prop),Inv X pins σ H s→t σ H Q→wpAny (model X.prog X.w) X.A (isTrue e X.env (eval e X.env)) (TP X pins σ Q) X.xe s
def PW (X:Cx) (e:Expr) (t:TT):Prop :=
  ∀ (whole:Sem Value) (pins:List (Addr × Obj)) (s:Shared) (σ:St) (H:Hp) (Q:Bool→Hp→Prop),Inv X pins σ H s→t σ H Q→wpAny (model X.prog X.w) X.A (isTrue e X.env whole) (TP X pins σ Q) X.xe s
theorem PW.pt {X:Cx}{e:Expr}{t:TT} (h:PW X e t):PT X e t:=h _
def PA (X:Cx) (es:List Expr) (t:TA):Prop :=
  ∀ (pos:Pos) (pins:List (Addr × Obj)) (s:Shared) (σ:St) (H:Hp) (Q:List V→Hp→Prop),Inv X pins σ H s→t σ H Q→wpAny (model X.prog X.w) X.A (spliced (backTo pos (starEach es X.env))) (AP X pins σ Q) X.xe s
def PS (X:Cx) (st:Stmt) (t:TS):Prop :=
  ∀ (pins:List (Addr × Obj)) (s:Shared) (σ:St) (H:Hp) (D:Ends),Inv X pins σ H s→t D σ H→wpAny (model X.prog X.w) X.A (exec st X.env) (SP X pins D) X.xe s
def PSs (X:Cx) (st:List Stmt) (t:TS):Prop :=
  ∀ (pins:List (Addr × Obj)) (s:Shared) (σ:St) (H:Hp) (D:Ends),Inv X pins σ H s→t D σ H→wpAny (model X.prog X.w) X.A (execs st X.env) (SP X pins D) X.xe s
theorem thn {α:Type}{t:Sem α}{Q Q':α→Shared→Prop}{M:Model}{A:Around}{E:Value→Shared→Prop}{s:Shared} (h:wpAny M A t Q E s) (hQ:∀ a s,Q a s→Q' a s):wpAny M A t Q' E s:=wpAny_mono h hQ fun _ _ x=>x
end L2
namespace L2
open PySem PySem.Spec PyProof.Rows
section
variable {X:Cx}
def tVar (i:Nat):TE:=fun σ H Q=>∃ v,σ[i]?=some (some v)∧Q v H
def tC (v:V):TE:=fun _ H Q=>Q v H
theorem pe_var {i:Nat}{x:Str}{pos:Pos} (hN:X.N[i]?=some x) (hv:Vis X.env.scope x) (hd:(x == ("__debug__":Str))=false:=by decide) (hcd:(x == ("__classdict__":Str))=false:=by decide):PE X (.Name x pos) (tVar i):=by
  intro pins s σ H Q I h
  obtain ⟨v,e,h⟩:=h
  obtain ⟨m,hn,hl⟩:=I.loc
  obtain ⟨u,r,l⟩:=hl i x v hN e hv
  have fin:EP X pins σ Q u s:=⟨v,H,I,r,h⟩
  rcases l with ⟨hk,hm⟩ | ⟨hk,c,hc,hcell⟩
  · exact wpAny_Name (wpAny_loadName_local I.ok.kind hk hn hm fin) hd
  · rcases hk with hk | hk
    · exact wpAny_Name (wpAny_loadName_cell I.ok.kind hk hc hcell fin) hd
    · exact wpAny_Name (wpAny_loadName_free I.ok.kind hk hc hcell fin hcd) hd
theorem pe_int {i j pos}:PE X (.Constant (.int i) j pos) (tC (.int i)):=fun _ _ _ H _ I h=>wpAny_Constant_int ⟨.int i,H,I.tok _,⟨_,rfl⟩,h⟩
theorem pe_bl {b j pos}:PE X (.Constant (.bool b) j pos) (tC (.bl b)):=fun _ _ _ H _ I h=>Constant_bool ⟨.bl b,H,I,rfl,h⟩
theorem pe_non {j pos}:PE X (.Constant .none j pos) (tC .non):=fun _ _ _ H _ I h=>Constant_none ⟨.non,H,I,rfl,h⟩
theorem pe_str {x j pos}:PE X (.Constant (.str x) j pos) (tC (.str x)):=fun _ _ _ H _ I h=>Calls.Constant_str ⟨.str x,H,I.tok _,⟨_,rfl⟩,h⟩
def Gl (X:Cx) (x:Str):Prop:=X.env.kindOf x=some .globalImplicit
theorem ld_glob {E:Value→Shared→Prop}{pins:List (Addr × Obj)}{s:Shared}{σ:St}{H:Hp}{x:Str}{u:Value}{pos:Pos}{Q:Value→Shared→Prop} (I:Inv X pins σ H s) (hg:Gl X x) (hm:X.mg x=some u) (h:Q u s)
    (hd:(x == ("__debug__":Str))=false:=by decide):wpAny (model X.prog X.w) X.A (eval (.Name x pos) X.env) Q E s :=
  Calls.Name_function_global I.ok.kind hg (Calls.loadGlobal_global (by rw [I.ok.glob]; exact I.mod.glob.keeps I.bk) hm h) hd
theorem ld_blt {E:Value→Shared→Prop}{pins:List (Addr × Obj)}{s:Shared}{σ:St}{H:Hp}{x:Str}{u:Value}{pos:Pos}{Q:Value→Shared→Prop} (I:Inv X pins σ H s) (hg:Gl X x) (hm:X.mg x=none) (hv:bootBuiltins x=some u) (h:Q u s)
    (hn:x ≠ "__name__":=by decide) (hd:(x == ("__debug__":Str))=false:=by decide):wpAny (model X.prog X.w) X.A (eval (.Name x pos) X.env) Q E s:=by
  obtain ⟨mb,h1,h2⟩:=I.mod.blt
  exact Calls.Name_function_global I.ok.kind hg (Calls.loadGlobal_builtin (by rw [I.ok.glob]; exact I.mod.glob.keeps I.bk) hm (by rw [I.ok.blt]; exact h1.keeps I.bk) ((h2 x hn).trans hv) h) hd
theorem pe_bltn {x:Str}{v:V}{u:Value}{pos:Pos} (hg:Gl X x) (hm:X.mg x=none) (hv:bootBuiltins x=some u) (r:RelV v u) (hn:x ≠ "__name__":=by decide) (hd:(x == ("__debug__":Str))=false:=by decide):PE X (.Name x pos) (tC v) :=
  fun _ _ _ H _ I h=>ld_blt I hg hm hv ⟨v,H,I,r,h⟩ hn hd
variable {a b:Expr}{ta tb:TE}{pos:Pos}
variable {tA tB':TT}{rest:List Expr}
def tAnd (t u:TT):TT:=fun σ H Q=>t σ H fun c H1=>if c=true then u σ H1 Q else Q false H1
def tOr (t u:TT):TT:=fun σ H Q=>t σ H fun c H1=>if c=true then Q true H1 else u σ H1 Q
def tNot (t:TT):TT:=fun σ H Q=>t σ H fun c H1=>Q (!c) H1
theorem pw_and1 (ha:PT X a tA):PW X (.BoolOp .And [a] pos) tA:=by
  intro wh pins s σ H Q I h
  refine isTrue_and (thn (ha pins s σ H Q I h) fun c s1 e=>?_)
  cases c with
  | true=>exact isTrue_and_nil e
  | false=>exact e
theorem pw_or1 (ha:PT X a tA):PW X (.BoolOp .Or [a] pos) tA:=by
  intro wh pins s σ H Q I h
  refine isTrue_or (thn (ha pins s σ H Q I h) fun c s1 e=>?_)
  cases c with
  | false=>exact isTrue_or_nil e
  | true=>exact e
theorem pw_and (ha:PT X a tA) (hb:PW X (.BoolOp .And (b :: rest) pos) tB'):PW X (.BoolOp .And (a :: b :: rest) pos) (tAnd tA tB'):=by
  intro wh pins s σ H Q I h
  refine isTrue_and (thn (ha pins s σ H _ I h) fun c s1 ⟨H1,I1,q1⟩=>?_)
  cases c with
  | true=>exact hb wh pins s1 σ H1 Q I1 q1
  | false=>exact ⟨H1,I1,q1⟩
theorem pw_or (ha:PT X a tA) (hb:PW X (.BoolOp .Or (b :: rest) pos) tB'):PW X (.BoolOp .Or (a :: b :: rest) pos) (tOr tA tB'):=by
  intro wh pins s σ H Q I h
  refine isTrue_or (thn (ha pins s σ H _ I h) fun c s1 ⟨H1,I1,q1⟩=>?_)
  cases c with
  | true=>exact ⟨H1,I1,q1⟩
  | false=>exact hb wh pins s1 σ H1 Q I1 q1
theorem pt_not (ha:PT X a tA):PT X (.UnaryOp .Not a pos) (tNot tA):=by
  intro pins s σ H Q I h
  exact isTrue_not (ha pins s σ H (fun c H1=>Q (!c) H1) I h)
def tAndV (ta tb:TE):TE:=fun σ H Q=>ta σ H fun x H1=>∃ c,x=.bl c∧if c=true then tb σ H1 Q else Q (.bl false) H1
theorem pe_one {op}{t:TE} (h:PE X a t):PE X (.BoolOp op [a] pos) t:=fun pins s σ H Q I hw=>BoolOp_one (h pins s σ H Q I hw)
theorem pe_and (ha:PE X a ta) (hb:PE X (.BoolOp .And (b :: rest) pos) tb):PE X (.BoolOp .And (a :: b :: rest) pos) (tAndV ta tb):=by
  intro pins s σ H Q I h
  refine BoolOp_and (thn (ha pins s σ H _ I h) fun v s1 ⟨x,H1,I1,r1,q1⟩=>?_)
  obtain ⟨c,rfl,q1⟩:=q1
  cases r1
  refine wpAny_truthy_bool ?_
  cases c with
  | true=>exact hb pins s1 σ H1 Q I1 q1
  | false=>exact ⟨.bl false,H1,I1,rfl,q1⟩
end
end L2
namespace L2
open PySem PySem.Spec PyProof.Rows
def SqL (K:W.Frag) (H:Hp) (a:Addr) (xs:List V):Prop :=
  Rd H a (.lst xs) ∨
    ∃ (o:Obj) (its:Array Value) (n:Nat),K.lookup a=some o∧o.cls=.type "list"∧o.dict=none∧o.data=.seq its n∧its.size ≤ sizeLine∧Vals xs its.toList
def SqT (K:W.Frag) (H:Hp) (a:Addr) (xs:List V):Prop :=
  Rd H a (.tup xs) ∨
    ∃ (o:Obj) (its:Array Value) (n:Nat),K.lookup a=some o∧o.cls=.type "tuple"∧o.data=.seq its n∧its.size ≤ sizeLine∧Vals xs its.toList
def absV:Value→Option V
  | .none=>some .non
  | .bool b=>some (.bl b)
  | .int i _=>some (.int i)
  | .str x _=>some (.str x)
  | .bytes b _=>some (.byt b)
  | .float b _=>some (.flt b)
  | .ref a=>some (.ref a)
  | .type n=>some (.ty n)
  | _=>none
theorem RelV.abs {x:V}{u:Value} (r:RelV x u):absV u=some x:=by
  cases x with
  | non=>cases r; rfl
  | bl _=>cases r; rfl
  | int _=>obtain ⟨t,rfl⟩:=r; rfl
  | str _=>obtain ⟨t,rfl⟩:=r; rfl
  | byt _=>obtain ⟨t,rfl⟩:=r; rfl
  | flt _=>obtain ⟨t,rfl⟩:=r; rfl
  | ref _=>cases r; rfl
  | ty _=>cases r; rfl
theorem RelV.inj {x y:V}{u:Value} (r:RelV x u) (q:RelV y u):x=y:=Option.some.inj (r.abs.symm.trans q.abs)
theorem Vals.inj:∀ {xs ys:List V}{us:List Value},Vals xs us→Vals ys us→xs=ys
  | _,_,_,.nil,.nil=>rfl
  | _,_,_,.cons r t,.cons r' t'=>by rw [r.inj r',Vals.inj t t']
section
variable {X:Cx}{pins:List (Addr × Obj)}{σ:St}{H:Hp}{s:Shared}{a:Addr}{xs ys:List V}
theorem SqL.of {K:W.Frag} (h:H a=some (.lst xs)):SqL K H a xs:=.inl (.inl h)
theorem SqT.of {K:W.Frag} (h:H a=some (.tup xs)):SqT K H a xs:=.inl (.inl h)
theorem Inv.list (I:Inv X pins σ H s) (h:SqL X.K H a xs):∃ its:List Value,Vals xs its∧PlainL s.heap a its.toArray∧xs.length ≤ sizeLine:=by
  rcases h with h | ⟨o,its,n,hk,hc,hd,hs,hz,r⟩
  · obtain ⟨z,its,n,r,e⟩:=h.ok I.hok
    exact ⟨its,r,⟨_,n,e,rfl,rfl,rfl⟩,z⟩
  · refine ⟨its.toList,r,⟨o,n,I.kIn a o hk,hc,hd,by simpa using hs⟩,?_⟩
    have e:=r.length
    simp only [Array.length_toList] at e
    omega
theorem Inv.tuple (I:Inv X pins σ H s) (h:SqT X.K H a xs):∃ its:List Value,Vals xs its∧IsTup s.heap a its.toArray∧xs.length ≤ sizeLine:=by
  rcases h with h | ⟨o,its,n,hk,hc,hs,hz,r⟩
  · obtain ⟨z,its,r,p⟩:=h.ok I.hok
    exact ⟨its,r,p,z⟩
  · refine ⟨its.toList,r,⟨o,I.kIn a o hk,hc,n,by simpa using hs⟩,?_⟩
    have e:=r.length
    simp only [Array.length_toList] at e
    omega
theorem Inv.list_inj (I:Inv X pins σ H s) (h:SqL X.K H a xs) (h':SqL X.K H a ys):xs=ys:=by
  obtain ⟨its,r,⟨o,n,e,_,_,d⟩,_⟩:=I.list h
  obtain ⟨its',r',⟨o',n',e',_,_,d'⟩,_⟩:=I.list h'
  rw [e] at e'; cases e'
  rw [d] at d'
  injection d' with d1 _
  have:its=its':=by simpa using congrArg Array.toList d1
  subst this
  exact r.inj r'
theorem Inv.tuple_inj (I:Inv X pins σ H s) (h:SqT X.K H a xs) (h':SqT X.K H a ys):xs=ys:=by
  obtain ⟨its,r,⟨o,e,_,n,d⟩,_⟩:=I.tuple h
  obtain ⟨its',r',⟨o',e',_,n',d'⟩,_⟩:=I.tuple h'
  rw [e] at e'; cases e'
  rw [d] at d'
  injection d' with d1 _
  have:its=its':=by simpa using congrArg Array.toList d1
  subst this
  exact r.inj r'
end
abbrev Cx.wish (X:Cx) (E:Value→Shared→Prop):Cx:={ X with xe:=E }
abbrev Cx.nox (X:Cx):Cx:=X.wish fun _ _=>False
theorem Cx.Ok.wish {X:Cx} (ok:X.Ok) (E:Value→Shared→Prop):(X.wish E).Ok :=
  ⟨ok.mod,ok.kind,ok.glob,ok.blt,ok.above,ok.inj,ok.has,ok.cab,ok.hd,ok.frames,ok.stk,ok.exf,ok.bs,ok.bsz,ok.noex,ok.exfs,ok.funs,ok.frf⟩
theorem Cx.Ok.unwish {X:Cx}{E:Value→Shared→Prop} (ok:(X.wish E).Ok):X.Ok :=
  ⟨ok.mod,ok.kind,ok.glob,ok.blt,ok.above,ok.inj,ok.has,ok.cab,ok.hd,ok.frames,ok.stk,ok.exf,ok.bs,ok.bsz,ok.noex,ok.exfs,ok.funs,ok.frf⟩
section
variable {X:Cx}{pins:List (Addr × Obj)}{σ:St}{H:Hp}{s:Shared}{E:Value→Shared→Prop}
theorem Inv.wish (I:Inv X pins σ H s) (E:Value→Shared→Prop):Inv (X.wish E) pins σ H s:=⟨I.ok.wish E,I.os,I.bare,I.base,I.loc,I.cell,I.free,I.freeC,I.pin,I.hok,I.len⟩
theorem Inv.unwish (I:Inv (X.wish E) pins σ H s):Inv X pins σ H s:=⟨I.ok.unwish,I.os,I.bare,I.base,I.loc,I.cell,I.free,I.freeC,I.pin,I.hok,I.len⟩
theorem SP.unwish {D:Ends}{f:Flow}{s':Shared} (h:SP (X.wish E) pins D f s'):SP X pins D f s':=by
  cases f with
  | next=>obtain ⟨σ',H',I,q⟩:=h; exact ⟨σ',H',I.unwish,q⟩
  | brk=>obtain ⟨σ',H',I,q⟩:=h; exact ⟨σ',H',I.unwish,q⟩
  | cont=>obtain ⟨σ',H',I,q⟩:=h; exact ⟨σ',H',I.unwish,q⟩
  | ret u=>obtain ⟨v,σ',H',I,r,q⟩:=h; exact ⟨v,σ',H',I.unwish,r,q⟩
theorem PSs.nox {st:List Stmt}{t:TS} (h:PSs X.nox st t):PSs X st t:=fun pins s σ H D I hw =>
  wpAny_mono (h pins s σ H D (I.wish _) hw) (fun _ _ q=>q.unwish) fun _ _ z=>False.elim z
end
section
variable {X:Cx}{st:Stmt}{rest:List Stmt}{t u:TS}{e:Expr}{te:TE}{pos:Pos}
def tNext:TS:=fun D σ H=>D.nx σ H
def tSeq (t u:TS):TS:=fun D σ H=>t { D with nx:=u D } σ H
theorem pss_nil:PSs X [] tNext:=fun _ _ σ H _ I h=>wpAny_execs_nil ⟨σ,H,I,h⟩
theorem pss_cons (h1:PS X st t) (h2:PSs X rest u):PSs X (st :: rest) (tSeq t u):=by
  intro pins s σ H D I h
  refine wpAny_execs_cons (thn (h1 pins s σ H { D with nx:=u D } I h) fun f s1 q=>?_)
  cases f with
  | next =>
    obtain ⟨σ',H',I',q⟩:=q
    exact h2 pins s1 σ' H' D I' q
  | ret v=>exact q
  | brk=>exact q
  | cont=>exact q
theorem pss_one (h1:PS X st t):PSs X [st] t:=by
  intro pins s σ H D I h
  refine wpAny_execs_cons (thn (h1 pins s σ H D I h) fun f s1 q=>?_)
  cases f with
  | next=>exact wpAny_execs_nil q
  | ret v=>exact q
  | brk=>exact q
  | cont=>exact q
def tBreak:TS:=fun D σ H=>D.bk σ H
theorem ps_break:PS X (.Break pos) tBreak:=fun _ _ σ H _ I h=>wpAny_Break ⟨σ,H,I,h⟩
theorem Inv.quiet {pins:List (Addr × Obj)}{σ:St}{H:Hp}{s:Shared} (I:Inv X pins σ H s):interactive X.env=false:=by simp [interactive,I.ok.kind]
def tDrop (te:TE):TS:=fun D σ H=>te σ H fun _ H1=>D.nx σ H1
theorem ps_expr (he:PE X e te) (hs:swapsWith e none pos.line X.env=pure false:=by rfl):PS X (.Expr e pos) (tDrop te):=by
  intro pins s σ H D I h
  exact wpAny_Expr_any (thn (he pins s σ H _ I h) fun v s1 ⟨x,H1,I1,r1,q1⟩=>⟨σ,H1,I1,q1⟩) I.quiet hs
def tRet (te:TE):TS:=fun D σ H=>te σ H D.rt
theorem ps_ret (he:PE X e te):PS X (.Return (some e) pos) (tRet te):=by
  intro pins s σ H D I h
  exact wpAny_Return_some (thn (he pins s σ H _ I h) fun v s1 ⟨x,H1,I1,r1,q1⟩=>⟨x,σ,H1,I1,r1,q1⟩)
def tIfS (c:TT) (t u:TS):TS:=fun D σ H=>c σ H fun b H1=>if b=true then t D σ H1 else u D σ H1
theorem ps_if {c:Expr}{a b:List Stmt}{tc:TT} (hc:PT X c tc) (ha:PSs X a t) (hb:PSs X b u):PS X (.If c a b pos) (tIfS tc t u):=by
  intro pins s σ H D I h
  refine wpAny_If (thn (hc pins s σ H _ I h) fun d s1 ⟨H1,I1,q1⟩=>?_)
  cases d with
  | true=>exact ha pins s1 σ H1 D I1 q1
  | false=>exact hb pins s1 σ H1 D I1 q1
def tNever:TS:=fun _ _ _=>False
theorem ps_never:PS X st tNever:=fun _ _ _ _ _ _ h=>h.elim
theorem pss_never {sts:List Stmt}:PSs X sts tNever:=fun _ _ _ _ _ _ h=>h.elim
end
abbrev TG:=V→St→Hp→(St→Hp→Prop)→Prop
abbrev TGs:=List V→St→Hp→(St→Hp→Prop)→Prop
def PG (X:Cx) (target:Expr) (t:TG):Prop :=
  ∀ (pins:List (Addr × Obj)) (s:Shared) (σ:St) (H:Hp) (v:V) (u:Value) (Q:St→Hp→Prop),Inv X pins σ H s→RelV v u→t v σ H Q →
    wpAny (model X.prog X.w) X.A (assign target X.env u) (fun _ s'=>∃ σ' H',Inv X pins σ' H' s'∧Q σ' H') X.xe s
def PGs (X:Cx) (ts:List Expr) (t:TGs):Prop :=
  ∀ (pins:List (Addr × Obj)) (s:Shared) (σ:St) (H:Hp) (vs:List V) (us:List Value) (Q:St→Hp→Prop),Inv X pins σ H s→Vals vs us→t vs σ H Q →
    wpAny (model X.prog X.w) X.A (assignInOrder ((assignEach ts X.env).map (·.2)) us) (fun _ s'=>∃ σ' H',Inv X pins σ' H' s'∧Q σ' H') X.xe s
abbrev TSet:=V→V→V→Hp→(Hp→Prop)→Prop
def PSet (X:Cx) (t:TSet):Prop :=
  ∀ (pins:List (Addr × Obj)) (s:Shared) (σ:St) (H:Hp) (o i v:V) (ov iv u:Value) (Q:Hp→Prop),Inv X pins σ H s→RelV o ov→RelV i iv→RelV v u→t o i v H Q →
    wpAny (model X.prog X.w) X.A (setItem ov iv u) (fun _ s'=>∃ H',Inv X pins σ H' s'∧Q H') X.xe s
abbrev TIp:=V→V→Hp→VK→Prop
def PIp (X:Cx) (op:Operator) (t:TIp):Prop :=
  ∀ (pins:List (Addr × Obj)) (s:Shared) (σ:St) (H:Hp) (x y:V) (v u:Value) (Q:VK),Inv X pins σ H s→RelV x v→RelV y u→t x y H Q →
    wpAny (model X.prog X.w) X.A (inplaceOp op v u) (EP X pins σ Q) X.xe s
section
variable {X:Cx}{pos:Pos}
def gName (i:Nat):TG:=fun v σ H Q=>Q (σ.set i (some v)) H
theorem pg_name {i:Nat}{x:Str} (hN:X.N.Nodup) (hi:X.N[i]?=some x) (hx:Loc X.env.scope x) (hf:X.fn x=true ∨ X.env.scope.names.lookup x=some .local:=by first | exact .inl rfl | exact .inr rfl | assumption):PG X (.Name x pos) (gName i):=by
  intro pins s σ H v u Q I r h
  exact wpAny_assign_Name (store_ok I hN hi hx r (fun s' I'=>⟨_,H,I',h⟩) hf)
def gNil:TGs:=fun vs σ H Q=>vs=[]∧Q σ H
def gCons (t:TG) (u:TGs):TGs:=fun vs σ H Q=>∃ v r,vs=v :: r∧t v σ H fun σ' H'=>u r σ' H' Q
theorem pgs_nil:PGs X [] gNil:=by
  intro pins s σ H vs us Q I r h
  obtain ⟨e,h⟩:=h
  subst e
  cases r
  exact assignInOrder_nil ⟨σ,H,I,h⟩
theorem pgs_cons {e:Expr}{es:List Expr}{t:TG}{u:TGs} (h1:PG X e t) (h2:PGs X es u)
    (hs:(assignEach (e :: es) X.env).map (·.2)=assign e X.env :: (assignEach es X.env).map (·.2):=by rfl):PGs X (e :: es) (gCons t u):=by
  intro pins s σ H vs us Q I r h
  obtain ⟨v,vr,e1,h⟩:=h
  subst e1
  cases r with
  | cons r rr =>
    rw [hs]
    refine assignInOrder_cons (thn (h1 pins s σ H _ _ _ I r h) fun _ s1 ⟨σ1,H1,I1,q1⟩=>?_)
    exact h2 pins s1 σ1 H1 _ _ Q I1 rr q1
def gTup (K:W.Frag) (n:Nat) (t:TGs):TG:=fun v σ H Q=>∃ a xs,v=.ref a∧SqT K H a xs∧xs.length=n∧t xs σ H Q
theorem pg_tup {es:List Expr}{k:Nat}{t:TGs}{n:Nat} (hc:X.calm=true) (h:PGs X es t)
    (hn:(assignEach es X.env).length=n:=by rfl) (hst:(assignEach es X.env).findIdx? (·.1)=none:=by rfl):PG X (.Tuple es k pos) (gTup X.K n t):=by
  intro pins s σ H v u Q I r hw
  obtain ⟨a,xs,e1,hq,hl,hw⟩:=hw
  subst e1
  cases r
  obtain ⟨its,rv,ht,hz⟩:=I.tuple hq
  refine assign_Tuple_tuple (I.ok.hd hc) ht (by simp [hn,← hl,rv.length]) hst fun h' hx=>?_
  have I1:Inv X pins σ H { s with heap:=h' }:=I.kept (t':=s.toks) fun b o e=>hx b o (Nat.ne_of_lt (Heap.lt_size e)) e
  exact h pins _ σ H xs _ Q I1 (by simpa using rv) hw
def gSub (to ti:TE) (t:TSet):TG:=fun v σ H Q=>to σ H fun o H1=>ti σ H1 fun i H2=>t o i v H2 fun H3=>Q σ H3
theorem pg_sub {o i:Expr}{to ti:TE}{t:TSet} (ho:PE X o to) (hi:PE X i ti) (hs:PSet X t)
    (ha:∀ v,assign (.Subscript o i pos) X.env v=(do
      let ov ← holding [v] (eval o X.env)
      let iv ← holding [v,ov] (eval i X.env)
      standAt pos
      holding [v,ov,iv] (setItem ov iv v)
      release [v,ov,iv] []):=by intro _; rfl):PG X (.Subscript o i pos) (gSub to ti t):=by
  intro pins s σ H v u Q I r h
  rw [ha]
  refine wpAny_bind (wpAny_holding (thn (ho pins s σ H _ I h) fun ov s1 ⟨x,H1,I1,r1,q1⟩=>?_))
  refine wpAny_bind (wpAny_holding (thn (hi pins s1 σ H1 _ I1 q1) fun iv s2 ⟨y,H2,I2,r2,q2⟩=>?_))
  refine wpAny_bind (wpAny_standAt (wpAny_bind (wpAny_holding (thn (hs pins s2 σ H2 x y v ov iv u _ I2 r1 r2 r q2) fun _ s3 ⟨H3,I3,q3⟩=>?_))))
  exact wpAny_release ⟨σ,H3,I3,q3⟩
def tAsg (te:TE) (g:TG):TS:=fun D σ H=>te σ H fun x H1=>g x σ H1 D.nx
theorem ps_asg {tg e:Expr}{te:TE}{g:TG} (he:PE X e te) (hg:PG X tg g) (hs:swapsWithSole [tg] e pos.line X.env=pure false:=by rfl) (hw:swappedStores [tg] e X.env=pure none:=by rfl)
    (h1:(assignEach [tg] X.env).map (·.2)=[assign tg X.env]:=by rfl):PS X (.Assign [tg] e pos) (tAsg te g):=by
  intro pins s σ H D I h
  refine wpAny_Assign_stores (thn (he pins s σ H _ I h) fun v s1 ⟨x,H1,I1,r1,q1⟩=>?_) hs hw
  rw [h1]
  exact thn (hg pins s1 σ H1 x v _ I1 r1 q1) fun _ s2 q=>q
theorem ps_set {i:Nat}{x:Str}{e:Expr}{te:TE}{pos':Pos} (hN:X.N.Nodup) (hi:X.N[i]?=some x) (hx:Loc X.env.scope x) (he:PE X e te) (hs:swapsWith e (some (.Name x pos')) pos.line X.env=pure false:=by rfl) (hf:X.fn x=true ∨ X.env.scope.names.lookup x=some .local:=by first | exact .inl rfl | exact .inr rfl | assumption) :
    PS X (.Assign [.Name x pos'] e pos) (tAsg te (gName i)):=by
  intro pins s σ H D I h
  refine wpAny_Assign_Name (thn (he pins s σ H _ I h) fun v s1 ⟨y,H1,I1,r1,q1⟩=>?_) hs
  exact store_ok I1 hN hi hx r1 (fun s2 I2=>⟨_,H1,I2,q1⟩) hf
def tAug (i:Nat) (te:TE) (ti:TIp):TS:=fun D σ H=>∃ x,σ[i]?=some (some x)∧te σ H fun y H1=>ti x y H1 fun z H2=>D.nx (σ.set i (some z)) H2
theorem ps_aug {i:Nat}{x:Str}{e:Expr}{te:TE}{op:Operator}{ti:TIp}{pos':Pos} (hN:X.N.Nodup) (hi:X.N[i]?=some x) (hx:Loc X.env.scope x) (he:PE X e te) (ho:PIp X op ti) (hf:X.fn x=true ∨ X.env.scope.names.lookup x=some .local:=by first | exact .inl rfl | exact .inr rfl | assumption) :
    PS X (.AugAssign (.Name x pos') op e pos) (tAug i te ti):=by
  intro pins s σ H D I h
  obtain ⟨v,e1,h⟩:=h
  obtain ⟨m,hn,hl⟩:=I.loc
  have vis:Vis X.env.scope x:=by rcases hx with k | k; exact .inl k; exact .inr (.inl k)
  obtain ⟨u,r,l⟩:=hl i x v hi e1 vis
  refine wpAny_AugAssign_Name ?_
  have go:wpAny (model X.prog X.w) X.A (eval e X.env) (fun w s₂=>wpAny (model X.prog X.w) X.A (inplaceOp op u w) (fun r s₃=>wpAny (model X.prog X.w) X.A (storeName X.env x r) (fun _=>SP X pins D .next) X.xe s₃) X.xe s₂) X.xe s:=by
    refine thn (he pins s σ H _ I h) fun w s1 ⟨y,H1,I1,r1,q1⟩=>?_
    refine thn (ho pins s1 σ H1 v y u w _ I1 r r1 q1) fun z s2 ⟨zv,H2,I2,r2,q2⟩=>?_
    exact store_ok I2 hN hi hx r2 (fun s3 I3=>⟨_,H2,I3,q2⟩) hf
  rcases l with ⟨hk,hm⟩ | ⟨hk,c,hc,hcell⟩
  · exact wpAny_loadName_local I.ok.kind hk hn hm go
  · rcases hk with hk | hk
    · exact wpAny_loadName_cell I.ok.kind hk hc hcell go
    · rcases hx with k | k
      · have:X.env.scope.names.lookup x=some .free:=hk
        rw [k] at this; cases this
      · have:X.env.scope.names.lookup x=some .free:=hk
        rw [k] at this; cases this
def ipI (f:Int→Int→Int):TIp:=fun x y H Q=>∃ i j,x=.int i∧y=.int j∧Q (.int (f i j)) H
theorem ip_add:PIp X .Add (ipI fun i j=>i + j):=by
  intro pins s σ H x y v u Q I r1 r2 h
  obtain ⟨i,j,e1,e2,q⟩:=h
  subst e1; subst e2
  obtain ⟨t,rfl⟩:=r1
  obtain ⟨t',rfl⟩:=r2
  exact iadd_int ⟨.int _,H,I.tok _,⟨_,rfl⟩,q⟩
theorem ip_sub:PIp X .Sub (ipI fun i j=>i - j):=by
  intro pins s σ H x y v u Q I r1 r2 h
  obtain ⟨i,j,e1,e2,q⟩:=h
  subst e1; subst e2
  obtain ⟨t,rfl⟩:=r1
  obtain ⟨t',rfl⟩:=r2
  exact isub_int ⟨.int _,H,I.tok _,⟨_,rfl⟩,q⟩
end
section
variable {X:Cx}{pos:Pos}
def tWhile (c:TT) (tb:TS):TS:=fun D σ H=>∃ W:Nat→St→Hp→Prop,(∃ m,W m σ H)∧∀ m σ H,W m σ H →
  c σ H fun b H1=>if b=true then ∃ N:St→Hp→Prop,(∀ σ' H',N σ' H'→∃ m',m' < m∧W m' σ' H')∧tb { D with nx:=N,ct:=N,bk:=D.nx } σ H1 else D.nx σ H1
theorem ps_while {c:Expr}{body:List Stmt}{tc:TT}{tb:TS} (hp:PassesOwn (model X.prog X.w) X.A X.env X.xe) (hc:PT X c tc) (hb:PSs X body tb):PS X (.While c body [] pos) (tWhile tc tb):=by
  intro pins s σ H D I h
  obtain ⟨W,⟨m0,w0⟩,turn⟩:=h
  refine wpAny_While (codeAny_whileLoop (fun n s'=>∃ σ' H',Inv X pins σ' H' s'∧W n σ' H') ?_ m0 ⟨σ,H,I,w0⟩)
  rintro n s1 ⟨σ1,H1,I1,w1⟩
  refine wpAny_passesOwn hp (thn (hc pins s1 σ1 H1 _ I1 (turn n σ1 H1 w1)) fun b s2 ⟨H2,I2,q2⟩=>?_)
  cases b with
  | true =>
    obtain ⟨N,hN,q2⟩:=q2
    rw [if_pos rfl]
    refine wpAny_passesOwn hp (thn (hb pins s2 σ1 H2 _ I2 q2) fun f s3 q3=>?_)
    cases f with
    | next =>
      obtain ⟨σ3,H3,I3,n3⟩:=q3
      obtain ⟨m',hm,w3⟩:=hN σ3 H3 n3
      exact ⟨m',hm,σ3,H3,I3,w3⟩
    | cont =>
      obtain ⟨σ3,H3,I3,n3⟩:=q3
      obtain ⟨m',hm,w3⟩:=hN σ3 H3 n3
      exact ⟨m',hm,σ3,H3,I3,w3⟩
    | brk=>exact q3
    | ret v=>exact q3
  | false =>
    rw [if_neg Bool.false_ne_true]
    exact wpAny_execs_nil ⟨σ1,H2,I2,q2⟩
end
structure It where
  go:Nat→Hp→Prop
  yld:Nat→Hp→V→Hp→Prop
  stop:Nat→Hp→Prop
def FpOk (X:Cx) (pins:List (Addr × Obj)) (H:Hp) (b:Addr):Prop :=
  H b=none∧b ≠ X.env.locals∧b ∉ X.fs∧(b∈X.ex ∨ X.s₀.heap.objs.size ≤ b)∧(∀ x c,X.env.cells.lookup x=some c→c ≠ b)∧∀ p∈X.pn++pins,p.1 ≠ b
theorem Inv.fpOk {X:Cx}{pins:List (Addr × Obj)}{σ:St}{H H':Hp}{s:Shared}{b:Addr} (I:Inv X pins σ H s) (hb:s.heap.objs.size ≤ b) (hn:H' b=none):FpOk X pins H' b:=by
  refine ⟨hn,Nat.ne_of_gt (Nat.lt_of_lt_of_le I.lt hb),I.nofs hb,.inr (Nat.le_trans I.sz hb),fun x c e z=>?_,fun p hp z=>?_⟩
  · obtain ⟨v,q⟩:=I.cell x c e
    exact absurd (Nat.lt_of_lt_of_le q.lt (by rw [z]; exact hb)) (Nat.lt_irrefl _)
  · exact absurd (Nat.lt_of_lt_of_le (Heap.lt_size (I.pin p hp).1) (by rw [z]; exact hb)) (Nat.lt_irrefl _)
structure Turn (P:Program) (w:World) (K:W.Frag) (tg:Expr) (J:It) (fp:List Addr) (it:Addr) (tn:Nat→Heap→Prop):Prop where
  mem:it∈fp
  obj:∀ i h,tn i h→∀ b∈fp,∃ o,h.get? b=some o∧∀ v,o.data ≠ .cell v
  keep:∀ i h h',tn i h→(∀ b∈fp,∀ o,h.get? b=some o→h'.get? b=some o)→tn i h'
  item:∀ (X:Cx),X.prog=P→X.w=w→X.K=K→X.calm=true→∀ (i:Nat) (pins:List (Addr × Obj)) (s:Shared) (σ:St) (H:Hp) (E:Value→Shared→Prop),Inv X pins σ H s→(∀ b∈fp,FpOk X pins H b)→tn i s.heap→J.go i H →
    wpAny (model P w) X.A (pyNext (.ref it)) (fun r s1=>∃ u,r=some u ∧
      wpAny (model P w) X.A (letOwnedTupleGo tg (.ref it) u) (fun _ s2=>∃ x H',Inv X pins σ H' s2∧RelV x u∧J.yld i H x H'∧tn (i + 1) s2.heap∧∀ b∈fp,H' b=none) E s1) E s
  done:∀ (X:Cx),X.prog=P→X.w=w→X.K=K→X.calm=true→∀ (i:Nat) (pins:List (Addr × Obj)) (s:Shared) (σ:St) (H:Hp) (E:Value→Shared→Prop),Inv X pins σ H s→(∀ b∈fp,FpOk X pins H b)→tn i s.heap→J.stop i H →
    wpAny (model P w) X.A (pyNext (.ref it)) (fun r s1=>r=none∧Inv X pins σ H s1) E s
  self:∀ (A:Around) (i:Nat) (s:Shared) (Q:Value→Shared→Prop) (E:Value→Shared→Prop),tn i s.heap→Q (.ref it) s→wpAny (model P w) A (pyIter (.ref it)) Q E s
abbrev TI:=St→Hp→(It→Hp→Prop)→Prop
def PIE (X:Cx) (pins:List (Addr × Obj)) (σ:St) (tg:Expr) (R:It→Hp→Prop) (itv:Value) (s2:Shared):Prop :=
  ∃ (it:Addr) (fp:List Addr) (tn:Nat→Heap→Prop) (J:It) (H':Hp),itv=.ref it∧Inv X pins σ H' s2∧Turn X.prog X.w X.K tg J fp it tn∧tn 0 s2.heap∧(∀ b∈fp,FpOk X pins H' b)∧R J H'
def PI (X:Cx) (tg iter:Expr) (wi:TI):Prop :=
  ∀ (pins:List (Addr × Obj)) (s:Shared) (σ:St) (H:Hp) (R:It→Hp→Prop),Inv X pins σ H s→wi σ H R →
    wpAny (model X.prog X.w) X.A (eval iter X.env) (fun v s1=>wpAny (model X.prog X.w) X.A (pyIter v) (PIE X pins σ tg R) X.xe s1) X.xe s
theorem go_of {M:Model}{A:Around}{E:Value→Shared→Prop}{s:Shared}{tg:Expr}{it:Addr}{u:Value}{o:Obj}{n:String}{vs:Array Value}{Q:Unit→Shared→Prop} (ho:s.heap.get? it=some o) (hc:o.cls=.type n) (hd:o.data=.fields vs)
    (hn:["enumerate","zip","dict_itemiterator","dict_reverseitemiterator","odict_iterator","itertools.zip_longest","itertools.pairwise"].contains n=false) (hQ:Q () s):wpAny M A (letOwnedTupleGo tg (.ref it) u) Q E s:=by
  unfold letOwnedTupleGo
  cases tg <;> first
    | exact wpAny_pure hQ
    | (cases u <;> first
        | exact wpAny_pure hQ
        | (refine wpAny_bind (wpAny_load ho ?_)
           rw [hc,hd]
           show wpAny M A (if (["enumerate","zip","dict_itemiterator","dict_reverseitemiterator","odict_iterator","itertools.zip_longest","itertools.pairwise"].contains n && vs[0]? == some (rawInt _))=true then _ else _) Q E s
           rw [if_neg (by intro h; rw [hn,Bool.false_and] at h; cases h)]
           exact wpAny_pure hQ))
def Itl (K:W.Frag) (a:Addr):It :=
  ⟨fun i H=>∃ xs x,SqL K H a xs∧xs[i]?=some x,fun i H x H'=>H'=H∧∀ xs,SqL K H a xs→xs[i]?=some x,fun i H=>∃ xs,SqL K H a xs∧xs.length ≤ i⟩
def Itt (K:W.Frag) (a:Addr):It :=
  ⟨fun i H=>∃ xs x,SqT K H a xs∧xs[i]?=some x,fun i H x H'=>H'=H∧∀ xs,SqT K H a xs→xs[i]?=some x,fun i H=>∃ xs,SqT K H a xs∧xs.length ≤ i⟩
def Itr (lo:Int) (n:Nat):It:=⟨fun i _=>i < n,fun i H x H'=>H'=H∧x=.int (lo + i),fun i _=>n ≤ i⟩
theorem turn_list {P:Program}{w:World}{K:W.Frag}{tg:Expr} (a it:Addr):Turn P w K tg (Itl K a) [it] it (fun i h=>h.IsListIter it a i) where
  mem:=by simp
  obj:=fun i h st b hb=>by
    have e:b=it:=by simpa using hb
    subst e
    obtain ⟨o,e,c,d⟩:=st
    exact ⟨o,e,fun v z=>by rw [d] at z; cases z⟩
  keep:=fun i h h' st k=>st.at fun o e=>k it (by simp) o e
  item:=by
    intro X hP hw hK hc i pins s σ H E I hf st hg
    subst hP hw hK
    obtain ⟨xs,x,hq,hx⟩:=hg
    obtain ⟨its,rv,p,hz⟩:=I.list hq
    obtain ⟨u,hu,ru⟩:=rv.get hx
    obtain ⟨f0,f1,f2,f3,f4,f5⟩:=hf it (by simp)
    refine wpAny_pyNext_list_item st p.isList (x:=u) (by simpa using hu) fun h' st' sb=>?_
    have I1:Inv X pins σ H { s with heap:=h' }:=I.turned (t':=s.toks) (fun b o hb e=>(sb.2 b hb).trans e) f0 f1 f3 f4 f5
    obtain ⟨o,e,c,d⟩:=id st'
    exact ⟨u,rfl,go_of (s:={ s with heap:=h' }) e c d (by decide) ⟨x,H,I1,ru,⟨rfl,fun ys hy=>by rw [I.list_inj hy hq]; exact hx⟩,st',fun b hb=>(hf b hb).1⟩⟩
  done:=by
    intro X hP hw hK hc i pins s σ H E I hf st hg
    subst hP hw hK
    obtain ⟨xs,hq,hx⟩:=hg
    obtain ⟨its,rv,p,hz⟩:=I.list hq
    obtain ⟨f0,f1,f2,f3,f4,f5⟩:=hf it (by simp)
    have hl:=rv.length
    exact wpAny_pyNext_list_end (I.ok.hd hc) st p.isList (by simp; omega) fun h' eb=>⟨rfl,I.turned (t':=s.toks) (fun b o hb e=>eb b o hb e) f0 f1 f3 f4 f5⟩
  self:=fun _ _ _ _ _ st h=>wpAny_pyIter_listiter st h
theorem turn_tuple {P:Program}{w:World}{K:W.Frag}{tg:Expr} (a it:Addr):Turn P w K tg (Itt K a) [it] it (fun i h=>h.IsTupleIter it a i) where
  mem:=by simp
  obj:=fun i h st b hb=>by
    have e:b=it:=by simpa using hb
    subst e
    obtain ⟨o,e,c,d⟩:=st
    exact ⟨o,e,fun v z=>by rw [d] at z; cases z⟩
  keep:=fun i h h' st k=>st.at fun o e=>k it (by simp) o e
  item:=by
    intro X hP hw hK hc i pins s σ H E I hf st hg
    subst hP hw hK
    obtain ⟨xs,x,hq,hx⟩:=hg
    obtain ⟨its,rv,p,hz⟩:=I.tuple hq
    obtain ⟨u,hu,ru⟩:=rv.get hx
    obtain ⟨f0,f1,f2,f3,f4,f5⟩:=hf it (by simp)
    refine wpAny_pyNext_tuple_item st (show s.heap.IsTuple a its.toArray from p) (x:=u) (by simpa using hu) fun h' st' sb=>?_
    have I1:Inv X pins σ H { s with heap:=h' }:=I.turned (t':=s.toks) (fun b o hb e=>(sb.2 b hb).trans e) f0 f1 f3 f4 f5
    obtain ⟨o,e,c,d⟩:=id st'
    exact ⟨u,rfl,go_of (s:={ s with heap:=h' }) e c d (by decide) ⟨x,H,I1,ru,⟨rfl,fun ys hy=>by rw [I.tuple_inj hy hq]; exact hx⟩,st',fun b hb=>(hf b hb).1⟩⟩
  done:=by
    intro X hP hw hK hc i pins s σ H E I hf st hg
    subst hP hw hK
    obtain ⟨xs,hq,hx⟩:=hg
    obtain ⟨its,rv,p,hz⟩:=I.tuple hq
    obtain ⟨f0,f1,f2,f3,f4,f5⟩:=hf it (by simp)
    have hl:=rv.length
    exact wpAny_pyNext_tuple_end (I.ok.hd hc) st (show s.heap.IsTuple a its.toArray from p) (by simp; omega) fun h' eb=>⟨rfl,I.turned (t':=s.toks) (fun b o hb e=>eb b o hb e) f0 f1 f3 f4 f5⟩
  self:=fun _ _ _ _ _ st h=>wpAny_pyIter_tupleiter st h
theorem turn_range {P:Program}{w:World}{K:W.Frag}{tg:Expr} (it:Addr) (lo:Int) (n:Nat):Turn P w K tg (Itr lo n) [it] it (fun i h=>IsRangeIter h it (lo + (i:Nat) * 1) ((n:Int) - (i:Nat)) 1) where
  mem:=by simp
  obj:=fun i h st b hb=>by
    have e:b=it:=by simpa using hb
    subst e
    exact ⟨_,st,fun v z=>by
      have z':Data.fields _=Data.cell v:=z
      cases z'⟩
  keep:=fun i h h' st k=>k it (by simp) _ st
  item:=by
    intro X hP hw hK hc i pins s σ H E I hf st hg
    subst hP hw hK
    obtain ⟨f0,f1,f2,f3,f4,f5⟩:=hf it (by simp)
    have W:=Walks.range (prog:=X.prog) (w:=X.w) (I.ok.hd hc) it lo 1 n
    refine W.item i s _ _ hg st fun v h' tk hv st' kk=>?_
    obtain ⟨t,rfl⟩:=hv
    have I1:Inv X pins σ H { s with heap:=h',toks:=tk }:=I.turned (fun b o hb e=>kk b o (by simpa using hb) e) f0 f1 f3 f4 f5
    refine ⟨_,rfl,go_of (s:={ s with heap:=h',toks:=tk }) (n:="range_iterator") st' rfl rfl (by decide) ⟨.int (lo + i),H,I1,⟨t,?_⟩,⟨rfl,rfl⟩,st',fun b hb=>(hf b hb).1⟩⟩
    rw [Int.mul_one]
  done:=by
    intro X hP hw hK hc i pins s σ H E I hf st hg
    subst hP hw hK
    obtain ⟨f0,f1,f2,f3,f4,f5⟩:=hf it (by simp)
    exact wpAny_pyNext_range_end (I.ok.hd hc) st (by have:n ≤ i:=hg; omega) fun h' eb=>⟨rfl,I.turned (t':=s.toks) (fun b o hb e=>eb b o hb e) f0 f1 f3 f4 f5⟩
  self:=fun _ _ _ _ _ st h=>wpAny_pyIter_rangeiter st h
end L2
namespace L2
open PySem PySem.Spec PyProof.Rows
section
variable {X:Cx}{tg:Expr}
def iList (K:W.Frag) (tl:TE):TI:=fun σ H R=>tl σ H fun x H1=>∃ a,x=.ref a∧(∃ xs,SqL K H1 a xs)∧R (Itl K a) H1
def iTup (K:W.Frag) (tl:TE):TI:=fun σ H R=>tl σ H fun x H1=>∃ a,x=.ref a∧(∃ xs,SqT K H1 a xs)∧R (Itt K a) H1
theorem pi_list {l:Expr}{tl:TE} (hl:PE X l tl):PI X tg l (iList X.K tl):=by
  intro pins s σ H R I h
  refine thn (hl pins s σ H _ I h) fun v s1 ⟨x,H1,I1,r1,q1⟩=>?_
  obtain ⟨a,e,⟨xs,hq⟩,q⟩:=q1
  subst e
  cases r1
  obtain ⟨its,rv,p,hz⟩:=I1.list hq
  refine wpAny_pyIter_list p.isList ?_
  refine ⟨s1.heap.objs.size,[s1.heap.objs.size],_,_,H1,rfl,I1.kept (t':=s1.toks) fun b o e=>Heap.get?_push_of_some _ e,turn_list a _,⟨_,Heap.get?_push_size _ rfl,rfl,rfl⟩,fun b hb=>?_,q⟩
  have e:b=s1.heap.objs.size:=by simpa using hb
  subst e
  exact I1.fpOk (Nat.le_refl _) (I1.hok.fresh (Nat.le_refl _))
theorem pi_tup {l:Expr}{tl:TE} (hl:PE X l tl):PI X tg l (iTup X.K tl):=by
  intro pins s σ H R I h
  refine thn (hl pins s σ H _ I h) fun v s1 ⟨x,H1,I1,r1,q1⟩=>?_
  obtain ⟨a,e,⟨xs,hq⟩,q⟩:=q1
  subst e
  cases r1
  obtain ⟨its,rv,p,hz⟩:=I1.tuple hq
  refine wpAny_pyIter_tuple (show s1.heap.IsTuple a its.toArray from p) ?_
  refine ⟨s1.heap.objs.size,[s1.heap.objs.size],_,_,H1,rfl,I1.kept (t':=s1.toks) fun b o e=>Heap.get?_push_of_some _ e,turn_tuple a _,⟨_,Heap.get?_push_size _ rfl,rfl,rfl⟩,fun b hb=>?_,q⟩
  have e:b=s1.heap.objs.size:=by simpa using hb
  subst e
  exact I1.fpOk (Nat.le_refl _) (I1.hok.fresh (Nat.le_refl _))
theorem range_it {pins:List (Addr × Obj)}{σ:St}{H:Hp}{s:Shared}{R:It→Hp→Prop}{E:Value→Shared→Prop}{lo hi:Int}{t u v:Tok}{tk:Nat} (I:Inv X pins σ H s) (h1:-(2 ^ 62) ≤ lo) (h2:lo < 2 ^ 62) (h3:-(2 ^ 62) ≤ hi) (h4:hi < 2 ^ 62)
    (q:R (Itr lo (hi - lo).toNat) H):wpAny (model X.prog X.w) X.A (pyIter (.ref s.heap.objs.size)) (PIE X pins σ tg R) E { s with heap:=s.heap.push { cls:=.type "range",data:=.fields #[.int lo t,.int hi u,.int 1 v] },toks:=tk }:=by
  refine wpAny_pyIter_range (IsRange.new ..) (small_one h1 h2 h3 h4) ?_
  have I1:Inv X pins σ H { s with heap:=s.heap.push { cls:=.type "range",data:=.fields #[.int lo t,.int hi u,.int 1 v] },toks:=tk }:=I.kept fun b o e=>Heap.get?_push_of_some _ e
  refine ⟨(s.heap.push { cls:=.type "range",data:=.fields #[.int lo t,.int hi u,.int 1 v] }).objs.size,[(s.heap.push { cls:=.type "range",data:=.fields #[.int lo t,.int hi u,.int 1 v] }).objs.size],_,_,H,rfl,
    I1.kept (t':=tk) fun b o e=>Heap.get?_push_of_some _ e,turn_range _ lo (hi - lo).toNat,?_,fun b hb=>?_,q⟩
  · have e1:lo + ((0:Nat):Int) * 1=lo:=by simp
    have e2:(((hi - lo).toNat:Nat):Int) - ((0:Nat):Int)=Builtin.Range.rangeSize lo hi 1:=by rw [rangeSize_one]; split <;> omega
    show IsRangeIter _ _ (lo + ((0:Nat):Int) * 1) ((((hi - lo).toNat:Nat):Int) - ((0:Nat):Int)) 1
    rw [e1,e2]
    exact Heap.get?_push_size _ rfl
  · have e:b=(s.heap.push { cls:=.type "range",data:=.fields #[.int lo t,.int hi u,.int 1 v] }).objs.size:=by simpa using hb
    subst e
    exact I1.fpOk (Nat.le_refl _) (I1.hok.fresh (Nat.le_refl _))
def iRng1 (ta:TA):TI:=fun σ H R=>ta σ H fun vs H1=>∃ j:Int,vs=[.int j]∧-(2 ^ 62) ≤ j∧j < 2 ^ 62∧R (Itr 0 j.toNat) H1
theorem pi_range1 {a:Expr}{ta:TA}{p pos:Pos} (hg:Gl X "range") (hm:X.mg "range"=none) (ha:PA X [a] ta) (hs:starEach [a] X.env=[(false,eval a X.env)]:=by rfl):PI X tg (.Call (.Name "range" p) [a] [] pos) (iRng1 ta):=by
  intro pins s σ H R I h
  refine Call_ (ld_blt I hg hm boot_range (PyProof.Rows.callWith_type1 (thn (ha pos pins s σ H _ I h) fun us s1 ⟨vs,H1,I1,r1,q1⟩=>?_) hs rfl))
  obtain ⟨j,e,q1,q2,q⟩:=q1
  subst e
  cases r1 with
  | cons r rr =>
    cases rr
    obtain ⟨t,rfl⟩:=r
    exact call_range_1 (range_it I1 (by omega) (by omega) q1 q2 (by simpa using q))
def tFor (wi:TI) (g:TG) (tb:TS):TS:=fun D σ H=>wi σ H fun J H1=>∃ W:Nat→Nat→St→Hp→Prop,(∃ m,W 0 m σ H1)∧∀ i m σ H,W i m σ H →
  (J.stop i H∧D.nx σ H) ∨ (J.go i H∧∃ N:St→Hp→Prop,(∀ σ' H',N σ' H'→∃ m',m' < m∧W (i + 1) m' σ' H')∧∀ x H',J.yld i H x H'→g x σ H' fun σ2 H2=>tb { D with nx:=N,ct:=N,bk:=D.nx } σ2 H2)
def pinsAt (fp:List Addr) (h:Heap):List (Addr × Obj):=fp.filterMap fun b=>(h.get? b).map fun o=>(b,o)
theorem mem_pinsAt {fp:List Addr}{h:Heap}{b:Addr}{o:Obj} (hb:b∈fp) (e:h.get? b=some o):(b,o)∈pinsAt fp h:=List.mem_filterMap.mpr ⟨b,hb,by rw [e]; rfl⟩
theorem of_pinsAt {fp:List Addr}{h:Heap}{p:Addr × Obj} (hp:p∈pinsAt fp h):p.1∈fp∧h.get? p.1=some p.2:=by
  obtain ⟨b,hb,e⟩:=List.mem_filterMap.mp hp
  cases q:h.get? b with
  | none=>rw [q] at e; cases e
  | some o =>
    rw [q] at e
    have e':(b,o)=p:=Option.some.inj e
    subst e'
    exact ⟨hb,q⟩
theorem Inv.pinned {pins:List (Addr × Obj)}{σ:St}{H:Hp}{s:Shared}{fp:List Addr} (I:Inv X pins σ H s) (hf:∀ b∈fp,FpOk X pins H b) (ho:∀ b∈fp,∃ o,s.heap.get? b=some o∧∀ v,o.data ≠ .cell v):Inv X (pins++pinsAt fp s.heap) σ H s :=
  I.pins_of fun p hp=>(List.mem_append.mp hp).elim (fun z=>I.pin p (List.mem_append_right _ z)) fun z=>by
    obtain ⟨hb,e⟩:=of_pinsAt z
    obtain ⟨f0,f1,f2,_⟩:=hf p.1 hb
    obtain ⟨o,e',d⟩:=ho p.1 hb
    rw [e] at e'; cases e'
    exact ⟨e,f0,f1,f2,d⟩
theorem Inv.unpinned {pins pl:List (Addr × Obj)}{σ:St}{H:Hp}{s:Shared} (I:Inv X (pins++pl) σ H s):Inv X pins σ H s:=I.pins_of fun p hp=>I.pin p (List.mem_append_right _ (List.mem_append_left _ hp))
theorem ps_for {iter:Expr}{body:List Stmt}{wi:TI}{g:TG}{tb:TS}{pos:Pos} (hp:PassesOwn (model X.prog X.w) X.A X.env X.xe) (hc:X.calm=true) (hi:PI X tg iter wi) (hg:PG X tg g) (hb:PSs X body tb)
    (hs:∀ x,foldedSetIterable iter X.env x=pure x:=by intro _; rfl):PS X (.For tg iter body [] pos) (tFor wi g tb):=by
  intro pins s σ H D I h
  refine wpAny_For (thn (hi pins s σ H _ I h) fun v s1 h1=>thn h1 fun itv s2 h2=>?_) hs
  obtain ⟨it,fp,tn,J,H2,e,I2,T,st2,f2,W,⟨m0,w0⟩,turn⟩:=h2
  subst e
  have stat:∀ {H':Hp},(∀ b∈fp,H' b=none)→∀ b∈fp,FpOk X pins H' b:=fun hn b hb=>⟨hn b hb,(f2 b hb).2⟩
  refine codeAny_forLoop_any (fun n s'=>∃ i σ' H',Inv X pins σ' H' s'∧tn i s'.heap∧(∀ b∈fp,H' b=none)∧W i n σ' H') ?_ m0 ⟨0,σ,H2,I2,st2,fun b hb=>(f2 b hb).1,w0⟩
  rintro n s3 ⟨i,σ3,H3,I3,st3,fr3,w3⟩
  rcases turn i n σ3 H3 w3 with ⟨stop,qn⟩ | ⟨go,N,hN,step⟩
  · refine wpAny_passesOwn hp (thn (T.done X rfl rfl rfl hc i pins s3 σ3 H3 X.xe I3 (stat fr3) st3 stop) fun r s4 ⟨hr,I4⟩=>?_)
    subst hr
    exact wpAny_execs_nil ⟨σ3,H3,I4,qn⟩
  · refine wpAny_passesOwn hp (thn (T.item X rfl rfl rfl hc i pins s3 σ3 H3 X.xe I3 (stat fr3) st3 go) fun r s4 ⟨u,hr,h4⟩=>?_)
    subst hr
    refine wpAny_passesOwn hp (thn h4 fun _ s5 ⟨x,H5,I5,r5,y5,st5,fr5⟩=>?_)
    have I5':=I5.pinned (stat fr5) (T.obj _ _ st5)
    refine wpAny_passesOwn hp (thn (hg _ s5 σ3 H5 x u _ I5' r5 (step x H5 y5)) fun _ s6 ⟨σ6,H6,I6,q6⟩=>?_)
    refine wpAny_passesOwn hp (thn (hb _ s6 σ6 H6 _ I6 q6) fun f s7 q7=>?_)
    have again:∀ {σ7:St}{H7:Hp},Inv X (pins++pinsAt fp s5.heap) σ7 H7 s7→N σ7 H7→∃ m,m < n∧∃ i σ' H',Inv X pins σ' H' s7∧tn i s7.heap∧(∀ b∈fp,H' b=none)∧W i m σ' H':=fun {σ7 H7} I7 n7=>by
      obtain ⟨m',hm,w7⟩:=hN σ7 H7 n7
      refine ⟨m',hm,i + 1,σ7,H7,I7.unpinned,T.keep _ _ _ st5 fun b hb o e=>(I7.pin (b,o) (List.mem_append_right _ (List.mem_append_right _ (mem_pinsAt hb e)))).1,fun b hb=>?_,w7⟩
      obtain ⟨o,e,d⟩:=T.obj _ _ st5 b hb
      exact (I7.pin (b,o) (List.mem_append_right _ (List.mem_append_right _ (mem_pinsAt hb e)))).2.1
    cases f with
    | next=>obtain ⟨σ7,H7,I7,n7⟩:=q7; exact again I7 n7
    | cont=>obtain ⟨σ7,H7,I7,n7⟩:=q7; exact again I7 n7
    | brk=>obtain ⟨σ7,H7,I7,q7⟩:=q7; exact ⟨σ7,H7,I7.unpinned,q7⟩
    | ret v=>obtain ⟨x7,σ7,H7,I7,r7,q7⟩:=q7; exact ⟨x7,σ7,H7,I7.unpinned,r7,q7⟩
end
end L2
namespace L2
open PySem PySem.Spec PyProof.Rows
abbrev R2:=V→V→Hp→VK→Prop
def OpR (X:Cx) (f:Value→Value→Sem Value) (r:R2):Prop :=
  ∀ (pins:List (Addr × Obj)) (s:Shared) (σ:St) (H:Hp) (x y:V) (v u:Value) (Q:VK),Inv X pins σ H s→RelV x v→RelV y u→r x y H Q →
    wpAny (model X.prog X.w) X.A (f v u) (EP X pins σ Q) X.xe s
def UnR (X:Cx) (f:Value→Sem Value) (r:V→Hp→VK→Prop):Prop :=
  ∀ (pins:List (Addr × Obj)) (s:Shared) (σ:St) (H:Hp) (x:V) (v:Value) (Q:VK),Inv X pins σ H s→RelV x v→r x H Q →
    wpAny (model X.prog X.w) X.A (f v) (EP X pins σ Q) X.xe s
def CallR (X:Cx) (f:Value) (r:List V→Hp→VK→Prop):Prop :=
  ∀ (pins:List (Addr × Obj)) (s:Shared) (σ:St) (H:Hp) (xs:List V) (us:List Value) (Q:VK),Inv X pins σ H s→Vals xs us→r xs H Q →
    wpAny (model X.prog X.w) X.A (call f us) (EP X pins σ Q) X.xe s
def TruR (X:Cx) (r:V→Hp→(Bool→Hp→Prop)→Prop):Prop :=
  ∀ (pins:List (Addr × Obj)) (s:Shared) (σ:St) (H:Hp) (x:V) (v:Value) (Q:Bool→Hp→Prop),Inv X pins σ H s→RelV x v→r x H Q →
    wpAny (model X.prog X.w) X.A (truthy v) (TP X pins σ Q) X.xe s
def tOp (r:R2) (ta tb:TE):TE:=fun σ H Q=>ta σ H fun x H1=>tb σ H1 fun y H2=>r x y H2 Q
def tUn (r:V→Hp→VK→Prop) (ta:TE):TE:=fun σ H Q=>ta σ H fun x H1=>r x H1 Q
def rI (C:Int→Int→Prop) (g:Int→Int→V):R2:=fun x y H Q=>∃ i j,x=.int i∧y=.int j∧C i j∧Q (g i j) H
def rI0 (g:Int→Int→V):R2:=fun x y H Q=>∃ i j,x=.int i∧y=.int j∧Q (g i j) H
def rU (g:Int→V):V→Hp→VK→Prop:=fun x H Q=>∃ i,x=.int i∧Q (g i) H
section
variable {X:Cx}{a b c:Expr}{ta tb tc:TE}{pos:Pos}
theorem binT (ha:PE X a ta) (hb:PE X b tb) {pins:List (Addr × Obj)}{s:Shared}{σ:St}{H:Hp}{R:V→V→Hp→Prop} (I:Inv X pins σ H s)
    (h:ta σ H fun x H1=>tb σ H1 fun y H2=>R x y H2) {Q:Value→Shared→Prop}{f:Value→Value→Sem Value}
    (hf:∀ v u s2 x y H2,Inv X pins σ H2 s2→RelV x v→RelV y u→R x y H2→wpAny (model X.prog X.w) X.A (f v u) Q X.xe s2) :
    wpAny (model X.prog X.w) X.A (eval a X.env) (fun v s₁=>wpAny (model X.prog X.w) X.A (eval b X.env) (fun u s₂=>wpAny (model X.prog X.w) X.A (f v u) Q X.xe s₂) X.xe s₁) X.xe s:=by
  refine thn (ha pins s σ H _ I h) fun v s1 ⟨x,H1,I1,r1,q1⟩=>?_
  refine thn (hb pins s1 σ H1 _ I1 q1) fun u s2 ⟨y,H2,I2,r2,q2⟩=>?_
  exact hf v u s2 x y H2 I2 r1 r2 q2
theorem pe_op {op:Operator}{r:R2} (ho:OpR X (binaryOp op) r) (ha:PE X a ta) (hb:PE X b tb):PE X (.BinOp a op b pos) (tOp r ta tb):=by
  intro pins s σ H Q I h
  exact wpAny_BinOp (binT ha hb I h fun v u s2 x y H2 I2 rx ry q=>ho pins s2 σ H2 x y v u Q I2 rx ry q)
theorem pe_un {op:UnaryOp}{r:V→Hp→VK→Prop} (ho:UnR X (unaryOp op) r) (ha:PE X a ta):PE X (.UnaryOp op a pos) (tUn r ta):=by
  intro pins s σ H Q I h
  exact UnaryOp_ (thn (ha pins s σ H _ I h) fun v s1 ⟨x,H1,I1,r1,q1⟩=>ho pins s1 σ H1 x v Q I1 r1 q1)
theorem opI {f:Value→Value→Sem Value}{C:Int→Int→Prop}{g:Int→Int→Int}
    (rule:∀ (i j:Int) (t u:Tok) (s:Shared) (Q:Value→Shared→Prop) (E:Value→Shared→Prop),C i j→Q (.int (g i j) s.toks) { s with toks:=s.toks + 1 }→wpAny (model X.prog X.w) X.A (f (.int i t) (.int j u)) Q E s) :
    OpR X f (rI C fun i j=>.int (g i j)):=by
  intro pins s σ H x y v u Q I rx ry h
  obtain ⟨i,j,rfl,rfl,hc,q⟩:=h
  obtain ⟨t,rfl⟩:=rx
  obtain ⟨t',rfl⟩:=ry
  exact rule i j t t' s _ _ hc ⟨.int (g i j),H,I.tok _,⟨_,rfl⟩,q⟩
theorem opI0 {f:Value→Value→Sem Value}{g:Int→Int→Int}
    (rule:∀ (i j:Int) (t u:Tok) (s:Shared) (Q:Value→Shared→Prop) (E:Value→Shared→Prop),Q (.int (g i j) s.toks) { s with toks:=s.toks + 1 }→wpAny (model X.prog X.w) X.A (f (.int i t) (.int j u)) Q E s) :
    OpR X f (rI0 fun i j=>.int (g i j)):=by
  intro pins s σ H x y v u Q I rx ry h
  obtain ⟨i,j,rfl,rfl,q⟩:=h
  obtain ⟨t,rfl⟩:=rx
  obtain ⟨t',rfl⟩:=ry
  exact rule i j t t' s _ _ ⟨.int (g i j),H,I.tok _,⟨_,rfl⟩,q⟩
theorem opB0 {f:Value→Value→Sem Value}{g:Int→Int→Bool}
    (rule:∀ (i j:Int) (t u:Tok) (s:Shared) (Q:Value→Shared→Prop) (E:Value→Shared→Prop),Q (.bool (g i j)) s→wpAny (model X.prog X.w) X.A (f (.int i t) (.int j u)) Q E s) :
    OpR X f (rI0 fun i j=>.bl (g i j)):=by
  intro pins s σ H x y v u Q I rx ry h
  obtain ⟨i,j,rfl,rfl,q⟩:=h
  obtain ⟨t,rfl⟩:=rx
  obtain ⟨t',rfl⟩:=ry
  exact rule i j t t' s _ _ ⟨.bl (g i j),H,I,rfl,q⟩
def CDiv (i j:Int):Prop:=0 < j∧j < 1073741824
theorem op_add:OpR X (binaryOp .Add) (rI0 fun i j=>.int (i + j)):=opI0 fun _ _ _ _ _ _ _ q=>add_int q
theorem op_sub:OpR X (binaryOp .Sub) (rI0 fun i j=>.int (i - j)):=opI0 fun _ _ _ _ _ _ _ q=>sub_int q
theorem op_fdiv:OpR X (binaryOp .FloorDiv) (rI CDiv fun i j=>.int (i / j)):=opI fun i j _ _ _ _ _ hc q=>by
  have h1:(0:Int) < j:=hc.1
  have h2:j < 1073741824:=hc.2
  exact floordiv_int (by omega) (by rw [Int.fdiv_eq_ediv_of_nonneg i (by omega)]; exact q) (.inl (PyProof.noPylong_small (by omega)))
theorem op_mod:OpR X (binaryOp .Mod) (rI (fun _ j=>0 < j) fun i j=>.int (i % j)):=opI fun i j _ _ _ _ _ hc q=>by
  have h1:(0:Int) < j:=hc
  exact mod_int' (by omega) (by rw [Int.fmod_eq_emod_of_nonneg i (by omega)]; exact q)
theorem unI {f:Value→Sem Value}{g:Int→Int}
    (rule:∀ (i:Int) (t:Tok) (s:Shared) (Q:Value→Shared→Prop) (E:Value→Shared→Prop),Q (.int (g i) s.toks) { s with toks:=s.toks + 1 }→wpAny (model X.prog X.w) X.A (f (.int i t)) Q E s) :
    UnR X f (rU fun i=>.int (g i)):=by
  intro pins s σ H x v Q I rx h
  obtain ⟨i,rfl,q⟩:=h
  obtain ⟨t,rfl⟩:=rx
  exact rule i t s _ _ ⟨.int (g i),H,I.tok _,⟨_,rfl⟩,q⟩
theorem un_neg:UnR X (unaryOp .USub) (rU fun i=>.int (-i)):=unI fun _ _ _ _ _ q=>neg_int q
end
section
variable {X:Cx}{a b c:Expr}{ta tb tc:TE}{pos:Pos}
theorem fin_bl {pins:List (Addr × Obj)}{σ:St}{H:Hp}{s:Shared}{Q:VK}{k k':Bool} (I:Inv X pins σ H s) (q:Q (.bl k) H) (e:k=k'):EP X pins σ Q (.bool k') s:=by
  subst e
  exact ⟨.bl k,H,I,rfl,q⟩
theorem op_lt:OpR X (compareOp .Lt) (rI0 fun i j=>.bl (decide (i < j))):=opB0 fun _ _ _ _ _ _ _ q=>lt_int q
theorem op_le:OpR X (compareOp .LtE) (rI0 fun i j=>.bl (decide (i ≤ j))):=opB0 fun _ _ _ _ _ _ _ q=>le_int q
theorem op_gt:OpR X (compareOp .Gt) (rI0 fun i j=>.bl (decide (j < i))):=opB0 fun _ _ _ _ _ _ _ q=>gt_int q
theorem op_in_str:OpR X (compareOp .In) (fun x y H Q=>∃ i j,x=.str i∧y=.str j∧Q (.bl (!(Builtin.Str.occurrences j i 0 j.length 1).isEmpty)) H):=by
  intro pins s σ H x y v u Q I rx ry h
  obtain ⟨i,j,rfl,rfl,q⟩:=h
  obtain ⟨t,rfl⟩:=rx
  obtain ⟨t',rfl⟩:=ry
  exact in_str (fin_bl I q rfl)
theorem op_notN:OpR X (compareOp .IsNot) (fun x y H Q=>y=.non∧Q (.bl (!decide (x=.non))) H):=by
  intro pins s σ H x y v u Q I rx ry h
  obtain ⟨rfl,q⟩:=h
  cases ry
  refine isnot_none_gen (fin_bl I q ?_)
  cases x <;> first
    | (cases rx; rfl)
    | (obtain ⟨t,rfl⟩:=rx; rfl)
theorem op_notin_str:OpR X (compareOp .NotIn) (fun x y H Q=>∃ i j,x=.str i∧y=.str j∧Q (.bl (!(!(Builtin.Str.occurrences j i 0 j.length 1).isEmpty))) H):=by
  intro pins s σ H x y v u Q I rx ry h
  obtain ⟨i,j,rfl,rfl,q⟩:=h
  obtain ⟨t,rfl⟩:=rx
  obtain ⟨t',rfl⟩:=ry
  exact notIn_str (fin_bl I q rfl)
theorem OpR.or {f:Value→Value→Sem Value}{r r':R2} (h:OpR X f r) (h':OpR X f r'):OpR X f (fun x y H Q=>r x y H Q ∨ r' x y H Q):=by
  intro pins s σ H x y v u Q I rx ry q
  rcases q with q | q
  · exact h pins s σ H x y v u Q I rx ry q
  · exact h' pins s σ H x y v u Q I rx ry q
theorem nomark (b:Expr) {op:CmpOp} (h:op ≠ .In:=by decide) (h2:op ≠ .NotIn:=by decide):behindInMarks op b=false:=by
  have e1:(op == CmpOp.In)=false:=by cases op <;> first | rfl | exact absurd rfl h
  have e2:(op == CmpOp.NotIn)=false:=by cases op <;> first | rfl | exact absurd rfl h2
  cases b <;> simp [behindInMarks,e1,e2]
theorem pe_cmpR {op:CmpOp}{r:R2} (ho:OpR X (compareOp op) r) (ha:PE X a ta) (hb:PE X b tb) (hm:behindInMarks op b=false):PE X (.Compare a [op] [b] pos) (tOp r ta tb):=by
  intro pins s σ H Q I h
  exact wpAny_Compare1 (binT ha hb I h fun v u s2 x y H2 I2 rx ry q=>ho pins s2 σ H2 x y v u Q I2 rx ry q) hm
def tTest (t:TE):TT:=fun σ H Q=>t σ H fun x H'=>∃ k,x=.bl k∧Q k H'
theorem pt_cmpR {op:CmpOp}{r:R2} (ho:OpR X (compareOp op) r) (ha:PE X a ta) (hb:PE X b tb) (hm:behindInMarks op b=false):PT X (.Compare a [op] [b] pos) (tTest (tOp r ta tb)):=by
  intro pins s σ H Q I h
  refine wpAny_isTrue_Compare1 (thn (ha pins s σ H _ I h) fun v s1 ⟨x,H1,I1,r1,q1⟩=>thn (hb pins s1 σ H1 _ I1 q1) fun u s2 ⟨y,H2,I2,r2,q2⟩ =>
    thn (ho pins s2 σ H2 x y v u _ I2 r1 r2 q2) fun c s3 ⟨z,H3,I3,r3,k,e,q3⟩=>?_) hm
  subst e
  cases r3
  exact wpAny_truthy_bool ⟨H3,I3,q3⟩
def tChain (r r':R2) (ta tb tc:TE):TE:=fun σ H Q=>ta σ H fun x H1=>tb σ H1 fun y H2=>r x y H2 fun z H3=>∃ k,z=.bl k ∧
  (if k=true then tc σ H3 fun w' H4=>r' y w' H4 Q else Q (.bl false) H3)
theorem pt_chain {op op':CmpOp}{r r':R2} (ho:OpR X (compareOp op) r) (ho':OpR X (compareOp op') r') (ha:PE X a ta) (hb:PE X b tb) (hc:PE X c tc)
    (hm:lastMarks [op,op'] [b,c]=false:=by with_unfolding_all rfl):PT X (.Compare a [op,op'] [b,c] pos) (tTest (tChain r r' ta tb tc)):=by
  intro pins s σ H Q I h
  refine isTrue_chain (thn (ha pins s σ H _ I h) fun v s1 ⟨x,H1,I1,r1,q1⟩=>test_link (thn (hb pins s1 σ H1 _ I1 q1) fun u s2 ⟨y,H2,I2,r2,q2⟩ =>
    thn (ho pins s2 σ H2 x y v u _ I2 r1 r2 q2) fun d s3 ⟨z,H3,I3,r3,k,e,q3⟩=>?_)) hm
  subst e
  cases r3
  refine wpAny_truthy_bool ?_
  cases k with
  | false =>
    obtain ⟨k',e',q'⟩:=q3
    cases e'
    exact ite_ff ⟨H3,I3,q'⟩
  | true =>
    refine ite_tt (test_last (thn (hc pins s3 σ H3 _ I3 q3) fun w' s4 ⟨z',H4,I4,r4,q4⟩=>thn (ho' pins s4 σ H4 y z' u w' _ I4 r2 r4 q4) fun d' s5 ⟨z2,H5,I5,r5,k2,e2,q5⟩=>?_))
    subst e2
    cases r5
    exact wpAny_truthy_bool ⟨H5,I5,q5⟩
def TruV (K:W.Frag) (x:V) (H:Hp) (k:Bool):Prop :=
  match x with
  | .non=>k=false
  | .bl b=>k=b
  | .int i=>k=(i != 0)
  | .str y=>y.length ≤ sizeLine∧k=((y.length:Int) != 0)
  | .byt y=>y.size ≤ sizeLine∧k=((y.size:Int) != 0)
  | .ref p=>(∃ xs,SqL K H p xs∧k=!xs.isEmpty) ∨ (∃ xs,SqT K H p xs∧k=!xs.isEmpty) ∨ ∃ kvs,H p=some (.dK kvs)∧k=!kvs.isEmpty
  | _=>False
theorem isEmpty_kv {κ:Type}{kvs:List (κ × V)}{vs:List (κ × Value)} (r:KV kvs vs):(!vs.isEmpty)=!kvs.isEmpty:=by
  cases r <;> rfl
theorem isEmpty_of {xs:List V}{its:List Value} (r:Vals xs its):(!its.toArray.isEmpty)=!xs.isEmpty:=by
  cases r <;> simp
theorem line63:(sizeLine:Nat) < 2 ^ 63:=by rw [sizeLine_eq]; decide
theorem tru_ok:TruR X (fun x H Q=>∃ k,TruV X.K x H k∧Q k H):=by
  intro pins s σ H x v Q I rx h
  obtain ⟨k,e,q⟩:=h
  have hl:=line63
  have hs:sizeLine=16777216:=sizeLine_eq
  cases x with
  | non =>
    cases rx
    have e':k=false:=e
    subst e'
    exact truthy_none ⟨H,I,q⟩
  | bl b =>
    cases rx
    have e':k=b:=e
    subst e'
    exact wpAny_truthy_bool ⟨H,I,q⟩
  | int i =>
    obtain ⟨t,rfl⟩:=rx
    have e':k=(i != 0):=e
    subst e'
    exact PySem.P.truthy_int ⟨H,I,q⟩
  | str y =>
    obtain ⟨t,rfl⟩:=rx
    obtain ⟨hy,e'⟩:y.length ≤ sizeLine∧k=((y.length:Int) != 0):=e
    subst e'
    exact PySem.P.truthy_str (by omega) ⟨H,I.tok _,q⟩
  | byt y =>
    obtain ⟨t,rfl⟩:=rx
    obtain ⟨hy,e'⟩:y.size ≤ sizeLine∧k=((y.size:Int) != 0):=e
    subst e'
    exact W.truthy_bytes (by omega) ⟨H,I.tok _,q⟩
  | ref p =>
    cases rx
    have e':(∃ xs,SqL X.K H p xs∧k=!xs.isEmpty) ∨ (∃ xs,SqT X.K H p xs∧k=!xs.isEmpty) ∨ ∃ kvs,H p=some (.dK kvs)∧k=!kvs.isEmpty:=e
    rcases e' with ⟨xs,hx,e'⟩ | ⟨xs,hx,e'⟩ | ⟨kvs,hx,e'⟩
    · subst e'
      obtain ⟨its,r,pl,hz⟩:=I.list hx
      have hlen:=r.length
      exact wpAny_truthy_list pl.isList (by simp only [List.size_toArray]; omega) ⟨H,I.tok _,by rw [isEmpty_of r]; exact q⟩
    · subst e'
      obtain ⟨its,r,pl,hz⟩:=I.tuple hx
      have hlen:=r.length
      exact truthy_tuple pl (by simp only [List.size_toArray]; omega) ⟨H,I.tok _,by rw [isEmpty_of r]; exact q⟩
    · subst e'
      obtain ⟨hz,hS,vs,r,m⟩:kvs.length ≤ sizeLine∧(p == sysModules)=false∧∃ vs,KV kvs vs∧s.heap.DictOf (mixKind X.prog X.w) p vs:=I.hok p _ hx
      have hlen:kvs.length=vs.length:=Paired.length r
      exact wpAny_truthy_dict hS m (by omega) ⟨H,I.tok _,by rw [isEmpty_kv r]; exact q⟩
  | _=>exact (show False from e).elim
theorem pt_truth (ha:PE X a ta) (he:∀ whole,isTrue a X.env whole=(do let v ← whole; standAt a.pos; holding [v] (truthy v))) :
    PT X a (fun σ H Q=>ta σ H fun x H'=>∃ k,TruV X.K x H' k∧Q k H'):=by
  intro pins s σ H Q I h
  exact isTrue_plain (thn (ha pins s σ H _ I h) fun v s1 ⟨x,H1,I1,r1,q1⟩=>tru_ok pins s1 σ H1 x v Q I1 r1 q1) (he _)
theorem op_add_str:OpR X (binaryOp .Add) (fun x y H Q=>∃ i j,x=.str i∧y=.str j∧i.length + j.length ≤ sizeLine∧Q (.str (i++j)) H):=by
  intro pins s σ H x y v u Q I rx ry h
  obtain ⟨i,j,rfl,rfl,hz,q⟩:=h
  obtain ⟨t,rfl⟩:=rx
  obtain ⟨t',rfl⟩:=ry
  exact add_str (fun t' tk=>⟨.str (i++j),H,I.tok _,⟨_,rfl⟩,q⟩) hz
theorem vals1 {x:V}{us:List Value} (r:Vals [x] us):∃ u,us=[u]∧RelV x u:=by
  cases r with
  | cons r1 r2=>cases r2; exact ⟨_,rfl,r1⟩
theorem vals2 {x y:V}{us:List Value} (r:Vals [x,y] us):∃ u w',us=[u,w']∧RelV x u∧RelV y w':=by
  cases r with
  | cons r1 r2 =>
    cases r2 with
    | cons r3 r4=>cases r4; exact ⟨_,_,rfl,r1,r3⟩
theorem call_max2 (hc:X.calm=true):CallR X (.builtin "max") (fun xs H Q=>∃ i j,xs=[.int i,.int j]∧Q (.int (if j > i then j else i)) H):=by
  intro pins s σ H xs us Q I r h
  obtain ⟨i,j,rfl,q⟩:=h
  obtain ⟨u,w',rfl,⟨t,rfl⟩,⟨t',rfl⟩⟩:=vals2 r
  refine max_two_ints (I.ok.hd hc) fun h' tk k=>⟨_,H,I.kept k,?_,q⟩
  by_cases hj:j > i
  · rw [if_pos hj,if_pos hj]; exact ⟨_,rfl⟩
  · rw [if_neg hj,if_neg hj]; exact ⟨_,rfl⟩
theorem call_min2 (hc:X.calm=true):CallR X (.builtin "min") (fun xs H Q=>∃ i j,xs=[.int i,.int j]∧Q (.int (if j < i then j else i)) H):=by
  intro pins s σ H xs us Q I r h
  obtain ⟨i,j,rfl,q⟩:=h
  obtain ⟨u,w',rfl,⟨t,rfl⟩,⟨t',rfl⟩⟩:=vals2 r
  refine min_two_ints (I.ok.hd hc) fun h' tk k=>⟨_,H,I.kept k,?_,q⟩
  by_cases hj:j < i
  · rw [if_pos hj,if_pos hj]; exact ⟨_,rfl⟩
  · rw [if_neg hj,if_neg hj]; exact ⟨_,rfl⟩
theorem call_int1:CallR X (.type "int") (fun xs H Q=>(∃ i,xs=[.int i]∧Q (.int i) H) ∨ ∃ k,xs=[.bl k]∧Q (.int (if k then 1 else 0)) H):=by
  intro pins s σ H xs us Q I r h
  rcases h with ⟨i,rfl,q⟩ | ⟨k,rfl,q⟩
  · obtain ⟨u,rfl,t,rfl⟩:=vals1 r
    exact call_int_int ⟨.int i,H,I,⟨_,rfl⟩,q⟩
  · obtain ⟨u,rfl,r1⟩:=vals1 r
    cases r1
    exact call_int_bool ⟨.int (if k then 1 else 0),H,I.tok _,⟨_,rfl⟩,q⟩
end
end L2
namespace L2
open PySem PySem.Spec PyProof.Rows
structure ObjM (h:Heap) (x dx C:Addr) (mA:Str→Option Value):Prop where
  obj:h.get? x=some (W.instObj C dx)
  ns:h.Ns1 dx mA
  ne:dx ≠ x
theorem lookIn_ns {h:Heap}{dx:Addr}{mA:Str→Option Value} (n:h.Ns1 dx mA):∃ od,h.get? dx=some od∧∀ name,W.lookIn name od=some (mA name):=by
  obtain ⟨o,es,ep,ho,hd,hk,_,hm⟩:=n
  refine ⟨o,ho,fun name=>?_⟩
  have e:=hm name
  unfold nsFind findBy at e
  rw [← Array.find?_toList] at e
  unfold W.lookIn
  rw [hd]
  dsimp only
  split
  · rename_i y q
    rw [q] at e
    exact congrArg some e
  · rename_i q
    rw [q] at e
    have a:es.toList.any (·.refKey)=false:=by
      rw [List.any_eq_false]
      intro y hy
      obtain ⟨z,t,hkey⟩:=hk y (Array.mem_toList_iff.mp hy)
      simp [DictEntry.refKey,hkey]
    have a':¬ es.toList.any (·.refKey)=true:=by rw [a]; exact Bool.false_ne_true
    rw [if_neg a']
    exact congrArg some e
theorem ObjM.look {h:Heap}{x dx C:Addr}{mA:Str→Option Value} (I:ObjM h x dx C mA):∃ od,W.InstAt h x (W.instObj C dx) C (some od)∧∀ name,W.lookIn name od=some (mA name) :=
  let ⟨od,ho,hl⟩:=lookIn_ns I.ns
  ⟨od,⟨I.obj,rfl,rfl,ho⟩,hl⟩
section
variable {prog:Program}{w:World}{A:Around}{E:Value→Shared→Prop}{s:Shared}{K:W.Frag}{x dx C f:Addr}{mA:Str→Option Value}{name:Str}{v:Value}
theorem get_map {expr:Bool}{Q:Value→Shared→Prop} (X:K.In s.heap) (I:ObjM s.heap x dx C mA) (hg:W.plainGet K C name=true) (hh:W.hasDictIn K C=true)
    (ha:W.findIn K (.ref C) name=some none) (hv:mA name=some v) (hv':W.handedIn v=true) (h:Q v { s with toks:=s.toks + 1 }) :
    wpAny (model prog w) A (getAttr (.ref x) name expr) Q E s:=by
  obtain ⟨od,J,hl⟩:=I.look
  exact W.get_value X J (W.plainGet_of hg).1 (W.findObj_own hh ha rfl (by rw [hl,hv])) hv' h
theorem get_meth {pl:Sem Bool}{Q:Value × List Value→Shared→Prop} (X:K.In s.heap) (I:ObjM s.heap x dx C mA) (hg:W.plainGet K C name=true)
    (hf:W.findIn K (.ref C) name=some (some (.ref f))) (ht:W.isFn K (.ref f)=true) (hv:mA name=none) (h:Q (.ref f,[.ref x]) s) :
    wpAny (model prog w) A (getMethod (.ref x) name pl) Q E s:=by
  obtain ⟨od,J,hl⟩:=I.look
  exact W.method_fn X J (W.plainGet_of hg).1 (W.plainGet_of hg).2 hf (beq_iff_eq.mp ht) (by show (W.lookIn name od).map (·.isSome)=some false; rw [hl,hv]; rfl) h
theorem set_map {ns:List Str}{Q:Unit→Shared→Prop} (X:K.In s.heap) (I:ObjM s.heap x dx C mA)
    (hs:W.findIn K (.ref C) "__setattr__"=some (some (.builtin "object.__setattr__"))) (hp:W.plainOver K C=true) (ht:W.takerIn K C name=some none) (hh:W.hasDictIn K C=true)
    (hw:PySem.Within mA ns) (hsz:ns.length ≤ sizeLine)
    (h:∀ h',ObjM h' x dx C (fun y=>if y=name then some v else mA y)→Heap.SameBut dx s.heap h'→Q () { s with heap:=h',toks:=s.toks + 2 }) :
    wpAny (model prog w) A (setAttr (.ref x) name v) Q E s:=by
  obtain ⟨od,J,hl⟩:=I.look
  refine W.set_plain X J hs (W.osa_open (s:={ s with toks:=s.toks + 1 }) (r:=none) X J hp ht fun b=>?_)
  obtain ⟨cd,hc,hd'⟩:=W.any_some hh
  have hx:s.heap.get? x=some ⟨.ref C,some dx,.plain,#[]⟩:=I.obj
  refine wpAny_bind (wpAny_pure (wpAny_bind (wpAny_bind (wpAny_loadPart hx (wpAny_bind (W.Looks.here (s:={ s with toks:=s.toks + 1 }) (W.looks_clsIn X hc) ?_))))))
  rw [hd']
  refine wpAny_pure (a:=some dx) (wpAny_bind (wpAny_pure (wpAny_bind ?_)))
  refine wpAny_nsSet1 (s:={ s with toks:=s.toks + 1 }) I.ns fun h' hn2 hs2=>?_
  obtain ⟨oD,esD,epD,hoD,hdD,hcD⟩:=hn2.count (PySem.Within.cons name v hw)
  refine wpAny_bind (wpAny_lookBehind hoD (by rw [hdD]; exact pastItsLine_dict (Nat.le_trans hcD (by rw [List.length_cons]; omega))) ?_)
  exact wpAny_pure (h _ ⟨(hs2.2 _ (Ne.symm I.ne)).trans I.obj,hn2,I.ne⟩ hs2)
theorem make_map {R:Result→Shared→Prop}{vs:List Value}{kw:List (Str × Value)} (X:K.In s.heap) (hm:W.makesIn K C=true)
    (hi:W.findIn K (.ref C) "__init__"=some (some (.ref f))) (hf:W.typeIn K (.ref f)=some (.type "function"))
    (h:codeAny (model prog w) (A.under (.builtin "type.__call__" ⟨.ref C :: vs,kw⟩)) (.call (.ref f) ⟨.ref (s.heap.objs.size + 1) :: vs,kw⟩) (W.InitBack (s.heap.objs.size + 1) R)
      { s with heap:=(s.heap.push W.emptyDict).push (W.instObj C s.heap.objs.size) }) :
    codeAny (model prog w) A (.call (.ref C) ⟨vs,kw⟩) R s:=by
  obtain ⟨hh,g,d,t,os⟩:=s
  exact W.make_core (W.makes_of X hm) (W.looks_findIn X hi) (fun self=>W.bind_fn X self hf) (.inl rfl) h
end
def putF (f:Str) (v:V):List (Str × V)→List (Str × V)
  | []=>[(f,v)]
  | (g,x) :: r=>if g=f then (g,v) :: r else (g,x) :: putF f v r
theorem lookup_putF (f g:Str) (v:V):∀ fs:List (Str × V),(putF f v fs).lookup g=if g=f then some v else fs.lookup g
  | []=>by
    show List.lookup g [(f,v)]=_
    by_cases h:g=f
    · have hb:(g == f)=true:=beq_iff_eq.mpr h
      simp only [List.lookup,hb,if_pos h]
    · have hb:(g == f)=false:=beq_eq_false_iff_ne.mpr h
      simp only [List.lookup,hb,if_neg h]
  | (k,x) :: r=>by
    have ih:=lookup_putF f g v r
    rw [show putF f v ((k,x) :: r)=(if k=f then (k,v) :: r else (k,x) :: putF f v r) from rfl]
    by_cases hk:k=f
    · rw [if_pos hk]
      by_cases h:g=k
      · have hb:(g == k)=true:=beq_iff_eq.mpr h
        simp only [List.lookup,hb,if_pos (h.trans hk)]
      · have hb:(g == k)=false:=beq_eq_false_iff_ne.mpr h
        simp only [List.lookup,hb,if_neg (fun e:g=f=>h (e.trans hk.symm))]
    · rw [if_neg hk]
      by_cases h:g=k
      · have hb:(g == k)=true:=beq_iff_eq.mpr h
        simp only [List.lookup,hb,if_neg (fun e:g=f=>hk (h.symm.trans e))]
      · have hb:(g == k)=false:=beq_eq_false_iff_ne.mpr h
        simp only [List.lookup,hb]
        exact ih
theorem keys_putF (f:Str) (v:V):∀ fs:List (Str × V),f∈(putF f v fs).map (·.1)∧∀ g,g∈fs.map (·.1)→g∈(putF f v fs).map (·.1)
  | []=>⟨by simp [putF],fun g h=>by simp at h⟩
  | (k,x) :: r=>by
    obtain ⟨i1,i2⟩:=keys_putF f v r
    rw [show putF f v ((k,x) :: r)=(if k=f then (k,v) :: r else (k,x) :: putF f v r) from rfl]
    by_cases hk:k=f
    · rw [if_pos hk]
      subst hk
      exact ⟨by simp,fun g h=>by simpa using h⟩
    · rw [if_neg hk]
      refine ⟨?_,fun g h=>?_⟩
      · rw [List.map_cons]
        exact List.mem_cons_of_mem _ i1
      · rw [List.map_cons] at h ⊢
        rcases List.mem_cons.mp h with e | e
        · exact List.mem_cons.mpr (.inl e)
        · exact List.mem_cons_of_mem _ (i2 g e)
theorem length_putF (f:Str) (v:V):∀ fs:List (Str × V),(putF f v fs).length ≤ fs.length + 1
  | []=>by simp [putF]
  | (k,x) :: r=>by
    have ih:=length_putF f v r
    rw [show putF f v ((k,x) :: r)=(if k=f then (k,v) :: r else (k,x) :: putF f v r) from rfl]
    by_cases hk:k=f
    · rw [if_pos hk,List.length_cons,List.length_cons]; omega
    · rw [if_neg hk,List.length_cons,List.length_cons]; omega
theorem RelO.some_of {v:V}{o:Option Value} (r:RelO (some v) o):∃ u,o=some u∧RelV v u:=by
  cases o with
  | none=>exact (show False from r).elim
  | some u=>exact ⟨u,rfl,r⟩
theorem RelO.none_of {o:Option Value} (r:RelO none o):o=none:=by
  cases o with
  | none=>rfl
  | some u=>exact (show False from r).elim
theorem handed_of {v:V}{u:Value} (r:RelV v u):W.handedIn u=true:=by
  cases v with
  | non=>cases (show u=Value.none from r); rfl
  | bl b=>cases (show u=Value.bool b from r); rfl
  | int i=>obtain ⟨t,e⟩:=(show ∃ t,u=Value.int i t from r); cases e; rfl
  | str x=>obtain ⟨t,e⟩:=(show ∃ t,u=Value.str x t from r); cases e; rfl
  | byt b=>obtain ⟨t,e⟩:=(show ∃ t,u=Value.bytes b t from r); cases e; rfl
  | flt b=>obtain ⟨t,e⟩:=(show ∃ t,u=Value.float b t from r); cases e; rfl
  | ref a=>cases (show u=Value.ref a from r); rfl
  | ty n=>cases (show u=Value.type n from r); rfl
section
variable {P:Program}{w:World}{H H':Hp}{h h':Heap}{a C dx:Addr}{fs fs':List (Str × V)}
theorem ins_get (hok:HOk P w H h) (e:H a=some (.ins C dx fs)):∃ mA,ObjM h a dx C mA∧(∀ f,RelO (fs.lookup f) (mA f))∧PySem.Within mA (fs.map (·.1))∧fs.length ≤ 1000∧H dx=some (.own a):=by
  obtain ⟨d,z,ne,ob,mA,n,r,q⟩:=(show ObjOk P w H h a (.ins C dx fs) from hok a _ e)
  exact ⟨mA,⟨ob,n,ne⟩,r,q,z,d⟩
end
structure Cls (K:W.Frag) (C:Addr):Prop where
  pg:W.plainGet K C Str.empty=true
  hd:W.hasDictIn K C=true
  po:W.plainOver K C=true
  sa:W.findIn K (.ref C) "__setattr__"=some (some (.builtin "object.__setattr__"))
theorem Cls.get {K:W.Frag}{C:Addr} (c:Cls K C) (f:Str):W.plainGet K C f=true:=c.pg
def NoAttr (K:W.Frag) (C:Addr) (f:Str):Prop:=W.findIn K (.ref C) f=some none
theorem NoAttr.taker {K:W.Frag}{C:Addr}{f:Str} (n:NoAttr K C f):W.takerIn K C f=some none:=by
  unfold W.takerIn
  rw [show W.findIn K (.ref C) f=some none from n]
  rfl
structure Meth (K:W.Frag) (C:Addr) (m:Str) (f:Addr):Prop where
  at_:W.findIn K (.ref C) m=some (some (.ref f))
  fn:W.isFn K (.ref f)=true
  kp:W.keepIn K (.ref f)=true
section
variable {X:Cx}{pins:List (Addr × Obj)}{σ:St}{H:Hp}{s:Shared}{a C dx:Addr}{fs:List (Str × V)}{f:Str}{v:V}{A:Around}{E:Value→Shared→Prop}
theorem getattr_ok {b:Bool}{Q:Value→Shared→Prop} (I:Inv X pins σ H s) (e:H a=some (.ins C dx fs)) (c:Cls X.K C) (n:NoAttr X.K C f) (l:fs.lookup f=some v)
    (h:∀ u s',Inv X pins σ H s'→RelV v u→Q u s'):wpAny (model X.prog X.w) A (getAttr (.ref a) f b) Q E s:=by
  obtain ⟨mA,O,r,_,_,_⟩:=ins_get I.hok e
  obtain ⟨u,hu,ru⟩:=RelO.some_of (v:=v) (o:=mA f) (by rw [← l]; exact r f)
  exact get_map I.kIn O (c.get f) c.hd n hu (handed_of ru) (h u _ (I.tok _) ru)
theorem getmeth_ok {m:Str}{g:Addr}{pl:Sem Bool}{Q:Value × List Value→Shared→Prop} (I:Inv X pins σ H s) (e:H a=some (.ins C dx fs)) (c:Cls X.K C) (k:Meth X.K C m g) (l:fs.lookup m=none)
    (h:Q (.ref g,[.ref a]) s):wpAny (model X.prog X.w) A (getMethod (.ref a) m pl) Q E s:=by
  obtain ⟨mA,O,r,_,_,_⟩:=ins_get I.hok e
  have hn:mA m=none:=RelO.none_of (by rw [← l]; exact r m)
  exact get_meth I.kIn O (c.get m) k.at_ k.fn hn h
theorem setattr_ok {y:V}{u:Value}{Q:Unit→Shared→Prop} (I:Inv X pins σ H s) (e:H a=some (.ins C dx fs)) (c:Cls X.K C) (n:NoAttr X.K C f) (hl:fs.length < 1000) (ry:RelV y u)
    (h:∀ s',Inv X pins σ (upd H a (.ins C dx (putF f y fs))) s'→Q () s'):wpAny (model X.prog X.w) A (setAttr (.ref a) f u) Q E s:=by
  obtain ⟨mA,O,r,wi,_,ho⟩:=ins_get I.hok e
  have hz:(fs.map (·.1)).length ≤ sizeLine:=by rw [List.length_map,sizeLine_eq]; omega
  refine set_map I.kIn O c.sa c.po n.taker c.hd wi hz fun h' O' sb=>h _ ?_
  have hd:∃ o,h'.get? dx=some o:=let ⟨o,_,_,e',_⟩:=O'.ns; ⟨o,e'⟩
  refine I.write (x:=a) (e:=dx) (by rw [e]; exact True.intro) (.inr ho) (fun b q hb z=>(sb.2 b hb).trans z) hd ?_
  refine ⟨by rw [upd_ne O.ne]; exact ho,?_,O.ne,O'.obj,_,O'.ns,fun g=>?_,fun g hg=>?_⟩
  · have:=length_putF f y fs; omega
  · show RelO ((putF f y fs).lookup g) (if g=f then some u else mA g)
    rw [lookup_putF]
    by_cases q:g=f
    · rw [if_pos q,if_pos q]; exact ry
    · rw [if_neg q,if_neg q]; exact r g
  · by_cases q:g=f
    · rw [q]; exact (keys_putF f y fs).1
    · refine (keys_putF f y fs).2 g (wi g fun z=>hg ?_)
      show (if g=f then some u else mA g)=none
      rw [if_neg q]; exact z
theorem Inv.made (I:Inv X pins σ H s):Inv X pins σ (upd (upd H s.heap.objs.size (.own (s.heap.objs.size + 1))) (s.heap.objs.size + 1) (.ins C s.heap.objs.size []))
    { s with heap:=(s.heap.push W.emptyDict).push (W.instObj C s.heap.objs.size) }:=by
  have e1:(s.heap.push W.emptyDict).get? s.heap.objs.size=some W.emptyDict:=Heap.get?_push_size s.heap rfl
  have e2:((s.heap.push W.emptyDict).push (W.instObj C s.heap.objs.size)).get? (s.heap.objs.size + 1)=some (W.instObj C s.heap.objs.size):=by
    have:=Heap.get?_push_size (s.heap.push W.emptyDict) (o:=W.instObj C s.heap.objs.size) rfl
    rwa [Heap.size_push] at this
  have e3:(s.heap.push W.emptyDict).Ns s.heap.objs.size (fun _=>none):=⟨W.emptyDict,#[],_,e1,rfl,(fun e he=>absurd he (by simp)),fun _=>rfl⟩
  have I1:=I.laid (a:=s.heap.objs.size) (o:=.own (s.heap.objs.size + 1)) (h':=s.heap.push W.emptyDict) (t':=s.toks) (fun b u q=>Heap.get?_push_of_some _ q) (Nat.le_refl _) ⟨_,e1⟩
  refine I1.laid (a:=s.heap.objs.size + 1) (o:=.ins C s.heap.objs.size []) (t':=s.toks) (fun b u q=>Heap.get?_push_of_some _ q) (Nat.le_of_eq (Heap.size_push _ _)) ?_
  have ne:s.heap.objs.size ≠ s.heap.objs.size + 1:=Nat.ne_of_lt (Nat.lt_succ_self _)
  refine ⟨by rw [upd_ne ne,upd_same],Nat.zero_le _,ne,e2,fun _=>none,(Heap.Ns1.of_empty e3).at fun o q=>Heap.get?_push_of_some _ q,fun _=>True.intro,fun y hy=>absurd rfl hy⟩
theorem attr_of {prog:Program}{w:World}{env:Env}{e:Expr}{f:Str}{pos:Pos}{s:Shared}{Q:Value→Shared→Prop} (hb:attributeBase e f env (eval e env)=eval e env)
    (h:wpAny (model prog w) A (eval e env) (fun o s₁=>wpAny (model prog w) A (getAttr o f true) Q E s₁) E s):wpAny (model prog w) A (eval (.Attribute e f pos) env) Q E s :=
  Attribute_any_ h (by rw [arm_eval_Attribute,hb])
end
def tFld (K:W.Frag) (ta:TE) (f:Str):TE:=fun σ H Q=>ta σ H fun x H1=>∃ a C dx fs v,x=.ref a∧H1 a=some (.ins C dx fs)∧Cls K C∧NoAttr K C f∧fs.lookup f=some v∧Q v H1
def sFld (K:W.Frag) (ta tv:TE) (f:Str):TS:=fun D σ H=>tv σ H fun y H1=>ta σ H1 fun x H2=>∃ a C dx fs,x=.ref a∧H2 a=some (.ins C dx fs)∧Cls K C∧NoAttr K C f∧fs.length < 1000 ∧
  D.nx σ (upd H2 a (.ins C dx (putF f y fs)))
section
variable {X:Cx}{o e value:Expr}{f:Str}{pos pos' tpos:Pos}{ta tv:TE}
theorem pe_fld (he:PE X e ta) (hb:attributeBase e f X.env (eval e X.env)=eval e X.env):PE X (.Attribute e f pos) (tFld X.K ta f):=by
  intro pins s σ H Q I h
  refine attr_of hb (thn (he pins s σ H _ I h) fun u s1 ⟨x,H1,I1,rx,a,C,dx,fs,v,ex,ea,c,n,l,q⟩=>?_)
  subst ex
  obtain rfl:u=Value.ref a:=rx
  exact getattr_ok I1 ea c n l fun u' s2 I2 ru=>⟨v,H1,I2,ru,q⟩
theorem ps_fld (ha:PE X o ta) (hv:PE X value tv) (hs:swapsWith value (some (.Attribute o f pos')) pos.line X.env=pure false):PS X (.Assign [.Attribute o f pos'] value pos) (sFld X.K ta tv f):=by
  intro pins s σ H D I h
  refine plainObj_wpAny_Assign_Attribute (thn (hv pins s σ H _ I h) fun u s1 ⟨y,H1,I1,ry,q⟩=>thn (ha pins s1 σ H1 _ I1 q) fun ov s2 ⟨x,H2,I2,rx,a,C,dx,fs,ex,ea,c,n,l,q2⟩=>?_) hs
  subst ex
  obtain rfl:ov=Value.ref a:=rx
  exact setattr_ok I2 ea c n l ry fun s3 I3=>⟨σ,_,I3,q2⟩
end
section
variable {X:Cx}{pins:List (Addr × Obj)}{σ:St}{H:Hp}{s:Shared}{A:Around}{E:Value→Shared→Prop}{Q:Value→Shared→Prop}{c:Value}{b:Bool}
end
end L2
namespace L2
open PySem PySem.Spec PyProof.Rows
structure Room (k:Nat) (A:Around):Prop where
  hd:A.handled=none
  dp:A.depth + 3 * k + 5 < recursionLimit
  un:A.units + 16 * k + 200 < cLine
theorem Room.mono {j k:Nat}{A:Around} (r:Room k A) (h:j ≤ k):Room j A:=⟨r.hd,by have:=r.dp; omega,by have:=r.un; omega⟩
theorem Room.deeper {k:Nat}{A:Around} (r:Room (k + 1) A) (env:Env):Room k (A.deeper env) :=
  ⟨r.hd,by have:=r.dp; show A.depth + 1 + 3 * k + 5 < _; omega,by have:=r.un; show A.units + 3 + 16 * k + 200 < _; omega⟩
theorem make_depth {A:Around}{C:Addr}{us:List Value}{kw:List (Str × Value)}:(A.under (.builtin "type.__call__" ⟨.ref C :: us,kw⟩)).depth=A.depth + 1:=by
  first | rfl | simp [Around.under,Code.weight,Code.isCreation,Code.isGuard,Code.isCaller,Code.frames,Code.isFrame,guardIds]
theorem make_units {A:Around}{C:Addr}{us:List Value}{kw:List (Str × Value)}:(A.under (.builtin "type.__call__" ⟨.ref C :: us,kw⟩)).units=A.units + 1:=by
  first | rfl | simp [Around.under,Code.cUnits,Code.frames,Code.isFrame]
theorem Room.make {k:Nat}{A:Around} (r:Room (k + 1) A) (C:Addr) (us:List Value) (kw:List (Str × Value)):Room k (A.under (.builtin "type.__call__" ⟨.ref C :: us,kw⟩)) :=
  ⟨r.hd,by have:=r.dp; rw [make_depth]; omega,by have:=r.un; rw [make_units]; omega⟩
theorem Room.depth {k:Nat}{A:Around} (r:Room k A):A.depth < recursionLimit:=by have:=r.dp; omega
theorem Room.units {k:Nat}{A:Around} (r:Room k A):A.units + 64 < cLine:=by have:=r.un; omega
def tNil:TA:=fun _ H Q=>Q [] H
def tCons (ta:TE) (tr:TA):TA:=fun σ H Q=>ta σ H fun x H1=>tr σ H1 fun xs H2=>Q (x :: xs) H2
section
variable {X:Cx}{e:Expr}{es:List Expr}{te:TE}{t:TA}{pos:Pos}
theorem pa_nil:PA X [] tNil:=fun _ _ _ _ H Q I h=>Calls.spliced_nil ⟨[],H,I,.nil,h⟩
theorem pa_cons (ha:PE X e te) (hr:PA X es t) (hs:starEach (e :: es) X.env=(false,eval e X.env) :: starEach es X.env:=by rfl):PA X (e :: es) (tCons te t):=by
  intro pos pins s σ H Q I h
  rw [hs]
  show wpAny _ _ (spliced ((false,eval e X.env) :: backTo pos (starEach es X.env))) _ _ s
  refine Calls.spliced_cons (thn (ha pins s σ H _ I h) fun u s1 ⟨x,H1,I1,r1,q1⟩=>?_)
  exact thn (hr pos pins s1 σ H1 _ I1 q1) fun us s2 ⟨xs,H2,I2,r2,q2⟩=>⟨x :: xs,H2,I2,.cons r1 r2,q2⟩
def tTup (t:TA):TE:=fun σ H Q=>t σ H fun xs H1=>xs.length ≤ sizeLine∧∀ p,H1 p=none→Q (.ref p) (upd H1 p (.tup xs))
def tLst (t:TA):TE:=fun σ H Q=>t σ H fun xs H1=>xs.length ≤ sizeLine∧∀ p,H1 p=none→Q (.ref p) (upd H1 p (.lst xs))
theorem pe_tup {x1} (h:PA X es t):PE X (.Tuple es x1 pos) (tTup t):=by
  intro pins s σ H Q I hq
  refine wpAny_Tuple_spliced (thn (h pos pins s σ H _ I hq) fun us s1 ⟨xs,H1,I1,r,z,q⟩=>⟨by rw [← r.length]; exact z,?_⟩)
  have hf:H1 s1.heap.objs.size=none:=I1.hok.fresh (Nat.le_refl _)
  refine ⟨.ref s1.heap.objs.size,upd H1 s1.heap.objs.size (.tup xs),I1.laid (t':=s1.toks) (fun b u e=>Heap.get?_push_of_some _ e) (Nat.le_refl _) ?_,rfl,q _ hf⟩
  exact ⟨z,us,r,⟨_,Heap.get?_push_size _ rfl,rfl,_,rfl⟩⟩
theorem pe_lst (h:PA X es t):PE X (.List es pos) (tLst t):=by
  intro pins s σ H Q I hq
  refine wpAny_List_spliced (thn (h pos pins s σ H _ I hq) fun us s1 ⟨xs,H1,I1,r,z,q⟩=>⟨by rw [← r.length]; exact z,?_⟩)
  have hf:H1 s1.heap.objs.size=none:=I1.hok.fresh (Nat.le_refl _)
  refine ⟨.ref s1.heap.objs.size,upd H1 s1.heap.objs.size (.lst xs),I1.laid (t':=s1.toks) (fun b u e=>Heap.get?_push_of_some _ e) (Nat.le_refl _) ?_,rfl,q _ hf⟩
  exact ⟨z,us,0,r,Heap.get?_push_size _ rfl⟩
end
abbrev Sp:=List V→Hp→VK→XK→Prop
abbrev CXT:=List Env→Hp→Shared→XK→Value→Shared→Prop
structure Env0 (P:Program) (w:World) (K:W.Frag) (mg:Str→Option Value) (base:Heap) (A:Around) (outer:List Env) (s:Shared) (H:Hp):Prop where
  frames:A.frames=some outer
  mod:Mod K mg base
  bs:∀ b o,base.get? b=some o→s.heap.get? b=some o∧H b=none
  bsz:base.objs.size ≤ s.heap.objs.size
  funs:s.heap.FunFrames base outer
  frf:∀ b∈frs outer,H b=none
  hok:HOk P w H s.heap
  bare:AllBare s.gens
def CE (outer:List Env) (P:Program) (w:World) (H:Hp) (s:Shared) (Q:VK) (u:Value) (s':Shared):Prop :=
  ∃ v H',s'.os=s.os∧AllBare s'.gens∧Un (frs outer) [] H H' s.heap s'.heap∧HOk P w H' s'.heap∧RelV v u∧Q v H'
def CR (CX:CXT) (outer:List Env) (P:Program) (w:World) (H:Hp) (s:Shared) (Q:VK) (E:XK) (r:Result) (s':Shared):Prop :=
  match r with
  | .ok (.ret u)=>CE outer P w H s Q u s'
  | .ok _=>False
  | .error e=>CX outer H s E e s'
structure FnOk (P:Program) (w:World) (K:W.Frag) (mg:Str→Option Value) (base:Heap) (CX:CXT) (k:Nat) (f:Addr) (fd:FuncData) (ps:List Str) (sp:Sp):Prop where
  len:∀ vs H Q E,sp vs H Q E→vs.length=ps.length
  run:∀ (A:Around) (outer:List Env) (s:Shared) (H:Hp) (args:Args) (us:List Value) (vs:List V) (Q:VK) (E:XK),Room k A→Env0 P w K mg base A outer s H→BindsTo s fd args (ps.zip us)→Vals vs us→sp vs H Q E →
    codeAny (model P w) A (.call (.ref f) args) (CR CX outer P w H s Q E) s
theorem FnOk.mono {P:Program}{w:World}{K:W.Frag}{mg:Str→Option Value}{base:Heap}{CX:CXT}{j k:Nat}{f:Addr}{fd:FuncData}{ps:List Str}{sp:Sp} (F:FnOk P w K mg base CX j f fd ps sp) (h:j ≤ k) :
    FnOk P w K mg base CX k f fd ps sp:=⟨F.len,fun A outer s H args us vs Q E hr=>F.run A outer s H args us vs Q E (hr.mono h)⟩
theorem Env0.make {P:Program}{w:World}{K:W.Frag}{mg:Str→Option Value}{base:Heap}{A:Around}{outer:List Env}{s:Shared}{H:Hp} (e:Env0 P w K mg base A outer s H) (C:Addr) (us:List Value) (kw:List (Str × Value)) :
    Env0 P w K mg base (A.under (.builtin "type.__call__" ⟨.ref C :: us,kw⟩)) outer s H:=⟨by first | exact e.frames | (simpa [Around.under,Code.envs,Code.isFrame,pushEnvs] using e.frames),e.mod,e.bs,e.bsz,e.funs,e.frf,e.hok,e.bare⟩
section
variable {X:Cx}{pins:List (Addr × Obj)}{σ:St}{H:Hp}{s s':Shared}
theorem Inv.env0 (I:Inv X pins σ H s):Env0 X.prog X.w X.K X.mg X.base X.A X.stack s H :=
  ⟨I.ok.frames,I.ok.mod,I.bs,Nat.le_trans I.ok.bsz I.sz,I.stack,I.stkFree,I.hok,I.bare⟩
theorem Inv.after {Q:VK}{u:Value} (I:Inv X pins σ H s) (h:CE X.stack X.prog X.w H s Q u s'):EP X pins σ Q u s':=by
  obtain ⟨v,H',os,bare,un,hok,r,q⟩:=h
  obtain ⟨hh,g,d,t,os'⟩:=s'
  obtain rfl:os'=s.os:=os
  exact ⟨v,H',I.call (h':=hh) (g':=g) (d':=d) (t':=t) (ch:=[]) un hok bare (fun b z=>absurd z (by simp)),r,q⟩
end
def tCall (sp:Sp) (dvs:List V) (E:XK) (t:TA):TE:=fun σ H Q=>t σ H fun vs H1=>sp (vs++dvs) H1 Q E
def tMeth (C:Addr) (m:Str) (sp:Sp) (dvs:List V) (E:XK) (ta:TE) (t:TA):TE:=fun σ H Q=>ta σ H fun x H1=>∃ a dx fs,x=.ref a∧H1 a=some (.ins C dx fs)∧fs.lookup m=none ∧
  t σ H1 fun vs H2=>sp (x :: (vs++dvs)) H2 Q E
def tMake (C:Addr) (sp:Sp) (dvs:List V) (E:XK) (t:TA):TE:=fun σ H Q=>t σ H fun vs H1=>∀ x dx,H1 x=none→H1 dx=none→dx ≠ x →
  sp (.ref x :: (vs++dvs)) (upd (upd H1 dx (.own x)) x (.ins C dx [])) (fun v H2=>v=.non∧Q (.ref x) H2) E
def Binds (K:W.Frag) (fd:FuncData) (ps:List Str) (ds:List Value):Prop :=
  ∀ (s:Shared) (us:List Value),K.In s.heap→(us++ds).length=ps.length→BindsTo s fd ⟨us,[]⟩ (ps.zip (us++ds))
theorem Binds.all {K:W.Frag}{fd:FuncData}{ps:List Str} (h:∀ us:List Value,us.length=ps.length→bindArgs fd ⟨us,[]⟩=pure (ps.zip us)):Binds K fd ps []:=fun s us _ hl=>by
  rw [List.append_nil] at hl ⊢
  exact .of_eq (h us hl)
def Passes (CX:CXT) (X:Cx) (E:XK):Prop:=∀ (pins:List (Addr × Obj)) (σ:St) (H:Hp) (s:Shared) (e:Value) (s':Shared),Inv X pins σ H s→CX X.stack H s E e s'→X.xe e s'
section
variable {X:Cx}{CX:CXT}{k:Nat}{f C:Addr}{fd:FuncData}{ps:List Str}{sp:Sp}{dvs:List V}{ds:List Value}{E:XK}{x m:Str}{p pos apos:Pos}{e o:Expr}{es:List Expr}{ta:TE}{t:TA}
theorem run_fn {pins:List (Addr × Obj)}{σ:St}{H:Hp}{s:Shared}{Q:VK}{us:List Value}{vs:List V} (F:FnOk X.prog X.w X.K X.mg X.base CX k f fd ps sp) (hr:Room k X.A) (hb:Binds X.K fd ps ds) (hd:Vals dvs ds) (hx:Passes CX X E)
    (I:Inv X pins σ H s) (r:Vals vs us) (h:sp (vs++dvs) H Q E):wpAny (model X.prog X.w) X.A (call (.ref f) us) (EP X pins σ Q) X.xe s:=by
  have r2:Vals (vs++dvs) (us++ds):=r.append hd
  have hl:(us++ds).length=ps.length:=by rw [← r2.length]; exact F.len _ _ _ _ h
  refine wpAny_call (codeAny_mono (F.run X.A X.stack s H ⟨us,[]⟩ (us++ds) (vs++dvs) Q E hr I.env0 (hb s us I.kIn hl) r2 h) fun r s' hq=>?_)
  cases r with
  | error e=>exact hx pins σ H s e s' I hq
  | ok fl =>
    cases fl with
    | ret u=>exact I.after hq
    | next=>exact False.elim hq
    | brk=>exact False.elim hq
    | cont=>exact False.elim hq
theorem pe_call (F:FnOk X.prog X.w X.K X.mg X.base CX k f fd ps sp) (hr:Room k X.A) (hg:Gl X x) (hm:X.mg x=some (.ref f)) (hk:W.keepIn X.K (.ref f)=true) (hb:Binds X.K fd ps ds) (hd:Vals dvs ds) (hx:Passes CX X E)
    (ha:PA X (e :: es) t) (hdb:(x == ("__debug__":Str))=false:=by decide) (he:starEach (e :: es) X.env=(false,eval e X.env) :: starEach es X.env:=by rfl) (hpl:(backTo pos (starEach es X.env)).any (·.1)=false:=by rfl) :
    PE X (.Call (.Name x p) (e :: es) [] pos) (tCall sp dvs E t):=by
  intro pins s σ H Q I h
  refine wpAny_Call_Name_kw (ld_glob I hg hm ?_ hdb)
  refine W.callWith_K (h₀:=X.base) I.ok.mod.kin hk (thn (ha pos pins s σ H _ I h) fun us s1 ⟨vs,H1,I1,r,q⟩=>⟨I1.kIn,?_⟩) he hpl
  exact run_fn F hr hb hd hx I1 r q
theorem pe_meth0 {pl:Sem Bool} (he:PE X o ta) (c:Cls X.K C) (hm:Meth X.K C m f) (F:FnOk X.prog X.w X.K X.mg X.base CX k f fd ps sp) (hr:Room k X.A) (hb:Binds X.K fd ps ds) (hd:Vals dvs ds) (hx:Passes CX X E)
    (ht:eval (.Call (.Attribute o m apos) [] [] pos) X.env=(do
      let ov ← eval o X.env
      standAt apos.atName
      let (f,first) ← holding [ov] (getMethod ov m pl)
      callWith pos f first (backTo pos (starEach [] X.env)) (backToKw pos (keywordEach [] X.env))):=by rfl) :
    PE X (.Call (.Attribute o m apos) [] [] pos) (tMeth C m sp dvs E ta tNil):=by
  intro pins s σ H Q I h
  refine W.methodCall_KW (pl:=pl) (thn (he pins s σ H _ I h) fun u s1 ⟨x,H1,I1,rx,a,dx,fs,ex,ea,l,q⟩=>?_) ht
  subst ex
  obtain rfl:u=Value.ref a:=rx
  refine getmeth_ok I1 ea c hm l ?_
  exact W.callWith_K0 (first:=[.ref a]) I1.kIn hm.kp (run_fn (us:=[.ref a]) (vs:=[.ref a]) F hr hb hd hx I1 (.cons rfl .nil) q)
structure Mk (K:W.Frag) (C f:Addr):Prop where
  makes:W.makesIn K C=true
  init:W.findIn K (.ref C) "__init__"=some (some (.ref f))
  fn:W.isFn K (.ref f)=true
  kp:W.keepIn K (.ref C)=true
theorem run_make {pins:List (Addr × Obj)}{σ:St}{H:Hp}{s:Shared}{Q:VK}{us:List Value}{vs:List V} (M:Mk X.K C f) (F:FnOk X.prog X.w X.K X.mg X.base CX k f fd ps sp) (hr:Room (k + 1) X.A) (hb:Binds X.K fd ps ds) (hd:Vals dvs ds)
    (hx:Passes CX X E) (I:Inv X pins σ H s) (r:Vals vs us)
    (h:∀ x dx,H x=none→H dx=none→dx ≠ x→sp (.ref x :: (vs++dvs)) (upd (upd H dx (.own x)) x (.ins C dx [])) (fun v H2=>v=.non∧Q (.ref x) H2) E) :
    wpAny (model X.prog X.w) X.A (call (.ref C) us) (EP X pins σ Q) X.xe s:=by
  have hq:=h (s.heap.objs.size + 1) s.heap.objs.size (I.hok.fresh (Nat.le_succ _)) (I.hok.fresh (Nat.le_refl _)) (Nat.ne_of_lt (Nat.lt_succ_self _))
  have I2:=Inv.made (C:=C) I
  have r2:Vals (V.ref (s.heap.objs.size + 1) :: (vs++dvs)) (Value.ref (s.heap.objs.size + 1) :: (us++ds)):=.cons rfl (r.append hd)
  have hl:(Value.ref (s.heap.objs.size + 1) :: us++ds).length=ps.length:=by
    have e:=r2.length
    rw [F.len _ _ _ _ hq] at e
    exact e.symm
  refine wpAny_call (make_map (f:=f) I.kIn M.makes M.init (beq_iff_eq.mp M.fn) (codeAny_mono (F.run _ X.stack _ _ ⟨Value.ref (s.heap.objs.size + 1) :: us,[]⟩ (Value.ref (s.heap.objs.size + 1) :: (us++ds)) _ _ E (hr.make C us [])
    (I2.env0.make C us []) (hb _ (Value.ref (s.heap.objs.size + 1) :: us) I2.kIn hl) r2 hq) fun r s' hq'=>?_))
  cases r with
  | error e=>exact hx pins σ _ _ e s' I2 hq'
  | ok fl =>
    cases fl with
    | ret u =>
      obtain ⟨v,H',I3,rv,ev,q3⟩:=I2.after hq'
      subst ev
      exact ⟨rv,⟨V.ref (s.heap.objs.size + 1),H',I3,rfl,q3⟩⟩
    | next=>exact False.elim hq'
    | brk=>exact False.elim hq'
    | cont=>exact False.elim hq'
theorem pe_make (M:Mk X.K C f) (F:FnOk X.prog X.w X.K X.mg X.base CX k f fd ps sp) (hr:Room (k + 1) X.A) (hg:Gl X x) (hm:X.mg x=some (.ref C)) (hb:Binds X.K fd ps ds) (hd:Vals dvs ds) (hx:Passes CX X E)
    (ha:PA X (e :: es) t) (hdb:(x == ("__debug__":Str))=false:=by decide) (he:starEach (e :: es) X.env=(false,eval e X.env) :: starEach es X.env:=by rfl) (hpl:(backTo pos (starEach es X.env)).any (·.1)=false:=by rfl) :
    PE X (.Call (.Name x p) (e :: es) [] pos) (tMake C sp dvs E t):=by
  intro pins s σ H Q I h
  refine wpAny_Call_Name_kw (ld_glob I hg hm ?_ hdb)
  refine W.callWith_K (h₀:=X.base) I.ok.mod.kin M.kp (thn (ha pos pins s σ H _ I h) fun us s1 ⟨vs,H1,I1,r,q⟩=>⟨I1.kIn,?_⟩) he hpl
  exact run_make M F hr hb hd hx I1 r q
theorem pe_make0 (M:Mk X.K C f) (F:FnOk X.prog X.w X.K X.mg X.base CX k f fd ps sp) (hr:Room (k + 1) X.A) (hg:Gl X x) (hm:X.mg x=some (.ref C)) (hb:Binds X.K fd ps ds) (hd:Vals dvs ds) (hx:Passes CX X E)
    (hdb:(x == ("__debug__":Str))=false:=by decide):PE X (.Call (.Name x p) [] [] pos) (tMake C sp dvs E tNil):=by
  intro pins s σ H Q I h
  refine wpAny_Call_Name_kw (ld_glob I hg hm ?_ hdb)
  exact W.callWith_K0 I.kIn M.kp (run_make (us:=[]) M F hr hb hd hx I .nil h)
end
section
variable {X:Cx}{CX:CXT}{k:Nat}{f C:Addr}{fd:FuncData}{ps ks:List Str}{sp:Sp}{E:XK}{x m:Str}{p pos apos kpos:Pos}{e o:Expr}{es:List Expr}{kws:List Keyword}{te ta:TE}{t tk:TA}{nm:Option Str}
variable {g:List Value→List Value→List Value}{gV:List V→List V→List V}
end
structure FnScope (N P:List Str) (sc:Scope):Prop where
  kind:sc.kind=.function
  co:sc.isCoroutine=false
  gen:sc.isGenerator=false
  nd:N.Nodup
  pre:N.take P.length=P
  par:∀ x∈P,sc.names.lookup x=some .local ∨ sc.names.lookup x=some .cell
  nofree:∀ y∈sc.names,y.2 ≠ .free
theorem bindL_out {kindOf:Str→Option NameKind}{x:Str}:∀ {binds:List (Str × Value)}{m:Str→Option Value},(∀ v,(x,v) ∉ binds)→bindL kindOf binds m x=m x
  | [],_,_=>rfl
  | (n,v) :: r,m,h=>by
    unfold bindL
    rw [bindL_out fun w hw=>h w (List.mem_cons_of_mem _ hw)]
    split
    · have:x ≠ n:=by rintro rfl; exact h v List.mem_cons_self
      simp [this]
    · rfl
theorem bindC_out {kindOf:Str→Option NameKind}{x:Str}:∀ {binds:List (Str × Value)}{m:Str→Option Value},(∀ v,(x,v) ∉ binds)→bindC kindOf binds m x=m x
  | [],_,_=>rfl
  | (n,v) :: r,m,h=>by
    unfold bindC
    rw [bindC_out fun w hw=>h w (List.mem_cons_of_mem _ hw)]
    split
    · rfl
    · have:x ≠ n:=by rintro rfl; exact h v List.mem_cons_self
      simp [this]
theorem bindL_get {kindOf:Str→Option NameKind}{x:Str}{v:Value}:∀ {P:List Str}{vs:List Value}{i:Nat}{m:Str→Option Value},P.Nodup→P[i]?=some x→vs[i]?=some v→kindOf x=some .local →
    bindL kindOf (P.zip vs) m x=some v
  | [],_,_,_,_,h,_,_=>by simp at h
  | _ :: _,[],_,_,_,_,h,_=>by simp at h
  | p :: P,w :: vs,0,m,nd,h1,h2,hk=>by
    simp at h1 h2; subst h1; subst h2
    show bindL kindOf ((p,w) :: P.zip vs) m p=_
    unfold bindL
    rw [bindL_out fun v hv=>(List.nodup_cons.mp nd).1 (List.of_mem_zip hv).1,if_pos hk]
    simp
  | p :: P,w :: vs,i + 1,m,nd,h1,h2,hk=>by
    show bindL kindOf ((p,w) :: P.zip vs) m x=_
    unfold bindL
    exact bindL_get (i:=i) (List.nodup_cons.mp nd).2 (by simpa using h1) (by simpa using h2) hk
theorem bindC_get {kindOf:Str→Option NameKind}{x:Str}{v:Value}:∀ {P:List Str}{vs:List Value}{i:Nat}{m:Str→Option Value},P.Nodup→P[i]?=some x→vs[i]?=some v→kindOf x ≠ some .local →
    bindC kindOf (P.zip vs) m x=some v
  | [],_,_,_,_,h,_,_=>by simp at h
  | _ :: _,[],_,_,_,_,h,_=>by simp at h
  | p :: P,w :: vs,0,m,nd,h1,h2,hk=>by
    simp at h1 h2; subst h1; subst h2
    show bindC kindOf ((p,w) :: P.zip vs) m p=_
    unfold bindC
    rw [bindC_out fun v hv=>(List.nodup_cons.mp nd).1 (List.of_mem_zip hv).1,if_neg hk]
    simp
  | p :: P,w :: vs,i + 1,m,nd,h1,h2,hk=>by
    show bindC kindOf ((p,w) :: P.zip vs) m x=_
    unfold bindC
    exact bindC_get (i:=i) (List.nodup_cons.mp nd).2 (by simpa using h1) (by simpa using h2) hk
def start (N:List Str) (vs:List V):St:=vs.map some++List.replicate (N.length - vs.length) none
def cxOf (CX:CXT) (P:Program) (w:World) (K:W.Frag) (mg:Str→Option Value) (base:Heap) (N:List Str) (qual:Str) (scope:Scope) (f:Addr) (cd:Value) (A:Around) (outer:List Env) (s:Shared) (H:Hp) (E:XK):Cx where
  prog:=P
  w:=w
  K:=K
  mg:=mg
  base:=base
  A:=A.deeper (envOfC qual scope s.heap.objs.size f cd)
  N:=N
  s₀:=s
  H₀:=H
  env:=envOfC qual scope s.heap.objs.size f cd
  outer:=outer
  stack:=envOfC qual scope s.heap.objs.size f cd :: outer
  ex:=[]
  calm:=true
  fn:=fun _=>true
  pn:=[]
  xe:=fun e s'=>wpAny (model P w) (A.deeper (envOfC qual scope s.heap.objs.size f cd)) (leaving (envOfC qual scope s.heap.objs.size f cd) e) (fun _ s''=>CX outer H s E e s'') (fun e' s''=>CX outer H s E e' s'') s'
theorem cell_has {sc:Scope}{n:Nat}{x:Str} (h:sc.names.lookup x=some .cell):∃ c,(cellsFrom n sc.names []).lookup x=some c:=by
  have q:=W.cellsFrom_some sc.names n [] (.inl h)
  exact Option.isSome_iff_exists.mp q
theorem inv_start {CX:CXT}{P:Program}{w:World}{K:W.Frag}{mg:Str→Option Value}{base:Heap}{N ps:List Str}{qual:Str}{scope:Scope}{f:Addr}{cd:Value}{A:Around}{outer:List Env}{s s1:Shared}{H:Hp}{E:XK}{us:List Value}{vs:List V}
    (S:FnScope N ps scope) (hd:A.handled=none) (e0:Env0 P w K mg base A outer s H) (hl:vs.length=ps.length) (r:Vals vs us)
    (x:InCallC s s.heap.objs.size (bindL (envOfC qual scope s.heap.objs.size f cd).kindOf (ps.zip us) fun _=>none) (cellsFrom (s.heap.objs.size + 1) scope.names []) (bindC (envOfC qual scope s.heap.objs.size f cd).kindOf (ps.zip us) fun _=>none) s1) :
    Inv (cxOf CX P w K mg base N qual scope f cd A outer s H E) [] (start N vs) H s1:=by
  have hpl:ps.length ≤ N.length:=by have:=congrArg List.length S.pre; rw [List.length_take] at this; omega
  obtain ⟨h1,tk,rfl,hk⟩:=x.done
  have noA:∀ b:Addr,b ∉ (cxOf CX P w K mg base N qual scope f cd A outer s H E).ex:=fun b z=>absurd (show b∈([]:List Addr) from z) (by simp)
  refine ⟨⟨e0.mod,S.kind,rfl,rfl,Nat.le_refl _,fun y z c h1 h2=>?_,fun y hy=>?_,fun y c _ h=>?_,fun _=>hd,Around.frames_deeper e0.frames,.inr ⟨rfl,rfl⟩,fun b z=>absurd z (noA b),e0.bs,e0.bsz,fun b _ _=>noA b,fun b z=>absurd z (noA b),e0.funs,e0.frf⟩,
    rfl,e0.bare,Un.kept hk,⟨_,x.toInCall.ns,fun i y v h1 h2 h3=>?_⟩,fun y c h=>⟨_,x.cell y c h⟩,e0.hok.fresh (Nat.le_refl _),fun y c h=>?_,fun p hp=>absurd (show p∈([]:List (Addr × Obj)) from hp) (by simp),e0.hok.kept hk,?_⟩
  · exact name_of_addr x.apart (PySem.mem_of_lookup h1) (PySem.mem_of_lookup h2)
  · have hy:scope.names.lookup y=some .cell ∨ scope.names.lookup y=some .free:=hy
    rcases hy with hy | hy
    · exact cell_has hy
    · exact absurd rfl (S.nofree _ (PySem.mem_of_lookup hy))
  · exact Nat.le_of_lt (x.above y c (PySem.mem_of_lookup h))
  · have hi:i < vs.length:=by
      unfold start at h2
      by_cases hi:i < vs.length
      · exact hi
      · rw [List.getElem?_append_right (by simpa using hi)] at h2
        rw [List.getElem?_replicate] at h2
        split at h2 <;> cases h2
    have ha:vs[i]?=some v:=by
      unfold start at h2
      rw [List.getElem?_append_left (by simpa using hi),List.getElem?_map] at h2
      cases e:vs[i]? with
      | none=>rw [e] at h2; cases h2
      | some a=>rw [e] at h2; cases h2; rfl
    obtain ⟨u,hu,rv⟩:=r.get ha
    have hp:ps[i]?=some y:=by
      rw [← S.pre,List.getElem?_take_of_lt (by omega)]; exact h1
    have ndP:ps.Nodup:=by rw [← S.pre]; exact S.nd.sublist (List.take_sublist _ _)
    refine ⟨u,rv,?_⟩
    rcases S.par y (List.mem_of_getElem? hp) with k | k
    · exact .inl ⟨k,bindL_get ndP hp hu k⟩
    · obtain ⟨c,e⟩:=cell_has (n:=s.heap.objs.size + 1) k
      refine .inr ⟨.inl k,c,e,?_⟩
      have q:=x.cell y c e
      rw [bindC_get ndP hp hu (by show scope.names.lookup y ≠ _; rw [k]; decide)] at q
      exact q
  · exact e0.hok.fresh (Nat.le_of_lt (x.above y c (PySem.mem_of_lookup h)))
  · unfold start
    show _=N.length
    rw [List.length_append,List.length_map,List.length_replicate]
    omega
theorem fn_of {CX:CXT}{P:Program}{w:World}{K:W.Frag}{mg:Str→Option Value}{base:Heap}{k:Nat}{f:Addr}{name qual:Str}{params:Arguments}{body:List Stmt}{scope:Scope}{dV kV doc pm cdv ct oc:Value}{an od:Option Addr}
    {osl:Array (Option Value)}{N ps:List Str}{sp:Sp} (lk:K.lookup f=some ⟨oc,od,.func (W.fnOf name qual params body scope dV kV doc pm an cdv ct),osl⟩) (hcd:W.codeIn K cdv qual=true) (S:FnScope N ps scope)
    (len:∀ vs H Q E,sp vs H Q E→vs.length=ps.length)
    (hbody:∀ (A:Around) (outer:List Env) (s:Shared) (H:Hp) (vs:List V) (Q:VK) (E:XK),Room k (A.deeper (envOfC qual scope s.heap.objs.size f cdv))→sp vs H Q E →
      ∃ t,PSs (cxOf CX P w K mg base N qual scope f cdv A outer s H E) body t∧t { nx:=fun _ H'=>Q .non H',rt:=Q } (start N vs) H) :
    FnOk P w K mg base CX (k + 1) f (W.fnOf name qual params body scope dV kV doc pm an cdv ct) ps sp:=by
  refine ⟨len,fun A outer s H args us vs Q E hr e0 hb r hsp=>?_⟩
  have hl:=len _ _ _ _ hsp
  have KX:K.In s.heap:=e0.mod.kin.keeps fun b o e=>(e0.bs b o e).1
  have lim:s.heap.NoLimit:=e0.mod.nolimit.keeps fun b o e=>(e0.bs b o e).1
  have hkind:∀ y∈ps.zip us,scope.names.lookup y.1=some .local ∨ (scope.names.lookup y.1=some .cell∧((cellsFrom (s.heap.objs.size + 1) scope.names []).lookup y.1).isSome=true):=fun ⟨n,v⟩ hy=>by
    rcases S.par n (List.of_mem_zip hy).1 with q | q
    · exact .inl q
    · exact .inr ⟨q,W.cellsFrom_some _ _ _ (.inl q)⟩
  refine codeAny_call_function hr.depth (KX _ _ lk) rfl S.co S.gen rfl (W.codeRec_of KX hcd) (hb _ _ _ _ ?_)
  refine wpAny_newFunctionEnv_cells S.kind hkind fun env he s1 x=>?_
  subst he
  refine ⟨lim.keeps x.toInCall.keep,codeAny_func ?_⟩
  obtain ⟨t,ht,hq⟩:=hbody A outer s H vs Q E (hr.deeper _) hsp
  have I:Inv (cxOf CX P w K mg base N qual scope f cdv A outer s H E) [] (start N vs) H s1:=inv_start S hr.hd e0 hl r x
  refine wpAny_mono (ht [] s1 (start N vs) H _ I hq) (fun fl s' hs=>?_) fun e s' hs=>hs
  have fin:∀ {σ':St}{H':Hp}{v:V}{u:Value},Inv (cxOf CX P w K mg base N qual scope f cdv A outer s H E) [] σ' H' s'→RelV v u→Q v H'→CE outer P w H s Q u s' :=
    fun {σ' H' v u} J rv q=>⟨v,H',J.os,J.bare,J.base,J.hok,rv,q⟩
  cases fl with
  | ret u =>
    obtain ⟨v,σ',H',J,rv,q⟩:=hs
    exact fin J rv q
  | next =>
    obtain ⟨σ',H',J,q⟩:=hs
    exact fin (v:=V.non) (u:=Value.none) J rfl q
  | brk =>
    obtain ⟨_,_,_,q⟩:=hs
    exact False.elim q
  | cont =>
    obtain ⟨_,_,_,q⟩:=hs
    exact False.elim q
end L2
namespace L2
open PySem PySem.Spec PyProof.Rows
section
variable {X:Cx}{x:Str}{p pos:Pos}{e:Expr}{es:List Expr}{t:TA}{id T:String}{r:List V→Hp→VK→Prop}
def tCB (r:List V→Hp→VK→Prop) (t:TA):TE:=fun σ H Q=>t σ H fun vs H1=>r vs H1 Q
theorem pe_callB (hc:CallR X (.builtin id) r) (hg:Gl X x) (hm:X.mg x=none) (hv:bootBuiltins x=some (.builtin id)) (ha:PA X (e :: es) t) (hn:x ≠ "__name__":=by decide) (hdb:(x == ("__debug__":Str))=false:=by decide)
    (he:starEach (e :: es) X.env=(false,eval e X.env) :: starEach es X.env:=by rfl) (hpl:(backTo pos (starEach es X.env)).any (·.1)=false:=by rfl):PE X (.Call (.Name x p) (e :: es) [] pos) (tCB r t):=by
  intro pins s σ H Q I h
  refine wpAny_Call_Name_kw (ld_blt I hg hm hv ?_ hn hdb)
  exact PyProof.Rows.callWith_builtin1 (thn (ha pos pins s σ H _ I h) fun us s1 ⟨vs,H1,I1,r1,q1⟩=>hc pins s1 σ H1 vs us Q I1 r1 q1) he hpl
theorem pe_callTy (hc:CallR X (.type T) r) (hg:Gl X x) (hm:X.mg x=none) (hv:bootBuiltins x=some (.type T)) (ha:PA X (e :: es) t) (hn:x ≠ "__name__":=by decide) (hdb:(x == ("__debug__":Str))=false:=by decide)
    (he:starEach (e :: es) X.env=(false,eval e X.env) :: starEach es X.env:=by rfl) (hpl:(backTo pos (starEach es X.env)).any (·.1)=false:=by rfl):PE X (.Call (.Name x p) (e :: es) [] pos) (tCB r t):=by
  intro pins s σ H Q I h
  refine wpAny_Call_Name_kw (ld_blt I hg hm hv ?_ hn hdb)
  exact PyProof.Rows.callWith_type1 (thn (ha pos pins s σ H _ I h) fun us s1 ⟨vs,H1,I1,r1,q1⟩=>hc pins s1 σ H1 vs us Q I1 r1 q1) he hpl
end
end L2
namespace HT
open PySem PyProof.Rows
section
open PySem.SeqAt
open PySem.AutoSeq1 (wpAny_loadPart')
open PySem.MeetsSeq PySem.MeetsSeq2 PySem.MeetsSeq3
end
section
variable {prog:Program}{w:World}{A:Around}{E:Value→Shared→Prop}{s:Shared}
theorem cat_tup {t b:Addr}{vs ws:List Value}{Q:Value→Shared→Prop} (ht:IsTup s.heap t vs.toArray) (hb:IsTup s.heap b ws.toArray) (hv:vs ≠ [])
    (h1:ws=[]→Q (.ref t) s) (h2:ws ≠ []→Q (.ref s.heap.objs.size) { s with heap:=s.heap.push { cls:=.type "tuple",data:=.seq (vs++ws).toArray } })
    (hsz:vs.length + ws.length ≤ sizeLine):wpAny (model prog w) A (binaryOp .Add (.ref t) (.ref b)) Q E s:=by
  obtain ⟨⟨cls,dd,data,sl⟩,ho,hc,n,hd⟩:=id ht
  obtain ⟨⟨cls2,dd2,data2,sl2⟩,ho2,hc2,n2,hd2⟩:=id hb
  simp only at hc hd hc2 hd2
  subst hc hd hc2 hd2
  have e:vs.toArray++ws.toArray=(vs++ws).toArray:=by simp
  by_cases hw:ws=[]
  · exact concat_meets ⟨_,ho,rfl⟩ ⟨_,ho2,rfl⟩ noFill_tuple_add seq_tuple_add PySem.F.slot_tuple_add PySem.F.entry_tuple_add (PySem.F.args_tuple_add_2 _ _)
      (tuple_addW1 t b vs.toArray ws.toArray n n2 dd dd2 sl sl2 (by simpa using hv) (by simp [hw])) ⟨ho,ho2,h1 hw⟩
  · refine concat_meets ⟨_,ho,rfl⟩ ⟨_,ho2,rfl⟩ noFill_tuple_add seq_tuple_add PySem.F.slot_tuple_add PySem.F.entry_tuple_add (PySem.F.args_tuple_add_2 _ _)
      (tuple_addW2 t b vs.toArray ws.toArray n n2 dd dd2 sl sl2 (by simpa using hv) (by simpa using hw) (by rw [List.size_toArray,List.size_toArray]; exact hsz)) ⟨ho,ho2,?_⟩
    rw [e]
    exact h2 hw
def sIx (n d:Nat):Option Int→Nat
  | none=>d
  | some v=>if v < 0 then (v + (n:Int)).toNat else min v.toNat n
theorem sIx_le (n d:Nat) (hd:d ≤ n) (o:Option Int):sIx n d o ≤ n:=by
  cases o with
  | none=>exact hd
  | some v =>
    show (if v < 0 then (v + (n:Int)).toNat else min v.toNat n) ≤ n
    by_cases hv:v < 0
    · rw [if_pos hv]; omega
    · rw [if_neg hv]; exact Nat.min_le_right _ _
theorem clip_eq (v:Int) (n d:Nat):(if v < 0 then max (v + (n:Int)) 0 else min v (n:Int))=((sIx n d (some v):Nat):Int):=by
  show (if v < 0 then max (v + (n:Int)) 0 else min v (n:Int))=(((if v < 0 then (v + (n:Int)).toNat else min v.toNat n):Nat):Int)
  by_cases hv:v < 0
  · simp only [if_pos hv]; omega
  · simp only [if_neg hv]; omega
theorem adjust_gen (lo hi:Option Int) (n:Nat):Builtin.Slice.sliceAdjust lo hi 1 (n:Int)=(((sIx n 0 lo:Nat):Int),((sIx n n hi:Nat):Int)):=by
  have h1:¬ ((1:Int) < 0):=by omega
  unfold Builtin.Slice.sliceAdjust
  simp only [h1,if_false]
  refine Prod.ext ?_ ?_
  · cases lo with
    | none=>rfl
    | some v=>exact clip_eq v n 0
  · cases hi with
    | none=>rfl
    | some v=>exact clip_eq v n n
theorem places_gen (i j:Nat):Builtin.Slice.slicePlaces (i:Int) (j:Int) 1=j - i:=by
  unfold Builtin.Slice.slicePlaces
  have h1:(1:Int) > 0:=by omega
  simp only [h1,if_true,Int.ediv_one]
  split <;> omega
theorem slicePart_ {v:Value}{o:Option Int}{Q:Option Int→Shared→Prop} (p:IsPart v o) (h:Q o s):wpAny (model prog w) A (Builtin.Slice.slicePartIndex v) Q E s:=by
  cases p with
  | none=>exact slicePart_none h
  | int i t=>exact slicePart_int h
theorem sliceApplied_gen {sl:Addr}{vl vu:Value}{lo hi:Option Int}{n:Nat}{Q:Int × Int × Nat→Shared→Prop} (hs:s.heap.IsSliceOf sl vl vu .none) (pl:IsPart vl lo) (pu:IsPart vu hi)
    (h:Q (((sIx n 0 lo:Nat):Int),1,sIx n n hi - sIx n 0 lo) s):wpAny (model prog w) A (Builtin.Slice.sliceApplied (.ref sl) (pure (n:Int))) Q E s:=by
  obtain ⟨os,hos,hcs,hds⟩:=id hs
  unfold Builtin.Slice.sliceApplied Builtin.Slice.sliceFields
  refine wpAny_bind (wpAny_bind (wpAny_field hos hds (x:=vl) rfl (wpAny_bind (wpAny_field hos hds (x:=vu) rfl (wpAny_bind (wpAny_field hos hds (x:=.none) rfl (wpAny_pure ?_)))))))
  refine wpAny_bind (slicePart_none ?_)
  show wpAny _ _ (if ((1:Int) == 0)=true then _ else _) _ _ s
  rw [if_neg (by decide)]
  refine wpAny_bind (slicePart_ pl (wpAny_bind (slicePart_ pu (wpAny_bind (wpAny_pure ?_)))))
  show wpAny _ _ (match Builtin.Slice.sliceAdjust lo hi 1 (n:Int) with | (lo,hi)=>pure (lo,(1:Int),Builtin.Slice.slicePlaces lo hi 1)) _ _ s
  rw [adjust_gen lo hi n]
  show wpAny _ _ (pure (((sIx n 0 lo:Nat):Int),(1:Int),Builtin.Slice.slicePlaces ((sIx n 0 lo:Nat):Int) ((sIx n n hi:Nat):Int) 1)) _ _ s
  rw [places_gen]
  exact wpAny_pure h
theorem pick_gen (xs:Array Value) (i k:Nat):((List.range k).filterMap fun (m:Nat)=>xs[((i:Int) + (m:Int) * 1).toNat]?).toArray=((xs.toList.drop i).take k).toArray:=by
  have e:(fun (m:Nat)=>xs[((i:Int) + (m:Int) * 1).toNat]?)=fun m=>xs[i + m]?:=by
    funext m
    have:((i:Int) + (m:Int) * 1).toNat=i + m:=by omega
    rw [this]
  rw [e]
  have:=pick_run xs i k
  rw [List.filterMap_map] at this
  have e2:((fun x=>xs[x]?) ∘ fun x=>i + x)=fun m=>xs[i + m]?:=rfl
  rw [e2] at this
  rw [this]
theorem getItem_tuple_cut {t sl:Addr}{items:Array Value}{vl vu:Value}{lo hi:Option Int}{Q:Value→Shared→Prop} (ht:IsTup s.heap t items) (hs:s.heap.IsSliceOf sl vl vu .none) (pl:IsPart vl lo) (pu:IsPart vu hi)
    (hw:¬ (sIx items.size 0 lo=0∧sIx items.size items.size hi=items.size))
    (h:Q (.ref s.heap.objs.size) { s with heap:=s.heap.push { cls:=.type "tuple",data:=.seq ((items.toList.drop (sIx items.size 0 lo)).take (sIx items.size items.size hi - sIx items.size 0 lo)).toArray } })
    (hsz:items.size ≤ sizeLine):wpAny (model prog w) A (getItem (.ref t) (.ref sl)) Q E s:=by
  have htake:sizeOk (.seq ((items.toList.drop (sIx items.size 0 lo)).take (sIx items.size items.size hi - sIx items.size 0 lo)).toArray):=by
    show ((items.toList.drop (sIx items.size 0 lo)).take (sIx items.size items.size hi - sIx items.size 0 lo)).toArray.size ≤ sizeLine
    rw [List.size_toArray,List.length_take,List.length_drop,Array.length_toList]
    omega
  have hj:sIx items.size items.size hi ≤ items.size:=sIx_le _ _ (Nat.le_refl _) hi
  obtain ⟨os,hos,hcs,hds⟩:=id hs
  have hTs:s.TypeIs (.ref sl) "slice":=⟨os,hos,hcs⟩
  unfold getItem
  try with_reducible refine wpAny_holding ?_
  first | refine wpAny_bind (wpAny_pure ?_) | skip
  refine wpAny_bind (wpAny_sequenceKey ht.typeIs (by decide) ?_)
  refine wpAny_bind (wpAny_callSpecial?_slot (name:=Str.ofString "__getitem__") ht.typeIs PyProof.Rows.slot_tuple_getitem
    (wpAny_call_entry PyProof.Rows.slot_tuple_getitem ht.typeIs entry_tuple_getitem ?_ (args_tuple_getitem _ _)))
  show wpAny _ _ (Builtin.Tuple.tupleItemsOf (.ref t) >>= _) _ _ s
  refine wpAny_bind (tupleItemsOf_ ht ?_)
  refine wpAny_bind (wpAny_typeOf hTs ?_)
  rw [if_pos (by decide)]
  refine wpAny_bind (sliceApplied_gen hs pl pu ?_)
  have hno:¬ ((((sIx items.size 0 lo:Nat):Int) == 0 && (1:Int) == 1 && (sIx items.size items.size hi - sIx items.size 0 lo) == items.size)=true):=by
    intro q
    rw [Bool.and_eq_true,Bool.and_eq_true] at q
    have q1:((sIx items.size 0 lo:Nat):Int)=0:=eq_of_beq q.1.1
    have q2:sIx items.size items.size hi - sIx items.size 0 lo=items.size:=eq_of_beq q.2
    exact hw ⟨by omega,by omega⟩
  show wpAny _ _ (if (((sIx items.size 0 lo:Nat):Int) == 0 && (1:Int) == 1 && (sIx items.size items.size hi - sIx items.size 0 lo) == items.size)=true then _ else _) _ _ s
  rw [if_neg hno,pick_gen]
  first
    | exact wpAny_bind (m:=Builtin.Tuple.tupleExact _) (wpAny_newObj_type (wpAny_pure ⟨_,rfl,wpAny_pure h⟩) htake)
    | exact wpAny_bind (m:=Builtin.Tuple.tupleExact _) (wpAny_newObj_type (wpAny_bind (wpAny_pure (wpAny_pure ⟨_,rfl,wpAny_pure h⟩))) htake)
    | exact wpAny_bind (wpAny_bind (m:=Builtin.Tuple.tupleExact _) (wpAny_newObj_type (wpAny_pure (wpAny_pure ⟨_,rfl,wpAny_pure h⟩)) htake))
    | exact wpAny_bind (wpAny_bind (m:=Builtin.Tuple.tupleExact _) (wpAny_newObj_type (wpAny_pure ⟨_,rfl,wpAny_pure h⟩) htake))
end
end HT
namespace L2
open PySem PySem.Spec PyProof.Rows
abbrev TO:=St→Hp→(Option Int→Hp→Prop)→Prop
def PO (X:Cx) (e:Option Expr) (t:TO):Prop :=
  ∀ (pins:List (Addr × Obj)) (s:Shared) (σ:St) (H:Hp) (Q:Option Int→Hp→Prop),Inv X pins σ H s→t σ H Q →
    wpAny (model X.prog X.w) X.A (evalPart e X.env) (fun u s'=>∃ o H',Inv X pins σ H' s'∧IsPart u o∧Q o H') X.xe s
def tNoPart:TO:=fun _ H Q=>Q none H
def tPart (t:TE):TO:=fun σ H Q=>t σ H fun x H1=>∃ i,x=.int i∧Q (some i) H1
section
variable {X:Cx}{e:Expr}{te:TE}{lo hi:Option Expr}{tl th:TO}{pos p2:Pos}
theorem po_none:PO X none tNoPart:=by
  intro pins s σ H Q I h
  rw [evalPart_none]
  exact wpAny_pure ⟨none,H,I,.none,h⟩
theorem po_some (h:PE X e te):PO X (some e) (tPart te):=by
  intro pins s σ H Q I hw
  rw [evalPart_some]
  refine thn (h pins s σ H _ I hw) fun u s1 ⟨x,H1,I1,r1,q1⟩=>?_
  obtain ⟨i,rfl,q⟩:=q1
  obtain ⟨t,rfl⟩:=r1
  exact ⟨some i,H1,I1,.int i t,q⟩
def SlR (X:Cx) (r:V→Option Int→Option Int→Hp→VK→Prop):Prop :=
  ∀ (pins:List (Addr × Obj)) (s:Shared) (σ:St) (H:Hp) (x:V) (v vl vu:Value) (lo hi:Option Int) (sl:Addr) (Q:VK),Inv X pins σ H s→RelV x v→s.heap.IsSliceOf sl vl vu .none→IsPart vl lo→IsPart vu hi→r x lo hi H Q →
    ∃ T id,typeLookup (.type T) "__getitem__"=pure (some (.builtin id))∧s.TypeIs v T∧wpAny (model X.prog X.w) X.A (getItem v (.ref sl)) (EP X pins σ Q) X.xe s
theorem SlR.or {r r':V→Option Int→Option Int→Hp→VK→Prop} (h:SlR X r) (h':SlR X r'):SlR X (fun x lo hi H Q=>r x lo hi H Q ∨ r' x lo hi H Q):=by
  intro pins s σ H x v vl vu lo hi sl Q I rx hs pl pu q
  rcases q with q | q
  · exact h pins s σ H x v vl vu lo hi sl Q I rx hs pl pu q
  · exact h' pins s σ H x v vl vu lo hi sl Q I rx hs pl pu q
def tSl (r:V→Option Int→Option Int→Hp→VK→Prop) (te:TE) (tl th:TO):TE:=fun σ H Q=>te σ H fun x H1=>tl σ H1 fun l H2=>th σ H2 fun u H3=>r x l u H3 Q
theorem pe_slice {r:V→Option Int→Option Int→Hp→VK→Prop} (hr:SlR X r) (he:PE X e te) (hl:PO X lo tl) (hu:PO X hi th):PE X (.Subscript e (.Slice lo hi none p2) pos) (tSl r te tl th):=by
  intro pins s σ H Q I h
  refine Subscript_ (thn (he pins s σ H _ I h) fun v s1 ⟨x,H1,I1,r1,q1⟩=>?_)
  refine wpAny_Slice (thn (hl pins s1 σ H1 _ I1 q1) fun vl s2 ⟨l,H2,I2,pl,q2⟩=>thn (hu pins s2 σ H2 _ I2 q2) fun vu s3 ⟨u,H3,I3,pu,q3⟩=>?_)
  rw [evalPart_none]
  refine wpAny_pure ?_
  have I4:Inv X pins σ H3 { s3 with heap:=s3.heap.push { cls:=.type "slice",data:=.fields #[vl,vu,.none] } }:=I3.kept (t':=s3.toks) fun b ob q=>Heap.get?_push_of_some _ q
  obtain ⟨T,id,hT,ht,hg⟩:=hr pins { s3 with heap:=s3.heap.push { cls:=.type "slice",data:=.fields #[vl,vu,.none] } } σ H3 x v vl vu l u s3.heap.objs.size Q I4 r1 (Heap.IsSliceOf.new ..) pl pu q3
  show wpAny (model X.prog X.w) X.A (subscriptTail e (.Slice lo hi none p2) v (.ref s3.heap.objs.size)) (EP X pins σ Q) X.xe { s3 with heap:=s3.heap.push { cls:=.type "slice",data:=.fields #[vl,vu,.none] } }
  exact tail_any (ops:=[.ref s3.heap.objs.size,v]) ht hT hg (by with_unfolding_all rfl)
def cutV (xs:List V) (lo hi:Option Int):List V:=(xs.drop (HT.sIx xs.length 0 lo)).take (HT.sIx xs.length xs.length hi - HT.sIx xs.length 0 lo)
theorem cutV_length (xs:List V) (lo hi:Option Int):(cutV xs lo hi).length ≤ xs.length:=by
  unfold cutV
  rw [List.length_take,List.length_drop]
  omega
def rSlT (K:W.Frag):V→Option Int→Option Int→Hp→VK→Prop:=fun x lo hi H Q=>∃ a xs,x=.ref a∧SqT K H a xs ∧
  ¬ (HT.sIx xs.length 0 lo=0∧HT.sIx xs.length xs.length hi=xs.length)∧∀ p,H p=none→Q (.ref p) (upd H p (.tup (cutV xs lo hi)))
theorem sl_tup:SlR X (rSlT X.K):=by
  intro pins s σ H x v vl vu lo hi sl Q I rx hs pl pu h
  obtain ⟨a,xs,rfl,hx,hw,q⟩:=h
  cases rx
  obtain ⟨its,r,ht,hz⟩:=I.tuple hx
  have hlen:its.toArray.size=xs.length:=by rw [List.size_toArray]; exact r.length.symm
  refine ⟨"tuple",_,PyProof.Rows.slot_tuple_getitem.lookup,ht.typeIs,?_⟩
  refine HT.getItem_tuple_cut ht hs pl pu (by rw [hlen]; exact hw) ?_ (by rw [hlen]; exact hz)
  rw [hlen]
  refine ⟨.ref s.heap.objs.size,_,I.laid (t':=s.toks) (o:=.tup (cutV xs lo hi)) (fun b ob q=>Heap.get?_push_of_some _ q) (Nat.le_refl _) ?_,rfl,q _ (I.hok.fresh (Nat.le_refl _))⟩
  exact ⟨Nat.le_trans (cutV_length xs lo hi) hz,_,(r.drop (HT.sIx xs.length 0 lo)).take (HT.sIx xs.length xs.length hi - HT.sIx xs.length 0 lo),IsTup.new _ _⟩
def rCatT (K:W.Frag):R2:=fun x y H Q=>∃ a b xs ys,x=.ref a∧y=.ref b∧SqT K H a xs∧SqT K H b ys∧xs ≠ []∧xs.length + ys.length ≤ sizeLine ∧
  (ys=[]→Q (.ref a) H)∧(ys ≠ []→∀ p,H p=none→Q (.ref p) (upd H p (.tup (xs++ys))))
theorem Vals.nil_iff {xs:List V}{us:List Value} (r:Vals xs us):us=[] ↔ xs=[]:=by
  cases r with
  | nil=>simp
  | cons _ _=>simp
theorem op_catT:OpR X (binaryOp .Add) (rCatT X.K):=by
  intro pins s σ H x y v u Q I rx ry h
  obtain ⟨a,b,xs,ys,rfl,rfl,ha,hb,hx,hz,q1,q2⟩:=h
  cases rx
  cases ry
  obtain ⟨its,r1,p1,_⟩:=I.tuple ha
  obtain ⟨its2,r2,p2,_⟩:=I.tuple hb
  refine HT.cat_tup p1 p2 (fun z=>hx (r1.nil_iff.mp z)) (fun z=>⟨.ref a,H,I,rfl,q1 (r2.nil_iff.mp z)⟩) (fun z=>?_) (by rw [← r1.length,← r2.length]; exact hz)
  refine ⟨.ref s.heap.objs.size,_,I.laid (t':=s.toks) (o:=.tup (xs++ys)) (fun b ob q=>Heap.get?_push_of_some _ q) (Nat.le_refl _) ?_,rfl,q2 (fun w=>z (r2.nil_iff.mpr w)) _ (I.hok.fresh (Nat.le_refl _))⟩
  exact ⟨by rw [List.length_append]; exact hz,_,r1.append r2,IsTup.new _ _⟩
end
end L2
namespace L2
open PySem PySem.Spec PyProof.Rows
def ixN (n:Nat) (i:Int):Option Nat:=if 0 ≤ i then (if i < n then some i.toNat else none) else if -(n:Int) ≤ i then some (i + n).toNat else none
def atI {α:Type} (xs:List α) (i:Int):Option α:=(ixN xs.length i).bind fun j=>xs[j]?
theorem ixN_seq {n:Nat}{i:Int}{j:Nat} (h:ixN n i=some j):seqIndex? i n=some j∧j < n∧-(n:Int) ≤ i∧i < n:=by
  unfold ixN at h
  by_cases h0:0 ≤ i
  · rw [if_pos h0] at h
    by_cases h1:i < n
    · rw [if_pos h1] at h
      have e:i.toNat=j:=Option.some.inj h
      exact ⟨by rw [seqIndex_of h0 h1,e],by omega,by omega,h1⟩
    · rw [if_neg h1] at h; cases h
  · rw [if_neg h0] at h
    by_cases h1:-(n:Int) ≤ i
    · rw [if_pos h1] at h
      have e:(i + n).toNat=j:=Option.some.inj h
      exact ⟨by rw [seqIndex_neg (by omega) h1,e],by omega,h1,by omega⟩
    · rw [if_neg h1] at h; cases h
theorem atI_get {α:Type}{xs:List α}{i:Int}{v:α} (h:atI xs i=some v):∃ j,seqIndex? i xs.length=some j∧xs[j]?=some v∧j < xs.length∧-(xs.length:Int) ≤ i∧i < xs.length:=by
  unfold atI at h
  cases e:ixN xs.length i with
  | none=>rw [e] at h; cases h
  | some j =>
    rw [e] at h
    obtain ⟨h1,h2,h3,h4⟩:=ixN_seq e
    exact ⟨j,h1,h,h2,h3,h4⟩
theorem atI_nat {α:Type}{xs:List α}{j:Nat}{v:α} (h:xs[j]?=some v):atI xs (j:Int)=some v:=by
  have hj:j < xs.length:=(List.getElem?_eq_some_iff.mp h).1
  have e:ixN xs.length (j:Int)=some j:=by
    unfold ixN
    rw [if_pos (by omega),if_pos (by omega)]; simp
  unfold atI; rw [e]; exact h
def PlainIx (b:Expr):Prop:=∀ o i,subscripted b false o i=operate [o,i] (getItem o i)
def IxR (X:Cx) (r:R2):Prop :=
  ∀ (value slice:Expr) (pins:List (Addr × Obj)) (s:Shared) (σ:St) (H:Hp) (x y:V) (v u:Value) (Q:VK),Inv X pins σ H s→RelV x v→RelV y u→r x y H Q →
    subscripted slice false v u=operate [v,u] (getItem v u)→wpAny (model X.prog X.w) X.A (subscriptTail value slice v u) (EP X pins σ Q) X.xe s
def MtR (X:Cx) (id:String) (r:V→List V→Hp→VK→Prop):Prop :=
  ∀ (pins:List (Addr × Obj)) (s:Shared) (σ:St) (H:Hp) (x:V) (xs:List V) (v:Value) (us:List Value) (Q:VK),Inv X pins σ H s→RelV x v→Vals xs us→r x xs H Q →
    wpAny (model X.prog X.w) X.A (call (.builtin id) (v :: us)) (EP X pins σ Q) X.xe s
section
variable {X:Cx}{a b:Expr}{ta tb:TE}{pos:Pos}
theorem IxR.or {r r':R2} (h:IxR X r) (h':IxR X r'):IxR X (fun x y H Q=>r x y H Q ∨ r' x y H Q):=by
  intro value slice pins s σ H x y v u Q I rx ry q hs
  rcases q with q | q
  · exact h value slice pins s σ H x y v u Q I rx ry q hs
  · exact h' value slice pins s σ H x y v u Q I rx ry q hs
theorem pe_ix {r:R2} (hr:IxR X r) (ha:PE X a ta) (hb:PE X b tb) (hs:PlainIx b):PE X (.Subscript a b pos) (tOp r ta tb):=by
  intro pins s σ H Q I h
  exact Subscript_ (binT ha hb I h fun v u s2 x y H2 I2 rx ry q=>hr a b pins s2 σ H2 x y v u Q I2 rx ry q (hs _ _))
def rIxL (K:W.Frag):R2:=fun x y H Q=>∃ p xs i v,x=.ref p∧y=.int i∧SqL K H p xs∧atI xs i=some v∧Q v H
def rIxT (K:W.Frag):R2:=fun x y H Q=>∃ p xs i v,x=.ref p∧y=.int i∧SqT K H p xs∧atI xs i=some v∧Q v H
def rIxS:R2:=fun x y H Q=>∃ z i c,x=.str z∧y=.int i∧z.length ≤ sizeLine∧atI z.cps.toList i=some c∧Q (.str ⟨#[c]⟩) H
theorem ix_list:IxR X (rIxL X.K):=by
  intro value slice pins s σ H x y v u Q I rx ry h hs
  obtain ⟨p,xs,i,z,rfl,rfl,hq,he,q⟩:=h
  cases rx
  obtain ⟨t,rfl⟩:=ry
  obtain ⟨its,r,pl,hz⟩:=I.list hq
  obtain ⟨j,h1,h2,h3,h4,h5⟩:=atI_get he
  obtain ⟨w,ew,rw'⟩:=r.get h2
  have hl:=r.length
  have hn:=line63
  have fin:EP X pins σ Q w s:=⟨z,H,I,rw',q⟩
  by_cases h0:0 ≤ i
  · have hj:i.toNat=j:=by
      rw [seqIndex_of h0 h5] at h1
      exact Option.some.inj h1
    exact item_listR pl.isList h0 (by omega) (by rw [hj]; simpa using ew) fin hs
  · have hj:(i + (its.toArray.size:Int)).toNat=j:=by
      rw [seqIndex_neg (by omega) h4] at h1
      rw [List.size_toArray,← hl]
      exact Option.some.inj h1
    exact subscriptTail_builtinR (x:=w) pl.isList.typeIs slot_list_getitem.lookup
      (wpAny_getItem_list_neg (Q:=fun r s'=>r=w∧EP X pins σ Q r s') pl.isList (by omega) (by rw [List.size_toArray] <;> omega) (by omega) (by rw [hj]; simpa using ew) ⟨rfl,fin⟩) hs
theorem ix_tup:IxR X (rIxT X.K):=by
  intro value slice pins s σ H x y v u Q I rx ry h hs
  obtain ⟨p,xs,i,z,rfl,rfl,hq,he,q⟩:=h
  cases rx
  obtain ⟨t,rfl⟩:=ry
  obtain ⟨its,r,pl,hz⟩:=I.tuple hq
  obtain ⟨j,h1,h2,h3,h4,h5⟩:=atI_get he
  obtain ⟨w,ew,rw'⟩:=r.get h2
  have hl:=r.length
  have hn:=line63
  have fin:EP X pins σ Q w s:=⟨z,H,I,rw',q⟩
  exact subscriptTail_builtinR (x:=w) pl.typeIs slot_tuple_getitem.lookup
    (getItem_tuple (j:=j) (Q:=fun r s'=>r=w∧EP X pins σ Q r s') pl (by omega) (by omega) (by rw [List.size_toArray,← hl]; exact h1) (by simpa using ew) ⟨rfl,fin⟩) hs
theorem ix_str:IxR X rIxS:=by
  intro value slice pins s σ H x y v u Q I rx ry h hs
  obtain ⟨z,i,c,rfl,rfl,hz,he,q⟩:=h
  obtain ⟨t,rfl⟩:=rx
  obtain ⟨t',rfl⟩:=ry
  obtain ⟨j,h1,h2,h3,h4,h5⟩:=atI_get he
  have hl:z.cps.toList.length=z.length:=by simp [Str.length]
  rw [hl] at h1 h4 h5
  have hn:=line63
  exact tail_any (typeIs_str s z t) slot_str_getitem.lookup (getItem_str (c:=c) (by
    have e1:decide (i < -(2 ^ 63:Int))=false:=decide_eq_false (by omega)
    have e2:decide (i ≥ 2 ^ 63)=false:=decide_eq_false (by omega)
    rw [e1,e2,Bool.or_false]) (by rw [h1]; simpa using h2) ⟨.str ⟨#[c]⟩,H,I.tok _,⟨_,rfl⟩,q⟩) hs
def rIx (K:W.Frag):R2:=fun x y H Q=>rIxL K x y H Q ∨ rIxT K x y H Q ∨ rIxS x y H Q
theorem ix_seq:IxR X (rIx X.K):=ix_list.or (ix_tup.or ix_str)
theorem mapSeq_set (its:List Value) (n j:Nat) (u:Value):Obj.mapSeq (·.setIfInBounds j u) { cls:=.type "list",data:=.seq its.toArray n }={ cls:=.type "list",data:=.seq (its.set j u).toArray n }:=by
  simp [Obj.mapSeq]
theorem Inv.lst {pins:List (Addr × Obj)}{σ:St}{H:Hp}{s:Shared}{p:Addr}{xs:List V} (I:Inv X pins σ H s) (h:H p=some (.lst xs)) :
    ∃ (its:List Value) (n:Nat),Vals xs its∧s.heap.get? p=some { cls:=.type "list",data:=.seq its.toArray n }∧xs.length ≤ sizeLine:=by
  obtain ⟨z,its,n,r,e⟩:=I.hok p _ h
  exact ⟨its,n,r,e,z⟩
theorem Inv.lstUpd {pins:List (Addr × Obj)}{σ:St}{H:Hp}{s:Shared}{p:Addr}{xs ys:List V}{its its':List Value}{n n':Nat}{f:Obj→Obj} (I:Inv X pins σ H s) (h:H p=some (.lst xs))
    (ho:s.heap.get? p=some { cls:=.type "list",data:=.seq its.toArray n }) (hf:f { cls:=.type "list",data:=.seq its.toArray n }={ cls:=.type "list",data:=.seq its'.toArray n' }) (r:Vals ys its') (hz:ys.length ≤ sizeLine) (t:Nat) :
    Inv X pins σ (upd H p (.lst ys)) { s with heap:=s.heap.update p f,toks:=t }:=by
  have e:(s.heap.update p f).get? p=some { cls:=.type "list",data:=.seq its'.toArray n' }:=by
    rw [Heap.get?_update_self f ho (by rw [hf] <;> rfl),hf]
  refine I.write (x:=p) (e:=p) (by rw [h]; trivial) (.inl rfl) (fun b u hb q=>(Heap.get?_update_other _ _ (Ne.symm hb)).trans q) ⟨_,e⟩ ?_
  exact ⟨hz,its',n',r,e⟩
def rSetL:V→V→V→Hp→(Hp→Prop)→Prop:=fun o i v H Q=>∃ p xs k j,o=.ref p∧i=.int k∧H p=some (.lst xs)∧ixN xs.length k=some j∧Q (upd H p (.lst (xs.set j v)))
theorem set_list:PSet X rSetL:=by
  intro pins s σ H o i v ov iv u Q I ro ri rv h
  obtain ⟨p,xs,k,j,rfl,rfl,hp,hj,q⟩:=h
  cases ro
  obtain ⟨t,rfl⟩:=ri
  obtain ⟨its,n,r,ho,hz⟩:=I.lst hp
  obtain ⟨h1,h2,h3,h4⟩:=ixN_seq hj
  have hl:=r.length
  have hn:=line63
  have I':Inv X pins σ (upd H p (.lst (xs.set j v))) { s with heap:=s.heap.update p (Obj.mapSeq (·.setIfInBounds j u)) } :=
    I.lstUpd hp ho (mapSeq_set its n j u) (r.set rv j) (by rw [List.length_set]; exact hz) s.toks
  by_cases h0:0 ≤ k
  · have hk:k.toNat=j:=by
      rw [seqIndex_of h0 h4] at h1
      exact Option.some.inj h1
    exact W.ki_setAt ho h0 (by omega) (by rw [List.size_toArray,← hl]; exact h4) (by rw [hk]; exact ⟨_,I',q⟩)
  · have hk:(k + (its.toArray.size:Int)).toNat=j:=by
      rw [seqIndex_neg (by omega) h3] at h1
      rw [List.size_toArray,← hl]
      exact Option.some.inj h1
    exact W.ki_setBack ho (by omega) (by rw [List.size_toArray,← hl]; exact h3) (by omega) (by rw [hk]; exact ⟨_,I',q⟩)
theorem slice_bounds (lo hi:Option Int) (n:Nat):(sliceBounds lo hi none n).1=((HT.sIx n 0 lo:Nat):Int)∧(sliceBounds lo hi none n).2.1=((HT.sIx n n hi:Nat):Int)∧(sliceBounds lo hi none n).2.2=1:=by
  refine ⟨?_,?_,rfl⟩
  · cases lo with
    | none=>simp [sliceBounds,HT.sIx]
    | some i =>
      simp only [sliceBounds,HT.sIx,Option.getD_none,show (1:Int) > 0 by decide,if_true]
      by_cases h:i < 0
      · simp only [h,if_true] <;> omega
      · simp only [h,if_false] <;> omega
  · cases hi with
    | none=>simp [sliceBounds,HT.sIx]
    | some i =>
      simp only [sliceBounds,HT.sIx,Option.getD_none,show (1:Int) > 0 by decide,if_true]
      by_cases h:i < 0
      · simp only [h,if_true] <;> omega
      · simp only [h,if_false] <;> omega
theorem slicePick_cut (its:List Value) (lo hi:Option Int):slicePick its.toArray lo hi none=((its.drop (HT.sIx its.length 0 lo)).take (HT.sIx its.length its.length hi - HT.sIx its.length 0 lo)).toArray:=by
  obtain ⟨h1,h2,h3⟩:=slice_bounds lo hi its.toArray.size
  unfold slicePick
  rw [h1,h2,h3]
  simp only [sliceRange_one,pick_run,List.size_toArray] <;> rfl
def rSlL (K:W.Frag):V→Option Int→Option Int→Hp→VK→Prop:=fun x lo hi H Q=>∃ a xs,x=.ref a∧SqL K H a xs∧∀ p,H p=none→Q (.ref p) (upd H p (.lst (cutV xs lo hi)))
theorem sl_list:SlR X (rSlL X.K):=by
  intro pins s σ H x v vl vu lo hi sl Q I rx hs pl pu h
  obtain ⟨a,xs,rfl,hx,q⟩:=h
  cases rx
  obtain ⟨its,r,ht,hz⟩:=I.list hx
  have hlen:=r.length
  refine ⟨"list",_,slot_list_getitem.lookup,ht.isList.typeIs,?_⟩
  refine wpAny_getItem_list_slice ht.isList hs pl pu .none (by simp) ?_ (by rw [List.size_toArray] <;> omega)
  rw [slicePick_cut,← hlen]
  refine ⟨.ref s.heap.objs.size,_,I.laid (t':=s.toks) (o:=.lst (cutV xs lo hi)) (fun b ob q=>Heap.get?_push_of_some _ q) (Nat.le_refl _) ?_,rfl,q _ (I.hok.fresh (Nat.le_refl _))⟩
  exact ⟨Nat.le_trans (cutV_length xs lo hi) hz,_,0,(r.drop (HT.sIx xs.length 0 lo)).take (HT.sIx xs.length xs.length hi - HT.sIx xs.length 0 lo),Heap.get?_push_size _ rfl⟩
theorem call_len_seq:CallR X (.builtin "len") (fun xs H Q=>∃ p ys,xs=[.ref p]∧(SqL X.K H p ys ∨ SqT X.K H p ys)∧Q (.int ys.length) H):=by
  intro pins s σ H xs us Q I r h
  obtain ⟨p,ys,rfl,hq,q⟩:=h
  obtain ⟨u,rfl,rx⟩:=vals1 r
  cases rx
  have hn:=line63
  rcases hq with hq | hq
  · obtain ⟨its,r',pl,hz⟩:=I.list hq
    have hlen:=r'.length
    exact Calls.call_len_list pl.isList (by simp only [List.size_toArray] <;> omega) ⟨.int ys.length,H,I.tok _,⟨s.toks + 1,by rw [List.size_toArray,hlen]⟩,q⟩
  · obtain ⟨its,r',pl,hz⟩:=I.tuple hq
    have hlen:=r'.length
    exact len_tuple pl (by simp only [List.size_toArray] <;> omega) ⟨.int ys.length,H,I.tok _,⟨s.toks + 1,by rw [List.size_toArray,hlen]⟩,q⟩
theorem call_len_str:CallR X (.builtin "len") (fun xs H Q=>∃ z,xs=[.str z]∧z.length ≤ sizeLine∧Q (.int z.length) H):=by
  intro pins s σ H xs us Q I r h
  obtain ⟨z,rfl,hz,q⟩:=h
  obtain ⟨u,rfl,t,rfl⟩:=vals1 r
  have hn:=line63
  exact len_str (by omega) ⟨.int z.length,H,I.tok _,⟨_,rfl⟩,q⟩
theorem CallR.or {f:Value}{r r':List V→Hp→VK→Prop} (h:CallR X f r) (h':CallR X f r'):CallR X f (fun xs H Q=>r xs H Q ∨ r' xs H Q):=by
  intro pins s σ H xs us Q I rs q
  rcases q with q | q
  · exact h pins s σ H xs us Q I rs q
  · exact h' pins s σ H xs us Q I rs q
theorem call_list_of:CallR X (.type "list") (fun xs H Q=>∃ p ys,xs=[.ref p]∧(SqL X.K H p ys ∨ SqT X.K H p ys)∧∀ l,H l=none→Q (.ref l) (upd H l (.lst ys))):=by
  intro pins s σ H xs us Q I r h
  obtain ⟨p,ys,rfl,hq,q⟩:=h
  obtain ⟨u,rfl,rx⟩:=vals1 r
  cases rx
  have fin:∀ (its:List Value),Vals ys its→ys.length ≤ sizeLine→∀ (h':Heap) (c':Nat),(∀ b o',s.heap.get? b=some o'→h'.get? b=some o') →
      h'.get? s.heap.objs.size=some { cls:=.type "list",dict:=none,data:=.seq its.toArray c',slots:=#[] }→EP X pins σ Q (.ref s.heap.objs.size) { s with heap:=h' }:=fun its r' hz h' c' kp e =>
    ⟨.ref s.heap.objs.size,_,I.laid (t':=s.toks) kp (Nat.le_refl _) (show ObjOk X.prog X.w _ h' _ (.lst ys) from ⟨hz,its,c',r',e⟩),rfl,q _ (I.hok.fresh (Nat.le_refl _))⟩
  rcases hq with hq | hq
  · obtain ⟨its,r',pl,hz⟩:=I.list hq
    have hlen:=r'.length
    obtain ⟨o,ho,hc,n,hd⟩:=pl.isList
    exact call_list_seq p (.inl rfl) ho hc hd (fun h' c' kp e=>fin its r' hz h' c' kp e) (by simp only [List.size_toArray] <;> omega)
  · obtain ⟨its,r',pl,hz⟩:=I.tuple hq
    have hlen:=r'.length
    obtain ⟨o,ho,hc,n,hd⟩:=pl
    exact call_list_seq p (.inr rfl) ho hc hd (fun h' c' kp e=>fin its r' hz h' c' kp e) (by simp only [List.size_toArray] <;> omega)
def tyV (K:W.Frag) (T:String) (x:V) (H:Hp):Prop:=match x with
  | .str _=>T="str"
  | .int _=>T="int"
  | .ref p=>(T="list"∧∃ xs,SqL K H p xs) ∨ (T="tuple"∧∃ o,K.lookup p=some o∧o.cls=.type "tuple"∧o.dict=none) ∨
      (T="dict"∧((∃ kvs,H p=some (.dK kvs)) ∨ ∃ kvs,H p=some (.dT kvs))) ∨ (T="set"∧∃ S n,H p=some (.set S n))
  | _=>False
theorem tyV_is {pins:List (Addr × Obj)}{σ:St}{H:Hp}{s:Shared}{T:String}{x:V}{v:Value} (I:Inv X pins σ H s) (r:RelV x v) (ty:tyV X.K T x H) :
    s.TypeIs v T∧∀ a,v=.ref a→∃ ob,s.heap.get? a=some ob∧ob.dict=none:=by
  cases x with
  | str z =>
    obtain ⟨t,rfl⟩:=r
    cases (show T="str" from ty)
    exact ⟨typeIs_str s z t,fun _ e=>nomatch e⟩
  | int i =>
    obtain ⟨t,rfl⟩:=r
    cases (show T="int" from ty)
    exact ⟨typeIs_int s i t,fun _ e=>nomatch e⟩
  | ref p =>
    cases r
    rcases ty with ⟨rfl,xs,hq⟩ | ⟨rfl,o,hk,hc,hd⟩ | ⟨rfl,hk⟩ | ⟨rfl,S,n,hk⟩
    · obtain ⟨its,_,pl,_⟩:=I.list hq
      refine ⟨pl.isList.typeIs,fun a e=>?_⟩
      cases e
      obtain ⟨o,n,e,c,hd,_⟩:=pl
      exact ⟨o,e,hd⟩
    · refine ⟨⟨o,I.kIn p o hk,hc⟩,fun a e=>?_⟩
      cases e
      exact ⟨o,I.kIn _ o hk,hd⟩
    · have z:∃ o,s.heap.get? p=some o∧o.ExactDict:=by
        rcases hk with ⟨kvs,hk⟩ | ⟨kvs,hk⟩
        · obtain ⟨_,_,_,_,o,_,_,e,ex,_⟩:=I.hok p _ hk
          exact ⟨o,e,ex⟩
        · obtain ⟨_,_,_,_,o,_,_,e,ex,_⟩:=I.hok p _ hk
          exact ⟨o,e,ex⟩
      obtain ⟨o,e,ex⟩:=z
      refine ⟨⟨o,e,ex.1⟩,fun a e2=>?_⟩
      cases e2
      exact ⟨o,e,ex.2.1⟩
    · obtain ⟨o,_,_,_,e,ex,_⟩:=I.hok p _ hk
      refine ⟨⟨o,e,ex.1⟩,fun a e2=>?_⟩
      cases e2
      exact ⟨o,e,ex.2.1⟩
  | _=>exact False.elim ty
def tBM0 (K:W.Frag) (T:String) (r:V→List V→Hp→VK→Prop) (to:TE):TE:=fun σ H Q=>to σ H fun x H1=>tyV K T x H1∧r x [] H1 Q
def tBM (K:W.Frag) (T:String) (r:V→List V→Hp→VK→Prop) (to:TE) (t:TA):TE:=fun σ H Q=>to σ H fun x H1=>tyV K T x H1∧t σ H1 fun xs H2=>r x xs H2 Q
variable {o e:Expr}{es:List Expr}{to:TE}{t:TA}{name:Str}{apos cpos:Pos}{T id:String}{r:V→List V→Hp→VK→Prop}
theorem pe_bm0 (pa:PlainAttrs T) (slot:Slot T name id) (hty:typeOf (.builtin id)=pure (.type "method_descriptor")) (hm:MtR X id r) (ho:PE X o to)
    (hbase:attributeBase o name X.env (eval o X.env)=eval o X.env:=by rfl) (hline:(apos.endLine == cpos.line)=true:=by rfl):PE X (.Call (.Attribute o name apos) [] [] cpos) (tBM0 X.K T r to):=by
  intro pins s σ H Q I h
  refine wpAny_Call_method0_late hbase hline (thn (ho pins s σ H _ I h) fun v s1 ⟨x,H1,I1,r1,ty,q1⟩=>?_)
  obtain ⟨h1,h2⟩:=tyV_is I1 r1 ty
  exact ⟨T,id,pa,slot,hty,h1,h2,Calls.callWith_builtin rfl (PySem.evalArgs_none (hm pins s1 σ H1 x [] v [] Q I1 r1 .nil q1))⟩
theorem pe_bm (pa:PlainAttrs T) (slot:Slot T name id) (hty:typeOf (.builtin id)=pure (.type "method_descriptor")) (hm:MtR X id r) (ho:PE X o to) (ha:PA X (e :: es) t)
    (hbase:attributeBase o name X.env (eval o X.env)=eval o X.env:=by rfl)
    (hfew:((backTo cpos (starEach (e :: es) X.env)).all (fun x=>!x.1) && (backToKw cpos (keywordEach [] X.env)).all (fun x=>x.1.isSome)
      && decide ((e :: es).length + ([]:List Keyword).length + (if ([]:List Keyword).isEmpty then 0 else 1) < 30))=true:=by rfl)
    (hline:(apos.endLine == cpos.line)=true:=by rfl) (hs:starEach (e :: es) X.env=(false,eval e X.env) :: starEach es X.env:=by rfl) (hplain:(backTo cpos (starEach es X.env)).any (·.1)=false:=by rfl) :
    PE X (.Call (.Attribute o name apos) (e :: es) [] cpos) (tBM X.K T r to t):=by
  intro pins s σ H Q I h
  refine wpAny_Call_method_late hbase hfew hline rfl (thn (ho pins s σ H _ I h) fun v s1 ⟨x,H1,I1,r1,ty,q1⟩=>?_)
  obtain ⟨h1,h2⟩:=tyV_is I1 r1 ty
  refine ⟨T,id,pa,slot,hty,h1,h2,?_⟩
  have hA:=ha cpos pins s1 σ H1 _ I1 q1
  rw [hs] at hA ⊢
  refine Calls.callWith_builtin (by show (false || (backTo cpos (starEach es X.env)).any (·.1))=false; rw [hplain] <;> rfl) (Calls.evalArgs_plain ?_)
  exact thn hA fun us s2 ⟨vs,H2,I2,r2,q2⟩=>hm pins s2 σ H2 x vs v us Q I2 r1 r2 q2
end
end L2
namespace L2
open PySem PySem.Spec PyProof.Rows
def MtM (X:Cx) (id:String) (r:V→List V→Hp→VK→Prop):Prop :=
  ∀ (pins:List (Addr × Obj)) (s:Shared) (σ:St) (H:Hp) (x:V) (xs:List V) (v:Value) (us:List Value) (Q:VK),Inv X pins σ H s→RelV x v→Vals xs us→r x xs H Q →
    wpAny (model X.prog X.w) X.A (call (.builtin id) (v :: us)) (EP X pins σ Q) X.xe s
theorem Vals.one:∀ {x:V}{us:List Value},Vals [x] us→∃ u,us=[u]∧RelV x u
  | _,_,.cons r .nil=>⟨_,rfl,r⟩
theorem Vals.zero:∀ {us:List Value},Vals [] us→us=[]
  | _,.nil=>rfl
section
variable {X:Cx}{pins:List (Addr × Obj)}{σ:St}{H:Hp}{s:Shared}{l b:Addr}{xs ys zs:List V}
theorem Inv.lset {its its':List Value}{n:Nat}{f:Array Value→Array Value}{t':Nat} (I:Inv X pins σ H s) (hH:H l=some (.lst xs))
    (e:s.heap.get? l=some { cls:=.type "list",data:=.seq its.toArray n }) (hf:f its.toArray=its'.toArray) (hv:Vals ys its') (hz:ys.length ≤ sizeLine) :
    Inv X pins σ (upd H l (.lst ys)) { s with heap:=s.heap.update l (Obj.mapSeq f),toks:=t' }:=by
  have q:=PySem.IsL.update e f
  rw [hf] at q
  refine I.write (x:=l) (e:=l) (by rw [hH]; exact trivial) (.inl rfl) (fun b' u hb hu=>(Heap.get?_update_other s.heap (Obj.mapSeq f) (Ne.symm hb)).trans hu) ⟨_,q⟩ ?_
  exact ⟨hz,its',_,hv,q⟩
theorem Inv.lnew {its:List Value}{t':Nat} (I:Inv X pins σ H s) (hv:Vals ys its) (hz:ys.length ≤ sizeLine) :
    Inv X pins σ (upd H s.heap.objs.size (.lst ys)) { s with heap:=s.heap.push { cls:=.type "list",data:=.seq its.toArray },toks:=t' } :=
  I.laid (fun _ _ q=>Heap.get?_push_of_some _ q) (Nat.le_refl _) ⟨hz,its,0,hv,Heap.get?_push_size _ rfl⟩
theorem Inv.fresh (I:Inv X pins σ H s):H s.heap.objs.size=none:=I.hok.fresh (Nat.le_refl _)
theorem Inv.lstM (I:Inv X pins σ H s) (hH:H l=some (.lst xs)):xs.length ≤ sizeLine∧∃ (its:List Value) (n:Nat),Vals xs its∧xs.length=its.length∧s.heap.get? l=some { cls:=.type "list",data:=.seq its.toArray n }:=by
  obtain ⟨z,its,n,r,e⟩:=I.hok l _ hH
  exact ⟨z,its,n,r,r.length,e⟩
theorem notLongL {n:Nat} (h:n ≤ sizeLine):Builtin.List.listTooLong n=false:=by
  unfold Builtin.List.listTooLong
  exact decide_eq_false (by omega)
end
section
variable {X:Cx}
def rAppend:V→List V→Hp→VK→Prop:=fun x vs H Q=>∃ l xs y,x=.ref l∧vs=[y]∧H l=some (.lst xs)∧xs.length < sizeLine∧Q .non (upd H l (.lst (xs++[y])))
theorem mt_append:MtM X "list.append" rAppend:=by
  intro pins s σ H x vs v us Q I rx rv h
  obtain ⟨l,xs,y,rfl,rfl,hH,hz,q⟩:=h
  cases rx
  obtain ⟨u,rfl,ru⟩:=rv.one
  obtain ⟨z,its,n,r,hl,e⟩:=I.lstM hH
  refine call_meets F.slot_list_append ⟨_,e,rfl⟩ F.entry_list_append (F.args_list_append_2 _ _) (PySem.list_append l its.toArray n u (by rw [List.size_toArray]; omega)) ⟨e,?_⟩
  refine ⟨.non,_,I.lset (its':=its++[u]) hH e (by simp) (r.append (.cons ru .nil)) ?_,rfl,q⟩
  rw [List.length_append,List.length_singleton]
  omega
def rExtend:V→List V→Hp→VK→Prop:=fun x vs H Q=>∃ l b xs zs,x=.ref l∧vs=[.ref b]∧H l=some (.lst xs)∧H b=some (.lst zs)∧xs.length + zs.length ≤ sizeLine∧Q .non (upd H l (.lst (xs++zs)))
theorem mt_extend:MtM X "list.extend" rExtend:=by
  intro pins s σ H x vs v us Q I rx rv h
  obtain ⟨l,b,xs,zs,rfl,rfl,hH,hB,hz,q⟩:=h
  cases rx
  obtain ⟨u,rfl,ru⟩:=rv.one
  cases ru
  obtain ⟨z,its,n,r,hl,e⟩:=I.lstM hH
  obtain ⟨z2,its2,n2,r2,hl2,e2⟩:=I.lstM hB
  have hsz:its.toArray.size + its2.toArray.size ≤ sizeLine:=by rw [List.size_toArray,List.size_toArray]; omega
  have hlong:¬ (!its.toArray.isEmpty && Builtin.List.listTooLong (its.toArray.size + its2.toArray.size))=true:=by
    rw [notLongL hsz,Bool.and_false]
    exact Bool.false_ne_true
  refine call_meets F.slot_list_extend ⟨_,e,rfl⟩ F.entry_list_extend (F.args_list_extend_2 _ _)
    (AutoSeq1.list_extend_list_list_0 l its.toArray n b its2.toArray n2 hlong (by rw [List.size_toArray]; omega) (by omega)) ⟨e,e2,?_⟩
  refine ⟨.non,_,I.lset (its':=its++its2) hH e (by simp) (r.append r2) ?_,rfl,q⟩
  rw [List.length_append]
  omega
def rClear:V→List V→Hp→VK→Prop:=fun x vs H Q=>∃ l xs,x=.ref l∧vs=[]∧H l=some (.lst xs)∧Q .non (upd H l (.lst []))
theorem mt_clear:MtM X "list.clear" rClear:=by
  intro pins s σ H x vs v us Q I rx rv h
  obtain ⟨l,xs,rfl,rfl,hH,q⟩:=h
  cases rx
  have hus:=rv.zero
  subst hus
  obtain ⟨z,its,n,r,hl,e⟩:=I.lstM hH
  refine call_meets F.slot_list_clear ⟨_,e,rfl⟩ F.entry_list_clear (F.args_list_clear_1 _) (AutoSeq1.list_clear_list_0 l its.toArray n (by rw [List.size_toArray]; omega)) ⟨e,?_⟩
  exact ⟨.non,_,I.lset (its':=[]) (ys:=[]) hH e rfl .nil (Nat.zero_le _),rfl,q⟩
end
section
variable {prog:Program}{w:World}{A:Around}{E:Value→Shared→Prop}{s:Shared}
set_option maxRecDepth 100000 in
end
section
variable {X:Cx}
end
end L2
namespace Att
open PySem PySem.W PySem.Calls PyProof.Rows
theorem ints_of_wellAll {P:Params}{h:Heap}:∀ (ns:List Int) (vs:List Value),WellAll P h vs (ns.map WData.int)→IntsAre vs ns:=by
  intro ns
  induction ns with
  | nil =>
    intro vs w
    rw [List.map_nil] at w
    cases w
    exact .nil
  | cons n ns ih =>
    intro vs w
    rw [List.map_cons] at w
    cases w with
    | cons a b =>
      cases a
      exact .cons _ _ (ih _ b)
theorem script_of {l:OpenLaw}{n:Nat} (hn:l.most=some n) {P:Params}{h:Heap}{args:List WData}{vals:List Value}
    (hpre:l.row.toRowW.claim.pre args=true) (hwl:WellAll P h vals args) :
    ∃ a vs ns,vals=[Value.ref a]∧args=[WData.list (ns.map WData.int)]∧h.get? a=some { cls:=.type "list",data:=.seq vs.toArray }∧IntsAre vs ns∧ns.length ≤ n:=by
  have hsh:WShape.hasAll [] args [.list .int]=true:=(pre_splitW hpre).1
  have hc:l.pre.holds [] { args:=args }=true:=(pre_splitW hpre).2
  obtain ⟨d,r,rfl,h1,h2⟩:=hasAllW_cons hsh
  obtain rfl:=hasAllW_nil h2
  obtain ⟨xs,rfl,h3⟩:=hasW_list h1
  obtain ⟨ns,rfl⟩:=items_int h3
  have hlen:ns.length ≤ n:=by
    unfold OpenLaw.pre at hc
    have h4:(WTm.not (.lt (.lit (.int (n:Int))) (.len (.arg 0)))).holds [] { args:=[.list (ns.map .int)] }=true:=by
      have h4:=(holds_andW hc).1
      rw [hn] at h4
      exact h4
    have h5:=condW_of h4 (w_not (w_lt w_lit (w_len_list (w_arg rfl))))
    rw [List.length_map] at h5
    refine Nat.le_of_not_lt fun q=>?_
    have q':(n:Int) < ((ns.length:Nat):Int):=by omega
    first
      | (rw [decide_eq_true q'] at h5; exact absurd h5 (by decide))
      | (simp at h5; omega)
  cases hwl with
  | cons w1 w2 =>
    cases w2
    cases w1 with
    | list ho hall=>exact ⟨_,_,ns,rfl,rfl,ho,ints_of_wellAll ns _ hall,hlen⟩
theorem post_true (l:OpenLaw) (args:List WData):l.row.toRowW.claim.post args (.bool true) args=true :=
  postW_of (r:=l.row.toRowW) (X:=(true == true))
    (show WShape.has [] (.bool true) .bool=true by first | rfl | decide | simp [WShape.has,WShape.arms,WShape.armsAll])
    (show (WTm.eq .res (.lit (.bool true))).value [] { args:=args,res:=some (.bool true),after:=args }=some (.bool (true == true)) from w_eq_bool (w_res rfl) w_lit) rfl
section
variable {prog:Program}{w:World}{A:Around}{E:Value→Shared→Prop}{s:Shared}{K:Frag}
end
end Att
namespace L2
open PySem PySem.Spec PyProof.Rows
theorem vals_ints:∀ {vs:List Value}{ns:List Int},IntsAre vs ns→Vals (ns.map V.int) vs
  | _,_,.nil=>.nil
  | _,_,.cons n t h=>.cons ⟨t,rfl⟩ (vals_ints h)
def Only (H:Hp):Prop:=∀ b,H b=none ∨ ∃ o xs,H b=some (.frz o (.lst xs))
theorem law_call {P:Program}{w:World}{K:W.Frag}{mg mb:Str→Option Value}{CX:CXT}{k:Nat}{fa a:Addr}{fd:FuncData}{x:Str}{sp:Sp}{s₁:Shared}{vs:List Value}{ns:List Int}
    (KX:K.In s₁.heap) (hns:s₁.heap.Ns mainGlobals mg) (hb:s₁.heap.Ns builtinsNs mb) (hbb:∀ x:Str,x ≠ "__name__"→mb x=bootBuiltins x) (hlim:s₁.heap.NoLimit) (hg:s₁.gens=#[])
    (ha:s₁.heap.get? a=some { cls:=.type "list",data:=.seq vs.toArray }) (hi:IntsAre vs ns) (hl:ns.length ≤ sizeLine) (hr:Room k callerA)
    (F:∀ base:Heap,K.In base→base.Ns mainGlobals mg→FnOk P w K mg base CX k fa fd [x] sp) (hbind:∀ (s:Shared) (u:Value),BindsTo s fd ⟨[u],[]⟩ [(x,u)])
    (hsp:∀ H:Hp,Only H→SqL K H a (ns.map V.int)→sp [.ref a] H (fun v _=>v=.bl true) fun _ _ _=>False)
    (hCX:∀ H e s',CX [] H s₁ (fun _ _ _=>False) e s'→False) :
    codeAny (model P w) callerA (.call (.ref fa) ⟨[.ref a],[]⟩) (fun r s'=>r=.ok (.ret (.bool true))∧OldK s₁.heap s'.heap∧s'.os=s₁.os∧AllBare s'.gens) s₁:=by
  have rv:=vals_ints hi
  have lenV:=hi.length
  have core:∀ H:Hp,Only H→SqL K H a (ns.map V.int)→HOk P w H s₁.heap→(∀ b,H b ≠ none→b=a)→(H a ≠ none→K.lookup a=none) →
      codeAny (model P w) callerA (.call (.ref fa) ⟨[.ref a],[]⟩) (fun r s'=>r=.ok (.ret (.bool true))∧OldK s₁.heap s'.heap∧s'.os=s₁.os∧AllBare s'.gens) s₁:=by
    intro H hO hS hok hA hK
    have base_of:∀ {b:Addr}{o:Obj},s₁.heap.get? b=some o→H b=none→(hidT s₁.heap H).get? b=some o:=fun e n=>hidT_get e n
    have noA:∀ {b:Addr}{o:Obj}{es:Array DictEntry}{ep:Nat},s₁.heap.get? b=some o→o.data=.dict es ep→H b=none:=fun {b o es ep} e d=>by
      cases q:H b with
      | none=>rfl
      | some u =>
        have e':b=a:=hA b (by rw [q]; simp)
        subst e'
        rw [ha] at e; cases e
        have d':Data.seq vs.toArray _=Data.dict es ep:=d
        cases d'
    have nsK:∀ {b:Addr}{m:Str→Option Value},s₁.heap.Ns b m→(hidT s₁.heap H).Ns b m:=fun {b m} ⟨o,es,ep,e,d,r⟩=>⟨o,es,ep,base_of e (noA e d),d,r⟩
    have hKb:K.In (hidT s₁.heap H):=fun b o e=>base_of (KX b o e) (by
      cases q:H b with
      | none=>rfl
      | some u =>
        have e':b=a:=hA b (by rw [q]; simp)
        subst e'
        rw [hK (by rw [q]; simp)] at e; cases e)
    have hM:Mod K mg (hidT s₁.heap H):=⟨hKb,nsK hns,⟨mb,nsK hb,hbb⟩,let ⟨mc,h1,h2⟩:=hlim; ⟨mc,nsK h1,h2⟩⟩
    have e0:Env0 P w K mg (hidT s₁.heap H) callerA [] s₁ H:=⟨rfl,hM,fun b o e=>of_hidT e,Nat.le_of_eq (hidT_size _ _),trivial,fun b hb=>absurd (show b∈([]:List Addr) from hb) (by simp),hok,.of_eq hg⟩
    refine codeAny_mono ((F _ hKb (nsK hns)).run callerA [] s₁ H ⟨[.ref a],[]⟩ [.ref a] [.ref a] _ _ hr e0 (hbind s₁ (.ref a)) (.cons rfl .nil) (hsp H hO hS)) fun r s' h=>?_
    cases r with
    | error e=>exact (hCX H e s' h).elim
    | ok fl =>
      cases fl with
      | next=>exact False.elim h
      | brk=>exact False.elim h
      | cont=>exact False.elim h
      | ret u =>
        obtain ⟨v,H',os,bare,un,hok',r',q⟩:=h
        have q':v=.bl true:=q
        subst q'
        obtain rfl:u=Value.bool true:=r'
        refine ⟨rfl,OldK.of_keep fun b o e=>?_,os,bare⟩
        cases q:H b with
        | none=>exact un.keep b o e q (by intro z; exact absurd (show b∈([]:List Addr) from z) (by simp)) (by simp)
        | some u =>
          rcases hO b with z | ⟨ob,xs,z⟩
          · rw [q] at z; cases z
          · have z2:=un.frzs b ob _ z
            obtain ⟨e1,_⟩:=hok b _ z
            obtain ⟨e2,_⟩:=hok' b _ z2
            rw [e] at e1; cases e1
            exact e2
  cases hk:K.lookup a with
  | some o =>
    have e:=KX a o hk
    rw [ha] at e
    cases e
    refine core (fun _=>none) (fun _=>.inl rfl) (.inr ⟨_,vs.toArray,_,hk,rfl,rfl,rfl,by rw [List.size_toArray,lenV]; exact hl,by simpa using rv⟩) (fun b u z=>by have z':(none:Option HO)=some u:=z; cases z') (fun b z=>absurd rfl z) fun z=>absurd rfl z
  | none =>
    refine core (fun b=>if b=a then some (.frz { cls:=.type "list",data:=.seq vs.toArray } (.lst (ns.map V.int))) else none) (fun b=>?_) (.inl (.inr ⟨{ cls:=.type "list",data:=.seq vs.toArray },if_pos rfl⟩)) (fun b u z=>?_) (fun b z=>?_) fun _=>hk
    · by_cases hb:b=a
      · exact .inr ⟨_,_,if_pos hb⟩
      · exact .inl (if_neg hb)
    · by_cases hb:b=a
      · have z':=(if_pos hb).symm.trans z
        cases z'
        subst hb
        exact ⟨ha,by rw [List.length_map]; exact hl,vs,_,rv,ha⟩
      · have z':=(if_neg hb).symm.trans z
        cases z'
    · by_cases hb:b=a
      · exact hb
      · exact absurd (if_neg hb) z
end L2
namespace L2
open PySem PySem.Spec PyProof.Rows
end L2
namespace L2
open PySem PySem.Spec PyProof.Rows
def inClass (s:Stmt) (j:Nat):Stmt:=match s with
  | .ClassDef _ _ _ body _ _ _ _ _ _ _=>body.getD j (.Pass ⟨0,0,0,0⟩)
  | _=>.Pass ⟨0,0,0,0⟩
def defArgs (s:Stmt):Arguments:=match s with
  | .FunctionDef _ a _ _ _ _ _ _ _ _=>a
  | _=>{ posonlyargs:=[],args:=[],vararg:=none,kwonlyargs:=[],kw_defaults:=[],kwarg:=none,defaults:=[] }
def defBody (s:Stmt):List Stmt:=match s with
  | .FunctionDef _ _ b _ _ _ _ _ _ _=>b
  | _=>[]
def defScope (s:Stmt):Scope:=match s with
  | .FunctionDef _ _ _ _ _ _ sc _ _ _=>sc
  | _=>{ kind:=.function,names:=[],isGenerator:=false,isCoroutine:=false }
abbrev CX0:CXT:=fun _ _ _ _ _ _=>False
abbrev E0:XK:=fun _ _ _=>False
theorem pass0 {X:Cx}:Passes CX0 X E0:=fun _ _ _ _ _ _ _ h=>h.elim
structure Fun (K:W.Frag) (x qual:Str) (st:Stmt) (f:Addr) (fd:FuncData):Prop where
  ex:∃ (oc:Value) (od:Option Addr) (kV doc pm:Value) (an:Option Addr) (cdv ct:Value) (osl:Array (Option Value)),
    fd=W.fnOf x qual (defArgs st) (defBody st) (defScope st) .none kV doc pm an cdv ct∧K.lookup f=some ⟨oc,od,.func fd,osl⟩∧W.codeIn K cdv qual=true
  kp:W.keepIn K (.ref f)=true
section
variable {P:Program}{w:World}{K:W.Frag}{mg:Str→Option Value}{base:Heap}
theorem Fun.ok {x qual:Str}{st:Stmt}{f:Addr}{fd:FuncData}{N ps:List Str}{k:Nat}{sp:Sp} (F:Fun K x qual st f fd) (S:FnScope N ps (defScope st)) (len:∀ vs H Q E,sp vs H Q E→vs.length=ps.length)
    (hbody:∀ (cdv:Value) (A:Around) (outer:List Env) (s:Shared) (H:Hp) (vs:List V) (Q:VK) (E:XK),Room k (A.deeper (envOfC qual (defScope st) s.heap.objs.size f cdv))→sp vs H Q E →
      ∃ t,PSs (cxOf CX0 P w K mg base N qual (defScope st) f cdv A outer s H E).nox (defBody st) t∧t { nx:=fun _ H'=>Q .non H',rt:=Q } (start N vs) H):FnOk P w K mg base CX0 (k + 1) f fd ps sp:=by
  obtain ⟨oc,od,kV,doc,pm,an,cdv,ct,osl,rfl,lk,hcd⟩:=F.ex
  refine fn_of lk hcd S len fun A outer s H vs Q E hr hsp=>?_
  obtain ⟨t,h,q⟩:=hbody cdv A outer s H vs Q E hr hsp
  exact ⟨t,h.nox,q⟩
theorem Fun.binds {x qual:Str}{st:Stmt}{f:Addr}{fd:FuncData}{ps:List Str} (F:Fun K x qual st f fd)
    (h:∀ (kV doc pm:Value) (an:Option Addr) (cdv ct:Value) (us:List Value),us.length=ps.length→bindArgs (W.fnOf x qual (defArgs st) (defBody st) (defScope st) .none kV doc pm an cdv ct) ⟨us,[]⟩=pure (ps.zip us)):Binds K fd ps []:=by
  obtain ⟨oc,od,kV,doc,pm,an,cdv,ct,osl,rfl,lk,hcd⟩:=F.ex
  exact .all (h kV doc pm an cdv ct)
theorem fun_mk {x qual:Str}{st:Stmt}{f:Addr}{oc:Value}{od an:Option Addr}{osl:Array (Option Value)}{kV doc pm cdv ct:Value} (l:K.lookup f=some ⟨oc,od,.func (W.fnOf x qual (defArgs st) (defBody st) (defScope st) .none kV doc pm an cdv ct),osl⟩)
    (c:W.codeIn K cdv qual=true) (k:W.keepIn K (.ref f)=true):Fun K x qual st f (W.fnOf x qual (defArgs st) (defBody st) (defScope st) .none kV doc pm an cdv ct):=⟨⟨oc,od,kV,doc,pm,an,cdv,ct,osl,rfl,l,c⟩,k⟩
end
section
variable {X:Cx}
end
def Same (H H':Hp):Prop:=∀ b o,H b=some o→H' b=some o
theorem Same.refl (H:Hp):Same H H:=fun _ _ h=>h
theorem Same.trans {H H1 H2:Hp} (a:Same H H1) (b:Same H1 H2):Same H H2:=fun c o h=>b c o (a c o h)
theorem Same.seq {K:W.Frag}{H H':Hp}{a:Addr}{xs:List V} (e:Same H H') (h:SqL K H a xs):SqL K H' a xs:=by
  rcases h with (h | ⟨o,h⟩) | h
  · exact .inl (.inl (e _ _ h))
  · exact .inl (.inr ⟨o,e _ _ h⟩)
  · exact .inr h
end L2
namespace L2
open PySem PySem.Spec PyProof.Rows
section
variable {κ:Type} [DecidableEq κ]
def valV (kvs:List (κ × V)) (k:κ):Option V:=(kvs.find? fun kv=>decide (kv.1=k)).map (·.2)
def putK (kvs:List (κ × V)) (k:κ) (v:V):List (κ × V) :=
  if (kvs.any fun kv=>decide (kv.1=k))=true then kvs.map (fun kv=>if kv.1=k then (kv.1,v) else kv) else kvs++[(k,v)]
theorem valV_pos {p:κ × V}{r:List (κ × V)}{k:κ} (e:p.1=k):valV (p :: r) k=some p.2:=by simp [valV,List.find?_cons,e]
theorem valV_neg {p:κ × V}{r:List (κ × V)}{k:κ} (e:¬ p.1=k):valV (p :: r) k=valV r k:=by simp [valV,List.find?_cons,e]
theorem valV_any (k:κ):∀ kvs:List (κ × V),(kvs.any fun kv=>decide (kv.1=k))=(valV kvs k).isSome
  | []=>rfl
  | p :: r=>by
    rw [List.any_cons]
    by_cases e:p.1=k
    · simp only [valV_pos e,decide_eq_true e,Bool.true_or,Option.isSome_some]
    · rw [valV_neg e,decide_eq_false e,Bool.false_or]; exact valV_any k r
theorem length_putK (kvs:List (κ × V)) (k:κ) (v:V):(putK kvs k v).length ≤ kvs.length + 1:=by
  unfold putK
  split
  · rw [List.length_map]; omega
  · rw [List.length_append,List.length_cons,List.length_nil]; omega
theorem RelO.isSome_eq {o:Option V}{u:Option Value} (r:RelO o u):o.isSome=u.isSome:=by
  cases o with
  | none=>cases u with
    | none=>rfl
    | some _=>exact (show False from r).elim
  | some _=>cases u with
    | none=>exact (show False from r).elim
    | some _=>rfl
theorem KV.val {kvs:List (κ × V)}{vs:List (κ × Value)} (r:KV kvs vs) (k:κ):RelO (valV kvs k) (valueAt vs k):=by
  unfold KV at r
  induction r with
  | nil=>exact True.intro
  | @cons p q ps qs h t ih =>
    obtain ⟨h1,h2⟩:=h
    by_cases e:p.1=k
    · have e':q.1=k:=h1.symm.trans e
      have b:valueAt (q :: qs) k=some q.2:=by simp [valueAt,List.find?_cons,e']
      rw [valV_pos e,b]; exact h2
    · have e':¬ q.1=k:=fun z=>e (h1.trans z)
      have b:valueAt (q :: qs) k=valueAt qs k:=by simp [valueAt,List.find?_cons,e']
      rw [valV_neg e,b]; exact ih
theorem KV.any {kvs:List (κ × V)}{vs:List (κ × Value)} (r:KV kvs vs) (k:κ):(kvs.any fun kv=>decide (kv.1=k))=vs.any fun kv=>decide (kv.1=k):=by
  unfold KV at r
  induction r with
  | nil=>rfl
  | cons h t ih=>rw [List.any_cons,List.any_cons,ih,h.1]
theorem KV.repl {kvs:List (κ × V)}{vs:List (κ × Value)} (r:KV kvs vs) (k:κ) {y:V}{u:Value} (ry:RelV y u) :
    KV (kvs.map fun kv=>if kv.1=k then (kv.1,y) else kv) (vs.map fun kv=>if kv.1=k then (kv.1,u) else kv):=by
  unfold KV at r ⊢
  induction r with
  | nil=>exact .nil
  | @cons p q ps qs h t ih =>
    rw [List.map_cons,List.map_cons]
    refine .cons ?_ ih
    obtain ⟨h1,h2⟩:=h
    by_cases e:p.1=k
    · rw [if_pos e,if_pos (h1.symm.trans e)]; exact ⟨h1,ry⟩
    · rw [if_neg e,if_neg (fun z=>e (h1.trans z))]; exact ⟨h1,h2⟩
theorem KV.put {kvs:List (κ × V)}{vs:List (κ × Value)} (r:KV kvs vs) (k:κ) {y:V}{u:Value} (ry:RelV y u):KV (putK kvs k y) (stored vs k u):=by
  unfold putK stored
  rw [r.any k]
  by_cases e:(vs.any fun kv=>decide (kv.1=k))=true
  · rw [if_pos e,if_pos e]; exact r.repl k ry
  · rw [if_neg e,if_neg e]; exact Paired.snoc r ⟨rfl,ry⟩
theorem KV.length {kvs:List (κ × V)}{vs:List (κ × Value)} (r:KV kvs vs):kvs.length=vs.length:=Paired.length r
end
theorem kV_is {P:Program}{w:World}{k:Key}{u:Value} (r:RelV (kV k) u):(mixKind P w).is k u=true:=by
  cases k with
  | inl i=>obtain ⟨t,e⟩:=(show ∃ t,u=Value.int i t from r); subst e; exact mixKind_int P w i t
  | inr x=>obtain ⟨t,e⟩:=(show ∃ t,u=Value.str x t from r); subst e; exact mixKind_str P w x t
theorem items_are {P:Program}{w:World}:∀ {ks:List Key}{us:List Value},Vals (ks.map kV) us→ItemsAre (mixKind P w) ks us
  | [],_,r=>by rw [List.map_nil] at r; cases r; exact .nil
  | k :: ks,_,r=>by
    rw [List.map_cons] at r
    cases r with
    | cons h t=>exact .cons (kV_is h) (items_are t)
abbrev KT (H:Hp):List (List Key × V)→List (List Key × Addr × Value)→Prop:=Paired fun p q=>p.1=q.1∧H q.2.1=some (.tup (p.1.map kV))∧RelV p.2 q.2.2
theorem KT.val {H:Hp}{kvs:List (List Key × V)}{xs:List (List Key × Addr × Value)} (r:KT H kvs xs) (k:List Key):RelO (valV kvs k) ((atKey xs k).map (·.2)):=by
  induction r with
  | nil=>exact True.intro
  | @cons p q ps qs h t ih =>
    obtain ⟨h1,_,h2⟩:=h
    by_cases e:p.1=k
    · have e':q.1=k:=h1.symm.trans e
      have b:atKey (q :: qs) k=some q.2:=by simp [atKey,List.find?_cons,e']
      rw [valV_pos e,b]; exact h2
    · have e':¬ q.1=k:=fun z=>e (h1.trans z)
      have b:atKey (q :: qs) k=atKey qs k:=by simp [atKey,List.find?_cons,e']
      rw [valV_neg e,b]; exact ih
theorem KT.repl {H:Hp}{kvs:List (List Key × V)}{xs:List (List Key × Addr × Value)} (r:KT H kvs xs) (k:List Key) {y:V}{u:Value} (ry:RelV y u) :
    KT H (kvs.map fun kv=>if kv.1=k then (kv.1,y) else kv) (xs.map (putAt k u)):=by
  induction r with
  | nil=>exact .nil
  | @cons p q ps qs h t ih =>
    rw [List.map_cons,List.map_cons]
    refine .cons ?_ ih
    obtain ⟨h1,h2,h3⟩:=h
    unfold putAt
    by_cases e:p.1=k
    · rw [if_pos e,if_pos (h1.symm.trans e)]; exact ⟨h1,h2,ry⟩
    · rw [if_neg e,if_neg (fun z=>e (h1.trans z))]; exact ⟨h1,h2,h3⟩
theorem KT.put {H:Hp}{kvs:List (List Key × V)}{xs:List (List Key × Addr × Value)} (r:KT H kvs xs) (k:List Key) {b:Addr}{y:V}{u:Value} (hb:H b=some (.tup (k.map kV))) (ry:RelV y u) :
    KT H (putK kvs k y) (storedH xs k b u):=by
  have e:(kvs.any fun kv=>decide (kv.1=k))=(atKey xs k).isSome:=by
    rw [valV_any,(r.val k).isSome_eq,Option.isSome_map]
  unfold putK storedH
  rw [e]
  by_cases q:(atKey xs k).isSome=true
  · rw [if_pos q,if_pos q]; exact r.repl k ry
  · rw [if_neg q,if_neg q]; exact Paired.snoc r ⟨rfl,hb,ry⟩
theorem KT.keeps {H H':Hp}{kvs:List (List Key × V)}{xs:List (List Key × Addr × Value)} (r:KT H kvs xs) (ht:∀ b ys,H b=some (.tup ys)→H' b=some (.tup ys)):KT H' kvs xs :=
  Paired.mapP r fun _ _ z=>⟨z.1,ht _ _ z.2.1,z.2.2⟩
section
variable {P:Program}{w:World}{H:Hp}{h:Heap}{a:Addr}
theorem rd_of {u:HO} (ok:HOk P w H h) (e:Rd H a u):ObjOk P w H h a u:=e.ok ok
theorem dk_rd {kvs:List (Key × V)} (ok:HOk P w H h) (e:Rd H a (.dK kvs)):kvs.length ≤ sizeLine∧(a == sysModules)=false∧∃ vs,KV kvs vs∧h.DictOf (mixKind P w) a vs :=
  show ObjOk P w H h a (.dK kvs) from rd_of ok e
theorem dk_of {kvs:List (Key × V)} (ok:HOk P w H h) (e:H a=some (.dK kvs)):kvs.length ≤ sizeLine∧(a == sysModules)=false∧∃ vs,KV kvs vs∧h.DictOf (mixKind P w) a vs:=dk_rd ok (.inl e)
theorem key_of {ks:List Key} (ok:HOk P w H h) (e:H a=some (.tup (ks.map kV))):(tupleKind (mixKind P w)).is h ks a:=by
  obtain ⟨_,its,r,o,h1,h2,n,h3⟩:=(show ObjOk P w H h a (.tup (ks.map kV)) from ok a _ e)
  exact ⟨o,its.toArray,n,h1,h2,h3,by simpa using items_are r⟩
theorem dt_rd {kvs:List (List Key × V)} (ok:HOk P w H h) (e:Rd H a (.dT kvs)):kvs.length ≤ sizeLine∧(a == sysModules)=false ∧
    ∃ xs,KT H kvs xs∧h.DictOfH (tupleKind (mixKind P w)) a xs:=by
  obtain ⟨z,y,xs,r,o,es,ep,h1,h2,h3,h4,h5⟩:=(show ObjOk P w H h a (.dT kvs) from rd_of ok e)
  refine ⟨z,y,xs,r,o,es,ep,h1,h2,h3,h4,fun x hx=>?_,h5⟩
  have all:∀ {l:List (List Key × V)}{m:List (List Key × Addr × Value)},KT H l m→∀ x∈m,(tupleKind (mixKind P w)).is h x.1 x.2.1:=by
    intro l m q
    induction q with
    | nil=>intro x hx; exact nomatch hx
    | @cons p q ps qs hq t ih =>
      intro x hx
      rcases List.mem_cons.mp hx with e | hx
      · subst e
        exact key_of ok (by rw [← hq.1]; exact hq.2.1)
      · exact ih x hx
  exact all r x hx
theorem dt_of {kvs:List (List Key × V)} (ok:HOk P w H h) (e:H a=some (.dT kvs)):kvs.length ≤ sizeLine∧(a == sysModules)=false ∧
    ∃ xs,KT H kvs xs∧h.DictOfH (tupleKind (mixKind P w)) a xs:=dt_rd ok (.inl e)
end
def DGet (H:Hp) (a:Addr) (y:V) (r:Option V):Prop :=
  (∃ kvs k,Rd H a (.dK kvs)∧y=kV k∧r=valV kvs k) ∨ ∃ kvs k b,Rd H a (.dT kvs)∧y=.ref b∧H b=some (.tup (k.map kV))∧r=valV kvs k
def DPut (H:Hp) (a:Addr) (y v:V) (H':Hp):Prop :=
  (∃ kvs k,H a=some (.dK kvs)∧y=kV k∧kvs.length < sizeLine∧H'=upd H a (.dK (putK kvs k v))) ∨
  ∃ kvs k b,H a=some (.dT kvs)∧y=.ref b∧H b=some (.tup (k.map kV))∧kvs.length < sizeLine∧H'=upd H a (.dT (putK kvs k v))
theorem DGet.k {H:Hp}{a:Addr}{kvs:List (Key × V)}{k:Key} (e:H a=some (.dK kvs)):DGet H a (kV k) (valV kvs k):=.inl ⟨kvs,k,.inl e,rfl,rfl⟩
theorem DPut.k {H:Hp}{a:Addr}{kvs:List (Key × V)}{k:Key}{v:V} (e:H a=some (.dK kvs)) (hl:kvs.length < sizeLine):DPut H a (kV k) v (upd H a (.dK (putK kvs k v))):=.inl ⟨kvs,k,e,rfl,hl,rfl⟩
section
variable {X:Cx}{pins:List (Addr × Obj)}{σ:St}{H:Hp}{s:Shared}{a:Addr}{y v:V}{u r:Value}{o:Option V}{A:Around}{E:Value→Shared→Prop}
theorem Inv.big (I:Inv X pins σ H s):sysModules < s.heap.objs.size:=by
  have h:mainGlobals < s.heap.objs.size:=(I.mod.glob.keeps I.bk).lt
  exact Nat.lt_trans (by decide) h
theorem d_getItem {Q:Value→Shared→Prop} (hu:A.units + 1 < cLine) (I:Inv X pins σ H s) (g:DGet H a y (some v)) (ry:RelV y u) (h:∀ w' s',Inv X pins σ H s'→RelV v w'→Q w' s') :
    wpAny (model X.prog X.w) A (getItem (.ref a) u) Q E s:=by
  rcases g with ⟨kvs,k,e,ey,l⟩ | ⟨kvs,k,b,e,ey,eb,l⟩
  · subst ey
    obtain ⟨z,hd,vs,rel,dd⟩:=dk_rd I.hok e
    obtain ⟨w',hw,rw'⟩:=RelO.some_of (v:=v) (o:=valueAt vs k) (by rw [l]; exact rel.val k)
    exact wpAny_getItem_of (kV_is ry) dd.mapOf hw (h w' _ (I.tok _) rw')
  · subst ey
    cases (show u=Value.ref b from ry)
    obtain ⟨z,hd,xs,rel,dd⟩:=dt_rd I.hok e
    obtain ⟨w',hw,rw'⟩:=RelO.some_of (v:=v) (o:=(atKey xs k).map (·.2)) (by rw [l]; exact rel.val k)
    obtain ⟨p,hp,hp2⟩:=Option.map_eq_some_iff.mp hw
    refine wpAny_getItem_heap (tupleKind_room_in1 hu) (key_of I.hok eb) dd hp ?_
    rw [hp2]
    exact h w' _ (I.tok _) rw'
theorem d_in {Q:Value→Shared→Prop} (hu:A.units + 1 < cLine) (I:Inv X pins σ H s) (g:DGet H a y o) (ry:RelV y u) (h:∀ s',Inv X pins σ H s'→Q (.bool o.isSome) s') :
    wpAny (model X.prog X.w) A (compareOp .In u (.ref a)) Q E s:=by
  rcases g with ⟨kvs,k,e,ey,l⟩ | ⟨kvs,k,b,e,ey,eb,l⟩
  · subst ey
    obtain ⟨z,hd,vs,rel,dd⟩:=dk_rd I.hok e
    refine wpAny_in_of (kV_is ry) hd dd.mapOf ?_
    rw [← (rel.val k).isSome_eq,← l]
    exact h _ (I.tok _)
  · subst ey
    cases (show u=Value.ref b from ry)
    obtain ⟨z,hd,xs,rel,dd⟩:=dt_rd I.hok e
    refine wpAny_in_heap (tupleKind_room_in1 hu) (key_of I.hok eb) hd dd ?_
    have q:=(rel.val k).isSome_eq
    rw [Option.isSome_map] at q
    rw [← q,← l]
    exact h _ (I.tok _)
theorem d_notIn {Q:Value→Shared→Prop} (hu:A.units + 1 < cLine) (I:Inv X pins σ H s) (g:DGet H a y o) (ry:RelV y u) (h:∀ s',Inv X pins σ H s'→Q (.bool (!o.isSome)) s') :
    wpAny (model X.prog X.w) A (compareOp .NotIn u (.ref a)) Q E s:=by
  rcases g with ⟨kvs,k,e,ey,l⟩ | ⟨kvs,k,b,e,ey,eb,l⟩
  · subst ey
    obtain ⟨z,hd,vs,rel,dd⟩:=dk_rd I.hok e
    refine wpAny_notIn_of (kV_is ry) hd dd.mapOf ?_
    rw [← (rel.val k).isSome_eq,← l]
    exact h _ (I.tok _)
  · subst ey
    cases (show u=Value.ref b from ry)
    obtain ⟨z,hd,xs,rel,dd⟩:=dt_rd I.hok e
    refine wpAny_notIn_heap (tupleKind_room_in1 hu) (key_of I.hok eb) hd dd ?_
    have q:=(rel.val k).isSome_eq
    rw [Option.isSome_map] at q
    rw [← q,← l]
    exact h _ (I.tok _)
theorem d_write {h':Heap}{t':Nat}{ob:HO} (I:Inv X pins σ H s) (mu:Mut (H a)) (hs:Heap.SameBut a s.heap h') (he:∃ q,h'.get? a=some q) (new:ObjOk X.prog X.w (upd H a ob) h' a ob) :
    Inv X pins σ (upd H a ob) { s with heap:=h',toks:=t' } :=
  I.write (x:=a) (e:=a) mu (.inl rfl) (fun b q hb z=>(hs.2 b hb).trans z) he new
theorem dk_new {P:Program}{w:World}{H':Hp}{h':Heap}{kvs:List (Key × V)}{vs:List (Key × Value)} (z:kvs.length ≤ sizeLine) (hd:(a == sysModules)=false) (rel:KV kvs vs) (dd:h'.DictOf (mixKind P w) a vs) :
    ObjOk P w H' h' a (.dK kvs):=⟨z,hd,vs,rel,dd⟩
theorem d_setItem {H':Hp}{Q:Unit→Shared→Prop} (hu:A.units + 1 < cLine) (I:Inv X pins σ H s) (g:DPut H a y v H') (ry:RelV y u) (rv:RelV v r) (h:∀ s',Inv X pins σ H' s'→Q () s') :
    wpAny (model X.prog X.w) A (setItem (.ref a) u r) Q E s:=by
  rcases g with ⟨kvs,k,e,ey,l,eH⟩ | ⟨kvs,k,b,e,ey,eb,l,eH⟩
  · subst ey eH
    obtain ⟨z,hd,vs,rel,dd⟩:=dk_of I.hok e
    have hz:vs.length ≤ sizeLine:=by rw [← rel.length]; exact z
    have hl:(putK kvs k v).length ≤ sizeLine:=by have:=length_putK kvs k v; omega
    refine wpAny_setItem_pairs (hsz:=hz) (kV_is ry) dd fun h' dd' hs=>h _ ?_
    have he:∃ q,h'.get? a=some q:=let ⟨q,_,_,hq,_⟩:=dd'; ⟨q,hq⟩
    exact d_write I (by rw [e]; exact True.intro) hs he (dk_new hl hd (rel.put k rv) dd')
  · subst ey eH
    cases (show u=Value.ref b from ry)
    obtain ⟨z,hd,xs,rel,dd⟩:=dt_of I.hok e
    have hz:xs.length ≤ sizeLine:=by rw [← Paired.length rel]; exact z
    have hl:(putK kvs k v).length ≤ sizeLine:=by have:=length_putK kvs k v; omega
    refine wpAny_setItem_heap (hsz:=hz) (tupleKind_room_in1 hu) (key_of I.hok eb) dd fun h' dd' hs=>h _ ?_
    obtain ⟨q,es,ep,hq,h2,h3,h4,_,h5⟩:=dd'
    refine d_write I (by rw [e]; exact True.intro) hs ⟨q,hq⟩ ⟨hl,hd,_,(rel.put k eb rv).keeps fun c ys ec=>?_,q,es,ep,hq,h2,h3,h4,h5⟩
    rw [upd_ne (ne_of ec e (fun z=>nomatch z))]
    exact ec
end
section
variable {X:Cx}{pins:List (Addr × Obj)}{σ:St}{H:Hp}{s:Shared}{a:Addr}{kvs:List (Key × V)}{k:Key}{u:Value}{A:Around}{E:Value→Shared→Prop}
theorem d_len {Q:Value→Shared→Prop} (I:Inv X pins σ H s) (e:Rd H a (.dK kvs)) (h:∀ t s',Inv X pins σ H s'→Q (.int kvs.length t) s'):wpAny (model X.prog X.w) A (call (.builtin "len") [.ref a]) Q E s:=by
  obtain ⟨z,hd,vs,rel,dd⟩:=dk_rd I.hok e
  refine call_len_dict hd dd (by rw [← rel.length]; rw [sizeLine_eq] at z; omega) ?_
  rw [← rel.length]
  exact h _ _ (I.tok _)
end
def NoSl (i:Expr):Prop:=∀ ov iv,subscripted i false ov iv=operate [ov,iv] (getItem ov iv)
theorem subD_of {prog:Program}{w:World}{A:Around}{E:Value→Shared→Prop}{s:Shared}{env:Env}{value slice:Expr}{pos:Pos}{T id:String}{Q:Value→Shared→Prop}
    (hl:typeLookup (.type T) "__getitem__"=pure (some (.builtin id))) (hs:NoSl slice)
    (h:wpAny (model prog w) A (eval value env) (fun o s₁=>wpAny (model prog w) A (eval slice env) (fun i s₂=>s₂.TypeIs o T∧wpAny (model prog w) A (getItem o i) Q E s₂) E s₁) E s) :
    wpAny (model prog w) A (eval (.Subscript value slice pos) env) Q E s:=by
  refine Subscript_ (wpAny_mono h (fun o s₁ h₁=>wpAny_mono h₁ (fun i s₂ h₂=>?_) fun _ _ x=>x) fun _ _ x=>x)
  obtain ⟨hT,h₂⟩:=h₂
  unfold subscriptTail
  refine wpAny_bind ?_
  rw [getitemInPython_of_ne hT.not_modules]
  refine wpAny_bind (wpAny_specialOf hT hl ?_)
  have fin:wpAny (model prog w) A (subscripted slice false o i) (fun r s₃=>wpAny (model prog w) A (letTemporaryGo value o r >>= fun _=>pure r) Q E s₃) E s₂:=by
    rw [hs o i]
    exact wpAny_operating (wpAny_mono h₂ (fun r s₃ h₃=>wpAny_bind (wpAny_letTemporaryGo (wpAny_pure h₃))) fun _ _ x=>x)
  first
    | exact wpAny_pure (wpAny_bind fin)
    | exact wpAny_bind (wpAny_pure (wpAny_bind fin))
    | exact wpAny_bind fin
theorem dict_typeIs {X:Cx}{pins:List (Addr × Obj)}{σ:St}{H:Hp}{s:Shared}{a:Addr}{y:V}{o:Option V} (I:Inv X pins σ H s) (g:DGet H a y o):s.TypeIs (.ref a) "dict":=by
  rcases g with ⟨kvs,k,e,_,_⟩ | ⟨kvs,k,b,e,_,_,_⟩
  · obtain ⟨_,_,vs,_,dd⟩:=dk_rd I.hok e
    exact dd.typeIs
  · obtain ⟨_,_,xs,_,dd⟩:=dt_rd I.hok e
    exact dd.typeIs
def tDGet (td ty:TE):TE:=fun σ H Q=>td σ H fun x H1=>ty σ H1 fun y H2=>∃ a v,x=.ref a∧DGet H2 a y (some v)∧Q v H2
section
variable {X:Cx}{o i e value:Expr}{pos pos' tpos:Pos}{td ty tv:TE}
theorem pe_dget (hu:X.A.units + 1 < cLine) (ho:PE X o td) (hi:PE X i ty) (hs:NoSl i):PE X (.Subscript o i pos) (tDGet td ty):=by
  intro pins s σ H Q I h
  refine subD_of PySem.F.slot_dict_getitem.lookup hs (thn (ho pins s σ H _ I h) fun u s1 ⟨x,H1,I1,rx,q1⟩=>thn (hi pins s1 σ H1 _ I1 q1) fun iv s2 ⟨y,H2,I2,ry,a,v,ex,g,q2⟩=>?_)
  subst ex
  obtain rfl:u=Value.ref a:=rx
  exact ⟨dict_typeIs I2 g,d_getItem hu I2 g ry fun w' s3 I3 rw'=>⟨v,H2,I3,rw',q2⟩⟩
end
theorem dk_empty {P:Program}{w:World}{H:Hp} (h:Heap) (hb:sysModules < h.objs.size):ObjOk P w H (h.push { cls:=.type "dict",data:=.dict #[] }) h.objs.size (.dK []) :=
  ⟨Nat.zero_le _,beq_eq_false_iff_ne.mpr (Ne.symm (Nat.ne_of_lt hb)),[],.nil,Heap.DictOf.new h⟩
def tDNewK:TE:=fun _ H Q=>∀ p,H p=none→Q (.ref p) (upd H p (.dK []))
section
variable {X:Cx}{pos:Pos}
theorem pe_dnewK:PE X (.Dict [] [] pos) tDNewK:=fun pins s σ H Q I h =>
  wpAny_Dict_empty ⟨.ref s.heap.objs.size,_,I.laid (a:=s.heap.objs.size) (o:=.dK []) (t':=s.toks) (fun _ _ q=>Heap.get?_push_of_some _ q) (Nat.le_refl _) (dk_empty s.heap I.big),rfl,h _ (I.hok.fresh (Nat.le_refl _))⟩
end
section
variable {X:Cx}{pins:List (Addr × Obj)}{σ:St}{H:Hp}{s:Shared}{a:Addr}{y d:V}{u r:Value}{o:Option V}{A:Around}{E:Value→Shared→Prop}
end
section
variable {X:Cx}{o e f:Expr}{apos cpos:Pos}{td ty tx:TE}
end
section
variable {X:Cx}{pins:List (Addr × Obj)}{σ:St}{H:Hp}{s:Shared}{a:Addr}{kvs:List (Key × V)}{A:Around}{E:Value→Shared→Prop}
end
section
variable {X:Cx}{pins:List (Addr × Obj)}{σ:St}{H:Hp}{s:Shared}{a:Addr}{y:V}{u:Value}{A:Around}{E:Value→Shared→Prop}
end
end L2
namespace L2
open PySem PySem.Spec PyProof.Rows
section
variable {X:Cx}
theorem call_lenD:CallR X (.builtin "len") (fun xs H Q=>∃ a kvs,xs=[V.ref a]∧H a=some (.dK kvs)∧Q (.int kvs.length) H):=by
  intro pins s σ H xs us Q I r h
  obtain ⟨a,kvs,rfl,ha,q⟩:=h
  obtain ⟨u,rfl,ru⟩:=vals1 r
  cases ru
  exact d_len I (.inl ha) fun t s' I'=>⟨.int kvs.length,H,I',⟨t,rfl⟩,q⟩
end
section
variable {κ:Type} [DecidableEq κ]
end
end L2
end
section
set_option Elab.async false
set_option linter.all false
set_option maxRecDepth 100000
set_option maxHeartbeats 1000000
namespace L2
open PySem PySem.Spec PyProof.Rows
def keyD:Key→PyData
  | .inl i=>.int i
  | .inr x=>.str x
def ClsAt (K:W.Frag) (c:Str) (C:Addr):Prop:=W.nsIn K mainGlobals c=some (some (.ref C))
theorem ClsAt.uniq {K:W.Frag}{c:Str}{C C':Addr} (h:ClsAt K c C) (h':ClsAt K c C'):C=C':=by
  unfold ClsAt at h h'
  rw [h] at h'
  cases h'; rfl
mutual
def IsD (K:W.Frag) (H:Hp):PyData→V→Prop
  | .none,v=>v=.non
  | .bool b,v=>v=.bl b
  | .int i,v=>v=.int i
  | .str x,v=>v=.str x
  | .list xs,v=>∃ p vs,v=.ref p∧SqL K H p vs∧IsDs K H xs vs
  | .tuple xs,v=>∃ p vs,v=.ref p∧SqT K H p vs∧IsDs K H xs vs
  | .dict kvs,v=>∃ p,v=.ref p∧((∃ kv,H p=some (.dK kv)∧IsKV K H kvs kv) ∨ ∃ c C dx fs,ClsAt K c C∧H p=some (.ins C dx fs)∧IsIV K H c kvs fs)
def IsDs (K:W.Frag) (H:Hp):List PyData→List V→Prop
  | [],vs=>vs=[]
  | d :: ds,vs=>∃ v r,vs=v :: r∧IsD K H d v∧IsDs K H ds r
def IsKV (K:W.Frag) (H:Hp):List (PyData × PyData)→List (Key × V)→Prop
  | [],kv=>kv=[]
  | (k,d) :: r,kv=>∃ y v r',kv=(y,v) :: r'∧k=keyD y∧IsD K H d v∧IsKV K H r r'
def IsIV (K:W.Frag) (H:Hp) (c:Str):List (PyData × PyData)→List (Str × V)→Prop
  | [],_=>False
  | (k,d) :: r,fs=>k=.none∧d=.str c∧IsFV K H r fs
def IsFV (K:W.Frag) (H:Hp):List (PyData × PyData)→List (Str × V)→Prop
  | [],fs=>fs=[]
  | (k,d) :: r,fs=>∃ y v r',fs=(y,v) :: r'∧k=.str y∧IsD K H d v∧IsFV K H r r'
end
theorem Same.seqT {K:W.Frag}{H H':Hp}{a:Addr}{xs:List V} (e:Same H H') (h:SqT K H a xs):SqT K H' a xs:=by
  rcases h with (h | ⟨o,h⟩) | h
  · exact .inl (.inl (e _ _ h))
  · exact .inl (.inr ⟨o,e _ _ h⟩)
  · exact .inr h
mutual
theorem IsD.same {K:W.Frag}{H H':Hp} (e:Same H H'):∀ {d:PyData}{v:V},IsD K H d v→IsD K H' d v
  | .none,_,h=>by unfold IsD at h ⊢; exact h
  | .bool _,_,h=>by unfold IsD at h ⊢; exact h
  | .int _,_,h=>by unfold IsD at h ⊢; exact h
  | .str _,_,h=>by unfold IsD at h ⊢; exact h
  | .list _,_,h=>by
    unfold IsD at h ⊢
    obtain ⟨p,vs,e1,e2,e3⟩:=h
    exact ⟨p,vs,e1,e.seq e2,IsDs.same e e3⟩
  | .tuple _,_,h=>by
    unfold IsD at h ⊢
    obtain ⟨p,vs,e1,e2,e3⟩:=h
    exact ⟨p,vs,e1,e.seqT e2,IsDs.same e e3⟩
  | .dict _,_,h=>by
    unfold IsD at h ⊢
    obtain ⟨p,e1,⟨kv,e2,e3⟩ | ⟨c,C,dx,fs,e2,e3,e4⟩⟩:=h
    · exact ⟨p,e1,.inl ⟨kv,e _ _ e2,IsKV.same e e3⟩⟩
    · exact ⟨p,e1,.inr ⟨c,C,dx,fs,e2,e _ _ e3,IsIV.same e e4⟩⟩
theorem IsDs.same {K:W.Frag}{H H':Hp} (e:Same H H'):∀ {ds:List PyData}{vs:List V},IsDs K H ds vs→IsDs K H' ds vs
  | [],_,h=>by unfold IsDs at h ⊢; exact h
  | _ :: _,_,h=>by
    unfold IsDs at h ⊢
    obtain ⟨v,r,e1,e2,e3⟩:=h
    exact ⟨v,r,e1,IsD.same e e2,IsDs.same e e3⟩
theorem IsKV.same {K:W.Frag}{H H':Hp} (e:Same H H'):∀ {ds:List (PyData × PyData)}{kv:List (Key × V)},IsKV K H ds kv→IsKV K H' ds kv
  | [],_,h=>by unfold IsKV at h ⊢; exact h
  | (_,_) :: _,_,h=>by
    unfold IsKV at h ⊢
    obtain ⟨y,v,r,e1,e2,e3,e4⟩:=h
    exact ⟨y,v,r,e1,e2,IsD.same e e3,IsKV.same e e4⟩
theorem IsIV.same {K:W.Frag}{H H':Hp}{c:Str} (e:Same H H'):∀ {ds:List (PyData × PyData)}{fs:List (Str × V)},IsIV K H c ds fs→IsIV K H' c ds fs
  | [],_,h=>by unfold IsIV at h ⊢; exact h
  | (_,_) :: _,_,h=>by
    unfold IsIV at h ⊢
    exact ⟨h.1,h.2.1,IsFV.same e h.2.2⟩
theorem IsFV.same {K:W.Frag}{H H':Hp} (e:Same H H'):∀ {ds:List (PyData × PyData)}{fs:List (Str × V)},IsFV K H ds fs→IsFV K H' ds fs
  | [],_,h=>by unfold IsFV at h ⊢; exact h
  | (_,_) :: _,_,h=>by
    unfold IsFV at h ⊢
    obtain ⟨y,v,r,e1,e2,e3,e4⟩:=h
    exact ⟨y,v,r,e1,e2,IsD.same e e3,IsFV.same e e4⟩
end
section
variable {K:W.Frag}{H:Hp}{v:V}{vs:List V}
theorem IsD.none_iff:IsD K H .none v ↔ v=.non:=by unfold IsD; exact Iff.rfl
theorem IsD.bool_iff {b:Bool}:IsD K H (.bool b) v ↔ v=.bl b:=by unfold IsD; exact Iff.rfl
theorem IsD.int_iff {i:Int}:IsD K H (.int i) v ↔ v=.int i:=by unfold IsD; exact Iff.rfl
theorem IsD.str_iff {x:Str}:IsD K H (.str x) v ↔ v=.str x:=by unfold IsD; exact Iff.rfl
theorem IsD.list_iff {xs:List PyData}:IsD K H (.list xs) v ↔ ∃ p vs,v=.ref p∧SqL K H p vs∧IsDs K H xs vs:=by unfold IsD; exact Iff.rfl
theorem IsD.tuple_iff' {xs:List PyData}:IsD K H (.tuple xs) v ↔ ∃ p vs,v=.ref p∧SqT K H p vs∧IsDs K H xs vs:=by unfold IsD; exact Iff.rfl
theorem IsD.tuple_of {xs:List PyData} (h:IsD K H (.tuple xs) v):∃ p vs,v=.ref p∧SqT K H p vs∧IsDs K H xs vs:=IsD.tuple_iff'.mp h
theorem IsD.dict_iff {kvs:List (PyData × PyData)}:IsD K H (.dict kvs) v ↔ ∃ p,v=.ref p∧((∃ kv,H p=some (.dK kv)∧IsKV K H kvs kv) ∨ ∃ c C dx fs,ClsAt K c C∧H p=some (.ins C dx fs)∧IsIV K H c kvs fs):=by unfold IsD; exact Iff.rfl
theorem IsKV.nil_iff {kv:List (Key × V)}:IsKV K H [] kv ↔ kv=[]:=by unfold IsKV; exact Iff.rfl
theorem IsKV.cons_iff {k d:PyData}{r:List (PyData × PyData)}{kv:List (Key × V)}:IsKV K H ((k,d) :: r) kv ↔ ∃ y v r',kv=(y,v) :: r'∧k=keyD y∧IsD K H d v∧IsKV K H r r':=by
  constructor
  · intro h; unfold IsKV at h; exact h
  · intro h; unfold IsKV; exact h
theorem IsFV.nil_iff {fs:List (Str × V)}:IsFV K H [] fs ↔ fs=[]:=by unfold IsFV; exact Iff.rfl
theorem IsFV.cons_iff {k d:PyData}{r:List (PyData × PyData)}{fs:List (Str × V)}:IsFV K H ((k,d) :: r) fs ↔ ∃ y v r',fs=(y,v) :: r'∧k=.str y∧IsD K H d v∧IsFV K H r r':=by
  constructor
  · intro h; unfold IsFV at h; exact h
  · intro h; unfold IsFV; exact h
theorem IsIV.cons_iff {c:Str}{k d:PyData}{r:List (PyData × PyData)}{fs:List (Str × V)}:IsIV K H c ((k,d) :: r) fs ↔ k=.none∧d=.str c∧IsFV K H r fs:=by
  constructor
  · intro h; unfold IsIV at h; exact h
  · intro h; unfold IsIV; exact h
theorem IsIV.nil_iff {c:Str}{fs:List (Str × V)}:IsIV K H c [] fs ↔ False:=by unfold IsIV; exact Iff.rfl
theorem IsDs.nil_iff:IsDs K H [] vs ↔ vs=[]:=by unfold IsDs; exact Iff.rfl
theorem IsDs.cons_iff {d:PyData}{ds:List PyData}:IsDs K H (d :: ds) vs ↔ ∃ v r,vs=v :: r∧IsD K H d v∧IsDs K H ds r:=by
  constructor
  · intro h; unfold IsDs at h; exact h
  · intro h; unfold IsDs; exact h
theorem IsDs.nil:IsDs K H [] []:=IsDs.nil_iff.mpr rfl
theorem IsDs.cons {d:PyData}{ds:List PyData} (h:IsD K H d v) (t:IsDs K H ds vs):IsDs K H (d :: ds) (v :: vs):=IsDs.cons_iff.mpr ⟨v,vs,rfl,h,t⟩
theorem IsDs.length {ds:List PyData} (h:IsDs K H ds vs):ds.length=vs.length:=by
  induction ds generalizing vs with
  | nil=>rw [IsDs.nil_iff.mp h]; rfl
  | cons d ds ih =>
    obtain ⟨v,r,rfl,_,t⟩:=IsDs.cons_iff.mp h
    simp [ih t]
theorem IsDs.get {ds:List PyData}{i:Nat}{d:PyData} (h:IsDs K H ds vs) (e:ds[i]?=some d):∃ v,vs[i]?=some v∧IsD K H d v:=by
  induction ds generalizing vs i with
  | nil=>simp at e
  | cons d' ds ih =>
    obtain ⟨v,r,rfl,h1,t⟩:=IsDs.cons_iff.mp h
    cases i with
    | zero=>simp at e; subst e; exact ⟨v,rfl,h1⟩
    | succ i =>
      obtain ⟨u,e1,e2⟩:=ih t (by simpa using e)
      exact ⟨u,by simpa using e1,e2⟩
theorem IsDs.get' {ds:List PyData}{i:Nat}{v:V} (h:IsDs K H ds vs) (e:vs[i]?=some v):∃ d,ds[i]?=some d∧IsD K H d v:=by
  have hl:=h.length
  have hi:i < vs.length:=(List.getElem?_eq_some_iff.mp e).1
  have hd:ds[i]?=some ds[i]:=List.getElem?_eq_getElem (by omega)
  obtain ⟨u,e1,e2⟩:=h.get hd
  rw [e] at e1; cases e1
  exact ⟨_,hd,e2⟩
theorem IsDs.append {ds es:List PyData}{ws:List V} (h:IsDs K H ds vs) (t:IsDs K H es ws):IsDs K H (ds++es) (vs++ws):=by
  induction ds generalizing vs with
  | nil=>rw [IsDs.nil_iff.mp h]; exact t
  | cons d ds ih =>
    obtain ⟨v,r,rfl,h1,t1⟩:=IsDs.cons_iff.mp h
    exact IsDs.cons h1 (ih t1)
theorem IsDs.take {ds:List PyData} (n:Nat) (h:IsDs K H ds vs):IsDs K H (ds.take n) (vs.take n):=by
  induction ds generalizing vs n with
  | nil=>rw [IsDs.nil_iff.mp h]; simp; exact IsDs.nil
  | cons d ds ih =>
    obtain ⟨v,r,rfl,h1,t1⟩:=IsDs.cons_iff.mp h
    cases n with
    | zero=>simp; exact IsDs.nil
    | succ n=>simp only [List.take_succ_cons]; exact IsDs.cons h1 (ih n t1)
theorem IsDs.drop {ds:List PyData} (n:Nat) (h:IsDs K H ds vs):IsDs K H (ds.drop n) (vs.drop n):=by
  induction ds generalizing vs n with
  | nil=>rw [IsDs.nil_iff.mp h]; simp; exact IsDs.nil
  | cons d ds ih =>
    obtain ⟨v,r,rfl,h1,t1⟩:=IsDs.cons_iff.mp h
    cases n with
    | zero=>exact h
    | succ n=>simp only [List.drop_succ_cons]; exact ih n t1
end
section
variable {X:Cx}{pins:List (Addr × Obj)}{σ:St}{H:Hp}{s:Shared}
mutual
theorem Inv.readsD (I:Inv X pins σ H s):∀ {d:PyData}{v:V}{u:Value},d.canLay0=true→IsD X.K H d v→RelV v u→∃ as,Reads s.heap u d as
  | .none,_,_,_,h,r=>by rw [IsD.none_iff.mp h] at r; cases r; exact ⟨_,.none⟩
  | .bool b,_,_,_,h,r=>by rw [IsD.bool_iff.mp h] at r; cases r; exact ⟨_,.bool b⟩
  | .int i,_,_,_,h,r=>by rw [IsD.int_iff.mp h] at r; obtain ⟨t,rfl⟩:=r; exact ⟨_,.int i t⟩
  | .str x,_,_,_,h,r=>by rw [IsD.str_iff.mp h] at r; obtain ⟨t,rfl⟩:=r; exact ⟨_,.str x t⟩
  | .list xs,_,_,hc,h,r=>by
    obtain ⟨p,vs,rfl,e2,e3⟩:=IsD.list_iff.mp h
    cases r
    obtain ⟨its,rv,⟨o,n,e,c,_,dd⟩,_⟩:=I.list e2
    obtain ⟨as,ra⟩:=Inv.readsDs I (by simpa [PyData.canLay0] using hc) e3 rv
    exact ⟨_,.list e c dd (by simpa using ra)⟩
  | .tuple xs,_,_,hc,h,r=>by
    obtain ⟨p,vs,rfl,e2,e3⟩:=h.tuple_of
    cases r
    obtain ⟨its,rv,⟨o,e,c,n,dd⟩,_⟩:=I.tuple e2
    obtain ⟨as,ra⟩:=Inv.readsDs I (by simpa [PyData.canLay0] using hc) e3 rv
    exact ⟨_,.tuple e c dd (by simpa using ra)⟩
  | .dict _,_,_,hc,_,_=>by simp [PyData.canLay0] at hc
theorem Inv.readsDs (I:Inv X pins σ H s):∀ {ds:List PyData}{vs:List V}{us:List Value},PyData.canLayAll0 ds=true→IsDs X.K H ds vs→Vals vs us→∃ as,ReadsAll s.heap us ds as
  | [],_,_,_,h,r=>by rw [IsDs.nil_iff.mp h] at r; cases r; exact ⟨_,.nil⟩
  | d :: ds,_,_,hc,h,r=>by
    have hc':d.canLay0=true∧PyData.canLayAll0 ds=true:=by simpa [PyData.canLayAll0] using hc
    obtain ⟨v,rr,rfl,h1,t⟩:=IsDs.cons_iff.mp h
    cases r with
    | cons r1 r2 =>
      obtain ⟨as,ra⟩:=Inv.readsD I hc'.1 h1 r1
      obtain ⟨bs,rb⟩:=Inv.readsDs I hc'.2 t r2
      exact ⟨_,.cons ra rb⟩
end
end
abbrev Rho:=List (Option PyData)
def HasD (K:W.Frag) (H:Hp) (σ:St) (ρ:Rho):Prop:=σ.length=ρ.length∧∀ (i:Nat) (d:PyData),ρ[i]?=some (some d)→∃ v,σ[i]?=some (some v)∧IsD K H d v
theorem HasD.same {K:W.Frag}{H H':Hp}{σ:St}{ρ:Rho} (h:HasD K H σ ρ) (e:Same H H'):HasD K H' σ ρ :=
  ⟨h.1,fun i d q=>let ⟨v,a,b⟩:=h.2 i d q; ⟨v,a,b.same e⟩⟩
theorem HasD.set {K:W.Frag}{H:Hp}{σ:St}{ρ:Rho}{i:Nat}{d:PyData}{v:V} (h:HasD K H σ ρ) (e:IsD K H d v):HasD K H (σ.set i (some v)) (ρ.set i (some d)):=by
  refine ⟨by simpa using h.1,fun j d' q=>?_⟩
  by_cases hj:j=i
  · subst hj
    have hl:j < ρ.length:=by
      have:=(List.getElem?_eq_some_iff.mp q).1
      simpa using this
    rw [List.getElem?_set_self hl] at q
    cases q
    exact ⟨v,by rw [List.getElem?_set_self (by rw [h.1]; exact hl)],e⟩
  · rw [List.getElem?_set_ne (Ne.symm hj)] at q
    obtain ⟨u,a,b⟩:=h.2 j d' q
    exact ⟨u,by rw [List.getElem?_set_ne (Ne.symm hj)]; exact a,b⟩
def KD (K:W.Frag) (H:Hp) (d:PyData) (Q:VK):Prop:=∀ v H',Same H H'→IsD K H' d v→Q v H'
theorem KD.here {K:W.Frag}{H:Hp}{d:PyData}{Q:VK}{v:V} (k:KD K H d Q) (h:IsD K H d v):Q v H:=k v H (.refl H) h
theorem KD.later {K:W.Frag}{H H':Hp}{d:PyData}{Q:VK} (k:KD K H d Q) (e:Same H H'):KD K H' d Q:=fun v H2 e2 i=>k v H2 (e.trans e2) i
def tD (K:W.Frag) (f:Rho→Option PyData):TE:=fun σ H Q=>∃ ρ d,HasD K H σ ρ∧f ρ=some d∧KD K H d Q
def PD (X:Cx) (e:Expr) (f:Rho→Option PyData):Prop:=PE X e (tD X.K f)
def tDT (K:W.Frag) (f:Rho→Option Bool):TT:=fun σ H Q=>∃ ρ b,HasD K H σ ρ∧f ρ=some b∧∀ H',Same H H'→Q b H'
def PDT (X:Cx) (e:Expr) (f:Rho→Option Bool):Prop:=PT X e (tDT X.K f)
def tDA (K:W.Frag) (f:Rho→Option (List PyData)):TA:=fun σ H Q=>∃ ρ ds,HasD K H σ ρ∧f ρ=some ds∧∀ vs H',Same H H'→IsDs K H' ds vs→Q vs H'
def PDA (X:Cx) (es:List Expr) (f:Rho→Option (List PyData)):Prop:=PA X es (tDA X.K f)
inductive Out where
  | nx (ρ:Rho) | rt (d:PyData) | bk (ρ:Rho) | ct (ρ:Rho)
theorem PE.imp {X:Cx}{e:Expr}{t u:TE} (h:PE X e t) (k:∀ σ H Q,u σ H Q→t σ H Q):PE X e u:=fun pins s σ H Q I q=>h pins s σ H Q I (k σ H Q q)
theorem PT.imp {X:Cx}{e:Expr}{t u:TT} (h:PT X e t) (k:∀ σ H Q,u σ H Q→t σ H Q):PT X e u:=fun pins s σ H Q I q=>h pins s σ H Q I (k σ H Q q)
theorem PA.imp {X:Cx}{e:List Expr}{t u:TA} (h:PA X e t) (k:∀ σ H Q,u σ H Q→t σ H Q):PA X e u:=fun p pins s σ H Q I q=>h p pins s σ H Q I (k σ H Q q)
theorem PS.imp {X:Cx}{e:Stmt}{t u:TS} (h:PS X e t) (k:∀ D σ H,u D σ H→t D σ H):PS X e u:=fun pins s σ H D I q=>h pins s σ H D I (k D σ H q)
theorem PSs.imp {X:Cx}{e:List Stmt}{t u:TS} (h:PSs X e t) (k:∀ D σ H,u D σ H→t D σ H):PSs X e u:=fun pins s σ H D I q=>h pins s σ H D I (k D σ H q)
theorem OpR.imp {X:Cx}{f:Value→Value→Sem Value}{r r':R2} (h:OpR X f r) (k:∀ x y H Q,r' x y H Q→r x y H Q):OpR X f r':=fun pins s σ H x y v u Q I rx ry q=>h pins s σ H x y v u Q I rx ry (k _ _ _ _ q)
theorem IxR.imp {X:Cx}{r r':R2} (h:IxR X r) (k:∀ x y H Q,r' x y H Q→r x y H Q):IxR X r':=fun a b pins s σ H x y v u Q I rx ry q e=>h a b pins s σ H x y v u Q I rx ry (k _ _ _ _ q) e
theorem CallR.imp {X:Cx}{f:Value}{r r':List V→Hp→VK→Prop} (h:CallR X f r) (k:∀ xs H Q,r' xs H Q→r xs H Q):CallR X f r':=fun pins s σ H xs us Q I rs q=>h pins s σ H xs us Q I rs (k _ _ _ q)
end L2
end
section
set_option Elab.async false
set_option linter.all false
set_option maxRecDepth 100000
set_option maxHeartbeats 1000000
namespace L2
open PySem PySem.Spec PyProof.Rows
section
variable {X:Cx}{a b c e:Expr}{es:List Expr}{fa fb fc f:Rho→Option PyData}{pos:Pos}
def dVar (i:Nat):Rho→Option PyData:=fun ρ=>(ρ[i]?).join
theorem pd_var (i:Nat) {x:Str} (hN:X.N[i]?=some x:=by rfl) (hv:Vis X.env.scope x:=by first | exact Or.inl rfl | exact Or.inr (Or.inl rfl) | exact Or.inr (Or.inr rfl)) (hd:(x == ("__debug__":Str))=false:=by decide)
    (hcd:(x == ("__classdict__":Str))=false:=by decide):PD X (.Name x pos) (dVar i):=by
  refine PE.imp (pe_var hN hv hd hcd) fun σ H Q ⟨ρ,d,hs,e,k⟩=>?_
  have e':ρ[i]?=some (some d):=by
    unfold dVar at e
    cases q:ρ[i]? with
    | none=>rw [q] at e; cases e
    | some o=>rw [q] at e; cases o with
      | none=>cases e
      | some d'=>cases e; rfl
  obtain ⟨v,e1,e2⟩:=hs.2 i d e'
  exact ⟨v,e1,k.here e2⟩
def dC (d:PyData):Rho→Option PyData:=fun _=>some d
theorem pd_int {i j}:PD X (.Constant (.int i) j pos) (dC (.int i)):=PE.imp pe_int fun σ H Q ⟨_,d,_,e,k⟩=>by cases e; exact k.here (IsD.int_iff.mpr rfl)
theorem pd_bl {i j}:PD X (.Constant (.bool i) j pos) (dC (.bool i)):=PE.imp pe_bl fun σ H Q ⟨_,d,_,e,k⟩=>by cases e; exact k.here (IsD.bool_iff.mpr rfl)
theorem pd_non {j}:PD X (.Constant .none j pos) (dC .none):=PE.imp pe_non fun σ H Q ⟨_,d,_,e,k⟩=>by cases e; exact k.here (IsD.none_iff.mpr rfl)
theorem pd_str {x j}:PD X (.Constant (.str x) j pos) (dC (.str x)):=PE.imp pe_str fun σ H Q ⟨_,d,_,e,k⟩=>by cases e; exact k.here (IsD.str_iff.mpr rfl)
def rD2 (K:W.Frag) (g:PyData→PyData→Option PyData):R2:=fun x y H Q=>∃ a b c,IsD K H a x∧IsD K H b y∧g a b=some c∧KD K H c Q
def OpD (X:Cx) (f:Value→Value→Sem Value) (g:PyData→PyData→Option PyData):Prop:=OpR X f (rD2 X.K g)
def d2 (g:PyData→PyData→Option PyData) (fa fb:Rho→Option PyData):Rho→Option PyData:=fun ρ=>(fa ρ).bind fun x=>(fb ρ).bind fun y=>g x y
theorem bind_some {α β:Type}{o:Option α}{k:α→Option β}{b:β} (h:o.bind k=some b):∃ a,o=some a∧k a=some b:=by
  cases o with
  | none=>cases h
  | some a=>exact ⟨a,rfl,h⟩
theorem tD2 {K:W.Frag}{g:PyData→PyData→Option PyData}{σ:St}{H:Hp}{Q:VK} (h:tD K (d2 g fa fb) σ H Q):tOp (rD2 K g) (tD K fa) (tD K fb) σ H Q:=by
  obtain ⟨ρ,d,hs,e,k⟩:=h
  obtain ⟨x,ex,e⟩:=bind_some e
  obtain ⟨y,ey,e⟩:=bind_some e
  exact ⟨ρ,x,hs,ex,fun v H1 s1 i1=>⟨ρ,y,hs.same s1,ey,fun u H2 s2 i2=>⟨x,y,d,i1.same s2,i2,e,k.later (s1.trans s2)⟩⟩⟩
theorem pd_op {op:Operator}{g:PyData→PyData→Option PyData} (ho:OpD X (binaryOp op) g) (ha:PD X a fa) (hb:PD X b fb):PD X (.BinOp a op b pos) (d2 g fa fb) :=
  PE.imp (pe_op ho ha hb) fun _ _ _ h=>tD2 h
theorem pd_cmp {op:CmpOp}{g:PyData→PyData→Option PyData} (ho:OpD X (compareOp op) g) (ha:PD X a fa) (hb:PD X b fb) (hm:behindInMarks op b=false):PD X (.Compare a [op] [b] pos) (d2 g fa fb) :=
  PE.imp (pe_cmpR ho ha hb hm) fun _ _ _ h=>tD2 h
def IxD (X:Cx) (g:PyData→PyData→Option PyData):Prop:=IxR X (rD2 X.K g)
theorem pd_ix {g:PyData→PyData→Option PyData} (hr:IxD X g) (ha:PD X a fa) (hb:PD X b fb) (hs:PlainIx b):PD X (.Subscript a b pos) (d2 g fa fb) :=
  PE.imp (pe_ix hr ha hb hs) fun _ _ _ h=>tD2 h
def dI (C:Int→Int→Bool) (g:Int→Int→PyData):PyData→PyData→Option PyData
  | .int i,.int j=>if C i j then some (g i j) else none
  | _,_=>none
theorem dI_some {C:Int→Int→Bool}{g:Int→Int→PyData}{x y d:PyData} (h:dI C g x y=some d):∃ i j,x=.int i∧y=.int j∧C i j=true∧d=g i j:=by
  cases x <;> cases y <;> try (simp [dI] at h; done)
  rename_i i j
  dsimp only [dI] at h
  by_cases hc:C i j=true
  · rw [if_pos hc] at h; cases h; exact ⟨i,j,rfl,rfl,hc,rfl⟩
  · rw [if_neg hc] at h; cases h
theorem opD_I {f:Value→Value→Sem Value}{P:Int→Int→Prop}{C:Int→Int→Bool}{g:Int→Int→Int} (h:OpR X f (rI P fun i j=>.int (g i j))) (hc:∀ i j,C i j=true→P i j):OpD X f (dI C fun i j=>.int (g i j)) :=
  OpR.imp h fun x y H Q ⟨a,b,d,ia,ib,e,k⟩=>by
    obtain ⟨i,j,rfl,rfl,c,rfl⟩:=dI_some e
    exact ⟨i,j,IsD.int_iff.mp ia,IsD.int_iff.mp ib,hc i j c,k.here (IsD.int_iff.mpr rfl)⟩
theorem opD_I0 {f:Value→Value→Sem Value}{g:Int→Int→Int} (h:OpR X f (rI0 fun i j=>.int (g i j))):OpD X f (dI (fun _ _=>true) fun i j=>.int (g i j)) :=
  OpR.imp h fun x y H Q ⟨a,b,d,ia,ib,e,k⟩=>by
    obtain ⟨i,j,rfl,rfl,c,rfl⟩:=dI_some e
    exact ⟨i,j,IsD.int_iff.mp ia,IsD.int_iff.mp ib,k.here (IsD.int_iff.mpr rfl)⟩
theorem opD_B0 {f:Value→Value→Sem Value}{g:Int→Int→Bool} (h:OpR X f (rI0 fun i j=>.bl (g i j))):OpD X f (dI (fun _ _=>true) fun i j=>.bool (g i j)) :=
  OpR.imp h fun x y H Q ⟨a,b,d,ia,ib,e,k⟩=>by
    obtain ⟨i,j,rfl,rfl,c,rfl⟩:=dI_some e
    exact ⟨i,j,IsD.int_iff.mp ia,IsD.int_iff.mp ib,k.here (IsD.bool_iff.mpr rfl)⟩
def okBits (i:Int):Bool:=decide (Builtin.Int.intBits i ≤ 2 ^ 20)
theorem op_mulB:OpR X (binaryOp .Mult) (rI (fun i j=>okBits i=true∧okBits j=true) fun i j=>.int (i * j)):=opI fun _ _ _ _ _ _ _ hc q=>mul_int q (.of_bits (of_decide_eq_true hc.1) (of_decide_eq_true hc.2))
def dSub:=dI (fun _ _=>true) fun i j=>.int (i - j)
def dMul:=dI (fun i j=>okBits i && okBits j) fun i j=>.int (i * j)
def dDiv:=dI (fun _ j=>decide (0 < j) && decide (j < 1073741824)) fun i j=>.int (i / j)
def dMod:=dI (fun _ j=>decide (0 < j)) fun i j=>.int (i % j)
theorem od_sub:OpD X (binaryOp .Sub) dSub:=opD_I0 op_sub
theorem od_mul:OpD X (binaryOp .Mult) dMul:=opD_I op_mulB fun i j h=>by simpa using h
theorem od_div:OpD X (binaryOp .FloorDiv) dDiv:=opD_I op_fdiv fun i j h=>by simpa [CDiv] using h
theorem od_mod:OpD X (binaryOp .Mod) dMod:=opD_I op_mod fun i j h=>by simpa using h
def dLt:=dI (fun _ _=>true) fun i j=>.bool (decide (i < j))
def dLe:=dI (fun _ _=>true) fun i j=>.bool (decide (i ≤ j))
def dGt:=dI (fun _ _=>true) fun i j=>.bool (decide (j < i))
theorem od_lt:OpD X (compareOp .Lt) dLt:=opD_B0 op_lt
theorem od_le:OpD X (compareOp .LtE) dLe:=opD_B0 op_le
theorem od_gt:OpD X (compareOp .Gt) dGt:=opD_B0 op_gt
def rCatL (K:W.Frag):R2:=fun x y H Q=>∃ l b xs zs,x=.ref l∧y=.ref b∧SqL K H l xs∧SqL K H b zs∧xs.length + zs.length ≤ sizeLine∧∀ p,H p=none→Q (.ref p) (upd H p (.lst (xs++zs)))
theorem op_catL:OpR X (binaryOp .Add) (rCatL X.K):=by
  intro pins s σ H x y v u Q I rx ry h
  obtain ⟨l,b,xs,zs,rfl,rfl,hl,hb,hz,q⟩:=h
  cases rx
  cases ry
  obtain ⟨its,r,pl,_⟩:=I.list hl
  obtain ⟨its2,r2,pl2,_⟩:=I.list hb
  have e1:=r.length
  have e2:=r2.length
  obtain ⟨⟨cls,dd,data,sl⟩,n,ho,hc,_,hd⟩:=pl
  obtain ⟨⟨cls2,dd2,data2,sl2⟩,n2,ho2,hc2,_,hd2⟩:=pl2
  simp only at hc hd hc2 hd2
  subst hc hd hc2 hd2
  have e:its.toArray++its2.toArray=(its++its2).toArray:=by simp
  refine concat_meets ⟨_,ho,rfl⟩ ⟨_,ho2,rfl⟩ noFill_list_add seq_list_add PySem.F.slot_list_add PySem.F.entry_list_add (PySem.F.args_list_add_2 _ _) (list_addW l b its.toArray its2.toArray n n2 dd dd2 sl sl2 (by simp; omega)) ⟨ho,ho2,?_⟩
  rw [e]
  exact ⟨.ref _,_,I.lnew (t':=s.toks) (r.append r2) (by rw [List.length_append]; omega),rfl,q _ I.fresh⟩
theorem op_cat0:OpR X (binaryOp .Add) (fun x y H Q=>∃ l b zs,x=.ref l∧y=.ref b∧SqT X.K H l []∧SqT X.K H b zs∧Q (.ref b) H):=by
  intro pins s σ H x y v u Q I rx ry h
  obtain ⟨l,b,zs,rfl,rfl,hl,hb,q⟩:=h
  cases rx
  cases ry
  obtain ⟨its,r,pl,_⟩:=I.tuple hl
  obtain ⟨its2,r2,pl2,_⟩:=I.tuple hb
  have e1:=r.length
  obtain ⟨⟨cls,dd,data,sl⟩,ho,hc,n,hd⟩:=pl
  obtain ⟨⟨cls2,dd2,data2,sl2⟩,ho2,hc2,n2,hd2⟩:=pl2
  simp only at hc hd hc2 hd2
  subst hc hd hc2 hd2
  have e0:its=[]:=by cases its with
    | nil=>rfl
    | cons a r=>simp at e1
  subst e0
  exact concat_meets ⟨_,ho,rfl⟩ ⟨_,ho2,rfl⟩ noFill_tuple_add seq_tuple_add PySem.F.slot_tuple_add PySem.F.entry_tuple_add (PySem.F.args_tuple_add_2 _ _) (tuple_addW0 l b #[] its2.toArray n n2 dd dd2 sl sl2 rfl) ⟨ho,ho2,⟨.ref b,H,I,rfl,q⟩⟩
theorem same_upd {H:Hp}{p:Addr}{o:HO} (h:H p=none):Same H (upd H p o):=fun b u e=>by rw [upd_ne (ne_of_none e h)]; exact e
theorem isD_newL {K:W.Frag}{H:Hp}{p:Addr}{vs:List V}{ds:List PyData} (h:H p=none) (e:IsDs K H ds vs):IsD K (upd H p (.lst vs)) (.list ds) (.ref p) :=
  IsD.list_iff.mpr ⟨p,vs,rfl,SqL.of upd_same,e.same (same_upd h)⟩
theorem isD_newT {K:W.Frag}{H:Hp}{p:Addr}{vs:List V}{ds:List PyData} (h:H p=none) (e:IsDs K H ds vs):IsD K (upd H p (.tup vs)) (.tuple ds) (.ref p) :=
  IsD.tuple_iff'.mpr ⟨p,vs,rfl,SqT.of upd_same,e.same (same_upd h)⟩
theorem KD.newL {K:W.Frag}{H:Hp}{vs:List V}{ds:List PyData}{Q:VK} (k:KD K H (.list ds) Q) (e:IsDs K H ds vs):∀ p,H p=none→Q (.ref p) (upd H p (.lst vs)):=fun p h=>k _ _ (same_upd h) (isD_newL h e)
theorem KD.newT {K:W.Frag}{H:Hp}{vs:List V}{ds:List PyData}{Q:VK} (k:KD K H (.tuple ds) Q) (e:IsDs K H ds vs):∀ p,H p=none→Q (.ref p) (upd H p (.tup vs)):=fun p h=>k _ _ (same_upd h) (isD_newT h e)
def dAdd:PyData→PyData→Option PyData
  | .int i,.int j=>some (.int (i + j))
  | .str x,.str y=>if x.length + y.length ≤ sizeLine then some (.str (x++y)) else none
  | .list xs,.list ys=>if xs.length + ys.length ≤ sizeLine then some (.list (xs++ys)) else none
  | .tuple xs,.tuple ys=>if xs.length + ys.length ≤ sizeLine then some (.tuple (xs++ys)) else none
  | _,_=>none
theorem od_add:OpD X (binaryOp .Add) dAdd:=by
  refine OpR.imp (op_add.or (op_add_str.or (op_catL.or (op_catT.or op_cat0)))) fun x y H Q ⟨a,b,d,ia,ib,e,k⟩=>?_
  cases a <;> cases b <;> try (simp [dAdd] at e; done)
  · rename_i i j
    cases e
    exact .inl ⟨i,j,IsD.int_iff.mp ia,IsD.int_iff.mp ib,k.here (IsD.int_iff.mpr rfl)⟩
  · rename_i i j
    dsimp only [dAdd] at e
    by_cases hz:i.length + j.length ≤ sizeLine
    · rw [if_pos hz] at e
      cases e
      exact .inr (.inl ⟨i,j,IsD.str_iff.mp ia,IsD.str_iff.mp ib,hz,k.here (IsD.str_iff.mpr rfl)⟩)
    · rw [if_neg hz] at e; cases e
  · rename_i i j
    dsimp only [dAdd] at e
    by_cases hz:i.length + j.length ≤ sizeLine
    · rw [if_pos hz] at e
      cases e
      obtain ⟨p,vs,rfl,e2,e3⟩:=IsD.list_iff.mp ia
      obtain ⟨q,ws,rfl,f2,f3⟩:=IsD.list_iff.mp ib
      exact .inr (.inr (.inl ⟨p,q,vs,ws,rfl,rfl,e2,f2,by rw [← e3.length,← f3.length]; exact hz,k.newL (e3.append f3)⟩))
    · rw [if_neg hz] at e; cases e
  · rename_i i j
    dsimp only [dAdd] at e
    by_cases hz:i.length + j.length ≤ sizeLine
    · rw [if_pos hz] at e
      cases e
      obtain ⟨p,vs,rfl,e2,e3⟩:=ia.tuple_of
      obtain ⟨q,ws,rfl,f2,f3⟩:=ib.tuple_of
      cases i with
      | nil =>
        rw [IsDs.nil_iff.mp e3] at e2
        exact .inr (.inr (.inr (.inr ⟨p,q,ws,rfl,rfl,e2,f2,k.here ib⟩)))
      | cons i0 ir =>
        refine .inr (.inr (.inr (.inl ⟨p,q,vs,ws,rfl,rfl,e2,f2,?_,by rw [← e3.length,← f3.length]; exact hz,fun z=>?_,fun z=>k.newT (e3.append f3)⟩)))
        · intro z; subst z; have:=e3.length; simp at this
        · subst z
          have:j=[]:=by have:=f3.length; cases j with
            | nil=>rfl
            | cons _ _=>simp at this
          subst this
          rw [List.append_nil] at k
          exact k.here ia
    · rw [if_neg hz] at e; cases e
def dEq:PyData→PyData→Option PyData:=fun a b=>if SeqAt.shaped a=true∧SeqAt.shaped b=true then some (.bool (PyData.eqv a b)) else none
def dNe:PyData→PyData→Option PyData:=fun a b=>if SeqAt.shaped a=true∧SeqAt.shaped b=true then some (.bool (!PyData.eqv a b)) else none
theorem od_eq (hu:X.A.units + 64 < cLine):OpD X (compareOp .Eq) dEq:=by
  intro pins s σ H x y v u Q I rx ry ⟨a,b,d,ia,ib,e,k⟩
  unfold dEq at e
  by_cases hc:SeqAt.shaped a=true∧SeqAt.shaped b=true
  · rw [if_pos hc] at e
    cases e
    obtain ⟨as,ra⟩:=I.readsD (SeqAt.canLay_of_shaped hc.1) ia rx
    obtain ⟨bs,rb⟩:=I.readsD (SeqAt.canLay_of_shaped hc.2) ib ry
    exact eq_dataH ra rb hc.1 hc.2 hu ⟨.bl _,H,I,rfl,k.here (IsD.bool_iff.mpr rfl)⟩
  · rw [if_neg hc] at e; cases e
theorem od_ne (hu:X.A.units + 64 < cLine):OpD X (compareOp .NotEq) dNe:=by
  intro pins s σ H x y v u Q I rx ry ⟨a,b,d,ia,ib,e,k⟩
  unfold dNe at e
  by_cases hc:SeqAt.shaped a=true∧SeqAt.shaped b=true
  · rw [if_pos hc] at e
    cases e
    obtain ⟨as,ra⟩:=I.readsD (SeqAt.canLay_of_shaped hc.1) ia rx
    obtain ⟨bs,rb⟩:=I.readsD (SeqAt.canLay_of_shaped hc.2) ib ry
    exact ne_dataH ra rb hc.1 hc.2 hu ⟨.bl _,H,I,rfl,k.here (IsD.bool_iff.mpr rfl)⟩
  · rw [if_neg hc] at e; cases e
def dIx:PyData→PyData→Option PyData
  | .list xs,.int i=>atI xs i
  | .tuple xs,.int i=>atI xs i
  | .str z,.int i=>if z.length ≤ sizeLine then (atI z.cps.toList i).map fun c=>.str ⟨#[c]⟩ else none
  | _,_=>none
theorem atI_D {K:W.Frag}{H:Hp}{ds:List PyData}{vs:List V}{i:Int}{d:PyData} (h:IsDs K H ds vs) (e:atI ds i=some d):∃ v,atI vs i=some v∧IsD K H d v:=by
  unfold atI at e ⊢
  rw [← h.length]
  cases q:ixN ds.length i with
  | none=>rw [q] at e; cases e
  | some j =>
    rw [q] at e
    exact h.get e
theorem ixD:IxD X dIx:=by
  refine IxR.imp ix_seq fun x y H Q ⟨a,b,d,ia,ib,e,k⟩=>?_
  cases a <;> cases b <;> try (simp [dIx] at e; done)
  · rename_i z i
    dsimp only [dIx] at e
    by_cases hz:z.length ≤ sizeLine
    · rw [if_pos hz] at e
      obtain ⟨c,e1,e2⟩:=Option.map_eq_some_iff.mp e
      subst e2
      exact .inr (.inr ⟨z,i,c,IsD.str_iff.mp ia,IsD.int_iff.mp ib,hz,e1,k.here (IsD.str_iff.mpr rfl)⟩)
    · rw [if_neg hz] at e; cases e
  · rename_i xs i
    obtain ⟨p,vs,rfl,e2,e3⟩:=IsD.list_iff.mp ia
    obtain ⟨v,e4,e5⟩:=atI_D e3 e
    exact .inl ⟨p,vs,i,v,rfl,IsD.int_iff.mp ib,e2,e4,k.here e5⟩
  · rename_i xs i
    obtain ⟨p,vs,rfl,e2,e3⟩:=ia.tuple_of
    obtain ⟨v,e4,e5⟩:=atI_D e3 e
    exact .inr (.inl ⟨p,vs,i,v,rfl,IsD.int_iff.mp ib,e2,e4,k.here e5⟩)
def dTruth:PyData→Option Bool
  | .none=>some false
  | .bool b=>some b
  | .int i=>some (i != 0)
  | .str y=>if y.length ≤ sizeLine then some ((y.length:Int) != 0) else none
  | .list xs=>some (!xs.isEmpty)
  | .tuple xs=>some (!xs.isEmpty)
  | .dict _=>none
theorem isDs_empty {K:W.Frag}{H:Hp}{ds:List PyData}{vs:List V} (h:IsDs K H ds vs):ds.isEmpty=vs.isEmpty:=by
  have:=h.length
  cases ds <;> cases vs <;> first | rfl | (simp at this)
theorem truV_D {K:W.Frag}{H:Hp}{d:PyData}{v:V}{k:Bool} (h:IsD K H d v) (e:dTruth d=some k):TruV K v H k:=by
  cases d with
  | none=>rw [IsD.none_iff.mp h]; cases e; rfl
  | bool b=>rw [IsD.bool_iff.mp h]; cases e; rfl
  | int i=>rw [IsD.int_iff.mp h]; cases e; rfl
  | str y =>
    rw [IsD.str_iff.mp h]
    dsimp only [dTruth] at e
    by_cases hz:y.length ≤ sizeLine
    · rw [if_pos hz] at e; cases e; exact ⟨hz,rfl⟩
    · rw [if_neg hz] at e; cases e
  | list xs =>
    obtain ⟨p,vs,rfl,e2,e3⟩:=IsD.list_iff.mp h
    cases e
    exact .inl ⟨vs,e2,by rw [isDs_empty e3]⟩
  | tuple xs =>
    obtain ⟨p,vs,rfl,e2,e3⟩:=h.tuple_of
    cases e
    exact .inr (.inl ⟨vs,e2,by rw [isDs_empty e3]⟩)
  | dict _=>cases e
def fB (f:Rho→Option PyData):Rho→Option Bool:=fun ρ=>(f ρ).bind fun d=>match d with | .bool b=>some b | _=>none
theorem fB_some {ρ:Rho}{b:Bool} (h:fB f ρ=some b):f ρ=some (.bool b):=by
  obtain ⟨d,e1,e2⟩:=bind_some h
  cases d <;> first | (cases e2; exact e1) | cases e2
theorem pdt_cmp {op:CmpOp}{g:PyData→PyData→Option PyData} (ho:OpD X (compareOp op) g) (ha:PD X a fa) (hb:PD X b fb) (hm:behindInMarks op b=false):PDT X (.Compare a [op] [b] pos) (fB (d2 g fa fb)) :=
  PT.imp (pt_cmpR ho ha hb hm) fun σ H Q ⟨ρ,b,hs,e,k⟩ =>
    tD2 ⟨ρ,.bool b,hs,fB_some e,fun v H1 s1 i1=>⟨b,IsD.bool_iff.mp i1,k H1 s1⟩⟩
def fAnd (f g:Rho→Option Bool):Rho→Option Bool:=fun ρ=>(f ρ).bind fun x=>if x then g ρ else some false
def fOr (f g:Rho→Option Bool):Rho→Option Bool:=fun ρ=>(f ρ).bind fun x=>if x then some true else g ρ
def fNot (f:Rho→Option Bool):Rho→Option Bool:=fun ρ=>(f ρ).map (!·)
variable {ga gb gc:Rho→Option Bool}{rest:List Expr}
def PDW (X:Cx) (e:Expr) (f:Rho→Option Bool):Prop:=PW X e (tDT X.K f)
theorem PW.imp {t u:TT} (h:PW X e t) (k:∀ σ H Q,u σ H Q→t σ H Q):PW X e u:=fun wh pins s σ H Q I q=>h wh pins s σ H Q I (k σ H Q q)
theorem pdw_and1 (h:PDT X a ga):PDW X (.BoolOp .And [a] pos) ga:=pw_and1 h
theorem pdw_or1 (h:PDT X a ga):PDW X (.BoolOp .Or [a] pos) ga:=pw_or1 h
theorem pdw_and (ha:PDT X a ga) (hb:PDW X (.BoolOp .And (b :: rest) pos) gb):PDW X (.BoolOp .And (a :: b :: rest) pos) (fAnd ga gb) :=
  PW.imp (pw_and ha hb) fun σ H Q ⟨ρ,x,hs,e,k⟩=>by
    obtain ⟨y,e1,e2⟩:=bind_some e
    refine ⟨ρ,y,hs,e1,fun H1 s1=>?_⟩
    cases y with
    | true=>rw [if_pos rfl]; exact ⟨ρ,x,hs.same s1,e2,fun H2 s2=>k H2 (s1.trans s2)⟩
    | false=>rw [if_neg Bool.false_ne_true]; cases e2; exact k H1 s1
theorem pdw_or (ha:PDT X a ga) (hb:PDW X (.BoolOp .Or (b :: rest) pos) gb):PDW X (.BoolOp .Or (a :: b :: rest) pos) (fOr ga gb) :=
  PW.imp (pw_or ha hb) fun σ H Q ⟨ρ,x,hs,e,k⟩=>by
    obtain ⟨y,e1,e2⟩:=bind_some e
    refine ⟨ρ,y,hs,e1,fun H1 s1=>?_⟩
    cases y with
    | false=>rw [if_neg Bool.false_ne_true]; exact ⟨ρ,x,hs.same s1,e2,fun H2 s2=>k H2 (s1.trans s2)⟩
    | true=>rw [if_pos rfl]; cases e2; exact k H1 s1
theorem pdt_w (h:PDW X e ga):PDT X e ga:=h.pt
theorem pdt_not (ha:PDT X a ga):PDT X (.UnaryOp .Not a pos) (fNot ga) :=
  PT.imp (pt_not ha) fun σ H Q ⟨ρ,x,hs,e,k⟩=>by
    obtain ⟨y,e1,e2⟩:=Option.map_eq_some_iff.mp e
    exact ⟨ρ,y,hs,e1,fun H1 s1=>by show Q (!y) H1; rw [e2]; exact k H1 s1⟩
variable {ff:Rho→Option (List PyData)}
def aNil:Rho→Option (List PyData):=fun _=>some []
def aCons (f:Rho→Option PyData) (g:Rho→Option (List PyData)):Rho→Option (List PyData):=fun ρ=>(f ρ).bind fun x=>(g ρ).bind fun xs=>some (x :: xs)
theorem pda_nil:PDA X [] aNil:=PA.imp pa_nil fun σ H Q ⟨ρ,ds,hs,e,k⟩=>by cases e; exact k [] H (.refl H) IsDs.nil
theorem pda_cons (ha:PD X e f) (hr:PDA X es ff) (hs:starEach (e :: es) X.env=(false,eval e X.env) :: starEach es X.env:=by rfl):PDA X (e :: es) (aCons f ff) :=
  PA.imp (pa_cons ha hr hs) fun σ H Q ⟨ρ,ds,hs,e,k⟩=>by
    obtain ⟨x,e1,e⟩:=bind_some e
    obtain ⟨xs,e2,e⟩:=bind_some e
    cases e
    exact ⟨ρ,x,hs,e1,fun v H1 s1 i1=>⟨ρ,xs,hs.same s1,e2,fun vs H2 s2 i2=>k _ H2 (s1.trans s2) (IsDs.cons (i1.same s2) i2)⟩⟩
def dTup (ff:Rho→Option (List PyData)):Rho→Option PyData:=fun ρ=>(ff ρ).bind fun xs=>if xs.length ≤ sizeLine then some (.tuple xs) else none
def dLst (ff:Rho→Option (List PyData)):Rho→Option PyData:=fun ρ=>(ff ρ).bind fun xs=>if xs.length ≤ sizeLine then some (.list xs) else none
theorem pd_tup {x1} (h:PDA X es ff):PD X (.Tuple es x1 pos) (dTup ff) :=
  PE.imp (pe_tup h) fun σ H Q ⟨ρ,d,hs,e,k⟩=>by
    obtain ⟨xs,e1,e⟩:=bind_some e
    by_cases hz:xs.length ≤ sizeLine
    · rw [if_pos hz] at e
      cases e
      exact ⟨ρ,xs,hs,e1,fun vs H1 s1 i1=>⟨by rw [← i1.length]; exact hz,(k.later s1).newT i1⟩⟩
    · rw [if_neg hz] at e; cases e
theorem pd_lst (h:PDA X es ff):PD X (.List es pos) (dLst ff) :=
  PE.imp (pe_lst h) fun σ H Q ⟨ρ,d,hs,e,k⟩=>by
    obtain ⟨xs,e1,e⟩:=bind_some e
    by_cases hz:xs.length ≤ sizeLine
    · rw [if_pos hz] at e
      cases e
      exact ⟨ρ,xs,hs,e1,fun vs H1 s1 i1=>⟨by rw [← i1.length]; exact hz,(k.later s1).newL i1⟩⟩
    · rw [if_neg hz] at e; cases e
abbrev FO:=Rho→Option (Option Int)
def tDO (K:W.Frag) (g:FO):TO:=fun σ H Q=>∃ ρ o,HasD K H σ ρ∧g ρ=some o∧∀ H',Same H H'→Q o H'
def PDO (X:Cx) (e:Option Expr) (g:FO):Prop:=PO X e (tDO X.K g)
theorem PO.imp {e:Option Expr}{t u:TO} (h:PO X e t) (k:∀ σ H Q,u σ H Q→t σ H Q):PO X e u:=fun pins s σ H Q I q=>h pins s σ H Q I (k σ H Q q)
def oNone:FO:=fun _=>some none
def oSome (f:Rho→Option PyData):FO:=fun ρ=>(f ρ).bind fun d=>match d with | .int i=>some (some i) | _=>none
theorem pdo_none:PDO X none oNone:=PO.imp po_none fun σ H Q ⟨ρ,o,hs,e,k⟩=>by cases e; exact k H (.refl H)
theorem pdo_some (h:PD X e f):PDO X (some e) (oSome f):=PO.imp (po_some h) fun σ H Q ⟨ρ,o,hs,e,k⟩=>by
  obtain ⟨d,e1,e2⟩:=bind_some e
  cases d <;> first
    | (cases e2; exact ⟨ρ,_,hs,e1,fun v H1 s1 i1=>⟨_,IsD.int_iff.mp i1,k H1 s1⟩⟩)
    | cases e2
def cutL {α:Type} (xs:List α) (lo hi:Option Int):List α:=(xs.drop (HT.sIx xs.length 0 lo)).take (HT.sIx xs.length xs.length hi - HT.sIx xs.length 0 lo)
theorem IsDs.cut {K:W.Frag}{H:Hp}{ds:List PyData}{vs:List V} (h:IsDs K H ds vs) (lo hi:Option Int):IsDs K H (cutL ds lo hi) (cutV vs lo hi):=by
  unfold cutL cutV
  rw [← h.length]
  exact (h.drop _).take _
def rSlT0 (K:W.Frag):V→Option Int→Option Int→Hp→VK→Prop:=fun x lo hi H Q=>∃ a xs,x=.ref a∧SqT K H a xs∧(HT.sIx xs.length 0 lo=0∧HT.sIx xs.length xs.length hi=xs.length)∧Q (.ref a) H
end
end L2
end
section
set_option Elab.async false
set_option linter.all false
set_option maxRecDepth 100000
set_option maxHeartbeats 1000000
namespace HT
open PySem PyProof.Rows
section
variable {prog:Program}{w:World}{A:Around}{E:Value→Shared→Prop}{s:Shared}
theorem getItem_tuple_whole {t sl:Addr}{items:Array Value}{vl vu:Value}{lo hi:Option Int}{Q:Value→Shared→Prop} (ht:IsTup s.heap t items) (hs:s.heap.IsSliceOf sl vl vu .none) (pl:IsPart vl lo) (pu:IsPart vu hi)
    (hw:sIx items.size 0 lo=0∧sIx items.size items.size hi=items.size) (h:Q (.ref t) s):wpAny (model prog w) A (getItem (.ref t) (.ref sl)) Q E s:=by
  obtain ⟨os,hos,hcs,hds⟩:=id hs
  have hTs:s.TypeIs (.ref sl) "slice":=⟨os,hos,hcs⟩
  unfold getItem
  try with_reducible refine wpAny_holding ?_
  first | refine wpAny_bind (wpAny_pure ?_) | skip
  refine wpAny_bind (wpAny_sequenceKey ht.typeIs (by decide) ?_)
  refine wpAny_bind (wpAny_callSpecial?_slot (name:=Str.ofString "__getitem__") ht.typeIs PyProof.Rows.slot_tuple_getitem
    (wpAny_call_entry PyProof.Rows.slot_tuple_getitem ht.typeIs entry_tuple_getitem ?_ (args_tuple_getitem _ _)))
  show wpAny _ _ (Builtin.Tuple.tupleItemsOf (.ref t) >>= _) _ _ s
  refine wpAny_bind (tupleItemsOf_ ht ?_)
  refine wpAny_bind (wpAny_typeOf hTs ?_)
  rw [if_pos (by decide)]
  refine wpAny_bind (sliceApplied_gen hs pl pu ?_)
  have hyes:((((sIx items.size 0 lo:Nat):Int) == 0 && (1:Int) == 1 && (sIx items.size items.size hi - sIx items.size 0 lo) == items.size)=true):=by
    rw [hw.1,hw.2]
    simp
  show wpAny _ _ (if (((sIx items.size 0 lo:Nat):Int) == 0 && (1:Int) == 1 && (sIx items.size items.size hi - sIx items.size 0 lo) == items.size)=true then _ else _) _ _ s
  rw [if_pos hyes]
  unfold Builtin.Tuple.tupleIsExact
  refine wpAny_bind (wpAny_bind (wpAny_typeOf ht.typeIs (wpAny_pure ?_)))
  rw [if_pos (by decide)]
  refine wpAny_bind (wpAny_rule ?_)
  exact wpAny_pure ⟨_,rfl,wpAny_pure h⟩
end
end HT
namespace L2
open PySem PySem.Spec PyProof.Rows
section
variable {X:Cx}{a b c e:Expr}{es:List Expr}{fa fb fc f:Rho→Option PyData}{pos p2:Pos}{ff:Rho→Option (List PyData)}
theorem sl_tup0:SlR X (rSlT0 X.K):=by
  intro pins s σ H x v vl vu lo hi sl Q I rx hs pl pu h
  obtain ⟨a,xs,rfl,hx,hw,q⟩:=h
  cases rx
  obtain ⟨its,r,ht,hz⟩:=I.tuple hx
  have hlen:its.toArray.size=xs.length:=by rw [List.size_toArray]; exact r.length.symm
  refine ⟨"tuple",_,PyProof.Rows.slot_tuple_getitem.lookup,ht.typeIs,?_⟩
  exact HT.getItem_tuple_whole ht hs pl pu (by rw [hlen]; exact hw) ⟨.ref a,H,I,rfl,q⟩
def rSlS:V→Option Int→Option Int→Hp→VK→Prop:=fun x lo hi H Q=>∃ z,x=.str z∧z.length ≤ sizeLine∧Q (.str (Txt.slice z lo hi)) H
def partTok:Value→Option (Int × Tok)
  | .int i t=>some (i,t)
  | _=>none
theorem partTok_val {v:Value}{o:Option Int} (p:IsPart v o):partValue (partTok v)=v∧(partTok v).map (·.1)=o:=by
  cases p <;> exact ⟨rfl,rfl⟩
theorem sl_str:SlR X rSlS:=by
  intro pins s σ H x v vl vu lo hi sl Q I rx hs pl pu h
  obtain ⟨z,rfl,hz,q⟩:=h
  obtain ⟨t,rfl⟩:=rx
  refine ⟨"str",_,F.slot_str_getitem.lookup,typeIs_str _ _ _,?_⟩
  obtain ⟨l1,l2⟩:=partTok_val pl
  obtain ⟨u1,u2⟩:=partTok_val pu
  obtain ⟨os,ho,hc,hd⟩:=hs
  refine wpAny_getItem_str_slice (l:=partTok vl) (u:=partTok vu) (st:=none) ⟨os,ho,hc,by rw [l1,u1]; exact hd⟩ rfl ?_
  have e:sliceMade z t (partTok vl) (partTok vu) none=(if ((1:Int) == 1 && (Builtin.Str.strSliceIndices lo hi 1 z.length).length == z.length)=true then .val (.str z t) else .str ⟨((Builtin.Str.strSliceIndices lo hi 1 z.length).filterMap (z.cps[·]?)).toArray⟩):=by
    unfold sliceMade slicePicked
    rw [l2,u2]
    rfl
  rw [e]
  exact post_val_or_str ⟨Nat.le_trans (Txt.slice_le z lo hi) hz,fun t' k=>⟨.str (Txt.slice z lo hi),H,I.tok _,⟨_,rfl⟩,q⟩⟩
def dSl:PyData→Option Int→Option Int→Option PyData
  | .list xs,lo,hi=>some (.list (cutL xs lo hi))
  | .tuple xs,lo,hi=>some (.tuple (cutL xs lo hi))
  | .str z,lo,hi=>if z.length ≤ sizeLine then some (.str (Txt.slice z lo hi)) else none
  | _,_,_=>none
def dSlice (f:Rho→Option PyData) (l h:FO):Rho→Option PyData:=fun ρ=>(f ρ).bind fun x=>(l ρ).bind fun lo=>(h ρ).bind fun hi=>dSl x lo hi
theorem SlR.imp {r r':V→Option Int→Option Int→Hp→VK→Prop} (h:SlR X r) (k:∀ x lo hi H Q,r' x lo hi H Q→r x lo hi H Q):SlR X r' :=
  fun pins s σ H x v vl vu lo hi sl Q I rx hs pl pu q=>h pins s σ H x v vl vu lo hi sl Q I rx hs pl pu (k _ _ _ _ _ q)
theorem slD:SlR X (fun x lo hi H Q=>∃ d c,IsD X.K H d x∧dSl d lo hi=some c∧KD X.K H c Q):=by
  refine SlR.imp (sl_list.or (sl_str.or (sl_tup.or sl_tup0))) fun x lo hi H Q ⟨d,c,i,e,k⟩=>?_
  cases d <;> try (simp [dSl] at e; done)
  · rename_i z
    dsimp only [dSl] at e
    by_cases hz:z.length ≤ sizeLine
    · rw [if_pos hz] at e; cases e
      exact .inr (.inl ⟨z,IsD.str_iff.mp i,hz,k.here (IsD.str_iff.mpr rfl)⟩)
    · rw [if_neg hz] at e; cases e
  · rename_i xs
    cases e
    obtain ⟨p,vs,rfl,e2,e3⟩:=IsD.list_iff.mp i
    exact .inl ⟨p,vs,rfl,e2,k.newL (e3.cut lo hi)⟩
  · rename_i xs
    cases e
    obtain ⟨p,vs,rfl,e2,e3⟩:=i.tuple_of
    by_cases hw:HT.sIx vs.length 0 lo=0∧HT.sIx vs.length vs.length hi=vs.length
    · refine .inr (.inr (.inr ⟨p,vs,rfl,e2,hw,?_⟩))
      have:cutL xs lo hi=xs:=by
        unfold cutL
        rw [e3.length,hw.1,hw.2]
        simp only [List.drop_zero,Nat.sub_zero]
        rw [← e3.length]
        exact List.take_length
      rw [this] at k
      exact k.here i
    · exact .inr (.inr (.inl ⟨p,vs,rfl,e2,hw,k.newT (e3.cut lo hi)⟩))
theorem pd_slice {lo hi:Option Expr}{l h:FO} (he:PD X e f) (hl:PDO X lo l) (hu:PDO X hi h):PD X (.Subscript e (.Slice lo hi none p2) pos) (dSlice f l h) :=
  PE.imp (pe_slice slD he hl hu) fun σ H Q ⟨ρ,d,hs,e,k⟩=>by
    obtain ⟨x,e1,e⟩:=bind_some e
    obtain ⟨lo',e2,e⟩:=bind_some e
    obtain ⟨hi',e3,e⟩:=bind_some e
    exact ⟨ρ,x,hs,e1,fun v H1 s1 i1=>⟨ρ,lo',hs.same s1,e2,fun H2 s2=>⟨ρ,hi',hs.same (s1.trans s2),e3,fun H3 s3=>⟨x,d,i1.same (s2.trans s3),e,k.later (s1.trans (s2.trans s3))⟩⟩⟩⟩
def rDC (K:W.Frag) (g:List PyData→Option PyData):List V→Hp→VK→Prop:=fun xs H Q=>∃ ds c,IsDs K H ds xs∧g ds=some c∧KD K H c Q
def CallD (X:Cx) (v:Value) (g:List PyData→Option PyData):Prop:=CallR X v (rDC X.K g)
def dCall (g:List PyData→Option PyData) (ff:Rho→Option (List PyData)):Rho→Option PyData:=fun ρ=>(ff ρ).bind g
theorem tDC {K:W.Frag}{g:List PyData→Option PyData}{σ:St}{H:Hp}{Q:VK} (h:tD K (dCall g ff) σ H Q):tCB (rDC K g) (tDA K ff) σ H Q:=by
  obtain ⟨ρ,d,hs,e,k⟩:=h
  obtain ⟨ds,e1,e2⟩:=bind_some e
  exact ⟨ρ,ds,hs,e1,fun vs H1 s1 i1=>⟨ds,d,i1,e2,k.later s1⟩⟩
theorem pd_callB {x:Str}{p:Pos}{id:String}{g:List PyData→Option PyData} (hc:CallD X (.builtin id) g) (hg:Gl X x) (hm:X.mg x=none) (hv:bootBuiltins x=some (.builtin id)) (ha:PDA X (e :: es) ff) (hn:x ≠ "__name__":=by decide) (hdb:(x == ("__debug__":Str))=false:=by decide)
    (he:starEach (e :: es) X.env=(false,eval e X.env) :: starEach es X.env:=by rfl) (hpl:(backTo pos (starEach es X.env)).any (·.1)=false:=by rfl):PD X (.Call (.Name x p) (e :: es) [] pos) (dCall g ff) :=
  PE.imp (pe_callB hc hg hm hv ha hn hdb he hpl) fun _ _ _ h=>tDC h
theorem pd_callTy {x:Str}{p:Pos}{T:String}{g:List PyData→Option PyData} (hc:CallD X (.type T) g) (hg:Gl X x) (hm:X.mg x=none) (hv:bootBuiltins x=some (.type T)) (ha:PDA X (e :: es) ff) (hn:x ≠ "__name__":=by decide) (hdb:(x == ("__debug__":Str))=false:=by decide)
    (he:starEach (e :: es) X.env=(false,eval e X.env) :: starEach es X.env:=by rfl) (hpl:(backTo pos (starEach es X.env)).any (·.1)=false:=by rfl):PD X (.Call (.Name x p) (e :: es) [] pos) (dCall g ff) :=
  PE.imp (pe_callTy hc hg hm hv ha hn hdb he hpl) fun _ _ _ h=>tDC h
theorem isDs_one {K:W.Frag}{H:Hp}{d:PyData}{vs:List V} (h:IsDs K H [d] vs):∃ v,vs=[v]∧IsD K H d v:=by
  obtain ⟨v,r,rfl,h1,t⟩:=IsDs.cons_iff.mp h
  rw [IsDs.nil_iff.mp t]
  exact ⟨v,rfl,h1⟩
theorem isDs_two {K:W.Frag}{H:Hp}{d d':PyData}{vs:List V} (h:IsDs K H [d,d'] vs):∃ v v',vs=[v,v']∧IsD K H d v∧IsD K H d' v':=by
  obtain ⟨v,r,rfl,h1,t⟩:=IsDs.cons_iff.mp h
  obtain ⟨v',rfl,h2⟩:=isDs_one t
  exact ⟨v,v',rfl,h1,h2⟩
def dTupleOf:List PyData→Option PyData
  | [.list xs]=>some (.tuple xs)
  | [.tuple xs]=>some (.tuple xs)
  | _=>none
def dListOf:List PyData→Option PyData
  | [.list xs]=>some (.list xs)
  | [.tuple xs]=>some (.list xs)
  | _=>none
def dLen:List PyData→Option PyData
  | [.list xs]=>some (.int xs.length)
  | [.tuple xs]=>some (.int xs.length)
  | [.str z]=>if z.length ≤ sizeLine then some (.int z.length) else none
  | _=>none
theorem cd_len:CallD X (.builtin "len") dLen:=by
  refine CallR.imp (call_len_seq.or call_len_str) fun xs H Q ⟨ds,c,i,e,k⟩=>?_
  match ds,e with
  | [.list ys],e =>
    cases e
    obtain ⟨v,rfl,h1⟩:=isDs_one i
    obtain ⟨p,vs,rfl,e2,e3⟩:=IsD.list_iff.mp h1
    exact .inl ⟨p,vs,rfl,.inl e2,k.here (by rw [e3.length]; exact IsD.int_iff.mpr rfl)⟩
  | [.tuple ys],e =>
    cases e
    obtain ⟨v,rfl,h1⟩:=isDs_one i
    obtain ⟨p,vs,rfl,e2,e3⟩:=h1.tuple_of
    exact .inl ⟨p,vs,rfl,.inr e2,k.here (by rw [e3.length]; exact IsD.int_iff.mpr rfl)⟩
  | [.str z],e =>
    dsimp only [dLen] at e
    by_cases hz:z.length ≤ sizeLine
    · rw [if_pos hz] at e; cases e
      obtain ⟨v,rfl,h1⟩:=isDs_one i
      exact .inr ⟨z,by rw [IsD.str_iff.mp h1],hz,k.here (IsD.int_iff.mpr rfl)⟩
    · rw [if_neg hz] at e; cases e
def dMin:List PyData→Option PyData
  | [.int i,.int j]=>some (.int (if j < i then j else i))
  | _=>none
def dMax:List PyData→Option PyData
  | [.int i,.int j]=>some (.int (if j > i then j else i))
  | _=>none
theorem cd_min (hc:X.calm=true):CallD X (.builtin "min") dMin:=by
  refine CallR.imp (call_min2 hc) fun xs H Q ⟨ds,c,i,e,k⟩=>?_
  match ds,e with
  | [.int x,.int y],e =>
    cases e
    obtain ⟨v,v',rfl,h1,h2⟩:=isDs_two i
    exact ⟨x,y,by rw [IsD.int_iff.mp h1,IsD.int_iff.mp h2],k.here (IsD.int_iff.mpr rfl)⟩
theorem cd_max (hc:X.calm=true):CallD X (.builtin "max") dMax:=by
  refine CallR.imp (call_max2 hc) fun xs H Q ⟨ds,c,i,e,k⟩=>?_
  match ds,e with
  | [.int x,.int y],e =>
    cases e
    obtain ⟨v,v',rfl,h1,h2⟩:=isDs_two i
    exact ⟨x,y,by rw [IsD.int_iff.mp h1,IsD.int_iff.mp h2],k.here (IsD.int_iff.mpr rfl)⟩
def tyD:PyData→String
  | .none=>"NoneType"
  | .bool _=>"bool"
  | .int _=>"int"
  | .str _=>"str"
  | .list _=>"list"
  | .tuple _=>"tuple"
  | .dict _=>"dict"
theorem call_isinst:CallR X (.builtin "isinstance") (fun xs H Q=>∃ d v T c,xs=[v,.ty T]∧(∀ kvs,d ≠ .dict kvs)∧IsD X.K H d v∧W.kitOne X.K (.type (tyD d)) (.type T)=some c∧Q (.bl c) H):=by
  intro pins s σ H xs us Q I r h
  obtain ⟨d,v,T,c,rfl,hnd,hd,e,q⟩:=h
  obtain ⟨u,w',rfl,ru,rw'⟩:=vals2 r
  obtain rfl:w'=Value.type T:=rw'
  have fin:∀ tk,EP X pins σ Q (.bool c) { s with toks:=tk }:=fun tk=>⟨.bl c,H,I.tok tk,rfl,q⟩
  cases d with
  | none=>rw [IsD.none_iff.mp hd] at ru; cases ru; exact W.kia_one W.kitx_none I.kIn True.intro e (fun z=>nomatch z) fin
  | bool y=>rw [IsD.bool_iff.mp hd] at ru; cases ru; exact W.kia_one W.kitx_bool I.kIn True.intro e (fun z=>nomatch z) fin
  | int i=>rw [IsD.int_iff.mp hd] at ru; obtain ⟨t,rfl⟩:=ru; exact W.kia_one W.kitx_int I.kIn True.intro e (fun z=>nomatch z) fin
  | str y=>rw [IsD.str_iff.mp hd] at ru; obtain ⟨t,rfl⟩:=ru; exact W.kia_one W.kitx_str I.kIn True.intro e (fun z=>nomatch z) fin
  | list xs =>
    obtain ⟨p,vs,rfl,e2,e3⟩:=IsD.list_iff.mp hd
    cases ru
    obtain ⟨its,_,⟨o,n,h1,h2,_⟩,_⟩:=I.list e2
    exact W.kia_one W.kitx_list I.kIn ⟨o,h1,h2⟩ e (fun z=>nomatch z) fin
  | tuple xs =>
    obtain ⟨p,vs,rfl,e2,e3⟩:=hd.tuple_of
    cases ru
    obtain ⟨its,_,⟨o,h1,h2,_⟩,_⟩:=I.tuple e2
    exact W.kia_one W.kitx_tuple I.kIn ⟨o,h1,h2⟩ e (fun z=>nomatch z) fin
  | dict kvs=>exact absurd rfl (hnd kvs)
def isDct:PyData→Bool
  | .dict _=>true
  | _=>false
def dIsT (T:String) (f:Rho→Option PyData):Rho→Option PyData:=fun ρ=>(f ρ).bind fun d=>if isDct d then none else some (.bool (tyD d == T || (tyD d == "bool" && T == "int")))
theorem kit_of {K:W.Frag}{T:String} (hT:T="tuple" ∨ T="list" ∨ T="bool" ∨ T="str" ∨ T="int") (d:PyData):W.kitOne K (.type (tyD d)) (.type T)=some (tyD d == T || (tyD d == "bool" && T == "int")):=by
  rcases hT with rfl | rfl | rfl | rfl | rfl <;> cases d <;> rfl
theorem pd_isinst {T:String}{p pt:Pos}{x:Str} (hT:T="tuple" ∨ T="list" ∨ T="bool" ∨ T="str" ∨ T="int") (he:PD X e f) (hg:Gl X "isinstance") (hm:X.mg "isinstance"=none) (hgT:Gl X x) (hmT:X.mg x=none) (hv:bootBuiltins x=some (.type T))
    (hn:x ≠ "__name__":=by decide) (hdb:(x == ("__debug__":Str))=false:=by decide)
    (hs:starEach [e,.Name x pt] X.env=(false,eval e X.env) :: starEach [.Name x pt] X.env:=by rfl) (hs2:starEach [.Name x pt] X.env=(false,eval (.Name x pt) X.env) :: starEach [] X.env:=by rfl) (hpl:(backTo pos (starEach [.Name x pt] X.env)).any (·.1)=false:=by rfl) :
    PD X (.Call (.Name "isinstance" p) [e,.Name x pt] [] pos) (dIsT T f):=by
  refine PE.imp (pe_callB call_isinst hg hm (by rfl) (pa_cons he (pa_cons (pe_bltn hgT hmT hv (v:=.ty T) rfl hn hdb) pa_nil hs2) hs) (by decide) (by decide) hs hpl) fun σ H Q ⟨ρ,d,hs,e,k⟩=>?_
  obtain ⟨x,e1,e2⟩:=bind_some e
  by_cases hx:isDct x=true
  · rw [if_pos hx] at e2; cases e2
  · rw [if_neg hx] at e2
    cases e2
    exact ⟨ρ,x,hs,e1,fun v H1 s1 i1=>⟨x,v,T,_,rfl,(fun kvs z=>hx (by rw [z]; rfl)),i1,kit_of hT x,(k.later s1).here (IsD.bool_iff.mpr rfl)⟩⟩
end
section
variable {X:Cx}{a b c e:Expr}{es:List Expr}{fa fb fc f:Rho→Option PyData}{pos p2:Pos}{ff:Rho→Option (List PyData)}{st:Stmt}{rest:List Stmt}{g h:Rho→Option Out}{gc:Rho→Option Bool}
def sNil:Rho→Option Out:=fun ρ=>some (.nx ρ)
def sSeq (g h:Rho→Option Out):Rho→Option Out:=fun ρ=>(g ρ).bind fun o=>match o with
  | .nx ρ'=>h ρ'
  | o=>some o
def sRet (f:Rho→Option PyData):Rho→Option Out:=fun ρ=>(f ρ).map .rt
def sIf (c:Rho→Option Bool) (g h:Rho→Option Out):Rho→Option Out:=fun ρ=>(c ρ).bind fun x=>if x then g ρ else h ρ
abbrev BD:=PyData→Rho→Option Rho
def tDG (K:W.Frag) (bd:BD):TG:=fun v σ H Q=>∃ ρ d ρ',HasD K H σ ρ∧IsD K H d v∧bd d ρ=some ρ'∧∀ σ' H',Same H H'→HasD K H' σ' ρ'→Q σ' H'
def PDG (X:Cx) (tg:Expr) (bd:BD):Prop:=PG X tg (tDG X.K bd)
theorem PG.imp {tg:Expr}{t u:TG} (h:PG X tg t) (k:∀ v σ H Q,u v σ H Q→t v σ H Q):PG X tg u:=fun pins s σ H v u' Q I r q=>h pins s σ H v u' Q I r (k _ _ _ _ q)
def bName (i:Nat):BD:=fun d ρ=>some (ρ.set i (some d))
theorem pdg_name (i:Nat) {x:Str} (hN:X.N.Nodup) (hi:X.N[i]?=some x:=by rfl) (hx:Loc X.env.scope x:=by first | exact Or.inl rfl | exact Or.inr rfl) (hf:X.fn x=true ∨ X.env.scope.names.lookup x=some .local:=by first | exact .inl rfl | exact .inr rfl | assumption):PDG X (.Name x pos) (bName i) :=
  PG.imp (pg_name hN hi hx hf) fun v σ H Q ⟨ρ,d,ρ',hs,i1,e,k⟩=>by cases e; exact k _ H (.refl H) (hs.set i1)
def WalksD (K:W.Frag) (J:It) (ds:List PyData) (H:Hp):Prop :=
  ∀ H',Same H H'→(J.stop ds.length H')∧∀ (i:Nat) (d:PyData),ds[i]?=some d→J.go i H'∧∀ x H2,J.yld i H' x H2→Same H' H2∧IsD K H2 d x
def tDI (K:W.Frag) (q:Rho→Option (List PyData)):TI:=fun σ H R=>∃ ρ ds,HasD K H σ ρ∧q ρ=some ds∧∀ J H',Same H H'→WalksD K J ds H'→R J H'
def PDI (X:Cx) (tg iter:Expr) (q:Rho→Option (List PyData)):Prop:=PI X tg iter (tDI X.K q)
theorem PI.imp {tg iter:Expr}{t u:TI} (h:PI X tg iter t) (k:∀ σ H R,u σ H R→t σ H R):PI X tg iter u:=fun pins s σ H R I q=>h pins s σ H R I (k _ _ _ q)
theorem PI.or {tg iter:Expr}{t u:TI} (h:PI X tg iter t) (h':PI X tg iter u):PI X tg iter (fun σ H R=>t σ H R ∨ u σ H R):=fun pins s σ H R I q=>q.elim (h pins s σ H R I) (h' pins s σ H R I)
def qSeq (f:Rho→Option PyData):Rho→Option (List PyData):=fun ρ=>(f ρ).bind fun d=>match d with | .list ds=>some ds | .tuple ds=>some ds | _=>none
theorem pdi_seq {tg:Expr} (h:PD X e f):PDI X tg e (qSeq f) :=
  PI.imp (PI.or (pi_list h) (pi_tup h)) fun σ H R ⟨ρ,ds,hs,e,k⟩=>by
    obtain ⟨d,e1,e2⟩:=bind_some e
    cases d <;> try (simp at e2; done)
    · cases e2
      refine .inl ⟨ρ,_,hs,e1,fun v H1 s1 i1=>?_⟩
      obtain ⟨p,vs,rfl,e2,e3⟩:=IsD.list_iff.mp i1
      refine ⟨p,rfl,⟨vs,e2⟩,k _ H1 s1 fun H' s'=>⟨⟨vs,s'.seq e2,by rw [e3.length]; exact Nat.le_refl _⟩,fun i d q=>?_⟩⟩
      obtain ⟨x,e4,e5⟩:=e3.get q
      refine ⟨⟨vs,x,s'.seq e2,e4⟩,fun y H2 ⟨r1,r2⟩=>?_⟩
      subst r1
      have:=r2 vs (s'.seq e2)
      rw [e4] at this; cases this
      exact ⟨.refl _,e5.same s'⟩
    · cases e2
      refine .inr ⟨ρ,_,hs,e1,fun v H1 s1 i1=>?_⟩
      obtain ⟨p,vs,rfl,e2,e3⟩:=i1.tuple_of
      refine ⟨p,rfl,⟨vs,e2⟩,k _ H1 s1 fun H' s'=>⟨⟨vs,s'.seqT e2,by rw [e3.length]; exact Nat.le_refl _⟩,fun i d q=>?_⟩⟩
      obtain ⟨x,e4,e5⟩:=e3.get q
      refine ⟨⟨vs,x,s'.seqT e2,e4⟩,fun y H2 ⟨r1,r2⟩=>?_⟩
      subst r1
      have:=r2 vs (s'.seqT e2)
      rw [e4] at this; cases this
      exact ⟨.refl _,e5.same s'⟩
def intsD (lo:Int) (n:Nat):List PyData:=(List.range n).map fun k=>.int (lo + (k:Nat))
theorem walks_range {K:W.Frag} (lo:Int) (n:Nat) (H:Hp):WalksD K (Itr lo n) (intsD lo n) H:=fun H' s'=>by
  refine ⟨by show n ≤ (intsD lo n).length; simp [intsD],fun i d q=>?_⟩
  have hi:i < n:=by
    have:=(List.getElem?_eq_some_iff.mp q).1
    simpa [intsD] using this
  refine ⟨hi,fun x H2 ⟨r1,r2⟩=>?_⟩
  subst r1 r2
  have:d=.int (lo + (i:Nat)):=by
    unfold intsD at q
    rw [List.getElem?_map,List.getElem?_range hi] at q
    cases q; rfl
  subst this
  exact ⟨.refl _,IsD.int_iff.mpr rfl⟩
def qRange1 (f:Rho→Option PyData):Rho→Option (List PyData):=fun ρ=>(f ρ).bind fun d=>match d with | .int j=>if -(2 ^ 62) ≤ j∧j < 2 ^ 62 then some (intsD 0 j.toNat) else none | _=>none
theorem pdi_range1 {tg:Expr}{p:Pos} (hg:Gl X "range") (hm:X.mg "range"=none) (h:PD X e f) (hs:starEach [e] X.env=[(false,eval e X.env)]:=by rfl):PDI X tg (.Call (.Name "range" p) [e] [] pos) (qRange1 f) :=
  PI.imp (pi_range1 hg hm (pa_cons h pa_nil (by rw [hs]; rfl)) hs) fun σ H R ⟨ρ,ds,hs,e,k⟩=>by
    obtain ⟨d,e1,e2⟩:=bind_some e
    cases d <;> try (simp at e2; done)
    rename_i j
    dsimp only at e2
    by_cases hj:-(2 ^ 62) ≤ j∧j < 2 ^ 62
    · rw [if_pos hj] at e2
      cases e2
      exact ⟨ρ,_,hs,e1,fun v H1 s1 i1=>⟨j,by rw [IsD.int_iff.mp i1],hj.1,hj.2,k _ H1 s1 (walks_range 0 _ H1)⟩⟩
    · rw [if_neg hj] at e2; cases e2
def forD (bd:BD) (g:Rho→Option Out):List PyData→Rho→Option Out
  | [],ρ=>some (.nx ρ)
  | d :: ds,ρ=>((bd d ρ).bind g).bind fun o=>match o with
    | .nx ρ'=>forD bd g ds ρ'
    | .ct ρ'=>forD bd g ds ρ'
    | .bk ρ'=>some (.nx ρ')
    | .rt d=>some (.rt d)
end
def spD (K:W.Frag) (n:Nat) (f:List PyData→Option PyData):Sp:=fun vs H Q _=>∃ ds d,IsDs K H ds vs∧ds.length=n∧f ds=some d∧KD K H d Q
section
variable {X:Cx}{k:Nat}{fa:Addr}{fd:FuncData}{ps:List Str}{f:List PyData→Option PyData}{x:Str}{p pos:Pos}{e:Expr}{es:List Expr}{ff:Rho→Option (List PyData)}
def dFn (n:Nat) (f:List PyData→Option PyData) (ff:Rho→Option (List PyData)):Rho→Option PyData:=fun ρ=>(ff ρ).bind fun ds=>if ds.length=n then f ds else none
theorem pd_call {n:Nat} (F:FnOk X.prog X.w X.K X.mg X.base CX0 k fa fd ps (spD X.K n f)) (hr:Room k X.A) (hg:Gl X x) (hm:X.mg x=some (.ref fa)) (hk:W.keepIn X.K (.ref fa)=true) (hb:Binds X.K fd ps [])
    (ha:PDA X (e :: es) ff) (hdb:(x == ("__debug__":Str))=false:=by decide) (he:starEach (e :: es) X.env=(false,eval e X.env) :: starEach es X.env:=by rfl) (hpl:(backTo pos (starEach es X.env)).any (·.1)=false:=by rfl) :
    PD X (.Call (.Name x p) (e :: es) [] pos) (dFn n f ff) :=
  PE.imp (pe_call F hr hg hm hk hb .nil pass0 ha hdb he hpl) fun σ H Q ⟨ρ,d,hs,e,k⟩=>by
    obtain ⟨ds,e1,e2⟩:=bind_some e
    by_cases hl:ds.length=n
    · rw [if_pos hl] at e2
      exact ⟨ρ,ds,hs,e1,fun vs H1 s1 i1=>⟨ds,d,by rw [List.append_nil]; exact i1,hl,e2,k.later s1⟩⟩
    · rw [if_neg hl] at e2; cases e2
def startD (N:List Str) (ds:List PyData):Rho:=ds.map some++List.replicate (N.length - ds.length) none
theorem hasD_start {K:W.Frag}{H:Hp}{N:List Str}{vs:List V}{ds:List PyData} (h:IsDs K H ds vs):HasD K H (start N vs) (startD N ds):=by
  have hl:=h.length
  refine ⟨by simp [start,startD,hl],fun i d q=>?_⟩
  unfold startD at q
  by_cases hi:i < ds.length
  · rw [List.getElem?_append_left (by simpa using hi),List.getElem?_map] at q
    obtain ⟨d',e1,e2⟩:=Option.map_eq_some_iff.mp q
    cases e2
    obtain ⟨v,e3,e4⟩:=h.get e1
    refine ⟨v,?_,e4⟩
    unfold start
    rw [List.getElem?_append_left (by simpa using (by omega:i < vs.length)),List.getElem?_map,e3]
    rfl
  · rw [List.getElem?_append_right (by simpa using hi),List.getElem?_replicate] at q
    split at q <;> cases q
def runD (N:List Str) (g:Rho→Option Out):List PyData→Option PyData:=fun ds=>(g (startD N ds)).bind fun o=>match o with
  | .rt d=>some d
  | .nx _=>some .none
  | _=>none
end
end L2
end
section
set_option Elab.async false
set_option linter.all false
set_option maxRecDepth 100000
set_option maxHeartbeats 1000000
namespace Att
open PySem PySem.W PySem.Calls PyProof.Rows
theorem attach_callB {l:OpenLaw}{n:Nat}{q:Program}{loose:List Str}{XP:(Str→Option Value)→Heap→Prop}{YP:World→Heap→Prop}{d:DefRec}
    (hn:l.most=some n) (hdf:d.params.defaults=[])
    (call:∀ (w:World) (s₀ s₁:Shared) (mg mb:Str→Option Value) (fa:Addr) (o:Obj) (pm cd doc:Value) (a:Addr) (vs:List Value) (ns:List Int),
      Ground q loose [] XP w s₀ mg mb s₁.heap→YP w s₁.heap →
      s₁.heap.get? fa=some o→o.data=.func (docDef d.name d.params d.body d.scope pm cd doc)→s₁.heap.CodeRec cd d.name→mg d.name=some (.ref fa) →
      s₁.heap.get? a=some { cls:=.type "list",data:=.seq vs.toArray }→IntsAre vs ns→ns.length ≤ n→(∀ x∈ns,L2.okBits x=true)→s₁.gens=#[] →
      codeAny (model l.prog w) callerA (.call (.ref fa) ⟨[.ref a],[]⟩) (fun r s'=>r=.ok (.ret (.bool true))∧OldK s₁.heap s'.heap∧s'.os=s₁.os∧AllBare s'.gens) s₁) :
    WalkO q loose XP YP l.row.toRowW d [] (fun f vs=>PySem.call f vs):=by
  intro w s₀ s₁ mg mb G Y fa o pm cd doc dV kV ho hd hcd hD hmg hg args vals as hpre hlay hrd hwl hlo
  obtain rfl:dV=.none:=Dflts.none hD hdf
  obtain rfl:kV=.none:=Dflts.noKw hD
  obtain ⟨a,vs,ns,rfl,rfl,hobj,hints,hlen⟩:=script_of hn hpre hwl
  have hbits:∀ x∈ns,L2.okBits x=true:=fun x hx=>by
    have h1:=layableW_arg hlay (WData.list (ns.map WData.int)) (by simp)
    have h2:=layable_int (layableW_item h1 (.int x) (List.mem_map.mpr ⟨x,hx,rfl⟩))
    have h3:(PyData.int x).layable=decide (Builtin.Int.intBits x ≤ 1048576):=by simp [PyData.layable,PyData.canLay,PyData.depth,PyData.weight,Builtin.Int.intBits]
    rw [h3] at h2
    exact h2
  refine enter_call (codeAny_mono (call w s₀ s₁ mg mb fa o pm cd doc a vs ns G Y ho (fd_plain hd) hcd hmg hobj hints hlen hbits hg) fun r s' hq=>?_)
  obtain ⟨rfl,h2,h3,h4⟩:=hq
  exact ⟨.inl ⟨.bool true,.bool true,[],rfl,fun _=>rfl,.bool true,post_true l _,fun _=>⟨List.Pairwise.nil,fun _ hm=>(nomatch hm)⟩⟩,h2,h3,h4⟩
end Att
namespace L2
open PySem PySem.Spec PyProof.Rows
theorem isDs_ints {K:W.Frag}{H:Hp}:∀ ns:List Int,IsDs K H (ns.map PyData.int) (ns.map V.int)
  | []=>IsDs.nil
  | n :: ns=>IsDs.cons (IsD.int_iff.mpr rfl) (isDs_ints ns)
structure Own (P:Program) (w:World) (K:W.Frag) (mg:Str→Option Value) (base:Heap) (x:Str) (k n:Nat) (f:List PyData→Option PyData):Prop where
  ex:∃ a fd ps,FnOk P w K mg base CX0 k a fd ps (spD K n f)∧mg x=some (.ref a)∧W.keepIn K (.ref a)=true∧Binds K fd ps []
section
variable {X:Cx}{f:List PyData→Option PyData}{x:Str}{p pos:Pos}{e:Expr}{es:List Expr}{ff:Rho→Option (List PyData)}{j k n:Nat}
theorem pd_own (O:Own X.prog X.w X.K X.mg X.base x j n f) (hr:Room k X.A) (hg:Gl X x) (ha:PDA X (e :: es) ff) (hj:j ≤ k:=by decide) (hdb:(x == ("__debug__":Str))=false:=by decide)
    (he:starEach (e :: es) X.env=(false,eval e X.env) :: starEach es X.env:=by rfl) (hpl:(backTo pos (starEach es X.env)).any (·.1)=false:=by rfl):PD X (.Call (.Name x p) (e :: es) [] pos) (dFn n f ff):=by
  obtain ⟨a,fd,ps,F,m,kp,b⟩:=O.ex
  exact pd_call (F.mono hj) hr hg m kp b ha hdb he hpl
end
theorem walk_data {l:W.OpenLaw}{n k:Nat}{q:Program}{loose:List Str}{XP:(Str→Option Value)→Heap→Prop}{YP:World→Heap→Prop}{d:DefRec}{K:Params→W.Frag}{x:Str}{f:List PyData→Option PyData}
    (hn:l.most=some n) (hn2:n ≤ sizeLine) (hdf:d.params.defaults=[]) (hr:Room k callerA)
    (hY:∀ (w:World) (h:Heap),YP w h→(K w.params).In h)
    (F:∀ (w:World) (mg:Str→Option Value) (fa:Addr) (h:Heap),(K w.params).In h→h.Ns mainGlobals mg→mg d.name=some (.ref fa) →
      ∃ fd:FuncData,(∀ (s:Shared) (u:Value),BindsTo s fd ⟨[u],[]⟩ [(x,u)]) ∧
        ∀ base:Heap,(K w.params).In base→base.Ns mainGlobals mg→FnOk l.prog w (K w.params) mg base CX0 k fa fd [x] (spD (K w.params) 1 f))
    (hf:∀ ns:List Int,ns.length ≤ n→(∀ x∈ns,okBits x=true)→f [.list (ns.map .int)]=some (.bool true)) :
    W.WalkO q loose XP YP l.row.toRowW d [] (fun f vs=>PySem.call f vs):=by
  refine Att.attach_callB hn hdf fun w s₀ s₁ mg mb fa o pm cd doc a vs ns G Y ho hd hcd hmg hobj hints hlen hbits hg=>?_
  have KX:=hY w _ Y
  obtain ⟨fd,hb,hF⟩:=F w mg fa _ KX G.T.g hmg
  refine law_call KX G.T.g G.T.b G.T.builtins G.T.nolimit hg hobj hints (Nat.le_trans hlen hn2) hr hF hb (fun H hO hS=>?_) fun H e s' z=>z
  exact ⟨[.list (ns.map .int)],.bool true,IsDs.cons (IsD.list_iff.mpr ⟨a,_,rfl,hS,isDs_ints ns⟩) IsDs.nil,rfl,hf ns hlen hbits,fun v H' _ i=>IsD.bool_iff.mp i⟩
end L2
end
section
set_option Elab.async false
set_option linter.all false
set_option maxRecDepth 100000
set_option maxHeartbeats 1000000
namespace L2
open PySem
theorem toNat_inj {a b:Char} (h:a.toNat=b.toNat):a=b:=Char.toNat_inj.mp h
theorem map_toNat_inj:∀ {a b:List Char},a.map Char.toNat=b.map Char.toNat→a=b
  | [],[],_=>rfl
  | [],_ :: _,h=>by simp at h
  | _ :: _,[],h=>by simp at h
  | a :: as,b :: bs,h=>by
    rw [List.map_cons,List.map_cons] at h
    injection h with h1 h2
    rw [toNat_inj h1,map_toNat_inj h2]
theorem ofString_inj {a b:String} (h:Str.ofString a=Str.ofString b):a=b:=by
  rw [Str.ofString_eq_toList,Str.ofString_eq_toList] at h
  injection h with h
  have h2:=congrArg Array.toList h
  simp only [List.toList_toArray] at h2
  exact String.toList_inj.mp (map_toNat_inj h2)
theorem beq_ofString (a b:String):(Str.ofString a == Str.ofString b)=(a == b):=by
  by_cases h:a=b
  · subst h; simp
  · have h':¬ Str.ofString a=Str.ofString b:=fun z=>h (ofString_inj z)
    rw [beq_eq_false_iff_ne.mpr h',beq_eq_false_iff_ne.mpr h]
theorem strOk_ofString (a:String):PyData.strOk (Str.ofString a)=true:=by
  rw [Str.ofString_eq_toList]
  unfold PyData.strOk
  simp only [Array.all_eq_true',List.mem_toArray,List.mem_map]
  rintro x ⟨c,_,rfl⟩
  have:=c.valid
  simp only [decide_eq_true_eq]
  have h2:c.toNat < 1114112:=by
    rcases c.valid with h | h
    · have:c.toNat < 55296:=h
      omega
    · exact h.2
  exact h2
end L2
end
section
set_option Elab.async false
set_option linter.all false
set_option maxRecDepth 100000
set_option maxHeartbeats 1000000
namespace L2
open PySem PySem.Spec PyProof.Rows
def clOf (env:Env) (scope:Scope):List (Str × Addr):=(scope.names.filterMap fun p=>if p.2 == NameKind.free then (env.cells.lookup p.1).map fun a=>(p.1,a) else none).reverse
theorem closure_loop (env:Env):∀ (names:List (Str × NameKind)) (acc:List (Str × Addr)),(∀ p∈names,p.2=.free→∃ c,env.cells.lookup p.1=some c) →
    (forIn names acc fun p cs=>(if (p.2 == NameKind.free)=true then do let c ← cellOf env p.1; pure (ForInStep.yield ((p.1,c) :: cs)) else pure (ForInStep.yield cs):Sem (ForInStep (List (Str × Addr))))) =
      pure ((names.filterMap fun p=>if p.2 == NameKind.free then (env.cells.lookup p.1).map fun a=>(p.1,a) else none).reverse++acc)
  | [],acc,_=>rfl
  | p :: r,acc,h=>by
    have ih:=fun acc=>closure_loop env r acc fun q hq=>h q (List.mem_cons_of_mem _ hq)
    rw [List.forIn_cons]
    by_cases hp:p.2=.free
    · obtain ⟨c,hc⟩:=h p List.mem_cons_self hp
      have e:(p.2 == NameKind.free)=true:=by rw [hp]; rfl
      rw [if_pos e]
      have e2:cellOf env p.1=pure c:=by unfold cellOf; rw [hc]
      rw [e2]
      simp only [pure_bind]
      rw [ih,List.filterMap_cons,if_pos e,hc]
      simp
    · have e:(p.2 == NameKind.free)=false:=by simpa using hp
      rw [if_neg (by rw [e]; exact Bool.false_ne_true)]
      simp only [pure_bind]
      rw [ih,List.filterMap_cons,if_neg (by rw [e]; exact Bool.false_ne_true)]
theorem closureFor_of {scope:Scope}{env:Env} (h:∀ p∈scope.names,p.2=.free→∃ c,env.cells.lookup p.1=some c):closureFor scope env=pure (clOf env scope):=by
  have e:=closure_loop env scope.names [] h
  unfold closureFor clOf
  rw [List.append_nil] at e
  have e2:(forIn scope.names ([]:List (Str × Addr)) fun x cs=>(match x with | (name,kind)=>do if (kind == NameKind.free)=true then do let c ← cellOf env name; pure (ForInStep.yield ((name,c) :: cs)) else pure (ForInStep.yield cs):Sem (ForInStep (List (Str × Addr)))))=_:=e
  first
    | (simp only [bind_pure] ; exact e2)
    | (show (forIn scope.names ([]:List (Str × Addr)) _ >>= fun cs=>pure cs)=_
       rw [bind_pure]
       exact e2)
theorem clOf_mem {env:Env}{scope:Scope}{x:Str}{c:Addr} (h:(x,c)∈clOf env scope):env.cells.lookup x=some c∧(x,NameKind.free)∈scope.names:=by
  unfold clOf at h
  rw [List.mem_reverse,List.mem_filterMap] at h
  obtain ⟨⟨n,k⟩,hm,e⟩:=h
  by_cases hk:(k == NameKind.free)=true
  · rw [if_pos hk] at e
    obtain ⟨a,e1,e2⟩:=Option.map_eq_some_iff.mp e
    cases e2
    have:k=.free:=eq_of_beq hk
    subst this
    exact ⟨e1,hm⟩
  · rw [if_neg hk] at e; cases e
theorem clOf_lookup {env:Env}{scope:Scope}{x:Str}{c:Addr} (h:(clOf env scope).lookup x=some c):env.cells.lookup x=some c:=(clOf_mem (PySem.mem_of_lookup h)).1
theorem lookup_of_mem {α:Type}{x:Str}{c:α}:∀ {l:List (Str × α)},(x,c)∈l→∃ d,l.lookup x=some d
  | [],h=>by cases h
  | (n,a) :: r,h=>by
    by_cases e:x=n
    · subst e; exact ⟨a,by simp⟩
    · rcases List.mem_cons.mp h with h | h
      · cases h; exact absurd rfl e
      · obtain ⟨d,hd⟩:=lookup_of_mem h
        exact ⟨d,by rw [List.lookup_cons,beq_eq_false_iff_ne.mpr e]; exact hd⟩
theorem clOf_has {env:Env}{scope:Scope}{x:Str}{c:Addr} (hm:(x,NameKind.free)∈scope.names) (hc:env.cells.lookup x=some c):(clOf env scope).lookup x=some c:=by
  have:(x,c)∈clOf env scope:=by
    unfold clOf
    rw [List.mem_reverse,List.mem_filterMap]
    exact ⟨(x,.free),hm,by rw [if_pos (by rfl),hc]; rfl⟩
  obtain ⟨d,hd⟩:=lookup_of_mem this
  have e:=clOf_lookup hd
  rw [hc] at e; cases e
  exact hd
theorem relabel_mem {scope:Scope}{env:Env}{x:Str}{k:NameKind} (h:(relabel scope env).names.lookup x=some k):(x,k)∈scope.names ∨ (k=.cell∧(x,NameKind.free)∈scope.names):=by
  have hm:=PySem.mem_of_lookup h
  unfold relabel at hm
  obtain ⟨⟨n,k'⟩,h1,h2⟩:=List.mem_map.mp hm
  dsimp only at h2
  split at h2
  · rename_i hc
    cases h2
    simp only [Bool.and_eq_true,beq_iff_eq] at hc
    obtain ⟨⟨rfl,_⟩,_⟩:=hc
    exact .inr ⟨rfl,h1⟩
  · cases h2; exact .inl h1
theorem relabel_free {env:Env}:∀ {names:List (Str × NameKind)}{x:Str},names.lookup x=some .free →
    (names.map fun (n,k)=>if (k == NameKind.free && env.scope.kind == .function && env.kindOf n == some .cell) then (n,NameKind.cell) else (n,k)).lookup x=some .cell ∨
    (names.map fun (n,k)=>if (k == NameKind.free && env.scope.kind == .function && env.kindOf n == some .cell) then (n,NameKind.cell) else (n,k)).lookup x=some .free
  | [],_,h=>by simp at h
  | (n,k) :: r,x,h=>by
    have ih:=@relabel_free env r x
    rw [List.map_cons]
    dsimp only
    cases hx:x == n with
    | true =>
      simp only [List.lookup_cons,hx] at h
      cases h
      split
      · exact .inl (by simp [List.lookup_cons,hx])
      · exact .inr (by simp [List.lookup_cons,hx])
    | false =>
      simp only [List.lookup_cons,hx] at h
      split
      · simp only [List.lookup_cons,hx]; exact ih h
      · simp only [List.lookup_cons,hx]; exact ih h
def cxIn (X:Cx) (scope:Scope) (C:Addr) (N:List Str) (s:Shared) (H:Hp) (fp:List Addr):Cx where
  prog:=X.prog
  w:=X.w
  K:=X.K
  mg:=X.mg
  base:=X.base
  A:=X.A
  N:=N
  s₀:=s
  H₀:=H
  env:=compEnvC scope (clOf X.env scope) C X.env
  outer:=X.stack
  stack:=X.stack
  ex:=fp
  fn:=fun _=>false
  calm:=true
  pn:=[]
  xe:=fun _ _=>False
def CapsOk (X:Cx) (scope:Scope):List (Nat × Str)→Prop
  | []=>True
  | (j,y) :: r=>(X.N[j]?=some y∧(X.env.kindOf y=some .cell ∨ X.env.kindOf y=some .free)∧scope.names.lookup y=some .free)∧CapsOk X scope r
theorem CapsOk.at {X:Cx}{scope:Scope}:∀ {caps:List (Nat × Str)},CapsOk X scope caps→∀ {i:Nat}{j:Nat}{y:Str},caps[i]?=some (j,y)→X.N[j]?=some y∧(X.env.kindOf y=some .cell ∨ X.env.kindOf y=some .free)∧scope.names.lookup y=some .free
  | [],_,_,_,_,h=>by simp at h
  | (_,_) :: _,hc,0,_,_,h=>by simp at h; obtain ⟨rfl,rfl⟩:=h; exact hc.1
  | (_,_) :: _,hc,i + 1,_,_,h=>CapsOk.at hc.2 (i:=i) (by simpa using h)
def capV (caps:List (Nat × Str)) (σ:St):St:=caps.map fun p=>(σ[p.1]?).join
def capD (caps:List (Nat × Str)) (ρ:Rho):Rho:=caps.map fun p=>(ρ[p.1]?).join
structure ScopeIn (scope:Scope) (x:Str):Prop where
  kind:scope.kind=.function
  nocell:∀ y∈scope.names,y.2 ≠ .cell
  loc:∀ y∈scope.names,y.2=.local→scope.names.lookup y.1=some .local
  var:scope.names.lookup x=some .local
  has:True:=True.intro
section
variable {X:Cx}{pins:List (Addr × Obj)}{σ:St}{H:Hp}{s:Shared}
theorem inv_in {scope:Scope}{x:Str}{caps:List (Nat × Str)}{fp:List Addr}{C:Addr}{s':Shared} (I:Inv X pins σ H s) (hc:X.calm=true) (S:ScopeIn scope x) (hcl:∀ p∈scope.names,p.2=.free→∃ c,X.env.cells.lookup p.1=some c) (hcap:CapsOk X scope caps)
    (hf:∀ b∈fp,FpOk X pins H b) (hfo:∀ b∈fp,∃ o,s.heap.get? b=some o) (hC:s.heap.objs.size ≤ C) (k:∀ b o,s.heap.get? b=some o→s'.heap.get? b=some o) (hns:s'.heap.Ns C fun _=>none) (hos:s'.os=s.os) (hg:AllBare s'.gens) :
    Inv (cxIn X scope C (x :: caps.map (·.2)) s H fp) [] (none :: capV caps σ) H s':=by
  have hpar:∀ b,b∈(cxIn X scope C (x :: caps.map (·.2)) s H fp).fs→b∈X.env.locals :: X.fs:=fun b hb=>I.stkSub b hb
  refine ⟨⟨I.ok.mod,S.kind,I.ok.glob,I.ok.blt,hC,fun y z c e1 e2=>I.ok.inj y z c (clOf_lookup e1) (clOf_lookup e2),fun y hy=>?_,fun y c h=>(by cases h),fun _=>I.ok.hd hc,I.ok.frames,.inl rfl,fun b hb=>?_,I.bs,Nat.le_trans I.ok.bsz I.sz,fun b o e hb=>?_,fun b hb hb2=>?_,I.stack,I.stkFree⟩,
    hos,hg,Un.kept k,⟨_,hns,fun i y v e1 e2 e3=>?_⟩,fun y c e=>?_,I.hok.fresh hC,fun y c e=>I.freeC y c (clOf_lookup e),fun p hp=>?_,I.hok.kept k,?_⟩
  · have hy':(relabel scope X.env).names.lookup y=some .cell ∨ (relabel scope X.env).names.lookup y=some .free:=hy
    have hm:(y,NameKind.free)∈scope.names:=by
      rcases hy' with h | h
      · rcases relabel_mem h with h | ⟨_,h⟩
        · exact absurd rfl (S.nocell _ h)
        · exact h
      · rcases relabel_mem h with h | ⟨h,_⟩
        · exact h
        · cases h
    obtain ⟨c,hc⟩:=hcl _ hm rfl
    exact ⟨c,clOf_has hm hc⟩
  · obtain ⟨f0,f1,f2,f3,f4,f5⟩:=hf b hb
    obtain ⟨o,ho⟩:=hfo b hb
    refine ⟨?_,fun y c e=>f4 y c (clOf_lookup e)⟩
    show b ≠ C
    exact Nat.ne_of_lt (Nat.lt_of_lt_of_le (Heap.lt_size ho) hC)
  · obtain ⟨f0,f1,f2,f3,f4,f5⟩:=hf b hb
    have hb1:=I.bs b o e
    rcases f3 with h | h
    · exact I.ok.noex b o e h
    · have:=(I.ok.bs b o e).1
      exact absurd (Nat.lt_of_lt_of_le (Heap.lt_size this) h) (Nat.lt_irrefl _)
  · obtain ⟨f0,f1,f2,f3,f4,f5⟩:=hf b hb
    rcases List.mem_cons.mp (hpar b hb2) with h | h
    · exact f1 h
    · exact f2 h
  · cases i with
    | zero=>simp at e2
    | succ i =>
      have e1':(caps.map (·.2))[i]?=some y:=by simpa [cxIn] using e1
      have e2':(capV caps σ)[i]?=some (some v):=by simpa using e2
      rw [List.getElem?_map] at e1'
      obtain ⟨⟨j,y'⟩,e4,e5⟩:=Option.map_eq_some_iff.mp e1'
      dsimp only at e5
      subst e5
      unfold capV at e2'
      rw [List.getElem?_map,e4] at e2'
      have e6:(σ[j]?).join=some v:=by simpa using e2'
      have e7:σ[j]?=some (some v):=by
        cases q:σ[j]? with
        | none=>rw [q] at e6; cases e6
        | some o=>rw [q] at e6; cases o with
          | none=>cases e6
          | some v'=>cases e6; rfl
      obtain ⟨c1,c2,c3⟩:=hcap.at e4
      obtain ⟨m,hn,hl⟩:=I.loc
      have hv:Vis X.env.scope y':=by
        rcases c2 with h | h
        · exact .inr (.inl h)
        · exact .inr (.inr h)
      obtain ⟨u,r,l⟩:=hl j y' v c1 e7 hv
      refine ⟨u,r,.inr ⟨?_,?_⟩⟩
      · exact relabel_free c3
      · rcases l with ⟨hk,_⟩ | ⟨_,c,hc,hcell⟩
        · rcases c2 with h | h
          · rw [hk] at h; cases h
          · rw [hk] at h; cases h
        · refine ⟨c,clOf_has (PySem.mem_of_lookup c3) hc,?_⟩
          obtain ⟨o,ho,hd⟩:=hcell
          exact ⟨o,k _ _ ho,hd⟩
  · obtain ⟨v,o,ho,hd⟩:=I.cell y c (clOf_lookup e)
    exact ⟨v,o,k _ _ ho,hd⟩
  · exact absurd (show p∈([]:List (Addr × Obj)) from hp) (by simp)
  · show (none :: capV caps σ).length=(x :: caps.map (·.2)).length
    simp [capV]
def PTs (X:Cx) (ifs:List Expr) (t:TT):Prop :=
  ∀ (pins:List (Addr × Obj)) (s:Shared) (σ:St) (H:Hp) (Q:Bool→Hp→Prop),Inv X pins σ H s→t σ H Q →
    wpAny (model X.prog X.w) X.A (forIn ifs true fun c r=>if r=true then do let ok ← isTrue c X.env (eval c X.env); pure (ForInStep.yield ok) else pure (ForInStep.yield r)) (TP X pins σ Q) X.xe s
def PDTs (X:Cx) (ifs:List Expr) (g:Rho→Option Bool):Prop:=PTs X ifs (tDT X.K g)
theorem pdts_nil:PDTs X [] (fun _=>some true):=fun pins s σ H Q I ⟨ρ,b,hs,e,k⟩=>by
  cases e
  rw [List.forIn_nil]
  exact wpAny_pure ⟨H,I,k H (.refl H)⟩
def compD (g:Rho→Option Bool) (f:Rho→Option PyData) (ρc:Rho):List PyData→Option (List PyData)
  | []=>some []
  | d :: ds=>(g (some d :: ρc)).bind fun b=>if b then (f (some d :: ρc)).bind fun y=>(compD g f ρc ds).bind fun ys=>some (y :: ys) else compD g f ρc ds
def dComp (q:Rho→Option (List PyData)) (caps:List (Nat × Str)) (g:Rho→Option Bool) (f:Rho→Option PyData):Rho→Option PyData:=fun ρ =>
  (q ρ).bind fun ds=>if ds.length ≤ sizeLine then (compD g f (capD caps ρ) ds).map .list else none
theorem HasD.cap {K:W.Frag}{H:Hp}{σ:St}{ρ:Rho} (h:HasD K H σ ρ) (caps:List (Nat × Str)) (o:Option V):HasD K H (o :: capV caps σ) (none :: capD caps ρ):=by
  refine ⟨by simp [capV,capD],fun i d q=>?_⟩
  cases i with
  | zero=>simp at q
  | succ i =>
    have q':(capD caps ρ)[i]?=some (some d):=by simpa using q
    unfold capD at q'
    rw [List.getElem?_map] at q'
    obtain ⟨⟨j,y⟩,e4,e5⟩:=Option.map_eq_some_iff.mp q'
    dsimp only at e5
    have e6:ρ[j]?=some (some d):=by
      cases q:ρ[j]? with
      | none=>rw [q] at e5; cases e5
      | some o=>rw [q] at e5; cases o with
        | none=>cases e5
        | some v'=>cases e5; rfl
    obtain ⟨v,e7,e8⟩:=h.2 j d e6
    refine ⟨v,?_,e8⟩
    show (capV caps σ)[i]?=some (some v)
    unfold capV
    rw [List.getElem?_map,e4]
    simp [e7]
theorem compLoop_own {prog:Program}{w:World}{A:Around}{R:Result→Shared→Prop}{s:Shared}{elt target iter:Expr}{ifs:List Expr}{scope:Scope}{pos:Pos}{it acc:Value}{env:Env} (I:Nat→Shared→Prop)
    (turn:∀ n s,I n s→wpAny (model prog w) A (pyNext it) (fun r s₁=>match r with
      | none=>R (.ok .next) s₁
      | some v=>wpAny (model prog w) A (letOwnedTupleGo target it v) (fun _ s₁=>wpAny (model prog w) A (assign target env v) (fun _ s₂ =>
          wpAny (model prog w) A (forIn ifs true fun c r=>if r=true then do let ok ← isTrue c env (eval c env); pure (ForInStep.yield ok) else pure (ForInStep.yield r)) (fun ok s₃ =>
            if ok=true then wpAny (model prog w) A (eval elt env) (fun x s₄ =>
              wpAny (model prog w) A (call (.builtin "list.append") [acc,x]) (fun _ s₅=>∃ m,m < n∧I m s₅) (fun _ _=>False) s₄) (fun _ _=>False) s₃
            else ∃ m,m < n∧I m s₃) (fun _ _=>False) s₂) (fun _ _=>False) s₁) (fun _ _=>False) s₁) (fun _ _=>False) s)
    (n:Nat) (h:I n s) :
    codeAny (model prog w) A (.compLoop (.ListComp elt [⟨target,iter,ifs,0⟩] scope pos) 0 it acc env) R s:=by
  refine codeAny_loop rfl I (fun n s hI=>?_) n h
  show wpAny _ A ((compTurn (.ListComp elt [⟨target,iter,ifs,0⟩] scope pos) 0 it acc env).onRaise (fun x=>do noteFrame x env; theTreesLotGoes x)) _ _ s
  refine wpAny_noted ?_
  rw [compTurn_list]
  refine wpAny_bind (wpAny_standAt (wpAny_bind (wpAny_mono (turn n s hI) (fun r s₁ h₁=>?_) fun _ _ z=>False.elim z)))
  cases r with
  | none=>exact wpAny_pure h₁
  | some v =>
    refine wpAny_bind (wpAny_mono h₁ (fun _ s₁ h₁=>?_) fun _ _ z=>False.elim z)
    refine wpAny_bind (wpAny_mono h₁ (fun _ s₂ h₂=>wpAny_bind (wpAny_mono h₂ (fun ok s₃ h₃=>?_) fun _ _ z=>False.elim z)) fun _ _ z=>False.elim z)
    cases ok with
    | false=>exact wpAny_pure ⟨rfl,h₃⟩
    | true =>
      exact wpAny_bind (wpAny_bind (wpAny_mono h₃ (fun x s₄ h₄=>wpAny_bind (wpAny_mono h₄ (fun _ s₅ h₅=>wpAny_pure (wpAny_pure ⟨rfl,h₅⟩)) fun _ _ z=>False.elim z)) fun _ _ z=>False.elim z))
def LObj (its:List Value) (n:Nat):Obj:={ cls:=.type "list",data:=.seq its.toArray n }
def PCm (X:Cx) (e:Expr) (scope:Scope) (iter:Expr) (t:TE):Prop :=
  ∀ (pins:List (Addr × Obj)) (s:Shared) (σ:St) (H:Hp) (Q:VK) (R:Value→Addr→Result→Shared→Prop),Inv X pins σ H s→t σ H Q →
    (∀ (D C:Addr) (s9:Shared) (H9:Hp) (oC:Obj) (m:Str→Option Value),Inv X ((C,oC) :: pins) σ H9 s9→s9.heap.Ns C m→(∀ p∈X.pn++pins,p.1 ≠ C)→X.s₀.heap.objs.size ≤ C→Q (.ref D) H9→R (.ref D) C (.ok .next) s9) →
    wpAny (model X.prog X.w) X.A (eval iter X.env) (fun xv s₁=>wpAny (model X.prog X.w) X.A (pyIter xv) (fun it s₂=>wpAny (model X.prog X.w) X.A (newList []) (fun acc s₃ =>
      wpAny (model X.prog X.w) X.A (newFunctionEnv scope X.env.globals (clOf X.env scope) [] X.env.qual none .none (some X.env)) (fun cenv s₄ =>
        codeAny (model X.prog X.w) X.A (.compStart e 0 it acc { cenv with scope:=relabel scope X.env }) (R acc cenv.locals) s₄) X.xe s₃) X.xe s₂) X.xe s₁) X.xe s
theorem Inv.drop_pin {pins:List (Addr × Obj)}{σ:St}{H:Hp}{s:Shared}{C:Addr}{oC:Obj}{h':Heap} (I:Inv X ((C,oC) :: pins) σ H s) (hp:∀ p∈X.pn++pins,p.1 ≠ C) (hz:X.s₀.heap.objs.size ≤ C) (hs:Heap.SameBut C s.heap h'):Inv X pins σ H { s with heap:=h' }:=by
  have hC:=I.pin (C,oC) (by simp)
  have J:Inv X pins σ H s:=I.pins_of fun p hq=>I.pin p (List.mem_append_right _ (List.mem_cons_of_mem _ hq))
  refine J.turned (t':=s.toks) (it:=C) (fun b o hb e=>(hs.2 b hb).trans e) hC.2.1 hC.2.2.1 (.inr hz) (fun y c e z=>?_) hp
  obtain ⟨v,o,ho,hd⟩:=J.cell y c e
  rw [z,hC.1] at ho
  cases ho
  exact hC.2.2.2.2 v hd
set_option maxHeartbeats 4000000 in
theorem pc_comp {elt iter:Expr}{x:Str}{px pos:Pos}{ifs:List Expr}{scope:Scope}{caps:List (Nat × Str)}{q:Rho→Option (List PyData)}{g:Rho→Option Bool}{f:Rho→Option PyData}
    (hc:X.calm=true) (S:ScopeIn scope x) (hcl:∀ p∈scope.names,p.2=.free→∃ c,X.env.cells.lookup p.1=some c) (hcap:CapsOk X scope caps) (hnd:(x :: caps.map (·.2)).Nodup)
    (hi:PDI X (.Name x px) iter q)
    (ht:∀ C s H fp,PDTs (cxIn X scope C (x :: caps.map (·.2)) s H fp) ifs g)
    (he:∀ C s H fp,PD (cxIn X scope C (x :: caps.map (·.2)) s H fp) elt f):PCm X (.ListComp elt [⟨.Name x px,iter,ifs,0⟩] scope pos) scope iter (tD X.K (dComp q caps g f)):=by
  intro pins s σ H Q R I ⟨ρ,d,hsD,e,k⟩ fin
  obtain ⟨ds,e1,e2⟩:=bind_some e
  have hz:ds.length ≤ sizeLine:=by
    by_cases hz:ds.length ≤ sizeLine
    · exact hz
    · rw [if_neg hz] at e2; cases e2
  rw [if_pos hz] at e2
  obtain ⟨ys,e3,rfl⟩:=Option.map_eq_some_iff.mp e2
  refine thn (hi pins s σ H (fun J H'=>Same H H'∧WalksD X.K J ds H') I ⟨ρ,ds,hsD,e1,fun J H' s' w=>⟨s',w⟩⟩) fun v sA hA=>thn hA fun itv s2 ⟨it,fp,tn,J,H2,eit,I2,T,st2,f2,same2,wd⟩=>?_
  subst eit
  have hsD2:=hsD.same same2
  refine wpAny_newObj_type (wpAny_newFunctionEnv S.nocell (by intro y hy; simp at hy) (fun h₁ hns₁ hsb₁=>?_) S.kind)
  dsimp only at hns₁ hsb₁ ⊢
  generalize hH2:s2.heap.push { cls:=.type "list",dict:=none,data:=.seq ([]:List Value).toArray }=hp2 at hns₁ hsb₁ ⊢
  have hCs:hp2.objs.size=s2.heap.objs.size + 1:=by rw [← hH2,Heap.size_push]
  generalize hC:hp2.objs.size=C at hns₁ hsb₁ hCs ⊢
  generalize hD:s2.heap.objs.size=D at hCs ⊢
  have hDC:D ≠ C:=by omega
  have hCle:s2.heap.objs.size ≤ C:=by omega
  have old:∀ b o,s2.heap.get? b=some o→h₁.get? b=some o:=fun b o e=>by
    have hb:=Heap.lt_size e
    exact hsb₁.extBut b o (Nat.ne_of_lt (Nat.lt_of_lt_of_le hb hCle)) (Heap.get?_push_of_some _ (hH2 ▸ Heap.get?_push_of_some _ e))
  have hD1:h₁.get? D=some (LObj [] 0):=by
    refine hsb₁.extBut _ _ hDC (Heap.get?_push_of_some _ (hH2 ▸ ?_))
    rw [← hD]
    exact Heap.get?_push_size _ rfl
  have hfo:∀ b∈fp,∃ o,s2.heap.get? b=some o:=fun b hb=>by
    obtain ⟨o,ho,_⟩:=T.obj 0 _ st2 b hb
    exact ⟨o,ho⟩
  have I3:Inv (cxIn X scope C (x :: caps.map (·.2)) s2 H2 fp) [] (none :: capV caps σ) H2 { s2 with heap:=h₁,toks:=s2.toks + ([]:List (Str × Value)).length } :=
    inv_in I2 hc S hcl hcap f2 hfo hCle old hns₁ rfl I2.bare
  have fpD:∀ b∈fp,b ≠ D∧b ≠ C:=fun b hb=>by
    obtain ⟨o,ho⟩:=hfo b hb
    have:=Heap.lt_size ho
    exact ⟨Nat.ne_of_lt (hD ▸ this),Nat.ne_of_lt (Nat.lt_of_lt_of_le this hCle)⟩
  have hDex:∀ (X':Cx),X'=cxIn X scope C (x :: caps.map (·.2)) s2 H2 fp→∀ {G:Hp}{σ':St}{s':Shared}{its:List Value}{n:Nat},Inv X' [(D,LObj its n)] σ' G s' →
      ∀ {t':Nat}{h':Heap}{its':List Value}{n':Nat},(∀ b o,b ≠ D→s'.heap.get? b=some o→h'.get? b=some o)→h'.get? D=some (LObj its' n')→Inv X' [(D,LObj its' n')] σ' G { s' with heap:=h',toks:=t' }:=by
    intro X' hX G σ' s' its n J1 t' h' its' n' kk hD'
    have hp:=J1.pin (D,LObj its n) (by simp)
    have J2:Inv X' [] σ' G s':=J1.pins_of fun p hp=>by cases hp
    have J3:Inv X' [] σ' G { s' with heap:=h',toks:=t' }:=by
      refine J2.turned (it:=D) (fun b o hb e=>kk b o hb e) hp.2.1 hp.2.2.1 (.inr ?_) (fun y c e z=>?_) (fun p hp=>?_)
      · subst hX; show s2.heap.objs.size ≤ D; omega
      · obtain ⟨v,o,ho,hd⟩:=J2.cell y c e
        rw [z,hp.1] at ho
        cases ho
        have hd':(LObj its n).data=.cell v:=hd
        cases hd'
      · subst hX
        exact absurd (show p∈([]:List (Addr × Obj))++[] from hp) (by simp)
    refine J3.pins_of fun p hp2=>?_
    have:p=(D,LObj its' n'):=by simpa using hp2
    subst this
    exact ⟨hD',hp.2.1,hp.2.2.1,hp.2.2.2.1,fun v z=>by
      have z':(LObj its' n').data=.cell v:=z
      cases z'⟩
  have hDfs:D ∉ frs X.stack:=fun hb=>by
    obtain ⟨_,o,ho,_⟩:=I2.stack.mem hb
    have:=Heap.lt_size ho
    exact absurd this (by rw [hD]; exact Nat.lt_irrefl _)
  have I4:Inv (cxIn X scope C (x :: caps.map (·.2)) s2 H2 fp) [(D,LObj [] 0)] (none :: capV caps σ) H2 { s2 with heap:=h₁,toks:=s2.toks + ([]:List (Str × Value)).length }:=by
    refine I3.pins_of fun p hp=>?_
    have:p=(D,LObj [] 0):=by simpa using hp
    subst this
    exact ⟨hD1,I2.hok.fresh (by omega),hDC,hDfs,fun v z=>by
      have z':(LObj [] 0).data=.cell v:=z
      cases z'⟩
  have st4:tn 0 h₁:=T.keep 0 _ _ st2 fun b hb o e=>old b o e
  let X':=cxIn X scope C (x :: caps.map (·.2)) s2 H2 fp
  have stat:∀ {G:Hp}{pl:List (Addr × Obj)},(∀ p∈pl,p.1=D)→(∀ b∈fp,G b=none)→∀ b∈fp,FpOk X' pl G b:=fun {G pl} hpl hn b hb=>by
    obtain ⟨f0,f1,f2',f3,f4,f5⟩:=f2 b hb
    refine ⟨hn b hb,(fpD b hb).2,fun z=>?_,.inl hb,fun y c e=>f4 y c (clOf_lookup e),fun p hp z=>?_⟩
    · rcases List.mem_cons.mp (I2.stkSub b z) with h | h
      · exact f1 h
      · exact f2' h
    · have hp':p∈pl:=by simpa [X',cxIn] using hp
      exact (fpD b hb).1 (by rw [← z]; exact hpl p hp')
  have loop:∀ s₃:Shared,s₃={ s2 with heap:=h₁,toks:=s2.toks + ([]:List (Str × Value)).length } →
      codeAny (model X.prog X.w) X.A (.compLoop (.ListComp elt [⟨.Name x px,iter,ifs,0⟩] scope pos) 0 (.ref it) (.ref D) (compEnvC scope (clOf X.env scope) C X.env))
        (R (.ref D) C) s₃:=by
    rintro s₃ rfl
    refine compLoop_own (fun n s'=>∃ (i:Nat) (σ':St) (G:Hp) (its:List Value) (vs:List V) (m:Nat) (done:List PyData) (ys':List PyData),Inv X' [(D,LObj its m)] σ' G s'∧tn i s'.heap∧(∀ b∈fp,G b=none)∧Same H2 G∧HasD X.K G σ' (none :: capD caps ρ) ∧
        Vals vs its∧IsDs X.K G done vs∧done.length ≤ i∧i ≤ ds.length∧compD g f (capD caps ρ) (ds.drop i)=some ys'∧ys=done++ys'∧n=ds.length - i) ?_ ds.length
      ⟨0,_,H2,[],[],0,[],ys,I4,st4,fun b hb=>(f2 b hb).1,.refl _,hsD2.cap caps none,.nil,IsDs.nil,Nat.le_refl _,Nat.zero_le _,by simpa using e3,rfl,by simp⟩
    rintro n s' ⟨i,σ',G,its,vs,m,done,ys',JJ,st,fr,sG,hasD,rv,id1,hdi,hil,e5,e6,rfl⟩
    obtain ⟨w1,w2⟩:=wd G sG
    by_cases hlt:i < ds.length
    · -- one more item
      have hd:ds[i]?=some ds[i]:=List.getElem?_eq_getElem hlt
      obtain ⟨w3,w4⟩:=w2 i _ hd
      rw [List.drop_eq_getElem_cons hlt] at e5
      unfold compD at e5
      obtain ⟨b,eb,e7⟩:=bind_some e5
      refine thn (T.item X' rfl rfl rfl rfl i _ s' σ' G (fun _ _=>False) JJ (stat (by simp) fr) st w3) fun r s5 ⟨u,hr,h5⟩=>?_
      subst hr
      refine thn h5 fun _ s6 ⟨y,G6,J6,r6,y6,st6,fr6⟩=>?_
      obtain ⟨s7,i7⟩:=w4 y G6 y6
      have hfp6:=stat (G:=G6) (pl:=[(D,LObj its m)]) (by simp) fr6
      have J6':=J6.pinned hfp6 (T.obj _ _ st6)
      have hg:PDG X' (.Name x px) (bName 0):=pdg_name 0 hnd rfl (.inl (lookup_relabel_local S.var)) (.inr (lookup_relabel_local S.var))
      have hasD6:HasD X.K G6 σ' (none :: capD caps ρ):=hasD.same s7
      refine thn (hg _ s6 σ' G6 y u (fun σ8 H8=>Same G6 H8∧HasD X.K H8 σ8 (some ds[i] :: capD caps ρ)) J6' r6 ⟨none :: capD caps ρ,ds[i],some ds[i] :: capD caps ρ,hasD6,i7,rfl,fun σ8 H8 s8 h8=>⟨s8,h8⟩⟩) fun _ s8 ⟨σ8,G8,J8,same8,has8⟩=>?_
      refine thn (ht C s2 H2 fp _ s8 σ8 G8 (fun c H9=>c=b∧Same G8 H9) J8 ⟨_,b,has8,eb,fun H9 s9=>⟨rfl,s9⟩⟩) fun ok s9 ⟨G9,J9,⟨hok,same9⟩⟩=>?_
      subst hok
      have keepT:∀ {σ7:St}{G7:Hp}{s7:Shared}{pl:List (Addr × Obj)},Inv X' (pl++pinsAt fp s6.heap) σ7 G7 s7→tn (i + 1) s7.heap∧∀ b∈fp,G7 b=none:=fun {σ7 G7 s7 pl} J7=>by
        refine ⟨T.keep _ _ _ st6 fun b hb o e=>(J7.pin (b,o) (List.mem_append_right _ (List.mem_append_right _ (mem_pinsAt hb e)))).1,fun b hb=>?_⟩
        obtain ⟨o,e,d⟩:=T.obj _ _ st6 b hb
        exact (J7.pin (b,o) (List.mem_append_right _ (List.mem_append_right _ (mem_pinsAt hb e)))).2.1
      have forget:∀ {H7:Hp}{σ7:St},HasD X.K H7 σ7 (some ds[i] :: capD caps ρ)→HasD X.K H7 σ7 (none :: capD caps ρ):=fun {H7 σ7} h=>⟨by simpa using h.1,fun j d q=>by
        cases j with
        | zero=>simp at q
        | succ j=>exact h.2 (j + 1) d (by simpa using q)⟩
      cases ok with
      | false =>
        rw [if_neg Bool.false_ne_true] at e7 ⊢
        obtain ⟨k1,k2⟩:=keepT J9
        exact ⟨ds.length - (i + 1),by omega,i + 1,σ8,G9,its,vs,m,done,ys',J9.unpinned,k1,k2,sG.trans (s7.trans (same8.trans same9)),(forget has8).same same9,rv,id1.same (s7.trans (same8.trans same9)),by omega,hlt,e7,e6,rfl⟩
      | true =>
        rw [if_pos rfl] at e7 ⊢
        obtain ⟨yd,e8,e9⟩:=bind_some e7
        obtain ⟨ys2,e10,e11⟩:=bind_some e9
        cases e11
        refine thn (he C s2 H2 fp _ s9 σ8 G9 (fun v H10=>Same G9 H10∧IsD X.K H10 yd v) J9 ⟨_,yd,has8.same same9,e8,fun v H10 s10 i10=>⟨s10,i10⟩⟩) fun u10 s10 ⟨v10,G10,J10,r10,same10,i10⟩=>?_
        obtain ⟨k1,k2⟩:=keepT J10
        have J11:Inv X' [(D,LObj its m)] σ8 G10 s10:=J10.unpinned
        have hpD:=J11.pin (D,LObj its m) (by simp)
        have hlen:its.length ≤ sizeLine:=by
          have h1:=rv.length
          have h2:=id1.length
          omega
        refine wpAny_list_append_plain (hsz:=by rw [List.size_toArray]; exact hlen) ⟨m,hpD.1⟩ fun h12 ⟨n12,hl12⟩ hs12=>?_
        have J12:=hDex X' rfl J11 (t':=s10.toks) (h':=h12) (its':=its++[u10]) (n':=n12) (fun b o hb e=>(hs12.2 b hb).trans e) (by rw [hl12]; simp [LObj])
        refine ⟨ds.length - (i + 1),by omega,i + 1,σ8,G10,its++[u10],vs++[v10],n12,done++[yd],ys2,J12,?_,k2,sG.trans (s7.trans (same8.trans (same9.trans same10))),(forget has8).same (same9.trans same10),rv.append (.cons r10 .nil),(id1.same (s7.trans (same8.trans (same9.trans same10)))).append (IsDs.cons i10 IsDs.nil),by simp; omega,hlt,e10,by simp [e6],rfl⟩
        exact T.keep _ _ _ k1 fun b hb o e=>(hs12.2 b (fpD b hb).1).trans e
    · -- the end
      have hiL:i=ds.length:=by omega
      subst hiL
      rw [List.drop_length] at e5
      cases e5
      rw [List.append_nil] at e6
      subst e6
      refine thn (T.done X' rfl rfl rfl rfl _ _ s' σ' G (fun _ _=>False) JJ (stat (by simp) fr) st w1) fun r s9 ⟨hr,J9⟩=>?_
      subst hr
      have hpD:=J9.pin (D,LObj its m) (by simp)
      obtain ⟨mC,hnC,_⟩:=J9.loc
      have hGD:G D=none:=hpD.2.1
      have hGC:G C=none:=J9.free
      have hok':HOk X.prog X.w (upd G D (.lst vs)) s9.heap:=fun a o e=>by
        by_cases ha:a=D
        · subst ha
          rw [upd_same] at e; cases e
          have h1:=rv.length
          have h2:=id1.length
          exact ⟨by omega,its,m,rv,hpD.1⟩
        · rw [upd_ne ha] at e
          exact (J9.hok a o e).stay (fun c w' hcc q=>q) (fun c q=>by rw [upd_ne (ne_of_none q hGD)]; exact q) fun c xs q=>by rw [upd_ne (ne_of_none q hGD)]; exact q
      have ne2:∀ b o,s2.heap.get? b=some o→b ≠ C∧b ≠ D:=fun b o e=>by
        have:=Heap.lt_size e
        exact ⟨Nat.ne_of_lt (Nat.lt_of_lt_of_le this hCle),Nat.ne_of_lt (hD ▸ this)⟩
      have un:Un (frs X.stack) fp H2 (upd G D (.lst vs)) s2.heap s9.heap:=by
        have B:=J9.base
        refine ⟨fun b o e n hb hx=>B.keep b o e n hb hx,fun b o e n hb hx=>B.slot b o e n hb hx,fun b o e n hx=>by rw [upd_ne (ne2 b o e).2]; exact B.free b o e n hx,fun b o e hx=>B.there b o e hx,fun b xs e=>by rw [upd_ne (ne_of_none (B.tups b xs e) hGD)]; exact B.tups b xs e,
          fun b o u e=>by rw [upd_ne (ne_of_none (B.frzs b o u e) hGD)]; exact B.frzs b o u e,fun b ps e=>?_⟩
        obtain ⟨mm,e1⟩:=B.tbls b ps e
        exact ⟨mm,by rw [upd_ne (ne_of_none e1 hGD)]; exact e1⟩
      have I9:Inv X pins σ (upd G D (.lst vs)) s9:=I2.call' (s':=s9) (ch:=fp) J9.os un hok' J9.bare (fun b hb=>by
        obtain ⟨f0,f1,f2',f3,f4,f5⟩:=f2 b hb
        exact ⟨f3,f1,f4,f5⟩)
      have hpn:∀ p∈X.pn++pins,p.1 ≠ C:=fun p hp=>(ne2 p.1 p.2 (I2.pin p hp).1).1
      have hCz:X.s₀.heap.objs.size ≤ C:=Nat.le_trans I2.sz hCle
      obtain ⟨oC,es,ep,hoC,rC⟩:=hnC
      have hCfs:C ∉ X.fs:=fun hb=>by
        have h1:=J9.ok.frf
        have:C∈frs X.stack:=by
          rcases I2.ok.stk with z | ⟨z,_⟩
          · rw [z]; exact hb
          · rw [z]
            obtain ⟨a,h1,h2⟩:=List.mem_filterMap.mp hb
            exact List.mem_filterMap.mpr ⟨a,List.mem_cons_of_mem _ h1,h2⟩
        obtain ⟨_,o,ho,_⟩:=I2.stack.mem this
        exact (ne2 C o ho).1 rfl
      have hCL:C ≠ X.env.locals:=fun z=>by
        obtain ⟨mL,hnL,_⟩:=I2.loc
        obtain ⟨oL,_,_,hoL,_⟩:=hnL
        exact (ne2 _ oL hoL).1 z.symm
      refine fin D C s9 _ oC mC (I9.pins_of fun p hp=>?_) ⟨oC,es,ep,hoC,rC⟩ hpn hCz (k _ _ (same2.trans (sG.trans (same_upd hGD))) (isD_newL hGD id1))
      rcases List.mem_cons.mp hp with z | z
      · subst z
        refine ⟨hoC,by rw [upd_ne (Ne.symm hDC)]; exact hGC,hCL,hCfs,fun v z=>?_⟩
        rw [rC.1] at z; cases z
      · exact I9.pin p (List.mem_append_right _ z)
  exact codeAny_compStart_list (loop _ rfl) (T.self X.A 0 _ _ _ st4 (loop _ rfl))
theorem PCm.pe {elt iter:Expr}{x:Str}{px pos:Pos}{ifs:List Expr}{scope:Scope}{t:TE} (h:PCm X (.ListComp elt [⟨.Name x px,iter,ifs,0⟩] scope pos) scope iter t) (S:ScopeIn scope x) (hcl:∀ p∈scope.names,p.2=.free→∃ c,X.env.cells.lookup p.1=some c)
    (hs:∀ x,foldedSetIterable iter X.env x=pure x:=by intro _; rfl):PE X (.ListComp elt [⟨.Name x px,iter,ifs,0⟩] scope pos) t:=by
  intro pins s σ H Q I hQ
  rw [eval_ListComp]
  refine wpAny_comprehension_free (use:=none) rfl hs (closureFor_of hcl) S.kind S.loc (h pins s σ H Q (compPost (model X.prog X.w) X.A X.xe none (EP X pins σ Q)) I hQ ?_)
  intro D C s9 H9 oC m I9 hn hp hz q
  exact ⟨m,hn,fun h' hs'=>⟨.ref D,H9,I9.drop_pin hp hz hs',rfl,q⟩⟩
theorem pd_comp {elt iter:Expr}{x:Str}{px pos:Pos}{ifs:List Expr}{scope:Scope}{caps:List (Nat × Str)}{q:Rho→Option (List PyData)}{g:Rho→Option Bool}{f:Rho→Option PyData}
    (hc:X.calm=true) (S:ScopeIn scope x) (hcl:∀ p∈scope.names,p.2=.free→∃ c,X.env.cells.lookup p.1=some c) (hcap:CapsOk X scope caps) (hnd:(x :: caps.map (·.2)).Nodup)
    (hi:PDI X (.Name x px) iter q)
    (ht:∀ C s H fp,PDTs (cxIn X scope C (x :: caps.map (·.2)) s H fp) ifs g)
    (he:∀ C s H fp,PD (cxIn X scope C (x :: caps.map (·.2)) s H fp) elt f)
    (hs:∀ x,foldedSetIterable iter X.env x=pure x:=by intro _; rfl):PD X (.ListComp elt [⟨.Name x px,iter,ifs,0⟩] scope pos) (dComp q caps g f) :=
  (pc_comp hc S hcl hcap hnd hi ht he).pe S hcl hs
theorem ps_comp {i:Nat}{y:Str}{py spos:Pos}{elt iter:Expr}{x:Str}{px pos:Pos}{ifs:List Expr}{scope:Scope}{t:TE} (h:PCm X (.ListComp elt [⟨.Name x px,iter,ifs,0⟩] scope pos) scope iter t) (S:ScopeIn scope x) (hcl:∀ p∈scope.names,p.2=.free→∃ c,X.env.cells.lookup p.1=some c)
    (hN:X.N.Nodup) (hi:X.N[i]?=some y) (hy:X.env.scope.names.lookup y=some .local) (hsw:swapsWith (.ListComp elt [⟨.Name x px,iter,ifs,0⟩] scope pos) (some (.Name y py)) spos.line X.env=pure true)
    (hs:∀ x,foldedSetIterable iter X.env x=pure x:=by intro _; rfl):PS X (.Assign [.Name y py] (.ListComp elt [⟨.Name x px,iter,ifs,0⟩] scope pos) spos) (tAsg t (gName i)):=by
  intro pins s σ H D I hQ
  rw [exec_Assign_Name_used _ _ _ _ hsw]
  refine wpAny_bind (wpAny_standAt (wpAny_bind ?_))
  show wpAny _ X.A (do let _ ← comprehension (.ListComp elt [⟨.Name x px,iter,ifs,0⟩] scope pos) scope X.env _ (newList []) false (eval iter X.env) (some (assign (.Name y py) X.env))) _ _ s
  refine wpAny_bind (wpAny_mono (wpAny_comprehension_free (use:=some (assign (.Name y py) X.env)) (Q:=fun _ s'=>SP X pins D .next s') rfl hs (closureFor_of hcl) S.kind S.loc
    (h pins s σ H _ (compPost (model X.prog X.w) X.A X.xe (some (assign (.Name y py) X.env)) (fun _ s'=>SP X pins D .next s')) I hQ ?_)) (fun _ s' hq=>wpAny_pure (wpAny_pure hq)) fun _ _ e=>e)
  intro Da C s9 H9 oC m I9 hn hp hz q
  show wpAny _ X.A (assign (.Name y py) X.env (.ref Da)) _ _ _
  refine wpAny_mono (pg_name hN hi (.inl hy) (.inr hy) _ s9 σ H9 (.ref Da) (.ref Da) (fun σ' H'=>D.nx σ' H') I9 rfl q) (fun _ s' ⟨σ',H',I',q'⟩=>?_) fun _ _ e=>e
  have hC':=I'.pin (C,oC) (by simp)
  have hC9:=I9.pin (C,oC) (by simp)
  refine ⟨m,hn.at' fun o e=>?_,fun h' hs'=>⟨σ',H',I'.drop_pin hp hz hs',q'⟩⟩
  rw [hC9.1] at e; cases e; exact hC'.1
end
end L2
end
section
set_option Elab.async false
set_option linter.all false
set_option maxRecDepth 100000
set_option maxHeartbeats 1000000
namespace L2
open PySem PySem.Spec PyProof.Rows
def frmO:HO→Prop
  | .lst _=>True
  | .dK _=>True
  | _=>False
def joinB (G:Hp):List (Addr × HO)→Hp
  | []=>G
  | (p,o) :: r=>upd (joinB G r) p o
inductive OkB:List (Addr × HO)→Prop
  | nil:OkB []
  | one {p:Addr}{o:HO}{r:List (Addr × HO)}:frmO o→OkB r→OkB ((p,o) :: r)
  | ins {p C dx:Addr}{fs:List (Str × V)}{r:List (Addr × HO)}:OkB r→OkB ((p,.ins C dx fs) :: (dx,.own p) :: r)
theorem OkB.append {A B:List (Addr × HO)} (h:OkB A) (h':OkB B):OkB (A++B):=by
  induction h with
  | nil=>exact h'
  | one f _ ih=>exact .one f ih
  | ins _ ih=>exact .ins ih
structure Frm (G:Hp) (B:List (Addr × HO)):Prop where
  nd:(B.map (·.1)).Nodup
  free:∀ x∈B,G x.1=none
  ok:OkB B
theorem Frm.nil {G:Hp}:Frm G []:=⟨List.nodup_nil,(fun x hx=>by cases hx),.nil⟩
theorem joinB_out {G:Hp}{a:Addr}:∀ {B:List (Addr × HO)},(∀ x∈B,x.1 ≠ a)→joinB G B a=G a
  | [],_=>rfl
  | (p,o) :: r,h=>by
    show upd (joinB G r) p o a=G a
    rw [upd_ne (Ne.symm (h (p,o) (by simp)))]
    exact joinB_out fun x hx=>h x (List.mem_cons_of_mem _ hx)
theorem joinB_in {G:Hp}:∀ {B:List (Addr × HO)},(B.map (·.1)).Nodup→∀ x∈B,joinB G B x.1=some x.2
  | [],_,_,h=>by cases h
  | (p,o) :: r,nd,x,hx=>by
    rw [List.map_cons,List.nodup_cons] at nd
    rcases List.mem_cons.mp hx with e | hx
    · subst e; exact upd_same
    · show upd (joinB G r) p o x.1=some x.2
      have hne:x.1 ≠ p:=fun e=>nd.1 (by rw [← e]; exact List.mem_map.mpr ⟨x,hx,rfl⟩)
      rw [upd_ne hne]
      exact joinB_in nd.2 x hx
theorem joinB_cases {a:Addr} (B:List (Addr × HO)):(∃ x∈B,x.1=a) ∨ (∀ x∈B,x.1 ≠ a):=by
  by_cases h:∃ x∈B,x.1=a
  · exact .inl h
  · exact .inr fun x hx e=>h ⟨x,hx,e⟩
theorem joinB_ext {H G:Hp}{B:List (Addr × HO)} (nd:(B.map (·.1)).Nodup) (h1:∀ x∈B,H x.1=some x.2) (h2:∀ a,(∀ x∈B,x.1 ≠ a)→H a=G a):H=joinB G B:=by
  funext a
  rcases joinB_cases (a:=a) B with ⟨x,hx,rfl⟩ | h
  · rw [h1 x hx,joinB_in nd x hx]
  · rw [h2 a h,joinB_out h]
theorem joinB_app (G:Hp):∀ (A B:List (Addr × HO)),joinB G (A++B)=joinB (joinB G B) A
  | [],_=>rfl
  | (p,o) :: r,B=>by
    show upd (joinB G (r++B)) p o=upd (joinB (joinB G B) r) p o
    rw [joinB_app G r B]
theorem joinB_perm {G:Hp}{A B:List (Addr × HO)} (nd:(A.map (·.1)).Nodup) (h:A.Perm B):joinB G A=joinB G B:=by
  have nd':(B.map (·.1)).Nodup:=(h.map (·.1)).nodup_iff.mp nd
  refine joinB_ext nd' (fun x hx=>joinB_in nd x (h.mem_iff.mpr hx)) fun a ha=>joinB_out fun x hx=>ha x (h.mem_iff.mp hx)
theorem Frm.same {G:Hp}{B:List (Addr × HO)} (f:Frm G B):Same G (joinB G B):=fun a o e=>by
  rw [joinB_out fun x hx z=>?_]
  · exact e
  · have:=f.free x hx
    rw [z,e] at this; cases this
theorem Frm.appL {G:Hp}{A B:List (Addr × HO)} (f:Frm G (A++B)) (hA:OkB A):Frm (joinB G B) A:=by
  have nd:=f.nd
  rw [List.map_append,List.nodup_append] at nd
  refine ⟨nd.1,fun x hx=>?_,hA⟩
  rw [joinB_out fun y hy z=>nd.2.2 _ (List.mem_map.mpr ⟨x,hx,rfl⟩) _ (List.mem_map.mpr ⟨y,hy,rfl⟩) z.symm]
  exact f.free x (List.mem_append_left _ hx)
theorem Frm.appR {G:Hp}{A B:List (Addr × HO)} (f:Frm G (A++B)) (hB:OkB B):Frm G B:=by
  have nd:=f.nd
  rw [List.map_append,List.nodup_append] at nd
  exact ⟨nd.2.1,fun x hx=>f.free x (List.mem_append_right _ hx),hB⟩
theorem Frm.join {G:Hp}{A B:List (Addr × HO)} (f:Frm G B) (g:Frm (joinB G B) A):Frm G (A++B):=by
  have d:∀ x∈A,∀ y∈B,x.1 ≠ y.1:=fun x hx y hy z=>by
    have h1:=g.free x hx
    rw [z,joinB_in f.nd y hy] at h1; cases h1
  refine ⟨?_,fun x hx=>?_,g.ok.append f.ok⟩
  · rw [List.map_append,List.nodup_append]
    refine ⟨g.nd,f.nd,fun a ha b hb z=>?_⟩
    obtain ⟨x,hx,rfl⟩:=List.mem_map.mp ha
    obtain ⟨y,hy,rfl⟩:=List.mem_map.mp hb
    exact d x hx y hy z
  · rcases List.mem_append.mp hx with h | h
    · have h1:=g.free x h
      rw [joinB_out fun y hy z=>d x h y hy z.symm] at h1
      exact h1
    · exact f.free x h
theorem Frm.perm {G:Hp}{A B:List (Addr × HO)} (f:Frm G A) (h:A.Perm B) (ok:OkB B):Frm G B :=
  ⟨(h.map (·.1)).nodup_iff.mp f.nd,fun x hx=>f.free x (h.mem_iff.mpr hx),ok⟩
section
variable {X:Cx}{pins:List (Addr × Obj)}{σ:St}{H:Hp}{s:Shared}{p:Addr}{o:HO}
theorem frm_obj (I:Inv X pins σ (upd H p o) s) (hf:frmO o):∃ ob,s.heap.get? p=some ob∧∀ v,ob.data ≠ .cell v:=by
  have h:=I.hok p o upd_same
  cases o with
  | lst xs=>obtain ⟨_,its,n,_,e⟩:=h; exact ⟨_,e,fun v z=>by have z':Data.seq its.toArray n=.cell v:=z; cases z'⟩
  | dK kvs=>obtain ⟨_,_,xs,_,ob,es,ep,e,_,ed,_⟩:=h; exact ⟨ob,e,fun v z=>by rw [ed] at z; cases z⟩
  | _=>exact hf.elim
theorem frm_move {P:Program}{w:World}{H H':Hp}{h h':Heap}{ob:Obj} (hf:frmO o) (x:ObjOk P w H h p o) (e:h.get? p=some ob) (e':h'.get? p=some ob):ObjOk P w H' h' p o:=by
  cases o with
  | lst xs =>
    obtain ⟨z,its,n,r,q⟩:=x
    rw [e] at q; cases q
    exact ⟨z,its,n,r,e'⟩
  | dK kvs =>
    obtain ⟨z,y,xs,r,ob',es,ep,q,c⟩:=x
    rw [e] at q; cases q
    exact ⟨z,y,xs,r,ob,es,ep,e',c⟩
  | _=>exact hf.elim
theorem hide1 (I:Inv X pins σ (upd H p o) s) (hn:H p=none) (hf:frmO o):∃ ob,Inv X (pins++[(p,ob)]) σ H s ∧
    ∀ (G:Hp) (s':Shared) (σ':St),Inv X (pins++[(p,ob)]) σ' G s'→G p=none∧Inv X pins σ' (upd G p o) s':=by
  obtain ⟨ob,hob,hcell⟩:=frm_obj I hf
  have nt:∀ b u,H b=some u→b ≠ p:=fun b u e=>ne_of_none e hn
  have un:∀ b,upd H p o b=none→b ≠ p∧H b=none:=fun b e=>by
    have hb:b ≠ p:=fun z=>by rw [z,upd_same] at e; cases e
    rw [upd_ne hb] at e
    exact ⟨hb,e⟩
  have bk:∀ b u,upd H p o b=some u→u ≠ o→H b=some u:=fun b u e hu=>by
    by_cases hb:b=p
    · rw [hb,upd_same] at e; cases e; exact absurd rfl hu
    · rw [upd_ne hb] at e; exact e
  have ntup:∀ xs,(HO.tup xs) ≠ o:=fun xs e=>by rw [← e] at hf; exact hf
  have nfrz:∀ q u,(HO.frz q u) ≠ o:=fun q u e=>by rw [← e] at hf; exact hf
  have ntbl:∀ ps,(HO.tbl ps) ≠ o:=fun ps e=>by rw [← e] at hf; exact hf
  have nown:∀ a,(HO.own a) ≠ o:=fun a e=>by rw [← e] at hf; exact hf
  have hL:p ≠ X.env.locals:=fun z=>by
    have:=I.free
    rw [← z,upd_same] at this; cases this
  have hfs:p ∉ X.fs:=fun hb=>by
    obtain ⟨_,q,hq,_⟩:=I.ok.funs.mem hb
    have:=I.base.free p q hq (I.ok.frf p hb) fun z=>I.ok.exfs p z hb
    rw [upd_same] at this; cases this
  have hpn:∀ q∈X.pn++pins,q.1 ≠ p:=fun q hq=>(un q.1 (I.pin q hq).2.1).1
  have h0:∀ q,X.s₀.heap.get? p=some q→X.H₀ p=none→p∈X.ex:=fun q hq hn0=>by
    by_cases hx:p∈X.ex
    · exact hx
    · have:=I.base.free p q hq hn0 hx
      rw [upd_same] at this; cases this
  refine ⟨ob,?_,?_⟩
  · refine ⟨I.ok,I.os,I.bare,⟨I.base.keep,I.base.slot,fun b q e n hx=>(un b (I.base.free b q e n hx)).2,I.base.there,fun b xs e=>bk b _ (I.base.tups b xs e) (ntup xs),fun b q u e=>bk b _ (I.base.frzs b q u e) (nfrz q u),fun b ps e=>?_⟩,I.loc,I.cell,(un _ I.free).2,fun x c e=>(un c (I.freeC x c e)).2,fun q hq=>?_,fun a u e=>?_,I.len⟩
    · obtain ⟨m,e1⟩:=I.base.tbls b ps e
      exact ⟨m,bk b _ e1 (ntbl _)⟩
    · rcases List.mem_append.mp hq with h | h
      · obtain ⟨a1,a2,a3⟩:=I.pin q (List.mem_append_left _ h)
        exact ⟨a1,(un _ a2).2,a3⟩
      · rcases List.mem_append.mp h with h | h
        · obtain ⟨a1,a2,a3⟩:=I.pin q (List.mem_append_right _ h)
          exact ⟨a1,(un _ a2).2,a3⟩
        · have:q=(p,ob):=by simpa using h
          subst this
          exact ⟨hob,hn,hL,hfs,hcell⟩
    · have ha:=nt a u e
      exact (I.hok a u (by rw [upd_ne ha]; exact e)).stay (fun _ _ _ q=>q) (fun b q=>bk b _ q (nown a)) fun b xs q=>bk b _ q (ntup xs)
  · intro G s' σ' J
    have hp:=J.pin (p,ob) (List.mem_append_right _ (List.mem_append_right _ (by simp)))
    have hGn:G p=none:=hp.2.1
    have nG:∀ b u,G b=some u→upd G p o b=some u:=fun b u e=>by rw [upd_ne (ne_of_none e hGn)]; exact e
    refine ⟨hGn,⟨J.ok,J.os,J.bare,⟨J.base.keep,J.base.slot,fun b q e n hx=>?_,J.base.there,fun b xs e=>nG b _ (J.base.tups b xs e),fun b q u e=>nG b _ (J.base.frzs b q u e),fun b ps e=>?_⟩,J.loc,J.cell,?_,fun x c e=>?_,fun q hq=>?_,fun a u e=>?_,J.len⟩⟩
    · have hb:b ≠ p:=fun z=>by subst z; exact hx (h0 q e n)
      rw [upd_ne hb]
      exact J.base.free b q e n hx
    · obtain ⟨m,e1⟩:=J.base.tbls b ps e
      exact ⟨m,nG b _ e1⟩
    · rw [upd_ne (Ne.symm hL)]; exact J.free
    · have hc:c ≠ p:=fun z=>by
        obtain ⟨v,q,hq,hd⟩:=J.cell x c e
        rw [z] at hq
        have hp1:s'.heap.get? p=some ob:=hp.1
        rw [hp1] at hq; cases hq
        exact hcell v hd
      rw [upd_ne hc]; exact J.freeC x c e
    · have hq':q∈X.pn++(pins++[(p,ob)]):=by
        rcases List.mem_append.mp hq with h | h
        · exact List.mem_append_left _ h
        · exact List.mem_append_right _ (List.mem_append_left _ h)
      obtain ⟨a1,a2,a3⟩:=J.pin q hq'
      exact ⟨a1,by rw [upd_ne (hpn q hq)]; exact a2,a3⟩
    · by_cases ha:a=p
      · subst ha
        rw [upd_same] at e; cases e
        exact frm_move hf (I.hok a o upd_same) hob hp.1
      · rw [upd_ne ha] at e
        exact (J.hok a u e).stay (fun _ _ _ q=>q) (fun b q=>nG b _ q) fun b xs q=>nG b _ q
theorem hide2 {C dx:Addr}{fs:List (Str × V)} (I:Inv X pins σ (upd (upd H dx (.own p)) p (.ins C dx fs)) s) (hn:H p=none) (hnd:H dx=none) (hne:dx ≠ p):∃ ob od,Inv X (pins++[(p,ob),(dx,od)]) σ H s ∧
    ∀ (G:Hp) (s':Shared) (σ':St),Inv X (pins++[(p,ob),(dx,od)]) σ' G s'→G p=none∧G dx=none∧Inv X pins σ' (upd (upd G dx (.own p)) p (.ins C dx fs)) s':=by
  obtain ⟨z1,z2,z3,hob,mA,ns,rl,wi⟩:=(show ObjOk X.prog X.w (upd (upd H dx (.own p)) p (.ins C dx fs)) s.heap p (.ins C dx fs) from I.hok p _ upd_same)
  obtain ⟨od,es,ep,hod,hdd,hrest⟩:=id ns
  have hcell:∀ v,(W.instObj C dx).data ≠ .cell v:=fun v z=>by cases z
  have hcell2:∀ v,od.data ≠ .cell v:=fun v z=>by
    first
    | (rw [hdd] at z; cases z)
    | (rw [hdd.2.2] at z; cases z)
    | (rw [hrest.1] at z; cases z)
  have atd:∀ (F:Hp),upd (upd F dx (.own p)) p (.ins C dx fs) dx=some (.own p):=fun F=>by rw [upd_ne hne,upd_same]
  have un:∀ b,upd (upd H dx (.own p)) p (.ins C dx fs) b=none→b ≠ p∧b ≠ dx∧H b=none:=fun b e=>by
    have hb:b ≠ p:=fun z=>by rw [z,upd_same] at e; cases e
    rw [upd_ne hb] at e
    have hb2:b ≠ dx:=fun z=>by rw [z,upd_same] at e; cases e
    rw [upd_ne hb2] at e
    exact ⟨hb,hb2,e⟩
  have nG:∀ (G:Hp),G p=none→G dx=none→∀ b u,G b=some u→upd (upd G dx (.own p)) p (.ins C dx fs) b=some u:=fun G g1 g2 b u e=>by
    rw [upd_ne (ne_of_none e g1),upd_ne (ne_of_none e g2)]; exact e
  have bk:∀ (G:Hp) b u,upd (upd G dx (.own p)) p (.ins C dx fs) b=some u→u ≠ .ins C dx fs→u ≠ .own p→G b=some u:=fun G b u e hu hu2=>by
    by_cases hb:b=p
    · rw [hb,upd_same] at e; cases e; exact absurd rfl hu
    · rw [upd_ne hb] at e
      by_cases hb2:b=dx
      · rw [hb2,upd_same] at e; cases e; exact absurd rfl hu2
      · rw [upd_ne hb2] at e; exact e
  have hL:p ≠ X.env.locals:=fun z=>by
    have:=I.free
    rw [← z,upd_same] at this; cases this
  have hL2:dx ≠ X.env.locals:=fun z=>by
    have:=I.free
    rw [← z,atd] at this; cases this
  have hfs:p ∉ X.fs:=fun hb=>by
    obtain ⟨_,q,hq,_⟩:=I.ok.funs.mem hb
    have:=I.base.free p q hq (I.ok.frf p hb) fun z=>I.ok.exfs p z hb
    rw [upd_same] at this; cases this
  have hfs2:dx ∉ X.fs:=fun hb=>by
    obtain ⟨_,q,hq,_⟩:=I.ok.funs.mem hb
    have:=I.base.free dx q hq (I.ok.frf dx hb) fun z=>I.ok.exfs dx z hb
    rw [atd] at this; cases this
  have hpn:∀ q∈X.pn++pins,q.1 ≠ p∧q.1 ≠ dx:=fun q hq=>let z:=un q.1 (I.pin q hq).2.1; ⟨z.1,z.2.1⟩
  have h0:∀ q,X.s₀.heap.get? p=some q→X.H₀ p=none→p∈X.ex:=fun q hq hn0=>by
    by_cases hx:p∈X.ex
    · exact hx
    · have:=I.base.free p q hq hn0 hx
      rw [upd_same] at this; cases this
  have h02:∀ q,X.s₀.heap.get? dx=some q→X.H₀ dx=none→dx∈X.ex:=fun q hq hn0=>by
    by_cases hx:dx∈X.ex
    · exact hx
    · have:=I.base.free dx q hq hn0 hx
      rw [atd] at this; cases this
  refine ⟨W.instObj C dx,od,?_,?_⟩
  · refine ⟨I.ok,I.os,I.bare,⟨I.base.keep,I.base.slot,fun b q e n hx=>(un b (I.base.free b q e n hx)).2.2,I.base.there,fun b xs e=>bk H b _ (I.base.tups b xs e) (fun z=>nomatch z) (fun z=>nomatch z),fun b q u e=>bk H b _ (I.base.frzs b q u e) (fun z=>nomatch z) (fun z=>nomatch z),fun b ps e=>?_⟩,I.loc,I.cell,(un _ I.free).2.2,fun x c e=>(un c (I.freeC x c e)).2.2,fun q hq=>?_,fun a u e=>?_,I.len⟩
    · obtain ⟨m,e1⟩:=I.base.tbls b ps e
      exact ⟨m,bk H b _ e1 (fun z=>nomatch z) (fun z=>nomatch z)⟩
    · rcases List.mem_append.mp hq with h | h
      · obtain ⟨a1,a2,a3⟩:=I.pin q (List.mem_append_left _ h)
        exact ⟨a1,(un _ a2).2.2,a3⟩
      · rcases List.mem_append.mp h with h | h
        · obtain ⟨a1,a2,a3⟩:=I.pin q (List.mem_append_right _ h)
          exact ⟨a1,(un _ a2).2.2,a3⟩
        · rcases List.mem_cons.mp h with h | h
          · subst h
            exact ⟨hob,hn,hL,hfs,hcell⟩
          · have:q=(dx,od):=by simpa using h
            subst this
            exact ⟨hod,hnd,hL2,hfs2,hcell2⟩
    · have ha:a ≠ p:=ne_of_none e hn
      refine (I.hok a u (nG H hn hnd a u e)).stay (fun _ _ _ q=>q) (fun b q=>bk H b _ q (fun z=>nomatch z) (fun z=>ha (by cases z; rfl))) fun b xs q=>bk H b _ q (fun z=>nomatch z) (fun z=>nomatch z)
  · intro G s' σ' J
    have hp:=J.pin (p,W.instObj C dx) (List.mem_append_right _ (List.mem_append_right _ (by simp)))
    have hp2:=J.pin (dx,od) (List.mem_append_right _ (List.mem_append_right _ (by simp)))
    have hGn:G p=none:=hp.2.1
    have hGd:G dx=none:=hp2.2.1
    have hod':s'.heap.get? dx=some od:=hp2.1
    have hob':s'.heap.get? p=some (W.instObj C dx):=hp.1
    have mG:=nG G hGn hGd
    refine ⟨hGn,hGd,⟨J.ok,J.os,J.bare,⟨J.base.keep,J.base.slot,fun b q e n hx=>?_,J.base.there,fun b xs e=>mG b _ (J.base.tups b xs e),fun b q u e=>mG b _ (J.base.frzs b q u e),fun b ps e=>?_⟩,J.loc,J.cell,?_,fun x c e=>?_,fun q hq=>?_,fun a u e=>?_,J.len⟩⟩
    · have hb:b ≠ p:=fun z=>by subst z; exact hx (h0 q e n)
      have hb2:b ≠ dx:=fun z=>by subst z; exact hx (h02 q e n)
      rw [upd_ne hb,upd_ne hb2]
      exact J.base.free b q e n hx
    · obtain ⟨m,e1⟩:=J.base.tbls b ps e
      exact ⟨m,mG b _ e1⟩
    · rw [upd_ne (Ne.symm hL),upd_ne (Ne.symm hL2)]; exact J.free
    · have hc:c ≠ p:=fun z=>by
        obtain ⟨v,q,hq,hd⟩:=J.cell x c e
        rw [z,hob'] at hq; cases hq
        exact hcell v hd
      have hc2:c ≠ dx:=fun z=>by
        obtain ⟨v,q,hq,hd⟩:=J.cell x c e
        rw [z,hod'] at hq; cases hq
        exact hcell2 v hd
      rw [upd_ne hc,upd_ne hc2]; exact J.freeC x c e
    · have hq':q∈X.pn++(pins++[(p,W.instObj C dx),(dx,od)]):=by
        rcases List.mem_append.mp hq with h | h
        · exact List.mem_append_left _ h
        · exact List.mem_append_right _ (List.mem_append_left _ h)
      obtain ⟨a1,a2,a3⟩:=J.pin q hq'
      exact ⟨a1,by rw [upd_ne (hpn q hq).1,upd_ne (hpn q hq).2]; exact a2,a3⟩
    · by_cases ha:a=p
      · subst ha
        rw [upd_same] at e; cases e
        exact ⟨atd G,z2,z3,hob',mA,ns.at fun o q=>by rw [hod] at q; cases q; exact hod',rl,wi⟩
      · rw [upd_ne ha] at e
        by_cases ha2:a=dx
        · subst ha2
          rw [upd_same] at e; cases e
          exact ⟨od,hod'⟩
        · rw [upd_ne ha2] at e
          exact (J.hok a u e).stay (fun _ _ _ q=>q) (fun b q=>mG b _ q) fun b xs q=>mG b _ q
theorem hideB {B:List (Addr × HO)} (ok:OkB B):∀ {pins:List (Addr × Obj)}{G:Hp}{σ:St}{s:Shared},Inv X pins σ (joinB G B) s→Frm G B→∃ PB,Inv X (pins++PB) σ G s∧(∀ q∈PB,∃ x∈B,q.1=x.1)∧(∀ x∈B,∃ q∈PB,q.1=x.1) ∧
    ∀ (G':Hp) (s':Shared) (σ':St),Inv X (pins++PB) σ' G' s'→Frm G' B∧Inv X pins σ' (joinB G' B) s':=by
  induction ok with
  | nil=>exact fun I f=>⟨[],by rw [List.append_nil]; exact I,(fun q hq=>by cases hq),(fun x hx=>by cases hx),fun G' s' σ' J=>⟨Frm.nil,by rw [List.append_nil] at J; exact J⟩⟩
  | @one p o r hf okr ih =>
    intro pins G σ s I f
    have nd:=List.nodup_cons.mp (show (p :: r.map (·.1)).Nodup from f.nd)
    have fr:Frm G r:=⟨nd.2,fun y hy=>f.free y (List.mem_cons_of_mem _ hy),okr⟩
    have hpr:∀ x∈r,x.1 ≠ p:=fun x hx e=>nd.1 (List.mem_map.mpr ⟨x,hx,e⟩)
    have hpn:joinB G r p=none:=by rw [joinB_out hpr]; exact f.free (p,o) (by simp)
    obtain ⟨ob,I1,back⟩:=hide1 (H:=joinB G r) I hpn hf
    obtain ⟨PB,I2,m1,m2,back2⟩:=ih I1 fr
    refine ⟨(p,ob) :: PB,by simpa using I2,fun q hq=>?_,fun x hx=>?_,fun G' s' σ' J=>?_⟩
    · rcases List.mem_cons.mp hq with e | h
      · exact ⟨(p,o),by simp,by rw [e]⟩
      · obtain ⟨x,hx,e⟩:=m1 q h
        exact ⟨x,List.mem_cons_of_mem _ hx,e⟩
    · rcases List.mem_cons.mp hx with e | h
      · exact ⟨(p,ob),by simp,by rw [e]⟩
      · obtain ⟨q,hq,e⟩:=m2 x h
        exact ⟨q,List.mem_cons_of_mem _ hq,e⟩
    · obtain ⟨f2,J2⟩:=back2 G' s' σ' (by simpa using J)
      obtain ⟨hn2,J3⟩:=back (joinB G' r) s' σ' J2
      have hG'p:G' p=none:=by rw [joinB_out hpr] at hn2; exact hn2
      refine ⟨⟨f.nd,fun x hx=>?_,f.ok⟩,J3⟩
      rcases List.mem_cons.mp hx with e | h
      · rw [e]; exact hG'p
      · exact f2.free x h
  | @ins p C dx fs r okr ih =>
    intro pins G σ s I f
    have nd:=List.nodup_cons.mp (show (p :: dx :: r.map (·.1)).Nodup from f.nd)
    have nd2:=List.nodup_cons.mp nd.2
    have fr:Frm G r:=⟨nd2.2,fun y hy=>f.free y (List.mem_cons_of_mem _ (List.mem_cons_of_mem _ hy)),okr⟩
    have hne:dx ≠ p:=fun z=>nd.1 (by rw [← z]; simp)
    have hpr:∀ x∈r,x.1 ≠ p:=fun x hx e=>nd.1 (List.mem_cons_of_mem _ (List.mem_map.mpr ⟨x,hx,e⟩))
    have hdr:∀ x∈r,x.1 ≠ dx:=fun x hx e=>nd2.1 (List.mem_map.mpr ⟨x,hx,e⟩)
    have hpn:joinB G r p=none:=by rw [joinB_out hpr]; exact f.free (p,.ins C dx fs) (by simp)
    have hdn:joinB G r dx=none:=by rw [joinB_out hdr]; exact f.free (dx,.own p) (by simp)
    obtain ⟨ob,od,I1,back⟩:=hide2 (H:=joinB G r) I hpn hdn hne
    obtain ⟨PB,I2,m1,m2,back2⟩:=ih I1 fr
    refine ⟨(p,ob) :: (dx,od) :: PB,by simpa using I2,fun q hq=>?_,fun x hx=>?_,fun G' s' σ' J=>?_⟩
    · rcases List.mem_cons.mp hq with e | h
      · exact ⟨(p,.ins C dx fs),by simp,by rw [e]⟩
      · rcases List.mem_cons.mp h with e | h
        · exact ⟨(dx,.own p),by simp,by rw [e]⟩
        · obtain ⟨x,hx,e⟩:=m1 q h
          exact ⟨x,List.mem_cons_of_mem _ (List.mem_cons_of_mem _ hx),e⟩
    · rcases List.mem_cons.mp hx with e | h
      · exact ⟨(p,ob),by simp,by rw [e]⟩
      · rcases List.mem_cons.mp h with e | h
        · exact ⟨(dx,od),by simp,by rw [e]⟩
        · obtain ⟨q,hq,e⟩:=m2 x h
          exact ⟨q,List.mem_cons_of_mem _ (List.mem_cons_of_mem _ hq),e⟩
    · obtain ⟨f2,J2⟩:=back2 G' s' σ' (by simpa using J)
      obtain ⟨hn2,hd2,J3⟩:=back (joinB G' r) s' σ' J2
      have hG'p:G' p=none:=by rw [joinB_out hpr] at hn2; exact hn2
      have hG'd:G' dx=none:=by rw [joinB_out hdr] at hd2; exact hd2
      refine ⟨⟨f.nd,fun x hx=>?_,f.ok⟩,J3⟩
      rcases List.mem_cons.mp hx with e | h
      · rw [e]; exact hG'p
      · rcases List.mem_cons.mp h with e | h
        · rw [e]; exact hG'd
        · exact f2.free x h
theorem PE.frame {e:Expr}{t:TE} (h:PE X e t):PE X e (fun σ H Q=>∃ G B,H=joinB G B∧Frm G B∧t σ G fun v G'=>Frm G' B→Q v (joinB G' B)):=by
  intro pins s σ H Q I ⟨G,B,eH,f,ht⟩
  subst eH
  obtain ⟨PB,I1,_,_,back⟩:=hideB f.ok I f
  refine thn (h _ s σ G _ I1 ht) fun v s' ⟨x,G',J,r,q⟩=>?_
  obtain ⟨f',J'⟩:=back G' s' σ J
  exact ⟨x,joinB G' B,J',r,q f'⟩
theorem PI.frame {tg iter:Expr}{t:TI} (h:PI X tg iter t):PI X tg iter (fun σ H R=>∃ G B,H=joinB G B∧Frm G B∧t σ G fun J G'=>Frm G' B→R J (joinB G' B)):=by
  intro pins s σ H R I ⟨G,B,eH,f,ht⟩
  subst eH
  obtain ⟨PB,I1,m1,m2,back⟩:=hideB f.ok I f
  refine thn (h _ s σ G _ I1 ht) fun v s1 h1=>thn h1 fun itv s2 ⟨it,fp,tn,J,G',e,I2,T,st,hf,q⟩=>?_
  obtain ⟨f',J'⟩:=back G' s2 σ I2
  refine ⟨it,fp,tn,J,joinB G' B,e,J',T,st,fun b hb=>?_,q f'⟩
  obtain ⟨f0,f1,f2,f3,f4,f5⟩:=hf b hb
  refine ⟨?_,f1,f2,f3,f4,fun p hp=>f5 p ?_⟩
  · rw [joinB_out fun x hx z=>?_]
    · exact f0
    · obtain ⟨q',hq',e'⟩:=m2 x hx
      exact f5 q' (List.mem_append_right _ (List.mem_append_right _ hq')) (e'.trans z)
  · rcases List.mem_append.mp hp with h | h
    · exact List.mem_append_left _ h
    · exact List.mem_append_right _ (List.mem_append_left _ h)
theorem PA.frame {es:List Expr}{t:TA} (h:PA X es t):PA X es (fun σ H Q=>∃ G B,H=joinB G B∧Frm G B∧t σ G fun vs G'=>Frm G' B→Q vs (joinB G' B)):=by
  intro pos pins s σ H Q I ⟨G,B,eH,f,ht⟩
  subst eH
  obtain ⟨PB,I1,_,_,back⟩:=hideB f.ok I f
  refine thn (h pos _ s σ G _ I1 ht) fun us s' ⟨xs,G',J,r,q⟩=>?_
  obtain ⟨f',J'⟩:=back G' s' σ J
  exact ⟨xs,joinB G' B,J',r,q f'⟩
end
end L2
end
section
set_option Elab.async false
set_option linter.all false
set_option maxRecDepth 100000
set_option maxHeartbeats 1000000
namespace L2
open PySem PySem.Spec PyProof.Rows
def getF (f:Str):List (PyData × PyData)→Option PyData
  | []=>none
  | (.str g,d) :: r=>if g=f then some d else getF f r
  | _ :: r=>getF f r
def setF (f:Str) (y:PyData):List (PyData × PyData)→List (PyData × PyData)
  | []=>[(.str f,y)]
  | (.str g,d) :: r=>if g=f then (.str g,y) :: r else (.str g,d) :: setF f y r
  | x :: r=>x :: setF f y r
section
variable {K:W.Frag}{G H:Hp}
theorem IsFV.get {f:Str}{d:PyData}:∀ {r:List (PyData × PyData)}{fs:List (Str × V)},IsFV K H r fs→getF f r=some d→∃ v,fs.lookup f=some v∧IsD K H d v
  | [],_,_,e=>by cases e
  | (k,x) :: r,_,h,e=>by
    obtain ⟨y,v,r',rfl,rfl,i,t⟩:=IsFV.cons_iff.mp h
    by_cases q:y=f
    · simp only [getF,if_pos q] at e; cases e
      exact ⟨v,by rw [List.lookup_cons,beq_iff_eq.mpr q.symm],i⟩
    · simp only [getF,if_neg q] at e
      obtain ⟨u,a,b⟩:=IsFV.get t e
      exact ⟨u,by rw [List.lookup_cons,beq_eq_false_iff_ne.mpr (fun z=>q z.symm)]; exact a,b⟩
theorem IsFV.none {f:Str}:∀ {r:List (PyData × PyData)}{fs:List (Str × V)},IsFV K H r fs→getF f r=.none→fs.lookup f=.none
  | [],_,h,e=>by rw [IsFV.nil_iff.mp h]; rfl
  | (k,x) :: r,_,h,e=>by
    obtain ⟨y,v,r',rfl,rfl,i,t⟩:=IsFV.cons_iff.mp h
    by_cases q:y=f
    · simp only [getF,if_pos q] at e; cases e
    · simp only [getF,if_neg q] at e
      rw [List.lookup_cons,beq_eq_false_iff_ne.mpr (fun z=>q z.symm)]
      exact IsFV.none t e
def ownFld (c f:Str):Bool:=c == "Reading" && (f == "fields" || f == "heads" || f == "blocks" || f == "later")
def OwnC (K:W.Frag) (G:Hp) (d:PyData) (q:Addr) (o:HO):Prop :=
  (∃ ds vs,d=.list ds∧o=.lst vs∧IsDs K G ds vs) ∨ ∃ kvs kv,d=.dict kvs∧o=.dK kv∧IsKV K G kvs kv
def OwnF (K:W.Frag) (G:Hp) (c:Str):List (PyData × PyData)→List (Str × V)→List (Addr × HO)→Prop
  | [],fs,B=>fs=[]∧B=[]
  | (k,d) :: r,fs,B=>∃ y v fs',fs=(y,v) :: fs'∧k=.str y∧((ownFld c y=false∧IsD K G d v∧OwnF K G c r fs' B) ∨ (ownFld c y=true∧∃ q o B',v=.ref q∧B=(q,o) :: B'∧OwnC K G d q o∧OwnF K G c r fs' B'))
def OwnT (K:W.Frag) (G:Hp) (d:PyData) (v:V) (B:List (Addr × HO)):Prop :=
  (∃ q o,v=.ref q∧B=[(q,o)]∧OwnC K G d q o) ∨
  ∃ c C p dx fs r B',d=.dict ((.none,.str c) :: r)∧v=.ref p∧B=(p,.ins C dx fs) :: (dx,.own p) :: B'∧ClsAt K c C∧OwnF K G c r fs B'
theorem OwnC.same {G':Hp}{d:PyData}{q:Addr}{o:HO} (h:OwnC K G d q o) (e:Same G G'):OwnC K G' d q o:=by
  rcases h with ⟨ds,vs,a,b,c⟩ | ⟨kvs,kv,a,b,c⟩
  · exact .inl ⟨ds,vs,a,b,c.same e⟩
  · exact .inr ⟨kvs,kv,a,b,c.same e⟩
theorem OwnC.frm {d:PyData}{q:Addr}{o:HO} (h:OwnC K G d q o):frmO o:=by
  rcases h with ⟨ds,vs,a,b,c⟩ | ⟨kvs,kv,a,b,c⟩ <;> subst b <;> exact True.intro
theorem OwnC.isD {d:PyData}{o:HO}{p:Addr} (h:OwnC K G d p o) (e:Same G H) (hp:H p=some o):IsD K H d (.ref p):=by
  rcases h with ⟨ds,vs,rfl,rfl,c⟩ | ⟨kvs,kv,rfl,rfl,c⟩
  · exact IsD.list_iff.mpr ⟨p,vs,rfl,SqL.of hp,c.same e⟩
  · exact IsD.dict_iff.mpr ⟨p,rfl,.inl ⟨kv,hp,c.same e⟩⟩
theorem OwnF.same {c:Str}{G':Hp} (e:Same G G'):∀ {r:List (PyData × PyData)}{fs:List (Str × V)}{B:List (Addr × HO)},OwnF K G c r fs B→OwnF K G' c r fs B
  | [],_,_,h=>h
  | (k,d) :: r,_,_,h=>by
    obtain ⟨y,v,fs',e1,e2,⟨e3,e4,e5⟩ | ⟨e3,q,o,B',e4,e5,e6,e7⟩⟩:=h
    · exact ⟨y,v,fs',e1,e2,.inl ⟨e3,e4.same e,OwnF.same e e5⟩⟩
    · exact ⟨y,v,fs',e1,e2,.inr ⟨e3,q,o,B',e4,e5,e6.same e,OwnF.same e e7⟩⟩
theorem OwnF.okB {c:Str}:∀ {r:List (PyData × PyData)}{fs:List (Str × V)}{B:List (Addr × HO)},OwnF K G c r fs B→OkB B
  | [],_,_,h=>by rw [h.2]; exact .nil
  | (k,d) :: r,_,_,h=>by
    obtain ⟨y,v,fs',e1,e2,⟨e3,e4,e5⟩ | ⟨e3,q,o,B',e4,e5,e6,e7⟩⟩:=h
    · exact OwnF.okB e5
    · rw [e5]; exact .one e6.frm (OwnF.okB e7)
theorem OwnF.isFV {c:Str} (e:Same G H):∀ {r:List (PyData × PyData)}{fs:List (Str × V)}{B:List (Addr × HO)},OwnF K G c r fs B→(∀ x∈B,H x.1=some x.2)→IsFV K H r fs
  | [],_,_,h,_=>by rw [h.1]; exact IsFV.nil_iff.mpr rfl
  | (k,d) :: r,_,_,h,hB=>by
    obtain ⟨y,v,fs',e1,e2,⟨e3,e4,e5⟩ | ⟨e3,q,o,B',e4,e5,e6,e7⟩⟩:=h
    · exact IsFV.cons_iff.mpr ⟨y,v,fs',e1,e2,e4.same e,OwnF.isFV e e5 hB⟩
    · subst e5 e4
      exact IsFV.cons_iff.mpr ⟨y,_,fs',e1,e2,e6.isD e (hB (q,o) (by simp)),OwnF.isFV e e7 fun x hx=>hB x (List.mem_cons_of_mem _ hx)⟩
theorem OwnT.same {G':Hp}{d:PyData}{v:V}{B:List (Addr × HO)} (h:OwnT K G d v B) (e:Same G G'):OwnT K G' d v B:=by
  rcases h with ⟨q,o,a,b,c⟩ | ⟨c,C,p,dx,fs,r,B',a1,a2,a3,a4,a5⟩
  · exact .inl ⟨q,o,a,b,c.same e⟩
  · exact .inr ⟨c,C,p,dx,fs,r,B',a1,a2,a3,a4,a5.same e⟩
theorem OwnT.okB {d:PyData}{v:V}{B:List (Addr × HO)} (h:OwnT K G d v B):OkB B:=by
  rcases h with ⟨q,o,a,b,c⟩ | ⟨c,C,p,dx,fs,r,B',a1,a2,a3,a4,a5⟩
  · rw [b]; exact .one c.frm .nil
  · rw [a3]; exact .ins a5.okB
theorem OwnT.isD {d:PyData}{v:V}{B:List (Addr × HO)} (h:OwnT K G d v B) (e:Same G H) (hB:∀ x∈B,H x.1=some x.2):IsD K H d v:=by
  rcases h with ⟨q,o,rfl,rfl,c⟩ | ⟨c,C,p,dx,fs,r,B',rfl,rfl,rfl,a4,a5⟩
  · exact c.isD e (hB (q,o) (by simp))
  · exact IsD.dict_iff.mpr ⟨p,rfl,.inr ⟨c,C,dx,fs,a4,hB (p,.ins C dx fs) (by simp),IsIV.cons_iff.mpr ⟨rfl,rfl,a5.isFV e fun x hx=>hB x (by simp [hx])⟩⟩⟩
theorem OwnF.split {c y:Str}{d:PyData} (hy:ownFld c y=true):∀ {r:List (PyData × PyData)}{fs:List (Str × V)}{B:List (Addr × HO)},OwnF K G c r fs B→getF y r=some d →
    ∃ q o Bl Br,fs.lookup y=some (.ref q)∧B=Bl++(q,o) :: Br∧OwnC K G d q o∧∀ d' o',OwnC K G d' q o'→OwnF K G c (setF y d' r) fs (Bl++(q,o') :: Br)
  | [],_,_,_,e=>by cases e
  | (k,x) :: r,_,B,h,e=>by
    obtain ⟨z,v,fs',e1,e2,h⟩:=h
    subst e1 e2
    by_cases q:z=y
    · subst q
      simp only [getF,if_true] at e; cases e
      rcases h with ⟨e3,_⟩ | ⟨e3,q,o,B',e4,e5,e6,e7⟩
      · rw [hy] at e3; cases e3
      · subst e4 e5
        refine ⟨q,o,[],B',by rw [List.lookup_cons,beq_iff_eq.mpr rfl],rfl,e6,fun d' o' h'=>?_⟩
        simp only [setF,if_true]
        exact ⟨z,_,fs',rfl,rfl,.inr ⟨e3,q,o',B',rfl,rfl,h',e7⟩⟩
    · simp only [getF,if_neg q] at e
      rcases h with ⟨e3,e4,e5⟩ | ⟨e3,q',o,B',e4,e5,e6,e7⟩
      · obtain ⟨p,o,Bl,Br,a1,a2,a3,a4⟩:=OwnF.split hy e5 e
        refine ⟨p,o,Bl,Br,by rw [List.lookup_cons,beq_eq_false_iff_ne.mpr (fun z=>q z.symm)]; exact a1,a2,a3,fun d' o' h'=>?_⟩
        simp only [setF,if_neg q]
        exact ⟨z,v,fs',rfl,rfl,.inl ⟨e3,e4,a4 d' o' h'⟩⟩
      · subst e4 e5
        obtain ⟨p,o2,Bl,Br,a1,a2,a3,a4⟩:=OwnF.split hy e7 e
        refine ⟨p,o2,(q',o) :: Bl,Br,by rw [List.lookup_cons,beq_eq_false_iff_ne.mpr (fun z=>q z.symm)]; exact a1,by rw [a2]; rfl,a3,fun d' o' h'=>?_⟩
        simp only [setF,if_neg q]
        exact ⟨z,_,fs',rfl,rfl,.inr ⟨e3,q',o,Bl++(p,o') :: Br,rfl,rfl,e6,a4 d' o' h'⟩⟩
theorem OwnF.put {c y:Str}{d:PyData}{v:V} (hy:ownFld c y=false) (i:IsD K G d v):∀ {r:List (PyData × PyData)}{fs:List (Str × V)}{B:List (Addr × HO)},OwnF K G c r fs B→OwnF K G c (setF y d r) (putF y v fs) B
  | [],_,_,h=>by
    obtain ⟨rfl,rfl⟩:=h
    exact ⟨y,v,[],rfl,rfl,.inl ⟨hy,i,rfl,rfl⟩⟩
  | (k,x) :: r,_,_,h=>by
    obtain ⟨z,u,fs',e1,e2,h⟩:=h
    subst e1 e2
    by_cases q:z=y
    · subst q
      simp only [setF,putF,if_true]
      rcases h with ⟨e3,e4,e5⟩ | ⟨e3,_⟩
      · exact ⟨z,v,fs',rfl,rfl,.inl ⟨hy,i,e5⟩⟩
      · rw [hy] at e3; cases e3
    · simp only [setF,putF,if_neg q]
      rcases h with ⟨e3,e4,e5⟩ | ⟨e3,q',o,B',e4,e5,e6,e7⟩
      · exact ⟨z,u,_,rfl,rfl,.inl ⟨e3,e4,OwnF.put hy i e5⟩⟩
      · exact ⟨z,u,_,rfl,rfl,.inr ⟨e3,q',o,B',e4,e5,e6,OwnF.put hy i e7⟩⟩
theorem OwnF.add {c y:Str}{d:PyData}{q:Addr}{o:HO} (hy:ownFld c y=true) (i:OwnC K G d q o):∀ {r:List (PyData × PyData)}{fs:List (Str × V)}{B:List (Addr × HO)},OwnF K G c r fs B→getF y r=none →
    OwnF K G c (setF y d r) (putF y (.ref q) fs) (B++[(q,o)])
  | [],_,_,h,_=>by
    obtain ⟨rfl,rfl⟩:=h
    exact ⟨y,_,[],rfl,rfl,.inr ⟨hy,q,o,[],rfl,rfl,i,rfl,rfl⟩⟩
  | (k,x) :: r,_,_,h,e=>by
    obtain ⟨z,u,fs',e1,e2,h⟩:=h
    subst e1 e2
    by_cases hq:z=y
    · simp only [getF,if_pos hq] at e; cases e
    · simp only [getF,if_neg hq] at e
      simp only [setF,putF,if_neg hq]
      rcases h with ⟨e3,e4,e5⟩ | ⟨e3,q',o',B',e4,e5,e6,e7⟩
      · exact ⟨z,u,_,rfl,rfl,.inl ⟨e3,e4,OwnF.add hy i e5 e⟩⟩
      · subst e5
        exact ⟨z,u,_,rfl,rfl,.inr ⟨e3,q',o',B'++[(q,o)],e4,rfl,e6,OwnF.add hy i e7 e⟩⟩
theorem OwnF.len {c:Str}:∀ {r:List (PyData × PyData)}{fs:List (Str × V)}{B:List (Addr × HO)},OwnF K G c r fs B→fs.length=r.length
  | [],_,_,h=>by rw [h.1]; rfl
  | (k,d) :: r,_,_,h=>by
    obtain ⟨y,v,fs',e1,e2,⟨e3,e4,e5⟩ | ⟨e3,q,o,B',e4,e5,e6,e7⟩⟩:=h
    · rw [e1,List.length_cons,List.length_cons,OwnF.len e5]
    · rw [e1,List.length_cons,List.length_cons,OwnF.len e7]
end
def OwnL (K:W.Frag) (σ:St) (ρ:Rho) (G:Hp):List Nat→List (Addr × HO)→Prop
  | [],B=>B=[]
  | i :: O,B=>((ρ[i]?).join=none∧OwnL K σ ρ G O B) ∨ ∃ d v B1 B2,ρ[i]?=some (some d)∧σ[i]?=some (some v)∧B=B1++B2∧OwnT K G d v B1∧OwnL K σ ρ G O B2
structure HasO (O:List Nat) (K:W.Frag) (σ:St) (ρ:Rho) (H G:Hp):Prop where
  len:σ.length=ρ.length
  ex:∃ B,H=joinB G B∧Frm G B∧OwnL K σ ρ G O B
  non:∀ (i:Nat) (d:PyData),ρ[i]?=some (some d)→i ∉ O→∃ v,σ[i]?=some (some v)∧IsD K G d v
theorem join_some {α:Type}{l:List (Option α)}{i:Nat}{d:α} (h:(l[i]?).join=some d):l[i]?=some (some d):=by
  cases q:l[i]? with
  | none=>rw [q] at h; cases h
  | some o=>rw [q] at h; cases o with
    | none=>cases h
    | some v'=>cases h; rfl
section
variable {K:W.Frag}{σ:St}{ρ:Rho}{G H:Hp}
theorem OwnL.same {G':Hp} (e:Same G G'):∀ {O:List Nat}{B:List (Addr × HO)},OwnL K σ ρ G O B→OwnL K σ ρ G' O B
  | [],_,h=>h
  | _ :: _,_,h=>by
    rcases h with ⟨a,b⟩ | ⟨d,v,B1,B2,a,b,c,q,t⟩
    · exact .inl ⟨a,OwnL.same e b⟩
    · exact .inr ⟨d,v,B1,B2,a,b,c,q.same e,OwnL.same e t⟩
theorem OwnL.okB:∀ {O:List Nat}{B:List (Addr × HO)},OwnL K σ ρ G O B→OkB B
  | [],_,h=>by rw [show _=[] from h]; exact .nil
  | _ :: _,_,h=>by
    rcases h with ⟨a,b⟩ | ⟨d,v,B1,B2,a,b,rfl,q,t⟩
    · exact OwnL.okB b
    · exact q.okB.append (OwnL.okB t)
theorem OwnL.other {σ':St}{ρ':Rho}:∀ {O:List Nat}{B:List (Addr × HO)},OwnL K σ ρ G O B→(∀ i∈O,ρ'[i]?=ρ[i]?∧σ'[i]?=σ[i]?)→OwnL K σ' ρ' G O B
  | [],_,h,_=>h
  | j :: O,_,h,k=>by
    obtain ⟨k1,k2⟩:=k j (by simp)
    have k':∀ i∈O,ρ'[i]?=ρ[i]?∧σ'[i]?=σ[i]?:=fun i hi=>k i (List.mem_cons_of_mem _ hi)
    rcases h with ⟨a,b⟩ | ⟨d,v,B1,B2,a,b,c,q,t⟩
    · exact .inl ⟨by rw [k1]; exact a,b.other k'⟩
    · exact .inr ⟨d,v,B1,B2,by rw [k1]; exact a,by rw [k2]; exact b,c,q,t.other k'⟩
theorem OwnL.split {i:Nat}{d:PyData}:∀ {O:List Nat}{B:List (Addr × HO)},O.Nodup→OwnL K σ ρ G O B→i∈O→ρ[i]?=some (some d) →
    ∃ v Bl B1 Br,σ[i]?=some (some v)∧B=Bl++(B1++Br)∧OwnT K G d v B1∧OkB Bl∧OkB Br ∧
      (∀ G' d' B1',Same G G'→OwnT K G' d' v B1'→OwnL K σ (ρ.set i (some d')) G' O (Bl++(B1'++Br)))∧OwnL K σ (ρ.set i none) G O (Bl++Br)
  | [],_,_,_,hi,_=>by cases hi
  | j :: O,B,ndO,h,hi,hd=>by
    have ndO':=List.nodup_cons.mp ndO
    have hl:i < ρ.length:=(List.getElem?_eq_some_iff.mp hd).1
    by_cases hji:j=i
    · subst hji
      have oth:∀ x:Option PyData,∀ k∈O,(ρ.set j x)[k]?=ρ[k]?∧σ[k]?=σ[k]?:=fun x k hk=>by
        have:j ≠ k:=fun z=>ndO'.1 (z ▸ hk)
        exact ⟨List.getElem?_set_ne this,rfl⟩
      rcases h with ⟨a,b⟩ | ⟨d',v,B1,B2,a,b,c,q,t⟩
      · rw [hd] at a; cases a
      · rw [hd] at a; cases a
        refine ⟨v,[],B1,B2,b,c,q,.nil,t.okB,fun G' d' B1' sG ot=>.inr ⟨d',v,B1',B2,List.getElem?_set_self hl,b,rfl,ot,(t.same sG).other (oth _)⟩,.inl ⟨by rw [List.getElem?_set_self hl]; rfl,t.other (oth _)⟩⟩
    · have hi':=(List.mem_cons.mp hi).resolve_left (Ne.symm hji)
      have hne:∀ x:Option PyData,(ρ.set i x)[j]?=ρ[j]?:=fun x=>List.getElem?_set_ne (Ne.symm hji)
      rcases h with ⟨a,b⟩ | ⟨d',v,B1,B2,a,b,c,q,t⟩
      · obtain ⟨v,Bl,B1,Br,e1,e2,e3,e4,e5,e6,e7⟩:=OwnL.split ndO'.2 b hi' hd
        exact ⟨v,Bl,B1,Br,e1,e2,e3,e4,e5,fun G' d' B1' sG ot=>.inl ⟨by rw [hne]; exact a,e6 G' d' B1' sG ot⟩,.inl ⟨by rw [hne]; exact a,e7⟩⟩
      · obtain ⟨v',Bl,B1',Br,e1,e2,e3,e4,e5,e6,e7⟩:=OwnL.split ndO'.2 t hi' hd
        refine ⟨v',B1++Bl,B1',Br,e1,by rw [c,e2]; simp,e3,q.okB.append e4,e5,fun G' d' B1' sG ot=>.inr ⟨_,v,B1,_,by rw [hne]; exact a,b,by simp,q.same sG,e6 G' d' B1' sG ot⟩,.inr ⟨_,v,B1,_,by rw [hne]; exact a,b,by simp,q,e7⟩⟩
theorem HasO.sub {O:List Nat} (h:HasO O K σ ρ H G):Same G H:=by
  obtain ⟨B,rfl,f,own⟩:=h.ex
  exact f.same
theorem OwnL.at:∀ {O:List Nat}{B:List (Addr × HO)},OwnL K σ ρ G O B→∀ {i:Nat}{d:PyData},i∈O→ρ[i]?=some (some d)→∃ v B1,(∀ x∈B1,x∈B)∧σ[i]?=some (some v)∧OwnT K G d v B1
  | [],_,_,_,_,hi,_=>by cases hi
  | j :: O,_,h,i,d,hi,hd=>by
    rcases h with ⟨a,b⟩ | ⟨d',v,B1,B2,a,b,c,q,t⟩
    · rcases List.mem_cons.mp hi with e | hi
      · subst e; rw [hd] at a; cases a
      · exact OwnL.at b hi hd
    · rcases List.mem_cons.mp hi with e | hi
      · subst e; rw [hd] at a; cases a
        exact ⟨v,B1,fun x hx=>by rw [c]; exact List.mem_append_left _ hx,b,q⟩
      · obtain ⟨v',B1',m,r⟩:=OwnL.at t hi hd
        exact ⟨v',B1',fun x hx=>by rw [c]; exact List.mem_append_right _ (m x hx),r⟩
theorem HasO.full {O:List Nat} (h:HasO O K σ ρ H G):HasD K H σ ρ:=by
  obtain ⟨B,rfl,f,own⟩:=h.ex
  refine ⟨h.len,fun i d q=>?_⟩
  by_cases hi:i∈O
  · obtain ⟨v,B1,m,e,ot⟩:=own.at hi q
    exact ⟨v,e,ot.isD f.same fun x hx=>joinB_in f.nd x (m x hx)⟩
  · obtain ⟨v,e1,e2⟩:=h.non i d q hi
    exact ⟨v,e1,e2.same f.same⟩
def eraseO:List Nat→Rho→Rho
  | [],ρ=>ρ
  | i :: O,ρ=>(eraseO O ρ).set i none
theorem eraseO_len:∀ (O:List Nat) (ρ:Rho),(eraseO O ρ).length=ρ.length
  | [],_=>rfl
  | i :: O,ρ=>by rw [eraseO,List.length_set]; exact eraseO_len O ρ
theorem eraseO_get:∀ {O:List Nat}{ρ:Rho}{j:Nat}{d:PyData},(eraseO O ρ)[j]?=some (some d)→j ∉ O∧ρ[j]?=some (some d)
  | [],_,_,_,h=>⟨by simp,h⟩
  | i :: O,ρ,j,d,h=>by
    unfold eraseO at h
    by_cases hj:j=i
    · subst hj
      by_cases hl:j < (eraseO O ρ).length
      · rw [List.getElem?_set_self hl] at h; cases h
      · rw [List.getElem?_eq_none (by simpa using hl)] at h; cases h
    · rw [List.getElem?_set_ne (Ne.symm hj)] at h
      obtain ⟨a,b⟩:=eraseO_get h
      exact ⟨by simp [hj,a],b⟩
theorem HasO.rest {O:List Nat} (h:HasO O K σ ρ H G):HasD K G σ (eraseO O ρ):=by
  refine ⟨by rw [eraseO_len]; exact h.len,fun i d q=>?_⟩
  obtain ⟨a,b⟩:=eraseO_get q
  exact h.non i d b a
theorem HasO.grow {O:List Nat}{H':Hp} (h:HasO O K σ ρ H G) (e:Same H H'):∃ G',Same G G'∧(∀ a,H a=none→G' a=H' a)∧HasO O K σ ρ H' G':=by
  obtain ⟨B,rfl,f,own⟩:=h.ex
  have hB:∀ x∈B,H' x.1=some x.2:=fun x hx=>e _ _ (joinB_in f.nd x hx)
  let G':Hp:=fun a=>if (∃ x∈B,x.1=a) then none else H' a
  have g1:∀ a,(∀ x∈B,x.1 ≠ a)→G' a=H' a:=fun a ha=>if_neg fun ⟨x,hx,z⟩=>ha x hx z
  have g2:∀ x∈B,G' x.1=none:=fun x hx=>if_pos ⟨x,hx,rfl⟩
  have sG:Same G G':=fun a o q=>by
    have ha:∀ x∈B,x.1 ≠ a:=fun x hx z=>by
      have:=f.free x hx
      rw [z,q] at this; cases this
    rw [g1 a ha]
    exact e _ _ (by rw [joinB_out ha]; exact q)
  refine ⟨G',sG,fun a ha=>g1 a fun x hx z=>?_,h.len,⟨B,joinB_ext f.nd hB fun a ha=>(g1 a ha).symm,⟨f.nd,g2,f.ok⟩,own.same sG⟩,fun i d q hi=>?_⟩
  · have:=joinB_in (G:=G) f.nd x hx
    rw [z,ha] at this; cases this
  obtain ⟨v,e1,e2⟩:=h.non i d q hi
  exact ⟨v,e1,e2.same sG⟩
theorem HasO.framed {O:List Nat}{B:List (Addr × HO)}{G':Hp} (hl:σ.length=ρ.length) (own:OwnL K σ ρ G O B) (non:∀ (i:Nat) (d:PyData),ρ[i]?=some (some d)→i ∉ O→∃ v,σ[i]?=some (some v)∧IsD K G d v)
    (sG:Same G G') (f:Frm G' B):HasO O K σ ρ (joinB G' B) G' :=
  ⟨hl,⟨B,rfl,f,own.same sG⟩,fun i d q hi=>let ⟨v,a,b⟩:=non i d q hi; ⟨v,a,b.same sG⟩⟩
theorem HasO.set {O:List Nat}{i:Nat}{d:PyData}{v:V} (h:HasO O K σ ρ H G) (hi:i ∉ O) (e:IsD K G d v):HasO O K (σ.set i (some v)) (ρ.set i (some d)) H G:=by
  obtain ⟨B,eH,f,own⟩:=h.ex
  refine ⟨by simpa using h.len,⟨B,eH,f,own.other fun j hj=>?_⟩,fun j d' q hj=>?_⟩
  · have hji:i ≠ j:=fun z=>hi (z ▸ hj)
    exact ⟨List.getElem?_set_ne hji,List.getElem?_set_ne hji⟩
  · by_cases hji:j=i
    · subst hji
      have hl:j < ρ.length:=by
        have:=(List.getElem?_eq_some_iff.mp q).1
        simpa using this
      rw [List.getElem?_set_self hl] at q
      cases q
      exact ⟨v,by rw [List.getElem?_set_self (by rw [h.len]; exact hl)],e⟩
    · rw [List.getElem?_set_ne (Ne.symm hji)] at q
      obtain ⟨u,a,b⟩:=h.non j d' q hj
      exact ⟨u,by rw [List.getElem?_set_ne (Ne.symm hji)]; exact a,b⟩
theorem HasO.own {O:List Nat} (ndO:O.Nodup) (h:HasO O K σ ρ H G) {i:Nat}{d:PyData} (hi:i∈O) (hd:ρ[i]?=some (some d)) :
    ∃ v Bl B1 Br,σ[i]?=some (some v)∧H=joinB G (Bl++(B1++Br))∧Frm G (Bl++(B1++Br))∧OwnT K G d v B1∧OkB Bl∧OkB Br ∧
      (∀ G' d' B1',Same G G'→OwnT K G' d' v B1'→Frm G' (Bl++(B1'++Br))→HasO O K σ (ρ.set i (some d')) (joinB G' (Bl++(B1'++Br))) G') ∧
      (∀ G',Same G G'→Frm G' (Bl++Br)→HasO O K σ (ρ.set i none) (joinB G' (Bl++Br)) G'):=by
  obtain ⟨B,rfl,f,own⟩:=h.ex
  obtain ⟨v,Bl,B1,Br,e1,rfl,e3,e4,e5,e6,e7⟩:=own.split ndO hi hd
  have non:∀ (x:Option PyData) (G':Hp),Same G G'→∀ (j:Nat) (d2:PyData),(ρ.set i x)[j]?=some (some d2)→j ∉ O→∃ v,σ[j]?=some (some v)∧IsD K G' d2 v:=fun x G' sG j d2 q hj=>by
    have hji:j ≠ i:=fun z=>hj (z ▸ hi)
    rw [List.getElem?_set_ne (Ne.symm hji)] at q
    obtain ⟨v,a,b⟩:=h.non j d2 q hj
    exact ⟨v,a,b.same sG⟩
  exact ⟨v,Bl,B1,Br,e1,rfl,f,e3,e4,e5,fun G' d' B1' sG ot fm=>⟨by simpa using h.len,⟨_,rfl,fm,e6 G' d' B1' sG ot⟩,non _ G' sG⟩,
    fun G' sG fm=>⟨by simpa using h.len,⟨_,rfl,fm,e7.same sG⟩,non _ G' sG⟩⟩
theorem joinB_put {G:Hp}{q:Addr}{o o':HO}{Bl Br:List (Addr × HO)} (nd:((Bl++(q,o) :: Br).map (·.1)).Nodup):L2.upd (joinB G (Bl++(q,o) :: Br)) q o'=joinB G (Bl++(q,o') :: Br):=by
  have nd':((Bl++(q,o') :: Br).map (·.1)).Nodup:=by simpa using nd
  refine joinB_ext nd' (fun x hx=>?_) fun a ha=>?_
  · by_cases hx1:x.1=q
    · have a1:=joinB_in (G:=G) nd' x hx
      have a2:=joinB_in (G:=G) nd' (q,o') (by simp)
      rw [hx1] at a1
      rw [hx1,upd_same,← a1,a2]
    · rw [upd_ne hx1]
      refine joinB_in nd x ?_
      rcases List.mem_append.mp hx with h | h
      · exact List.mem_append_left _ h
      · rcases List.mem_cons.mp h with e | h
        · rw [e] at hx1; exact absurd rfl hx1
        · exact List.mem_append_right _ (List.mem_cons_of_mem _ h)
  · have hq:a ≠ q:=fun z=>ha (q,o') (by simp) z.symm
    rw [upd_ne hq]
    refine joinB_out fun x hx=>?_
    rcases List.mem_append.mp hx with h | h
    · exact ha x (List.mem_append_left _ h)
    · rcases List.mem_cons.mp h with e | h
      · rw [e]; exact Ne.symm hq
      · exact ha x (List.mem_append_right _ (List.mem_cons_of_mem _ h))
theorem Frm.put {G:Hp}{q:Addr}{o o':HO}{Bl Br:List (Addr × HO)} (f:Frm G (Bl++(q,o) :: Br)) (ok:OkB (Bl++(q,o') :: Br)):Frm G (Bl++(q,o') :: Br):=by
  refine ⟨by simpa using f.nd,fun x hx=>?_,ok⟩
  rcases List.mem_append.mp hx with h | h
  · exact f.free x (List.mem_append_left _ h)
  · rcases List.mem_cons.mp h with e | h
    · rw [e]; exact f.free (q,o) (by simp)
    · exact f.free x (List.mem_append_right _ (List.mem_cons_of_mem _ h))
theorem HasO.drop {O:List Nat} (ndO:O.Nodup) (h:HasO O K σ ρ H G) {i:Nat} (hi:i∈O):∃ G',Same G G'∧HasO O K σ (ρ.set i none) H G':=by
  cases hd:(ρ[i]?).join with
  | none =>
    refine ⟨G,.refl G,?_⟩
    obtain ⟨B,eH,f,own⟩:=h.ex
    have heq:∀ j d,(ρ.set i none)[j]?=some (some d)→ρ[j]?=some (some d):=fun j d q=>by
      by_cases hji:j=i
      · subst hji
        by_cases hl:j < ρ.length
        · rw [List.getElem?_set_self hl] at q; cases q
        · rw [List.getElem?_eq_none (by simpa using hl)] at q; cases q
      · rw [List.getElem?_set_ne (Ne.symm hji)] at q; exact q
    refine ⟨by simpa using h.len,⟨B,eH,f,?_⟩,fun j d q hj=>h.non j d (heq j d q) hj⟩
    have key:∀ {O':List Nat}{B:List (Addr × HO)},OwnL K σ ρ G O' B→OwnL K σ (ρ.set i none) G O' B:=by
      intro O'
      induction O' with
      | nil=>exact fun h=>h
      | cons j O' ih =>
        intro B h
        rcases h with ⟨a,b⟩ | ⟨d,v,B1,B2,a,b,c,q,t⟩
        · refine .inl ⟨?_,ih b⟩
          cases q:((ρ.set i none)[j]?).join with
          | none=>rfl
          | some d=>rw [heq j d (join_some q)] at a; cases a
        · refine .inr ⟨d,v,B1,B2,?_,b,c,q,ih t⟩
          have hji:j ≠ i:=fun z=>by subst z; rw [a] at hd; cases hd
          rw [List.getElem?_set_ne (Ne.symm hji)]; exact a
    exact key own
  | some d =>
    obtain ⟨v,Bl,B1,Br,e1,e2,f,ot,k1,k2,_,cl⟩:=h.own ndO hi (join_some hd)
    have perm:(Bl++(B1++Br)).Perm ((Bl++Br)++B1):=by
      rw [List.append_assoc]
      exact List.Perm.append_left _ List.perm_append_comm
    have f2:Frm G ((Bl++Br)++B1):=f.perm perm ((k1.append k2).append ot.okB)
    have eH:H=joinB (joinB G B1) (Bl++Br):=by rw [e2,joinB_perm f.nd perm,joinB_app]
    have sG:Same G (joinB G B1):=(f2.appR ot.okB).same
    refine ⟨joinB G B1,sG,?_⟩
    rw [eH]
    exact cl _ sG (f2.appL (k1.append k2))
theorem OwnL.ins {i:Nat}{d':PyData}{v:V}{B1:List (Addr × HO)}:∀ {O:List Nat}{B:List (Addr × HO)},O.Nodup→OwnL K σ ρ G O B→i∈O→i < ρ.length→i < σ.length→(ρ[i]?).join=none→OwnT K G d' v B1 →
    ∃ B',OwnL K (σ.set i (some v)) (ρ.set i (some d')) G O B'∧B'.Perm (B1++B)
  | [],_,_,_,hi,_,_,_,_=>by cases hi
  | j :: O,B,ndO,h,hi,hl,hl2,hn,ob=>by
    have ndO':=List.nodup_cons.mp ndO
    by_cases hji:j=i
    · subst hji
      have oth:∀ k∈O,(ρ.set j (some d'))[k]?=ρ[k]?∧(σ.set j (some v))[k]?=σ[k]?:=fun k hk=>by
        have:j ≠ k:=fun z=>ndO'.1 (z ▸ hk)
        exact ⟨List.getElem?_set_ne this,List.getElem?_set_ne this⟩
      rcases h with ⟨a,b⟩ | ⟨d,u,Ba,Bb,a,c,rfl,ob1,t⟩
      · exact ⟨B1++B,.inr ⟨d',v,B1,B,List.getElem?_set_self hl,List.getElem?_set_self hl2,rfl,ob,b.other oth⟩,List.Perm.refl _⟩
      · rw [a] at hn; cases hn
    · have hi':=(List.mem_cons.mp hi).resolve_left (Ne.symm hji)
      rcases h with ⟨a,b⟩ | ⟨d,u,Ba,Bb,a,c,rfl,ob1,t⟩
      · obtain ⟨B',e1,e2⟩:=OwnL.ins ndO'.2 b hi' hl hl2 hn ob
        exact ⟨B',.inl ⟨by rw [List.getElem?_set_ne (Ne.symm hji)]; exact a,e1⟩,e2⟩
      · obtain ⟨B',e1,e2⟩:=OwnL.ins ndO'.2 t hi' hl hl2 hn ob
        refine ⟨Ba++B',.inr ⟨d,u,Ba,B',by rw [List.getElem?_set_ne (Ne.symm hji)]; exact a,by rw [List.getElem?_set_ne (Ne.symm hji)]; exact c,rfl,ob1,e1⟩,(e2.append_left _).trans ?_⟩
        rw [← List.append_assoc,← List.append_assoc]
        exact List.Perm.append_right _ List.perm_append_comm
theorem HasO.new {O:List Nat} (ndO:O.Nodup) (h:HasO O K σ ρ H G) {i:Nat}{d':PyData}{v:V}{B1:List (Addr × HO)} (hi:i∈O) (hl:i < ρ.length) (ob:OwnT K G d' v B1) (f1:Frm H B1) :
    ∃ G',Same G G'∧HasO O K (σ.set i (some v)) (ρ.set i (some d')) (joinB H B1) G':=by
  obtain ⟨G1,s1,h1⟩:=h.drop ndO hi
  obtain ⟨B,eH,f,own⟩:=h1.ex
  have hl1:i < (ρ.set i none).length:=by simpa using hl
  obtain ⟨B',e1,e2⟩:=own.ins ndO hi hl1 (by rw [h1.len]; exact hl1) (by rw [List.getElem?_set_self hl]; rfl) (ob.same s1)
  rw [List.set_set] at e1
  subst eH
  have f2:Frm G1 (B1++B):=f.join f1
  have f3:Frm G1 B':=f2.perm e2.symm e1.okB
  refine ⟨G1,s1,by simpa using h.len,⟨B',?_,f3,e1⟩,fun j d q hj=>?_⟩
  · rw [joinB_perm f3.nd e2,joinB_app]
  · have hji:j ≠ i:=fun z=>hj (z ▸ hi)
    rw [List.getElem?_set_ne (Ne.symm hji)] at q
    obtain ⟨v,a,b⟩:=h1.non j d (by rw [List.getElem?_set_ne (Ne.symm hji)]; exact q) hj
    exact ⟨v,by rw [List.getElem?_set_ne (Ne.symm hji)]; exact a,b⟩
end
end L2
end
section
set_option Elab.async false
set_option linter.all false
set_option maxRecDepth 100000
set_option maxHeartbeats 1000000
namespace L2
open PySem PySem.Spec PyProof.Rows
def keyEq:PyData→PyData→Bool
  | .int a,.int b=>decide (a=b)
  | .str a,.str b=>decide (a=b)
  | _,_=>false
theorem keyEq_keyD (a b:Key):keyEq (keyD a) (keyD b)=decide (a=b):=by
  cases a <;> cases b <;> simp [keyD,keyEq]
def dKey:PyData→Option Key
  | .int i=>some (.inl i)
  | .str x=>some (.inr x)
  | _=>none
theorem dKey_some {d:PyData}{k:Key} (h:dKey d=some k):d=keyD k:=by
  cases d <;> simp [dKey] at h <;> subst h <;> rfl
theorem isD_keyD {K:W.Frag}{H:Hp}{k:Key}{v:V} (h:IsD K H (keyD k) v):v=kV k:=by
  cases k with
  | inl i=>exact IsD.int_iff.mp h
  | inr x=>exact IsD.str_iff.mp h
def getK (k:PyData):List (PyData × PyData)→Option PyData
  | []=>none
  | (y,d) :: r=>if keyEq y k=true then some d else getK k r
def putD (k v:PyData) (kvs:List (PyData × PyData)):List (PyData × PyData) :=
  if (kvs.any fun x=>keyEq x.1 k)=true then kvs.map (fun x=>if keyEq x.1 k=true then (x.1,v) else x) else kvs++[(k,v)]
def isInst:List (PyData × PyData)→Bool
  | (.none,_) :: _=>true
  | _=>false
section
variable {K:W.Frag}{H:Hp}
theorem IsD.dk_of {kvs:List (PyData × PyData)}{v:V} (h:IsD K H (.dict kvs) v) (hi:isInst kvs=false):∃ p kv,v=.ref p∧H p=some (.dK kv)∧IsKV K H kvs kv:=by
  obtain ⟨p,e1,⟨kv,e2,e3⟩ | ⟨c,C,dx,fs,e2,e3,e4⟩⟩:=IsD.dict_iff.mp h
  · exact ⟨p,kv,e1,e2,e3⟩
  · cases kvs with
    | nil=>exact (IsIV.nil_iff.mp e4).elim
    | cons x r =>
      obtain ⟨k,d⟩:=x
      obtain ⟨rfl,_,_⟩:=IsIV.cons_iff.mp e4
      cases hi
theorem IsD.ins_of {c:Str}{r:List (PyData × PyData)}{v:V} (h:IsD K H (.dict ((.none,.str c) :: r)) v):∃ p C dx fs,v=.ref p∧ClsAt K c C∧H p=some (.ins C dx fs)∧IsFV K H r fs:=by
  obtain ⟨p,e1,⟨kv,e2,e3⟩ | ⟨c',C,dx,fs,e2,e3,e4⟩⟩:=IsD.dict_iff.mp h
  · obtain ⟨y,_,_,_,e,_⟩:=IsKV.cons_iff.mp e3
    cases y <;> cases e
  · obtain ⟨_,e5,e6⟩:=IsIV.cons_iff.mp e4
    cases e5
    exact ⟨p,C,dx,fs,e1,e2,e3,e6⟩
theorem IsKV.val {y:Key}:∀ {kvs:List (PyData × PyData)}{kv:List (Key × V)},IsKV K H kvs kv →
    (getK (keyD y) kvs=none∧valV kv y=none) ∨ ∃ d v,getK (keyD y) kvs=some d∧valV kv y=some v∧IsD K H d v
  | [],_,h=>by rw [IsKV.nil_iff.mp h]; exact .inl ⟨rfl,rfl⟩
  | (k,d) :: r,_,h=>by
    obtain ⟨z,v,r',rfl,rfl,i,t⟩:=IsKV.cons_iff.mp h
    by_cases e:z=y
    · right
      exact ⟨d,v,by simp [getK,keyEq_keyD,e],valV_pos e,i⟩
    · rcases IsKV.val (y:=y) t with ⟨a,b⟩ | ⟨d',v',a,b,c⟩
      · exact .inl ⟨by simp [getK,keyEq_keyD,e,a],by rw [valV_neg (p:=(z,v)) e]; exact b⟩
      · exact .inr ⟨d',v',by simp [getK,keyEq_keyD,e,a],by rw [valV_neg (p:=(z,v)) e]; exact b,c⟩
theorem IsKV.any {y:Key}:∀ {kvs:List (PyData × PyData)}{kv:List (Key × V)},IsKV K H kvs kv→(kv.any fun x=>decide (x.1=y))=kvs.any fun x=>keyEq x.1 (keyD y)
  | [],_,h=>by rw [IsKV.nil_iff.mp h]; rfl
  | (k,d) :: r,_,h=>by
    obtain ⟨z,v,r',rfl,rfl,i,t⟩:=IsKV.cons_iff.mp h
    rw [List.any_cons,List.any_cons,IsKV.any t,keyEq_keyD]
theorem IsKV.repl {y:Key}{d:PyData}{v:V} (i:IsD K H d v):∀ {kvs:List (PyData × PyData)}{kv:List (Key × V)},IsKV K H kvs kv →
    IsKV K H (kvs.map fun x=>if keyEq x.1 (keyD y)=true then (x.1,d) else x) (kv.map fun x=>if x.1=y then (x.1,v) else x)
  | [],_,h=>by rw [IsKV.nil_iff.mp h]; exact IsKV.nil_iff.mpr rfl
  | (k',d') :: r,_,h=>by
    obtain ⟨z,v',r',rfl,rfl,i',t⟩:=IsKV.cons_iff.mp h
    rw [List.map_cons,List.map_cons,keyEq_keyD]
    by_cases e:z=y
    · rw [if_pos e,if_pos (decide_eq_true e)]; exact IsKV.cons_iff.mpr ⟨_,_,_,rfl,rfl,i,IsKV.repl i t⟩
    · rw [if_neg e,if_neg (by simp [e])]; exact IsKV.cons_iff.mpr ⟨_,_,_,rfl,rfl,i',IsKV.repl i t⟩
theorem IsKV.snoc {y:Key}{d:PyData}{v:V} (i:IsD K H d v):∀ {kvs:List (PyData × PyData)}{kv:List (Key × V)},IsKV K H kvs kv→IsKV K H (kvs++[(keyD y,d)]) (kv++[(y,v)])
  | [],_,h=>by rw [IsKV.nil_iff.mp h]; exact IsKV.cons_iff.mpr ⟨_,_,_,rfl,rfl,i,IsKV.nil_iff.mpr rfl⟩
  | (k',d') :: r,_,h=>by
    obtain ⟨z,v',r',rfl,rfl,i',t⟩:=IsKV.cons_iff.mp h
    exact IsKV.cons_iff.mpr ⟨_,_,_,rfl,rfl,i',IsKV.snoc i t⟩
theorem IsKV.put {kvs:List (PyData × PyData)}{kv:List (Key × V)}{y:Key}{d:PyData}{v:V} (h:IsKV K H kvs kv) (i:IsD K H d v):IsKV K H (putD (keyD y) d kvs) (putK kv y v):=by
  unfold putD putK
  rw [h.any]
  by_cases e:(kvs.any fun x=>keyEq x.1 (keyD y))=true
  · rw [if_pos e,if_pos e]; exact h.repl i
  · rw [if_neg e,if_neg e]; exact h.snoc i
theorem IsKV.length:∀ {kvs:List (PyData × PyData)}{kv:List (Key × V)},IsKV K H kvs kv→kvs.length=kv.length
  | [],_,h=>by rw [IsKV.nil_iff.mp h]; rfl
  | (k,d) :: r,_,h=>by
    obtain ⟨z,v,r',rfl,rfl,i,t⟩:=IsKV.cons_iff.mp h
    simp [IsKV.length t]
end
section
variable {X:Cx}{a b e o i:Expr}{fa fb f:Rho→Option PyData}{pos apos cpos:Pos}
theorem PE.or {t u:TE} (h:PE X e t) (h':PE X e u):PE X e (fun σ H Q=>t σ H Q ∨ u σ H Q):=fun pins s σ H Q I q=>q.elim (h pins s σ H Q I) (h' pins s σ H Q I)
def dKGet (x k:PyData):Option PyData:=match x with
  | .dict kvs=>if isInst kvs=true then none else (dKey k).bind fun _=>getK k kvs
  | _=>none
theorem pd_dget (hu:X.A.units + 64 < cLine) (ha:PD X a fa) (hb:PD X b fb) (hs:NoSl b):PD X (.Subscript a b pos) (d2 dKGet fa fb) :=
  PE.imp (pe_dget (by omega) ha hb hs) fun σ H Q h=>by
    obtain ⟨ρ,d,hs,e,k⟩:=h
    obtain ⟨x,e1,e⟩:=bind_some e
    obtain ⟨y,e2,e⟩:=bind_some e
    refine ⟨ρ,x,hs,e1,fun v H1 s1 i1=>⟨ρ,y,hs.same s1,e2,fun u H2 s2 i2=>?_⟩⟩
    obtain ⟨kvs,rfl⟩:∃ kvs,x=.dict kvs:=by cases x <;> first | exact ⟨_,rfl⟩ | (simp [dKGet] at e)
    unfold dKGet at e
    by_cases hi:isInst kvs=true
    · dsimp only at e; rw [if_pos hi] at e; cases e
    · dsimp only at e; rw [if_neg hi] at e
      obtain ⟨ky,e3,e4⟩:=bind_some e
      obtain ⟨p,kv,rfl,e5,e6⟩:=(i1.same s2).dk_of (by simpa using hi)
      have:=dKey_some e3
      subst this
      rw [isD_keyD i2]
      rcases e6.val (y:=ky) with ⟨q1,_⟩ | ⟨d',v',q1,q2,q3⟩
      · rw [q1] at e4; cases e4
      · rw [q1] at e4; cases e4
        exact ⟨p,v',rfl,by rw [← q2]; exact DGet.k e5,k.later (s1.trans s2) |>.here q3⟩
def dIxA (x k:PyData):Option PyData:=match x with
  | .dict kvs=>dKGet (.dict kvs) k
  | x=>dIx x k
theorem pd_ixA (hu:X.A.units + 64 < cLine) (ha:PD X a fa) (hb:PD X b fb) (hs:PlainIx b) (hs2:NoSl b):PD X (.Subscript a b pos) (d2 dIxA fa fb) :=
  PE.imp (PE.or (pd_ix ixD ha hb hs) (pd_dget hu ha hb hs2)) fun σ H Q h=>by
    obtain ⟨ρ,d,hs,e,k⟩:=h
    obtain ⟨x,e1,e'⟩:=bind_some e
    obtain ⟨y,e2,e3⟩:=bind_some e'
    cases x with
    | dict kvs=>exact .inr ⟨ρ,d,hs,by show (fa ρ).bind _=_; rw [e1]; show (fb ρ).bind _=_; rw [e2]; exact e3,k⟩
    | _=>exact .inl ⟨ρ,d,hs,by show (fa ρ).bind _=_; rw [e1]; show (fb ρ).bind _=_; rw [e2]; exact e3,k⟩
theorem op_in_dK (hu:X.A.units + 64 < cLine):OpR X (compareOp .In) (fun x y H Q=>∃ p kv k,x=kV k∧y=.ref p∧H p=some (.dK kv)∧Q (.bl (valV kv k).isSome) H):=by
  intro pins s σ H x y v u Q I rx ry h
  obtain ⟨p,kv,k,rfl,rfl,hp,q⟩:=h
  cases ry
  exact d_in (by omega) I (DGet.k hp) rx fun s3 I3=>⟨.bl _,H,I3,rfl,q⟩
theorem op_notIn_dK (hu:X.A.units + 64 < cLine):OpR X (compareOp .NotIn) (fun x y H Q=>∃ p kv k,x=kV k∧y=.ref p∧H p=some (.dK kv)∧Q (.bl (!(valV kv k).isSome)) H):=by
  intro pins s σ H x y v u Q I rx ry h
  obtain ⟨p,kv,k,rfl,rfl,hp,q⟩:=h
  cases ry
  exact d_notIn (by omega) I (DGet.k hp) rx fun s3 I3=>⟨.bl _,H,I3,rfl,q⟩
variable {pins:List (Addr × Obj)}{σ:St}{H:Hp}{s:Shared}
theorem in_reads (I:Inv X pins σ H s) {A:Around}{x:PyData}{v:V}{u:Value} (hx:SeqAt.shaped x=true) (ix:IsD X.K H x v) (ru:RelV v u) (hu:A.units + x.depth < cLine) :
    ∀ {ds:List PyData}{vs:List V}{us:List Value},(∀ d∈ds,SeqAt.shaped d=true)→IsDs X.K H ds vs→Vals vs us→∃ e:Value→Bool,(∀ y∈us,SeqAt.EqAt A s y u (e y))∧us.any e=ds.any fun d=>PyData.eqv d x:=by
  obtain ⟨as,rx⟩:=I.readsD (SeqAt.canLay_of_shaped hx) ix ru
  let e:Value→Bool:=fun y=>@decide (∃ d bs,Reads s.heap y d bs∧SeqAt.shaped d=true∧PyData.eqv d x=true) (Classical.propDecidable _)
  have he:∀ (d:PyData) (bs:List Addr) (y:Value),Reads s.heap y d bs→SeqAt.shaped d=true→e y=PyData.eqv d x:=fun d bs y r hd=>by
    cases q:PyData.eqv d x with
    | true=>exact @decide_eq_true _ (Classical.propDecidable _) ⟨d,bs,r,hd,q⟩
    | false =>
      refine @decide_eq_false _ (Classical.propDecidable _) fun ⟨d',bs',r',hd',q'⟩=>?_
      have:=SeqAt.Reads.unique d d' y _ _ (SeqAt.canLay_of_shaped hd) r r'
      subst this
      rw [q] at q'; cases q'
  intro ds
  have main:∀ {ds:List PyData}{vs:List V}{us:List Value},(∀ d∈ds,SeqAt.shaped d=true)→IsDs X.K H ds vs→Vals vs us→(∀ y∈us,SeqAt.EqAt A s y u (e y))∧us.any e=ds.any fun d=>PyData.eqv d x:=by
    intro ds
    induction ds with
    | nil =>
      intro vs us _ i r
      rw [IsDs.nil_iff.mp i] at r
      cases r
      exact ⟨(fun y hy=>by cases hy),rfl⟩
    | cons d ds ih =>
      intro vs us hs i r
      obtain ⟨v',r',rfl,i1,i2⟩:=IsDs.cons_iff.mp i
      cases r with
      | cons r1 r2 =>
        obtain ⟨a1,a2⟩:=ih (fun d hd=>hs d (List.mem_cons_of_mem _ hd)) i2 r2
        have hd:=hs d (by simp)
        obtain ⟨bs,rd⟩:=I.readsD (SeqAt.canLay_of_shaped hd) i1 r1
        have ed:=he d bs _ rd hd
        refine ⟨fun y hy=>?_,by rw [List.any_cons,List.any_cons,ed,a2]⟩
        rcases List.mem_cons.mp hy with q | q
        · subst q
          rw [ed]
          refine SeqAt.eqAt_reads d x A s _ _ bs as rd rx (SeqAt.canLay_of_shaped hd) (SeqAt.canLay_of_shaped hx) ?_
          have:min d.depth x.depth ≤ x.depth:=Nat.min_le_right _ _
          omega
        · exact a1 y q
  intro vs us h1 h2 h3
  exact ⟨e,main h1 h2 h3⟩
def dInB:PyData→PyData→Option Bool
  | x,.list xs=>if SeqAt.shaped x=true∧xs.all SeqAt.shaped=true∧x.depth ≤ 60 then some (xs.any fun y=>PyData.eqv y x) else none
  | x,.tuple xs=>if SeqAt.shaped x=true∧xs.all SeqAt.shaped=true∧x.depth ≤ 60 then some (xs.any fun y=>PyData.eqv y x) else none
  | x,.dict kvs=>if isInst kvs=true then none else (dKey x).map fun _=>(getK x kvs).isSome
  | .str x,.str y=>some (!(Builtin.Str.occurrences y x 0 y.length 1).isEmpty)
  | _,_=>none
def dIn (x y:PyData):Option PyData:=(dInB x y).map .bool
def dNotIn (x y:PyData):Option PyData:=(dInB x y).map fun b=>.bool (!b)
theorem in_seqD (hu:X.A.units + 64 < cLine):OpR X (compareOp .In) (fun x y H Q=>∃ p d ds vs,y=.ref p∧(SqL X.K H p vs ∨ SqT X.K H p vs)∧IsD X.K H d x∧IsDs X.K H ds vs∧SeqAt.shaped d=true∧ds.all SeqAt.shaped=true∧d.depth ≤ 60 ∧
    Q (.bl (ds.any fun y=>PyData.eqv y d)) H):=by
  intro pins s σ H x y v u Q I rx ry h
  obtain ⟨p,d,ds,vs,rfl,hq,ix,is,hd,hds,hdd,q⟩:=h
  cases ry
  have hds':∀ d∈ds,SeqAt.shaped d=true:=List.all_eq_true.mp hds
  have hu1:X.A.in1.units + d.depth < cLine:=by show X.A.units + 1 + d.depth < cLine; omega
  rcases hq with hq | hq
  · obtain ⟨its,r,pl,hz⟩:=I.list hq
    obtain ⟨e,e1,e2⟩:=in_reads I (A:=X.A.in1) hd ix rx hu1 hds' is r
    refine SeqAt.in_listAt e pl.isList (fun y hy=>e1 y (by simpa using hy)) ⟨.bl _,H,I,rfl,?_⟩
    rw [show its.toArray.any e=its.any e by simp,e2]
    exact q
  · obtain ⟨its,r,pl,hz⟩:=I.tuple hq
    obtain ⟨e,e1,e2⟩:=in_reads I (A:=X.A.in1) hd ix rx hu1 hds' is r
    refine SeqAt.in_tupleAt e pl (fun y hy=>e1 y (by simpa using hy)) ⟨.bl _,H,I,rfl,?_⟩
    rw [show its.toArray.any e=its.any e by simp,e2]
    exact q
theorem notIn_seqD (hu:X.A.units + 64 < cLine):OpR X (compareOp .NotIn) (fun x y H Q=>∃ p d ds vs,y=.ref p∧(SqL X.K H p vs ∨ SqT X.K H p vs)∧IsD X.K H d x∧IsDs X.K H ds vs∧SeqAt.shaped d=true∧ds.all SeqAt.shaped=true∧d.depth ≤ 60 ∧
    Q (.bl (!(ds.any fun y=>PyData.eqv y d))) H):=by
  intro pins s σ H x y v u Q I rx ry h
  obtain ⟨p,d,ds,vs,rfl,hq,ix,is,hd,hds,hdd,q⟩:=h
  cases ry
  have hds':∀ d∈ds,SeqAt.shaped d=true:=List.all_eq_true.mp hds
  have hu1:X.A.in1.units + d.depth < cLine:=by show X.A.units + 1 + d.depth < cLine; omega
  rcases hq with hq | hq
  · obtain ⟨its,r,pl,hz⟩:=I.list hq
    obtain ⟨e,e1,e2⟩:=in_reads I (A:=X.A.in1) hd ix rx hu1 hds' is r
    refine SeqAt.notIn_listAt e pl.isList (fun y hy=>e1 y (by simpa using hy)) ⟨.bl _,H,I,rfl,?_⟩
    rw [show its.toArray.any e=its.any e by simp,e2]
    exact q
  · obtain ⟨its,r,pl,hz⟩:=I.tuple hq
    obtain ⟨e,e1,e2⟩:=in_reads I (A:=X.A.in1) hd ix rx hu1 hds' is r
    refine SeqAt.notIn_tupleAt e pl (fun y hy=>e1 y (by simpa using hy)) ⟨.bl _,H,I,rfl,?_⟩
    rw [show its.toArray.any e=its.any e by simp,e2]
    exact q
theorem od_in (hu:X.A.units + 64 < cLine):OpD X (compareOp .In) dIn:=by
  refine OpR.imp ((in_seqD hu).or ((op_in_dK hu).or op_in_str)) fun x y H Q ⟨a,b,c,ia,ib,e,k⟩=>?_
  obtain ⟨t,e1,e2⟩:=Option.map_eq_some_iff.mp e
  subst e2
  cases b with
  | list ys =>
    dsimp only [dInB] at e1
    by_cases hc:SeqAt.shaped a=true∧ys.all SeqAt.shaped=true∧a.depth ≤ 60
    · rw [if_pos hc] at e1; cases e1
      obtain ⟨p,vs,rfl,e2,e3⟩:=IsD.list_iff.mp ib
      exact .inl ⟨p,a,ys,vs,rfl,.inl e2,ia,e3,hc.1,hc.2.1,hc.2.2,k.here (IsD.bool_iff.mpr rfl)⟩
    · rw [if_neg hc] at e1; cases e1
  | tuple ys =>
    dsimp only [dInB] at e1
    by_cases hc:SeqAt.shaped a=true∧ys.all SeqAt.shaped=true∧a.depth ≤ 60
    · rw [if_pos hc] at e1; cases e1
      obtain ⟨p,vs,rfl,e2,e3⟩:=ib.tuple_of
      exact .inl ⟨p,a,ys,vs,rfl,.inr e2,ia,e3,hc.1,hc.2.1,hc.2.2,k.here (IsD.bool_iff.mpr rfl)⟩
    · rw [if_neg hc] at e1; cases e1
  | dict kvs =>
    dsimp only [dInB] at e1
    by_cases hc:isInst kvs=true
    · rw [if_pos hc] at e1; cases e1
    · rw [if_neg hc] at e1
      obtain ⟨ky,e3,e4⟩:=Option.map_eq_some_iff.mp e1
      subst e4
      obtain ⟨p,kv,rfl,e5,e6⟩:=ib.dk_of (by simpa using hc)
      have:=dKey_some e3
      subst this
      refine .inr (.inl ⟨p,kv,ky,isD_keyD ia,rfl,e5,?_⟩)
      rcases e6.val (y:=ky) with ⟨q1,q2⟩ | ⟨d',v',q1,q2,_⟩
      · rw [q2]; rw [q1] at k; exact k.here (IsD.bool_iff.mpr rfl)
      · rw [q2]; rw [q1] at k; exact k.here (IsD.bool_iff.mpr rfl)
  | str z =>
    cases a <;> try (simp [dInB] at e1; done)
    rename_i z'
    simp only [dInB] at e1
    cases e1
    exact .inr (.inr ⟨z',z,IsD.str_iff.mp ia,IsD.str_iff.mp ib,k.here (IsD.bool_iff.mpr rfl)⟩)
  | none=>simp [dInB] at e1
  | bool _=>simp [dInB] at e1
  | int _=>simp [dInB] at e1
theorem od_notin (hu:X.A.units + 64 < cLine):OpD X (compareOp .NotIn) dNotIn:=by
  refine OpR.imp ((notIn_seqD hu).or ((op_notIn_dK hu).or op_notin_str)) fun x y H Q ⟨a,b,c,ia,ib,e,k⟩=>?_
  obtain ⟨t,e1,e2⟩:=Option.map_eq_some_iff.mp e
  subst e2
  cases b with
  | list ys =>
    dsimp only [dInB] at e1
    by_cases hc:SeqAt.shaped a=true∧ys.all SeqAt.shaped=true∧a.depth ≤ 60
    · rw [if_pos hc] at e1; cases e1
      obtain ⟨p,vs,rfl,e2,e3⟩:=IsD.list_iff.mp ib
      exact .inl ⟨p,a,ys,vs,rfl,.inl e2,ia,e3,hc.1,hc.2.1,hc.2.2,k.here (IsD.bool_iff.mpr rfl)⟩
    · rw [if_neg hc] at e1; cases e1
  | tuple ys =>
    dsimp only [dInB] at e1
    by_cases hc:SeqAt.shaped a=true∧ys.all SeqAt.shaped=true∧a.depth ≤ 60
    · rw [if_pos hc] at e1; cases e1
      obtain ⟨p,vs,rfl,e2,e3⟩:=ib.tuple_of
      exact .inl ⟨p,a,ys,vs,rfl,.inr e2,ia,e3,hc.1,hc.2.1,hc.2.2,k.here (IsD.bool_iff.mpr rfl)⟩
    · rw [if_neg hc] at e1; cases e1
  | dict kvs =>
    dsimp only [dInB] at e1
    by_cases hc:isInst kvs=true
    · rw [if_pos hc] at e1; cases e1
    · rw [if_neg hc] at e1
      obtain ⟨ky,e3,e4⟩:=Option.map_eq_some_iff.mp e1
      subst e4
      obtain ⟨p,kv,rfl,e5,e6⟩:=ib.dk_of (by simpa using hc)
      have:=dKey_some e3
      subst this
      refine .inr (.inl ⟨p,kv,ky,isD_keyD ia,rfl,e5,?_⟩)
      rcases e6.val (y:=ky) with ⟨q1,q2⟩ | ⟨d',v',q1,q2,_⟩
      · rw [q2]; rw [q1] at k; exact k.here (IsD.bool_iff.mpr rfl)
      · rw [q2]; rw [q1] at k; exact k.here (IsD.bool_iff.mpr rfl)
  | str z =>
    cases a <;> try (simp [dInB] at e1; done)
    rename_i z'
    simp only [dInB] at e1
    cases e1
    exact .inr (.inr ⟨z',z,IsD.str_iff.mp ia,IsD.str_iff.mp ib,k.here (IsD.bool_iff.mpr rfl)⟩)
  | none=>simp [dInB] at e1
  | bool _=>simp [dInB] at e1
  | int _=>simp [dInB] at e1
def dLenA:List PyData→Option PyData
  | [.dict kvs]=>if isInst kvs=true then none else some (.int kvs.length)
  | ds=>dLen ds
theorem cd_lenA:CallD X (.builtin "len") dLenA:=by
  refine CallR.imp (CallR.or cd_len call_lenD) fun xs H Q ⟨ds,c,i,e,k⟩=>?_
  unfold dLenA at e
  split at e
  · rename_i kvs
    by_cases hi:isInst kvs=true
    · rw [if_pos hi] at e; cases e
    · rw [if_neg hi] at e; cases e
      obtain ⟨v,rfl,h1⟩:=isDs_one i
      obtain ⟨p,kv,rfl,e5,e6⟩:=h1.dk_of (by simpa using hi)
      refine .inr ⟨p,kv,rfl,e5,?_⟩
      rw [← e6.length]
      exact k.here (IsD.int_iff.mpr rfl)
  · exact .inl ⟨ds,c,i,e,k⟩
def FldOk (K:W.Frag) (c f:Str):Prop:=∃ C,ClsAt K c C∧Cls K C∧NoAttr K C f
def dFldD (cs:List Str) (f:Str) (d:PyData):Option PyData:=match d with
  | .dict ((.none,.str c) :: r)=>if c∈cs then getF f r else none
  | _=>none
def dFld (cs:List Str) (n:Str) (f:Rho→Option PyData):Rho→Option PyData:=fun ρ=>(f ρ).bind (dFldD cs n)
theorem pd_fld {cs:List Str}{n:Str} (hC:∀ c∈cs,FldOk X.K c n) (he:PD X e f) (hb:attributeBase e n X.env (eval e X.env)=eval e X.env:=by rfl):PD X (.Attribute e n pos) (dFld cs n f) :=
  PE.imp (pe_fld he hb) fun σ H Q ⟨ρ,d,hs,e,k⟩=>by
    obtain ⟨x,e1,e2⟩:=bind_some e
    refine ⟨ρ,x,hs,e1,fun v H1 s1 i1=>?_⟩
    unfold dFldD at e2
    split at e2
    · rename_i c r
      by_cases hc:c∈cs
      · rw [if_pos hc] at e2
        obtain ⟨p,C,dx,fs,rfl,h1,h2,h3⟩:=i1.ins_of
        obtain ⟨C',g1,g2,g3⟩:=hC c hc
        have:=h1.uniq g1
        subst this
        obtain ⟨u,l,iu⟩:=h3.get e2
        exact ⟨p,C,dx,fs,u,rfl,h2,g2,g3,l,(k.later s1).here iu⟩
      · rw [if_neg hc] at e2; cases e2
    · cases e2
end
end L2
end
section
set_option Elab.async false
set_option linter.all false
set_option maxRecDepth 100000
set_option maxHeartbeats 1000000
namespace L2
open PySem PySem.Spec PyProof.Rows
inductive Pl where
  | sl (i:Nat)
  | fl (i:Nat) (c f:Str)
def Pl.ix:Pl→Nat
  | .sl i=>i
  | .fl i _ _=>i
def fldOf (c f:Str) (d:PyData):Option PyData:=match d with
  | .dict ((.none,.str c') :: r)=>if c'=c∧ownFld c f=true then getF f r else none
  | _=>none
def fldPut (f:Str) (y d:PyData):PyData:=match d with
  | .dict ((.none,.str c) :: r)=>.dict ((.none,.str c) :: setF f y r)
  | d=>d
def getP:Pl→Rho→Option PyData
  | .sl i,ρ=>(ρ[i]?).join
  | .fl i c f,ρ=>(ρ[i]?).join.bind (fldOf c f)
def setP:Pl→PyData→Rho→Rho
  | .sl i,d,ρ=>ρ.set i (some d)
  | .fl i _ f,d,ρ=>ρ.set i ((ρ[i]?).join.map (fldPut f d))
def RefP (K:W.Frag) (σ:St) (H:Hp):Pl→Addr→Prop
  | .sl i,q=>σ[i]?=some (some (.ref q))
  | .fl i c f,q=>∃ C p dx fs,σ[i]?=some (some (.ref p))∧ClsAt K c C∧H p=some (.ins C dx fs)∧fs.lookup f=some (.ref q)
def isCont:PyData→Bool
  | .list _=>true
  | .dict kvs=>!isInst kvs
  | _=>false
section
variable {K:W.Frag}{σ:St}{ρ:Rho}{G H:Hp}
theorem OwnT.cont {d:PyData}{v:V}{B:List (Addr × HO)} (h:OwnT K G d v B) (hc:isCont d=true):∃ q o,v=.ref q∧B=[(q,o)]∧OwnC K G d q o:=by
  rcases h with h | ⟨c,C,p,dx,fs,r,B',rfl,_⟩
  · exact h
  · cases hc
theorem OwnT.inst {c:Str}{r:List (PyData × PyData)}{v:V}{B:List (Addr × HO)} (h:OwnT K G (.dict ((.none,.str c) :: r)) v B):∃ C p dx fs B',v=.ref p∧B=(p,.ins C dx fs) :: (dx,.own p) :: B'∧ClsAt K c C∧OwnF K G c r fs B':=by
  rcases h with ⟨q,o,rfl,rfl,⟨_,_,e,_⟩ | ⟨kvs,kv,e,_,i⟩⟩ | ⟨c',C,p,dx,fs,r',B',e,rfl,rfl,a4,a5⟩
  · cases e
  · cases e
    obtain ⟨y,_,_,_,e,_⟩:=IsKV.cons_iff.mp i
    cases y <;> cases e
  · cases e
    exact ⟨C,p,dx,fs,B',rfl,rfl,a4,a5⟩
theorem fldOf_some {c f:Str}{x d:PyData} (h:fldOf c f x=some d):∃ r,x=.dict ((.none,.str c) :: r)∧ownFld c f=true∧getF f r=some d:=by
  unfold fldOf at h
  split at h
  · rename_i c' r
    by_cases hc:c'=c∧ownFld c f=true
    · rw [if_pos hc] at h
      obtain ⟨rfl,h2⟩:=hc
      exact ⟨r,rfl,h2,h⟩
    · rw [if_neg hc] at h; cases h
  · cases h
theorem HasO.place {O:List Nat} (ndO:O.Nodup) (h:HasO O K σ ρ H G) {π:Pl}{d:PyData} (hi:π.ix∈O) (hd:getP π ρ=some d) (hc:isCont d=true) :
    ∃ q o,RefP K σ H π q∧H q=some o∧OwnC K G d q o∧∀ d' o',OwnC K G d' q o'→HasO O K σ (setP π d' ρ) (upd H q o') G:=by
  cases π with
  | sl i =>
    obtain ⟨v,Bl,B1,Br,e1,e2,f,ot,k1,k2,cl,_⟩:=h.own ndO hi (join_some hd)
    obtain ⟨q,o,rfl,rfl,oc⟩:=ot.cont hc
    have e3:Bl++([(q,o)]++Br)=Bl++(q,o) :: Br:=rfl
    rw [e3] at e2 f
    refine ⟨q,o,e1,by rw [e2]; exact joinB_in f.nd (q,o) (by simp),oc,fun d' o' oc'=>?_⟩
    rw [e2,joinB_put f.nd]
    exact cl G d' [(q,o')] (.refl G) (.inl ⟨q,o',rfl,rfl,oc'⟩) (f.put (k1.append (.one oc'.frm k2)))
  | fl i c f =>
    obtain ⟨x,ex,e0⟩:=bind_some hd
    obtain ⟨r,rfl,hof,hg⟩:=fldOf_some e0
    obtain ⟨v,Bl,B1,Br,e1,e2,fm,ot,k1,k2,cl,_⟩:=h.own ndO hi (join_some ex)
    obtain ⟨C,p,dx,fs,B',rfl,rfl,a4,a5⟩:=ot.inst
    obtain ⟨q,o,Fl,Fr,l1,rfl,oc,cl2⟩:=a5.split hof hg
    have e3:∀ o':HO,Bl++(((p,HO.ins C dx fs) :: (dx,HO.own p) :: (Fl++(q,o') :: Fr))++Br)=(Bl++(p,HO.ins C dx fs) :: (dx,HO.own p) :: Fl)++(q,o') :: (Fr++Br):=fun o'=>by simp
    rw [e3] at e2 fm
    refine ⟨q,o,⟨C,p,dx,fs,e1,a4,?_,l1⟩,by rw [e2]; exact joinB_in fm.nd (q,o) (by simp),oc,fun d' o' oc'=>?_⟩
    · rw [e2]; exact joinB_in fm.nd (p,.ins C dx fs) (by simp)
    · have of':=cl2 d' o' oc'
      have ot':OwnT K G (.dict ((.none,.str c) :: setF f d' r)) (.ref p) ((p,HO.ins C dx fs) :: (dx,HO.own p) :: (Fl++(q,o') :: Fr)):=.inr ⟨c,C,p,dx,fs,_,_,rfl,rfl,rfl,a4,of'⟩
      have:=cl G _ _ (.refl G) ot' (by rw [e3]; exact fm.put (by rw [← e3]; exact k1.append (ot'.okB.append k2)))
      rw [e3] at this
      rw [e2,joinB_put fm.nd]
      have es:setP (.fl i c f) d' ρ=ρ.set i (some (.dict ((.none,.str c) :: setF f d' r))):=by
        show ρ.set i ((ρ[i]?).join.map (fldPut f d'))=_
        rw [ex]; rfl
      rw [es]
      exact this
end
inductive Md where
  | dat | own | io (v0:V)
def KO (K:W.Frag) (H:Hp) (d:PyData) (Q:VK):Prop:=∀ v G' B',Same H G'→Frm G' B'→OwnT K G' d v B'→Q v (joinB G' B')
theorem KO.later {K:W.Frag}{H H':Hp}{d:PyData}{Q:VK} (k:KO K H d Q) (e:Same H H'):KO K H' d Q:=fun v G' B' s f o=>k v G' B' (e.trans s) f o
structure HasM (m:Md) (O:List Nat) (K:W.Frag) (σ:St) (ρ:Rho) (H G:Hp):Prop where
  o:HasO O K σ ρ H G
  z:∀ v0,m=.io v0→0∈O∧σ[0]?=some (some v0)
def RtO (m:Md) (K:W.Frag) (G:Hp) (d:PyData) (Q:VK):Prop:=match m with
  | .dat=>KD K G d Q
  | .own=>KO K G d Q
  | .io v0=>∃ x d0,d=.tuple [x,d0]∧∀ v G' B',Same G G'→Frm G' B'→OwnT K G' d0 v0 B'→IsD K G' x v→Q v (joinB G' B')
theorem RtO.later {m:Md}{K:W.Frag}{G G':Hp}{d:PyData}{Q:VK} (e:Same G G') (h:RtO m K G d Q):RtO m K G' d Q:=by
  cases m with
  | dat=>exact KD.later h e
  | own=>exact KO.later h e
  | io v0 =>
    obtain ⟨x,d0,a,b⟩:=h
    exact ⟨x,d0,a,fun v G2 B s f o i=>b v G2 B (e.trans s) f o i⟩
def OutO (m:Md) (O:List Nat) (K:W.Frag) (G:Hp) (D:Ends):Out→Prop
  | .nx ρ=>∀ σ H' G',Same G G'→HasM m O K σ ρ H' G'→D.nx σ H'
  | .bk ρ=>∀ σ H' G',Same G G'→HasM m O K σ ρ H' G'→D.bk σ H'
  | .ct ρ=>∀ σ H' G',Same G G'→HasM m O K σ ρ H' G'→D.ct σ H'
  | .rt d=>RtO m K G d D.rt
theorem OutO.later {m:Md}{O:List Nat}{K:W.Frag}{G G':Hp}{D:Ends} (e:Same G G'):∀ {o:Out},OutO m O K G D o→OutO m O K G' D o
  | .nx _,h=>fun σ H2 G2 e2 q=>h σ H2 G2 (e.trans e2) q
  | .bk _,h=>fun σ H2 G2 e2 q=>h σ H2 G2 (e.trans e2) q
  | .ct _,h=>fun σ H2 G2 e2 q=>h σ H2 G2 (e.trans e2) q
  | .rt _,h=>RtO.later e h
def tO (m:Md) (O:List Nat) (K:W.Frag) (g:Rho→Option Out):TS:=fun D σ H=>∃ ρ o G,HasM m O K σ ρ H G∧g ρ=some o∧OutO m O K G D o
def POS (X:Cx) (m:Md) (O:List Nat) (st:Stmt) (g:Rho→Option Out):Prop:=PS X st (tO m O X.K g)
def POSs (X:Cx) (m:Md) (O:List Nat) (st:List Stmt) (g:Rho→Option Out):Prop:=PSs X st (tO m O X.K g)
def scalD:PyData→Bool
  | .list _=>false
  | .tuple _=>false
  | .dict _=>false
  | _=>true
theorem IsD.scalD_any {K:W.Frag}{H H':Hp}{d:PyData}{v:V} (h:scalD d=true) (i:IsD K H d v):IsD K H' d v:=by
  cases d <;> first | (cases h; done) | (unfold IsD at i ⊢; exact i)
theorem IsDs.scalD_any {K:W.Frag}{H H':Hp}:∀ {ds:List PyData}{vs:List V},ds.all scalD=true→IsDs K H ds vs→IsDs K H' ds vs
  | [],_,_,i=>by rw [IsDs.nil_iff.mp i]; exact IsDs.nil
  | d :: ds,_,h,i=>by
    obtain ⟨v,r,rfl,a,b⟩:=IsDs.cons_iff.mp i
    simp only [List.all_cons,Bool.and_eq_true] at h
    exact IsDs.cons (IsD.scalD_any h.1 a) (IsDs.scalD_any h.2 b)
section
variable {X:Cx}{m:Md}{O:List Nat}{a b c e:Expr}{es:List Expr}{fa fb fc f:Rho→Option PyData}{pos p2:Pos}{ff:Rho→Option (List PyData)}{st:Stmt}{rest:List Stmt}{g h:Rho→Option Out}{gc:Rho→Option Bool}
def PV (X:Cx) (O:List Nat) (e:Expr) (h:Rho→Option PyData):Prop:=PE X e (fun σ H Q=>∃ ρ d G,HasO O X.K σ ρ H G∧h ρ=some d∧∀ v H' G',Same H H'→Same G G'→HasO O X.K σ ρ H' G'→IsD X.K G' d v→Q v H')
def vFr (O:List Nat) (f:Rho→Option PyData):Rho→Option PyData:=fun ρ=>f (eraseO O ρ)
def vSc (f:Rho→Option PyData):Rho→Option PyData:=fun ρ=>(f ρ).bind fun d=>if scalD d=true then some d else none
theorem joinB_same {G G':Hp}{B:List (Addr × HO)} (nd:(B.map (·.1)).Nodup) (e:Same G G'):Same (joinB G B) (joinB G' B):=fun a o h=>by
  rcases joinB_cases (a:=a) B with ⟨x,hx,rfl⟩ | h'
  · rw [joinB_in nd x hx] at h ⊢; exact h
  · rw [joinB_out h'] at h ⊢; exact e a o h
theorem pv_fr (he:PD X e f):PV X O e (vFr O f) :=
  PE.imp (PE.frame he) fun σ H Q ⟨ρ,d,G,hs,e1,k⟩=>by
    obtain ⟨B,eH,fm,own⟩:=hs.ex
    refine ⟨G,B,eH,fm,eraseO O ρ,d,hs.rest,e1,fun v G' sG i fm'=>?_⟩
    subst eH
    exact k v _ G' (joinB_same fm.nd sG) sG (HasO.framed hs.len own hs.non sG fm') i
theorem vSc_some {ρ:Rho}{d:PyData} (h:vSc f ρ=some d):f ρ=some d∧scalD d=true:=by
  obtain ⟨x,e1,e2⟩:=bind_some h
  by_cases hx:scalD x=true
  · rw [if_pos hx] at e2; cases e2; exact ⟨e1,hx⟩
  · rw [if_neg hx] at e2; cases e2
theorem pv_sc (he:PD X e f):PV X O e (vSc f) :=
  PE.imp he fun σ H Q ⟨ρ,d,G,hs,e1,k⟩=>by
    obtain ⟨e2,e3⟩:=vSc_some e1
    refine ⟨ρ,d,hs.full,e2,fun v H' s' i=>?_⟩
    obtain ⟨G',sG,_,hs'⟩:=hs.grow s'
    exact k v H' G' s' sG hs' (i.scalD_any e3)
def PF (X:Cx) (e:Expr) (f:Rho→Option PyData):Prop:=PE X e (fun σ H Q=>∃ ρ d,HasD X.K H σ ρ∧f ρ=some d∧KO X.K H d Q)
def PFO (X:Cx) (O:List Nat) (e:Expr) (h:Rho→Option PyData):Prop:=PE X e (fun σ H Q=>∃ ρ d G,HasO O X.K σ ρ H G∧h ρ=some d∧∀ v H' G' B',Same H H'→Same G G'→HasO O X.K σ ρ H' G'→Frm H' B'→OwnT X.K G' d v B'→Q v (joinB H' B'))
theorem pfo_fr (he:PF X e f):PFO X O e (vFr O f) :=
  PE.imp (PE.frame he) fun σ H Q ⟨ρ,d,G,hs,e1,k⟩=>by
    obtain ⟨B,eH,fm,own⟩:=hs.ex
    refine ⟨G,B,eH,fm,eraseO O ρ,d,hs.rest,e1,fun v G' B' sG fB ot fm'=>?_⟩
    have f1:Frm G' (B++B'):=fB.join fm'
    have f2:Frm G' (B'++B):=f1.perm List.perm_append_comm (ot.okB.append fm.ok)
    have e2:joinB (joinB G' B') B=joinB (joinB G' B) B':=by rw [← joinB_app,← joinB_app]; exact joinB_perm f1.nd List.perm_append_comm
    rw [e2]
    subst eH
    exact k v _ G' B' (joinB_same fm.nd sG) sG (HasO.framed hs.len own hs.non sG (f2.appR fm.ok)) (f2.appL ot.okB) ot
def flat:PyData→Bool
  | .list ds=>ds.all scalD
  | _=>false
def vFl (f:Rho→Option PyData):Rho→Option PyData:=fun ρ=>(f ρ).bind fun d=>if flat d=true then some d else none
theorem pfo_fl (he:PF X e f):PFO X O e (vFl f) :=
  PE.imp he fun σ H Q ⟨ρ,d,G,hs,e1,k⟩=>by
    obtain ⟨x,e2,e3⟩:=bind_some e1
    by_cases hx:flat x=true
    · rw [if_pos hx] at e3; cases e3
      refine ⟨ρ,d,hs.full,e2,fun v G' B' sG fB ot=>?_⟩
      obtain ⟨G2,sG2,_,hs'⟩:=hs.grow sG
      refine k v G' G2 B' sG sG2 hs' fB ?_
      cases d <;> try (simp [flat] at hx; done)
      rename_i ds
      obtain ⟨q,o,rfl,rfl,oc⟩:=ot.cont rfl
      rcases oc with ⟨ds',vs,e4,rfl,i⟩ | ⟨_,_,e4,_⟩
      · cases e4
        exact .inl ⟨q,_,rfl,rfl,.inl ⟨_,vs,rfl,rfl,i.scalD_any hx⟩⟩
      · cases e4
    · rw [if_neg hx] at e3; cases e3
theorem pf_lst (ha:PDA X es ff):PF X (.List es pos) (dLst ff) :=
  PE.imp (pe_lst ha) fun σ H Q ⟨ρ,d,hs,e,k⟩=>by
    obtain ⟨ds,e1,e2⟩:=bind_some e
    refine ⟨ρ,ds,hs,e1,fun vs H1 s1 i1=>?_⟩
    by_cases hz:ds.length ≤ sizeLine
    · first
      | (rw [if_pos hz] at e2; cases e2)
      | (cases e2)
      refine ⟨by rw [← i1.length]; exact hz,fun p hp=>?_⟩
      exact k (.ref p) H1 [(p,.lst vs)] s1 ⟨by simp,(fun x hx=>by simp at hx; subst hx; exact hp),.one True.intro .nil⟩ (.inl ⟨p,_,rfl,rfl,.inl ⟨_,vs,rfl,rfl,i1⟩⟩)
    · rw [if_neg hz] at e2; cases e2
theorem pf_dct:PF X (.Dict [] [] pos) (dC (.dict [])) :=
  PE.imp pe_dnewK fun σ H Q ⟨ρ,d,hs,e,k⟩=>by
    cases e
    intro p hp
    exact k (.ref p) H [(p,.dK [])] (.refl H) ⟨by simp,(fun x hx=>by simp at hx; subst hx; exact hp),.one True.intro .nil⟩ (.inl ⟨p,_,rfl,rfl,.inr ⟨[],[],rfl,rfl,IsKV.nil_iff.mpr rfl⟩⟩)
theorem poss_nil:POSs X m O [] sNil:=PSs.imp pss_nil fun D σ H ⟨ρ,o,G,hs,e,k⟩=>by cases e; exact k σ H G (.refl G) hs
theorem poss_cons (h1:POS X m O st g) (h2:POSs X m O rest h):POSs X m O (st :: rest) (sSeq g h) :=
  PSs.imp (pss_cons h1 h2) fun D σ H ⟨ρ,o,G,hs,e,k⟩=>by
    obtain ⟨o1,e1,e2⟩:=bind_some e
    refine ⟨ρ,o1,G,hs,e1,?_⟩
    cases o1 with
    | nx ρ'=>exact fun σ' H' G' s' hs'=>⟨ρ',o,G',hs',e2,k.later s'⟩
    | rt d=>cases e2; exact k
    | bk ρ'=>cases e2; exact k
    | ct ρ'=>cases e2; exact k
theorem poss_one (h1:POS X m O st g):POSs X m O [st] g:=PSs.imp (pss_one h1) fun D σ H h=>h
theorem pos_ret (h:PD X e f):POS X .dat O (.Return (some e) pos) (sRet f) :=
  PS.imp (ps_ret h) fun D σ H ⟨ρ,o,G,hs,e,k⟩=>by
    obtain ⟨d,e1,rfl⟩:=Option.map_eq_some_iff.mp e
    exact ⟨ρ,d,hs.o.full,e1,fun v H' s' i=>KD.later k (hs.o.sub.trans s') |>.here i⟩
theorem pos_retF (h:PF X e f):POS X .own O (.Return (some e) pos) (sRet f) :=
  PS.imp (ps_ret h) fun D σ H ⟨ρ,o,G,hs,e,k⟩=>by
    obtain ⟨d,e1,rfl⟩:=Option.map_eq_some_iff.mp e
    exact ⟨ρ,d,hs.o.full,e1,KO.later k hs.o.sub⟩
theorem pos_retO (i:Nat) {x:Str}{ep:Pos} (ndO:O.Nodup) (hO:i∈O:=by decide) (hN:X.N[i]?=some x:=by rfl) (hv:Vis X.env.scope x:=by first | exact Or.inl rfl | exact Or.inr (Or.inl rfl) | exact Or.inr (Or.inr rfl)) (hd:(x == ("__debug__":Str))=false:=by decide)
    (hcd:(x == ("__classdict__":Str))=false:=by decide):POS X .own O (.Return (some (.Name x ep)) pos) (sRet (dVar i)) :=
  PS.imp (ps_ret (pe_var hN hv hd hcd)) fun D σ H ⟨ρ,o,G,hs,e,k⟩=>by
    obtain ⟨d,e1,rfl⟩:=Option.map_eq_some_iff.mp e
    obtain ⟨v,Bl,B1,Br,e2,eH,f,ot,k1,k2,_,_⟩:=hs.o.own ndO hO (join_some e1)
    refine ⟨v,e2,?_⟩
    have perm:(Bl++(B1++Br)).Perm (B1++(Bl++Br)):=by
      rw [← List.append_assoc,← List.append_assoc]
      exact List.Perm.append_right _ List.perm_append_comm
    have f2:Frm G (B1++(Bl++Br)):=f.perm perm (ot.okB.append (k1.append k2))
    rw [eH,joinB_perm f.nd perm,joinB_app]
    have f3:=f2.appR (k1.append k2)
    exact (show KO X.K G d D.rt from k) v _ B1 f3.same (f2.appL ot.okB) (ot.same f3.same)
theorem pos_if {sa sb:List Stmt} (hc:PDT X c gc) (ha:POSs X m O sa g) (hb:POSs X m O sb h):POS X m O (.If c sa sb pos) (sIf gc g h) :=
  PS.imp (ps_if hc ha hb) fun D σ H ⟨ρ,o,G,hs,e,k⟩=>by
    obtain ⟨y,e1,e2⟩:=bind_some e
    refine ⟨ρ,y,hs.o.full,e1,fun H1 s1=>?_⟩
    obtain ⟨G1,sG,_,hs1⟩:=hs.o.grow s1
    cases y with
    | true=>rw [if_pos rfl]; exact ⟨ρ,o,G1,⟨hs1,hs.z⟩,e2,k.later sG⟩
    | false=>rw [if_neg Bool.false_ne_true]; exact ⟨ρ,o,G1,⟨hs1,hs.z⟩,e2,k.later sG⟩
theorem pos_break:POS X m O (.Break pos) (fun ρ=>some (.bk ρ)):=PS.imp ps_break fun D σ H ⟨ρ,o,G,hs,e,k⟩=>by cases e; exact k σ H G (.refl G) hs
def sNever:Rho→Option Out:=fun _=>none
theorem pos_never:POS X m O st sNever:=PS.imp ps_never fun D σ H ⟨ρ,o,G,hs,e,k⟩=>by cases e
theorem HasM.set {K:W.Frag}{σ:St}{ρ:Rho}{H G:Hp}{i:Nat}{d:PyData}{v:V} (h:HasM m O K σ ρ H G) (hi:i ∉ O) (e:IsD K G d v):HasM m O K (σ.set i (some v)) (ρ.set i (some d)) H G :=
  ⟨h.o.set hi e,fun v0 z=>by
    obtain ⟨z1,z2⟩:=h.z v0 z
    have h0:i ≠ 0:=fun q=>hi (q ▸ z1)
    exact ⟨z1,by rw [List.getElem?_set_ne h0]; exact z2⟩⟩
def sSetV (f:Rho→Option PyData) (i:Nat):Rho→Option Out:=fun ρ=>(f ρ).map fun d=>.nx (ρ.set i (some d))
theorem pos_set (i:Nat) {x:Str}{pos':Pos} (hN:X.N.Nodup) (he:PV X O e f) (hO:i ∉ O:=by decide) (hi:X.N[i]?=some x:=by rfl) (hx:Loc X.env.scope x:=by first | exact Or.inl rfl | exact Or.inr rfl) (hs:swapsWith e (some (.Name x pos')) pos.line X.env=pure false:=by rfl)
    (hf:X.fn x=true ∨ X.env.scope.names.lookup x=some .local:=by first | exact .inl rfl | exact .inr rfl | assumption):POS X m O (.Assign [.Name x pos'] e pos) (sSetV f i) :=
  PS.imp (ps_set hN hi hx he hs hf) fun D σ H ⟨ρ,o,G,hs,e,k⟩=>by
    obtain ⟨d,e1,rfl⟩:=Option.map_eq_some_iff.mp e
    exact ⟨ρ,d,G,hs.o,e1,fun v H' G' _ sG hs' i'=>k _ H' G' sG (HasM.set ⟨hs',hs.z⟩ hO i')⟩
def sNewF (f:Rho→Option PyData) (i:Nat):Rho→Option Out:=fun ρ=>(f ρ).bind fun d=>if i < ρ.length then some (.nx (ρ.set i (some d))) else none
theorem pos_new (i:Nat) {x:Str}{pos':Pos} (hN:X.N.Nodup) (ndO:O.Nodup) (he:PFO X O e f) (hO:i∈O:=by decide) (h0:i ≠ 0 ∨ m=.dat ∨ m=.own:=by first | exact .inl (by decide) | exact .inr (.inl rfl) | exact .inr (.inr rfl)) (hi:X.N[i]?=some x:=by rfl) (hx:Loc X.env.scope x:=by first | exact Or.inl rfl | exact Or.inr rfl) (hs:swapsWith e (some (.Name x pos')) pos.line X.env=pure false:=by rfl)
    (hf:X.fn x=true ∨ X.env.scope.names.lookup x=some .local:=by first | exact .inl rfl | exact .inr rfl | assumption):POS X m O (.Assign [.Name x pos'] e pos) (sNewF f i) :=
  PS.imp (ps_set hN hi hx he hs hf) fun D σ H ⟨ρ,o,G,hs,e,k⟩=>by
    obtain ⟨d,e1,e2⟩:=bind_some e
    by_cases hz:i < ρ.length
    · rw [if_pos hz] at e2; cases e2
      refine ⟨ρ,d,G,hs.o,e1,fun v H' G' B' _ sG hs' fB ot=>?_⟩
      obtain ⟨G2,s2,h2⟩:=hs'.new ndO hO hz ot fB
      refine k _ _ G2 (sG.trans s2) ⟨h2,fun v0 z=>?_⟩
      rcases h0 with h0 | h0 | h0
      · rw [List.getElem?_set_ne h0]; exact hs.z v0 z
      · rw [h0] at z; cases z
      · rw [h0] at z; cases z
    · rw [if_neg hz] at e2; cases e2
def PP (X:Cx) (e:Expr) (π:Pl):Prop:=PE X e (fun σ H Q=>∃ q,RefP X.K σ H π q∧Q (.ref q) H)
theorem pp_sl (i:Nat) {x:Str}{pos:Pos} (hN:X.N[i]?=some x:=by rfl) (hv:Vis X.env.scope x:=by first | exact Or.inl rfl | exact Or.inr (Or.inl rfl) | exact Or.inr (Or.inr rfl)) (hd:(x == ("__debug__":Str))=false:=by decide)
    (hcd:(x == ("__classdict__":Str))=false:=by decide):PP X (.Name x pos) (.sl i):=PE.imp (pe_var hN hv hd hcd) fun σ H Q ⟨q,r,k⟩=>⟨_,r,k⟩
theorem pp_fl (i:Nat) {c n:Str}{x:Str}{pos ep:Pos} (hC:FldOk X.K c n) (hN:X.N[i]?=some x:=by rfl) (hv:Vis X.env.scope x:=by first | exact Or.inl rfl | exact Or.inr (Or.inl rfl) | exact Or.inr (Or.inr rfl)) (hd:(x == ("__debug__":Str))=false:=by decide)
    (hcd:(x == ("__classdict__":Str))=false:=by decide) (hb:attributeBase (.Name x ep) n X.env (eval (.Name x ep) X.env)=eval (.Name x ep) X.env:=by rfl):PP X (.Attribute (.Name x ep) n pos) (.fl i c n) :=
  PE.imp (pe_fld (pe_var hN hv hd hcd) hb) fun σ H Q ⟨q,⟨C,p,dx,fs,e1,e2,e3,e4⟩,k⟩=>by
    obtain ⟨C',g1,g2,g3⟩:=hC
    have:=e2.uniq g1
    subst this
    exact ⟨_,e1,p,C,dx,fs,_,rfl,e3,g2,g3,e4,k⟩
theorem OwnC.lst {K:W.Frag}{G:Hp}{ds:List PyData}{q:Addr}{o:HO} (h:OwnC K G (.list ds) q o):∃ vs,o=.lst vs∧IsDs K G ds vs:=by
  rcases h with ⟨ds',vs,e,e2,i⟩ | ⟨_,_,e,_⟩
  · cases e; exact ⟨vs,e2,i⟩
  · cases e
theorem OwnC.dct {K:W.Frag}{G:Hp}{kvs:List (PyData × PyData)}{q:Addr}{o:HO} (h:OwnC K G (.dict kvs) q o):∃ kv,o=.dK kv∧IsKV K G kvs kv:=by
  rcases h with ⟨ds',vs,e,e2,i⟩ | ⟨_,kv,e,e2,i⟩
  · cases e
  · cases e; exact ⟨kv,e2,i⟩
theorem RefP.eq {K:W.Frag}{σ:St}{H H':Hp}{π:Pl}{q q':Addr} (h:RefP K σ H π q) (h':RefP K σ H' π q') (e:Same H H'):q=q':=by
  cases π with
  | sl i =>
    have e1:σ[i]?=some (some (.ref q)):=h
    have e2:σ[i]?=some (some (.ref q')):=h'
    rw [e1] at e2; cases e2; rfl
  | fl i c f =>
    obtain ⟨C,p,dx,fs,a1,a2,a3,a4⟩:=h
    obtain ⟨C',p',dx',fs',b1,b2,b3,b4⟩:=h'
    rw [a1] at b1; cases b1
    rw [e _ _ a3] at b3; cases b3
    rw [a4] at b4; cases b4; rfl
def sAppend (π:Pl) (f:Rho→Option PyData):Rho→Option Out:=fun ρ=>(getP π ρ).bind fun l=>(f ρ).bind fun d=>match l with
  | .list ds=>if ds.length < sizeLine then some (.nx (setP π (.list (ds++[d])) ρ)) else none
  | _=>none
theorem pos_append {π:Pl}{o:Expr}{apos cpos:Pos} (ndO:O.Nodup) (ho:PP X o π) (he:PV X O e f) (hO:π.ix∈O:=by decide) (hst:starEach [e] X.env=(false,eval e X.env) :: starEach [] X.env:=by rfl)
    (hbase:attributeBase o "append" X.env (eval o X.env)=eval o X.env:=by rfl)
    (hfew:((backTo cpos (starEach [e] X.env)).all (fun x=>!x.1) && (backToKw cpos (keywordEach [] X.env)).all (fun x=>x.1.isSome) && decide (([e]:List Expr).length + ([]:List Keyword).length + (if ([]:List Keyword).isEmpty then 0 else 1) < 30))=true:=by rfl)
    (hline:(apos.endLine == cpos.line)=true:=by rfl) (hplain:(backTo cpos (starEach [] X.env)).any (·.1)=false:=by rfl)
    (hs:swapsWith (.Call (.Attribute o "append" apos) [e] [] cpos) none pos.line X.env=pure false:=by rfl) :
    POS X m O (.Expr (.Call (.Attribute o "append" apos) [e] [] cpos) pos) (sAppend π f) :=
  PS.imp (ps_expr (pe_bm PySem.F.plainAttrs_list PySem.F.slot_list_append PySem.F.type_list_append mt_append ho (pa_cons he pa_nil hst) hbase hfew hline hst hplain) hs) fun D σ H ⟨ρ,o,G,hs,e,k⟩=>by
    obtain ⟨l,e1,ea⟩:=bind_some e
    obtain ⟨d,e2,eb⟩:=bind_some ea
    obtain ⟨ds,rfl⟩:∃ ds,l=.list ds:=by cases l <;> first | exact ⟨_,rfl⟩ | cases eb
    dsimp only at eb
    by_cases hz:ds.length < sizeLine
    · rw [if_pos hz] at eb
      cases eb
      obtain ⟨q,ob,r,hq,oc,_⟩:=hs.o.place ndO hO e1 rfl
      obtain ⟨vs,rfl,i4⟩:=oc.lst
      refine ⟨q,r,.inl ⟨rfl,vs,SqL.of hq⟩,ρ,d,G,hs.o,e2,fun v H' G' sH sG hs' i'=>?_⟩
      obtain ⟨q',ob',r',hq',oc',cl⟩:=hs'.place ndO hO e1 rfl
      have:=RefP.eq r r' sH
      subst this
      obtain ⟨vs',rfl,i4'⟩:=oc'.lst
      refine ⟨q,vs',v,rfl,rfl,hq',by rw [← i4'.length]; exact hz,?_⟩
      exact k _ _ G' sG ⟨cl _ _ (.inl ⟨_,_,rfl,rfl,i4'.append (IsDs.cons i' IsDs.nil)⟩),hs.z⟩
    · rw [if_neg hz] at eb; cases eb
end
end L2
end
section
set_option Elab.async false
set_option linter.all false
set_option maxRecDepth 100000
set_option maxHeartbeats 1000000
namespace L2
open PySem PySem.Spec PyProof.Rows
section
variable {X:Cx}{m:Md}{O:List Nat}{a b c e:Expr}{es:List Expr}{fa fb fc f:Rho→Option PyData}{pos p2:Pos}{ff:Rho→Option (List PyData)}{st:Stmt}{rest:List Stmt}{g h:Rho→Option Out}{gc:Rho→Option Bool}
def sPop (π:Pl):Rho→Option Out:=fun ρ=>(getP π ρ).bind fun l=>match l with
  | .list ds=>if ds.isEmpty=true then none else some (.nx (setP π (.list ds.dropLast) ρ))
  | _=>none
def rSetK:V→V→V→Hp→(Hp→Prop)→Prop:=fun o i v H Q=>∃ p kv k,o=.ref p∧i=kV k∧H p=some (.dK kv)∧kv.length < sizeLine∧Q (upd H p (.dK (putK kv k v)))
theorem set_dK (hu:X.A.units + 64 < cLine):PSet X rSetK:=by
  intro pins s σ H o i v ov iv u Q I ro ri rv h
  obtain ⟨p,kv,k,rfl,rfl,hp,hl,q⟩:=h
  cases ro
  exact d_setItem (by omega) I (DPut.k hp hl) ri rv fun s4 I4=>⟨_,I4,q⟩
theorem PSet.or {t u:TSet} (h:PSet X t) (h':PSet X u):PSet X (fun o i v H Q=>t o i v H Q ∨ u o i v H Q):=fun pins s σ H o i v ov iv uu Q I r1 r2 r3 q=>q.elim (h pins s σ H o i v ov iv uu Q I r1 r2 r3) (h' pins s σ H o i v ov iv uu Q I r1 r2 r3)
def putC (k d l:PyData):Option PyData:=match l with
  | .list ds=>match k with
    | .int i=>(ixN ds.length i).map fun j=>.list (ds.set j d)
    | _=>none
  | .dict kvs=>if kvs.length < sizeLine∧isInst kvs=false then (dKey k).map fun _=>.dict (putD k d kvs) else none
  | _=>none
def sPut (π:Pl) (fk fv:Rho→Option PyData):Rho→Option Out:=fun ρ=>(getP π ρ).bind fun l=>(fv ρ).bind fun d=>(fk ρ).bind fun kd=>(putC kd d l).map fun l'=>.nx (setP π l' ρ)
theorem IsDs.set {K:W.Frag}{H:Hp}{d:PyData}{v:V} (i:IsD K H d v):∀ {ds:List PyData}{vs:List V} (j:Nat),IsDs K H ds vs→IsDs K H (ds.set j d) (vs.set j v)
  | [],_,_,h=>by rw [IsDs.nil_iff.mp h]; exact IsDs.nil
  | x :: ds,_,j,h=>by
    obtain ⟨u,r,rfl,a,b⟩:=IsDs.cons_iff.mp h
    cases j with
    | zero=>exact IsDs.cons i b
    | succ j=>exact IsDs.cons a (IsDs.set i j b)
theorem pos_put (hu:X.A.units + 64 < cLine) {π:Pl}{o:Expr}{tpos:Pos} (ndO:O.Nodup) (ho:PP X o π) (hk:PV X O a fa) (he:PV X O e f) (hO:π.ix∈O:=by decide)
    (ha:∀ v,assign (.Subscript o a tpos) X.env v=(do
      let ov ← holding [v] (eval o X.env)
      let iv ← holding [v,ov] (eval a X.env)
      standAt tpos
      holding [v,ov,iv] (setItem ov iv v)
      release [v,ov,iv] []):=by intro _; rfl)
    (hs:swapsWithSole [.Subscript o a tpos] e pos.line X.env=pure false:=by rfl) (hw:swappedStores [.Subscript o a tpos] e X.env=pure none:=by rfl)
    (h1:(assignEach [.Subscript o a tpos] X.env).map (·.2)=[assign (.Subscript o a tpos) X.env]:=by rfl) :
    POS X m O (.Assign [.Subscript o a tpos] e pos) (sPut π fa f) :=
  PS.imp (ps_asg he (pg_sub ho hk (PSet.or set_list (set_dK hu)) ha) hs hw h1) fun D σ H ⟨ρ,o,G,hs,e,k⟩=>by
    obtain ⟨l,e1,ea⟩:=bind_some e
    obtain ⟨d,e2,eb⟩:=bind_some ea
    obtain ⟨kd,e3,ec⟩:=bind_some eb
    obtain ⟨l',e4,rfl⟩:=Option.map_eq_some_iff.mp ec
    have hc:isCont l=true:=by
      cases l <;> try (simp [putC] at e4; done)
      · rfl
      · rename_i kvs
        simp only [putC] at e4
        by_cases hz:kvs.length < sizeLine∧isInst kvs=false
        · show (!isInst kvs)=true
          rw [hz.2]; rfl
        · rw [if_neg hz] at e4; cases e4
    refine ⟨ρ,d,G,hs.o,e2,fun v H1 G1 _ s1 hs1 i1=>?_⟩
    obtain ⟨q,ob,r,hq,oc,_⟩:=hs1.place ndO hO e1 hc
    refine ⟨q,r,ρ,kd,G1,hs1,e3,fun kv H2 G2 sH s2 hs2 i2=>?_⟩
    obtain ⟨q',ob',r',hq',oc',cl⟩:=hs2.place ndO hO e1 hc
    have:=RefP.eq r r' sH
    subst this
    have i1':=i1.same s2
    cases l with
    | list ds =>
      obtain ⟨vs,rfl,i4⟩:=oc'.lst
      cases kd <;> try (simp [putC] at e4; done)
      rename_i j
      simp only [putC] at e4
      obtain ⟨jj,e5,rfl⟩:=Option.map_eq_some_iff.mp e4
      refine .inl ⟨q,vs,j,jj,rfl,IsD.int_iff.mp i2,hq',by rw [← i4.length]; exact e5,?_⟩
      exact k _ _ G2 (s1.trans s2) ⟨cl _ _ (.inl ⟨_,_,rfl,rfl,i4.set i1' jj⟩),hs.z⟩
    | dict kvs =>
      obtain ⟨kvv,rfl,i4⟩:=oc'.dct
      simp only [putC] at e4
      by_cases hz:kvs.length < sizeLine∧isInst kvs=false
      · rw [if_pos hz] at e4
        obtain ⟨ky,e5,rfl⟩:=Option.map_eq_some_iff.mp e4
        have:=dKey_some e5
        subst this
        refine .inr ⟨q,kvv,ky,rfl,isD_keyD i2,hq',by rw [← i4.length]; exact hz.1,?_⟩
        exact k _ _ G2 (s1.trans s2) ⟨cl _ _ (.inr ⟨_,_,rfl,rfl,i4.put i1'⟩),hs.z⟩
      · rw [if_neg hz] at e4; cases e4
    | _=>cases hc
def sExtend (π:Pl) (f:Rho→Option PyData):Rho→Option Out:=fun ρ=>(getP π ρ).bind fun l=>(f ρ).bind fun d=>match l,d with
  | .list ds,.list es=>if ds.length + es.length ≤ sizeLine then some (.nx (setP π (.list (ds++es)) ρ)) else none
  | _,_=>none
theorem pos_extend {π:Pl}{o:Expr}{apos cpos:Pos} (ndO:O.Nodup) (ho:PP X o π) (he:PFO X O e f) (hO:π.ix∈O:=by decide) (hst:starEach [e] X.env=(false,eval e X.env) :: starEach [] X.env:=by rfl)
    (hbase:attributeBase o "extend" X.env (eval o X.env)=eval o X.env:=by rfl)
    (hfew:((backTo cpos (starEach [e] X.env)).all (fun x=>!x.1) && (backToKw cpos (keywordEach [] X.env)).all (fun x=>x.1.isSome) && decide (([e]:List Expr).length + ([]:List Keyword).length + (if ([]:List Keyword).isEmpty then 0 else 1) < 30))=true:=by rfl)
    (hline:(apos.endLine == cpos.line)=true:=by rfl) (hplain:(backTo cpos (starEach [] X.env)).any (·.1)=false:=by rfl)
    (hs:swapsWith (.Call (.Attribute o "extend" apos) [e] [] cpos) none pos.line X.env=pure false:=by rfl) :
    POS X m O (.Expr (.Call (.Attribute o "extend" apos) [e] [] cpos) pos) (sExtend π f) :=
  PS.imp (ps_expr (pe_bm PySem.F.plainAttrs_list PySem.F.slot_list_extend PySem.F.type_list_extend mt_extend ho (pa_cons he pa_nil hst) hbase hfew hline hst hplain) hs) fun D σ H ⟨ρ,o,G,hs,e,k⟩=>by
    obtain ⟨l,e1,ea⟩:=bind_some e
    obtain ⟨d,e2,eb⟩:=bind_some ea
    obtain ⟨ds,rfl⟩:∃ ds,l=.list ds:=by cases l <;> first | exact ⟨_,rfl⟩ | (cases d <;> cases eb)
    obtain ⟨es,rfl⟩:∃ es,d=.list es:=by cases d <;> first | exact ⟨_,rfl⟩ | cases eb
    dsimp only at eb
    by_cases hz:ds.length + es.length ≤ sizeLine
    · rw [if_pos hz] at eb
      cases eb
      obtain ⟨q,ob,r,hq,oc,_⟩:=hs.o.place ndO hO e1 rfl
      obtain ⟨vs,rfl,i4⟩:=oc.lst
      refine ⟨q,r,.inl ⟨rfl,vs,SqL.of hq⟩,ρ,_,G,hs.o,e2,fun v H' G' B' sH sG hs' fB ot=>?_⟩
      obtain ⟨b,ob,rfl,rfl,oc2⟩:=ot.cont rfl
      obtain ⟨zs,rfl,i5⟩:=oc2.lst
      obtain ⟨G2,s2,g2,hs2⟩:=hs'.grow fB.same
      obtain ⟨q',ob',r',hq',oc',cl⟩:=hs2.place ndO hO e1 rfl
      have:=RefP.eq r r' (sH.trans fB.same)
      subst this
      obtain ⟨vs',rfl,i4'⟩:=oc'.lst
      refine ⟨q,b,vs',zs,rfl,rfl,hq',joinB_in fB.nd (b,.lst zs) (by simp),by rw [← i4'.length,← i5.length]; exact hz,?_⟩
      exact k _ _ G2 (sG.trans s2) ⟨cl _ _ (.inl ⟨_,_,rfl,rfl,i4'.append (i5.same s2)⟩),hs.z⟩
    · rw [if_neg hz] at eb; cases eb
def sFldV (i:Nat) (c n:Str) (f:Rho→Option PyData):Rho→Option Out:=fun ρ=>(ρ[i]?).join.bind fun x=>(f ρ).bind fun d=>match x with
  | .dict ((.none,.str c') :: r)=>if c'=c∧ownFld c n=false∧r.length < 1000 then some (.nx (ρ.set i (some (.dict ((.none,.str c) :: setF n d r))))) else none
  | _=>none
theorem pos_fld (i:Nat) {c n x:Str}{pos' ep:Pos} (ndO:O.Nodup) (hC:FldOk X.K c n) (he:PV X O e f) (hO:i∈O:=by decide) (hN:X.N[i]?=some x:=by rfl) (hv:Vis X.env.scope x:=by first | exact Or.inl rfl | exact Or.inr (Or.inl rfl) | exact Or.inr (Or.inr rfl)) (hd:(x == ("__debug__":Str))=false:=by decide)
    (hcd:(x == ("__classdict__":Str))=false:=by decide) (hs:swapsWith e (some (.Attribute (.Name x ep) n pos')) pos.line X.env=pure false:=by rfl) :
    POS X m O (.Assign [.Attribute (.Name x ep) n pos'] e pos) (sFldV i c n f) :=
  PS.imp (ps_fld (pe_var hN hv hd hcd) he hs) fun D σ H ⟨ρ,o,G,hs,e,k⟩=>by
    obtain ⟨y,e1,ea⟩:=bind_some e
    obtain ⟨d,e2,eb⟩:=bind_some ea
    obtain ⟨C',g1,g2,g3⟩:=hC
    split at eb
    · rename_i c' r
      by_cases hz:c'=c∧ownFld c n=false∧r.length < 1000
      · rw [if_pos hz] at eb; cases eb
        obtain ⟨rfl,hz2,hz3⟩:=hz
        refine ⟨ρ,d,G,hs.o,e2,fun v H' G' _ sG hs' i'=>?_⟩
        obtain ⟨v0,Bl,B1,Br,e3,eH,fm,ot,k1,k2,cl,_⟩:=hs'.own ndO hO (join_some e1)
        obtain ⟨C,p,dx,fs,B',rfl,rfl,a4,a5⟩:=ot.inst
        have:=a4.uniq g1
        subst this
        have e4:∀ o':HO,Bl++(((p,o') :: (dx,HO.own p) :: B')++Br)=Bl++(p,o') :: ((dx,HO.own p) :: B'++Br):=fun o'=>by simp
        rw [e4] at eH fm
        refine ⟨_,e3,p,C,dx,fs,rfl,by rw [eH]; exact joinB_in fm.nd (p,.ins C dx fs) (by simp),g2,g3,by rw [a5.len]; exact hz3,?_⟩
        have ot':OwnT X.K G' (.dict ((.none,.str c') :: setF n d r)) (.ref p) ((p,.ins C dx (putF n v fs)) :: (dx,.own p) :: B'):=.inr ⟨c',C,p,dx,_,_,B',rfl,rfl,rfl,a4,a5.put hz2 i'⟩
        rw [eH,joinB_put fm.nd,← e4]
        exact k _ _ G' sG ⟨cl G' _ _ (.refl G') ot' (by rw [e4]; exact fm.put (by rw [← e4]; exact k1.append (ot'.okB.append k2))),hs.z⟩
      · rw [if_neg hz] at eb; cases eb
    · cases eb
def sFldN (i:Nat) (c n:Str) (f:Rho→Option PyData):Rho→Option Out:=fun ρ=>(ρ[i]?).join.bind fun x=>(f ρ).bind fun d=>match x with
  | .dict ((.none,.str c') :: r)=>if c'=c∧ownFld c n=true∧r.length < 1000∧getF n r=none∧isCont d=true then some (.nx (ρ.set i (some (.dict ((.none,.str c) :: setF n d r))))) else none
  | _=>none
theorem pos_fldN (i:Nat) {c n x:Str}{pos' ep:Pos} (ndO:O.Nodup) (hC:FldOk X.K c n) (he:PFO X O e f) (hO:i∈O:=by decide) (hN:X.N[i]?=some x:=by rfl) (hv:Vis X.env.scope x:=by first | exact Or.inl rfl | exact Or.inr (Or.inl rfl) | exact Or.inr (Or.inr rfl)) (hd:(x == ("__debug__":Str))=false:=by decide)
    (hcd:(x == ("__classdict__":Str))=false:=by decide) (hs:swapsWith e (some (.Attribute (.Name x ep) n pos')) pos.line X.env=pure false:=by rfl) :
    POS X m O (.Assign [.Attribute (.Name x ep) n pos'] e pos) (sFldN i c n f) :=
  PS.imp (ps_fld (pe_var hN hv hd hcd) he hs) fun D σ H ⟨ρ,o,G,hs,e,k⟩=>by
    obtain ⟨y,e1,ea⟩:=bind_some e
    obtain ⟨d,e2,eb⟩:=bind_some ea
    obtain ⟨C',g1,g2,g3⟩:=hC
    split at eb
    · rename_i c' r
      by_cases hz:c'=c∧ownFld c n=true∧r.length < 1000∧getF n r=none∧isCont d=true
      · rw [if_pos hz] at eb; cases eb
        obtain ⟨rfl,hz2,hz3,hz4,hz5⟩:=hz
        refine ⟨ρ,d,G,hs.o,e2,fun v H' G' B2 _ sG hs' fB ot2=>?_⟩
        obtain ⟨q,ob,rfl,rfl,oc⟩:=ot2.cont hz5
        obtain ⟨v0,Bl,B1,Br,e3,eH,fm,ot,k1,k2,cl,_⟩:=hs'.own ndO hO (join_some e1)
        obtain ⟨C,p,dx,fs,B',rfl,rfl,a4,a5⟩:=ot.inst
        have:=a4.uniq g1
        subst this
        have e4:∀ o':HO,Bl++(((p,o') :: (dx,HO.own p) :: (B'++[(q,ob)]))++Br)=Bl++(p,o') :: ((dx,HO.own p) :: (B'++[(q,ob)])++Br):=fun o'=>by simp
        have perm:((q,ob) :: (Bl++(((p,HO.ins C dx fs) :: (dx,HO.own p) :: B')++Br))).Perm (Bl++(((p,HO.ins C dx fs) :: (dx,HO.own p) :: (B'++[(q,ob)]))++Br)):=by
          have h1:Bl++(((p,HO.ins C dx fs) :: (dx,HO.own p) :: (B'++[(q,ob)]))++Br)=(Bl++((p,HO.ins C dx fs) :: (dx,HO.own p) :: B'))++((q,ob) :: Br):=by simp
          have h2:(q,ob) :: (Bl++(((p,HO.ins C dx fs) :: (dx,HO.own p) :: B')++Br))=(q,ob) :: ((Bl++((p,HO.ins C dx fs) :: (dx,HO.own p) :: B'))++Br):=by simp
          rw [h1,h2]
          exact List.perm_middle.symm
        have ok1:OkB (Bl++(((p,HO.ins C dx fs) :: (dx,HO.own p) :: (B'++[(q,ob)]))++Br)):=k1.append ((OkB.ins (a5.okB.append (.one oc.frm .nil))).append k2)
        have fm2:Frm G' ((q,ob) :: (Bl++(((p,HO.ins C dx fs) :: (dx,HO.own p) :: B')++Br))):=by
          have:=fm.join (A:=[(q,ob)]) (by rw [← eH]; exact fB)
          exact this
        have fm3:=fm2.perm perm ok1
        have eH2:joinB H' [(q,ob)]=joinB G' (Bl++(((p,HO.ins C dx fs) :: (dx,HO.own p) :: (B'++[(q,ob)]))++Br)):=by
          rw [← joinB_perm fm2.nd perm,eH]; rfl
        rw [e4] at eH2 fm3
        rw [eH2]
        refine ⟨_,e3,p,C,dx,fs,rfl,joinB_in fm3.nd (p,.ins C dx fs) (by simp),g2,g3,by rw [a5.len]; exact hz3,?_⟩
        have ot':OwnT X.K G' (.dict ((.none,.str c') :: setF n d r)) (.ref p) ((p,.ins C dx (putF n (.ref q) fs)) :: (dx,.own p) :: (B'++[(q,ob)])):=.inr ⟨c',C,p,dx,_,_,_,rfl,rfl,rfl,a4,a5.add hz2 oc hz4⟩
        rw [joinB_put fm3.nd,← e4]
        exact k _ _ G' sG ⟨cl G' _ _ (.refl G') ot' (by rw [e4]; exact fm3.put (by rw [← e4]; exact k1.append (ot'.okB.append k2))),hs.z⟩
      · rw [if_neg hz] at eb; cases eb
    · cases eb
def sAug (i:Nat) (op:Int→Int→Int) (f:Rho→Option PyData):Rho→Option Out:=fun ρ=>(ρ[i]?).join.bind fun x=>(f ρ).bind fun d=>match x,d with
  | .int a,.int b=>some (.nx (ρ.set i (some (.int (op a b)))))
  | _,_=>none
theorem pos_aug (i:Nat) {x:Str}{pos':Pos}{op:Operator}{o:Int→Int→Int} (hN:X.N.Nodup) (ho:PIp X op (ipI o)) (he:PV X O e f) (hO:i ∉ O:=by decide) (hi:X.N[i]?=some x:=by rfl) (hx:Loc X.env.scope x:=by first | exact Or.inl rfl | exact Or.inr rfl)
    (hf:X.fn x=true ∨ X.env.scope.names.lookup x=some .local:=by first | exact .inl rfl | exact .inr rfl | assumption):POS X m O (.AugAssign (.Name x pos') op e pos) (sAug i o f) :=
  PS.imp (ps_aug hN hi hx he ho hf) fun D σ H ⟨ρ,oo,G,hs,e,k⟩=>by
    obtain ⟨y,e1,ea⟩:=bind_some e
    obtain ⟨d,e2,eb⟩:=bind_some ea
    obtain ⟨j,rfl⟩:∃ j,y=.int j:=by cases y <;> first | exact ⟨_,rfl⟩ | (cases d <;> cases eb)
    obtain ⟨l,rfl⟩:∃ l,d=.int l:=by cases d <;> first | exact ⟨_,rfl⟩ | cases eb
    cases eb
    obtain ⟨v,e3,e4⟩:=hs.o.non i _ (join_some e1) hO
    refine ⟨v,e3,ρ,_,G,hs.o,e2,fun u H' G' _ sG hs' i'=>⟨j,l,IsD.int_iff.mp e4,IsD.int_iff.mp i',?_⟩⟩
    exact k _ _ G' sG (HasM.set ⟨hs',hs.z⟩ hO (IsD.int_iff.mpr rfl))
inductive Tg where
  | one (i:Nat) | many (is:List Nat)
def Tg.free (O:List Nat):Tg→Prop
  | .one i=>i ∉ O
  | .many is=>∀ i∈is,i ∉ O
instance {O:List Nat}:(t:Tg)→Decidable (t.free O)
  | .one i=>inferInstanceAs (Decidable (i ∉ O))
  | .many is=>inferInstanceAs (Decidable (∀ i∈is,i ∉ O))
def setAllD:Rho→List Nat→List PyData→Rho
  | ρ,i :: is,d :: ds=>setAllD (ρ.set i (some d)) is ds
  | ρ,_,_=>ρ
def bdT:Tg→PyData→Rho→Option Rho
  | .one i,d,ρ=>some (ρ.set i (some d))
  | .many is,.tuple ds,ρ=>if ds.length=is.length then some (setAllD ρ is ds) else none
  | _,_,_=>none
def setAllV:St→List Nat→List V→St
  | σ,i :: is,v :: vs=>setAllV (σ.set i (some v)) is vs
  | σ,_,_=>σ
def gT (K:W.Frag):Tg→TG
  | .one i=>gName i
  | .many is=>fun v σ H Q=>∃ p xs,v=.ref p∧SqT K H p xs∧xs.length=is.length∧Q (setAllV σ is xs) H
theorem HasM.setAll {K:W.Frag}{H G:Hp}:∀ {is:List Nat}{σ:St}{ρ:Rho}{ds:List PyData}{vs:List V},HasM m O K σ ρ H G→(∀ i∈is,i ∉ O)→IsDs K G ds vs→HasM m O K (setAllV σ is vs) (setAllD ρ is ds) H G
  | [],σ,ρ,ds,vs,h,_,_=>by
    cases ds <;> cases vs <;> exact h
  | i :: is,σ,ρ,[],vs,h,_,d=>by
    rw [IsDs.nil_iff.mp d]; exact h
  | i :: is,σ,ρ,d :: ds,vs,h,hi,ds'=>by
    obtain ⟨v,r,rfl,i1,i2⟩:=IsDs.cons_iff.mp ds'
    exact HasM.setAll (is:=is) (σ:=σ.set i (some v)) (ρ:=ρ.set i (some d)) (h.set (hi i (by simp)) i1) (fun j hj=>hi j (List.mem_cons_of_mem _ hj)) i2
theorem HasM.bind {K:W.Frag}{H G:Hp}{σ:St}{ρ ρ':Rho}{tg:Tg}{d:PyData}{v:V}{Q:St→Hp→Prop} (h:HasM m O K σ ρ H G) (hf:tg.free O) (i:IsD K G d v) (e:bdT tg d ρ=some ρ') (k:∀ σ',HasM m O K σ' ρ' H G→Q σ' H):gT K tg v σ H Q:=by
  cases tg with
  | one j=>cases e; exact k _ (h.set hf i)
  | many is =>
    cases d <;> try (simp [bdT] at e; done)
    rename_i ds
    dsimp only [bdT] at e
    by_cases hl:ds.length=is.length
    · rw [if_pos hl] at e
      cases e
      obtain ⟨p,vs,rfl,e2,e3⟩:=i.tuple_of
      exact ⟨p,vs,rfl,h.o.sub.seqT e2,by rw [← e3.length]; exact hl,k _ (h.setAll hf e3)⟩
    · rw [if_neg hl] at e; cases e
theorem pgT_one (i:Nat) {x:Str} (hN:X.N.Nodup) (hi:X.N[i]?=some x:=by rfl) (hx:Loc X.env.scope x:=by first | exact Or.inl rfl | exact Or.inr rfl) (hf:X.fn x=true ∨ X.env.scope.names.lookup x=some .local:=by first | exact .inl rfl | exact .inr rfl | assumption):PG X (.Name x pos) (gT X.K (.one i)):=pg_name hN hi hx hf
theorem pgT_two (i j:Nat) {x y:Str}{px py:Pos}{kt:Nat} (hc:X.calm=true) (hN:X.N.Nodup) (hi:X.N[i]?=some x:=by rfl) (hj:X.N[j]?=some y:=by rfl) (hx:Loc X.env.scope x:=by first | exact Or.inl rfl | exact Or.inr rfl) (hy:Loc X.env.scope y:=by first | exact Or.inl rfl | exact Or.inr rfl)
    (hf:X.fn x=true ∨ X.env.scope.names.lookup x=some .local:=by first | exact .inl rfl | exact .inr rfl | assumption) (hf2:X.fn y=true ∨ X.env.scope.names.lookup y=some .local:=by first | exact .inl rfl | exact .inr rfl | assumption)
    (hn:(assignEach [.Name x px,.Name y py] X.env).length=2:=by rfl) (hst:(assignEach [.Name x px,.Name y py] X.env).findIdx? (·.1)=none:=by rfl):PG X (.Tuple [.Name x px,.Name y py] kt pos) (gT X.K (.many [i,j])) :=
  PG.imp (pg_tup hc (pgs_cons (pg_name hN hi hx hf) (pgs_cons (pg_name hN hj hy hf2) pgs_nil)) hn hst) fun v σ H Q ⟨p,xs,e1,e2,e3,q⟩=>by
    refine ⟨p,xs,e1,e2,e3,?_⟩
    match xs,e3 with
    | [v1,v2],_=>exact ⟨v1,[v2],rfl,v2,[],rfl,rfl,q⟩
def sUnpO (f:Rho→Option PyData) (tg:Tg):Rho→Option Out:=fun ρ=>(f ρ).bind fun d=>(bdT tg d ρ).map .nx
end
end L2
end
section
set_option Elab.async false
set_option linter.all false
set_option maxRecDepth 100000
set_option maxHeartbeats 1000000
namespace L2
open PySem PySem.Spec PyProof.Rows
section
variable {X:Cx}{m:Md}{O:List Nat}{a b c e:Expr}{es:List Expr}{fa fb fc f:Rho→Option PyData}{pos p2:Pos}{ff:Rho→Option (List PyData)}{st:Stmt}{rest:List Stmt}{g h:Rho→Option Out}{gc:Rho→Option Bool}
def WalksO (K:W.Frag) (J:It) (ds:List PyData) (G:Hp):Prop :=
  ∀ H',Same G H'→(J.stop ds.length H')∧∀ (i:Nat) (d:PyData),ds[i]?=some d→J.go i H'∧∀ x H2,J.yld i H' x H2→Same H' H2∧∀ G',Same G G'→(∀ a,H' a=none→G' a=H2 a)→IsD K G' d x
def tOI (K:W.Frag) (q:Rho→Option (List PyData)):TI:=fun σ G R=>∃ ρ ds,HasD K G σ ρ∧q ρ=some ds∧∀ J G',Same G G'→WalksO K J ds G'→R J G'
def POI (X:Cx) (tg iter:Expr) (q:Rho→Option (List PyData)):Prop:=PI X tg iter (tOI X.K q)
theorem poi_seq {tg:Expr} (h:PD X e f):POI X tg e (qSeq f) :=
  PI.imp (PI.or (pi_list h) (pi_tup h)) fun σ H R ⟨ρ,ds,hs,e,k⟩=>by
    obtain ⟨d,e1,e2⟩:=bind_some e
    cases d <;> try (simp at e2; done)
    · cases e2
      refine .inl ⟨ρ,_,hs,e1,fun v H1 s1 i1=>?_⟩
      obtain ⟨p,vs,rfl,e2,e3⟩:=IsD.list_iff.mp i1
      refine ⟨p,rfl,⟨vs,e2⟩,k _ H1 s1 fun H' s'=>⟨⟨vs,s'.seq e2,by rw [e3.length]; exact Nat.le_refl _⟩,fun i d q=>?_⟩⟩
      obtain ⟨x,e4,e5⟩:=e3.get q
      refine ⟨⟨vs,x,s'.seq e2,e4⟩,fun y H2 ⟨r1,r2⟩=>?_⟩
      have:=r2 vs (s'.seq e2)
      rw [e4] at this; cases this
      subst r1
      exact ⟨.refl _,fun G' sG _=>e5.same sG⟩
    · cases e2
      refine .inr ⟨ρ,_,hs,e1,fun v H1 s1 i1=>?_⟩
      obtain ⟨p,vs,rfl,e2,e3⟩:=i1.tuple_of
      refine ⟨p,rfl,⟨vs,e2⟩,k _ H1 s1 fun H' s'=>⟨⟨vs,s'.seqT e2,by rw [e3.length]; exact Nat.le_refl _⟩,fun i d q=>?_⟩⟩
      obtain ⟨x,e4,e5⟩:=e3.get q
      refine ⟨⟨vs,x,s'.seqT e2,e4⟩,fun y H2 ⟨r1,r2⟩=>?_⟩
      have:=r2 vs (s'.seqT e2)
      rw [e4] at this; cases this
      subst r1
      exact ⟨.refl _,fun G' sG _=>e5.same sG⟩
theorem walksO_range {K:W.Frag} (lo:Int) (n:Nat) (G:Hp):WalksO K (Itr lo n) (intsD lo n) G:=fun H' s'=>by
  refine ⟨by show n ≤ (intsD lo n).length; simp [intsD],fun i d q=>?_⟩
  have hi:i < n:=by
    have:=(List.getElem?_eq_some_iff.mp q).1
    simpa [intsD] using this
  refine ⟨hi,fun x H2 ⟨r1,r2⟩=>?_⟩
  have:d=.int (lo + (i:Nat)):=by
    unfold intsD at q
    rw [List.getElem?_map,List.getElem?_range hi] at q
    cases q; rfl
  subst this r2 r1
  exact ⟨.refl _,fun G' _ _=>IsD.int_iff.mpr rfl⟩
theorem poi_range1 {tg:Expr}{p:Pos} (hg:Gl X "range") (hm:X.mg "range"=none) (h:PD X e f) (hs:starEach [e] X.env=[(false,eval e X.env)]:=by rfl):POI X tg (.Call (.Name "range" p) [e] [] pos) (qRange1 f) :=
  PI.imp (pi_range1 hg hm (pa_cons h pa_nil (by rw [hs]; rfl)) hs) fun σ H R ⟨ρ,ds,hs,e,k⟩=>by
    obtain ⟨d,e1,e2⟩:=bind_some e
    cases d <;> try (simp at e2; done)
    rename_i j
    dsimp only at e2
    by_cases hj:-(2 ^ 62) ≤ j∧j < 2 ^ 62
    · rw [if_pos hj] at e2
      cases e2
      exact ⟨ρ,_,hs,e1,fun v H1 s1 i1=>⟨j,by rw [IsD.int_iff.mp i1],hj.1,hj.2,k _ H1 s1 (walksO_range 0 _ H1)⟩⟩
    · rw [if_neg hj] at e2; cases e2
def POJ (X:Cx) (O:List Nat) (tg iter:Expr) (q:Rho→Option (List PyData)):Prop:=PI X tg iter (fun σ H R=>∃ ρ ds G,HasO O X.K σ ρ H G∧q ρ=some ds∧∀ J H' G',Same H H'→Same G G'→HasO O X.K σ ρ H' G'→WalksO X.K J ds G'→R J H')
def qFr (O:List Nat) (q:Rho→Option (List PyData)):Rho→Option (List PyData):=fun ρ=>q (eraseO O ρ)
theorem poj_fr {tg iter:Expr}{q:Rho→Option (List PyData)} (hi:POI X tg iter q):POJ X O tg iter (qFr O q) :=
  PI.imp (PI.frame hi) fun σ H R ⟨ρ,ds,G,hs,e1,k⟩=>by
    obtain ⟨B,eH,fm,own⟩:=hs.ex
    refine ⟨G,B,eH,fm,eraseO O ρ,ds,hs.rest,e1,fun J G' sG w fm'=>?_⟩
    subst eH
    exact k J _ G' (joinB_same fm.nd sG) sG (HasO.framed hs.len own hs.non sG fm') w
def sForO (q:Rho→Option (List PyData)) (tg:Tg) (g:Rho→Option Out):Rho→Option Out:=fun ρ=>(q ρ).bind fun ds=>forD (bdT tg) g ds ρ
theorem pos_for {tg iter:Expr}{t:Tg}{body:List Stmt}{q:Rho→Option (List PyData)} (hp:PassesOwn (model X.prog X.w) X.A X.env X.xe) (hc:X.calm=true) (hi:POJ X O tg iter q) (hg:PG X tg (gT X.K t)) (hO:t.free O) (hb:POSs X m O body g)
    (hs:∀ x,foldedSetIterable iter X.env x=pure x:=by intro _; rfl):POS X m O (.For tg iter body [] pos) (sForO q t g) :=
  PS.imp (ps_for hp hc hi hg hb hs) fun D σ H ⟨ρ,o,G0,hs,e,k⟩=>by
    obtain ⟨ds,e1,e2⟩:=bind_some e
    refine ⟨ρ,ds,G0,hs.o,e1,fun J H1 G1 _ s1 h1 w=>?_⟩
    refine ⟨fun i mm σ' H'=>mm=ds.length - i∧i ≤ ds.length∧∃ ρ' G',Same G1 G'∧HasM m O X.K σ' ρ' H' G'∧forD (bdT t) g (ds.drop i) ρ'=some o,⟨ds.length,by simp,Nat.zero_le _,ρ,G1,.refl _,⟨h1,hs.z⟩,by simpa using e2⟩,?_⟩
    rintro i mm σ' H' ⟨rfl,hi,ρ',G',sG,hs',e3⟩
    obtain ⟨w1,w2⟩:=w H' (sG.trans hs'.o.sub)
    by_cases hlt:i < ds.length
    · right
      have hd:ds[i]?=some ds[i]:=List.getElem?_eq_getElem hlt
      obtain ⟨w3,w4⟩:=w2 i _ hd
      rw [List.drop_eq_getElem_cons hlt] at e3
      unfold forD at e3
      obtain ⟨o1,e4,e5⟩:=bind_some e3
      obtain ⟨ρ1,e6,e7⟩:=bind_some e4
      refine ⟨w3,fun σ3 H3=>∃ ρ3 G3,Same G1 G3∧HasM m O X.K σ3 ρ3 H3 G3∧forD (bdT t) g (ds.drop (i + 1)) ρ3=some o,fun σ3 H3 ⟨ρ3,G3,s3,h3,e8⟩=>⟨ds.length - (i + 1),by omega,rfl,hlt,ρ3,G3,s3,h3,e8⟩,fun x H2 y=>?_⟩
      obtain ⟨r1,r2⟩:=w4 x H2 y
      obtain ⟨G2,s2,g2,hs2⟩:=hs'.o.grow r1
      have i4:=r2 G2 (sG.trans s2) g2
      refine HasM.bind (m:=m) ⟨hs2,hs'.z⟩ hO i4 e6 fun σ5 h5=>⟨ρ1,o1,G2,h5,e7,?_⟩
      have sG2:=sG.trans s2
      cases o1 with
      | nx ρ3=>exact fun σ6 H6 G6 s6 h6=>⟨ρ3,G6,sG2.trans s6,h6,e5⟩
      | ct ρ3=>exact fun σ6 H6 G6 s6 h6=>⟨ρ3,G6,sG2.trans s6,h6,e5⟩
      | bk ρ3 =>
        cases e5
        exact fun σ6 H6 G6 s6 h6=>k σ6 H6 G6 (s1.trans (sG2.trans s6)) h6
      | rt d =>
        cases e5
        exact RtO.later (s1.trans sG2) k
    · have e8:i=ds.length:=by omega
      subst e8
      rw [List.drop_length] at e3
      cases e3
      exact .inl ⟨w1,k σ' H' G' (s1.trans sG) hs'⟩
def whileD (c:Rho→Option Bool) (g:Rho→Option Out):Nat→Rho→Option Out
  | 0,_=>none
  | n + 1,ρ=>(c ρ).bind fun b=>if b=true then (g ρ).bind fun o=>match o with
    | .nx ρ'=>whileD c g n ρ'
    | .ct ρ'=>whileD c g n ρ'
    | .bk ρ'=>some (.nx ρ')
    | .rt d=>some (.rt d)
    else some (.nx ρ)
def wMost:Nat:=1000000
def sWhile (c:Rho→Option Bool) (g:Rho→Option Out):Rho→Option Out:=fun ρ=>whileD c g wMost ρ
theorem pos_while {body:List Stmt} (hp:PassesOwn (model X.prog X.w) X.A X.env X.xe) (hc:PDT X c gc) (hb:POSs X m O body g):POS X m O (.While c body [] pos) (sWhile gc g) :=
  PS.imp (ps_while hp hc hb) fun D σ H ⟨ρ,o,G0,hs,e,k⟩=>by
    refine ⟨fun n σ' H'=>∃ ρ' G',Same G0 G'∧HasM m O X.K σ' ρ' H' G'∧whileD gc g n ρ'=some o,⟨wMost,ρ,G0,.refl _,hs,e⟩,?_⟩
    rintro n σ' H' ⟨ρ',G',sG,hs',e1⟩
    cases n with
    | zero=>cases e1
    | succ n =>
      unfold whileD at e1
      obtain ⟨b,e2,e3⟩:=bind_some e1
      refine ⟨ρ',b,hs'.o.full,e2,fun H1 s1=>?_⟩
      obtain ⟨G1,sG1,_,hs1⟩:=hs'.o.grow s1
      cases b with
      | false =>
        rw [if_neg Bool.false_ne_true] at e3 ⊢
        cases e3
        exact k σ' H1 G1 (sG.trans sG1) ⟨hs1,hs'.z⟩
      | true =>
        rw [if_pos rfl] at e3 ⊢
        obtain ⟨o1,e4,e5⟩:=bind_some e3
        refine ⟨fun σ3 H3=>∃ ρ3 G3,Same G0 G3∧HasM m O X.K σ3 ρ3 H3 G3∧whileD gc g n ρ3=some o,fun σ3 H3 q=>⟨n,Nat.lt_succ_self n,q⟩,ρ',o1,G1,⟨hs1,hs'.z⟩,e4,?_⟩
        have sG2:=sG.trans sG1
        cases o1 with
        | nx ρ3=>exact fun σ6 H6 G6 s6 h6=>⟨ρ3,G6,sG2.trans s6,h6,e5⟩
        | ct ρ3=>exact fun σ6 H6 G6 s6 h6=>⟨ρ3,G6,sG2.trans s6,h6,e5⟩
        | bk ρ3 =>
          cases e5
          exact fun σ6 H6 G6 s6 h6=>k σ6 H6 G6 (sG2.trans s6) h6
        | rt d =>
          cases e5
          exact RtO.later sG2 k
def spIO (K:W.Frag) (n:Nat) (f:List PyData→Option (PyData × PyData)):Sp:=fun vs H Q _=>∃ v0 rest d0 ds d d0' G B,vs=v0 :: rest∧H=joinB G B∧Frm G B∧OwnT K G d0 v0 B∧IsDs K G ds rest∧ds.length + 1=n∧f (d0 :: ds)=some (d,d0') ∧
  ∀ v G' B',Same G G'→Frm G' B'→OwnT K G' d0' v0 B'→IsD K G' d v→Q v (joinB G' B')
def runIO (N:List Str) (g:Rho→Option Out):List PyData→Option (PyData × PyData):=fun ds=>(g (startD N ds)).bind fun o=>match o with
  | .rt (.tuple [d,d0])=>some (d,d0)
  | .nx ρ=>(ρ[0]?).join.map fun d0=>(.none,d0)
  | _=>none
def sRetI (f:Rho→Option PyData):Rho→Option Out:=fun ρ=>(vSc f ρ).bind fun d=>(ρ[0]?).join.map fun d0=>.rt (.tuple [d,d0])
theorem HasM.out {v0:V}{K:W.Frag}{σ:St}{ρ:Rho}{H G:Hp}{d0:PyData} (ndO:O.Nodup) (hs:HasM (.io v0) O K σ ρ H G) (e:(ρ[0]?).join=some d0):∃ G' B,Same G G'∧H=joinB G' B∧Frm G' B∧OwnT K G' d0 v0 B:=by
  obtain ⟨z1,z2⟩:=hs.z v0 rfl
  obtain ⟨v,Bl,B1,Br,e2,eH,f,ot,k1,k2,_,_⟩:=hs.o.own ndO z1 (join_some e)
  rw [z2] at e2; cases e2
  have perm:(Bl++(B1++Br)).Perm (B1++(Bl++Br)):=by
    rw [← List.append_assoc,← List.append_assoc]
    exact List.Perm.append_right _ List.perm_append_comm
  have f2:Frm G (B1++(Bl++Br)):=f.perm perm (ot.okB.append (k1.append k2))
  have f3:=f2.appR (k1.append k2)
  exact ⟨joinB G (Bl++Br),B1,f3.same,by rw [eH,joinB_perm f.nd perm,joinB_app],f2.appL ot.okB,ot.same f3.same⟩
theorem pos_retI {v0:V} (ndO:O.Nodup) (h:PD X e f):POS X (.io v0) O (.Return (some e) pos) (sRetI f) :=
  PS.imp (ps_ret h) fun D σ H ⟨ρ,o,G,hs,e,k⟩=>by
    obtain ⟨d,e1,e2⟩:=bind_some e
    obtain ⟨d0,e3,rfl⟩:=Option.map_eq_some_iff.mp e2
    obtain ⟨e4,e5⟩:=vSc_some e1
    refine ⟨ρ,d,hs.o.full,e4,fun v H' s' i=>?_⟩
    obtain ⟨G1,sG,_,hs1⟩:=hs.o.grow s'
    obtain ⟨G2,B,s2,eH,fm,ot⟩:=HasM.out (σ:=σ) (ρ:=ρ) ndO ⟨hs1,hs.z⟩ e3
    obtain ⟨x,d0',ex,kk⟩:=k
    cases ex
    rw [eH]
    exact kk v G2 B (sG.trans s2) fm ot (i.scalD_any e5)
theorem fn_io {P:Program}{w:World}{K:W.Frag}{mg:Str→Option Value}{base:Heap}{x qual:Str}{st:Stmt}{fa:Addr}{fd:FuncData}{N ps:List Str}{k n:Nat}{O:List Nat}{g:Rho→Option Out} (F:Fun K x qual st fa fd) (S:FnScope N ps (defScope st)) (hn:n=ps.length) (h1:n ≠ 0) (ndO:(0 :: O).Nodup) (hO:∀ i∈O,n ≤ i)
    (hbody:∀ (v0:V) (cdv:Value) (A:Around) (outer:List Env) (s:Shared) (H:Hp) (E:XK),Room k (A.deeper (envOfC qual (defScope st) s.heap.objs.size fa cdv)) →
      POSs (cxOf CX0 P w K mg base N qual (defScope st) fa cdv A outer s H E).nox (.io v0) (0 :: O) (defBody st) g):FnOk P w K mg base CX0 (k + 1) fa fd ps (spIO K n (runIO N g)):=by
  refine F.ok S (fun vs H Q E ⟨v0,rest,d0,ds,d,d0',G,B,e1,_,_,_,i,l,_⟩=>by rw [e1,← hn,← l,List.length_cons,← i.length]) fun cdv A outer s H vs Q E hr ⟨v0,rest,d0,ds,d,d0',G,B,e1,eH,fm,ot,i,l,e,k⟩=>⟨_,hbody v0 cdv A outer s H E hr,?_⟩
  subst e1 eH
  obtain ⟨o,e1,e2⟩:=bind_some e
  have hfull:IsDs K (joinB G B) (d0 :: ds) (v0 :: rest):=IsDs.cons (ot.isD fm.same fun x hx=>joinB_in fm.nd x hx) (i.same fm.same)
  have hd:=hasD_start (N:=N) hfull
  have hl0:(startD N (d0 :: ds))[0]?=some (some d0):=rfl
  have none_at:∀ j∈O,((startD N (d0 :: ds))[j]?).join=none:=fun j hj=>by
    have:¬ j < (d0 :: ds).length:=by have:=hO j hj; rw [List.length_cons]; omega
    unfold startD
    rw [List.getElem?_append_right (by simpa using this),List.getElem?_replicate]
    split <;> rfl
  have own:∀ O':List Nat,(∀ j∈O',j∈O)→OwnL K (start N (v0 :: rest)) (startD N (d0 :: ds)) G O' []:=by
    intro O'
    induction O' with
    | nil=>intro _; rfl
    | cons j O' ih=>exact fun h=>.inl ⟨none_at j (h j (by simp)),ih fun i hi=>h i (List.mem_cons_of_mem _ hi)⟩
  obtain ⟨u0,hu0,hu0'⟩:=hd.2 0 d0 hl0
  have hs0:(start N (v0 :: rest))[0]?=some (some v0):=rfl
  refine ⟨startD N (d0 :: ds),o,G,⟨⟨hd.1,⟨B,rfl,fm,.inr ⟨d0,v0,B,[],hl0,hs0,by simp,ot,own O fun _ h=>h⟩⟩,fun j dj q hj=>?_⟩,fun v1 z=>⟨by simp,by cases z; exact hs0⟩⟩,e1,?_⟩
  · -- the other arguments are data
    have hj0:j ≠ 0:=fun z=>hj (by rw [z]; simp)
    have hd2:=hasD_start (K:=K) (H:=G) (N:=N) (vs:=v0 :: rest) (ds:=.none :: ds)
    have hh:IsDs K G ds rest:=i
    cases j with
    | zero=>exact absurd rfl hj0
    | succ j =>
      by_cases hlt:j < ds.length
      · have q':ds[j]?=some dj:=by
          unfold startD at q
          rw [List.map_cons,List.cons_append,List.getElem?_cons_succ,List.getElem?_append_left (by simpa using hlt),List.getElem?_map] at q
          cases z:ds[j]? with
          | none=>rw [z] at q; cases q
          | some y=>rw [z] at q; cases q; rfl
        obtain ⟨u,a1,a2⟩:=hh.get q'
        refine ⟨u,?_,a2⟩
        have hl2:j < rest.length:=(List.getElem?_eq_some_iff.mp a1).1
        unfold start
        rw [List.map_cons,List.cons_append,List.getElem?_cons_succ,List.getElem?_append_left (by simpa using hl2),List.getElem?_map,a1]
        rfl
      · unfold startD at q
        rw [List.map_cons,List.cons_append,List.getElem?_cons_succ,List.getElem?_append_right (by simpa using hlt),List.getElem?_replicate] at q
        split at q <;> cases q
  · cases o with
    | rt x =>
      split at e2
      · rename_i d1 d2 he
        cases he
        cases e2
        exact ⟨d,d0',rfl,k⟩
      · rename_i ρ he; cases he
      · cases e2
    | nx ρ' =>
      obtain ⟨d1,e3,e4⟩:=Option.map_eq_some_iff.mp e2
      cases e4
      intro σ H' G' sG hs
      obtain ⟨G2,B2,s2,eH,fm2,ot2⟩:=HasM.out ndO hs e3
      rw [eH]
      exact k .non G2 B2 (sG.trans s2) fm2 ot2 (IsD.none_iff.mpr rfl)
    | bk _=>cases e2
    | ct _=>cases e2
theorem fn_own {P:Program}{w:World}{K:W.Frag}{mg:Str→Option Value}{base:Heap}{x qual:Str}{st:Stmt}{fa:Addr}{fd:FuncData}{N ps:List Str}{k n:Nat}{O:List Nat}{g:Rho→Option Out} (F:Fun K x qual st fa fd) (S:FnScope N ps (defScope st)) (hn:n=ps.length) (hO:∀ i∈O,n ≤ i)
    (hbody:∀ (cdv:Value) (A:Around) (outer:List Env) (s:Shared) (H:Hp) (E:XK),Room k (A.deeper (envOfC qual (defScope st) s.heap.objs.size fa cdv)) →
      POSs (cxOf CX0 P w K mg base N qual (defScope st) fa cdv A outer s H E).nox .dat O (defBody st) g):FnOk P w K mg base CX0 (k + 1) fa fd ps (spD K n (runD N g)):=by
  refine F.ok S (fun vs H Q E ⟨ds,d,i,l,_⟩=>by rw [← i.length,l,hn]) fun cdv A outer s H vs Q E hr ⟨ds,d,i,l,e,k⟩=>⟨_,hbody cdv A outer s H E hr,?_⟩
  obtain ⟨o,e1,e2⟩:=bind_some e
  have hd:=hasD_start (N:=N) i
  have none_at:∀ i∈O,((startD N ds)[i]?).join=none:=fun j hj=>by
    have:¬ j < ds.length:=by have:=hO j hj; omega
    unfold startD
    rw [List.getElem?_append_right (by simpa using this),List.getElem?_replicate]
    split <;> rfl
  have own:∀ O':List Nat,(∀ i∈O',i∈O)→OwnL K (start N vs) (startD N ds) H O' []:=by
    intro O'
    induction O' with
    | nil=>intro _; rfl
    | cons j O' ih=>exact fun h=>.inl ⟨none_at j (h j (by simp)),ih fun i hi=>h i (List.mem_cons_of_mem _ hi)⟩
  refine ⟨startD N ds,o,H,⟨⟨hd.1,⟨[],rfl,Frm.nil,own O fun _ h=>h⟩,fun i d q _=>hd.2 i d q⟩,fun v0 z=>nomatch z⟩,e1,?_⟩
  cases o with
  | rt d'=>cases e2; exact k
  | nx ρ'=>cases e2; exact fun σ H' G' s' h'=>k .non H' (s'.trans h'.o.sub) (IsD.none_iff.mpr rfl)
  | bk _=>cases e2
  | ct _=>cases e2
def spF (K:W.Frag) (n:Nat) (f:List PyData→Option PyData):Sp:=fun vs H Q _=>∃ ds d,IsDs K H ds vs∧ds.length=n∧f ds=some d∧KO K H d Q
def runF (N:List Str) (g:Rho→Option Out):List PyData→Option PyData:=fun ds=>(g (startD N ds)).bind fun o=>match o with
  | .rt d=>some d
  | _=>none
theorem fn_new {P:Program}{w:World}{K:W.Frag}{mg:Str→Option Value}{base:Heap}{x qual:Str}{st:Stmt}{fa:Addr}{fd:FuncData}{N ps:List Str}{k n:Nat}{O:List Nat}{g:Rho→Option Out} (F:Fun K x qual st fa fd) (S:FnScope N ps (defScope st)) (hn:n=ps.length) (hO:∀ i∈O,n ≤ i)
    (hbody:∀ (cdv:Value) (A:Around) (outer:List Env) (s:Shared) (H:Hp) (E:XK),Room k (A.deeper (envOfC qual (defScope st) s.heap.objs.size fa cdv)) →
      POSs (cxOf CX0 P w K mg base N qual (defScope st) fa cdv A outer s H E).nox .own O (defBody st) g):FnOk P w K mg base CX0 (k + 1) fa fd ps (spF K n (runF N g)):=by
  refine F.ok S (fun vs H Q E ⟨ds,d,i,l,_⟩=>by rw [← i.length,l,hn]) fun cdv A outer s H vs Q E hr ⟨ds,d,i,l,e,k⟩=>⟨_,hbody cdv A outer s H E hr,?_⟩
  obtain ⟨o,e1,e2⟩:=bind_some e
  have hd:=hasD_start (N:=N) i
  have none_at:∀ i∈O,((startD N ds)[i]?).join=none:=fun j hj=>by
    have:¬ j < ds.length:=by have:=hO j hj; omega
    unfold startD
    rw [List.getElem?_append_right (by simpa using this),List.getElem?_replicate]
    split <;> rfl
  have own:∀ O':List Nat,(∀ i∈O',i∈O)→OwnL K (start N vs) (startD N ds) H O' []:=by
    intro O'
    induction O' with
    | nil=>intro _; rfl
    | cons j O' ih=>exact fun h=>.inl ⟨none_at j (h j (by simp)),ih fun i hi=>h i (List.mem_cons_of_mem _ hi)⟩
  refine ⟨startD N ds,o,H,⟨⟨hd.1,⟨[],rfl,Frm.nil,own O fun _ h=>h⟩,fun i d q _=>hd.2 i d q⟩,fun v0 z=>nomatch z⟩,e1,?_⟩
  cases o with
  | rt d'=>cases e2; exact k
  | nx _=>cases e2
  | bk _=>cases e2
  | ct _=>cases e2
end
end L2
end
section
set_option Elab.async false
set_option linter.all false
set_option maxRecDepth 100000
set_option maxHeartbeats 1000000
namespace L2
open PySem PySem.Spec PyProof.Rows
structure OwnNew (P:Program) (w:World) (K:W.Frag) (mg:Str→Option Value) (base:Heap) (x:Str) (k n:Nat) (f:List PyData→Option PyData):Prop where
  ex:∃ a fd ps,FnOk P w K mg base CX0 k a fd ps (spF K n f)∧mg x=some (.ref a)∧W.keepIn K (.ref a)=true∧Binds K fd ps []
structure OwnIo (P:Program) (w:World) (K:W.Frag) (mg:Str→Option Value) (base:Heap) (x:Str) (k n:Nat) (f:List PyData→Option (PyData × PyData)):Prop where
  ex:∃ a fd ps,FnOk P w K mg base CX0 k a fd ps (spIO K n f)∧mg x=some (.ref a)∧W.keepIn K (.ref a)=true∧Binds K fd ps []
structure OwnCls (P:Program) (w:World) (K:W.Frag) (mg:Str→Option Value) (base:Heap) (c:Str) (k n:Nat) (f:List PyData→Option (PyData × PyData)):Prop where
  ex:∃ C a fd ps,ClsAt K c C∧mg c=some (.ref C)∧Mk K C a∧FnOk P w K mg base CX0 k a fd ps (spIO K n f)∧Binds K fd ps []
structure OwnMeth (P:Program) (w:World) (K:W.Frag) (mg:Str→Option Value) (base:Heap) (c m:Str) (k n:Nat) (f:List PyData→Option PyData):Prop where
  ex:∃ C a fd ps,ClsAt K c C∧Cls K C∧Meth K C m a∧FnOk P w K mg base CX0 k a fd ps (spD K n f)∧Binds K fd ps []
section
variable {X:Cx}{m:Md}{O:List Nat}{a b c e o:Expr}{es:List Expr}{fa fb fc f:Rho→Option PyData}{pos p2 p apos:Pos}{ff:Rho→Option (List PyData)}{st:Stmt}{rest:List Stmt}{g h:Rho→Option Out}{ga gc:Rho→Option Bool}{x:Str}{j k n:Nat}
theorem KO.kd {K:W.Frag}{H:Hp}{d:PyData}{Q:VK} (h:KD K H d Q):KO K H d Q:=fun v G' B' s fm ot=>h v _ (s.trans fm.same) (ot.isD fm.same fun x hx=>joinB_in fm.nd x hx)
theorem PF.pd (h:PF X e f):PD X e f:=PE.imp h fun σ H Q ⟨ρ,d,hs,e,k⟩=>⟨ρ,d,hs,e,KO.kd k⟩
theorem pf_own {F:List PyData→Option PyData} (N:OwnNew X.prog X.w X.K X.mg X.base x j n F) (hr:Room k X.A) (hg:Gl X x) (ha:PDA X (e :: es) ff) (hj:j ≤ k:=by decide) (hdb:(x == ("__debug__":Str))=false:=by decide)
    (he:starEach (e :: es) X.env=(false,eval e X.env) :: starEach es X.env:=by rfl) (hpl:(backTo pos (starEach es X.env)).any (·.1)=false:=by rfl):PF X (.Call (.Name x p) (e :: es) [] pos) (dFn n F ff):=by
  obtain ⟨a,fd,ps,Fn,mm,kp,b⟩:=N.ex
  refine PE.imp (pe_call (Fn.mono hj) hr hg mm kp b .nil pass0 ha hdb he hpl) fun σ H Q ⟨ρ,d,hs,e,k⟩=>?_
  obtain ⟨ds,e1,e2⟩:=bind_some e
  by_cases hl:ds.length=n
  · rw [if_pos hl] at e2
    exact ⟨ρ,ds,hs,e1,fun vs H1 s1 i1=>⟨ds,d,by rw [List.append_nil]; exact i1,hl,e2,k.later s1⟩⟩
  · rw [if_neg hl] at e2; cases e2
theorem KO.newL {K:W.Frag}{H:Hp}{vs:List V}{ds:List PyData}{Q:VK} (k:KO K H (.list ds) Q) (e:IsDs K H ds vs):∀ p,H p=none→Q (.ref p) (upd H p (.lst vs)):=fun p h =>
  k (.ref p) H [(p,.lst vs)] (.refl H) ⟨by simp,(fun x hx=>by simp at hx; subst hx; exact h),.one True.intro .nil⟩ (.inl ⟨p,_,rfl,rfl,.inl ⟨_,vs,rfl,rfl,e⟩⟩)
def dSliceL (f:Rho→Option PyData) (l h:FO):Rho→Option PyData:=fun ρ=>(f ρ).bind fun x=>(l ρ).bind fun lo=>(h ρ).bind fun hi=>match x with | .list xs=>some (.list (cutL xs lo hi)) | _=>none
theorem pf_slice {lo hi:Option Expr}{l h:FO} (he:PD X e f) (hl:PDO X lo l) (hu:PDO X hi h):PF X (.Subscript e (.Slice lo hi none p2) pos) (dSliceL f l h) :=
  PE.imp (pe_slice sl_list he hl hu) fun σ H Q ⟨ρ,d,hs,e,k⟩=>by
    obtain ⟨x,e1,e2⟩:=bind_some e
    obtain ⟨lo',e3,e4⟩:=bind_some e2
    obtain ⟨hi',e5,e6⟩:=bind_some e4
    obtain ⟨xs,rfl⟩:∃ xs,x=.list xs:=by cases x <;> first | exact ⟨_,rfl⟩ | cases e6
    cases e6
    refine ⟨ρ,_,hs,e1,fun v H1 s1 i1=>⟨ρ,lo',hs.same s1,e3,fun H2 s2=>⟨ρ,hi',hs.same (s1.trans s2),e5,fun H3 s3=>?_⟩⟩⟩
    obtain ⟨p,vs,rfl,q2,q3⟩:=IsD.list_iff.mp (i1.same (s2.trans s3))
    exact ⟨p,vs,rfl,q2,(k.later (s1.trans (s2.trans s3))).newL (q3.cut lo' hi')⟩
theorem cf_list:CallR X (.type "list") (fun xs H Q=>∃ ds c,IsDs X.K H ds xs∧dListOf ds=some c∧KO X.K H c Q):=by
  refine CallR.imp call_list_of fun xs H Q ⟨ds,c,i,e,k⟩=>?_
  match ds,e with
  | [.list ys],e =>
    cases e
    obtain ⟨v,rfl,h1⟩:=isDs_one i
    obtain ⟨p,vs,rfl,e2,e3⟩:=IsD.list_iff.mp h1
    exact ⟨p,vs,rfl,.inl e2,k.newL e3⟩
  | [.tuple ys],e =>
    cases e
    obtain ⟨v,rfl,h1⟩:=isDs_one i
    obtain ⟨p,vs,rfl,e2,e3⟩:=h1.tuple_of
    exact ⟨p,vs,rfl,.inr e2,k.newL e3⟩
def dMake (c:Str) (n:Nat) (F:List PyData→Option (PyData × PyData)) (ff:Rho→Option (List PyData)):Rho→Option PyData:=fun ρ=>(ff ρ).bind fun ds=>if ds.length + 1=n then (F (.dict [(.none,.str c)] :: ds)).bind fun r=>match r with | (.none,d)=>some d | _=>none else none
theorem make_ok {K:W.Frag}{c:Str}{C:Addr} (hC:ClsAt K c C) {F:List PyData→Option (PyData × PyData)}{H:Hp}{ds:List PyData}{vs:List V}{d:PyData}{Q:VK}{E:XK} (i1:IsDs K H ds vs) (hl:ds.length + 1=n) (e2:(F (.dict [(.none,.str c)] :: ds)).bind (fun r=>match r with | (.none,d)=>some d | _=>none)=some d) (k:KO K H d Q) :
    ∀ x dx,H x=none→H dx=none→dx ≠ x→spIO K n F (.ref x :: (vs++[])) (upd (upd H dx (.own x)) x (.ins C dx [])) (fun v H2=>v=.non∧Q (.ref x) H2) E:=by
  intro x dx hx hdx hne
  obtain ⟨r,e3,e4⟩:=bind_some e2
  obtain ⟨r1,r2⟩:=r
  have er:r1=.none∧r2=d:=by
    cases r1 <;> first | (cases e4; exact ⟨rfl,rfl⟩) | cases e4
  obtain ⟨rfl,rfl⟩:=er
  refine ⟨.ref x,vs++[],.dict [(.none,.str c)],ds,.none,r2,H,[(x,.ins C dx []),(dx,.own x)],rfl,rfl,⟨?_,fun y hy=>?_,.ins .nil⟩,.inr ⟨c,C,x,dx,[],[],[],rfl,rfl,rfl,hC,rfl,rfl⟩,by rw [List.append_nil]; exact i1,hl,e3,fun v G' B' s' fm ot iv=>⟨IsD.none_iff.mp iv,k _ G' B' s' fm ot⟩⟩
  · simp [Ne.symm hne]
  · rcases List.mem_cons.mp hy with e | hy
    · rw [e]; exact hx
    · have:y=(dx,HO.own x):=by simpa using hy
      rw [this]; exact hdx
theorem pf_make {cn:Str}{F:List PyData→Option (PyData × PyData)} (N:OwnCls X.prog X.w X.K X.mg X.base cn j n F) (hr:Room (k + 1) X.A) (hg:Gl X cn) (ha:PDA X (e :: es) ff) (hj:j ≤ k:=by decide) (hdb:(cn == ("__debug__":Str))=false:=by decide)
    (he:starEach (e :: es) X.env=(false,eval e X.env) :: starEach es X.env:=by rfl) (hpl:(backTo pos (starEach es X.env)).any (·.1)=false:=by rfl):PF X (.Call (.Name cn p) (e :: es) [] pos) (dMake cn n F ff):=by
  obtain ⟨C,a,fd,ps,hC,mm,M,Fn,b⟩:=N.ex
  refine PE.imp (pe_make M (Fn.mono hj) hr hg mm b .nil pass0 ha hdb he hpl) fun σ H Q ⟨ρ,d,hs,e,k⟩=>?_
  obtain ⟨ds,e1,e2⟩:=bind_some e
  by_cases hl:ds.length + 1=n
  · rw [if_pos hl] at e2
    exact ⟨ρ,ds,hs,e1,fun vs H1 s1 i1=>make_ok hC i1 hl e2 (k.later s1)⟩
  · rw [if_neg hl] at e2; cases e2
theorem pf_make0 {cn:Str}{F:List PyData→Option (PyData × PyData)} (N:OwnCls X.prog X.w X.K X.mg X.base cn j n F) (hr:Room (k + 1) X.A) (hg:Gl X cn) (hj:j ≤ k:=by decide) (hdb:(cn == ("__debug__":Str))=false:=by decide):PF X (.Call (.Name cn p) [] [] pos) (dMake cn n F aNil):=by
  obtain ⟨C,a,fd,ps,hC,mm,M,Fn,b⟩:=N.ex
  refine PE.imp (pe_make0 M (Fn.mono hj) hr hg mm b .nil pass0 hdb) fun σ H Q ⟨ρ,d,hs,e,k⟩=>?_
  obtain ⟨ds,e1,e2⟩:=bind_some e
  cases e1
  by_cases hl:([]:List PyData).length + 1=n
  · rw [if_pos hl] at e2
    exact make_ok hC IsDs.nil hl e2 k
  · rw [if_neg hl] at e2; cases e2
def dMethD (c mn:Str) (d:PyData):Bool:=match d with
  | .dict ((.none,.str c') :: r)=>decide (c'=c) && (getF mn r).isNone
  | _=>false
def dMeth (c mn:Str) (n:Nat) (F:List PyData→Option PyData) (f:Rho→Option PyData) (ff:Rho→Option (List PyData)):Rho→Option PyData:=fun ρ=>(f ρ).bind fun d=>if dMethD c mn d=true then (ff ρ).bind fun ds=>if ds.length + 1=n then F (d :: ds) else none else none
theorem meth_ins {K:W.Frag}{H:Hp}{c mn:Str}{d:PyData}{v:V} (h:dMethD c mn d=true) (i:IsD K H d v):∃ p C dx fs,v=.ref p∧ClsAt K c C∧H p=some (.ins C dx fs)∧fs.lookup mn=none:=by
  unfold dMethD at h
  split at h
  · rename_i c' r
    simp only [Bool.and_eq_true,decide_eq_true_eq,Option.isNone_iff_eq_none] at h
    obtain ⟨rfl,h2⟩:=h
    obtain ⟨p,C,dx,fs,e1,e2,e3,e4⟩:=i.ins_of
    exact ⟨p,C,dx,fs,e1,e2,e3,e4.none h2⟩
  · cases h
theorem pd_meth0 {cn mn:Str}{F:List PyData→Option PyData}{pl:Sem Bool} (N:OwnMeth X.prog X.w X.K X.mg X.base cn mn j n F) (ho:PD X o f) (hr:Room k X.A) (hj:j ≤ k:=by decide)
    (ht:eval (.Call (.Attribute o mn apos) [] [] pos) X.env=(do
      let ov ← eval o X.env
      standAt apos.atName
      let (f,first) ← holding [ov] (getMethod ov mn pl)
      callWith pos f first (backTo pos (starEach [] X.env)) (backToKw pos (keywordEach [] X.env))):=by rfl):PD X (.Call (.Attribute o mn apos) [] [] pos) (dMeth cn mn n F f aNil):=by
  obtain ⟨C,a,fd,ps,hC,hcl,hm,Fn,b⟩:=N.ex
  refine PE.imp (pe_meth0 (pl:=pl) ho hcl hm (Fn.mono hj) hr b .nil pass0 ht) fun σ H Q ⟨ρ,d,hs,e,k⟩=>?_
  obtain ⟨x,e1,e2⟩:=bind_some e
  by_cases hx:dMethD cn mn x=true
  · rw [if_pos hx] at e2
    obtain ⟨ds,e3,e4⟩:=bind_some e2
    cases e3
    by_cases hl:([]:List PyData).length + 1=n
    · rw [if_pos hl] at e4
      refine ⟨ρ,x,hs,e1,fun v H1 s1 i1=>?_⟩
      obtain ⟨p,C',dx,fs,rfl,h1,h2,h3⟩:=meth_ins hx i1
      have:=h1.uniq hC
      subst this
      exact ⟨p,dx,fs,rfl,h2,h3,[x],d,IsDs.cons i1 IsDs.nil,by simpa using hl,e4,k.later s1⟩
    · rw [if_neg hl] at e4; cases e4
  · rw [if_neg hx] at e2; cases e2
def PX (X:Cx) (O:List Nat) (e:Expr) (h:Rho→Option (PyData × Rho)):Prop:=PE X e (fun σ H Q=>∃ ρ d ρ' G,HasO O X.K σ ρ H G∧h ρ=some (d,ρ')∧∀ v H' G',Same G G'→HasO O X.K σ ρ' H' G'→(∀ F,IsD X.K F d v)→Q v H')
def hCall (O:List Nat) (i n:Nat) (F:List PyData→Option (PyData × PyData)) (ff:Rho→Option (List PyData)):Rho→Option (PyData × Rho):=fun ρ=>(ρ[i]?).join.bind fun d0=>(ff (eraseO O ρ)).bind fun ds=>if ds.length + 1=n then (F (d0 :: ds)).bind fun r=>if scalD r.1=true then some (r.1,ρ.set i (some r.2)) else none else none
theorem px_call (i:Nat) {y:Str}{ep:Pos}{F:List PyData→Option (PyData × PyData)} (N:OwnIo X.prog X.w X.K X.mg X.base x j n F) (ndO:O.Nodup) (hr:Room k X.A) (hg:Gl X x) (ha:PDA X es ff) (hO:i∈O:=by decide) (hj:j ≤ k:=by decide)
    (hN:X.N[i]?=some y:=by rfl) (hv:Vis X.env.scope y:=by first | exact Or.inl rfl | exact Or.inr (Or.inl rfl) | exact Or.inr (Or.inr rfl)) (hd:(y == ("__debug__":Str))=false:=by decide) (hcd:(y == ("__classdict__":Str))=false:=by decide) (hdb:(x == ("__debug__":Str))=false:=by decide)
    (he:starEach (.Name y ep :: es) X.env=(false,eval (.Name y ep) X.env) :: starEach es X.env:=by rfl) (hpl:(backTo pos (starEach es X.env)).any (·.1)=false:=by rfl):PX X O (.Call (.Name x p) (.Name y ep :: es) [] pos) (hCall O i n F ff):=by
  obtain ⟨a,fd,ps,Fn,mm,kp,b⟩:=N.ex
  refine PE.imp (PE.frame (pe_call (Fn.mono hj) hr hg mm kp b .nil pass0 (pa_cons (pe_var hN hv hd hcd) (PA.frame ha) he) hdb he hpl)) fun σ H Q ⟨ρ,d,ρ',G,hs,e,k⟩=>?_
  obtain ⟨d0,e1,e2⟩:=bind_some e
  obtain ⟨ds,e3,e4⟩:=bind_some e2
  by_cases hl:ds.length + 1=n
  · rw [if_pos hl] at e4
    obtain ⟨r,e5,e6⟩:=bind_some e4
    obtain ⟨r1,r2⟩:=r
    by_cases hsc:scalD r1=true
    · rw [if_pos hsc] at e6; cases e6
      obtain ⟨v0,Bl,B1,Br,e7,eH,fm,ot,k1,k2,cl,_⟩:=hs.own ndO hO (join_some e1)
      have perm:(Bl++(B1++Br)).Perm ((Bl++Br)++B1):=by
        rw [List.append_assoc]
        exact List.Perm.append_left _ List.perm_append_comm
      have f2:Frm G ((Bl++Br)++B1):=fm.perm perm ((k1.append k2).append ot.okB)
      have fB1:=f2.appR ot.okB
      refine ⟨joinB G B1,Bl++Br,by rw [eH,joinB_perm fm.nd perm,joinB_app],f2.appL (k1.append k2),v0,e7,G,B1,rfl,fB1,eraseO O ρ,ds,hs.rest,e3,fun vs G1 s1 i1 fB1'=>?_⟩
      refine ⟨v0,vs++[],d0,ds,r1,r2,G1,B1,rfl,rfl,fB1',ot.same s1,by rw [List.append_nil]; exact i1,hl,e5,fun v G2 B2 s2 fB2 ot2 iv fR=>?_⟩
      have sG:Same G G2:=s1.trans s2
      have f3:Frm G2 ((Bl++Br)++B2):=fB2.join fR
      have perm2:((Bl++Br)++B2).Perm (Bl++(B2++Br)):=by
        rw [List.append_assoc]
        exact List.Perm.append_left _ List.perm_append_comm
      have f4:Frm G2 (Bl++(B2++Br)):=f3.perm perm2 (k1.append (ot2.okB.append k2))
      have eH2:joinB (joinB G2 B2) (Bl++Br)=joinB G2 (Bl++(B2++Br)):=by rw [← joinB_app,joinB_perm f3.nd perm2]
      rw [eH2]
      exact k v _ G2 sG (cl G2 r2 B2 sG ot2 f4) fun F=>iv.scalD_any hsc
    · rw [if_neg hsc] at e6; cases e6
  · rw [if_neg hl] at e4; cases e4
def sExprX (h:Rho→Option (PyData × Rho)):Rho→Option Out:=fun ρ=>(h ρ).map fun r=>.nx r.2
theorem pos_exprX {h:Rho→Option (PyData × Rho)} (he:PX X O e h) (hs:swapsWith e none pos.line X.env=pure false:=by rfl):POS X m O (.Expr e pos) (sExprX h) :=
  PS.imp (ps_expr he hs) fun D σ H ⟨ρ,o,G,hs,e,k⟩=>by
    obtain ⟨r,e1,rfl⟩:=Option.map_eq_some_iff.mp e
    exact ⟨ρ,r.1,r.2,G,hs.o,e1,fun v H' G' sG hs' _=>k σ H' G' sG ⟨hs',hs.z⟩⟩
def sRetX (h:Rho→Option (PyData × Rho)):Rho→Option Out:=fun ρ=>(h ρ).bind fun r=>(r.2[0]?).join.map fun d0=>.rt (.tuple [r.1,d0])
theorem pos_retX {v0:V}{h:Rho→Option (PyData × Rho)} (ndO:O.Nodup) (he:PX X O e h):POS X (.io v0) O (.Return (some e) pos) (sRetX h) :=
  PS.imp (ps_ret he) fun D σ H ⟨ρ,o,G,hs,e,k⟩=>by
    obtain ⟨r,e1,e2⟩:=bind_some e
    obtain ⟨d0,e3,rfl⟩:=Option.map_eq_some_iff.mp e2
    refine ⟨ρ,r.1,r.2,G,hs.o,e1,fun v H' G' sG hs' iv=>?_⟩
    obtain ⟨G2,B,s2,eH,fm,ot⟩:=HasM.out (σ:=σ) (ρ:=r.2) ndO ⟨hs',hs.z⟩ e3
    obtain ⟨x,d0',ex,kk⟩:=k
    cases ex
    rw [eH]
    exact kk v G2 B (sG.trans s2) fm ot (iv G2)
def tXT (O:List Nat) (K:W.Frag) (h:Rho→Option (Bool × Rho)):TT:=fun σ H Q=>∃ ρ b ρ' G,HasO O K σ ρ H G∧h ρ=some (b,ρ')∧∀ H' G',Same G G'→HasO O K σ ρ' H' G'→Q b H'
def PXT (X:Cx) (O:List Nat) (e:Expr) (h:Rho→Option (Bool × Rho)):Prop:=PT X e (tXT O X.K h)
def PXW (X:Cx) (O:List Nat) (e:Expr) (h:Rho→Option (Bool × Rho)):Prop:=PW X e (tXT O X.K h)
def hT (h:Rho→Option (PyData × Rho)):Rho→Option (Bool × Rho):=fun ρ=>(h ρ).bind fun r=>match r with | (.bool b,ρ')=>some (b,ρ') | _=>none
theorem pxt_val {h:Rho→Option (PyData × Rho)} (he:PX X O e h) (ht:∀ whole,isTrue e X.env whole=(do let v ← whole; standAt e.pos; holding [v] (truthy v)):=by intro _; rfl):PXT X O e (hT h) :=
  PT.imp (pt_truth he ht) fun σ H Q ⟨ρ,b,ρ',G,hs,e,k⟩=>by
    obtain ⟨r,e1,e2⟩:=bind_some e
    obtain ⟨d,ρ2⟩:=r
    have er:d=.bool b∧ρ2=ρ':=by cases d <;> first | (cases e2; exact ⟨rfl,rfl⟩) | cases e2
    obtain ⟨rfl,rfl⟩:=er
    exact ⟨ρ,_,_,G,hs,e1,fun v H' G' sG hs' iv=>⟨b,truV_D (iv H') rfl,k H' G' sG hs'⟩⟩
def hNot (h:Rho→Option (Bool × Rho)):Rho→Option (Bool × Rho):=fun ρ=>(h ρ).map fun r=>(!r.1,r.2)
theorem pxt_not {h:Rho→Option (Bool × Rho)} (ha:PXT X O a h):PXT X O (.UnaryOp .Not a pos) (hNot h) :=
  PT.imp (pt_not ha) fun σ H Q ⟨ρ,b,ρ',G,hs,e,k⟩=>by
    obtain ⟨r,e1,e2⟩:=Option.map_eq_some_iff.mp e
    cases e2
    exact ⟨ρ,r.1,r.2,G,hs,e1,fun H' G' sG hs'=>k H' G' sG hs'⟩
def hOr (g:Rho→Option Bool) (h:Rho→Option (Bool × Rho)):Rho→Option (Bool × Rho):=fun ρ=>(g ρ).bind fun b=>if b=true then some (true,ρ) else h ρ
theorem pxw_or1 {h:Rho→Option (Bool × Rho)} (ha:PXT X O a h):PXW X O (.BoolOp .Or [a] pos) h:=pw_or1 ha
theorem pxw_or {rs:List Expr}{h:Rho→Option (Bool × Rho)} (ha:PDT X a ga) (hb:PXW X O (.BoolOp .Or (b :: rs) pos) h):PXW X O (.BoolOp .Or (a :: b :: rs) pos) (hOr ga h) :=
  PW.imp (pw_or ha hb) fun σ H Q ⟨ρ,b,ρ',G,hs,e,k⟩=>by
    obtain ⟨y,e1,e2⟩:=bind_some e
    refine ⟨ρ,y,hs.full,e1,fun H1 s1=>?_⟩
    obtain ⟨G1,sG,_,hs1⟩:=hs.grow s1
    cases y with
    | false=>rw [if_neg Bool.false_ne_true] at e2 ⊢; exact ⟨ρ,b,ρ',G1,hs1,e2,fun H2 G2 s2 hs2=>k H2 G2 (sG.trans s2) hs2⟩
    | true=>rw [if_pos rfl] at e2 ⊢; cases e2; exact k H1 G1 sG hs1
theorem pxt_w {h:Rho→Option (Bool × Rho)} (ha:PXW X O e h):PXT X O e h:=ha.pt
def sIfX (c:Rho→Option (Bool × Rho)) (g h:Rho→Option Out):Rho→Option Out:=fun ρ=>(c ρ).bind fun r=>if r.1=true then g r.2 else h r.2
theorem pos_ifX {sa sb:List Stmt}{hh:Rho→Option (Bool × Rho)} (hc:PXT X O c hh) (ha:POSs X m O sa g) (hb:POSs X m O sb h):POS X m O (.If c sa sb pos) (sIfX hh g h) :=
  PS.imp (ps_if hc ha hb) fun D σ H ⟨ρ,o,G,hs,e,k⟩=>by
    obtain ⟨r,e1,e2⟩:=bind_some e
    obtain ⟨b,ρ'⟩:=r
    refine ⟨ρ,b,ρ',G,hs.o,e1,fun H1 G1 sG hs1=>?_⟩
    cases b with
    | true=>rw [if_pos rfl] at e2 ⊢; exact ⟨ρ',o,G1,⟨hs1,hs.z⟩,e2,k.later sG⟩
    | false=>rw [if_neg Bool.false_ne_true] at e2 ⊢; exact ⟨ρ',o,G1,⟨hs1,hs.z⟩,e2,k.later sG⟩
end
end L2
end
section
set_option Elab.async false
set_option linter.all false
set_option maxRecDepth 100000
set_option maxHeartbeats 1000000
namespace L2
open PySem PySem.Spec PyProof.Rows PySem.Builtin PySem.Builtin.Str
theorem vals_strs:∀ (l:List (Str × Tok)),Vals ((l.map (·.1)).map V.str) (strValues l)
  | []=>.nil
  | (x,t) :: l=>.cons ⟨t,rfl⟩ (vals_strs l)
theorem strs_vals:∀ {xs:List Str}{its:List Value},Vals (xs.map V.str) its→∃ l:List (Str × Tok),its=strValues l∧l.map (·.1)=xs
  | [],_,r=>by cases r; exact ⟨[],rfl,rfl⟩
  | x :: xs,_,r=>by
    rw [List.map_cons] at r
    cases r with
    | cons h t =>
      obtain ⟨tk,rfl⟩:=h
      obtain ⟨l,rfl,e⟩:=strs_vals t
      exact ⟨(x,tk) :: l,rfl,by simp [e]⟩
def strsOf:List PyData→Option (List Str)
  | []=>some []
  | .str x :: r=>(strsOf r).map (x :: ·)
  | _ :: _=>none
theorem strsOf_some:∀ {ds:List PyData}{xs:List Str},strsOf ds=some xs→ds=xs.map .str
  | [],_,h=>by cases h; rfl
  | d :: r,xs,h=>by
    cases d <;> try (simp [strsOf] at h; done)
    obtain ⟨ys,e,rfl⟩:=Option.map_eq_some_iff.mp (show (strsOf r).map _=some xs from h)
    rw [strsOf_some e]; rfl
theorem strsOf_map:∀ xs:List Str,strsOf (xs.map .str)=some xs
  | []=>rfl
  | x :: xs=>by show (strsOf (xs.map .str)).map _=_; rw [strsOf_map xs]; rfl
theorem isDs_strs {K:W.Frag}{H:Hp}:∀ {xs:List Str}{vs:List V},IsDs K H (xs.map .str) vs→vs=xs.map .str
  | [],_,h=>IsDs.nil_iff.mp h
  | x :: xs,_,h=>by
    obtain ⟨v,r,rfl,a,b⟩:=IsDs.cons_iff.mp h
    rw [IsD.str_iff.mp a,isDs_strs b]; rfl
theorem isDs_strs_mk {K:W.Frag}{H:Hp}:∀ (xs:List Str),IsDs K H (xs.map .str) (xs.map .str)
  | []=>IsDs.nil
  | x :: xs=>IsDs.cons (IsD.str_iff.mpr rfl) (isDs_strs_mk xs)
section
variable {X:Cx}{O:List Nat}{a b c e o:Expr}{es:List Expr}{fa fb fc f:Rho→Option PyData}{pos p2 p apos cpos:Pos}{ff:Rho→Option (List PyData)}{ga gc:Rho→Option Bool}{x:Str}
def dMt (g:PyData→List PyData→Option PyData) (f:Rho→Option PyData) (ff:Rho→Option (List PyData)):Rho→Option PyData:=fun ρ=>(f ρ).bind fun d=>(ff ρ).bind fun ds=>match d with | .str z=>g (.str z) ds | _=>none
theorem pd_bmS {name:Str}{id:String}{g:PyData→List PyData→Option PyData} (slot:Slot "str" name id) (hty:typeOf (.builtin id)=pure (.type "method_descriptor")) (hm:MtR X id (fun x vs H Q=>∃ d ds c,IsD X.K H d x∧IsDs X.K H ds vs∧g d ds=some c∧KD X.K H c Q)) (ho:PD X o f) (ha:PDA X (e :: es) ff)
    (hbase:attributeBase o name X.env (eval o X.env)=eval o X.env:=by rfl)
    (hfew:((backTo cpos (starEach (e :: es) X.env)).all (fun x=>!x.1) && (backToKw cpos (keywordEach [] X.env)).all (fun x=>x.1.isSome)
      && decide ((e :: es).length + ([]:List Keyword).length + (if ([]:List Keyword).isEmpty then 0 else 1) < 30))=true:=by rfl)
    (hline:(apos.endLine == cpos.line)=true:=by rfl) (hs:starEach (e :: es) X.env=(false,eval e X.env) :: starEach es X.env:=by rfl) (hplain:(backTo cpos (starEach es X.env)).any (·.1)=false:=by rfl) :
    PD X (.Call (.Attribute o name apos) (e :: es) [] cpos) (dMt g f ff) :=
  PE.imp (pe_bm PySem.F.plainAttrs_str slot hty hm ho ha hbase hfew hline hs hplain) fun σ H Q ⟨ρ,d,hs,e,k⟩=>by
    obtain ⟨x,e1,e2⟩:=bind_some e
    obtain ⟨ds,e3,e4⟩:=bind_some e2
    obtain ⟨z,rfl⟩:∃ z,x=.str z:=by cases x <;> first | exact ⟨_,rfl⟩ | cases e4
    refine ⟨ρ,_,hs,e1,fun v H1 s1 i1=>⟨?_,ρ,ds,hs.same s1,e3,fun vs H2 s2 i2=>⟨_,ds,d,i1.same s2,i2,e4,k.later (s1.trans s2)⟩⟩⟩
    rw [IsD.str_iff.mp i1]; rfl
def dSplit (d:PyData) (ds:List PyData):Option PyData:=match d,ds with
  | .str x,[.str y]=>if (y.length == 0)=false∧x.length ≤ sizeLine∧(partsBetween x (occurrences x y 0 x.length (x.length + 1)) y.length).length ≤ sizeLine then some (.list ((Txt.split x y).map .str)) else none
  | _,_=>none
theorem mt_split:MtR X "str.split" (fun x vs H Q=>∃ d ds c,IsD X.K H d x∧IsDs X.K H ds vs∧dSplit d ds=some c∧KD X.K H c Q):=by
  intro pins s σ H v vs u us Q I rx rv h
  obtain ⟨d,ds,cc,i1,i2,e,k⟩:=h
  unfold dSplit at e
  split at e
  · rename_i x y
    by_cases hz:(y.length == 0)=false∧x.length ≤ sizeLine∧(partsBetween x (occurrences x y 0 x.length (x.length + 1)) y.length).length ≤ sizeLine
    · rw [if_pos hz] at e; cases e
      obtain ⟨hy,hsz,hsz2⟩:=hz
      rw [IsD.str_iff.mp i1] at rx
      obtain ⟨t,rfl⟩:=rx
      obtain ⟨v2,rfl,i3⟩:=isDs_one i2
      rw [IsD.str_iff.mp i3] at rv
      obtain ⟨u',rfl,t',rfl⟩:=rv.one
      have fin:∀ (l:List (Str × Tok)) (tk:Nat),l.map (·.1)=Txt.split x y→l.length ≤ sizeLine→EP X pins σ Q (.ref s.heap.objs.size) { s with heap:=s.heap.push { cls:=.type "list",data:=.seq (strValues l).toArray },toks:=tk }:=fun l tk hl hlen=>by
        have I':=I.lnew (t':=tk) (ys:=(l.map (·.1)).map V.str) (vals_strs l) (by simpa using hlen)
        refine ⟨.ref s.heap.objs.size,_,I',rfl,k.newL ?_ _ I.fresh⟩
        rw [hl]
        exact isDs_strs_mk _
      cases h1:(decide (x.length < y.length) || decide (strKind x < strKind y))
      · cases hf:(occurrences x y 0 x.length (x.length + 1)).isEmpty
        · refine call_meets F.slot_str_split (typeIs_str _ _ _) F.entry_str_split (F.args_str_split_2 _ _) (meets_str_split_sep x y t t' h1 hy hf hsz hsz2) ?_
          show EP X pins σ Q _ { s with toks:=_,heap:=s.heap.push { cls:=.type "list",data:=.seq (strsFrom s.toks (partsBetween x (occurrences x y 0 x.length (x.length + 1)) y.length)).toArray } }
          rw [strsFrom_eq]
          refine fin _ _ ((numbered_texts _ _).trans ((if_neg (ne_true_of_eq_false h1)).trans (if_neg (ne_true_of_eq_false hf))).symm) ?_
          have:=congrArg List.length (numbered_texts s.toks (partsBetween x (occurrences x y 0 x.length (x.length + 1)) y.length))
          rw [List.length_map] at this
          rw [this]; exact hsz2
        · exact call_meets F.slot_str_split (typeIs_str _ _ _) F.entry_str_split (F.args_str_split_2 _ _) (meets_str_split_not_found x y t t' h1 hy hf)
            (fin [(x,t)] s.toks ((if_neg (ne_true_of_eq_false h1)).trans (if_pos hf)).symm (by show 1 ≤ sizeLine; decide))
      · exact call_meets F.slot_str_split (typeIs_str _ _ _) F.entry_str_split (F.args_str_split_2 _ _) (meets_str_split_cannot_occur x y t t' h1)
          (fin [(x,t)] s.toks (if_pos h1).symm (by show 1 ≤ sizeLine; decide))
    · rw [if_neg hz] at e; cases e
  · cases e
def dJoin (d:PyData) (ds:List PyData):Option PyData:=match d,ds with
  | .str x,[.list ts]=>(strsOf ts).bind fun texts=>if JoinOk x texts=true then some (.str (Txt.join x texts)) else none
  | _,_=>none
theorem mt_join:MtR X "str.join" (fun x vs H Q=>∃ d ds c,IsD X.K H d x∧IsDs X.K H ds vs∧dJoin d ds=some c∧KD X.K H c Q):=by
  intro pins s σ H v vs u us Q I rx rv h
  obtain ⟨d,ds,cc,i1,i2,e,k⟩:=h
  unfold dJoin at e
  split at e
  · rename_i x ts
    obtain ⟨texts,e1,e2⟩:=bind_some e
    by_cases hz:JoinOk x texts=true
    · rw [if_pos hz] at e2; cases e2
      have:=strsOf_some e1
      subst this
      rw [IsD.str_iff.mp i1] at rx
      obtain ⟨t,rfl⟩:=rx
      obtain ⟨v2,rfl,i3⟩:=isDs_one i2
      obtain ⟨p,ws,rfl,sq,iw⟩:=IsD.list_iff.mp i3
      obtain ⟨u',rfl,ru⟩:=rv.one
      cases ru
      rw [isDs_strs iw] at sq
      obtain ⟨its,r,pl,_⟩:=I.list sq
      obtain ⟨l,rfl,el⟩:=strs_vals r
      exact SC.join pl.isList el hz fun t' tk=>⟨.str _,H,I.tok tk,⟨t',rfl⟩,k.here (IsD.str_iff.mpr rfl)⟩
    · rw [if_neg hz] at e2; cases e2
  · cases e
def dMulA (x y:PyData):Option PyData:=match x,y with
  | .str z,.int n=>if 0 ≤ n∧n ≤ 64∧z.length ≤ 64 then some (.str (Txt.mul z n)) else none
  | x,y=>dMul x y
theorem mulOk_small {z:Str}{n:Int} (h:0 ≤ n∧n ≤ 64∧z.length ≤ 64):MulOk z n:=mulOk_of 64 64 (by omega) (by omega) (by omega) (by decide) (by decide)
theorem op_mulS:OpR X (binaryOp .Mult) (fun x y H Q=>∃ z n,x=.str z∧y=.int n∧(0 ≤ n∧n ≤ 64∧z.length ≤ 64)∧Q (.str (Txt.mul z n)) H):=by
  intro pins s σ H x y v u Q I rx ry h
  obtain ⟨z,n,rfl,rfl,hz,q⟩:=h
  obtain ⟨t,rfl⟩:=rx
  obtain ⟨t',rfl⟩:=ry
  exact SB.mul (mulOk_small hz) fun t2 k=>⟨.str _,H,I.tok _,⟨t2,rfl⟩,q⟩
theorem od_mulA:OpD X (binaryOp .Mult) dMulA:=by
  refine OpR.imp (OpR.or od_mul op_mulS) fun x y H Q ⟨a,b,d,ia,ib,e,k⟩=>?_
  unfold dMulA at e
  split at e
  · rename_i z n
    by_cases hz:0 ≤ n∧n ≤ 64∧z.length ≤ 64
    · rw [if_pos hz] at e; cases e
      exact .inr ⟨z,n,IsD.str_iff.mp ia,IsD.int_iff.mp ib,hz,k.here (IsD.str_iff.mpr rfl)⟩
    · rw [if_neg hz] at e; cases e
  · exact .inl ⟨a,b,d,ia,ib,e,k⟩
def dLeA (x y:PyData):Option PyData:=match x,y with
  | .str a,.str b=>some (.bool (!decide (b.cps.toList < a.cps.toList)))
  | x,y=>dLe x y
theorem op_le_str:OpR X (compareOp .LtE) (fun x y H Q=>∃ i j,x=.str i∧y=.str j∧Q (.bl (!decide (j.cps.toList < i.cps.toList))) H):=by
  intro pins s σ H x y v u Q I rx ry h
  obtain ⟨i,j,rfl,rfl,q⟩:=h
  obtain ⟨t,rfl⟩:=rx
  obtain ⟨t',rfl⟩:=ry
  exact PySem.P.le_str (fin_bl I q rfl)
theorem od_leA:OpD X (compareOp .LtE) dLeA:=by
  refine OpR.imp (OpR.or od_le op_le_str) fun x y H Q ⟨a,b,d,ia,ib,e,k⟩=>?_
  unfold dLeA at e
  split at e
  · rename_i z n
    cases e
    exact .inr ⟨z,n,IsD.str_iff.mp ia,IsD.str_iff.mp ib,k.here (IsD.bool_iff.mpr rfl)⟩
  · exact .inl ⟨a,b,d,ia,ib,e,k⟩
def fChain (g g':PyData→PyData→Option PyData) (fa fb fc:Rho→Option PyData):Rho→Option Bool:=fun ρ=>(fa ρ).bind fun x=>(fb ρ).bind fun y=>(g x y).bind fun r=>(asB0 r).bind fun k=>if k=true then (fc ρ).bind fun z=>(g' y z).bind asB0 else some false
where asB0:PyData→Option Bool | .bool b=>some b | _=>none
theorem asB0_some {d:PyData}{b:Bool} (h:fChain.asB0 d=some b):d=.bool b:=by cases d <;> first | (cases h; rfl) | cases h
theorem pdt_chain {op op':CmpOp}{g g':PyData→PyData→Option PyData} (ho:OpD X (compareOp op) g) (ho':OpD X (compareOp op') g') (ha:PD X a fa) (hb:PD X b fb) (hc:PD X c fc)
    (hm:lastMarks [op,op'] [b,c]=false:=by with_unfolding_all rfl):PDT X (.Compare a [op,op'] [b,c] pos) (fChain g g' fa fb fc) :=
  PT.imp (pt_chain ho ho' ha hb hc hm) fun σ H Q ⟨ρ,b,hs,e,k⟩=>by
    obtain ⟨x,e1,q1⟩:=bind_some e
    obtain ⟨y,e2,q2⟩:=bind_some q1
    obtain ⟨r,e3,q3⟩:=bind_some q2
    obtain ⟨kk,e4,q4⟩:=bind_some q3
    have:=asB0_some e4
    subst this
    clear e q1 q2 q3
    refine ⟨ρ,x,hs,e1,fun v H1 s1 i1=>⟨ρ,y,hs.same s1,e2,fun u H2 s2 i2=>⟨x,y,.bool kk,i1.same s2,i2,e3,fun w H3 s3 i3=>⟨kk,IsD.bool_iff.mp i3,?_⟩⟩⟩⟩
    cases kk with
    | false =>
      rw [if_neg Bool.false_ne_true] at q4 ⊢
      cases q4
      exact ⟨false,rfl,k H3 (s1.trans (s2.trans s3))⟩
    | true =>
      rw [if_pos rfl] at q4 ⊢
      obtain ⟨z,e5,q5⟩:=bind_some q4
      obtain ⟨r2,e6,e7⟩:=bind_some q5
      have:=asB0_some e7
      subst this
      exact ⟨ρ,z,hs.same (s1.trans (s2.trans s3)),e5,fun w2 H4 s4 i4=>⟨y,z,.bool b,i2.same (s3.trans s4),i4,e6,fun w3 H5 s5 i5=>⟨b,IsD.bool_iff.mp i5,k H5 (s1.trans (s2.trans (s3.trans (s4.trans s5))))⟩⟩⟩
def dFv (f:Rho→Option PyData):Rho→Option PyData:=fun ρ=>(f ρ).bind fun d=>match d with | .str x=>if x.length ≤ sizeLine then some (.str x) else none | _=>none
theorem dFv_some {ρ:Rho}{d:PyData} (h:dFv f ρ=some d):∃ x,f ρ=some (.str x)∧d=.str x∧x.length ≤ sizeLine:=by
  obtain ⟨x,e1,e2⟩:=bind_some h
  obtain ⟨y,rfl⟩:∃ y,x=.str y:=by cases x <;> first | exact ⟨_,rfl⟩ | cases e2
  dsimp only at e2
  by_cases hy:y.length ≤ sizeLine
  · rw [if_pos hy] at e2; cases e2; exact ⟨y,e1,rfl,hy⟩
  · rw [if_neg hy] at e2; cases e2
theorem pd_fv (he:PD X e f):PD X (.FormattedValue e (-1) none pos) (dFv f):=by
  intro pins s σ H Q I ⟨ρ,d,hs,e1,k⟩
  obtain ⟨x,e2,rfl,hx⟩:=dFv_some e1
  refine wpAny_FormattedValue_plain (thn (he pins s σ H (fun v H'=>v=.str x∧Same H H') I ⟨ρ,_,hs,e2,fun v H' s' i=>⟨IsD.str_iff.mp i,s'⟩⟩) fun v s1 ⟨y,H1,I1,r1,q1,q2⟩=>?_)
  subst q1
  obtain ⟨t,rfl⟩:=r1
  have fin:∀ t' tk,EP X pins σ Q (.str x t') { s1 with toks:=tk }:=fun t' tk=>⟨.str x,H1,I1.tok tk,⟨t',rfl⟩,(k.later q2).here (IsD.str_iff.mpr rfl)⟩
  exact wpAny_formatField_str (fin t s1.toks) (fin _ _) hx
def PJ (X:Cx) (es:List Expr) (fj:Rho→Option Str):Prop :=
  ∀ (acc:Str) (pins:List (Addr × Obj)) (s:Shared) (σ:St) (H:Hp) (Q:Str→Shared→Prop),Inv X pins σ H s→(∃ ρ z,HasD X.K H σ ρ∧fj ρ=some z∧(acc++z).length ≤ sizeLine∧∀ H' s',Same H H'→Inv X pins σ H' s'→Q (acc++z) s') →
    Joins (model X.prog X.w) X.A X.xe (evalEach es X.env) acc Q s
theorem str_append_nil (a:Str):a++Str.empty=a:=by
  cases a with | mk c=>show Str.mk (c++#[])=Str.mk c; rw [Array.append_empty]
theorem str_append_assoc (a b c:Str):a++b++c=a++(b++c):=by
  cases a with | mk x=>cases b with | mk y=>cases c with | mk z=>show Str.mk (x++y++z)=Str.mk (x++(y++z)); rw [Array.append_assoc]
theorem str_length_append (a b:Str):(a++b).length=a.length + b.length:=strLen_append ..
theorem pj_nil:PJ X [] (fun _=>some Str.empty):=by
  intro acc pins s σ H Q I ⟨ρ,z,hs,e,hz,k⟩
  cases e
  have:=k H s (.refl H) I
  rw [str_append_nil] at this
  exact this
def jCons (f:Rho→Option PyData) (g:Rho→Option Str):Rho→Option Str:=fun ρ=>(f ρ).bind fun d=>(g ρ).bind fun z=>match d with | .str y=>some (y++z) | _=>none
theorem pj_cons (he:PD X e f) {fj:Rho→Option Str} (hr:PJ X es fj) (hev:evalEach (e :: es) X.env=eval e X.env :: evalEach es X.env:=by rfl):PJ X (e :: es) (jCons f fj):=by
  intro acc pins s σ H Q I ⟨ρ,z,hs,e1,hz,k⟩
  obtain ⟨d,e2,e3⟩:=bind_some e1
  obtain ⟨z',e4,e5⟩:=bind_some e3
  obtain ⟨y,rfl⟩:∃ y,d=.str y:=by cases d <;> first | exact ⟨_,rfl⟩ | cases e5
  cases e5
  rw [hev]
  refine thn (he pins s σ H (fun v H'=>v=.str y∧Same H H') I ⟨ρ,_,hs,e2,fun v H' s' i=>⟨IsD.str_iff.mp i,s'⟩⟩) fun v s1 ⟨x,H1,I1,r1,q1,q2⟩=>?_
  subst q1
  obtain ⟨t,rfl⟩:=r1
  have hl:(acc++y).length ≤ sizeLine:=by rw [str_length_append] at hz ⊢; rw [str_length_append] at hz; omega
  refine ⟨y,t,rfl,hl,hr (acc++y) pins s1 σ H1 Q I1 ⟨ρ,z',hs.same q2,e4,by rw [str_append_assoc]; exact hz,fun H' s' sH I'=>?_⟩⟩
  rw [str_append_assoc]
  exact k H' s' (q2.trans sH) I'
def dFs (fj:Rho→Option Str):Rho→Option PyData:=fun ρ=>(fj ρ).bind fun z=>if z.length ≤ sizeLine then some (.str z) else none
theorem pd_fstr {v1 v2:Expr}{rest:List Expr}{fj:Rho→Option Str} (hj:PJ X (v1 :: v2 :: rest) fj):PD X (.JoinedStr (v1 :: v2 :: rest) pos) (dFs fj):=by
  intro pins s σ H Q I ⟨ρ,d,hs,e1,k⟩
  obtain ⟨z,e2,e3⟩:=bind_some e1
  by_cases hz:z.length ≤ sizeLine
  · rw [if_pos hz] at e3; cases e3
    have e0:Str.empty++z=z:=by cases z with | mk c=>show Str.mk (#[]++c)=Str.mk c; rw [Array.empty_append]
    refine wpAny_JoinedStr (hj Str.empty pins s σ H _ I ⟨ρ,z,hs,e2,by rw [e0]; exact hz,fun H' s' sH I'=>?_⟩)
    rw [e0]
    exact ⟨hz,.str z,H',I'.tok _,⟨_,rfl⟩,(k.later sH).here (IsD.str_iff.mpr rfl)⟩
  · rw [if_neg hz] at e3; cases e3
def firstAt (p:PyData→Bool):List PyData→Nat→Option Nat
  | [],_=>none
  | d :: ds,k=>if p d=true then some k else firstAt p ds (k + 1)
def dIndex (l:PyData) (ds:List PyData):Option PyData:=match l,ds with
  | .list xs,[x]=>if SeqAt.shaped x=true∧xs.all SeqAt.shaped=true∧x.depth ≤ 60∧xs.length ≤ sizeLine then (firstAt (fun y=>PyData.eqv y x) xs 0).map fun (j:Nat)=>PyData.int (j:Int) else none
  | _,_=>none
theorem firstAt_some {p:PyData→Bool}:∀ {ds:List PyData}{k j:Nat},firstAt p ds k=some j→k ≤ j∧j - k < ds.length∧(∃ d,ds[j - k]?=some d∧p d=true)∧∀ i d,i < j - k→ds[i]?=some d→p d=false
  | [],_,_,h=>by cases h
  | x :: ds,k,j,h=>by
    unfold firstAt at h
    by_cases hx:p x=true
    · rw [if_pos hx] at h; cases h
      refine ⟨Nat.le_refl _,by simp,⟨x,by simp,hx⟩,fun i d hi=>by omega⟩
    · rw [if_neg hx] at h
      obtain ⟨h1,h2,⟨d,h3,h4⟩,h5⟩:=firstAt_some h
      have e:j - k=(j - (k + 1)) + 1:=by omega
      refine ⟨by omega,by rw [e]; simpa using h2,⟨d,by rw [e]; simpa using h3,h4⟩,fun i y hi hy=>?_⟩
      cases i with
      | zero=>simp at hy; subst hy; simpa using hx
      | succ i=>exact h5 i y (by omega) (by simpa using hy)
end
end L2
end
section
set_option Elab.async false
set_option linter.all false
set_option maxRecDepth 100000
set_option maxHeartbeats 1000000
namespace PySem
open Builtin
namespace F
end F
section
variable {prog:Program}{w:World}{K:Type} [DecidableEq K] {knd:KeyKind prog w K}{A:Around}{E:Value→Shared→Prop}{s:Shared}
end
end PySem
namespace L2
open PySem PySem.Spec PyProof.Rows
section
variable {X:Cx}{pins:List (Addr × Obj)}{σ:St}{H:Hp}{s:Shared}
end
end L2
end
section
set_option Elab.async false
set_option linter.all false
set_option maxRecDepth 100000
set_option maxHeartbeats 1000000
namespace PySem
open Builtin
section
variable {prog:Program}{w:World}{A:Around}{E:Value→Shared→Prop}{s:Shared}
abbrev Goes (prog:Program) (w:World) (A:Around) (R:Result→Shared→Prop):Fin→Shared→Prop:=fun fin s'=>match fin with
  | .done f=>R (.ok f) s'
  | .again c'=>c'.quiet=true∧codeAny (model prog w) A c' R s'
theorem q_call_list {x:Value}{Q:Value→Shared→Prop}
    (go:∀ h2 c,h2.get? s.heap.objs.size=some { cls:=.type "list",data:=.seq #[] c }→(∀ b o,s.heap.get? b=some o→h2.get? b=some o) →
      wpAny (model prog w) A.in1.in1 (Builtin.List.listExtendWith (.ref s.heap.objs.size) x .none) (Goes prog w A.in1 (wants (fun r s₂=>r=.none∧Q (.ref s.heap.objs.size) s₂) E)) (fun e s'=>wants (fun r s₂=>r=.none∧Q (.ref s.heap.objs.size) s₂) E (.error e) s') { s with heap:=h2 }) :
    wpAny (model prog w) A (call (.type "list") [x]) Q E s:=by
  refine callType_codes (Q₁:=fun obj s₁=>obj=.ref s.heap.objs.size∧s₁={ s with heap:=s.heap.push { cls:=.type "list",data:=.seq #[] } }) F.called_list (F.typeCall_list_1 _) F.entry_list_init (code_list_new _ ⟨rfl,rfl⟩) fun obj s₁ h₁=>?_
  obtain ⟨rfl,rfl⟩:=h₁
  have at0:(s.heap.push { cls:=.type "list",data:=.seq #[] }).get? s.heap.objs.size=some { cls:=.type "list",data:=.seq #[] }:=Heap.get?_push_size _ rfl
  refine ⟨⟨_,at0,rfl⟩,F.args_list_init_2 _ _,?_⟩
  show wpAny _ A.in1.in1 (do
    let old ← Builtin.List.listItems (.ref s.heap.objs.size)
    Builtin.List.listUpdate (.ref s.heap.objs.size) (fun _=>#[])
    letGo old.toList.reverse
    Builtin.List.listExtendWith (.ref s.heap.objs.size) x .none) _ _ _
  refine wpAny_bind ?_
  unfold Builtin.List.listItems
  refine wpAny_bind (wpAny_seqItems at0 rfl (wpAny_pure ?_))
  show wpAny _ A.in1.in1 (updateSeq s.heap.objs.size (fun _=>#[]) >>= _) _ _ _
  refine wpAny_bind (wpAny_updateSeq at0 rfl (wpAny_bind (wpAny_letGo ?_)))
  refine go _ _ (Heap.get?_update_self (Obj.mapSeq fun _=>(#[]:Array Value)) at0 rfl) fun b o e=>?_
  have hb:s.heap.objs.size ≠ b:=fun z=>Nat.lt_irrefl _ (by have:=Heap.lt_size e; rw [← z] at this; exact this)
  exact (Heap.get?_update_other _ _ hb).trans (Heap.get?_push_of_some _ e)
variable {K:Type} [DecidableEq K] {knd:KeyKind prog w K}
theorem call_list_dict {d:Addr}{kvs:List (K × Value)}{Q:Value→Shared→Prop} (hh:A.handled=none) (hS:(d == sysModules)=false) (hd:s.heap.DictOf knd d kvs) (hn:kvs.length ≤ sizeLine)
    (h:∀ h' tk its c,its.size=kvs.length→(∀ (j:Nat) v,its[j]?=some v→∃ k x,kvs[j]?=some (k,x)∧knd.is k v=true)→h'.get? s.heap.objs.size=some { cls:=.type "list",data:=.seq its c }→(∀ b o,s.heap.get? b=some o→h'.get? b=some o)→Q (.ref s.heap.objs.size) { s with heap:=h',toks:=tk }) :
    wpAny (model prog w) A (call (.type "list") [.ref d]) Q E s:=by
  obtain ⟨ep,hat⟩:=hd.dictAt
  have dlt:d < s.heap.objs.size:=hat.lt_size
  refine q_call_list fun h2 c at2 kp=>?_
  have hat2:h2.DictAt knd d kvs ep:=hat.at' fun o e=>kp _ _ e
  have ty:Shared.TypeIs { s with heap:=h2 } (.ref d) "dict":=hat2.dictOf.typeIs
  have Slt:s.heap.objs.size < h2.objs.size:=Heap.lt_size at2
  unfold Builtin.List.listExtendWith
  refine wpAny_bind (wpAny_typeOf ty ?_)
  have n1:Builtin.List.listSameRef (.ref s.heap.objs.size) (.ref d)=false:=by simp [Builtin.List.listSameRef,Nat.ne_of_gt dlt]
  have n2:(Value.type "dict" == Value.type "list")=false:=by decide
  have n3:(Value.type "dict" == Value.type "tuple")=false:=by decide
  simp only [n1,n2,n3,Bool.or_false,Bool.false_eq_true,if_false]
  refine wpAny_bind (wpAny_pyIter_dict hS hat2 ?_)
  refine wpAny_bind (wpAny_holding ?_)
  have ty3:Shared.TypeIs { s with heap:=h2.push { cls:=.type "dict_keyiterator",data:=.fields #[.ref d,.int 0 0,.int kvs.length 0,.int ep 0] } } (.ref d) "dict":=(hat2.push _).dictOf.typeIs
  unfold Builtin.List.listLengthHint
  refine wpAny_bind (wpAny_specialOf ty3 F.slot_dict_len.lookup ?_)
  have sp:splitId "dict.__len__"=some ("dict","__len__"):=by kernel_rfl
  dsimp only
  rw [sp]
  dsimp only
  refine wpAny_bind (wpAny_isInstance ty3 isSubtype_dict_dict ?_)
  rw [if_neg (by decide),if_pos (by decide)]
  refine wpAny_bind (wpAny_typeOf ty3 ?_)
  show wpAny _ _ (pure false) _ _ _
  refine wpAny_pure ?_
  rw [if_pos (by decide)]
  refine wpAny_bind (wpAny_rule (wpAny_bind ?_))
  show wpAny _ _ (updateSeq s.heap.objs.size (·.push .none) >>= fun _=>updateSeq s.heap.objs.size (·.pop)) _ _ _
  have at3:(h2.push { cls:=.type "dict_keyiterator",data:=.fields #[.ref d,.int 0 0,.int kvs.length 0,.int ep 0] }).get? s.heap.objs.size=some { cls:=.type "list",data:=.seq #[] c }:=Heap.get?_push_of_some _ at2
  refine wpAny_bind (wpAny_updateSeq at3 rfl ?_)
  have at4:=Heap.get?_update_self (Obj.mapSeq (·.push Value.none)) at3 rfl
  refine wpAny_updateSeq (hz:=by seq_fits) at4 rfl ?_
  have at5:=Heap.get?_update_self (Obj.mapSeq (·.pop)) at4 rfl
  have oth:∀ b o,b ≠ s.heap.objs.size→(h2.push { cls:=.type "dict_keyiterator",data:=.fields #[.ref d,.int 0 0,.int kvs.length 0,.int ep 0] }).get? b=some o→(((h2.push { cls:=.type "dict_keyiterator",data:=.fields #[.ref d,.int 0 0,.int kvs.length 0,.int ep 0] }).update s.heap.objs.size (Obj.mapSeq (·.push Value.none))).update s.heap.objs.size (Obj.mapSeq (·.pop))).get? b=some o :=
    fun b o hb e=>(Heap.get?_update_other _ _ (Ne.symm hb)).trans ((Heap.get?_update_other _ _ (Ne.symm hb)).trans e)
  have hSI:s.heap.objs.size ∉ [h2.objs.size,d]:=by
    intro m
    rcases List.mem_cons.mp m with e | m
    · exact absurd e (Nat.ne_of_lt Slt)
    · exact absurd (by simpa using m) (Nat.ne_of_gt dlt)
  have dI:d ≠ h2.objs.size:=Nat.ne_of_lt (Nat.lt_trans dlt Slt)
  refine wpAny_pure ⟨plainId_quiet F.plain_extend_loop _,codeAny_extend_loopS (Walks.dictKeys (knd:=knd) (show A.in1.in1.handled=none from hh) h2.objs.size d dI kvs ep).toS hn _ hSI _ kvs.length 0 _ _ _ rfl (Nat.zero_le _) ⟨?_,?_⟩ at5 (ItemsOf.nil _) fun s' acc c' hm hS' hacc=>?_⟩
  · exact Heap.IsKeyIter.at ⟨_,Heap.get?_push_size _ rfl,rfl,rfl⟩ fun o e=>oth _ _ (Ne.symm (Nat.ne_of_lt Slt)) e
  · exact (hat2.push _).at' fun o e=>oth _ _ (Nat.ne_of_lt dlt) e
  · obtain ⟨h',g',d',tk',os'⟩:=s'
    have eg:g'=s.gens:=hm.gens
    have ed:d'=s.drawn:=hm.drawn
    have eo:os'=s.os:=hm.os
    subst eg ed eo
    refine ⟨rfl,h h' tk' acc c' hacc.1 (fun j v e=>hacc.2 j v e) hS' fun b o e=>?_⟩
    have bS:b ≠ s.heap.objs.size:=fun z=>Nat.lt_irrefl _ (by have:=Heap.lt_size e; rw [z] at this; exact this)
    have bI:b ≠ h2.objs.size:=fun z=>Nat.lt_irrefl h2.objs.size (Nat.lt_trans (by have:=Heap.lt_size e; rw [z] at this; exact this) Slt)
    refine hm.heap b o (by simp [bS,bI]) (oth b o bS (Heap.get?_push_of_some _ (kp b o e)))
end
end PySem
namespace PySem
open Builtin
section
variable {prog:Program}{w:World}{A:Around}{E:Value→Shared→Prop}{s:Shared}
end
end PySem
end
section
set_option Elab.async false
set_option linter.all false
set_option maxRecDepth 100000
set_option maxHeartbeats 1000000
namespace L2
open PySem PySem.Spec PyProof.Rows PySem.Builtin PySem.Builtin.Str
section
variable {X:Cx}{pins:List (Addr × Obj)}{σ:St}{H:Hp}{s:Shared}{h':Heap}
theorem Inv.turned2 {t':Nat}{i1 i2:Addr} (I:Inv X pins σ H s) (k:∀ b o,b ≠ i1→b ≠ i2→s.heap.get? b=some o→h'.get? b=some o) (f1:FpOk X pins H i1) (f2:FpOk X pins H i2):Inv X pins σ H { s with heap:=h',toks:=t' }:=by
  obtain ⟨n1,l1,_,x1,c1,p1⟩:=f1
  obtain ⟨n2,l2,_,x2,c2,p2⟩:=f2
  have out:∀ b u,H b=some u→b ≠ i1∧b ≠ i2:=fun b u e=>⟨(fun z=>by rw [z,n1] at e; cases e),(fun z=>by rw [z,n2] at e; cases e)⟩
  have mem:∀ b,b ∉ [i1,i2]→b ≠ i1∧b ≠ i2:=fun b hb=>⟨fun z=>hb (by simp [z]),fun z=>hb (by simp [z])⟩
  refine I.step (g':=s.gens) (d':=s.drawn) (ch:=[i1,i2]) ?_ (fun b o _ _ hc e _=>k b o (mem b hc).1 (mem b hc).2 e) (fun b o _ _ hc e _=>⟨o.slots,k b o (mem b hc).1 (mem b hc).2 e⟩) (fun _ _ _ _ n=>n)
    (fun b o hc e=>⟨o,k b o (mem b hc).1 (mem b hc).2 e⟩) (fun _ _ e=>e) (fun _ _ _ e=>e) (fun b ps e=>⟨#[],by rw [e]; simp⟩) ?_ ?_ I.bare
  · intro b hb
    rcases List.mem_cons.mp hb with e | hb
    · subst e; exact ⟨x1,l1,c1,p1⟩
    · have e:b=i2:=by simpa using hb
      subst e; exact ⟨x2,l2,c2,p2⟩
  · rintro m ⟨o,es,ep,ho,r⟩
    exact ⟨o,es,ep,k _ o (Ne.symm l1) (Ne.symm l2) ho,r⟩
  · intro b u e
    refine (I.hok b u e).stay (fun c v hc q=>?_) (fun _ q=>q) fun _ _ q=>q
    rcases hc with z | z
    · rw [z] at q ⊢; exact k _ _ (out b u e).1 (out b u e).2 q
    · exact k _ _ (out c _ z).1 (out c _ z).2 q
end
def Ite (K:W.Frag) (l:Addr):It where
  go:=fun i H=>∃ xs x,SqL K H l xs∧xs[i]?=some x
  yld:=fun i H y H'=>∃ T x,y=.ref T∧H T=none∧(∀ ys,SqL K H l ys→ys[i]?=some x)∧H'=upd H T (.tup [.int (i:Nat),x])
  stop:=fun i H=>∃ xs,SqL K H l xs∧xs.length ≤ i
theorem turn_enum {P:Program}{w:World}{K:W.Frag}{elts:List Expr}{kt:Nat}{tp:Pos} (l en it:Addr) (hne:en ≠ it):Turn P w K (.Tuple elts kt tp) (Ite K l) [en,it] en (fun i h=>(∃ old,IsEnum h en it (i:Nat) old)∧h.IsListIter it l i) where
  mem:=by simp
  obj:=fun i h st b hb=>by
    obtain ⟨⟨old,he⟩,hi⟩:=st
    rcases List.mem_cons.mp hb with e | hb
    · subst e; exact ⟨_,he,fun v z=>by cases z⟩
    · have e:b=it:=by simpa using hb
      subst e
      obtain ⟨o,e,c,d⟩:=hi
      exact ⟨o,e,fun v z=>by rw [d] at z; cases z⟩
  keep:=fun i h h' st k=>⟨let ⟨old,he⟩:=st.1; ⟨old,k en (by simp) _ he⟩,st.2.at fun o e=>k it (by simp) o e⟩
  item:=by
    intro X hP hw hK hc i pins s σ H E I hf st hg
    subst hP hw hK
    obtain ⟨⟨old,he⟩,hi⟩:=st
    obtain ⟨xs,x,hq,hx⟩:=hg
    obtain ⟨its,rv,p,hz⟩:=I.list hq
    obtain ⟨u,hu,ru⟩:=rv.get hx
    refine wpAny_pyNext_enum_item he hi p.isList (x:=u) (by simpa using hu) hne fun h1 heo hi1 htup hsz kp=>⟨_,rfl,?_⟩
    refine wpAny_letOwnedTupleGo_enum heo fun h2 he2 sb=>?_
    have enlt:en < s.heap.objs.size:=Heap.lt_size he
    have itlt:it < s.heap.objs.size:=by obtain ⟨o,e,_⟩:=hi; exact Heap.lt_size e
    have I1:=I.laid (a:=s.heap.objs.size) (o:=.tup [.int (i:Nat),x]) (t':=s.toks + 1) (h':=s.heap.push { cls:=.type "tuple",data:=.seq #[.int i s.toks,u] }) (fun _ _ q=>Heap.get?_push_of_some _ q) (Nat.le_refl _) ⟨by show 2 ≤ sizeLine; decide,[.int i s.toks,u],.cons ⟨_,rfl⟩ (.cons ru .nil),_,Heap.get?_push_size _ rfl,rfl,0,rfl⟩
    have fp1:∀ b∈[en,it],FpOk X pins (upd H s.heap.objs.size (.tup [.int (i:Nat),x])) b:=fun b hb=>by
      obtain ⟨g1,g2⟩:=hf b hb
      refine ⟨?_,g2⟩
      have:b ≠ s.heap.objs.size:=by
        rcases List.mem_cons.mp hb with e | hb
        · rw [e]; exact Nat.ne_of_lt enlt
        · rw [show b=it by simpa using hb]; exact Nat.ne_of_lt itlt
      rw [upd_ne this]; exact g1
    have I2:=I1.turned2 (h':=h2) (t':=s.toks + 1) (i1:=en) (i2:=it) (fun b o b1 b2 e=>(sb.2 b b1).trans (by
      by_cases hb:b=s.heap.objs.size
      · subst hb
        have e':some o=some { cls:=.type "tuple",data:=.seq #[.int i s.toks,u] }:=e.symm.trans (Heap.get?_push_size _ rfl)
        cases e'
        exact htup
      · have hlt:=Heap.lt_size e
        rw [Heap.size_push] at hlt
        have hlt2:b < s.heap.objs.size:=Nat.lt_of_le_of_ne (Nat.le_of_lt_succ hlt) hb
        have q:s.heap.get? b=some o:=(Heap.get?_push_ne _ _ _ hb).symm.trans e
        exact kp b o b1 b2 q)) (fp1 en (by simp)) (fp1 it (by simp))
    exact ⟨.ref s.heap.objs.size,_,I2,rfl,⟨_,x,rfl,I.fresh,fun ys hy=>by rw [I.list_inj hy hq]; exact hx,rfl⟩,⟨⟨u,he2⟩,hi1.at fun o e=>(sb.2 _ (Ne.symm hne)).trans e⟩,fun b hb=>(fp1 b hb).1⟩
  done:=by
    intro X hP hw hK hc i pins s σ H E I hf st hg
    subst hP hw hK
    obtain ⟨⟨old,he⟩,hi⟩:=st
    obtain ⟨xs,hq,hx⟩:=hg
    obtain ⟨its,rv,p,hz⟩:=I.list hq
    obtain ⟨f0,f1,f2,f3,f4,f5⟩:=hf it (by simp)
    have hl:=rv.length
    exact wpAny_pyNext_enum_end (I.ok.hd hc) he hi p.isList (by simp; omega) fun h' eb=>⟨rfl,I.turned (t':=s.toks) (fun b o hb e=>eb b o hb e) f0 f1 f3 f4 f5⟩
  self:=fun _ _ _ _ _ st h=>let ⟨old,he⟩:=st.1; wpAny_pyIter_enum he h
section
variable {X:Cx}{O:List Nat}{a b c e o:Expr}{es:List Expr}{fa fb fc f:Rho→Option PyData}{pos p2 p apos cpos:Pos}{ff:Rho→Option (List PyData)}
def iEnum (K:W.Frag) (te:TE):TI:=fun σ H R=>te σ H fun v H1=>∃ l xs,v=.ref l∧SqL K H1 l xs∧R (Ite K l) H1
theorem pi_enum {elts:List Expr}{kt:Nat}{tp:Pos}{te:TE} (hg:Gl X "enumerate") (hm:X.mg "enumerate"=none) (he:PE X e te) (hs:starEach [e] X.env=[(false,eval e X.env)]:=by rfl):PI X (.Tuple elts kt tp) (.Call (.Name "enumerate" p) [e] [] pos) (iEnum X.K te):=by
  intro pins s σ H R I h
  refine wpAny_Call_Name_kw (ld_blt I hg hm (by rfl) ?_)
  refine PyProof.Rows.callWith_type1 ?_ (by rw [hs]; rfl) (by rfl)
  rw [hs]
  refine Calls.spliced_cons (thn (he pins s σ H _ I h) fun v s1 ⟨x,H1,I1,r1,l,xs,ex,hq,q⟩=>Calls.spliced_nil ?_)
  subst ex
  cases r1
  obtain ⟨its,rv,pl,hz⟩:=I1.list hq
  refine call_enumerate_list pl.isList fun h' he' hi' sz kp=>?_
  refine wpAny_pyIter_enum he' ?_
  have I2:Inv X pins σ H1 { s1 with heap:=h' }:=I1.kept (t':=s1.toks) kp
  have fr:∀ b,s1.heap.objs.size ≤ b→FpOk X pins H1 b:=fun b hb=>I1.fpOk hb (I1.hok.fresh hb)
  exact ⟨_,[s1.heap.objs.size + 1,s1.heap.objs.size],_,_,H1,rfl,I2,turn_enum l _ _ (Nat.ne_of_gt (Nat.lt_succ_self _)),⟨⟨_,he'⟩,hi'⟩,fun b hb=>fr b (by
    rcases List.mem_cons.mp hb with z | hb
    · rw [z]; exact Nat.le_succ _
    · rw [show b=s1.heap.objs.size by simpa using hb]; exact Nat.le_refl _),q⟩
def enumD (ds:List PyData):List PyData:=ds.zipIdx.map fun x=>.tuple [.int x.2,x.1]
def qEnum (f:Rho→Option PyData):Rho→Option (List PyData):=fun ρ=>(f ρ).bind fun d=>match d with | .list ds=>some (enumD ds) | _=>none
theorem enumD_get {ds:List PyData}{i:Nat}{d:PyData} (h:(enumD ds)[i]?=some d):∃ x,ds[i]?=some x∧d=.tuple [.int (i:Nat),x]:=by
  unfold enumD at h
  rw [List.getElem?_map,List.getElem?_zipIdx] at h
  cases q:ds[i]? with
  | none=>rw [q] at h; cases h
  | some x=>rw [q] at h; simp at h; exact ⟨x,rfl,h.symm⟩
theorem walksO_enum {K:W.Frag}{H1:Hp}{l:Addr}{vs:List V}{ds:List PyData} (e2:SqL K H1 l vs) (e3:IsDs K H1 ds vs):WalksO K (Ite K l) (enumD ds) H1:=fun H' s'=>by
  have hl:(enumD ds).length=ds.length:=by simp [enumD]
  refine ⟨⟨vs,s'.seq e2,by rw [hl,e3.length]; exact Nat.le_refl _⟩,fun i d q=>?_⟩
  obtain ⟨x,ex,rfl⟩:=enumD_get q
  obtain ⟨v,e4,e5⟩:=e3.get ex
  refine ⟨⟨vs,v,s'.seq e2,e4⟩,fun y H2 ⟨T,z,r1,r2,r3,r5⟩=>?_⟩
  have r4:=r3 vs (s'.seq e2)
  rw [e4] at r4; cases r4
  subst r1 r5
  refine ⟨same_upd r2,fun G' sG g=>IsD.tuple_iff'.mpr ⟨T,_,rfl,SqT.of (by rw [g T r2]; exact upd_same),IsDs.cons (IsD.int_iff.mpr rfl) (IsDs.cons (e5.same sG) IsDs.nil)⟩⟩
end
end L2
end
section
set_option Elab.async false
set_option linter.all false
set_option maxRecDepth 100000
set_option maxHeartbeats 1000000
namespace L2
open PySem PySem.Spec PyProof.Rows PySem.Builtin PySem.Builtin.Str
def Its (x:Str):It where
  go:=fun i _=>i < x.cps.size
  yld:=fun i H y H'=>H'=H∧∃ c,x.cps[i]?=some c∧y=.str ⟨#[c]⟩
  stop:=fun i _=>x.cps.size ≤ i
theorem turn_str {P:Program}{w:World}{K:W.Frag}{tg:Expr}{ty:String} (hty:ty="str_ascii_iterator" ∨ ty="str_iterator") (x:Str) (t:Tok) (it:Addr):Turn P w K tg (Its x) [it] it (fun i h=>h.IsStrIter it ty x t i) where
  mem:=by simp
  obj:=fun i h st b hb=>by
    have e:b=it:=by simpa using hb
    subst e
    obtain ⟨o,e,c,d⟩:=st
    exact ⟨o,e,fun v z=>by rw [d] at z; cases z⟩
  keep:=fun i h h' st k=>by
    obtain ⟨o,e,r⟩:=st
    exact ⟨o,k it (by simp) o e,r⟩
  item:=by
    intro X hP hw hK hc i pins s σ H E I hf st hg
    subst hP hw hK
    obtain ⟨f0,f1,f2,f3,f4,f5⟩:=hf it (by simp)
    have hx:x.cps[i]?=some (x.cps[i]'hg):=Array.getElem?_eq_getElem hg
    rcases hty with rfl | rfl
    · refine wpAny_pyNext_ascii_item st hx fun h' st' sb=>?_
      have I1:Inv X pins σ H { s with heap:=h',toks:=s.toks + 1 }:=I.turned (t':=s.toks + 1) (fun b o hb e=>(sb.2 b hb).trans e) f0 f1 f3 f4 f5
      obtain ⟨o,e,c,d⟩:=id st'
      exact ⟨_,rfl,go_of (s:={ s with heap:=h',toks:=s.toks + 1 }) e c d (by decide) ⟨.str _,H,I1,⟨_,rfl⟩,⟨rfl,_,hx,rfl⟩,st',fun b hb=>(hf b hb).1⟩⟩
    · refine wpAny_pyNext_wide_item st hx fun h' st' sb=>?_
      have I1:Inv X pins σ H { s with heap:=h',toks:=s.toks + 1 }:=I.turned (t':=s.toks + 1) (fun b o hb e=>(sb.2 b hb).trans e) f0 f1 f3 f4 f5
      obtain ⟨o,e,c,d⟩:=id st'
      exact ⟨_,rfl,go_of (s:={ s with heap:=h',toks:=s.toks + 1 }) e c d (by decide) ⟨.str _,H,I1,⟨_,rfl⟩,⟨rfl,_,hx,rfl⟩,st',fun b hb=>(hf b hb).1⟩⟩
  done:=by
    intro X hP hw hK hc i pins s σ H E I hf st hg
    subst hP hw hK
    obtain ⟨f0,f1,f2,f3,f4,f5⟩:=hf it (by simp)
    have hx:x.cps[i]?=none:=Array.getElem?_eq_none hg
    rcases hty with rfl | rfl
    · exact wpAny_pyNext_ascii_end (I.ok.hd hc) st hx fun h' eb=>⟨rfl,I.turned (t':=s.toks) (fun b o hb e=>eb b o hb e) f0 f1 f3 f4 f5⟩
    · exact wpAny_pyNext_wide_end (I.ok.hd hc) st hx fun h' eb=>⟨rfl,I.turned (t':=s.toks) (fun b o hb e=>eb b o hb e) f0 f1 f3 f4 f5⟩
  self:=fun _ _ _ _ _ st h=>by
    rcases hty with rfl | rfl
    · exact wpAny_pyIter_striter_ascii st h
    · exact wpAny_pyIter_striter_wide st h
section
variable {X:Cx}{O:List Nat}{a b c e o:Expr}{es:List Expr}{fa fb fc f:Rho→Option PyData}{pos p2 p apos cpos:Pos}{ff:Rho→Option (List PyData)}
theorem pi_str {tg:Expr}{te:TE} (he:PE X e te):PI X tg e (fun σ H R=>te σ H fun v H1=>∃ x,v=.str x∧R (Its x) H1):=by
  intro pins s σ H R I h
  refine thn (he pins s σ H _ I h) fun v s1 ⟨y,H1,I1,r1,x,ex,q⟩=>?_
  subst ex
  obtain ⟨t,rfl⟩:=r1
  have fp:∀ b∈[s1.heap.objs.size],FpOk X pins H1 b:=fun b hb=>by
    rw [show b=s1.heap.objs.size by simpa using hb]
    exact I1.fpOk (Nat.le_refl _) (I1.hok.fresh (Nat.le_refl _))
  cases ha:x.cps.all (· < 128)
  · exact wpAny_pyIter_wide ha ⟨_,[s1.heap.objs.size],_,_,H1,rfl,I1.kept (t':=s1.toks) fun b o e=>Heap.get?_push_of_some _ e,turn_str (.inr rfl) x t _,⟨_,Heap.get?_push_size _ rfl,rfl,rfl⟩,fp,q⟩
  · exact wpAny_pyIter_ascii ha ⟨_,[s1.heap.objs.size],_,_,H1,rfl,I1.kept (t':=s1.toks) fun b o e=>Heap.get?_push_of_some _ e,turn_str (.inl rfl) x t _,⟨_,Heap.get?_push_size _ rfl,rfl,rfl⟩,fp,q⟩
def signsD (x:Str):List PyData:=x.cps.toList.map fun c=>.str ⟨#[c]⟩
def qSeqA (f:Rho→Option PyData):Rho→Option (List PyData):=fun ρ=>(f ρ).bind fun d=>match d with | .list ds=>some ds | .tuple ds=>some ds | .str x=>some (signsD x) | _=>none
theorem walksO_str {K:W.Frag} (x:Str) (G:Hp):WalksO K (Its x) (signsD x) G:=fun H' s'=>by
  have hl:(signsD x).length=x.cps.size:=by simp [signsD]
  refine ⟨by show x.cps.size ≤ _; rw [hl]; exact Nat.le_refl _,fun i d q=>?_⟩
  have hi:i < x.cps.size:=by have:=(List.getElem?_eq_some_iff.mp q).1; omega
  refine ⟨hi,fun y H2 ⟨r1,c,r2,r3⟩=>?_⟩
  subst r1 r3
  have:d=.str ⟨#[c]⟩:=by
    unfold signsD at q
    rw [List.getElem?_map,Array.getElem?_toList,r2] at q
    cases q; rfl
  subst this
  exact ⟨.refl _,fun G' _ _=>IsD.str_iff.mpr rfl⟩
theorem poi_seqA {tg:Expr} (h:PD X e f):POI X tg e (qSeqA f) :=
  PI.imp (PI.or (poi_seq h) (pi_str h)) fun σ H R ⟨ρ,ds,hs,e,k⟩=>by
    obtain ⟨d,e1,e2⟩:=bind_some e
    cases d with
    | list xs=>exact .inl ⟨ρ,ds,hs,by show (f ρ).bind _=_; rw [e1]; exact e2,k⟩
    | tuple xs=>exact .inl ⟨ρ,ds,hs,by show (f ρ).bind _=_; rw [e1]; exact e2,k⟩
    | str x =>
      cases e2
      exact .inr ⟨ρ,_,hs,e1,fun v H1 s1 i1=>⟨x,IsD.str_iff.mp i1,k _ H1 s1 (walksO_str x H1)⟩⟩
    | _=>cases e2
theorem poi_enum {elts:List Expr}{kt:Nat}{tp:Pos} (hg:Gl X "enumerate") (hm:X.mg "enumerate"=none) (h:PD X e f) (hs:starEach [e] X.env=[(false,eval e X.env)]:=by rfl):POI X (.Tuple elts kt tp) (.Call (.Name "enumerate" p) [e] [] pos) (qEnum f) :=
  PI.imp (pi_enum hg hm h hs) fun σ H R ⟨ρ,ds,hs,e,k⟩=>by
    obtain ⟨d,e1,e2⟩:=bind_some e
    obtain ⟨xs,rfl⟩:∃ xs,d=.list xs:=by cases d <;> first | exact ⟨_,rfl⟩ | cases e2
    cases e2
    refine ⟨ρ,_,hs,e1,fun v H1 s1 i1=>?_⟩
    obtain ⟨l,vs,rfl,e3,e4⟩:=IsD.list_iff.mp i1
    exact ⟨l,vs,rfl,e3,k _ H1 s1 (walksO_enum e3 e4)⟩
def dListA:List PyData→Option PyData
  | [.dict kvs]=>if isInst kvs=true then none else some (.list (kvs.map (·.1)))
  | ds=>dListOf ds
theorem keyIs_rel {P:Program}{w:World}{k:Key}{v:Value} (h:(mixKind P w).is k v=true):RelV (kV k) v:=by
  rcases keyIs_shape h with ⟨i,t,rfl,rfl⟩ | ⟨x,t,rfl,rfl⟩
  · exact ⟨t,rfl⟩
  · exact ⟨t,rfl⟩
theorem isDs_keys {K:W.Frag}{H H':Hp}:∀ {kvs:List (PyData × PyData)}{kv:List (Key × V)},IsKV K H kvs kv→IsDs K H' (kvs.map (·.1)) (kv.map fun x=>kV x.1)
  | [],_,h=>by rw [IsKV.nil_iff.mp h]; exact IsDs.nil
  | (k,d) :: r,_,h=>by
    obtain ⟨y,v,r',rfl,rfl,i,t⟩:=IsKV.cons_iff.mp h
    refine IsDs.cons ?_ (isDs_keys t)
    cases y with
    | inl i=>exact IsD.int_iff.mpr rfl
    | inr x=>exact IsD.str_iff.mpr rfl
theorem vals_keys {P:Program}{w:World}:∀ {kv:List (Key × V)}{vs:List (Key × Value)}{its:List Value},KV kv vs→its.length=vs.length→(∀ (j:Nat) v,its[j]?=some v→∃ k x,vs[j]?=some (k,x)∧(mixKind P w).is k v=true)→Vals (kv.map fun x=>kV x.1) its
  | _,_,its,.nil,hl,_=>by
    cases its with
    | nil=>exact .nil
    | cons _ _=>simp at hl
  | _,_,its,.cons (a:=p) (b:=q) h t,hl,hi=>by
    cases its with
    | nil=>simp at hl
    | cons u us =>
      obtain ⟨k,x,e1,e2⟩:=hi 0 u rfl
      have e3:q=(k,x):=by simpa using e1
      refine .cons ?_ (vals_keys t (by simpa using hl) fun j v e=>hi (j + 1) v (by simpa using e))
      show RelV (kV p.1) u
      rw [h.1,e3]
      exact keyIs_rel e2
theorem cf_listA (hc:X.calm=true):CallR X (.type "list") (fun xs H Q=>∃ ds c,IsDs X.K H ds xs∧dListA ds=some c∧KO X.K H c Q):=by
  have hd:CallR X (.type "list") (fun xs H Q=>∃ kvs kv p,xs=[V.ref p]∧H p=some (.dK kv)∧IsKV X.K H kvs kv∧KO X.K H (.list (kvs.map (·.1))) Q):=by
    intro pins s σ H xs us Q I r h
    obtain ⟨kvs,kv,p,rfl,hp,ik,k⟩:=h
    obtain ⟨u,rfl,ru⟩:=vals1 r
    cases ru
    obtain ⟨z,hS,vs,rel,dd⟩:=dk_of I.hok hp
    refine call_list_dict (knd:=mixKind X.prog X.w) (I.ok.hd hc) hS dd (by rw [← rel.length]; exact z) fun h' tk its cc hl hi hat kp=>?_
    have hv:=vals_keys (P:=X.prog) (w:=X.w) (its:=its.toList) rel (by simpa using hl) (fun j v e=>hi j v (by simpa using e))
    have I':=I.laid (a:=s.heap.objs.size) (o:=.lst (kv.map fun x=>kV x.1)) (t':=tk) kp (Nat.le_refl _) ⟨by rw [List.length_map]; exact z,its.toList,cc,hv,by simpa using hat⟩
    exact ⟨.ref s.heap.objs.size,_,I',rfl,k.newL (isDs_keys ik) _ I.fresh⟩
  refine CallR.imp (CallR.or cf_list hd) fun xs H Q ⟨ds,c,i,e,k⟩=>?_
  unfold dListA at e
  split at e
  · rename_i kvs
    by_cases hi:isInst kvs=true
    · rw [if_pos hi] at e; cases e
    · rw [if_neg hi] at e; cases e
      obtain ⟨v,rfl,h1⟩:=isDs_one i
      obtain ⟨p,kv,rfl,e5,e6⟩:=h1.dk_of (by simpa using hi)
      exact .inr ⟨kvs,kv,p,rfl,e5,e6,k⟩
  · exact .inl ⟨ds,c,i,e,k⟩
theorem pf_list (hc:X.calm=true) (hg:Gl X "list") (hm:X.mg "list"=none) (ha:PDA X (e :: es) ff) (he:starEach (e :: es) X.env=(false,eval e X.env) :: starEach es X.env:=by rfl) (hpl:(backTo pos (starEach es X.env)).any (·.1)=false:=by rfl) :
    PF X (.Call (.Name "list" p) (e :: es) [] pos) (dCall dListA ff) :=
  PE.imp (pe_callTy (cf_listA hc) hg hm (by rfl) ha (by decide) (by decide) he hpl) fun σ H Q ⟨ρ,d,hs,e,k⟩=>by
    obtain ⟨ds,e1,e2⟩:=bind_some e
    exact ⟨ρ,ds,hs,e1,fun vs H1 s1 i1=>⟨ds,d,i1,e2,k.later s1⟩⟩
end
end L2
end
section
set_option Elab.async false
set_option linter.all false
set_option maxRecDepth 100000
set_option maxHeartbeats 3200000
namespace PySem
open Builtin
theorem q_entry_set_loop:entryFor table "set.update.loop"=some Builtin.«set.update.loop»:=entryFor_of_tree (by kernel_rfl)
theorem q_plain_set_loop:plainId "set.update.loop"=true:=by decide +kernel
section
variable {prog:Program}{w:World}{K:Type} [DecidableEq K] {knd:KeyKind prog w K}{A:Around}{E:Value→Shared→Prop}{s:Shared}
def addK (acc:List K) (k:K):List K:=if k∈acc then acc else acc++[k]
def addsK (acc ks:List K):List K:=ks.foldl addK acc
theorem addK_len (acc:List K) (k:K):(addK acc k).length ≤ acc.length + 1:=by unfold addK; split <;> simp
inductive KeysAt (knd:KeyKind prog w K):List Value→List K→Prop
  | nil:KeysAt knd [] []
  | cons {v:Value}{k:K}{vs:List Value}{ks:List K}:knd.is k v=true→v.scannable=true→KeysAt knd vs ks→KeysAt knd (v :: vs) (k :: ks)
theorem q_set_loop {D I l:Addr}{items:Array Value}{R:Result→Shared→Prop} (hh:A.in1.handled=none) (hDI:D ≠ I) (h₀:Heap) (hD0:h₀.get? D=none) (hI0:h₀.get? I=none) :
    ∀ (vs:List Value) (ks:List K) (i:Nat) (s:Shared) (acc:List K),items.toList.drop i=vs→KeysAt knd vs ks→(∀ b o,h₀.get? b=some o→s.heap.get? b=some o)→s.heap.IsListIter I l i→s.heap.IsList l items→s.heap.SetOf knd D (fun k=>decide (k∈acc)) acc.length→acc.length + ks.length + 1 < scanBound →
    (∀ h' tk,h'.SetOf knd D (fun k=>decide (k∈addsK acc ks)) (addsK acc ks).length→(∀ b o,h₀.get? b=some o→h'.get? b=some o)→R (.ok (.ret .none)) { s with heap:=h',toks:=tk }) →
    codeAny (model prog w) A (.builtin "set.update.loop" ⟨[.ref D,.ref I],[]⟩) R s
  | [],_,i,s,acc,hv,hp,h0,hI,hl,hd,hz,hR=>by
    cases hp
    refine codeAny_builtin q_entry_set_loop ?_
    rw [Around.under_plainId q_plain_set_loop _]
    show wpAny _ A.in1 (pyNext (.ref I) >>= _) _ _ s
    have hn:items[i]?=none:=by
      have:=List.drop_eq_nil_iff.mp hv
      exact Array.getElem?_eq_none (by simpa using this)
    refine wpAny_bind (wpAny_pyNext_list_end hh hI hl hn fun h' eb=>?_)
    show wpAny _ A.in1 (ret Value.none) _ _ _
    refine wpAny_pure ?_
    obtain ⟨o,es,ep,t,hg,r⟩:=hd
    exact hR h' s.toks ⟨o,es,ep,t,eb _ _ hDI hg,r⟩ fun b o e=>eb b o (fun z=>by rw [z,hI0] at e; cases e) (h0 b o e)
  | v :: vs,_,i,s,acc,hv,hp,h0,hI,hl,hd,hz,hR=>by
    cases hp with
    | @cons _ k _ ks hk hsc hp =>
      refine codeAny_builtin q_entry_set_loop ?_
      rw [Around.under_plainId q_plain_set_loop _]
      show wpAny _ A.in1 (pyNext (.ref I) >>= _) _ _ s
      have hlt:i < items.size:=by
        have:=congrArg List.length hv
        simp at this; omega
      have hx:items[i]?=some v:=by
        have:=congrArg (·[0]?) hv
        simpa using this
      have hv2:items.toList.drop (i + 1)=vs:=by
        have e:=List.drop_eq_getElem_cons (l:=items.toList) (i:=i) (by simpa using hlt)
        rw [hv] at e
        injection e with _ e2
        exact e2.symm
      refine wpAny_bind (wpAny_pyNext_list_item hI hl hx fun h' hI' sb=>?_)
      have hd':h'.SetOf knd D (fun k=>decide (k∈acc)) acc.length:=by
        obtain ⟨o,es,ep,t,hg,r⟩:=id hd
        exact ⟨o,es,ep,t,(sb.2 _ hDI).trans hg,r⟩
      have nI:∀ b o xs n,s.heap.get? b=some o→o.data=.seq xs n→b ≠ I:=fun b o xs n e1 e2 z=>by
        subst z
        obtain ⟨oi,ei,ci,di⟩:=hI
        rw [e1] at ei; cases ei
        rw [e2] at di; cases di
      have nD:∀ b o xs n,s.heap.get? b=some o→o.data=.seq xs n→b ≠ D:=fun b o xs n e1 e2 z=>by
        subst z
        obtain ⟨o',es,ep,t,hg,_,hdd,_⟩:=hd
        rw [e1] at hg; cases hg
        rw [e2] at hdd; cases hdd
      show wpAny _ A.in1 (holding [v] (setAdd D v) >>= _) _ _ _
      refine wpAny_bind (wpAny_holding ?_)
      unfold setAdd
      refine wpAny_holding (wpAny_bind (knd.pyHash hk ?_))
      simp only [List.length_cons] at hz
      refine wpAny_setAddHashed_of (knd:=knd) (s:={ s with heap:=h',toks:=s.toks + 1 }) hk hsc hd' (by omega) fun h2 sb2 hd2=>?_
      have hd3:h2.SetOf knd D (fun k'=>decide (k'∈addK acc k)) (addK acc k).length:=by
        have e1:(fun k'=>decide (k'∈acc) || decide (k'=k))=fun k'=>decide (k'∈addK acc k):=by
          funext k'
          unfold addK
          by_cases q:k∈acc
          · rw [if_pos q]
            by_cases q2:k'=k
            · subst q2; simp [q]
            · simp [q2]
          · rw [if_neg q]; simp
        have e2:(if decide (k∈acc)=true then acc.length else acc.length + 1)=(addK acc k).length:=by
          unfold addK
          by_cases q:k∈acc
          · simp [q]
          · simp [q]
        rw [← e1,← e2]
        exact hd2
      refine wpAny_pure ⟨plainId_quiet q_plain_set_loop _,?_⟩
      have hl2:h2.IsList l items:=by
        obtain ⟨o,e1,e2,n,e3⟩:=hl
        exact ⟨o,(sb2.2 _ (nD _ _ _ _ e1 e3)).trans ((sb.2 _ (nI _ _ _ _ e1 e3)).trans e1),e2,n,e3⟩
      have hI2:h2.IsListIter I l (i + 1):=hI'.at fun o e=>(sb2.2 _ (Ne.symm hDI)).trans e
      refine q_set_loop hh hDI h₀ hD0 hI0 vs ks (i + 1) { s with heap:=h2,toks:=s.toks + 1 } (addK acc k) hv2 hp (fun b o e=>?_) hI2 hl2 hd3 ?_ fun h3 tk hd3 k3=>hR h3 tk hd3 k3
      · have b1:b ≠ I:=fun z=>by rw [z,hI0] at e; cases e
        have b2:b ≠ D:=fun z=>by rw [z,hD0] at e; cases e
        exact (sb2.2 b b2).trans ((sb.2 b b1).trans (h0 b o e))
      · have:=addK_len acc k
        omega
theorem call_set_keys {l:Addr}{o:Obj}{items:Array Value}{n:Nat}{ks:List K}{Q:Value→Shared→Prop} (hh:A.handled=none) (hx:s.heap.get? l=some o) (hc:o.cls=.type "list") (hdat:o.data=.seq items n)
    (hp:KeysAt knd items.toList ks) (hsz:ks.length + 1 < scanBound)
    (h:∀ h' tk,h'.SetOf knd s.heap.objs.size (fun k=>decide (k∈addsK [] ks)) (addsK [] ks).length→(∀ b o,s.heap.get? b=some o→h'.get? b=some o)→Q (.ref s.heap.objs.size) { s with heap:=h',toks:=tk }) :
    wpAny (model prog w) A (call (.type "set") [.ref l]) Q E s:=by
  obtain ⟨oc,od,oda,osl⟩:=o
  simp only at hc hdat
  subst hc hdat
  have w1:=F.called_set.made
  have w2:=F.called_set.sub
  have w3:=F.called_set.notType
  have w4:=F.called_set.canCreate
  have w5:=F.typeCall_set_1 (.ref l)
  obtain ⟨mc,mt,w6⟩:=F.called_set.mro
  refine wpAny_call (codeAny_of_tree ?_)
  show wpAny _ _ (callAny (.type "set") _) _ _ _
  refine wpAny_pure ⟨Code.quiet_builtin _ (by decide +kernel),codeAny_builtin F.entry_type_call ?_⟩
  rw [Around.under_plain (weight_type_call_type "set" [.ref l] []) rfl]
  repeat (any_goals (first | assumption | wp_step))
  refine codeAny_mono (code_set_new_1 (.ref l) (E:=E) (Q₁:=fun v t=>∃ led:Bool,v=.ref s.heap.objs.size∧t={ s with heap:=s.heap.push { cls:=.type "set",dict:=none,data:=.set #[] 0 (.fresh 0 0 led) } }) fun led=>⟨led,rfl,rfl⟩) fun r1 t1 g1=>?_
  match r1,g1 with
  | .error e,g1=>exact g1
  | .ok .next,g1=>exact g1.elim
  | .ok .brk,g1=>exact g1.elim
  | .ok .cont,g1=>exact g1.elim
  | .ok (.ret v),⟨led,e1,e2⟩ =>
    subst e1 e2
    have at1:(s.heap.push { cls:=.type "set",dict:=none,data:=.set #[] 0 (.fresh 0 0 led) }).get? s.heap.objs.size=some { cls:=.type "set",dict:=none,data:=.set #[] 0 (.fresh 0 0 led) }:=Heap.get?_push_size _ rfl
    have at2:(s.heap.push { cls:=.type "set",dict:=none,data:=.set #[] 0 (.fresh 0 0 led) }).get? l=some { cls:=.type "list",dict:=od,data:=.seq items n,slots:=osl }:=Heap.get?_push_of_some _ hx
    have ty:Shared.TypeIs { s with heap:=s.heap.push { cls:=.type "set",dict:=none,data:=.set #[] 0 (.fresh 0 0 led) } } (.ref s.heap.objs.size) "set":=⟨_,at1,rfl⟩
    have w7:=F.called_set.init.lookup
    have w8:=F.called_set.init.bind (.ref s.heap.objs.size)
    repeat (any_goals (first | assumption | wp_step))
    refine codeAny_mono (codeAny_call_builtin (R:=wants (fun r t=>r=.none∧∃ h' tk,t={ s with heap:=h',toks:=tk }∧h'.SetOf knd s.heap.objs.size (fun k=>decide (k∈addsK [] ks)) (addsK [] ks).length∧∀ b o,s.heap.get? b=some o→h'.get? b=some o) E) F.called_set.init.plain F.entry_set_init (check_set_init_1 ty ?_)) fun r2 t2 g2=>?_
    · have v1:=F.sub_list_set
      have v2:=F.sub_list_frozenset
      have v3:(Value.type "list" == Value.type "dict")=false:=by decide
      have il:(s.heap.push { cls:=.type "set",dict:=none,data:=.set #[] 0 (.fresh 0 0 led) }).IsList l items:=⟨_,at2,rfl,n,rfl⟩
      unfold Builtin.«set.__init__» noKeywords Builtin.Frozenset.updateFrom
      generalize walks:pyIter=walk
      wp_walk
      subst walks
      refine wpAny_pyIter_list il (wpAny_bind (wpAny_runValue ?_))
      have Slt:s.heap.objs.size < (s.heap.push { cls:=.type "set",dict:=none,data:=.set #[] 0 (.fresh 0 0 led) }).objs.size:=Heap.lt_size at1
      have free:∀ j,s.heap.objs.size ≤ j→s.heap.get? j=none:=fun j hj=>by
        cases q:s.heap.get? j with
        | none=>rfl
        | some z=>exact absurd (Nat.lt_of_lt_of_le (Heap.lt_size q) hj) (Nat.lt_irrefl _)
      have kp:∀ b o,s.heap.get? b=some o→((s.heap.push { cls:=.type "set",dict:=none,data:=.set #[] 0 (.fresh 0 0 led) }).push { cls:=.type "list_iterator",data:=.fields #[.ref l,.int 0 0] }).get? b=some o:=fun b o e=>Heap.get?_push_of_some _ (Heap.get?_push_of_some _ e)
      have fresh0:((s.heap.push { cls:=.type "set",dict:=none,data:=.set #[] 0 (.fresh 0 0 led) }).push { cls:=.type "list_iterator",data:=.fields #[.ref l,.int 0 0] }).SetOf knd s.heap.objs.size (fun k=>decide (k∈([]:List K))) ([]:List K).length :=
        (funext fun k=>by simp:(fun _:K=>false)=fun k=>decide (k∈([]:List K))) ▸ (PyProof.Rows.setObjOf_fresh (knd:=knd) led).setOf (Heap.get?_push_of_some _ at1) (by unfold scanBound; omega)
      refine q_set_loop (knd:=knd) (show A.in1.in1.in1.handled=none from hh) (Nat.ne_of_lt Slt) s.heap (free _ (Nat.le_refl _)) (free _ (Nat.le_of_lt Slt)) items.toList ks 0 _ [] rfl hp kp ⟨_,Heap.get?_push_size _ rfl,rfl,rfl⟩ (il.push _) fresh0 (by simpa using hsz) fun h' tk hd k'=>?_
      show wpAny _ _ _ _ _ _
      refine wpAny_pure ?_
      show wpAny _ _ (ret Value.none) _ _ _
      exact wpAny_pure ⟨rfl,h',tk,rfl,hd,k'⟩
    · match r2,g2 with
      | .error e,g2=>exact g2
      | .ok .next,g2=>exact g2.elim
      | .ok .brk,g2=>exact g2.elim
      | .ok .cont,g2=>exact g2.elim
      | .ok (.ret v),⟨e3,h',tk,e4,hd,kp⟩ =>
        subst e3 e4
        repeat (any_goals (first | assumption | wp_step))
        exact h _ _ hd kp
end
end PySem
namespace L2
open PySem PySem.Spec PyProof.Rows PySem.Builtin PySem.Builtin.Str
def keysOf:List PyData→Option (List Key)
  | []=>some []
  | d :: r=>(dKey d).bind fun k=>(keysOf r).map (k :: ·)
theorem keys_at {P:Program}{w:World}{K:W.Frag}{H:Hp}:∀ {ds:List PyData}{ks:List Key}{vs:List V}{us:List Value},keysOf ds=some ks→IsDs K H ds vs→Vals vs us→KeysAt (mixKind P w) us ks
  | [],_,_,_,e,i,r=>by
    cases e
    rw [IsDs.nil_iff.mp i] at r
    cases r
    exact .nil
  | d :: ds,_,_,_,e,i,r=>by
    obtain ⟨k,e1,e2⟩:=bind_some e
    obtain ⟨ks,e3,rfl⟩:=Option.map_eq_some_iff.mp e2
    obtain ⟨v,vs,rfl,i1,i2⟩:=IsDs.cons_iff.mp i
    cases r with
    | cons r1 r2 =>
      have:=dKey_some e1
      subst this
      rw [isD_keyD i1] at r1
      refine .cons (kV_is r1) ?_ (keys_at e3 i2 r2)
      cases k with
      | inl i=>obtain ⟨t,rfl⟩:=r1; rfl
      | inr x=>obtain ⟨t,rfl⟩:=r1; rfl
section
variable {X:Cx}{O:List Nat}{a b c e o:Expr}{es:List Expr}{fa fb fc f:Rho→Option PyData}{pos p2 p apos cpos:Pos}{ff:Rho→Option (List PyData)}
def dLenSet (f:Rho→Option PyData):Rho→Option PyData:=fun ρ=>(f ρ).bind fun d=>match d with
  | .list ds=>(keysOf ds).bind fun ks=>if ks.length + 1 < 4096 then some (.int (addsK [] ks).length) else none
  | _=>none
theorem addsK_len {K:Type} [DecidableEq K]:∀ (ks acc:List K),(addsK acc ks).length ≤ acc.length + ks.length
  | [],acc=>by simp [addsK]
  | k :: ks,acc=>by
    have h1:=addsK_len ks (addK acc k)
    have h2:=addK_len acc k
    rw [show addsK acc (k :: ks)=addsK (addK acc k) ks from rfl,List.length_cons]
    omega
theorem pd_lenset {pos2 pz:Pos} (hc:X.calm=true) (hgl:Gl X "len") (hml:X.mg "len"=none) (hgz:Gl X "set") (hmz:X.mg "set"=none) (ha:PD X e f)
    (s1:starEach [.Call (.Name "set" pz) [e] [] pos2] X.env=[(false,eval (.Call (.Name "set" pz) [e] [] pos2) X.env)]:=by rfl) (s2:starEach [e] X.env=[(false,eval e X.env)]:=by rfl) :
    PD X (.Call (.Name "len" p) [.Call (.Name "set" pz) [e] [] pos2] [] pos) (dLenSet f):=by
  intro pins s σ H Q I ⟨ρ,d,hs,e,k⟩
  obtain ⟨x,e1,q1⟩:=bind_some e
  obtain ⟨xs,rfl⟩:∃ xs,x=.list xs:=by cases x <;> first | exact ⟨_,rfl⟩ | cases q1
  obtain ⟨ks,e2,q2⟩:=bind_some (show (keysOf xs).bind (fun ks=>if ks.length + 1 < 4096 then some (PyData.int (addsK [] ks).length) else none)=some d from q1)
  by_cases hz:ks.length + 1 < 4096
  · rw [if_pos hz] at q2; cases q2
    refine wpAny_Call_Name_kw (ld_blt I hgl hml PySem.boot_len ?_)
    refine PyProof.Rows.callWith_builtin1 ?_ (by rw [s1]; rfl) (by rfl)
    rw [s1]
    refine Calls.spliced_cons ?_
    refine wpAny_Call_Name_kw (ld_blt I hgz hmz (by rfl) ?_)
    refine PyProof.Rows.callWith_type1 ?_ (by rw [s2]; rfl) (by rfl)
    rw [s2]
    refine Calls.spliced_cons (thn (ha pins s σ H (fun v H1=>Same H H1∧IsD X.K H1 (.list xs) v) I ⟨ρ,_,hs,e1,fun v H1 sH i=>⟨sH,i⟩⟩) fun u1 t1 ⟨v1,H1,I1,r1,sH1,i1⟩=>Calls.spliced_nil ?_)
    obtain ⟨l,ws,rfl,sq,id1⟩:=IsD.list_iff.mp i1
    cases r1
    obtain ⟨its,rv,⟨o,n,ho,hcl,_,hdat⟩,z1⟩:=I1.list sq
    refine call_set_keys (knd:=mixKind X.prog X.w) (I1.ok.hd hc) ho hcl hdat (by simpa using keys_at e2 id1 rv) (by unfold scanBound; exact hz) fun h' tk hd kp=>Calls.spliced_nil ?_
    obtain ⟨o',es',ep,t,g1,g2,g3,g4,g5,g6,g7,g8⟩:=hd
    have hlen:es'.size=(addsK [] ks).length:=g8
    have hle:=addsK_len ks ([]:List Key)
    refine call_len_set g1 g2 g3 g7 (by rw [hlen]; simp at hle; omega) ?_
    rw [hlen]
    exact ⟨.int _,H1,(I1.kept (t':=tk) kp).tok _,⟨_,rfl⟩,(k.later sH1).here (IsD.int_iff.mpr rfl)⟩
  · rw [if_neg hz] at q2; cases q2
theorem eq_reads {pins:List (Addr × Obj)}{σ:St}{H:Hp}{s:Shared} (I:Inv X pins σ H s) {A:Around}{x:PyData}{v:V}{u:Value} (hx:SeqAt.shaped x=true) (ix:IsD X.K H x v) (ru:RelV v u) (hu:A.units + x.depth < cLine) :
    ∃ e:Value→Bool,∀ (d:PyData) (w:V) (y:Value),SeqAt.shaped d=true→IsD X.K H d w→RelV w y→SeqAt.EqAt A s y u (e y)∧e y=PyData.eqv d x:=by
  obtain ⟨as,rx⟩:=I.readsD (SeqAt.canLay_of_shaped hx) ix ru
  refine ⟨fun y=>@decide (∃ d bs,Reads s.heap y d bs∧SeqAt.shaped d=true∧PyData.eqv d x=true) (Classical.propDecidable _),fun d w y hd iw rw'=>?_⟩
  obtain ⟨bs,rd⟩:=I.readsD (SeqAt.canLay_of_shaped hd) iw rw'
  have ed:@decide (∃ d bs,Reads s.heap y d bs∧SeqAt.shaped d=true∧PyData.eqv d x=true) (Classical.propDecidable _)=PyData.eqv d x:=by
    cases q:PyData.eqv d x with
    | true=>exact @decide_eq_true _ (Classical.propDecidable _) ⟨d,bs,rd,hd,q⟩
    | false =>
      refine @decide_eq_false _ (Classical.propDecidable _) fun ⟨d',bs',r',hd',q'⟩=>?_
      have:=SeqAt.Reads.unique d d' y _ _ (SeqAt.canLay_of_shaped hd) rd r'
      subst this
      rw [q] at q'; cases q'
  refine ⟨?_,ed⟩
  show SeqAt.EqAt A s y u (@decide _ (Classical.propDecidable _))
  rw [ed]
  refine SeqAt.eqAt_reads d x A s _ _ bs as rd rx (SeqAt.canLay_of_shaped hd) (SeqAt.canLay_of_shaped hx) ?_
  have:min d.depth x.depth ≤ x.depth:=Nat.min_le_right _ _
  omega
theorem mt_index (hu:X.A.units + 64 < cLine):MtR X "list.index" (fun x vs H Q=>∃ d ds c,IsD X.K H d x∧IsDs X.K H ds vs∧dIndex d ds=some c∧KD X.K H c Q):=by
  intro pins s σ H v vs u us Q I rx rv h
  obtain ⟨d,ds,cc,i1,i2,e,k⟩:=h
  unfold dIndex at e
  split at e
  · rename_i xs x
    by_cases hz:SeqAt.shaped x=true∧xs.all SeqAt.shaped=true∧x.depth ≤ 60∧xs.length ≤ sizeLine
    · rw [if_pos hz] at e
      obtain ⟨j,e1,rfl⟩:=Option.map_eq_some_iff.mp e
      obtain ⟨h1,h2,⟨dj,h3,h4⟩,h5⟩:=firstAt_some e1
      simp only [Nat.sub_zero] at h2 h3 h5
      obtain ⟨p,ws,rfl,sq,iw⟩:=IsD.list_iff.mp i1
      cases rx
      obtain ⟨v2,rfl,i3⟩:=isDs_one i2
      obtain ⟨u2,rfl,ru2⟩:=rv.one
      obtain ⟨its,rvs,⟨⟨cls,dd,data,sl⟩,n,ho,hc,hdd,hd⟩,z1⟩:=I.list sq
      simp only at hc hd
      subst hc hd
      obtain ⟨ee,he⟩:=eq_reads I (A:=X.A.in1) hz.1 i3 ru2 (by show X.A.units + 1 + x.depth < cLine; omega)
      have sh:∀ d∈xs,SeqAt.shaped d=true:=List.all_eq_true.mp hz.2.1
      have look:∀ (i:Nat) (y:Value),its[i]?=some y→∃ d,xs[i]?=some d∧SeqAt.EqAt X.A.in1 s y u2 (ee y)∧ee y=PyData.eqv d x:=fun i y hy=>by
        have hlt:i < ws.length:=by rw [rvs.length]; exact (List.getElem?_eq_some_iff.mp hy).1
        have hw:ws[i]?=some ws[i]:=List.getElem?_eq_getElem hlt
        obtain ⟨y',hy',rw'⟩:=rvs.get hw
        rw [hy] at hy'; cases hy'
        obtain ⟨d,hd,iwd⟩:=iw.get' hw
        obtain ⟨a1,a2⟩:=he d _ y (sh d (List.mem_of_getElem? hd)) iwd rw'
        exact ⟨d,hd,a1,a2⟩
      have hj:j < its.toArray.size:=by rw [List.size_toArray,← rvs.length,← iw.length]; exact h2
      refine call_meets F.slot_list_index ⟨_,ho,rfl⟩ F.entry_list_index (F.args_list_index_2 _ _) (SeqAt.list_indexAt p its.toArray n dd sl u2 ee j hj ?_ ?_ ?_) ⟨ho,fun y hy=>?_,?_⟩
      · have h6:=hz.2.2.2
        have h7:sizeLine < 2 ^ 62:=by decide
        omega
      · obtain ⟨d,a1,_,a3⟩:=look j (its.toArray[j]) (by simp)
        rw [h3] at a1; cases a1
        rw [a3]; exact h4
      · intro m hm hmj
        obtain ⟨d,a1,_,a3⟩:=look m (its.toArray[m]) (by simp)
        rw [a3]; exact h5 m d hmj a1
      · obtain ⟨i,hi⟩:=List.mem_iff_getElem?.mp (show y∈its by simpa using hy)
        obtain ⟨d,_,a2,_⟩:=look i y hi
        exact a2
      · exact ⟨.int _,H,I.tok _,⟨_,rfl⟩,k.here (IsD.int_iff.mpr rfl)⟩
    · rw [if_neg hz] at e; cases e
  · cases e
def dMtL (g:PyData→List PyData→Option PyData) (f:Rho→Option PyData) (ff:Rho→Option (List PyData)):Rho→Option PyData:=fun ρ=>(f ρ).bind fun d=>(ff ρ).bind fun ds=>match d with | .list z=>g (.list z) ds | _=>none
theorem pd_bmL {name:Str}{id:String}{g:PyData→List PyData→Option PyData} (slot:Slot "list" name id) (hty:typeOf (.builtin id)=pure (.type "method_descriptor")) (hm:MtR X id (fun x vs H Q=>∃ d ds c,IsD X.K H d x∧IsDs X.K H ds vs∧g d ds=some c∧KD X.K H c Q)) (ho:PD X o f) (ha:PDA X (e :: es) ff)
    (hbase:attributeBase o name X.env (eval o X.env)=eval o X.env:=by rfl)
    (hfew:((backTo cpos (starEach (e :: es) X.env)).all (fun x=>!x.1) && (backToKw cpos (keywordEach [] X.env)).all (fun x=>x.1.isSome)
      && decide ((e :: es).length + ([]:List Keyword).length + (if ([]:List Keyword).isEmpty then 0 else 1) < 30))=true:=by rfl)
    (hline:(apos.endLine == cpos.line)=true:=by rfl) (hs:starEach (e :: es) X.env=(false,eval e X.env) :: starEach es X.env:=by rfl) (hplain:(backTo cpos (starEach es X.env)).any (·.1)=false:=by rfl) :
    PD X (.Call (.Attribute o name apos) (e :: es) [] cpos) (dMtL g f ff) :=
  PE.imp (pe_bm PySem.F.plainAttrs_list slot hty hm ho ha hbase hfew hline hs hplain) fun σ H Q ⟨ρ,d,hs,e,k⟩=>by
    obtain ⟨x,e1,e2⟩:=bind_some e
    obtain ⟨ds,e3,e4⟩:=bind_some e2
    obtain ⟨z,rfl⟩:∃ z,x=.list z:=by cases x <;> first | exact ⟨_,rfl⟩ | cases e4
    refine ⟨ρ,_,hs,e1,fun v H1 s1 i1=>?_⟩
    obtain ⟨p,vs,rfl,q2,q3⟩:=IsD.list_iff.mp i1
    exact ⟨.inl ⟨rfl,vs,q2⟩,ρ,ds,hs.same s1,e3,fun vs' H2 s2 i2=>⟨_,ds,d,i1.same s2,i2,e4,k.later (s1.trans s2)⟩⟩
end
end L2
end
section
set_option Elab.async false
set_option linter.all false
set_option maxRecDepth 100000
set_option maxHeartbeats 1000000
namespace L2
open PySem PySem.Spec PyProof.Rows
section
variable {X:Cx}{pins:List (Addr × Obj)}{σ:St}{H:Hp}{s:Shared}
set_option maxHeartbeats 4000000 in
end
end L2
end
section
set_option Elab.async false
set_option linter.all false
set_option maxRecDepth 100000
set_option maxHeartbeats 1000000
namespace L2
open PySem PySem.Spec PyProof.Rows
section
variable {X:Cx}{a b c e:Expr}{rest es:List Expr}{fa fb fc f:Rho→Option PyData}{pos p2:Pos}
def asB (d:PyData):Option Bool:=match d with | .bool b=>some b | _=>none
def dAndV (f g:Rho→Option PyData):Rho→Option PyData:=fun ρ=>(f ρ).bind fun d=>(asB d).bind fun b=>if b then g ρ else some (.bool false)
theorem asB_some {d:PyData}{b:Bool} (h:asB d=some b):d=.bool b:=by
  cases d <;> first | (cases h; rfl) | cases h
theorem pd_one1 {op:BoolOp} (h:PD X a f):PD X (.BoolOp op [a] pos) f:=pe_one h
theorem pd_andV (ha:PD X a fa) (hb:PD X (.BoolOp .And (b :: rest) pos) fb):PD X (.BoolOp .And (a :: b :: rest) pos) (dAndV fa fb) :=
  PE.imp (pe_and ha hb) fun σ H Q ⟨ρ,d,hs,e,k⟩=>by
    obtain ⟨x,e1,e2⟩:=bind_some e
    obtain ⟨y,e3,e4⟩:=bind_some e2
    cases asB_some e3
    refine ⟨ρ,_,hs,e1,fun v H1 s1 i1=>⟨y,IsD.bool_iff.mp i1,?_⟩⟩
    cases y with
    | true=>rw [if_pos rfl] at e4 ⊢; exact ⟨ρ,d,hs.same s1,e4,k.later s1⟩
    | false=>rw [if_neg Bool.false_ne_true] at e4 ⊢; cases e4; exact k _ H1 s1 (IsD.bool_iff.mpr rfl)
def dIsNot (x y:PyData):Option PyData:=match x,y with | .bool a,.bool b=>some (.bool (a != b)) | _,_=>none
theorem od_isnot:OpD X (compareOp .IsNot) dIsNot:=by
  intro pins s σ H x y v u Q I rx ry ⟨d,d',c,i1,i2,e,k⟩
  cases d <;> cases d' <;> try (simp [dIsNot] at e; done)
  cases e
  rw [IsD.bool_iff.mp i1] at rx
  rw [IsD.bool_iff.mp i2] at ry
  cases rx; cases ry
  exact isnot_bool ⟨.bl _,H,I,rfl,k.here (IsD.bool_iff.mpr rfl)⟩
def boolsOf:List PyData→Option (List Bool)
  | []=>some []
  | .bool b :: r=>(boolsOf r).map (b :: ·)
  | _ :: _=>none
theorem boolsOf_some:∀ {ds:List PyData}{bs:List Bool},boolsOf ds=some bs→ds=bs.map .bool
  | [],bs,h=>by cases h; rfl
  | d :: r,bs,h=>by
    cases d <;> try (simp [boolsOf] at h; done)
    obtain ⟨cs,e,rfl⟩:=Option.map_eq_some_iff.mp h
    rw [boolsOf_some e]; rfl
def dAny:List PyData→Option PyData | [.list ds]=>(boolsOf ds).map fun bs=>.bool (bs.any id) | _=>none
def dAll:List PyData→Option PyData | [.list ds]=>(boolsOf ds).map fun bs=>.bool (bs.all id) | _=>none
theorem bools_vals {K:W.Frag}{H:Hp}{bs:List Bool}{vs:List V}{its:List Value} (i:IsDs K H (bs.map .bool) vs) (r:Vals vs its) {j:Nat}{v:Value} (e:its[j]?=some v):∃ b,bs[j]?=some b∧v=.bool b:=by
  have hj:j < its.length:=(List.getElem?_eq_some_iff.mp e).1
  have l1:=r.length
  have l2:=i.length
  have hb:j < bs.length:=by simpa [l1,l2] using (by rw [List.length_map] at l2; omega:j < bs.length)
  have q:(bs.map PyData.bool)[j]?=some (.bool bs[j]):=by rw [List.getElem?_map,List.getElem?_eq_getElem hb]; rfl
  obtain ⟨x,e1,e2⟩:=i.get q
  obtain ⟨u,e3,e4⟩:=r.get e1
  rw [e] at e3; cases e3
  rw [IsD.bool_iff.mp e2] at e4
  exact ⟨_,List.getElem?_eq_getElem hb,e4⟩
theorem cd_all (hc:X.calm=true):CallD X (.builtin "all") dAll:=by
  intro pins s σ H xs us Q I r ⟨ds,c,i,e,k⟩
  match ds,e with
  | [.list ys],e =>
    obtain ⟨bs,e1,rfl⟩:=Option.map_eq_some_iff.mp e
    cases boolsOf_some e1
    obtain ⟨v,rfl,h1⟩:=isDs_one i
    obtain ⟨p,vs,rfl,e2,e3⟩:=IsD.list_iff.mp h1
    obtain ⟨u,rfl,ru⟩:=vals1 r
    cases ru
    obtain ⟨its,r',pl,hz⟩:=I.list e2
    have hl:=pl.isList
    have hlt:p < s.heap.objs.size:=by obtain ⟨_,e,_⟩:=hl; exact Heap.lt_size e
    refine call_all_walk (wpAny_pyIter_list hl ?_)
    refine ⟨s.heap.objs.size,[s.heap.objs.size,p],[s.heap.objs.size],its.toArray.size,_,_,fun i=>(bs[i]?).getD true,rfl,Walks.list (A:=X.A.in1) (I.ok.hd hc) _ p (Nat.ne_of_lt hlt) its.toArray,
      ⟨⟨_,Heap.get?_push_size _ rfl,rfl,rfl⟩,hl.push _⟩,fun i v s' Q' E' hP hQ=>?_,fun h' tk hk=>?_⟩
    · obtain ⟨b,e,rfl⟩:=bools_vals e3 r' (by simpa using hP)
      simp only [e,Option.getD_some] at hQ
      exact wpAny_truthy_bool hQ
    · have e:((List.range its.toArray.size).all fun i=>(bs[i]?).getD true)=bs.all id:=by
        have l1:=r'.length
        have l2:=e3.length
        rw [List.length_map] at l2
        rw [List.size_toArray,show its.length=bs.length by omega]; exact LSm.range_all bs
      rw [e]
      refine ⟨.bl _,H,I.kept fun b x e=>?_,rfl,k.here (IsD.bool_iff.mpr rfl)⟩
      exact hk b x (fun hm=>by rw [List.mem_singleton.mp hm] at e; exact Nat.lt_irrefl _ (Heap.lt_size e)) (Heap.get?_push_of_some _ e)
def freeOk (X:Cx) (scope:Scope):Bool:=scope.names.all fun p=>p.2 != .free || (X.env.kindOf p.1 == some .cell || X.env.kindOf p.1 == some .free)
theorem pd_compI {elt iter:Expr}{x:Str}{px pos:Pos}{ifs:List Expr}{scope:Scope} (caps:List (Nat × Str)) {q:Rho→Option (List PyData)}{g:Rho→Option Bool}{f:Rho→Option PyData}
    (hi:PDI X (.Name x px) iter q)
    (ht:∀ C s H fp,PDTs (cxIn X scope C (x :: caps.map (·.2)) s H fp) ifs g)
    (he:∀ C s H fp,PD (cxIn X scope C (x :: caps.map (·.2)) s H fp) elt f)
    (hc:X.calm=true:=by rfl) (S:ScopeIn scope x:=by exact ⟨rfl,by decide +kernel,by decide +kernel,rfl,True.intro⟩) (hfr:freeOk X scope=true:=by rfl) (hcap:CapsOk X scope caps:=by repeat' (first | exact True.intro | refine ⟨⟨rfl,.inl rfl,rfl⟩,?_⟩ | refine ⟨⟨rfl,.inr rfl,rfl⟩,?_⟩)) (hnd:(x :: caps.map (·.2)).Nodup:=by decide +kernel)
    (hs:∀ x,foldedSetIterable iter X.env x=pure x:=by intro _; rfl):PD X (.ListComp elt [⟨.Name x px,iter,ifs,0⟩] scope pos) (dComp q caps g f):=by
  intro pins s σ H Q I hQ
  refine pd_comp hc S (fun p hp e=>I.ok.has p.1 ?_) hcap hnd hi ht he hs pins s σ H Q I hQ
  have:=List.all_eq_true.mp hfr p hp
  simp only [Bool.or_eq_true,bne_iff_ne,ne_eq,beq_iff_eq] at this
  rcases this with h | h
  · exact absurd e h
  · exact h
theorem freeOk_has {pins:List (Addr × Obj)}{s:Shared}{σ:St}{H:Hp}{scope:Scope} (I:Inv X pins σ H s) (hfr:freeOk X scope=true):∀ p∈scope.names,p.2=.free→∃ c,X.env.cells.lookup p.1=some c:=fun p hp e=>I.ok.has p.1 (by
  have:=List.all_eq_true.mp hfr p hp
  simp only [Bool.or_eq_true,bne_iff_ne,ne_eq,beq_iff_eq] at this
  rcases this with h | h
  · exact absurd e h
  · exact h)
end
end L2
end
section
set_option Elab.async false
set_option linter.all false
set_option maxRecDepth 100000
set_option maxHeartbeats 1000000
namespace L2
open PySem PySem.Spec PyProof.Rows
section
variable {X:Cx}{m:Md}{O:List Nat}{a b c e o i:Expr}{es:List Expr}{fa fb fc f:Rho→Option PyData}{pos p2 p apos cpos:Pos}{ff:Rho→Option (List PyData)}{x:Str}
def dTruthA (d:PyData):Option Bool:=match d with
  | .dict kvs=>if isInst kvs=true then none else some (!kvs.isEmpty)
  | d=>dTruth d
def fTA (f:Rho→Option PyData):Rho→Option Bool:=fun ρ=>(f ρ).bind dTruthA
theorem pdt_valA (h:PD X e f) (he:∀ whole,isTrue e X.env whole=(do let v ← whole; standAt e.pos; holding [v] (truthy v)):=by intro _; rfl):PDT X e (fTA f) :=
  PT.imp (pt_truth h he) fun σ H Q ⟨ρ,b,hs,e,k⟩=>by
    obtain ⟨d,e1,e2⟩:=bind_some e
    refine ⟨ρ,d,hs,e1,fun v H1 s1 i1=>⟨b,?_,k H1 s1⟩⟩
    cases d with
    | dict kvs =>
      unfold dTruthA at e2
      by_cases hi:isInst kvs=true
      · dsimp only at e2; rw [if_pos hi] at e2; cases e2
      · dsimp only at e2; rw [if_neg hi] at e2; cases e2
        obtain ⟨p,kv,rfl,q1,q2⟩:=i1.dk_of (by simpa using hi)
        refine .inr (.inr ⟨kv,q1,?_⟩)
        have:=q2.length
        cases kvs <;> cases kv <;> first | rfl | (simp at this)
    | _=>exact truV_D i1 e2
def isNoneD:PyData→Bool
  | .none=>true
  | _=>false
def dIsNotA (x y:PyData):Option PyData:=match y with
  | .none=>some (.bool (!isNoneD x))
  | y=>dIsNot x y
theorem isN_D {K:W.Frag}{H:Hp}{d:PyData}{v:V} (i:IsD K H d v):decide (v=.non)=isNoneD d:=by
  cases d with
  | none=>rw [IsD.none_iff.mp i]; rfl
  | bool b=>rw [IsD.bool_iff.mp i]; rfl
  | int j=>rw [IsD.int_iff.mp i]; rfl
  | str x=>rw [IsD.str_iff.mp i]; rfl
  | list xs=>obtain ⟨p,vs,rfl,_⟩:=IsD.list_iff.mp i; rfl
  | tuple xs=>obtain ⟨p,vs,rfl,_⟩:=i.tuple_of; rfl
  | dict kvs=>obtain ⟨p,rfl,_⟩:=IsD.dict_iff.mp i; rfl
theorem od_isnotA:OpD X (compareOp .IsNot) dIsNotA:=by
  refine OpR.imp (OpR.or od_isnot op_notN) fun x y H Q ⟨a,b,d,ia,ib,e,k⟩=>?_
  cases b with
  | none=>cases e; exact .inr ⟨IsD.none_iff.mp ib,k.here (IsD.bool_iff.mpr (by rw [isN_D ia]))⟩
  | _=>exact .inl ⟨a,_,d,ia,ib,e,k⟩
end
end L2
end
section
set_option Elab.async false
set_option linter.all false
set_option maxRecDepth 100000
set_option maxHeartbeats 1000000
namespace L2
open PySem PySem.Spec PyProof.Rows
section
variable {X:Cx}{m:Md}{O:List Nat}{a b c e o i:Expr}{es:List Expr}{fa fb fc f:Rho→Option PyData}{pos p2 p apos cpos:Pos}{ff:Rho→Option (List PyData)}{x:Str}{st:Stmt}{rest:List Stmt}{g h:Rho→Option Out}
theorem PS.frame {t:TS} (h:PS X st t):PS X st (fun D σ H=>∃ G B,H=joinB G B∧Frm G B∧t { nx:=fun σ' G'=>Frm G' B→D.nx σ' (joinB G' B),rt:=fun v G'=>Frm G' B→D.rt v (joinB G' B),bk:=fun σ' G'=>Frm G' B→D.bk σ' (joinB G' B),ct:=fun σ' G'=>Frm G' B→D.ct σ' (joinB G' B) } σ G):=by
  intro pins s σ H D I ⟨G,B,eH,f,ht⟩
  subst eH
  obtain ⟨PB,I1,_,_,back⟩:=hideB f.ok I f
  refine thn (h _ s σ G _ I1 ht) fun fl s' q=>?_
  cases fl with
  | next=>obtain ⟨σ',G',J,q⟩:=q; obtain ⟨f',J'⟩:=back G' s' σ' J; exact ⟨σ',_,J',q f'⟩
  | brk=>obtain ⟨σ',G',J,q⟩:=q; obtain ⟨f',J'⟩:=back G' s' σ' J; exact ⟨σ',_,J',q f'⟩
  | cont=>obtain ⟨σ',G',J,q⟩:=q; obtain ⟨f',J'⟩:=back G' s' σ' J; exact ⟨σ',_,J',q f'⟩
  | ret u=>obtain ⟨v,σ',G',J,r,q⟩:=q; obtain ⟨f',J'⟩:=back G' s' σ' J; exact ⟨v,σ',_,J',r,q f'⟩
theorem pos_comp (i:Nat) {y:Str}{py spos:Pos}{elt iter:Expr}{x:Str}{px pos:Pos}{ifs:List Expr}{scope:Scope} (caps:List (Nat × Str)) {q:Rho→Option (List PyData)}{g:Rho→Option Bool}{f:Rho→Option PyData} (hN:X.N.Nodup)
    (hi:PDI X (.Name x px) iter q)
    (ht:∀ C s H fp,PDTs (cxIn X scope C (x :: caps.map (·.2)) s H fp) ifs g)
    (he:∀ C s H fp,PD (cxIn X scope C (x :: caps.map (·.2)) s H fp) elt f) (hO:i ∉ O:=by decide)
    (hc:X.calm=true:=by rfl) (S:ScopeIn scope x:=by exact ⟨rfl,by decide +kernel,by decide +kernel,rfl,True.intro⟩) (hfr:freeOk X scope=true:=by rfl) (hcap:CapsOk X scope caps:=by repeat' (first | exact True.intro | refine ⟨⟨rfl,.inl rfl,rfl⟩,?_⟩ | refine ⟨⟨rfl,.inr rfl,rfl⟩,?_⟩)) (hnd:(x :: caps.map (·.2)).Nodup:=by decide +kernel)
    (hiy:X.N[i]?=some y:=by rfl) (hy:X.env.scope.names.lookup y=some .local:=by rfl) (hsw:swapsWith (.ListComp elt [⟨.Name x px,iter,ifs,0⟩] scope pos) (some (.Name y py)) spos.line X.env=pure true:=by rfl)
    (hs:∀ x,foldedSetIterable iter X.env x=pure x:=by intro _; rfl):POS X m O (.Assign [.Name y py] (.ListComp elt [⟨.Name x px,iter,ifs,0⟩] scope pos) spos) (sSetV (vFr O (dComp q caps g f)) i):=by
  intro pins s σ H D I hQ
  refine PS.imp (PS.frame (ps_comp (pc_comp hc S (freeOk_has I hfr) hcap hnd hi ht he) S (freeOk_has I hfr) hN hiy hy hsw hs)) (fun D σ H ⟨ρ,o,G,hs,e,k⟩=>?_) pins s σ H D I hQ
  obtain ⟨d,e1,rfl⟩:=Option.map_eq_some_iff.mp e
  obtain ⟨B,eH,fm,own⟩:=hs.o.ex
  refine ⟨G,B,eH,fm,eraseO O ρ,d,hs.o.rest,e1,fun v G' sG i' fm'=>?_⟩
  exact k _ _ G' sG (HasM.set ⟨HasO.framed hs.o.len own hs.o.non sG fm',hs.z⟩ hO i')
section
variable {K:W.Frag}{σ:St}{ρ:Rho}{G H:Hp}{O':List Nat}{j:Nat}
theorem OwnL.snoc (hn:(ρ[j]?).join=none):∀ {O':List Nat}{B:List (Addr × HO)},OwnL K σ ρ G O' B ↔ OwnL K σ ρ G (O'++[j]) B
  | [],B=>⟨fun h=>.inl ⟨hn,h⟩,fun h=>by
      rcases h with ⟨_,h⟩ | ⟨d,v,B1,B2,a,_⟩
      · exact h
      · rw [a] at hn; cases hn⟩
  | i :: O',B=>by
    constructor
    · rintro (⟨a,b⟩ | ⟨d,v,B1,B2,a,b,c,q,t⟩)
      · exact .inl ⟨a,(OwnL.snoc hn).mp b⟩
      · exact .inr ⟨d,v,B1,B2,a,b,c,q,(OwnL.snoc hn).mp t⟩
    · rintro (⟨a,b⟩ | ⟨d,v,B1,B2,a,b,c,q,t⟩)
      · exact .inl ⟨a,(OwnL.snoc hn).mpr b⟩
      · exact .inr ⟨d,v,B1,B2,a,b,c,q,(OwnL.snoc hn).mpr t⟩
theorem HasO.freeze (nd:(O'++[j]).Nodup) (h:HasO (O'++[j]) K σ ρ H G):∃ G',Same G G'∧HasO O' K σ ρ H G':=by
  have hj:j ∉ O':=by
    rw [List.nodup_append] at nd
    exact fun z=>nd.2.2 j z j (by simp) rfl
  cases hd:(ρ[j]?).join with
  | none =>
    obtain ⟨B,eH,f,own⟩:=h.ex
    refine ⟨G,.refl G,h.len,⟨B,eH,f,(OwnL.snoc hd).mpr own⟩,fun i d q hi=>?_⟩
    by_cases hij:i=j
    · subst hij; rw [q] at hd; cases hd
    · exact h.non i d q (by simp [hi,hij])
  | some d =>
    have hdj:=join_some hd
    obtain ⟨v,Bl,B1,Br,e1,e2,f,ot,k1,k2,_,cl⟩:=h.own nd (by simp) hdj
    have perm:(Bl++(B1++Br)).Perm ((Bl++Br)++B1):=by
      rw [List.append_assoc]
      exact List.Perm.append_left _ List.perm_append_comm
    have f2:Frm G ((Bl++Br)++B1):=f.perm perm ((k1.append k2).append ot.okB)
    have fB:=f2.appR ot.okB
    have hc:=cl (joinB G B1) fB.same (f2.appL (k1.append k2))
    have eH:H=joinB (joinB G B1) (Bl++Br):=by rw [e2,joinB_perm f.nd perm,joinB_app]
    rw [← eH] at hc
    have hl:j < ρ.length:=(List.getElem?_eq_some_iff.mp hdj).1
    obtain ⟨B,eB,fmB,own⟩:=hc.ex
    have hnj:((ρ.set j none)[j]?).join=none:=by rw [List.getElem?_set_self hl]; rfl
    refine ⟨joinB G B1,fB.same,h.len,⟨B,eB,fmB,((OwnL.snoc hnj).mpr own).other fun i hi=>?_⟩,fun i d' q hi=>?_⟩
    · have:j ≠ i:=fun z=>hj (z ▸ hi)
      exact ⟨(List.getElem?_set_ne this).symm,rfl⟩
    · by_cases hij:i=j
      · subst hij
        rw [hdj] at q; cases q
        exact ⟨v,e1,ot.isD fB.same fun x hx=>joinB_in fB.nd x hx⟩
      · exact hc.non i d' (by rw [List.getElem?_set_ne (Ne.symm hij)]; exact q) (by simp [hi,hij])
theorem HasO.unfreeze (hj:j ∉ O') (h:HasO O' K σ ρ H G):HasO (O'++[j]) K σ (ρ.set j none) H G:=by
  obtain ⟨B,eH,f,own⟩:=h.ex
  have hnj:((ρ.set j none)[j]?).join=none:=by
    by_cases hl:j < ρ.length
    · rw [List.getElem?_set_self hl]; rfl
    · rw [List.getElem?_eq_none (by simpa using hl)]; rfl
  refine ⟨by simpa using h.len,⟨B,eH,f,(OwnL.snoc hnj).mp (own.other fun i hi=>?_)⟩,fun i d q hi=>?_⟩
  · have:j ≠ i:=fun z=>hj (z ▸ hi)
    exact ⟨List.getElem?_set_ne this,rfl⟩
  · have hi1:i ∉ O':=fun z=>hi (by simp [z])
    have hi2:j ≠ i:=fun z=>hi (by simp [z])
    rw [List.getElem?_set_ne hi2] at q
    exact h.non i d q hi1
end
def unsetO (j:Nat):Out→Out
  | .nx ρ=>.nx (ρ.set j none)
  | .bk ρ=>.bk (ρ.set j none)
  | .ct ρ=>.ct (ρ.set j none)
  | .rt d=>.rt d
def sFrz (j:Nat) (g:Rho→Option Out):Rho→Option Out:=fun ρ=>(g ρ).map (unsetO j)
theorem poss_freeze {O':List Nat} (j:Nat) {sts:List Stmt} (nd:(O'++[j]).Nodup) (h0:j ≠ 0) (h:POSs X m O' sts g):POSs X m (O'++[j]) sts (sFrz j g) :=
  PSs.imp h fun D σ H ⟨ρ,o,G,hs,e,k⟩=>by
    have hj:j ∉ O':=by
      rw [List.nodup_append] at nd
      exact fun z=>nd.2.2 j z j (by simp) rfl
    obtain ⟨o1,e1,rfl⟩:=Option.map_eq_some_iff.mp e
    obtain ⟨G',sG,hs'⟩:=hs.o.freeze nd
    have z':∀ (σ':St),(∀ v0,m=.io v0→0∈O'++[j]∧σ'[0]?=some (some v0))→∀ v0,m=.io v0→0∈O'∧σ'[0]?=some (some v0):=fun σ' hz v0 q=>by
      obtain ⟨a1,a2⟩:=hz v0 q
      refine ⟨?_,a2⟩
      rcases List.mem_append.mp a1 with z | z
      · exact z
      · exact absurd (by simpa using z:0=j).symm h0
    have up:∀ (σ':St) (ρ':Rho) (H' G2:Hp),HasM m O' X.K σ' ρ' H' G2→HasM m (O'++[j]) X.K σ' (ρ'.set j none) H' G2:=fun σ' ρ' H' G2 q=>⟨q.o.unfreeze hj,fun v0 z=>⟨by simp [(q.z v0 z).1],(q.z v0 z).2⟩⟩
    refine ⟨ρ,o1,G',⟨hs',z' σ hs.z⟩,e1,?_⟩
    cases o1 with
    | nx ρ'=>exact fun σ' H' G2 s2 q=>k σ' H' G2 (sG.trans s2) (up _ _ _ _ q)
    | bk ρ'=>exact fun σ' H' G2 s2 q=>k σ' H' G2 (sG.trans s2) (up _ _ _ _ q)
    | ct ρ'=>exact fun σ' H' G2 s2 q=>k σ' H' G2 (sG.trans s2) (up _ _ _ _ q)
    | rt d=>exact RtO.later sG k
end
end L2
end
section
set_option Elab.async false
set_option linter.all false
set_option maxRecDepth 100000
set_option maxHeartbeats 1000000
namespace L2
open PySem PySem.Spec PyProof.Rows
section
variable {X:Cx}{m:Md}{O:List Nat}{a b c e o i:Expr}{es:List Expr}{fa fb fc f:Rho→Option PyData}{pos p2 p apos cpos:Pos}{ff:Rho→Option (List PyData)}{x:Str}
theorem pd_neg1 {n:Int}{j:Nat}{q:Pos}:PD X (.UnaryOp .USub (.Constant (.int n) j q) pos) (dC (.int (-n))) :=
  PE.imp (pe_un un_neg pd_int) fun σ H Q ⟨ρ,d,hs,e,k⟩=>by
    cases e
    exact ⟨ρ,_,hs,rfl,fun v H1 s1 i1=>⟨_,IsD.int_iff.mp i1,k _ H1 s1 (IsD.int_iff.mpr rfl)⟩⟩
theorem pv_fl (he:PF X e f):PV X O e (vFl f) :=
  PE.imp he fun σ H Q ⟨ρ,d,G,hs,e1,k⟩=>by
    obtain ⟨x,e2,e3⟩:=bind_some e1
    by_cases hx:flat x=true
    · rw [if_pos hx] at e3; cases e3
      refine ⟨ρ,d,hs.full,e2,fun v G' B' sG fB ot=>?_⟩
      have sJ:Same H (joinB G' B'):=sG.trans fB.same
      obtain ⟨G2,sG2,g0,hs'⟩:=hs.grow sJ
      refine k v _ G2 sJ sG2 hs' ?_
      cases d <;> try (simp [flat] at hx; done)
      rename_i ds
      obtain ⟨q,o,rfl,rfl,oc⟩:=ot.cont rfl
      rcases oc with ⟨ds',vs,e4,rfl,i⟩ | ⟨_,_,e4,_⟩
      · cases e4
        have hq:H q=none:=by
          cases hh:H q with
          | none=>rfl
          | some z=>have:=sG _ _ hh; rw [fB.free (q,.lst vs) (by simp)] at this; cases this
        exact IsD.list_iff.mpr ⟨q,vs,rfl,.inl (.inl (by rw [g0 q hq]; exact joinB_in fB.nd (q,.lst vs) (by simp))),i.scalD_any hx⟩
      · cases e4
    · rw [if_neg hx] at e3; cases e3
end
end L2
end
section
set_option Elab.async false
set_option linter.all false
set_option maxRecDepth 100000
set_option maxHeartbeats 1000000
namespace L2
open PySem PySem.Spec PyProof.Rows
section
open PySem.AutoSeq1 Builtin
theorem ext_any (p:Addr) (as:Array Value) (j:Nat) (q:Addr) (bs:Array Value) (k:Nat) (sl:Array (Option Value)) (h0:¬(!as.isEmpty && Builtin.List.listTooLong (as.size + bs.size))=true) (h1:as.size ≤ sizeLine) (h2:as.size + bs.size ≤ sizeLine + 1) :
    Meets (Builtin.«list.extend» ⟨[.ref p,.ref q],[]⟩) (fun _ R s =>
      s.heap.get? p=some ⟨.type "list",none,.seq as j,#[]⟩∧s.heap.get? q=some ⟨.type "list",none,.seq bs k,sl⟩ ∧
      R (.ok (.ret Value.none)) { s with heap:=s.heap.update p (Obj.mapSeq fun z=>z++bs),toks:=s.toks }) :=
  .of_wp fun prog w A R s h=>by
    obtain ⟨hp,g,d,tk,os⟩:=s
    obtain ⟨hl,hb,h⟩:=h
    have f1:=PySem.AutoSeq1.idx_int
    have f2:=PySem.AutoSeq1.sub_tuple_tuple
    have f3:=PySem.AutoSeq1.sub_list_list
    have f4:=PySem.AutoSeq1.sub_tuple_list
    have f5:=PySem.AutoSeq1.sub_list_tuple
    have hz':(as++bs).size ≤ sizeLine + 1:=by rw [Array.size_append]; exact h2
    wp_walk using (wpAny_updateSeq hl rfl (hz:=h1) (_hz':=hz')),wpAny_loadPart' hl,wpAny_loadPart' hb
    exact ⟨_,rfl,h⟩
end
section
variable {X:Cx}{m:Md}{O:List Nat}{a b c e o i:Expr}{es:List Expr}{fa fb fc f:Rho→Option PyData}{pos p2 p apos cpos:Pos}{ff:Rho→Option (List PyData)}{x:Str}
def dIntOf:List PyData→Option PyData
  | [.int i]=>some (.int i)
  | [.bool b]=>some (.int (if b then 1 else 0))
  | _=>none
theorem cd_int:CallD X (.type "int") dIntOf:=by
  refine CallR.imp call_int1 fun xs H Q ⟨ds,c,i,e,k⟩=>?_
  match ds,e with
  | [.int j],e =>
    cases e
    obtain ⟨v,rfl,h1⟩:=isDs_one i
    exact .inl ⟨j,by rw [IsD.int_iff.mp h1],k.here (IsD.int_iff.mpr rfl)⟩
  | [.bool b],e =>
    cases e
    obtain ⟨v,rfl,h1⟩:=isDs_one i
    exact .inr ⟨b,by rw [IsD.bool_iff.mp h1],k.here (IsD.int_iff.mpr rfl)⟩
def dAddL (x y:PyData):Option PyData:=match x,y with
  | .list xs,.list ys=>if xs.length + ys.length ≤ sizeLine then some (.list (xs++ys)) else none
  | _,_=>none
theorem pf_add (ha:PD X a fa) (hb:PD X b fb):PF X (.BinOp a .Add b pos) (d2 dAddL fa fb) :=
  PE.imp (pe_op op_catL ha hb) fun σ H Q ⟨ρ,d,hs,e,k⟩=>by
    obtain ⟨u,e1,e2⟩:=bind_some e
    obtain ⟨v,e3,e4⟩:=bind_some e2
    obtain ⟨xs,rfl⟩:∃ xs,u=.list xs:=by cases u <;> first | exact ⟨_,rfl⟩ | (cases v <;> cases e4)
    obtain ⟨ys,rfl⟩:∃ ys,v=.list ys:=by cases v <;> first | exact ⟨_,rfl⟩ | cases e4
    dsimp only [dAddL] at e4
    by_cases hz:xs.length + ys.length ≤ sizeLine
    · rw [if_pos hz] at e4; cases e4
      refine ⟨ρ,_,hs,e1,fun v H1 s1 i1=>⟨ρ,_,hs.same s1,e3,fun w H2 s2 i2=>?_⟩⟩
      obtain ⟨p,vs,rfl,q2,q3⟩:=IsD.list_iff.mp (i1.same s2)
      obtain ⟨q,ws,rfl,f2,f3⟩:=IsD.list_iff.mp i2
      exact ⟨p,q,vs,ws,rfl,rfl,q2,f2,by rw [← q3.length,← f3.length]; exact hz,(k.later (s1.trans s2)).newL (q3.append f3)⟩
    · rw [if_neg hz] at e4; cases e4
def rExtS (K:W.Frag):V→List V→Hp→VK→Prop:=fun x vs H Q=>∃ l b xs zs,x=.ref l∧vs=[.ref b]∧H l=some (.lst xs)∧SqL K H b zs∧xs.length + zs.length ≤ sizeLine∧Q .non (upd H l (.lst (xs++zs)))
theorem mt_extS:MtM X "list.extend" (rExtS X.K):=by
  intro pins s σ H x vs v us Q I rx rv ⟨l,b,xs,zs,ex,ev,hH,hB,hz,q⟩
  subst ex ev
  cases rx
  obtain ⟨u,rfl,ru⟩:=rv.one
  cases ru
  obtain ⟨z,its,n,r,hl,e⟩:=I.lstM hH
  obtain ⟨its2,r2,⟨⟨cls,dd,data,sl⟩,n2,e2,hc,hdd,hd⟩,hl2⟩:=I.list hB
  simp only at hc hdd hd
  subst hc hdd hd
  have r1l:=r.length
  have r2l:=r2.length
  have hsz:its.toArray.size + its2.toArray.size ≤ sizeLine:=by rw [List.size_toArray,List.size_toArray]; omega
  refine call_meets PySem.F.slot_list_extend ⟨_,e,rfl⟩ PySem.F.entry_list_extend (PySem.F.args_list_extend_2 _ _) (ext_any l its.toArray n b its2.toArray n2 sl (by rw [notLongL hsz,Bool.and_false]; exact Bool.false_ne_true) (by rw [List.size_toArray]; omega) (by omega)) ⟨e,e2,?_⟩
  refine ⟨.non,_,I.lset (its':=its++its2) hH e (by simp) (r.append r2) ?_,rfl,q⟩
  rw [List.length_append]
  omega
theorem pos_extendD {π:Pl}{o:Expr}{apos cpos:Pos} (ndO:O.Nodup) (ho:PP X o π) (he:PV X O e f) (hO:π.ix∈O:=by decide) (hst:starEach [e] X.env=(false,eval e X.env) :: starEach [] X.env:=by rfl)
    (hbase:attributeBase o "extend" X.env (eval o X.env)=eval o X.env:=by rfl)
    (hfew:((backTo cpos (starEach [e] X.env)).all (fun x=>!x.1) && (backToKw cpos (keywordEach [] X.env)).all (fun x=>x.1.isSome) && decide (([e]:List Expr).length + ([]:List Keyword).length + (if ([]:List Keyword).isEmpty then 0 else 1) < 30))=true:=by rfl)
    (hline:(apos.endLine == cpos.line)=true:=by rfl) (hplain:(backTo cpos (starEach [] X.env)).any (·.1)=false:=by rfl)
    (hs:swapsWith (.Call (.Attribute o "extend" apos) [e] [] cpos) none pos.line X.env=pure false:=by rfl) :
    POS X m O (.Expr (.Call (.Attribute o "extend" apos) [e] [] cpos) pos) (sExtend π f) :=
  PS.imp (ps_expr (pe_bm PySem.F.plainAttrs_list PySem.F.slot_list_extend PySem.F.type_list_extend mt_extS ho (pa_cons he pa_nil hst) hbase hfew hline hst hplain) hs) fun D σ H ⟨ρ,o,G,hs,e,k⟩=>by
    obtain ⟨l,e1,ea⟩:=bind_some e
    obtain ⟨d,e2,eb⟩:=bind_some ea
    obtain ⟨ds,rfl⟩:∃ ds,l=.list ds:=by cases l <;> first | exact ⟨_,rfl⟩ | (cases d <;> cases eb)
    obtain ⟨es,rfl⟩:∃ es,d=.list es:=by cases d <;> first | exact ⟨_,rfl⟩ | cases eb
    dsimp only at eb
    by_cases hz:ds.length + es.length ≤ sizeLine
    · rw [if_pos hz] at eb
      cases eb
      obtain ⟨q,ob,r,hq,oc,_⟩:=hs.o.place ndO hO e1 rfl
      obtain ⟨vs,rfl,i4⟩:=oc.lst
      refine ⟨q,r,.inl ⟨rfl,vs,SqL.of hq⟩,ρ,_,G,hs.o,e2,fun v H' G' sH sG hs' iv=>?_⟩
      obtain ⟨b,zs,rfl,sq,i5⟩:=IsD.list_iff.mp iv
      obtain ⟨q',ob',r',hq',oc',cl⟩:=hs'.place ndO hO e1 rfl
      have:=RefP.eq r r' sH
      subst this
      obtain ⟨vs',rfl,i4'⟩:=oc'.lst
      refine ⟨q,b,vs',zs,rfl,rfl,hq',hs'.sub.seq sq,by rw [← i4'.length,← i5.length]; exact hz,?_⟩
      exact k _ _ G' sG ⟨cl _ _ (.inl ⟨_,_,rfl,rfl,i4'.append i5⟩),hs.z⟩
    · rw [if_neg hz] at eb; cases eb
def sClear (π:Pl):Rho→Option Out:=fun ρ=>(getP π ρ).bind fun l=>match l with
  | .list _=>some (.nx (setP π (.list []) ρ))
  | _=>none
theorem pos_clear {π:Pl}{o:Expr}{apos cpos:Pos} (ndO:O.Nodup) (ho:PP X o π) (hO:π.ix∈O:=by decide)
    (hbase:attributeBase o "clear" X.env (eval o X.env)=eval o X.env:=by rfl) (hline:(apos.endLine == cpos.line)=true:=by rfl)
    (hs:swapsWith (.Call (.Attribute o "clear" apos) [] [] cpos) none pos.line X.env=pure false:=by rfl) :
    POS X m O (.Expr (.Call (.Attribute o "clear" apos) [] [] cpos) pos) (sClear π) :=
  PS.imp (ps_expr (pe_bm0 PySem.F.plainAttrs_list PySem.F.slot_list_clear PySem.F.type_list_clear mt_clear ho hbase hline) hs) fun D σ H ⟨ρ,o,G,hs,e,k⟩=>by
    obtain ⟨l,e1,eb⟩:=bind_some e
    obtain ⟨ds,rfl⟩:∃ ds,l=.list ds:=by cases l <;> first | exact ⟨_,rfl⟩ | cases eb
    cases eb
    obtain ⟨q,ob,r,hq,oc,cl⟩:=hs.o.place ndO hO e1 rfl
    obtain ⟨vs,rfl,i4⟩:=oc.lst
    exact ⟨q,r,.inl ⟨rfl,vs,SqL.of hq⟩,q,vs,rfl,rfl,hq,k _ _ G (.refl G) ⟨cl _ _ (.inl ⟨_,_,rfl,rfl,IsDs.nil⟩),hs.z⟩⟩
end
end L2
end
section
set_option Elab.async false
set_option linter.all false
set_option maxRecDepth 100000
set_option maxHeartbeats 1000000
namespace L2
open PySem PySem.Spec PyProof.Rows
def Itw (K:W.Frag) (l:Addr) (n:Nat):It where
  go:=fun i H=>i < n∧∃ xs,SqL K H l xs∧xs.length=n
  yld:=fun i H y H'=>H'=H∧i < n∧∀ xs,SqL K H l xs→xs[n - 1 - i]?=some y
  stop:=fun i _=>n ≤ i
theorem turn_rev {P:Program}{w:World}{K:W.Frag}{tg:Expr} (l it:Addr) (n:Nat):Turn P w K tg (Itw K l n) [it] it (fun i h=>i ≤ n∧h.IsRevIter it l ((n:Int) - 1 - (i:Int))) where
  mem:=by simp
  obj:=fun i h st b hb=>by
    have e:b=it:=by simpa using hb
    subst e
    obtain ⟨_,o,e,c,d⟩:=st
    exact ⟨o,e,fun v z=>by rw [d] at z; cases z⟩
  keep:=fun i h h' st k=>⟨st.1,st.2.at fun o e=>k it (by simp) o e⟩
  item:=by
    intro X hP hw hK hc i pins s σ H E I hf st hg
    subst hP hw hK
    obtain ⟨hi,xs,hq,hl⟩:=hg
    obtain ⟨f0,f1,f2,f3,f4,f5⟩:=hf it (by simp)
    obtain ⟨its,rv,pl,hz⟩:=I.list hq
    have hn:n - 1 - i < xs.length:=by omega
    have hx:xs[n - 1 - i]?=some xs[n - 1 - i]:=List.getElem?_eq_getElem hn
    obtain ⟨u,hu,ru⟩:=rv.get hx
    have ei:(n:Int) - 1 - (i:Int)=((n - 1 - i:Nat):Int):=by omega
    have st2:=st.2
    rw [ei] at st2
    refine wpAny_pyNext_rev_item st2 pl.isList (x:=u) (by simpa using hu) fun h' st' sb=>?_
    have I1:Inv X pins σ H { s with heap:=h',toks:=s.toks }:=I.turned (t':=s.toks) (fun b o hb e=>(sb.2 b hb).trans e) f0 f1 f3 f4 f5
    obtain ⟨o,e,c,d⟩:=id st'
    have ej:((n - 1 - i:Nat):Int) - 1=(n:Int) - 1 - ((i + 1:Nat):Int):=by omega
    rw [ej] at st'
    exact ⟨_,rfl,go_of (s:={ s with heap:=h',toks:=s.toks }) e c d (by decide) ⟨_,H,I1,ru,⟨rfl,hi,fun ys hy=>by rw [I.list_inj hy hq]; exact hx⟩,⟨by omega,st'⟩,fun b hb=>(hf b hb).1⟩⟩
  done:=by
    intro X hP hw hK hc i pins s σ H E I hf st hg
    subst hP hw hK
    obtain ⟨f0,f1,f2,f3,f4,f5⟩:=hf it (by simp)
    have hg':n ≤ i:=hg
    have:(n:Int) - 1 - (i:Int)=-1:=by have:=st.1; omega
    have st2:=st.2
    rw [this] at st2
    exact wpAny_pyNext_rev_end (I.ok.hd hc) st2 fun h' eb=>⟨rfl,I.turned (t':=s.toks) (fun b o hb e=>eb b o hb e) f0 f1 f3 f4 f5⟩
  self:=fun _ _ _ _ _ st h=>wpAny_pyIter_revIter st.2 h
section
variable {X:Cx}{m:Md}{O:List Nat}{a b c e o:Expr}{es:List Expr}{fa fb fc f:Rho→Option PyData}{pos p2 p apos cpos:Pos}{ff:Rho→Option (List PyData)}
theorem pi_rev {tg:Expr}{te:TE} (hg:Gl X "reversed") (hm:X.mg "reversed"=none) (he:PE X e te) (hs:starEach [e] X.env=[(false,eval e X.env)]:=by rfl):PI X tg (.Call (.Name "reversed" p) [e] [] pos) (fun σ H R=>te σ H fun v H1=>∃ l xs,v=.ref l∧SqL X.K H1 l xs∧R (Itw X.K l xs.length) H1):=by
  intro pins s σ H R I h
  refine wpAny_Call_Name_kw (ld_blt I hg hm (by rfl) ?_)
  refine PyProof.Rows.callWith_type1 ?_ (by rw [hs]; rfl) (by rfl)
  rw [hs]
  refine Calls.spliced_cons (thn (he pins s σ H _ I h) fun v s1 ⟨x,H1,I1,r1,l,xs,ex,hq,q⟩=>Calls.spliced_nil ?_)
  subst ex
  cases r1
  obtain ⟨its,rv,pl,hz⟩:=I1.list hq
  have hl:=rv.length
  refine call_reversed_list pl.isList ?_
  have st:({ s1 with heap:=s1.heap.push (revObj l ((its.toArray.size:Int) - 1)) }:Shared).heap.IsRevIter s1.heap.objs.size l ((xs.length:Int) - 1 - ((0:Nat):Int)):=⟨_,Heap.get?_push_size _ rfl,rfl,by simp [revObj,hl]⟩
  refine wpAny_pyIter_revIter st ?_
  have I2:Inv X pins σ H1 { s1 with heap:=s1.heap.push (revObj l ((its.toArray.size:Int) - 1)) }:=I1.kept (t':=s1.toks) fun b o e=>Heap.get?_push_of_some _ e
  exact ⟨_,[s1.heap.objs.size],_,_,H1,rfl,I2,turn_rev l _ _,⟨Nat.zero_le _,st⟩,fun b hb=>(by
    rw [show b=s1.heap.objs.size by simpa using hb]
    exact I1.fpOk (Nat.le_refl _) (I1.hok.fresh (Nat.le_refl _))),q⟩
def qRev (f:Rho→Option PyData):Rho→Option (List PyData):=fun ρ=>(f ρ).bind fun d=>match d with | .list ds=>some ds.reverse | _=>none
theorem walksO_rev {K:W.Frag}{H1:Hp}{l:Addr}{vs:List V}{ds:List PyData} (e2:SqL K H1 l vs) (e3:IsDs K H1 ds vs):WalksO K (Itw K l vs.length) ds.reverse H1:=fun H' s'=>by
  have hl:=e3.length
  refine ⟨by show vs.length ≤ _; simp [hl],fun i d q=>?_⟩
  have hi:i < ds.reverse.length:=(List.getElem?_eq_some_iff.mp q).1
  rw [List.length_reverse] at hi
  refine ⟨⟨by omega,vs,s'.seq e2,rfl⟩,fun y H2 ⟨r1,r2,r3⟩=>?_⟩
  subst r1
  refine ⟨.refl _,fun G' sG _=>?_⟩
  have r4:=r3 vs (s'.seq e2)
  rw [List.getElem?_reverse hi] at q
  obtain ⟨v,e4,e5⟩:=e3.get q
  rw [hl] at e4
  rw [e4] at r4
  cases r4
  exact e5.same sG
theorem poi_rev {tg:Expr} (hg:Gl X "reversed") (hm:X.mg "reversed"=none) (h:PD X e f) (hs:starEach [e] X.env=[(false,eval e X.env)]:=by rfl):POI X tg (.Call (.Name "reversed" p) [e] [] pos) (qRev f) :=
  PI.imp (pi_rev hg hm h hs) fun σ H R ⟨ρ,ds,hs,e,k⟩=>by
    obtain ⟨d,e1,e2⟩:=bind_some e
    obtain ⟨xs,rfl⟩:∃ xs,d=.list xs:=by cases d <;> first | exact ⟨_,rfl⟩ | cases e2
    cases e2
    refine ⟨ρ,_,hs,e1,fun v H1 s1 i1=>?_⟩
    obtain ⟨l,vs,rfl,q1,q2⟩:=IsD.list_iff.mp i1
    exact ⟨l,vs,rfl,q1,k _ H1 s1 (walksO_rev q1 q2)⟩
theorem pgT_four (i j l r:Nat) {x y z u:Str}{px py pz pu:Pos}{kt:Nat} (hc:X.calm=true) (hN:X.N.Nodup) (hi:X.N[i]?=some x:=by rfl) (hj:X.N[j]?=some y:=by rfl) (hl:X.N[l]?=some z:=by rfl) (hr:X.N[r]?=some u:=by rfl) (hx:Loc X.env.scope x:=by first | exact Or.inl rfl | exact Or.inr rfl) (hy:Loc X.env.scope y:=by first | exact Or.inl rfl | exact Or.inr rfl) (hz:Loc X.env.scope z:=by first | exact Or.inl rfl | exact Or.inr rfl) (hw:Loc X.env.scope u:=by first | exact Or.inl rfl | exact Or.inr rfl)
    (hf:X.fn x=true ∨ X.env.scope.names.lookup x=some .local:=by first | exact .inl rfl | exact .inr rfl | assumption) (hf2:X.fn y=true ∨ X.env.scope.names.lookup y=some .local:=by first | exact .inl rfl | exact .inr rfl | assumption) (hf3:X.fn z=true ∨ X.env.scope.names.lookup z=some .local:=by first | exact .inl rfl | exact .inr rfl | assumption) (hf4:X.fn u=true ∨ X.env.scope.names.lookup u=some .local:=by first | exact .inl rfl | exact .inr rfl | assumption)
    (hn:(assignEach [.Name x px,.Name y py,.Name z pz,.Name u pu] X.env).length=4:=by rfl) (hst:(assignEach [.Name x px,.Name y py,.Name z pz,.Name u pu] X.env).findIdx? (·.1)=none:=by rfl):PG X (.Tuple [.Name x px,.Name y py,.Name z pz,.Name u pu] kt pos) (gT X.K (.many [i,j,l,r])) :=
  PG.imp (pg_tup hc (pgs_cons (pg_name hN hi hx hf) (pgs_cons (pg_name hN hj hy hf2) (pgs_cons (pg_name hN hl hz hf3) (pgs_cons (pg_name hN hr hw hf4) pgs_nil)))) hn hst) fun v σ H Q ⟨p,xs,e1,e2,e3,q⟩=>by
    refine ⟨p,xs,e1,e2,e3,?_⟩
    match xs,e3 with
    | [v1,v2,v3,v4],_=>exact ⟨v1,[v2,v3,v4],rfl,v2,[v3,v4],rfl,v3,[v4],rfl,v4,[],rfl,rfl,q⟩
end
end L2
end
section
set_option Elab.async false
set_option linter.all false
set_option maxRecDepth 100000
set_option maxHeartbeats 1000000
namespace L2
open PySem PySem.Spec PyProof.Rows PySem.Builtin PySem.Builtin.Str
section
variable {X:Cx}{m:Md}{O:List Nat}{e a:Expr}{f:Rho→Option PyData}{pos p2:Pos}{sts:List Stmt}
theorem poss_never:POSs X m O sts sNever:=PSs.imp pss_never fun D σ H ⟨ρ,o,G,hs,e,k⟩=>by cases e
def dRev (f:Rho→Option PyData):Rho→Option PyData:=fun ρ=>(f ρ).bind fun d=>match d with | .list xs=>some (.list xs.reverse) | _=>none
theorem IsDs.reverse {K:W.Frag}{H:Hp}:∀ {ds:List PyData}{vs:List V},IsDs K H ds vs→IsDs K H ds.reverse vs.reverse
  | [],_,h=>by rw [IsDs.nil_iff.mp h]; exact IsDs.nil
  | d :: ds,_,h=>by
    obtain ⟨v,r,rfl,h1,h2⟩:=IsDs.cons_iff.mp h
    rw [List.reverse_cons,List.reverse_cons]
    exact (IsDs.reverse h2).append (IsDs.cons h1 IsDs.nil)
theorem vals_reverse:∀ {vs:List V}{us:List Value},Vals vs us→Vals vs.reverse us.reverse
  | _,_,.nil=>.nil
  | _,_,.cons r t=>by
    rw [List.reverse_cons,List.reverse_cons]
    exact (vals_reverse t).append (.cons r .nil)
theorem pd_rev {st:Expr} (he:PD X e f) (hst:PD X st (dC (.int (-1)))):PD X (.Subscript e (.Slice none none (some st) p2) pos) (dRev f):=by
  intro pins s σ H Q I ⟨ρ,d,hs,e1,k⟩
  obtain ⟨x,ex,e2⟩:=bind_some e1
  cases x <;> try (simp at e2; done)
  rename_i ys
  cases e2
  refine Subscript_ (thn (he pins s σ H (fun v H1=>Same H H1∧IsD X.K H1 (.list ys) v) I ⟨ρ,_,hs,ex,fun v H1 s1 i1=>⟨s1,i1⟩⟩) fun v s1 ⟨x,H1,I1,r1,sm1,i1⟩=>?_)
  obtain ⟨p,vs,rfl,q1,q2⟩:=IsD.list_iff.mp i1
  cases r1
  refine wpAny_Slice ?_
  rw [evalPart_none]
  refine wpAny_pure (wpAny_pure ?_)
  show wpAny _ _ (eval st X.env) _ _ _
  refine thn (hst pins s1 σ H1 (fun v H2=>Same H1 H2∧v=.int (-1)) I1 ⟨ρ,_,hs.same sm1,rfl,fun v H2 s2 i2=>⟨s2,IsD.int_iff.mp i2⟩⟩) fun u s2 ⟨y,H2,I2,r2,sm2,ey⟩=>?_
  subst ey
  obtain ⟨t,rfl⟩:=r2
  have q1':=sm2.seq q1
  have I3:Inv X pins σ H2 { s2 with heap:=s2.heap.push { cls:=.type "slice",data:=.fields #[.none,.none,.int (-1) t] } }:=I2.kept (t':=s2.toks) fun b ob q=>Heap.get?_push_of_some _ q
  obtain ⟨its,r,pl,hz⟩:=I3.list q1'
  have hlen:=r.length
  have hg:wpAny (model X.prog X.w) X.A (getItem (.ref p) (.ref s2.heap.objs.size)) (EP X pins σ Q) X.xe { s2 with heap:=s2.heap.push { cls:=.type "slice",data:=.fields #[.none,.none,.int (-1) t] } }:=by
    refine wpAny_getItem_list_slice pl.isList (Heap.IsSliceOf.new ..) .none .none (.int (-1) t) (by simp) ?_ (by rw [List.size_toArray] <;> omega)
    rw [W.krv_pick]
    have fr:=I3.hok.fresh (Nat.le_refl _)
    refine ⟨.ref _,_,I3.laid (t':=s2.toks) (o:=.lst vs.reverse) (fun b ob q=>Heap.get?_push_of_some _ q) (Nat.le_refl _) ?_,rfl,k _ _ (sm1.trans (sm2.trans (same_upd fr))) (isD_newL fr (q2.same sm2).reverse)⟩
    exact ⟨by rw [List.length_reverse]; exact hz,its.reverse,0,vals_reverse r,Heap.get?_push_size _ rfl⟩
  show wpAny (model X.prog X.w) X.A (subscriptTail e (.Slice none none (some st) p2) (.ref p) (.ref s2.heap.objs.size)) (EP X pins σ Q) X.xe { s2 with heap:=s2.heap.push { cls:=.type "slice",data:=.fields #[.none,.none,.int (-1) t] } }
  exact tail_any (ops:=[.ref p,.ref s2.heap.objs.size]) pl.isList.typeIs slot_list_getitem.lookup hg (by with_unfolding_all rfl)
def dSIndex (d:PyData) (ds:List PyData):Option PyData:=match d,ds with
  | .str x,[.str y]=>match occurrences x y 0 x.length 1 with
    | i :: _=>some (.int i)
    | []=>none
  | _,_=>none
theorem mt_sindex:MtR X "str.index" (fun x vs H Q=>∃ d ds c,IsD X.K H d x∧IsDs X.K H ds vs∧dSIndex d ds=some c∧KD X.K H c Q):=by
  intro pins s σ H v vs u us Q I rx rv h
  obtain ⟨d,ds,cc,i1,i2,e,k⟩:=h
  unfold dSIndex at e
  split at e
  · rename_i x y
    split at e
    · rename_i i r ho
      cases e
      rw [IsD.str_iff.mp i1] at rx
      obtain ⟨t,rfl⟩:=rx
      obtain ⟨v2,rfl,i3⟩:=isDs_one i2
      rw [IsD.str_iff.mp i3] at rv
      obtain ⟨u',rfl,t',rfl⟩:=rv.one
      exact SC.index ho ⟨.int _,H,I.tok (s.toks + 1),⟨_,rfl⟩,k.here (IsD.int_iff.mpr rfl)⟩
    · cases e
  · cases e
end
end L2
end
set_option Elab.async false
set_option linter.all false
set_option maxRecDepth 100000
set_option maxHeartbeats 4000000
namespace K05
open PySem L2
def top (i:Nat):Stmt:=PySem.Challenge.pw_pointsure_k05_kinds.main.body.getD i (.Pass ⟨0,0,0,0⟩)
abbrev s_law_cell_at:Stmt:=top 47
theorem sc_law_cell_at:FnScope ["_law_script","_law_k"] ["_law_script","_law_k"] (defScope s_law_cell_at):=⟨rfl,rfl,rfl,by decide +kernel,rfl,by decide +kernel,by decide +kernel⟩
def g_law_cell_at:Rho→Option Out :=
(sSeq (sIf (fB (d2 dLt (dVar 1) (dCall dLenA (aCons (dVar 0) aNil))))
(sRet (d2 dIxA (dVar 0) (dVar 1)))
sNil)
(sRet (dC (.int 0))))
def f_law_cell_at:List PyData→Option PyData:=runD ["_law_script","_law_k"] g_law_cell_at
abbrev s_law_draw:Stmt:=top 48
theorem sc_law_draw:FnScope ["_law_cell","_law_digits","_law_found","_law_number","_law_k"] ["_law_cell","_law_digits"] (defScope s_law_draw):=⟨rfl,rfl,rfl,by decide +kernel,rfl,by decide +kernel,by decide +kernel⟩
def g_law_draw_L0:Rho→Option Out :=
(sSeq (sSetV (vFr [2] (d2 dMod (d2 dAdd (d2 dMulA (dVar 3) (dC (.int 48271))) (dVar 4)) (dC (.int 2147483647)))) 3)
(sIf (fAnd (fTA (dVar 1)) (fB (d2 dNotIn (dVar 0) (dTup (aCons (dC (.int 0)) (aCons (dC (.int (-1))) aNil))))))
(sSeq (sAppend (.sl 2) (vFr [2] (d2 dMod (dVar 0) (dC (.int 5040)))))
(sSetV (vFr [2] (d2 dDiv (dVar 0) (dC (.int 5040)))) 0))
(sAppend (.sl 2) (vFr [2] (d2 dMod (d2 dMulA (d2 dMod (d2 dMulA (dVar 3) (dC (.int 69621))) (dC (.int 99991))) (dC (.int 16807))) (dC (.int 99989)))))))
def g_law_draw:Rho→Option Out :=
(sSeq (sNewF (vFr [2] (dLst aNil)) 2)
(sSeq (sSetV (vFr [2] (d2 dAdd (d2 dMod (dVar 0) (dC (.int 1000000007))) (dC (.int 1)))) 3)
(sSeq (sForO (qFr [2] (qRange1 (dC (.int 14)))) (.one 4) g_law_draw_L0)
(sRet (dVar 2)))))
def f_law_draw:List PyData→Option PyData:=runD ["_law_cell","_law_digits","_law_found","_law_number","_law_k"] g_law_draw
abbrev s_law_elders:Stmt:=top 51
theorem sc_law_elders:FnScope ["_law_kinds_here","_law_k","_law_names","_law_found"] ["_law_kinds_here","_law_k"] (defScope s_law_elders):=⟨rfl,rfl,rfl,by decide +kernel,rfl,by decide +kernel,by decide +kernel⟩
def g_law_elders_T0:Rho→Option Bool:=(fun _=>some true)
def g_law_elders_C0:Rho→Option PyData:=(d2 dIxA (dVar 0) (dC (.int 0)))
def g_law_elders_L1:Rho→Option Out :=
(sAppend (.sl 3) (vSc (dMtL dIndex (dVar 2) (aCons (d2 dIxA (d2 dIxA (dVar 0) (d2 dIxA (dVar 3) (dC (.int (-1))))) (dC (.int 1))) aNil))))
def g_law_elders:Rho→Option Out :=
(sSeq (sSetV (vFr [3] (dComp (qSeq (dVar 0)) [] g_law_elders_T0 g_law_elders_C0)) 2)
(sSeq (sNewF (vFr [3] (dLst (aCons (dVar 1) aNil))) 3)
(sSeq (sWhile (fB (d2 dIsNotA (d2 dIxA (d2 dIxA (dVar 0) (d2 dIxA (dVar 3) (dC (.int (-1))))) (dC (.int 1))) (dC .none))) g_law_elders_L1)
(sRet (dVar 3)))))
def f_law_elders:List PyData→Option PyData:=runD ["_law_kinds_here","_law_k","_law_names","_law_found"] g_law_elders
abbrev s_law_fields:Stmt:=top 52
theorem sc_law_fields:FnScope ["_law_kinds_here","_law_k","_law_fields_here","_law_at"] ["_law_kinds_here","_law_k"] (defScope s_law_fields):=⟨rfl,rfl,rfl,by decide +kernel,rfl,by decide +kernel,by decide +kernel⟩
def g_law_fields_L0:Rho→Option Out :=
(sNewF (vFl (d2 dAddL (d2 dIxA (d2 dIxA (dVar 0) (dVar 3)) (dC (.int 2))) (dVar 2))) 2)
def g_law_fields:Rho→Option Out :=
(sSeq (sNewF (vFr [2] (dLst aNil)) 2)
(sSeq (sForO (qFr [2] (qSeqA (dFn 2 f_law_elders (aCons (dVar 0) (aCons (dVar 1) aNil))))) (.one 3) g_law_fields_L0)
(sRet (dVar 2))))
def f_law_fields:List PyData→Option PyData:=runF ["_law_kinds_here","_law_k","_law_fields_here","_law_at"] g_law_fields
abbrev s_law_kinds:Stmt:=top 49
theorem sc_law_kinds:FnScope ["_law_script","_law_digits","_law_letters","_law_kinds_here","_law_k","_law_draw_here","_law_elder","_law_ahead","_law_own"] ["_law_script","_law_digits"] (defScope s_law_kinds):=⟨rfl,rfl,rfl,by decide +kernel,rfl,by decide +kernel,by decide +kernel⟩
def g_law_kinds_T0:Rho→Option Bool:=(fun _=>some true)
def g_law_kinds_C0:Rho→Option PyData:=(d2 dAdd (d2 dMulA (dC (.str "f")) (d2 dMod (d2 dIxA (dVar 1) (dC (.int 3))) (dC (.int 6)))) (dVar 0))
def g_law_kinds_T1:Rho→Option Bool:=(fun _=>some true)
def g_law_kinds_C1:Rho→Option PyData:=(d2 dAdd (d2 dAdd (dSlice (dVar 0) oNone (oSome (dC (.int (-1))))) (d2 dIxA (dLst (aCons (dC (.str "")) (aCons (d2 dIxA (dC (.str "ghijklmnopqrstuv")) (dVar 1)) aNil))) (dCall dIntOf (aCons (d2 dIn (dVar 0) (dVar 2)) aNil)))) (d2 dIxA (dVar 0) (dC (.int (-1)))))
def g_law_kinds_L2:Rho→Option Out :=
(sSeq (sSetV (vFr [3] (dFn 2 f_law_draw (aCons (dFn 2 f_law_cell_at (aCons (dVar 0) (aCons (d2 dAdd (dC (.int 1)) (dVar 4)) aNil))) (aCons (dVar 1) aNil)))) 5)
(sSeq (sSetV (vFr [3] (dC .none)) 6)
(sSeq (sIf (fAnd (fB (d2 dGt (dVar 4) (dC (.int 0)))) (fB (d2 dGt (d2 dMod (d2 dIxA (dVar 5) (dC (.int 0))) (dC (.int 4))) (dC (.int 0)))))
(sSetV (vFr [3] (d2 dAdd (dC (.str "kind")) (d2 dIxA (dVar 2) (d2 dIxA (dLst (aCons (d2 dSub (dVar 4) (dC (.int 1))) (aCons (d2 dMod (d2 dIxA (dVar 5) (dC (.int 1))) (dVar 4)) aNil))) (d2 dMod (d2 dIxA (dVar 5) (dC (.int 2))) (dC (.int 2))))))) 6)
sNil)
(sSeq (sSetV (vFr [3] (dLst aNil)) 7)
(sSeq (sIf (fB (d2 dIsNotA (dVar 6) (dC .none)))
(sSetV (vFl (dFn 2 f_law_fields (aCons (dVar 3) (aCons (dMt dSIndex (dVar 2) (aCons (d2 dIxA (dVar 6) (dC (.int 4))) aNil)) aNil)))) 7)
sNil)
(sSeq (sSetV (vFr [3] (dComp (qSeq (dSlice (dLst (aCons (dC (.str "a")) (aCons (dC (.str "b")) (aCons (dC (.str "c")) aNil)))) oNone (oSome (d2 dMod (d2 dIxA (dVar 5) (dC (.int 4))) (dC (.int 4)))))) [(5,"_law_draw_here")] g_law_kinds_T0 g_law_kinds_C0)) 8)
(sSeq (sSetV (vFr [3] (dComp (qSeq (dVar 8)) [(4,"_law_k"),(7,"_law_ahead")] g_law_kinds_T1 g_law_kinds_C1)) 8)
(sAppend (.sl 3) (vFr [3] (dTup (aCons (d2 dAdd (dC (.str "kind")) (d2 dIxA (dVar 2) (dVar 4))) (aCons (dVar 6) (aCons (dVar 8) (aCons (dSlice (dLst (aCons (dC (.str "m")) (aCons (dC (.str "n")) (aCons (dC (.str "mm")) aNil)))) (oSome (d2 dMod (d2 dIxA (dVar 5) (dC (.int 5))) (dC (.int 3)))) (oSome (d2 dAdd (d2 dMod (d2 dIxA (dVar 5) (dC (.int 5))) (dC (.int 3))) (d2 dMod (d2 dIxA (dVar 5) (dC (.int 6))) (dC (.int 3)))))) aNil))))))))))))))
def g_law_kinds:Rho→Option Out :=
(sSeq (sSetV (vFr [3] (dC (.str "abcdefghijklmnop"))) 2)
(sSeq (sNewF (vFr [3] (dLst aNil)) 3)
(sSeq (sForO (qFr [3] (qRange1 (dCall dMax (aCons (dC (.int 1)) (aCons (dCall dMin (aCons (dC (.int 16)) (aCons (d2 dSub (dCall dLenA (aCons (dVar 0) aNil)) (dC (.int 1))) aNil))) aNil))))) (.one 4) g_law_kinds_L2)
(sRet (dVar 3)))))
def f_law_kinds:List PyData→Option PyData:=runD ["_law_script","_law_digits","_law_letters","_law_kinds_here","_law_k","_law_draw_here","_law_elder","_law_ahead","_law_own"] g_law_kinds
abbrev s_Reading_init:Stmt:=inClass (top 35) 0
theorem sc_Reading_init:FnScope ["self"] ["self"] (defScope s_Reading_init):=⟨rfl,rfl,rfl,by decide +kernel,rfl,by decide +kernel,by decide +kernel⟩
def g_Reading_init:Rho→Option Out :=
(sSeq (sFldN 0 "Reading" "fields" (vFr [0] (dC (.dict []))))
(sSeq (sFldN 0 "Reading" "heads" (vFr [0] (dC (.dict []))))
(sSeq (sFldV 0 "Reading" "body" (vFr [0] (dC .none)))
(sSeq (sFldN 0 "Reading" "blocks" (vFr [0] (dLst aNil)))
(sSeq (sFldV 0 "Reading" "over" (vFr [0] (dC (.bool false))))
(sFldN 0 "Reading" "later" (vFr [0] (dLst aNil))))))))
def f_Reading_init:List PyData→Option (PyData × PyData):=runIO ["self"] g_Reading_init
abbrev s_method_body:Stmt:=top 10
theorem sc_method_body:FnScope ["kind","method"] ["kind","method"] (defScope s_method_body):=⟨rfl,rfl,rfl,by decide +kernel,rfl,by decide +kernel,by decide +kernel⟩
def g_method_body:Rho→Option Out :=
(sRet (dFs (jCons (dFv (dVar 0)) (jCons (dC (.str ".")) (jCons (dFv (dVar 1)) (fun _=>some Str.empty))))))
def f_method_body:List PyData→Option PyData:=runD ["kind","method"] g_method_body
abbrev s_head_body:Stmt:=top 11
theorem sc_head_body:FnScope ["head"] ["head"] (defScope s_head_body):=⟨rfl,rfl,rfl,by decide +kernel,rfl,by decide +kernel,by decide +kernel⟩
def g_head_body:Rho→Option Out :=
(sSeq (sIf (fB (d2 dEq (d2 dIxA (dVar 0) (dC (.int 0))) (dC (.str "method"))))
(sRet (dFn 2 f_method_body (aCons (d2 dIxA (dVar 0) (dC (.int 1))) (aCons (d2 dIxA (dVar 0) (dC (.int 2))) aNil))))
sNil)
(sSeq (sIf (fB (d2 dEq (d2 dIxA (dVar 0) (dC (.int 0))) (dC (.str "func"))))
sNever
sNil)
(sRet (dC (.str "main")))))
def f_head_body:List PyData→Option PyData:=runD ["head"] g_head_body
abbrev s_numbered_rows:Stmt:=top 32
theorem sc_numbered_rows:FnScope ["text","rows","body","depth","line","row","words"] ["text"] (defScope s_numbered_rows):=⟨rfl,rfl,rfl,by decide +kernel,rfl,by decide +kernel,by decide +kernel⟩
def g_numbered_rows_L0:Rho→Option Out :=
(sSeq (sSetV (vFr [1] (dMt dSplit (dVar 5) (aCons (dC (.str " ")) aNil))) 6)
(sIf (fB (d2 dEq (d2 dIxA (dVar 6) (dC (.int 0))) (dC (.str "end"))))
(sAug 3 (fun i j=>i - j) (vFr [1] (dC (.int 1))))
(sIf (fB (d2 dGt (dVar 3) (dC (.int 0))))
sNever
(sIf (fB (d2 dNe (d2 dIxA (dVar 6) (dC (.int 0))) (dC (.str "kind"))))
(sSeq (sSetV (vFr [1] (dFn 1 f_head_body (aCons (dVar 6) aNil))) 2)
(sSetV (vFr [1] (dC (.int 1))) 3))
sNil))))
def g_numbered_rows:Rho→Option Out :=
(sSeq (sNewF (vFr [1] (dC (.dict []))) 1)
(sSeq (sSetV (vFr [1] (dC .none)) 2)
(sSeq (sSetV (vFr [1] (dC (.int 0))) 3)
(sSeq (sForO (qFr [1] (qEnum (dMt dSplit (dVar 0) (aCons (dC (.str "\n")) aNil)))) (.many [4,5]) g_numbered_rows_L0)
(sRet (dVar 1))))))
def f_numbered_rows:List PyData→Option PyData:=runD ["text","rows","body","depth","line","row","words"] g_numbered_rows
abbrev s_Program_shown:Stmt:=inClass (top 31) 1
theorem sc_Program_shown:FnScope ["self"] ["self"] (defScope s_Program_shown):=⟨rfl,rfl,rfl,by decide +kernel,rfl,by decide +kernel,by decide +kernel⟩
def g_Program_shown:Rho→Option Out :=
(sRet (dFld ["Program"] "text" (dVar 0)))
def f_Program_shown:List PyData→Option PyData:=runD ["self"] g_Program_shown
abbrev s_rows_of_words:Stmt:=top 12
theorem sc_rows_of_words:FnScope ["program"] ["program"] (defScope s_rows_of_words):=⟨rfl,rfl,rfl,by decide +kernel,rfl,by decide +kernel,by decide +kernel⟩
def g_rows_of_words_T0:Rho→Option Bool:=(fun _=>some true)
def g_rows_of_words_C0:Rho→Option PyData:=(dMt dSplit (dVar 0) (aCons (dC (.str " ")) aNil))
def g_rows_of_words:Rho→Option Out :=
(sRet (dComp (qSeq (dMt dSplit (dMeth "Program" "shown" 1 f_Program_shown (dVar 0) aNil) (aCons (dC (.str "\n")) aNil))) [] g_rows_of_words_T0 g_rows_of_words_C0))
def f_rows_of_words:List PyData→Option PyData:=runD ["program"] g_rows_of_words
abbrev s_body_heads:Stmt:=top 16
theorem sc_body_heads:FnScope ["program","heads","depth","words"] ["program"] (defScope s_body_heads):=⟨rfl,rfl,rfl,by decide +kernel,rfl,by decide +kernel,by decide +kernel⟩
def g_body_heads_L0:Rho→Option Out :=
(sIf (fB (d2 dEq (d2 dIxA (dVar 3) (dC (.int 0))) (dC (.str "end"))))
(sAug 2 (fun i j=>i - j) (vFr [1] (dC (.int 1))))
(sIf (fAnd (fB (d2 dEq (dVar 2) (dC (.int 0)))) (fB (d2 dNe (d2 dIxA (dVar 3) (dC (.int 0))) (dC (.str "kind")))))
(sSeq (sPut (.sl 1) (vFr [1] (dFn 1 f_head_body (aCons (dVar 3) aNil))) (vFr [1] (dVar 3)))
(sSetV (vFr [1] (dC (.int 1))) 2))
(sIf (fB (d2 dIn (d2 dIxA (dVar 3) (dC (.int 0))) (dTup (aCons (dC (.str "if")) (aCons (dC (.str "while")) aNil)))))
(sAug 2 (fun i j=>i + j) (vFr [1] (dC (.int 1))))
sNil)))
def g_body_heads:Rho→Option Out :=
(sSeq (sNewF (vFr [1] (dC (.dict []))) 1)
(sSeq (sSetV (vFr [1] (dC (.int 0))) 2)
(sSeq (sForO (qFr [1] (qSeqA (dFn 1 f_rows_of_words (aCons (dVar 0) aNil)))) (.one 3) g_body_heads_L0)
(sRet (dVar 1)))))
def f_body_heads:List PyData→Option PyData:=runD ["program","heads","depth","words"] g_body_heads
abbrev s_Program_init:Stmt:=inClass (top 31) 0
theorem sc_Program_init:FnScope ["self","text"] ["self","text"] (defScope s_Program_init):=⟨rfl,rfl,rfl,by decide +kernel,rfl,by decide +kernel,by decide +kernel⟩
def g_Program_init:Rho→Option Out :=
(sSeq (sFldV 0 "Program" "text" (vFr [0] (dVar 1)))
(sSeq (sFldV 0 "Program" "numbered" (vFr [0] (dFn 1 f_numbered_rows (aCons (dVar 1) aNil))))
(sFldV 0 "Program" "body_texts" (vFl (dCall dListA (aCons (dFn 1 f_body_heads (aCons (dVar 0) aNil)) aNil))))))
def f_Program_init:List PyData→Option (PyData × PyData):=runIO ["self","text"] g_Program_init
abbrev s_close_block:Stmt:=top 43
theorem sc_close_block:FnScope ["reading"] ["reading"] (defScope s_close_block):=⟨rfl,rfl,rfl,by decide +kernel,rfl,by decide +kernel,by decide +kernel⟩
def g_close_block:Rho→Option Out :=
(sSeq (sIf (fTA (dFld ["Reading"] "blocks" (dVar 0)))
sNever
sNil)
(sSeq (sFldV 0 "Reading" "over" (vSc (d2 dEq (dFld ["Reading"] "body" (dVar 0)) (dC (.str "main")))))
(sFldV 0 "Reading" "body" (vFr [0] (dC .none)))))
def f_close_block:List PyData→Option (PyData × PyData):=runIO ["reading"] g_close_block
abbrev s_reads_within:Stmt:=top 42
theorem sc_reads_within:FnScope ["reading","line","words","row"] ["reading","line","words"] (defScope s_reads_within):=⟨rfl,rfl,rfl,by decide +kernel,rfl,by decide +kernel,by decide +kernel⟩
def g_reads_within:Rho→Option Out :=
(sSeq (sIf (fB (d2 dEq (dVar 2) (dLst (aCons (dC (.str "end")) aNil))))
(sSeq (sExprX (hCall [0] 0 1 f_close_block aNil))
(sRetI (dC (.bool true))))
sNil)
(sSeq (sIf (fB (d2 dEq (dVar 2) (dLst (aCons (dC (.str "else")) aNil))))
sNever
sNil)
sNever))
def f_reads_within:List PyData→Option (PyData × PyData):=runIO ["reading","line","words","row"] g_reads_within
abbrev s_are_once:Stmt:=top 41
theorem sc_are_once:FnScope ["names"] ["names"] (defScope s_are_once):=⟨rfl,rfl,rfl,by decide +kernel,rfl,by decide +kernel,by decide +kernel⟩
def g_are_once:Rho→Option Out :=
(sRet (d2 dEq (dLenSet (dVar 0)) (dCall dLenA (aCons (dVar 0) aNil))))
def f_are_once:List PyData→Option PyData:=runD ["names"] g_are_once
abbrev s_reads_kind:Stmt:=top 38
theorem sc_reads_kind:FnScope ["reading","words","behind","fields"] ["reading","words"] (defScope s_reads_kind):=⟨rfl,rfl,rfl,by decide +kernel,rfl,by decide +kernel,by decide +kernel⟩
def g_reads_kind:Rho→Option Out :=
(sSeq (sIf (fOr (fTA (dFld ["Reading"] "heads" (dVar 0))) (fOr (fB (d2 dLt (dCall dLenA (aCons (dVar 1) aNil)) (dC (.int 2)))) (fB (d2 dIn (d2 dIxA (dVar 1) (dC (.int 1))) (dFld ["Reading"] "fields" (dVar 0))))))
(sRetI (dC (.bool false)))
sNil)
(sSeq (sSetV (vFr [0,3] (dSlice (dVar 1) (oSome (dC (.int 2))) oNone)) 2)
(sSeq (sNewF (vFr [0,3] (dLst aNil)) 3)
(sSeq (sIf (fAnd (fTA (dVar 2)) (fB (d2 dEq (d2 dIxA (dVar 2) (dC (.int 0))) (dC (.str "of")))))
(sSeq (sIf (fOr (fB (d2 dLt (dCall dLenA (aCons (dVar 2) aNil)) (dC (.int 2)))) (fB (d2 dNotIn (d2 dIxA (dVar 2) (dC (.int 1))) (dFld ["Reading"] "fields" (dVar 0)))))
(sRetI (dC (.bool false)))
sNil)
(sSeq (sNewF (vFl (dCall dListA (aCons (d2 dIxA (dFld ["Reading"] "fields" (dVar 0)) (d2 dIxA (dVar 2) (dC (.int 1)))) aNil))) 3)
(sSetV (vFr [0,3] (dSlice (dVar 2) (oSome (dC (.int 2))) oNone)) 2)))
sNil)
(sSeq (sIf (fAnd (fTA (dVar 2)) (fOr (fB (d2 dNe (d2 dIxA (dVar 2) (dC (.int 0))) (dC (.str "fields")))) (fB (d2 dLt (dCall dLenA (aCons (dVar 2) aNil)) (dC (.int 2))))))
(sRetI (dC (.bool false)))
sNil)
(sSeq (sExtend (.sl 3) (vFr [0,3] (dSliceL (dVar 2) (oSome (dC (.int 1))) oNone)))
(sFrz 3 (sSeq (sPut (.fl 0 "Reading" "fields") (vFr [0] (d2 dIxA (dVar 1) (dC (.int 1)))) (vFr [0] (dVar 3)))
(sRetI (dFn 1 f_are_once (aCons (dVar 3) aNil)))))))))))
def f_reads_kind:List PyData→Option (PyData × PyData):=runIO ["reading","words","behind","fields"] g_reads_kind
abbrev s_head_params:Stmt:=top 8
theorem sc_head_params:FnScope ["head","names"] ["head"] (defScope s_head_params):=⟨rfl,rfl,rfl,by decide +kernel,rfl,by decide +kernel,by decide +kernel⟩
def g_head_params:Rho→Option Out :=
(sSeq (sIf (fB (d2 dEq (d2 dIxA (dVar 0) (dC (.int 0))) (dC (.str "method"))))
(sRet (dCall dListA (aCons (dSlice (dVar 0) (oSome (dC (.int 3))) oNone) aNil)))
sNil)
sNever)
def f_head_params:List PyData→Option PyData:=runF ["head","names"] g_head_params
abbrev s_head_kept:Stmt:=top 9
theorem sc_head_kept:FnScope ["head","names"] ["head"] (defScope s_head_kept):=⟨rfl,rfl,rfl,by decide +kernel,rfl,by decide +kernel,by decide +kernel⟩
def g_head_kept:Rho→Option Out :=
(sSeq (sIf (fOr (fB (d2 dNe (d2 dIxA (dVar 0) (dC (.int 0))) (dC (.str "func")))) (fB (d2 dNotIn (dC (.str "keeps")) (dSlice (dVar 0) (oSome (dC (.int 2))) oNone))))
(sRet (dLst aNil))
sNil)
sNever)
def f_head_kept:List PyData→Option PyData:=runF ["head","names"] g_head_kept
abbrev s_are_heads_names:Stmt:=top 40
theorem sc_are_heads_names:FnScope ["words","names"] ["words"] (defScope s_are_heads_names):=⟨rfl,rfl,rfl,by decide +kernel,rfl,by decide +kernel,by decide +kernel⟩
def g_are_heads_names:Rho→Option Out :=
(sSeq (sIf (fAnd (fB (d2 dEq (d2 dIxA (dVar 0) (dC (.int 0))) (dC (.str "func")))) (fAnd (fB (d2 dIn (dC (.str "keeps")) (dSlice (dVar 0) (oSome (dC (.int 2))) oNone))) (fNot (fTA (dFn 1 f_head_kept (aCons (dVar 0) aNil))))))
(sRet (dC (.bool false)))
sNil)
(sSeq (sSetV (vFr [] (d2 dAdd (dFn 1 f_head_params (aCons (dVar 0) aNil)) (dFn 1 f_head_kept (aCons (dVar 0) aNil)))) 1)
(sRet (dAndV (d2 dNotIn (dC (.str "self")) (dVar 1)) (dFn 1 f_are_once (aCons (dVar 1) aNil))))))
def f_are_heads_names:List PyData→Option PyData:=runD ["words","names"] g_are_heads_names
abbrev s_is_head:Stmt:=top 39
theorem sc_is_head:FnScope ["reading","words"] ["reading","words"] (defScope s_is_head):=⟨rfl,rfl,rfl,by decide +kernel,rfl,by decide +kernel,by decide +kernel⟩
def g_is_head:Rho→Option Out :=
(sSeq (sIf (fB (d2 dEq (d2 dIxA (dVar 1) (dC (.int 0))) (dC (.str "func"))))
sNever
sNil)
(sSeq (sIf (fB (d2 dEq (d2 dIxA (dVar 1) (dC (.int 0))) (dC (.str "method"))))
(sRet (dAndV (d2 dGt (dCall dLenA (aCons (dVar 1) aNil)) (dC (.int 2))) (dAndV (d2 dIn (d2 dIxA (dVar 1) (dC (.int 1))) (dFld ["Reading"] "fields" (dVar 0))) (dFn 1 f_are_heads_names (aCons (dVar 1) aNil)))))
sNil)
(sRet (d2 dEq (dVar 1) (dLst (aCons (dC (.str "main")) aNil))))))
def f_is_head:List PyData→Option PyData:=runD ["reading","words"] g_is_head
abbrev s_reads_row:Stmt:=top 37
theorem sc_reads_row:FnScope ["reading","line","words"] ["reading","line","words"] (defScope s_reads_row):=⟨rfl,rfl,rfl,by decide +kernel,rfl,by decide +kernel,by decide +kernel⟩
def g_reads_row:Rho→Option Out :=
(sSeq (sIf (fTA (dFld ["Reading"] "over" (dVar 0)))
(sRetI (dC (.bool false)))
sNil)
(sSeq (sIf (fB (d2 dIsNotA (dFld ["Reading"] "body" (dVar 0)) (dC .none)))
(sRetX (hCall [0] 0 3 f_reads_within (aCons (dVar 1) (aCons (dVar 2) aNil))))
sNil)
(sSeq (sIf (fB (d2 dEq (d2 dIxA (dVar 2) (dC (.int 0))) (dC (.str "kind"))))
(sRetX (hCall [0] 0 2 f_reads_kind (aCons (dVar 2) aNil)))
sNil)
(sSeq (sIf (fOr (fNot (fTA (dFn 2 f_is_head (aCons (dVar 0) (aCons (dVar 2) aNil))))) (fB (d2 dIn (dFn 1 f_head_body (aCons (dVar 2) aNil)) (dFld ["Reading"] "heads" (dVar 0)))))
(sRetI (dC (.bool false)))
sNil)
(sSeq (sFldV 0 "Reading" "body" (vFr [0] (dFn 1 f_head_body (aCons (dVar 2) aNil))))
(sSeq (sPut (.fl 0 "Reading" "heads") (vSc (dFld ["Reading"] "body" (dVar 0))) (vFr [0] (dVar 2)))
(sRetI (dC (.bool true)))))))))
def f_reads_row:List PyData→Option (PyData × PyData):=runIO ["reading","line","words"] g_reads_row
abbrev s_is_letters:Stmt:=top 25
theorem sc_is_letters:FnScope ["word","sign"] ["word"] (defScope s_is_letters):=⟨rfl,rfl,rfl,by decide +kernel,rfl,by decide +kernel,by decide +kernel⟩
def g_is_letters_L0:Rho→Option Out :=
(sIf (fNot (fChain dLeA dLeA (dC (.str "a")) (dVar 1) (dC (.str "z"))))
(sRet (dC (.bool false)))
sNil)
def g_is_letters:Rho→Option Out :=
(sSeq (sForO (qFr [] (qSeqA (dVar 0))) (.one 1) g_is_letters_L0)
(sRet (d2 dNe (dVar 0) (dC (.str "")))))
def f_is_letters:List PyData→Option PyData:=runD ["word","sign"] g_is_letters
abbrev s_is_name:Stmt:=top 26
theorem sc_is_name:FnScope ["word"] ["word"] (defScope s_is_name):=⟨rfl,rfl,rfl,by decide +kernel,rfl,by decide +kernel,by decide +kernel⟩
def g_is_name:Rho→Option Out :=
(sRet (dAndV (d2 dLeA (dCall dLenA (aCons (dVar 0) aNil)) (dC (.int 8))) (dFn 1 f_is_letters (aCons (dVar 0) aNil))))
def f_is_name:List PyData→Option PyData:=runD ["word"] g_is_name
abbrev s_read_program:Stmt:=top 36
theorem sc_read_program:FnScope ["text","reading","rows","line","words","row"] ["text"] (defScope s_read_program):=⟨rfl,rfl,rfl,by decide +kernel,rfl,by decide +kernel,by decide +kernel⟩
def g_read_program_T0:Rho→Option Bool:=(fun _=>some true)
def g_read_program_C0:Rho→Option PyData:=(dMt dSplit (dVar 0) (aCons (dC (.str " ")) aNil))
def g_read_program_T1:Rho→Option Bool:=(fun _=>some true)
def g_read_program_C1:Rho→Option PyData:=(dFn 1 f_is_name (aCons (dVar 0) aNil))
def g_read_program_L2:Rho→Option Out :=
(sIfX (hOr (fNot (fTA (dCall dAll (aCons (dComp (qSeq (dVar 4)) [] g_read_program_T1 g_read_program_C1) aNil)))) (hNot (hT (hCall [1] 1 3 f_reads_row (aCons (dVar 3) (aCons (dVar 4) aNil))))))
sNever
sNil)
def g_read_program_L3:Rho→Option Out :=
sNever
def g_read_program:Rho→Option Out :=
(sSeq (sNewF (vFr [1] (dMake "Reading" 1 f_Reading_init aNil)) 1)
(sSeq (sSetV (vFr [1] (dComp (qSeq (dMt dSplit (dVar 0) (aCons (dC (.str "\n")) aNil))) [] g_read_program_T0 g_read_program_C0)) 2)
(sSeq (sForO (qFr [1] (qEnum (dVar 2))) (.many [3,4]) g_read_program_L2)
(sSeq (sIf (fNot (fTA (dFld ["Reading"] "over" (dVar 1))))
sNever
sNil)
(sFrz 1 (sSeq (sForO (qFr [] (qSeqA (dFld ["Reading"] "later" (dVar 1)))) (.many [3,5]) g_read_program_L3)
(sRet (dMake "Program" 2 f_Program_init (aCons (dVar 0) aNil)))))))))
def f_read_program:List PyData→Option PyData:=runD ["text","reading","rows","line","words","row"] g_read_program
abbrev s_elder_and_fields:Stmt:=top 14
theorem sc_elder_and_fields:FnScope ["words"] ["words"] (defScope s_elder_and_fields):=⟨rfl,rfl,rfl,by decide +kernel,rfl,by decide +kernel,by decide +kernel⟩
def g_elder_and_fields:Rho→Option Out :=
(sSeq (sIf (fAnd (fTA (dVar 0)) (fB (d2 dEq (d2 dIxA (dVar 0) (dC (.int 0))) (dC (.str "of")))))
(sRet (dTup (aCons (d2 dIxA (dVar 0) (dC (.int 1))) (aCons (dSlice (dVar 0) (oSome (dC (.int 3))) oNone) aNil))))
sNil)
(sRet (dTup (aCons (dC .none) (aCons (dSlice (dVar 0) (oSome (dC (.int 1))) oNone) aNil)))))
def f_elder_and_fields:List PyData→Option PyData:=runD ["words"] g_elder_and_fields
abbrev s_kind_table:Stmt:=top 13
theorem sc_kind_table:FnScope ["program","table","words"] ["program"] (defScope s_kind_table):=⟨rfl,rfl,rfl,by decide +kernel,rfl,by decide +kernel,by decide +kernel⟩
def g_kind_table_L0:Rho→Option Out :=
(sSeq (sIf (fB (d2 dNe (d2 dIxA (dVar 2) (dC (.int 0))) (dC (.str "kind"))))
(fun ρ=>some (.bk ρ))
sNil)
(sPut (.sl 1) (vFr [1] (d2 dIxA (dVar 2) (dC (.int 1)))) (vFr [1] (dFn 1 f_elder_and_fields (aCons (dSlice (dVar 2) (oSome (dC (.int 2))) oNone) aNil)))))
def g_kind_table:Rho→Option Out :=
(sSeq (sNewF (vFr [1] (dC (.dict []))) 1)
(sSeq (sForO (qFr [1] (qSeqA (dFn 1 f_rows_of_words (aCons (dVar 0) aNil)))) (.one 2) g_kind_table_L0)
(sRet (dVar 1))))
def f_kind_table:List PyData→Option PyData:=runD ["program","table","words"] g_kind_table
abbrev s_kind_names:Stmt:=top 2
theorem sc_kind_names:FnScope ["program"] ["program"] (defScope s_kind_names):=⟨rfl,rfl,rfl,by decide +kernel,rfl,by decide +kernel,by decide +kernel⟩
def g_kind_names:Rho→Option Out :=
(sRet (dCall dListA (aCons (dFn 1 f_kind_table (aCons (dVar 0) aNil)) aNil)))
def f_kind_names:List PyData→Option PyData:=runF ["program"] g_kind_names
abbrev s_law_text:Stmt:=top 50
theorem sc_law_text:FnScope ["_law_kinds_here","_law_turn","_law_lines","_law_name","_law_elder","_law_own","_law_methods","_law_row","_law_heads","_law_head"] ["_law_kinds_here","_law_turn"] (defScope s_law_text):=⟨rfl,rfl,rfl,by decide +kernel,rfl,by decide +kernel,by decide +kernel⟩
def g_law_text_L0:Rho→Option Out :=
(sSeq (sSetV (vFr [2] (dLst (aCons (dC (.str "kind")) (aCons (dVar 3) aNil)))) 7)
(sSeq (sIf (fB (d2 dIsNotA (dVar 4) (dC .none)))
(sSetV (vFr [2] (d2 dAdd (dVar 7) (dLst (aCons (dC (.str "of")) (aCons (dVar 4) aNil))))) 7)
sNil)
(sSeq (sIf (fB (d2 dNe (dVar 5) (dLst aNil)))
(sSetV (vFr [2] (d2 dAdd (d2 dAdd (dVar 7) (dLst (aCons (dC (.str "fields")) aNil))) (dVar 5))) 7)
sNil)
(sAppend (.sl 2) (vFr [2] (dMt dJoin (dC (.str " ")) (aCons (dVar 7) aNil)))))))
def g_law_text_T1:Rho→Option Bool:=(fun _=>some true)
def g_law_text_C1:Rho→Option PyData:=(d2 dAdd (d2 dAdd (d2 dAdd (dC (.str "method ")) (dVar 1)) (dC (.str " "))) (dVar 0))
def g_law_text_L2:Rho→Option Out :=
(sSetV (vFr [2] (d2 dAdd (dVar 8) (dComp (qSeq (dVar 6)) [(3,"_law_name")] g_law_text_T1 g_law_text_C1))) 8)
def g_law_text_L3:Rho→Option Out :=
(sNewF (vFl (d2 dAddL (dVar 2) (dLst (aCons (dVar 9) (aCons (dC (.str "end")) aNil))))) 2)
def g_law_text:Rho→Option Out :=
(sSeq (sNewF (vFr [2] (dLst aNil)) 2)
(sSeq (sForO (qFr [2] (qSeqA (dVar 0))) (.many [3,4,5,6]) g_law_text_L0)
(sSeq (sSetV (vFr [2] (dLst aNil)) 8)
(sSeq (sForO (qFr [2] (qSeqA (dVar 0))) (.many [3,4,5,6]) g_law_text_L2)
(sSeq (sIf (fTA (dVar 1))
(sSetV (vFr [2] (dRev (dVar 8))) 8)
sNil)
(sSeq (sForO (qFr [2] (qSeqA (dVar 8))) (.one 9) g_law_text_L3)
(sRet (dMt dJoin (dC (.str "\n")) (aCons (d2 dAdd (dVar 2) (dLst (aCons (dC (.str "main")) (aCons (dC (.str "end")) aNil)))) aNil)))))))))
def f_law_text:List PyData→Option PyData:=runD ["_law_kinds_here","_law_turn","_law_lines","_law_name","_law_elder","_law_own","_law_methods","_law_row","_law_heads","_law_head"] g_law_text
abbrev s_kind_and_elders:Stmt:=top 15
theorem sc_kind_and_elders:FnScope ["table","kind","line","one"] ["table","kind"] (defScope s_kind_and_elders):=⟨rfl,rfl,rfl,by decide +kernel,rfl,by decide +kernel,by decide +kernel⟩
def g_kind_and_elders_L0:Rho→Option Out :=
(sSeq (sAppend (.sl 2) (vFr [2] (dVar 3)))
(sSetV (vFr [2] (d2 dIxA (d2 dIxA (dVar 0) (dVar 3)) (dC (.int 0)))) 3))
def g_kind_and_elders:Rho→Option Out :=
(sSeq (sNewF (vFr [2] (dLst aNil)) 2)
(sSeq (sSetV (vFr [2] (dVar 1)) 3)
(sSeq (sWhile (fB (d2 dIsNotA (dVar 3) (dC .none))) g_kind_and_elders_L0)
(sRet (dVar 2)))))
def f_kind_and_elders:List PyData→Option PyData:=runD ["table","kind","line","one"] g_kind_and_elders
abbrev s_fields_by:Stmt:=top 6
theorem sc_fields_by:FnScope ["table","kind","fields","one"] ["table","kind"] (defScope s_fields_by):=⟨rfl,rfl,rfl,by decide +kernel,rfl,by decide +kernel,by decide +kernel⟩
def g_fields_by_L0:Rho→Option Out :=
(sExtend (.sl 2) (vFr [2] (d2 dIxA (d2 dIxA (dVar 0) (dVar 3)) (dC (.int 1)))))
def g_fields_by:Rho→Option Out :=
(sSeq (sNewF (vFr [2] (dLst aNil)) 2)
(sSeq (sForO (qFr [2] (qRev (dFn 2 f_kind_and_elders (aCons (dVar 0) (aCons (dVar 1) aNil))))) (.one 3) g_fields_by_L0)
(sRet (dVar 2))))
def f_fields_by:List PyData→Option PyData:=runF ["table","kind","fields","one"] g_fields_by
abbrev s_fields_of:Stmt:=top 4
theorem sc_fields_of:FnScope ["program","kind"] ["program","kind"] (defScope s_fields_of):=⟨rfl,rfl,rfl,by decide +kernel,rfl,by decide +kernel,by decide +kernel⟩
def g_fields_of:Rho→Option Out :=
(sRet (dFn 2 f_fields_by (aCons (dFn 1 f_kind_table (aCons (dVar 0) aNil)) (aCons (dVar 1) aNil))))
def f_fields_of:List PyData→Option PyData:=runF ["program","kind"] g_fields_of
abbrev s_elder_of:Stmt:=top 3
theorem sc_elder_of:FnScope ["program","kind"] ["program","kind"] (defScope s_elder_of):=⟨rfl,rfl,rfl,by decide +kernel,rfl,by decide +kernel,by decide +kernel⟩
def g_elder_of:Rho→Option Out :=
(sRet (d2 dIxA (d2 dIxA (dFn 1 f_kind_table (aCons (dVar 0) aNil)) (dVar 1)) (dC (.int 0))))
def f_elder_of:List PyData→Option PyData:=runD ["program","kind"] g_elder_of
abbrev s_found_by:Stmt:=top 7
theorem sc_found_by:FnScope ["table","heads","kind","method","one","body"] ["table","heads","kind","method"] (defScope s_found_by):=⟨rfl,rfl,rfl,by decide +kernel,rfl,by decide +kernel,by decide +kernel⟩
def g_found_by_L0:Rho→Option Out :=
(sSeq (sSetV (vFr [] (dFn 2 f_method_body (aCons (dVar 4) (aCons (dVar 3) aNil)))) 5)
(sIf (fB (d2 dIn (dVar 5) (dVar 1)))
(sRet (dVar 5))
sNil))
def g_found_by:Rho→Option Out :=
(sSeq (sForO (qFr [] (qSeqA (dFn 2 f_kind_and_elders (aCons (dVar 0) (aCons (dVar 2) aNil))))) (.one 4) g_found_by_L0)
(sRet (dC .none)))
def f_found_by:List PyData→Option PyData:=runD ["table","heads","kind","method","one","body"] g_found_by
abbrev s_finds:Stmt:=top 5
theorem sc_finds:FnScope ["program","kind","method"] ["program","kind","method"] (defScope s_finds):=⟨rfl,rfl,rfl,by decide +kernel,rfl,by decide +kernel,by decide +kernel⟩
def g_finds:Rho→Option Out :=
(sRet (dFn 4 f_found_by (aCons (dFn 1 f_kind_table (aCons (dVar 0) aNil)) (aCons (dFn 1 f_body_heads (aCons (dVar 0) aNil)) (aCons (dVar 1) (aCons (dVar 2) aNil))))))
def f_finds:List PyData→Option PyData:=runD ["program","kind","method"] g_finds
abbrev s_law_finds:Stmt:=top 53
theorem sc_law_finds:FnScope ["_law_kinds_here","_law_k","_law_method","_law_at"] ["_law_kinds_here","_law_k","_law_method"] (defScope s_law_finds):=⟨rfl,rfl,rfl,by decide +kernel,rfl,by decide +kernel,by decide +kernel⟩
def g_law_finds_L0:Rho→Option Out :=
(sIf (fB (d2 dIn (dVar 2) (d2 dIxA (d2 dIxA (dVar 0) (dVar 3)) (dC (.int 3)))))
(sRet (d2 dAdd (d2 dAdd (d2 dIxA (d2 dIxA (dVar 0) (dVar 3)) (dC (.int 0))) (dC (.str "."))) (dVar 2)))
sNil)
def g_law_finds:Rho→Option Out :=
(sSeq (sForO (qFr [] (qSeqA (dFn 2 f_law_elders (aCons (dVar 0) (aCons (dVar 1) aNil))))) (.one 3) g_law_finds_L0)
(sRet (dC .none)))
def f_law_finds:List PyData→Option PyData:=runD ["_law_kinds_here","_law_k","_law_method","_law_at"] g_law_finds
abbrev s_law_right:Stmt:=top 54
theorem sc_law_right:FnScope ["_law_program","_law_kinds_here","_law_k","_law_name","_law_told"] ["_law_program","_law_kinds_here","_law_k"] (defScope s_law_right):=⟨rfl,rfl,rfl,by decide +kernel,rfl,by decide +kernel,by decide +kernel⟩
def g_law_right_T0:Rho→Option Bool:=(fun _=>some true)
def g_law_right_C0:Rho→Option PyData:=(d2 dEq (dFn 3 f_finds (aCons (dVar 1) (aCons (dVar 2) (aCons (dVar 0) aNil)))) (dFn 3 f_law_finds (aCons (dVar 3) (aCons (dVar 4) (aCons (dVar 0) aNil)))))
def g_law_right:Rho→Option Out :=
(sSeq (sSetV (vFr [4] (d2 dIxA (d2 dIxA (dVar 1) (dVar 2)) (dC (.int 0)))) 3)
(sSeq (sNewF (vFr [4] (dFn 2 f_fields_of (aCons (dVar 0) (aCons (dVar 3) aNil)))) 4)
(sSeq (sIf (fOr (fB (d2 dNe (dFn 2 f_elder_of (aCons (dVar 0) (aCons (dVar 3) aNil))) (d2 dIxA (d2 dIxA (dVar 1) (dVar 2)) (dC (.int 1))))) (fOr (fNot (fTA (dIsT "list" (dVar 4)))) (fB (d2 dNe (dVar 4) (dFn 2 f_law_fields (aCons (dVar 1) (aCons (dVar 2) aNil)))))))
(sRet (dC (.bool false)))
sNil)
(sSeq (sAppend (.sl 4) (vFr [4] (dC (.str "more"))))
(sSeq (sIf (fB (d2 dNe (dFn 2 f_fields_of (aCons (dVar 0) (aCons (dVar 3) aNil))) (dFn 2 f_law_fields (aCons (dVar 1) (aCons (dVar 2) aNil)))))
(sRet (dC (.bool false)))
sNil)
(sRet (dCall dAll (aCons (dComp (qSeq (dLst (aCons (dC (.str "m")) (aCons (dC (.str "n")) (aCons (dC (.str "mm")) (aCons (dC (.str "o")) aNil)))))) [(0,"_law_program"),(3,"_law_name"),(1,"_law_kinds_here"),(2,"_law_k")] g_law_right_T0 g_law_right_C0) aNil))))))))
def f_law_right:List PyData→Option PyData:=runD ["_law_program","_law_kinds_here","_law_k","_law_name","_law_told"] g_law_right
abbrev s_law:Stmt:=top 55
theorem sc_law:FnScope ["_law_script","_law_first","_law_kinds_here","_law_program","_law_names"] ["_law_script"] (defScope s_law):=⟨rfl,rfl,rfl,by decide +kernel,rfl,by decide +kernel,by decide +kernel⟩
def g_law_T0:Rho→Option Bool:=(fun _=>some true)
def g_law_C0:Rho→Option PyData:=(d2 dIxA (dVar 0) (dC (.int 0)))
def g_law_T1:Rho→Option Bool:=(fun _=>some true)
def g_law_C1:Rho→Option PyData:=(d2 dIxA (dVar 0) (dC (.int 0)))
def g_law_T2:Rho→Option Bool:=(fun _=>some true)
def g_law_C2:Rho→Option PyData:=(dFn 3 f_law_right (aCons (dVar 1) (aCons (dVar 2) (aCons (dVar 0) aNil))))
def g_law:Rho→Option Out :=
(sSeq (sSetV (vFr [4] (dFn 2 f_law_cell_at (aCons (dVar 0) (aCons (dC (.int 0)) aNil)))) 1)
(sSeq (sSetV (vFr [4] (dFn 2 f_law_kinds (aCons (dVar 0) (aCons (d2 dEq (d2 dMod (dVar 1) (dC (.int 2))) (dC (.int 0))) aNil)))) 2)
(sSeq (sSetV (vFr [4] (dFn 1 f_read_program (aCons (dFn 2 f_law_text (aCons (dVar 2) (aCons (d2 dEq (d2 dMod (d2 dDiv (dVar 1) (dC (.int 2))) (dC (.int 2))) (dC (.int 0))) aNil))) aNil))) 3)
(sSeq (sNewF (vFr [4] (dFn 1 f_kind_names (aCons (dVar 3) aNil))) 4)
(sSeq (sIf (fB (d2 dNe (dVar 4) (dComp (qSeq (dVar 2)) [] g_law_T0 g_law_C0)))
(sRet (dC (.bool false)))
sNil)
(sSeq (sClear (.sl 4))
(sSeq (sIf (fB (d2 dNe (dFn 1 f_kind_names (aCons (dVar 3) aNil)) (dComp (qSeq (dVar 2)) [] g_law_T1 g_law_C1)))
(sRet (dC (.bool false)))
sNil)
(sRet (dCall dAll (aCons (dComp (qRange1 (dCall dLenA (aCons (dVar 2) aNil))) [(3,"_law_program"),(2,"_law_kinds_here")] g_law_T2 g_law_C2) aNil))))))))))
def f_law:List PyData→Option PyData:=runD ["_law_script","_law_first","_law_kinds_here","_law_program","_law_names"] g_law
structure Blt (mg:Str→Option Value):Prop where
  all:mg "all"=none
  enumerate:mg "enumerate"=none
  int:mg "int"=none
  isinstance:mg "isinstance"=none
  len:mg "len"=none
  list:mg "list"=none
  max:mg "max"=none
  min:mg "min"=none
  range:mg "range"=none
  reversed:mg "reversed"=none
  set:mg "set"=none
structure Tf (P:Program) (w:World) (K:W.Frag) (mg:Str→Option Value):Prop where
  f_Program_body_texts:FldOk K "Program" "body_texts"
  f_Program_numbered:FldOk K "Program" "numbered"
  f_Program_text:FldOk K "Program" "text"
  f_Reading_blocks:FldOk K "Reading" "blocks"
  f_Reading_body:FldOk K "Reading" "body"
  f_Reading_fields:FldOk K "Reading" "fields"
  f_Reading_heads:FldOk K "Reading" "heads"
  f_Reading_later:FldOk K "Reading" "later"
  f_Reading_over:FldOk K "Reading" "over"
section
variable {P:Program}{w:World}{K:W.Frag}{mg:Str→Option Value}{base:Heap}
theorem fn_law_cell_at {a:Addr}{fd:FuncData} (F:Fun K "_law_cell_at" "_law_cell_at" s_law_cell_at a fd) (B:Blt mg) (T:Tf P w K mg) :FnOk P w K mg base CX0 1 a fd ["_law_script","_law_k"] (spD K 2 f_law_cell_at):=by
  refine fn_own (k:=0) (O:=[]) F sc_law_cell_at rfl (by decide) (fun cdv A outer s H E hr=>?_)
  have hu:=hr.units
  have nd:=sc_law_cell_at.nd
  have ndO:([]:List Nat).Nodup:=by decide
  exact (poss_cons (pos_if (pdt_cmp od_lt (pd_var 1) (pd_callB cd_lenA rfl B.len (by rfl) (pda_cons (pd_var 0) pda_nil)) (nomark _))
    (poss_one (pos_ret (pd_ixA hu (pd_var 0) (pd_var 1) (fun _ _=>rfl) (fun _ _=>rfl))))
    poss_nil)
    (poss_one (pos_ret pd_int)))
theorem fn_law_draw {a:Addr}{fd:FuncData} (F:Fun K "_law_draw" "_law_draw" s_law_draw a fd) (B:Blt mg) (T:Tf P w K mg) :FnOk P w K mg base CX0 1 a fd ["_law_cell","_law_digits"] (spD K 2 f_law_draw):=by
  refine fn_own (k:=0) (O:=[2]) F sc_law_draw rfl (by decide) (fun cdv A outer s H E hr=>?_)
  have hu:=hr.units
  have nd:=sc_law_draw.nd
  have ndO:([2]:List Nat).Nodup:=by decide
  exact (poss_cons (pos_new 2 nd ndO (pfo_fr (pf_lst pda_nil)))
    (poss_cons (pos_set 3 nd (pv_fr (pd_op od_add (pd_op od_mod (pd_var 0) pd_int) pd_int)))
    (poss_cons (pos_for PassesOwn.never rfl (poj_fr (poi_range1 rfl B.range pd_int)) (pgT_one 4 nd) (by decide)
    (poss_cons (pos_set 3 nd (pv_fr (pd_op od_mod (pd_op od_add (pd_op od_mulA (pd_var 3) pd_int) (pd_var 4)) pd_int)))
    (poss_one (pos_if (pdt_w (pdw_and (pdt_valA (pd_var 1)) (pdw_and1 (pdt_cmp (od_notin hu) (pd_var 0) (pd_tup (pda_cons pd_int (pda_cons pd_neg1 pda_nil))) (by with_unfolding_all rfl)))))
    (poss_cons (pos_append ndO (pp_sl 2) (pv_fr (pd_op od_mod (pd_var 0) pd_int)))
    (poss_one (pos_set 0 nd (pv_fr (pd_op od_div (pd_var 0) pd_int)))))
    (poss_one (pos_append ndO (pp_sl 2) (pv_fr (pd_op od_mod (pd_op od_mulA (pd_op od_mod (pd_op od_mulA (pd_var 3) pd_int) pd_int) pd_int) pd_int))))))))
    (poss_one (pos_ret (pd_var 2))))))
theorem fn_law_elders {a:Addr}{fd:FuncData} (F:Fun K "_law_elders" "_law_elders" s_law_elders a fd) (B:Blt mg) (T:Tf P w K mg) :FnOk P w K mg base CX0 1 a fd ["_law_kinds_here","_law_k"] (spD K 2 f_law_elders):=by
  refine fn_own (k:=0) (O:=[3]) F sc_law_elders rfl (by decide) (fun cdv A outer s H E hr=>?_)
  have hu:=hr.units
  have nd:=sc_law_elders.nd
  have ndO:([3]:List Nat).Nodup:=by decide
  exact (poss_cons (pos_comp 2 [] nd (pdi_seq (pd_var 0)) (fun _ _ _ _=>pdts_nil) (fun _ _ _ _=>(pd_ixA hu (pd_var 0) pd_int (fun _ _=>rfl) (fun _ _=>rfl))))
    (poss_cons (pos_new 3 nd ndO (pfo_fr (pf_lst (pda_cons (pd_var 1) pda_nil))))
    (poss_cons (pos_while PassesOwn.never (pdt_cmp od_isnotA (pd_ixA hu (pd_ixA hu (pd_var 0) (pd_ixA hu (pd_var 3) pd_neg1 (fun _ _=>rfl) (fun _ _=>rfl)) (fun _ _=>rfl) (fun _ _=>rfl)) pd_int (fun _ _=>rfl) (fun _ _=>rfl)) pd_non (nomark _))
    (poss_one (pos_append ndO (pp_sl 3) (pv_sc (pd_bmL PySem.F.slot_list_index PySem.F.type_list_index (mt_index hu) (pd_var 2) (pda_cons (pd_ixA hu (pd_ixA hu (pd_var 0) (pd_ixA hu (pd_var 3) pd_neg1 (fun _ _=>rfl) (fun _ _=>rfl)) (fun _ _=>rfl) (fun _ _=>rfl)) pd_int (fun _ _=>rfl) (fun _ _=>rfl)) pda_nil))))))
    (poss_one (pos_ret (pd_var 3))))))
theorem fn_law_fields {a:Addr}{fd:FuncData} (F:Fun K "_law_fields" "_law_fields" s_law_fields a fd) (B:Blt mg) (T:Tf P w K mg) (O_law_elders:Own P w K mg base "_law_elders" 1 2 f_law_elders):FnOk P w K mg base CX0 2 a fd ["_law_kinds_here","_law_k"] (spF K 2 f_law_fields):=by
  refine fn_new (k:=1) (O:=[2]) F sc_law_fields rfl (by decide) (fun cdv A outer s H E hr=>?_)
  have hu:=hr.units
  have nd:=sc_law_fields.nd
  have ndO:([2]:List Nat).Nodup:=by decide
  exact (poss_cons (pos_new 2 nd ndO (pfo_fr (pf_lst pda_nil)))
    (poss_cons (pos_for PassesOwn.never rfl (poj_fr (poi_seqA (pd_own O_law_elders hr rfl (pda_cons (pd_var 0) (pda_cons (pd_var 1) pda_nil))))) (pgT_one 3 nd) (by decide)
    (poss_one (pos_new 2 nd ndO (pfo_fl (pf_add (pd_ixA hu (pd_ixA hu (pd_var 0) (pd_var 3) (fun _ _=>rfl) (fun _ _=>rfl)) pd_int (fun _ _=>rfl) (fun _ _=>rfl)) (pd_var 2))))))
    (poss_one (pos_retO 2 ndO))))
theorem fn_law_kinds {a:Addr}{fd:FuncData} (F:Fun K "_law_kinds" "_law_kinds" s_law_kinds a fd) (B:Blt mg) (T:Tf P w K mg) (O_law_cell_at:Own P w K mg base "_law_cell_at" 1 2 f_law_cell_at) (O_law_draw:Own P w K mg base "_law_draw" 1 2 f_law_draw) (O_law_fields:OwnNew P w K mg base "_law_fields" 2 2 f_law_fields):FnOk P w K mg base CX0 3 a fd ["_law_script","_law_digits"] (spD K 2 f_law_kinds):=by
  refine fn_own (k:=2) (O:=[3]) F sc_law_kinds rfl (by decide) (fun cdv A outer s H E hr=>?_)
  have hu:=hr.units
  have nd:=sc_law_kinds.nd
  have ndO:([3]:List Nat).Nodup:=by decide
  exact (poss_cons (pos_set 2 nd (pv_fr pd_str))
    (poss_cons (pos_new 3 nd ndO (pfo_fr (pf_lst pda_nil)))
    (poss_cons (pos_for PassesOwn.never rfl (poj_fr (poi_range1 rfl B.range (pd_callB (cd_max rfl) rfl B.max (by rfl) (pda_cons pd_int (pda_cons (pd_callB (cd_min rfl) rfl B.min (by rfl) (pda_cons pd_int (pda_cons (pd_op od_sub (pd_callB cd_lenA rfl B.len (by rfl) (pda_cons (pd_var 0) pda_nil)) pd_int) pda_nil))) pda_nil))))) (pgT_one 4 nd) (by decide)
    (poss_cons (pos_set 5 nd (pv_fr (pd_own O_law_draw hr rfl (pda_cons (pd_own O_law_cell_at hr rfl (pda_cons (pd_var 0) (pda_cons (pd_op od_add pd_int (pd_var 4)) pda_nil))) (pda_cons (pd_var 1) pda_nil)))))
    (poss_cons (pos_set 6 nd (pv_fr pd_non))
    (poss_cons (pos_if (pdt_w (pdw_and (pdt_cmp od_gt (pd_var 4) pd_int (nomark _)) (pdw_and1 (pdt_cmp od_gt (pd_op od_mod (pd_ixA hu (pd_var 5) pd_int (fun _ _=>rfl) (fun _ _=>rfl)) pd_int) pd_int (nomark _)))))
    (poss_one (pos_set 6 nd (pv_fr (pd_op od_add pd_str (pd_ixA hu (pd_var 2) (pd_ixA hu (pd_lst (pda_cons (pd_op od_sub (pd_var 4) pd_int) (pda_cons (pd_op od_mod (pd_ixA hu (pd_var 5) pd_int (fun _ _=>rfl) (fun _ _=>rfl)) (pd_var 4)) pda_nil))) (pd_op od_mod (pd_ixA hu (pd_var 5) pd_int (fun _ _=>rfl) (fun _ _=>rfl)) pd_int) (fun _ _=>rfl) (fun _ _=>rfl)) (fun _ _=>rfl) (fun _ _=>rfl))))))
    poss_nil)
    (poss_cons (pos_set 7 nd (pv_fr (pd_lst pda_nil)))
    (poss_cons (pos_if (pdt_cmp od_isnotA (pd_var 6) pd_non (nomark _))
    (poss_one (pos_set 7 nd (pv_fl (pf_own O_law_fields hr rfl (pda_cons (pd_var 3) (pda_cons (pd_bmS PySem.F.slot_str_index PySem.F.type_str_index mt_sindex (pd_var 2) (pda_cons (pd_ixA hu (pd_var 6) pd_int (fun _ _=>rfl) (fun _ _=>rfl)) pda_nil)) pda_nil))))))
    poss_nil)
    (poss_cons (pos_comp 8 [(5,"_law_draw_here")] nd (pdi_seq (pd_slice (pd_lst (pda_cons pd_str (pda_cons pd_str (pda_cons pd_str pda_nil)))) pdo_none (pdo_some (pd_op od_mod (pd_ixA hu (pd_var 5) pd_int (fun _ _=>rfl) (fun _ _=>rfl)) pd_int)))) (fun _ _ _ _=>pdts_nil) (fun _ _ _ _=>(pd_op od_add (pd_op od_mulA pd_str (pd_op od_mod (pd_ixA hu (pd_var 1) pd_int (fun _ _=>rfl) (fun _ _=>rfl)) pd_int)) (pd_var 0))))
    (poss_cons (pos_comp 8 [(4,"_law_k"),(7,"_law_ahead")] nd (pdi_seq (pd_var 8)) (fun _ _ _ _=>pdts_nil) (fun _ _ _ _=>(pd_op od_add (pd_op od_add (pd_slice (pd_var 0) pdo_none (pdo_some pd_neg1)) (pd_ixA hu (pd_lst (pda_cons pd_str (pda_cons (pd_ixA hu pd_str (pd_var 1) (fun _ _=>rfl) (fun _ _=>rfl)) pda_nil))) (pd_callTy cd_int rfl B.int (by rfl) (pda_cons (pd_cmp (od_in hu) (pd_var 0) (pd_var 2) (by with_unfolding_all rfl)) pda_nil)) (fun _ _=>rfl) (fun _ _=>rfl))) (pd_ixA hu (pd_var 0) pd_neg1 (fun _ _=>rfl) (fun _ _=>rfl)))))
    (poss_one (pos_append ndO (pp_sl 3) (pv_fr (pd_tup (pda_cons (pd_op od_add pd_str (pd_ixA hu (pd_var 2) (pd_var 4) (fun _ _=>rfl) (fun _ _=>rfl))) (pda_cons (pd_var 6) (pda_cons (pd_var 8) (pda_cons (pd_slice (pd_lst (pda_cons pd_str (pda_cons pd_str (pda_cons pd_str pda_nil)))) (pdo_some (pd_op od_mod (pd_ixA hu (pd_var 5) pd_int (fun _ _=>rfl) (fun _ _=>rfl)) pd_int)) (pdo_some (pd_op od_add (pd_op od_mod (pd_ixA hu (pd_var 5) pd_int (fun _ _=>rfl) (fun _ _=>rfl)) pd_int) (pd_op od_mod (pd_ixA hu (pd_var 5) pd_int (fun _ _=>rfl) (fun _ _=>rfl)) pd_int)))) pda_nil))))))))))))))))
    (poss_one (pos_ret (pd_var 3))))))
theorem fn_Reading_init {a:Addr}{fd:FuncData} (F:Fun K "__init__" "Reading.__init__" s_Reading_init a fd) (B:Blt mg) (T:Tf P w K mg) :FnOk P w K mg base CX0 1 a fd ["self"] (spIO K 1 f_Reading_init):=by
  refine fn_io (k:=0) (O:=[]) F sc_Reading_init rfl (by decide) (by decide) (by decide) (fun v0 cdv A outer s H E hr=>?_)
  have hu:=hr.units
  have nd:=sc_Reading_init.nd
  have ndO:([0]:List Nat).Nodup:=by decide
  exact (poss_cons (pos_fldN 0 (c:="Reading") ndO T.f_Reading_fields (pfo_fr pf_dct))
    (poss_cons (pos_fldN 0 (c:="Reading") ndO T.f_Reading_heads (pfo_fr pf_dct))
    (poss_cons (pos_fld 0 (c:="Reading") ndO T.f_Reading_body (pv_fr pd_non))
    (poss_cons (pos_fldN 0 (c:="Reading") ndO T.f_Reading_blocks (pfo_fr (pf_lst pda_nil)))
    (poss_cons (pos_fld 0 (c:="Reading") ndO T.f_Reading_over (pv_fr pd_bl))
    (poss_one (pos_fldN 0 (c:="Reading") ndO T.f_Reading_later (pfo_fr (pf_lst pda_nil)))))))))
theorem fn_method_body {a:Addr}{fd:FuncData} (F:Fun K "method_body" "method_body" s_method_body a fd) (B:Blt mg) (T:Tf P w K mg) :FnOk P w K mg base CX0 1 a fd ["kind","method"] (spD K 2 f_method_body):=by
  refine fn_own (k:=0) (O:=[]) F sc_method_body rfl (by decide) (fun cdv A outer s H E hr=>?_)
  have hu:=hr.units
  have nd:=sc_method_body.nd
  have ndO:([]:List Nat).Nodup:=by decide
  exact (poss_one (pos_ret (pd_fstr (pj_cons (pd_fv (pd_var 0)) (pj_cons pd_str (pj_cons (pd_fv (pd_var 1)) pj_nil))))))
theorem fn_head_body {a:Addr}{fd:FuncData} (F:Fun K "head_body" "head_body" s_head_body a fd) (B:Blt mg) (T:Tf P w K mg) (O_method_body:Own P w K mg base "method_body" 1 2 f_method_body):FnOk P w K mg base CX0 2 a fd ["head"] (spD K 1 f_head_body):=by
  refine fn_own (k:=1) (O:=[]) F sc_head_body rfl (by decide) (fun cdv A outer s H E hr=>?_)
  have hu:=hr.units
  have nd:=sc_head_body.nd
  have ndO:([]:List Nat).Nodup:=by decide
  exact (poss_cons (pos_if (pdt_cmp (od_eq hu) (pd_ixA hu (pd_var 0) pd_int (fun _ _=>rfl) (fun _ _=>rfl)) pd_str (nomark _))
    (poss_one (pos_ret (pd_own O_method_body hr rfl (pda_cons (pd_ixA hu (pd_var 0) pd_int (fun _ _=>rfl) (fun _ _=>rfl)) (pda_cons (pd_ixA hu (pd_var 0) pd_int (fun _ _=>rfl) (fun _ _=>rfl)) pda_nil)))))
    poss_nil)
    (poss_cons (pos_if (pdt_cmp (od_eq hu) (pd_ixA hu (pd_var 0) pd_int (fun _ _=>rfl) (fun _ _=>rfl)) pd_str (nomark _))
    (poss_one pos_never)
    poss_nil)
    (poss_one (pos_ret pd_str))))
theorem fn_numbered_rows {a:Addr}{fd:FuncData} (F:Fun K "numbered_rows" "numbered_rows" s_numbered_rows a fd) (B:Blt mg) (T:Tf P w K mg) (O_head_body:Own P w K mg base "head_body" 2 1 f_head_body):FnOk P w K mg base CX0 3 a fd ["text"] (spD K 1 f_numbered_rows):=by
  refine fn_own (k:=2) (O:=[1]) F sc_numbered_rows rfl (by decide) (fun cdv A outer s H E hr=>?_)
  have hu:=hr.units
  have nd:=sc_numbered_rows.nd
  have ndO:([1]:List Nat).Nodup:=by decide
  exact (poss_cons (pos_new 1 nd ndO (pfo_fr pf_dct))
    (poss_cons (pos_set 2 nd (pv_fr pd_non))
    (poss_cons (pos_set 3 nd (pv_fr pd_int))
    (poss_cons (pos_for PassesOwn.never rfl (poj_fr (poi_enum rfl B.enumerate (pd_bmS PySem.F.slot_str_split PySem.F.type_str_split mt_split (pd_var 0) (pda_cons pd_str pda_nil)))) (pgT_two 4 5 rfl nd) (by decide)
    (poss_cons (pos_set 6 nd (pv_fr (pd_bmS PySem.F.slot_str_split PySem.F.type_str_split mt_split (pd_var 5) (pda_cons pd_str pda_nil))))
    (poss_one (pos_if (pdt_cmp (od_eq hu) (pd_ixA hu (pd_var 6) pd_int (fun _ _=>rfl) (fun _ _=>rfl)) pd_str (nomark _))
    (poss_one (pos_aug 3 nd ip_sub (pv_fr pd_int)))
    (poss_one (pos_if (pdt_cmp od_gt (pd_var 3) pd_int (nomark _))
    poss_never
    (poss_one (pos_if (pdt_cmp (od_ne hu) (pd_ixA hu (pd_var 6) pd_int (fun _ _=>rfl) (fun _ _=>rfl)) pd_str (nomark _))
    (poss_cons (pos_set 2 nd (pv_fr (pd_own O_head_body hr rfl (pda_cons (pd_var 6) pda_nil))))
    (poss_one (pos_set 3 nd (pv_fr pd_int))))
    poss_nil))))))))
    (poss_one (pos_ret (pd_var 1)))))))
theorem fn_Program_shown {a:Addr}{fd:FuncData} (F:Fun K "shown" "Program.shown" s_Program_shown a fd) (B:Blt mg) (T:Tf P w K mg) :FnOk P w K mg base CX0 1 a fd ["self"] (spD K 1 f_Program_shown):=by
  refine fn_own (k:=0) (O:=[]) F sc_Program_shown rfl (by decide) (fun cdv A outer s H E hr=>?_)
  have hu:=hr.units
  have nd:=sc_Program_shown.nd
  have ndO:([]:List Nat).Nodup:=by decide
  exact (poss_one (pos_ret (pd_fld (cs:=["Program"]) (fun c hc=>(List.mem_singleton.mp hc) ▸ T.f_Program_text) (pd_var 0))))
theorem fn_rows_of_words {a:Addr}{fd:FuncData} (F:Fun K "rows_of_words" "rows_of_words" s_rows_of_words a fd) (B:Blt mg) (T:Tf P w K mg) (O_Program_shown:OwnMeth P w K mg base "Program" "shown" 1 1 f_Program_shown):FnOk P w K mg base CX0 2 a fd ["program"] (spD K 1 f_rows_of_words):=by
  refine fn_own (k:=1) (O:=[]) F sc_rows_of_words rfl (by decide) (fun cdv A outer s H E hr=>?_)
  have hu:=hr.units
  have nd:=sc_rows_of_words.nd
  have ndO:([]:List Nat).Nodup:=by decide
  exact (poss_one (pos_ret (pd_compI [] (pdi_seq (pd_bmS PySem.F.slot_str_split PySem.F.type_str_split mt_split (pd_meth0 O_Program_shown (pd_var 0) hr) (pda_cons pd_str pda_nil))) (fun _ _ _ _=>pdts_nil) (fun _ _ _ _=>(pd_bmS PySem.F.slot_str_split PySem.F.type_str_split mt_split (pd_var 0) (pda_cons pd_str pda_nil))))))
theorem fn_body_heads {a:Addr}{fd:FuncData} (F:Fun K "body_heads" "body_heads" s_body_heads a fd) (B:Blt mg) (T:Tf P w K mg) (O_head_body:Own P w K mg base "head_body" 2 1 f_head_body) (O_rows_of_words:Own P w K mg base "rows_of_words" 2 1 f_rows_of_words):FnOk P w K mg base CX0 3 a fd ["program"] (spD K 1 f_body_heads):=by
  refine fn_own (k:=2) (O:=[1]) F sc_body_heads rfl (by decide) (fun cdv A outer s H E hr=>?_)
  have hu:=hr.units
  have nd:=sc_body_heads.nd
  have ndO:([1]:List Nat).Nodup:=by decide
  exact (poss_cons (pos_new 1 nd ndO (pfo_fr pf_dct))
    (poss_cons (pos_set 2 nd (pv_fr pd_int))
    (poss_cons (pos_for PassesOwn.never rfl (poj_fr (poi_seqA (pd_own O_rows_of_words hr rfl (pda_cons (pd_var 0) pda_nil)))) (pgT_one 3 nd) (by decide)
    (poss_one (pos_if (pdt_cmp (od_eq hu) (pd_ixA hu (pd_var 3) pd_int (fun _ _=>rfl) (fun _ _=>rfl)) pd_str (nomark _))
    (poss_one (pos_aug 2 nd ip_sub (pv_fr pd_int)))
    (poss_one (pos_if (pdt_w (pdw_and (pdt_cmp (od_eq hu) (pd_var 2) pd_int (nomark _)) (pdw_and1 (pdt_cmp (od_ne hu) (pd_ixA hu (pd_var 3) pd_int (fun _ _=>rfl) (fun _ _=>rfl)) pd_str (nomark _)))))
    (poss_cons (pos_put hu ndO (pp_sl 1) (pv_fr (pd_own O_head_body hr rfl (pda_cons (pd_var 3) pda_nil))) (pv_fr (pd_var 3)))
    (poss_one (pos_set 2 nd (pv_fr pd_int))))
    (poss_one (pos_if (pdt_cmp (od_in hu) (pd_ixA hu (pd_var 3) pd_int (fun _ _=>rfl) (fun _ _=>rfl)) (pd_tup (pda_cons pd_str (pda_cons pd_str pda_nil))) (by with_unfolding_all rfl))
    (poss_one (pos_aug 2 nd ip_add (pv_fr pd_int)))
    poss_nil)))))))
    (poss_one (pos_ret (pd_var 1))))))
theorem fn_Program_init {a:Addr}{fd:FuncData} (F:Fun K "__init__" "Program.__init__" s_Program_init a fd) (B:Blt mg) (T:Tf P w K mg) (O_body_heads:Own P w K mg base "body_heads" 3 1 f_body_heads) (O_numbered_rows:Own P w K mg base "numbered_rows" 3 1 f_numbered_rows):FnOk P w K mg base CX0 4 a fd ["self","text"] (spIO K 2 f_Program_init):=by
  refine fn_io (k:=3) (O:=[]) F sc_Program_init rfl (by decide) (by decide) (by decide) (fun v0 cdv A outer s H E hr=>?_)
  have hu:=hr.units
  have nd:=sc_Program_init.nd
  have ndO:([0]:List Nat).Nodup:=by decide
  exact (poss_cons (pos_fld 0 (c:="Program") ndO T.f_Program_text (pv_fr (pd_var 1)))
    (poss_cons (pos_fld 0 (c:="Program") ndO T.f_Program_numbered (pv_fr (pd_own O_numbered_rows hr rfl (pda_cons (pd_var 1) pda_nil))))
    (poss_one (pos_fld 0 (c:="Program") ndO T.f_Program_body_texts (pv_fl (pf_list rfl rfl B.list (pda_cons (pd_own O_body_heads hr rfl (pda_cons (pd_var 0) pda_nil)) pda_nil)))))))
theorem fn_close_block {a:Addr}{fd:FuncData} (F:Fun K "close_block" "close_block" s_close_block a fd) (B:Blt mg) (T:Tf P w K mg) :FnOk P w K mg base CX0 1 a fd ["reading"] (spIO K 1 f_close_block):=by
  refine fn_io (k:=0) (O:=[]) F sc_close_block rfl (by decide) (by decide) (by decide) (fun v0 cdv A outer s H E hr=>?_)
  have hu:=hr.units
  have nd:=sc_close_block.nd
  have ndO:([0]:List Nat).Nodup:=by decide
  exact (poss_cons (pos_if (pdt_valA (pd_fld (cs:=["Reading"]) (fun c hc=>(List.mem_singleton.mp hc) ▸ T.f_Reading_blocks) (pd_var 0)))
    poss_never
    poss_nil)
    (poss_cons (pos_fld 0 (c:="Reading") ndO T.f_Reading_over (pv_sc (pd_cmp (od_eq hu) (pd_fld (cs:=["Reading"]) (fun c hc=>(List.mem_singleton.mp hc) ▸ T.f_Reading_body) (pd_var 0)) pd_str (nomark _))))
    (poss_one (pos_fld 0 (c:="Reading") ndO T.f_Reading_body (pv_fr pd_non)))))
theorem fn_reads_within {a:Addr}{fd:FuncData} (F:Fun K "reads_within" "reads_within" s_reads_within a fd) (B:Blt mg) (T:Tf P w K mg) (O_close_block:OwnIo P w K mg base "close_block" 1 1 f_close_block):FnOk P w K mg base CX0 2 a fd ["reading","line","words"] (spIO K 3 f_reads_within):=by
  refine fn_io (k:=1) (O:=[]) F sc_reads_within rfl (by decide) (by decide) (by decide) (fun v0 cdv A outer s H E hr=>?_)
  have hu:=hr.units
  have nd:=sc_reads_within.nd
  have ndO:([0]:List Nat).Nodup:=by decide
  exact (poss_cons (pos_if (pdt_cmp (od_eq hu) (pd_var 2) (pd_lst (pda_cons pd_str pda_nil)) (nomark _))
    (poss_cons (pos_exprX (px_call 0 O_close_block ndO hr rfl pda_nil))
    (poss_one (pos_retI ndO pd_bl)))
    poss_nil)
    (poss_cons (pos_if (pdt_cmp (od_eq hu) (pd_var 2) (pd_lst (pda_cons pd_str pda_nil)) (nomark _))
    (poss_one pos_never)
    poss_nil)
    poss_never))
theorem fn_are_once {a:Addr}{fd:FuncData} (F:Fun K "are_once" "are_once" s_are_once a fd) (B:Blt mg) (T:Tf P w K mg) :FnOk P w K mg base CX0 1 a fd ["names"] (spD K 1 f_are_once):=by
  refine fn_own (k:=0) (O:=[]) F sc_are_once rfl (by decide) (fun cdv A outer s H E hr=>?_)
  have hu:=hr.units
  have nd:=sc_are_once.nd
  have ndO:([]:List Nat).Nodup:=by decide
  exact (poss_one (pos_ret (pd_cmp (od_eq hu) (pd_lenset rfl rfl B.len rfl B.set (pd_var 0)) (pd_callB cd_lenA rfl B.len (by rfl) (pda_cons (pd_var 0) pda_nil)) (nomark _))))
theorem fn_reads_kind {a:Addr}{fd:FuncData} (F:Fun K "reads_kind" "reads_kind" s_reads_kind a fd) (B:Blt mg) (T:Tf P w K mg) (O_are_once:Own P w K mg base "are_once" 1 1 f_are_once):FnOk P w K mg base CX0 2 a fd ["reading","words"] (spIO K 2 f_reads_kind):=by
  refine fn_io (k:=1) (O:=[3]) F sc_reads_kind rfl (by decide) (by decide) (by decide) (fun v0 cdv A outer s H E hr=>?_)
  have hu:=hr.units
  have nd:=sc_reads_kind.nd
  have ndO:([0,3]:List Nat).Nodup:=by decide
  exact (poss_cons (pos_if (pdt_w (pdw_or (pdt_valA (pd_fld (cs:=["Reading"]) (fun c hc=>(List.mem_singleton.mp hc) ▸ T.f_Reading_heads) (pd_var 0))) (pdw_or (pdt_cmp od_lt (pd_callB cd_lenA rfl B.len (by rfl) (pda_cons (pd_var 1) pda_nil)) pd_int (nomark _)) (pdw_or1 (pdt_cmp (od_in hu) (pd_ixA hu (pd_var 1) pd_int (fun _ _=>rfl) (fun _ _=>rfl)) (pd_fld (cs:=["Reading"]) (fun c hc=>(List.mem_singleton.mp hc) ▸ T.f_Reading_fields) (pd_var 0)) (by with_unfolding_all rfl))))))
    (poss_one (pos_retI ndO pd_bl))
    poss_nil)
    (poss_cons (pos_set 2 nd (pv_fr (pd_slice (pd_var 1) (pdo_some pd_int) pdo_none)))
    (poss_cons (pos_new 3 nd ndO (pfo_fr (pf_lst pda_nil)))
    (poss_cons (pos_if (pdt_w (pdw_and (pdt_valA (pd_var 2)) (pdw_and1 (pdt_cmp (od_eq hu) (pd_ixA hu (pd_var 2) pd_int (fun _ _=>rfl) (fun _ _=>rfl)) pd_str (nomark _)))))
    (poss_cons (pos_if (pdt_w (pdw_or (pdt_cmp od_lt (pd_callB cd_lenA rfl B.len (by rfl) (pda_cons (pd_var 2) pda_nil)) pd_int (nomark _)) (pdw_or1 (pdt_cmp (od_notin hu) (pd_ixA hu (pd_var 2) pd_int (fun _ _=>rfl) (fun _ _=>rfl)) (pd_fld (cs:=["Reading"]) (fun c hc=>(List.mem_singleton.mp hc) ▸ T.f_Reading_fields) (pd_var 0)) (by with_unfolding_all rfl)))))
    (poss_one (pos_retI ndO pd_bl))
    poss_nil)
    (poss_cons (pos_new 3 nd ndO (pfo_fl (pf_list rfl rfl B.list (pda_cons (pd_ixA hu (pd_fld (cs:=["Reading"]) (fun c hc=>(List.mem_singleton.mp hc) ▸ T.f_Reading_fields) (pd_var 0)) (pd_ixA hu (pd_var 2) pd_int (fun _ _=>rfl) (fun _ _=>rfl)) (fun _ _=>rfl) (fun _ _=>rfl)) pda_nil))))
    (poss_one (pos_set 2 nd (pv_fr (pd_slice (pd_var 2) (pdo_some pd_int) pdo_none))))))
    poss_nil)
    (poss_cons (pos_if (pdt_w (pdw_and (pdt_valA (pd_var 2)) (pdw_and1 (pdt_w (pdw_or (pdt_cmp (od_ne hu) (pd_ixA hu (pd_var 2) pd_int (fun _ _=>rfl) (fun _ _=>rfl)) pd_str (nomark _)) (pdw_or1 (pdt_cmp od_lt (pd_callB cd_lenA rfl B.len (by rfl) (pda_cons (pd_var 2) pda_nil)) pd_int (nomark _))))))))
    (poss_one (pos_retI ndO pd_bl))
    poss_nil)
    (poss_cons (pos_extend ndO (pp_sl 3) (pfo_fr (pf_slice (pd_var 2) (pdo_some pd_int) pdo_none)))
    (poss_freeze (O':=[0]) 3 (by decide) (by decide)
    (have ndO:([0]:List Nat).Nodup:=by decide
    (poss_cons (pos_put hu ndO (pp_fl 0 (c:="Reading") T.f_Reading_fields) (pv_fr (pd_ixA hu (pd_var 1) pd_int (fun _ _=>rfl) (fun _ _=>rfl))) (pv_fr (pd_var 3)))
    (poss_one (pos_retI ndO (pd_own O_are_once hr rfl (pda_cons (pd_var 3) pda_nil)))))))))))))
theorem fn_head_params {a:Addr}{fd:FuncData} (F:Fun K "head_params" "head_params" s_head_params a fd) (B:Blt mg) (T:Tf P w K mg) :FnOk P w K mg base CX0 1 a fd ["head"] (spF K 1 f_head_params):=by
  refine fn_new (k:=0) (O:=[1]) F sc_head_params rfl (by decide) (fun cdv A outer s H E hr=>?_)
  have hu:=hr.units
  have nd:=sc_head_params.nd
  have ndO:([1]:List Nat).Nodup:=by decide
  exact (poss_cons (pos_if (pdt_cmp (od_eq hu) (pd_ixA hu (pd_var 0) pd_int (fun _ _=>rfl) (fun _ _=>rfl)) pd_str (nomark _))
    (poss_one (pos_retF (pf_list rfl rfl B.list (pda_cons (pd_slice (pd_var 0) (pdo_some pd_int) pdo_none) pda_nil))))
    poss_nil)
    poss_never)
theorem fn_head_kept {a:Addr}{fd:FuncData} (F:Fun K "head_kept" "head_kept" s_head_kept a fd) (B:Blt mg) (T:Tf P w K mg) :FnOk P w K mg base CX0 1 a fd ["head"] (spF K 1 f_head_kept):=by
  refine fn_new (k:=0) (O:=[]) F sc_head_kept rfl (by decide) (fun cdv A outer s H E hr=>?_)
  have hu:=hr.units
  have nd:=sc_head_kept.nd
  have ndO:([]:List Nat).Nodup:=by decide
  exact (poss_cons (pos_if (pdt_w (pdw_or (pdt_cmp (od_ne hu) (pd_ixA hu (pd_var 0) pd_int (fun _ _=>rfl) (fun _ _=>rfl)) pd_str (nomark _)) (pdw_or1 (pdt_cmp (od_notin hu) pd_str (pd_slice (pd_var 0) (pdo_some pd_int) pdo_none) (by with_unfolding_all rfl)))))
    (poss_one (pos_retF (pf_lst pda_nil)))
    poss_nil)
    poss_never)
theorem fn_are_heads_names {a:Addr}{fd:FuncData} (F:Fun K "are_heads_names" "are_heads_names" s_are_heads_names a fd) (B:Blt mg) (T:Tf P w K mg) (O_are_once:Own P w K mg base "are_once" 1 1 f_are_once) (O_head_kept:OwnNew P w K mg base "head_kept" 1 1 f_head_kept) (O_head_params:OwnNew P w K mg base "head_params" 1 1 f_head_params):FnOk P w K mg base CX0 2 a fd ["words"] (spD K 1 f_are_heads_names):=by
  refine fn_own (k:=1) (O:=[]) F sc_are_heads_names rfl (by decide) (fun cdv A outer s H E hr=>?_)
  have hu:=hr.units
  have nd:=sc_are_heads_names.nd
  have ndO:([]:List Nat).Nodup:=by decide
  exact (poss_cons (pos_if (pdt_w (pdw_and (pdt_cmp (od_eq hu) (pd_ixA hu (pd_var 0) pd_int (fun _ _=>rfl) (fun _ _=>rfl)) pd_str (nomark _)) (pdw_and (pdt_cmp (od_in hu) pd_str (pd_slice (pd_var 0) (pdo_some pd_int) pdo_none) (by with_unfolding_all rfl)) (pdw_and1 (pdt_not (pdt_valA (PF.pd (pf_own O_head_kept hr rfl (pda_cons (pd_var 0) pda_nil)))))))))
    (poss_one (pos_ret pd_bl))
    poss_nil)
    (poss_cons (pos_set 1 nd (pv_fr (pd_op od_add (PF.pd (pf_own O_head_params hr rfl (pda_cons (pd_var 0) pda_nil))) (PF.pd (pf_own O_head_kept hr rfl (pda_cons (pd_var 0) pda_nil))))))
    (poss_one (pos_ret (pd_andV (pd_cmp (od_notin hu) pd_str (pd_var 1) (by with_unfolding_all rfl)) (pd_one1 (pd_own O_are_once hr rfl (pda_cons (pd_var 1) pda_nil))))))))
theorem fn_is_head {a:Addr}{fd:FuncData} (F:Fun K "is_head" "is_head" s_is_head a fd) (B:Blt mg) (T:Tf P w K mg) (O_are_heads_names:Own P w K mg base "are_heads_names" 2 1 f_are_heads_names):FnOk P w K mg base CX0 3 a fd ["reading","words"] (spD K 2 f_is_head):=by
  refine fn_own (k:=2) (O:=[]) F sc_is_head rfl (by decide) (fun cdv A outer s H E hr=>?_)
  have hu:=hr.units
  have nd:=sc_is_head.nd
  have ndO:([]:List Nat).Nodup:=by decide
  exact (poss_cons (pos_if (pdt_cmp (od_eq hu) (pd_ixA hu (pd_var 1) pd_int (fun _ _=>rfl) (fun _ _=>rfl)) pd_str (nomark _))
    (poss_one pos_never)
    poss_nil)
    (poss_cons (pos_if (pdt_cmp (od_eq hu) (pd_ixA hu (pd_var 1) pd_int (fun _ _=>rfl) (fun _ _=>rfl)) pd_str (nomark _))
    (poss_one (pos_ret (pd_andV (pd_cmp od_gt (pd_callB cd_lenA rfl B.len (by rfl) (pda_cons (pd_var 1) pda_nil)) pd_int (nomark _)) (pd_andV (pd_cmp (od_in hu) (pd_ixA hu (pd_var 1) pd_int (fun _ _=>rfl) (fun _ _=>rfl)) (pd_fld (cs:=["Reading"]) (fun c hc=>(List.mem_singleton.mp hc) ▸ T.f_Reading_fields) (pd_var 0)) (by with_unfolding_all rfl)) (pd_one1 (pd_own O_are_heads_names hr rfl (pda_cons (pd_var 1) pda_nil)))))))
    poss_nil)
    (poss_one (pos_ret (pd_cmp (od_eq hu) (pd_var 1) (pd_lst (pda_cons pd_str pda_nil)) (nomark _))))))
theorem fn_reads_row {a:Addr}{fd:FuncData} (F:Fun K "reads_row" "reads_row" s_reads_row a fd) (B:Blt mg) (T:Tf P w K mg) (O_head_body:Own P w K mg base "head_body" 2 1 f_head_body) (O_is_head:Own P w K mg base "is_head" 3 2 f_is_head) (O_reads_kind:OwnIo P w K mg base "reads_kind" 2 2 f_reads_kind) (O_reads_within:OwnIo P w K mg base "reads_within" 2 3 f_reads_within):FnOk P w K mg base CX0 4 a fd ["reading","line","words"] (spIO K 3 f_reads_row):=by
  refine fn_io (k:=3) (O:=[]) F sc_reads_row rfl (by decide) (by decide) (by decide) (fun v0 cdv A outer s H E hr=>?_)
  have hu:=hr.units
  have nd:=sc_reads_row.nd
  have ndO:([0]:List Nat).Nodup:=by decide
  exact (poss_cons (pos_if (pdt_valA (pd_fld (cs:=["Reading"]) (fun c hc=>(List.mem_singleton.mp hc) ▸ T.f_Reading_over) (pd_var 0)))
    (poss_one (pos_retI ndO pd_bl))
    poss_nil)
    (poss_cons (pos_if (pdt_cmp od_isnotA (pd_fld (cs:=["Reading"]) (fun c hc=>(List.mem_singleton.mp hc) ▸ T.f_Reading_body) (pd_var 0)) pd_non (nomark _))
    (poss_one (pos_retX ndO (px_call 0 O_reads_within ndO hr rfl (pda_cons (pd_var 1) (pda_cons (pd_var 2) pda_nil)))))
    poss_nil)
    (poss_cons (pos_if (pdt_cmp (od_eq hu) (pd_ixA hu (pd_var 2) pd_int (fun _ _=>rfl) (fun _ _=>rfl)) pd_str (nomark _))
    (poss_one (pos_retX ndO (px_call 0 O_reads_kind ndO hr rfl (pda_cons (pd_var 2) pda_nil))))
    poss_nil)
    (poss_cons (pos_if (pdt_w (pdw_or (pdt_not (pdt_valA (pd_own O_is_head hr rfl (pda_cons (pd_var 0) (pda_cons (pd_var 2) pda_nil))))) (pdw_or1 (pdt_cmp (od_in hu) (pd_own O_head_body hr rfl (pda_cons (pd_var 2) pda_nil)) (pd_fld (cs:=["Reading"]) (fun c hc=>(List.mem_singleton.mp hc) ▸ T.f_Reading_heads) (pd_var 0)) (by with_unfolding_all rfl)))))
    (poss_one (pos_retI ndO pd_bl))
    poss_nil)
    (poss_cons (pos_fld 0 (c:="Reading") ndO T.f_Reading_body (pv_fr (pd_own O_head_body hr rfl (pda_cons (pd_var 2) pda_nil))))
    (poss_cons (pos_put hu ndO (pp_fl 0 (c:="Reading") T.f_Reading_heads) (pv_sc (pd_fld (cs:=["Reading"]) (fun c hc=>(List.mem_singleton.mp hc) ▸ T.f_Reading_body) (pd_var 0))) (pv_fr (pd_var 2)))
    (poss_one (pos_retI ndO pd_bl))))))))
theorem fn_is_letters {a:Addr}{fd:FuncData} (F:Fun K "is_letters" "is_letters" s_is_letters a fd) (B:Blt mg) (T:Tf P w K mg) :FnOk P w K mg base CX0 1 a fd ["word"] (spD K 1 f_is_letters):=by
  refine fn_own (k:=0) (O:=[]) F sc_is_letters rfl (by decide) (fun cdv A outer s H E hr=>?_)
  have hu:=hr.units
  have nd:=sc_is_letters.nd
  have ndO:([]:List Nat).Nodup:=by decide
  exact (poss_cons (pos_for PassesOwn.never rfl (poj_fr (poi_seqA (pd_var 0))) (pgT_one 1 nd) (by decide)
    (poss_one (pos_if (pdt_not (pdt_chain od_leA od_leA pd_str (pd_var 1) pd_str))
    (poss_one (pos_ret pd_bl))
    poss_nil)))
    (poss_one (pos_ret (pd_cmp (od_ne hu) (pd_var 0) pd_str (nomark _)))))
theorem fn_is_name {a:Addr}{fd:FuncData} (F:Fun K "is_name" "is_name" s_is_name a fd) (B:Blt mg) (T:Tf P w K mg) (O_is_letters:Own P w K mg base "is_letters" 1 1 f_is_letters):FnOk P w K mg base CX0 2 a fd ["word"] (spD K 1 f_is_name):=by
  refine fn_own (k:=1) (O:=[]) F sc_is_name rfl (by decide) (fun cdv A outer s H E hr=>?_)
  have hu:=hr.units
  have nd:=sc_is_name.nd
  have ndO:([]:List Nat).Nodup:=by decide
  exact (poss_one (pos_ret (pd_andV (pd_cmp od_leA (pd_callB cd_lenA rfl B.len (by rfl) (pda_cons (pd_var 0) pda_nil)) pd_int (nomark _)) (pd_one1 (pd_own O_is_letters hr rfl (pda_cons (pd_var 0) pda_nil))))))
theorem fn_read_program {a:Addr}{fd:FuncData} (F:Fun K "read_program" "read_program" s_read_program a fd) (B:Blt mg) (T:Tf P w K mg) (O_Program_init:OwnCls P w K mg base "Program" 4 2 f_Program_init) (O_Reading_init:OwnCls P w K mg base "Reading" 1 1 f_Reading_init) (O_is_name:Own P w K mg base "is_name" 2 1 f_is_name) (O_reads_row:OwnIo P w K mg base "reads_row" 4 3 f_reads_row):FnOk P w K mg base CX0 6 a fd ["text"] (spD K 1 f_read_program):=by
  refine fn_own (k:=5) (O:=[1]) F sc_read_program rfl (by decide) (fun cdv A outer s H E hr=>?_)
  have hu:=hr.units
  have nd:=sc_read_program.nd
  have ndO:([1]:List Nat).Nodup:=by decide
  exact (poss_cons (pos_new 1 nd ndO (pfo_fr (pf_make0 O_Reading_init hr rfl)))
    (poss_cons (pos_comp 2 [] nd (pdi_seq (pd_bmS PySem.F.slot_str_split PySem.F.type_str_split mt_split (pd_var 0) (pda_cons pd_str pda_nil))) (fun _ _ _ _=>pdts_nil) (fun _ _ _ _=>(pd_bmS PySem.F.slot_str_split PySem.F.type_str_split mt_split (pd_var 0) (pda_cons pd_str pda_nil))))
    (poss_cons (pos_for PassesOwn.never rfl (poj_fr (poi_enum rfl B.enumerate (pd_var 2))) (pgT_two 3 4 rfl nd) (by decide)
    (poss_one (pos_ifX (pxt_w (pxw_or (pdt_not (pdt_valA (pd_callB (cd_all rfl) rfl B.all (by rfl) (pda_cons (pd_compI [] (pdi_seq (pd_var 4)) (fun _ _ _ _=>pdts_nil) (fun _ _ _ _=>(pd_own O_is_name hr rfl (pda_cons (pd_var 0) pda_nil)))) pda_nil)))) (pxw_or1 (pxt_not (pxt_val (px_call 1 O_reads_row ndO hr rfl (pda_cons (pd_var 3) (pda_cons (pd_var 4) pda_nil))))))))
    (poss_one pos_never)
    poss_nil)))
    (poss_cons (pos_if (pdt_not (pdt_valA (pd_fld (cs:=["Reading"]) (fun c hc=>(List.mem_singleton.mp hc) ▸ T.f_Reading_over) (pd_var 1))))
    (poss_one pos_never)
    poss_nil)
    (poss_freeze (O':=[]) 1 (by decide) (by decide)
    (have ndO:([]:List Nat).Nodup:=by decide
    (poss_cons (pos_for PassesOwn.never rfl (poj_fr (poi_seqA (pd_fld (cs:=["Reading"]) (fun c hc=>(List.mem_singleton.mp hc) ▸ T.f_Reading_later) (pd_var 1)))) (pgT_two 3 5 rfl nd) (by decide)
    (poss_one pos_never))
    (poss_one (pos_ret (PF.pd (pf_make O_Program_init hr rfl (pda_cons (pd_var 0) pda_nil))))))))))))
theorem fn_elder_and_fields {a:Addr}{fd:FuncData} (F:Fun K "elder_and_fields" "elder_and_fields" s_elder_and_fields a fd) (B:Blt mg) (T:Tf P w K mg) :FnOk P w K mg base CX0 1 a fd ["words"] (spD K 1 f_elder_and_fields):=by
  refine fn_own (k:=0) (O:=[]) F sc_elder_and_fields rfl (by decide) (fun cdv A outer s H E hr=>?_)
  have hu:=hr.units
  have nd:=sc_elder_and_fields.nd
  have ndO:([]:List Nat).Nodup:=by decide
  exact (poss_cons (pos_if (pdt_w (pdw_and (pdt_valA (pd_var 0)) (pdw_and1 (pdt_cmp (od_eq hu) (pd_ixA hu (pd_var 0) pd_int (fun _ _=>rfl) (fun _ _=>rfl)) pd_str (nomark _)))))
    (poss_one (pos_ret (pd_tup (pda_cons (pd_ixA hu (pd_var 0) pd_int (fun _ _=>rfl) (fun _ _=>rfl)) (pda_cons (pd_slice (pd_var 0) (pdo_some pd_int) pdo_none) pda_nil)))))
    poss_nil)
    (poss_one (pos_ret (pd_tup (pda_cons pd_non (pda_cons (pd_slice (pd_var 0) (pdo_some pd_int) pdo_none) pda_nil))))))
theorem fn_kind_table {a:Addr}{fd:FuncData} (F:Fun K "kind_table" "kind_table" s_kind_table a fd) (B:Blt mg) (T:Tf P w K mg) (O_elder_and_fields:Own P w K mg base "elder_and_fields" 1 1 f_elder_and_fields) (O_rows_of_words:Own P w K mg base "rows_of_words" 2 1 f_rows_of_words):FnOk P w K mg base CX0 3 a fd ["program"] (spD K 1 f_kind_table):=by
  refine fn_own (k:=2) (O:=[1]) F sc_kind_table rfl (by decide) (fun cdv A outer s H E hr=>?_)
  have hu:=hr.units
  have nd:=sc_kind_table.nd
  have ndO:([1]:List Nat).Nodup:=by decide
  exact (poss_cons (pos_new 1 nd ndO (pfo_fr pf_dct))
    (poss_cons (pos_for PassesOwn.never rfl (poj_fr (poi_seqA (pd_own O_rows_of_words hr rfl (pda_cons (pd_var 0) pda_nil)))) (pgT_one 2 nd) (by decide)
    (poss_cons (pos_if (pdt_cmp (od_ne hu) (pd_ixA hu (pd_var 2) pd_int (fun _ _=>rfl) (fun _ _=>rfl)) pd_str (nomark _))
    (poss_one pos_break)
    poss_nil)
    (poss_one (pos_put hu ndO (pp_sl 1) (pv_fr (pd_ixA hu (pd_var 2) pd_int (fun _ _=>rfl) (fun _ _=>rfl))) (pv_fr (pd_own O_elder_and_fields hr rfl (pda_cons (pd_slice (pd_var 2) (pdo_some pd_int) pdo_none) pda_nil)))))))
    (poss_one (pos_ret (pd_var 1)))))
theorem fn_kind_names {a:Addr}{fd:FuncData} (F:Fun K "kind_names" "kind_names" s_kind_names a fd) (B:Blt mg) (T:Tf P w K mg) (O_kind_table:Own P w K mg base "kind_table" 3 1 f_kind_table):FnOk P w K mg base CX0 4 a fd ["program"] (spF K 1 f_kind_names):=by
  refine fn_new (k:=3) (O:=[]) F sc_kind_names rfl (by decide) (fun cdv A outer s H E hr=>?_)
  have hu:=hr.units
  have nd:=sc_kind_names.nd
  have ndO:([]:List Nat).Nodup:=by decide
  exact (poss_one (pos_retF (pf_list rfl rfl B.list (pda_cons (pd_own O_kind_table hr rfl (pda_cons (pd_var 0) pda_nil)) pda_nil))))
theorem fn_law_text {a:Addr}{fd:FuncData} (F:Fun K "_law_text" "_law_text" s_law_text a fd) (B:Blt mg) (T:Tf P w K mg) :FnOk P w K mg base CX0 1 a fd ["_law_kinds_here","_law_turn"] (spD K 2 f_law_text):=by
  refine fn_own (k:=0) (O:=[2]) F sc_law_text rfl (by decide) (fun cdv A outer s H E hr=>?_)
  have hu:=hr.units
  have nd:=sc_law_text.nd
  have ndO:([2]:List Nat).Nodup:=by decide
  exact (poss_cons (pos_new 2 nd ndO (pfo_fr (pf_lst pda_nil)))
    (poss_cons (pos_for PassesOwn.never rfl (poj_fr (poi_seqA (pd_var 0))) (pgT_four 3 4 5 6 rfl nd) (by decide)
    (poss_cons (pos_set 7 nd (pv_fr (pd_lst (pda_cons pd_str (pda_cons (pd_var 3) pda_nil)))))
    (poss_cons (pos_if (pdt_cmp od_isnotA (pd_var 4) pd_non (nomark _))
    (poss_one (pos_set 7 nd (pv_fr (pd_op od_add (pd_var 7) (pd_lst (pda_cons pd_str (pda_cons (pd_var 4) pda_nil)))))))
    poss_nil)
    (poss_cons (pos_if (pdt_cmp (od_ne hu) (pd_var 5) (pd_lst pda_nil) (nomark _))
    (poss_one (pos_set 7 nd (pv_fr (pd_op od_add (pd_op od_add (pd_var 7) (pd_lst (pda_cons pd_str pda_nil))) (pd_var 5)))))
    poss_nil)
    (poss_one (pos_append ndO (pp_sl 2) (pv_fr (pd_bmS PySem.F.slot_str_join PySem.F.type_str_join mt_join pd_str (pda_cons (pd_var 7) pda_nil)))))))))
    (poss_cons (pos_set 8 nd (pv_fr (pd_lst pda_nil)))
    (poss_cons (pos_for PassesOwn.never rfl (poj_fr (poi_seqA (pd_var 0))) (pgT_four 3 4 5 6 rfl nd) (by decide)
    (poss_one (pos_set 8 nd (pv_fr (pd_op od_add (pd_var 8) (pd_compI [(3,"_law_name")] (pdi_seq (pd_var 6)) (fun _ _ _ _=>pdts_nil) (fun _ _ _ _=>(pd_op od_add (pd_op od_add (pd_op od_add pd_str (pd_var 1)) pd_str) (pd_var 0)))))))))
    (poss_cons (pos_if (pdt_valA (pd_var 1))
    (poss_one (pos_set 8 nd (pv_fr (pd_rev (pd_var 8) pd_neg1))))
    poss_nil)
    (poss_cons (pos_for PassesOwn.never rfl (poj_fr (poi_seqA (pd_var 8))) (pgT_one 9 nd) (by decide)
    (poss_one (pos_new 2 nd ndO (pfo_fl (pf_add (pd_var 2) (pd_lst (pda_cons (pd_var 9) (pda_cons pd_str pda_nil))))))))
    (poss_one (pos_ret (pd_bmS PySem.F.slot_str_join PySem.F.type_str_join mt_join pd_str (pda_cons (pd_op od_add (pd_var 2) (pd_lst (pda_cons pd_str (pda_cons pd_str pda_nil)))) pda_nil))))))))))
theorem fn_kind_and_elders {a:Addr}{fd:FuncData} (F:Fun K "kind_and_elders" "kind_and_elders" s_kind_and_elders a fd) (B:Blt mg) (T:Tf P w K mg) :FnOk P w K mg base CX0 1 a fd ["table","kind"] (spD K 2 f_kind_and_elders):=by
  refine fn_own (k:=0) (O:=[2]) F sc_kind_and_elders rfl (by decide) (fun cdv A outer s H E hr=>?_)
  have hu:=hr.units
  have nd:=sc_kind_and_elders.nd
  have ndO:([2]:List Nat).Nodup:=by decide
  exact (poss_cons (pos_new 2 nd ndO (pfo_fr (pf_lst pda_nil)))
    (poss_cons (pos_set 3 nd (pv_fr (pd_var 1)))
    (poss_cons (pos_while PassesOwn.never (pdt_cmp od_isnotA (pd_var 3) pd_non (nomark _))
    (poss_cons (pos_append ndO (pp_sl 2) (pv_fr (pd_var 3)))
    (poss_one (pos_set 3 nd (pv_fr (pd_ixA hu (pd_ixA hu (pd_var 0) (pd_var 3) (fun _ _=>rfl) (fun _ _=>rfl)) pd_int (fun _ _=>rfl) (fun _ _=>rfl)))))))
    (poss_one (pos_ret (pd_var 2))))))
theorem fn_fields_by {a:Addr}{fd:FuncData} (F:Fun K "fields_by" "fields_by" s_fields_by a fd) (B:Blt mg) (T:Tf P w K mg) (O_kind_and_elders:Own P w K mg base "kind_and_elders" 1 2 f_kind_and_elders):FnOk P w K mg base CX0 2 a fd ["table","kind"] (spF K 2 f_fields_by):=by
  refine fn_new (k:=1) (O:=[2]) F sc_fields_by rfl (by decide) (fun cdv A outer s H E hr=>?_)
  have hu:=hr.units
  have nd:=sc_fields_by.nd
  have ndO:([2]:List Nat).Nodup:=by decide
  exact (poss_cons (pos_new 2 nd ndO (pfo_fr (pf_lst pda_nil)))
    (poss_cons (pos_for PassesOwn.never rfl (poj_fr (poi_rev rfl B.reversed (pd_own O_kind_and_elders hr rfl (pda_cons (pd_var 0) (pda_cons (pd_var 1) pda_nil))))) (pgT_one 3 nd) (by decide)
    (poss_one (pos_extendD ndO (pp_sl 2) (pv_fr (pd_ixA hu (pd_ixA hu (pd_var 0) (pd_var 3) (fun _ _=>rfl) (fun _ _=>rfl)) pd_int (fun _ _=>rfl) (fun _ _=>rfl))))))
    (poss_one (pos_retO 2 ndO))))
theorem fn_fields_of {a:Addr}{fd:FuncData} (F:Fun K "fields_of" "fields_of" s_fields_of a fd) (B:Blt mg) (T:Tf P w K mg) (O_fields_by:OwnNew P w K mg base "fields_by" 2 2 f_fields_by) (O_kind_table:Own P w K mg base "kind_table" 3 1 f_kind_table):FnOk P w K mg base CX0 4 a fd ["program","kind"] (spF K 2 f_fields_of):=by
  refine fn_new (k:=3) (O:=[]) F sc_fields_of rfl (by decide) (fun cdv A outer s H E hr=>?_)
  have hu:=hr.units
  have nd:=sc_fields_of.nd
  have ndO:([]:List Nat).Nodup:=by decide
  exact (poss_one (pos_retF (pf_own O_fields_by hr rfl (pda_cons (pd_own O_kind_table hr rfl (pda_cons (pd_var 0) pda_nil)) (pda_cons (pd_var 1) pda_nil)))))
theorem fn_elder_of {a:Addr}{fd:FuncData} (F:Fun K "elder_of" "elder_of" s_elder_of a fd) (B:Blt mg) (T:Tf P w K mg) (O_kind_table:Own P w K mg base "kind_table" 3 1 f_kind_table):FnOk P w K mg base CX0 4 a fd ["program","kind"] (spD K 2 f_elder_of):=by
  refine fn_own (k:=3) (O:=[]) F sc_elder_of rfl (by decide) (fun cdv A outer s H E hr=>?_)
  have hu:=hr.units
  have nd:=sc_elder_of.nd
  have ndO:([]:List Nat).Nodup:=by decide
  exact (poss_one (pos_ret (pd_ixA hu (pd_ixA hu (pd_own O_kind_table hr rfl (pda_cons (pd_var 0) pda_nil)) (pd_var 1) (fun _ _=>rfl) (fun _ _=>rfl)) pd_int (fun _ _=>rfl) (fun _ _=>rfl))))
theorem fn_found_by {a:Addr}{fd:FuncData} (F:Fun K "found_by" "found_by" s_found_by a fd) (B:Blt mg) (T:Tf P w K mg) (O_kind_and_elders:Own P w K mg base "kind_and_elders" 1 2 f_kind_and_elders) (O_method_body:Own P w K mg base "method_body" 1 2 f_method_body):FnOk P w K mg base CX0 2 a fd ["table","heads","kind","method"] (spD K 4 f_found_by):=by
  refine fn_own (k:=1) (O:=[]) F sc_found_by rfl (by decide) (fun cdv A outer s H E hr=>?_)
  have hu:=hr.units
  have nd:=sc_found_by.nd
  have ndO:([]:List Nat).Nodup:=by decide
  exact (poss_cons (pos_for PassesOwn.never rfl (poj_fr (poi_seqA (pd_own O_kind_and_elders hr rfl (pda_cons (pd_var 0) (pda_cons (pd_var 2) pda_nil))))) (pgT_one 4 nd) (by decide)
    (poss_cons (pos_set 5 nd (pv_fr (pd_own O_method_body hr rfl (pda_cons (pd_var 4) (pda_cons (pd_var 3) pda_nil)))))
    (poss_one (pos_if (pdt_cmp (od_in hu) (pd_var 5) (pd_var 1) (by with_unfolding_all rfl))
    (poss_one (pos_ret (pd_var 5)))
    poss_nil))))
    (poss_one (pos_ret pd_non)))
theorem fn_finds {a:Addr}{fd:FuncData} (F:Fun K "finds" "finds" s_finds a fd) (B:Blt mg) (T:Tf P w K mg) (O_body_heads:Own P w K mg base "body_heads" 3 1 f_body_heads) (O_found_by:Own P w K mg base "found_by" 2 4 f_found_by) (O_kind_table:Own P w K mg base "kind_table" 3 1 f_kind_table):FnOk P w K mg base CX0 4 a fd ["program","kind","method"] (spD K 3 f_finds):=by
  refine fn_own (k:=3) (O:=[]) F sc_finds rfl (by decide) (fun cdv A outer s H E hr=>?_)
  have hu:=hr.units
  have nd:=sc_finds.nd
  have ndO:([]:List Nat).Nodup:=by decide
  exact (poss_one (pos_ret (pd_own O_found_by hr rfl (pda_cons (pd_own O_kind_table hr rfl (pda_cons (pd_var 0) pda_nil)) (pda_cons (pd_own O_body_heads hr rfl (pda_cons (pd_var 0) pda_nil)) (pda_cons (pd_var 1) (pda_cons (pd_var 2) pda_nil)))))))
theorem fn_law_finds {a:Addr}{fd:FuncData} (F:Fun K "_law_finds" "_law_finds" s_law_finds a fd) (B:Blt mg) (T:Tf P w K mg) (O_law_elders:Own P w K mg base "_law_elders" 1 2 f_law_elders):FnOk P w K mg base CX0 2 a fd ["_law_kinds_here","_law_k","_law_method"] (spD K 3 f_law_finds):=by
  refine fn_own (k:=1) (O:=[]) F sc_law_finds rfl (by decide) (fun cdv A outer s H E hr=>?_)
  have hu:=hr.units
  have nd:=sc_law_finds.nd
  have ndO:([]:List Nat).Nodup:=by decide
  exact (poss_cons (pos_for PassesOwn.never rfl (poj_fr (poi_seqA (pd_own O_law_elders hr rfl (pda_cons (pd_var 0) (pda_cons (pd_var 1) pda_nil))))) (pgT_one 3 nd) (by decide)
    (poss_one (pos_if (pdt_cmp (od_in hu) (pd_var 2) (pd_ixA hu (pd_ixA hu (pd_var 0) (pd_var 3) (fun _ _=>rfl) (fun _ _=>rfl)) pd_int (fun _ _=>rfl) (fun _ _=>rfl)) (by with_unfolding_all rfl))
    (poss_one (pos_ret (pd_op od_add (pd_op od_add (pd_ixA hu (pd_ixA hu (pd_var 0) (pd_var 3) (fun _ _=>rfl) (fun _ _=>rfl)) pd_int (fun _ _=>rfl) (fun _ _=>rfl)) pd_str) (pd_var 2))))
    poss_nil)))
    (poss_one (pos_ret pd_non)))
theorem fn_law_right {a:Addr}{fd:FuncData} (F:Fun K "_law_right" "_law_right" s_law_right a fd) (B:Blt mg) (T:Tf P w K mg) (O_law_fields:OwnNew P w K mg base "_law_fields" 2 2 f_law_fields) (O_law_finds:Own P w K mg base "_law_finds" 2 3 f_law_finds) (O_elder_of:Own P w K mg base "elder_of" 4 2 f_elder_of) (O_fields_of:OwnNew P w K mg base "fields_of" 4 2 f_fields_of) (O_finds:Own P w K mg base "finds" 4 3 f_finds):FnOk P w K mg base CX0 5 a fd ["_law_program","_law_kinds_here","_law_k"] (spD K 3 f_law_right):=by
  refine fn_own (k:=4) (O:=[4]) F sc_law_right rfl (by decide) (fun cdv A outer s H E hr=>?_)
  have hu:=hr.units
  have nd:=sc_law_right.nd
  have ndO:([4]:List Nat).Nodup:=by decide
  exact (poss_cons (pos_set 3 nd (pv_fr (pd_ixA hu (pd_ixA hu (pd_var 1) (pd_var 2) (fun _ _=>rfl) (fun _ _=>rfl)) pd_int (fun _ _=>rfl) (fun _ _=>rfl))))
    (poss_cons (pos_new 4 nd ndO (pfo_fr (pf_own O_fields_of hr rfl (pda_cons (pd_var 0) (pda_cons (pd_var 3) pda_nil)))))
    (poss_cons (pos_if (pdt_w (pdw_or (pdt_cmp (od_ne hu) (pd_own O_elder_of hr rfl (pda_cons (pd_var 0) (pda_cons (pd_var 3) pda_nil))) (pd_ixA hu (pd_ixA hu (pd_var 1) (pd_var 2) (fun _ _=>rfl) (fun _ _=>rfl)) pd_int (fun _ _=>rfl) (fun _ _=>rfl)) (nomark _)) (pdw_or (pdt_not (pdt_valA (pd_isinst (Or.inr (Or.inl rfl)) (pd_var 4) rfl B.isinstance rfl B.list (by rfl)))) (pdw_or1 (pdt_cmp (od_ne hu) (pd_var 4) (PF.pd (pf_own O_law_fields hr rfl (pda_cons (pd_var 1) (pda_cons (pd_var 2) pda_nil)))) (nomark _))))))
    (poss_one (pos_ret pd_bl))
    poss_nil)
    (poss_cons (pos_append ndO (pp_sl 4) (pv_fr pd_str))
    (poss_cons (pos_if (pdt_cmp (od_ne hu) (PF.pd (pf_own O_fields_of hr rfl (pda_cons (pd_var 0) (pda_cons (pd_var 3) pda_nil)))) (PF.pd (pf_own O_law_fields hr rfl (pda_cons (pd_var 1) (pda_cons (pd_var 2) pda_nil)))) (nomark _))
    (poss_one (pos_ret pd_bl))
    poss_nil)
    (poss_one (pos_ret (pd_callB (cd_all rfl) rfl B.all (by rfl) (pda_cons (pd_compI [(0,"_law_program"),(3,"_law_name"),(1,"_law_kinds_here"),(2,"_law_k")] (pdi_seq (pd_lst (pda_cons pd_str (pda_cons pd_str (pda_cons pd_str (pda_cons pd_str pda_nil)))))) (fun _ _ _ _=>pdts_nil) (fun _ _ _ _=>(pd_cmp (od_eq hu) (pd_own O_finds hr rfl (pda_cons (pd_var 1) (pda_cons (pd_var 2) (pda_cons (pd_var 0) pda_nil)))) (pd_own O_law_finds hr rfl (pda_cons (pd_var 3) (pda_cons (pd_var 4) (pda_cons (pd_var 0) pda_nil)))) (nomark _)))) pda_nil)))))))))
theorem fn_law {a:Addr}{fd:FuncData} (F:Fun K "law" "law" s_law a fd) (B:Blt mg) (T:Tf P w K mg) (O_law_cell_at:Own P w K mg base "_law_cell_at" 1 2 f_law_cell_at) (O_law_kinds:Own P w K mg base "_law_kinds" 3 2 f_law_kinds) (O_law_right:Own P w K mg base "_law_right" 5 3 f_law_right) (O_law_text:Own P w K mg base "_law_text" 1 2 f_law_text) (O_kind_names:OwnNew P w K mg base "kind_names" 4 1 f_kind_names) (O_read_program:Own P w K mg base "read_program" 6 1 f_read_program):FnOk P w K mg base CX0 7 a fd ["_law_script"] (spD K 1 f_law):=by
  refine fn_own (k:=6) (O:=[4]) F sc_law rfl (by decide) (fun cdv A outer s H E hr=>?_)
  have hu:=hr.units
  have nd:=sc_law.nd
  have ndO:([4]:List Nat).Nodup:=by decide
  exact (poss_cons (pos_set 1 nd (pv_fr (pd_own O_law_cell_at hr rfl (pda_cons (pd_var 0) (pda_cons pd_int pda_nil)))))
    (poss_cons (pos_set 2 nd (pv_fr (pd_own O_law_kinds hr rfl (pda_cons (pd_var 0) (pda_cons (pd_cmp (od_eq hu) (pd_op od_mod (pd_var 1) pd_int) pd_int (nomark _)) pda_nil)))))
    (poss_cons (pos_set 3 nd (pv_fr (pd_own O_read_program hr rfl (pda_cons (pd_own O_law_text hr rfl (pda_cons (pd_var 2) (pda_cons (pd_cmp (od_eq hu) (pd_op od_mod (pd_op od_div (pd_var 1) pd_int) pd_int) pd_int (nomark _)) pda_nil))) pda_nil))))
    (poss_cons (pos_new 4 nd ndO (pfo_fr (pf_own O_kind_names hr rfl (pda_cons (pd_var 3) pda_nil))))
    (poss_cons (pos_if (pdt_cmp (od_ne hu) (pd_var 4) (pd_compI [] (pdi_seq (pd_var 2)) (fun _ _ _ _=>pdts_nil) (fun _ _ _ _=>(pd_ixA hu (pd_var 0) pd_int (fun _ _=>rfl) (fun _ _=>rfl)))) (nomark _))
    (poss_one (pos_ret pd_bl))
    poss_nil)
    (poss_cons (pos_clear ndO (pp_sl 4))
    (poss_cons (pos_if (pdt_cmp (od_ne hu) (PF.pd (pf_own O_kind_names hr rfl (pda_cons (pd_var 3) pda_nil))) (pd_compI [] (pdi_seq (pd_var 2)) (fun _ _ _ _=>pdts_nil) (fun _ _ _ _=>(pd_ixA hu (pd_var 0) pd_int (fun _ _=>rfl) (fun _ _=>rfl)))) (nomark _))
    (poss_one (pos_ret pd_bl))
    poss_nil)
    (poss_one (pos_ret (pd_callB (cd_all rfl) rfl B.all (by rfl) (pda_cons (pd_compI [(3,"_law_program"),(2,"_law_kinds_here")] (pdi_range1 rfl B.range (pd_callB cd_lenA rfl B.len (by rfl) (pda_cons (pd_var 2) pda_nil))) (fun _ _ _ _=>pdts_nil) (fun _ _ _ _=>(pd_own O_law_right hr rfl (pda_cons (pd_var 1) (pda_cons (pd_var 2) (pda_cons (pd_var 0) pda_nil)))))) pda_nil)))))))))))
end
theorem all_mk {l:W.OpenLaw}{w:World}{K:W.Frag}{h:Heap}{mg:Str→Option Value}{fa:Addr} (X:K.In h) (G:h.Ns mainGlobals mg) (hfa:mg "law"=some (.ref fa))
    {C_Program:Addr}
    {C_Reading:Addr}
    {f0:Addr}{od0 an0:Option Addr}{sl0:Array (Option Value)}{oc0 kV0 dc0 pm0 cd0 ct0:Value}
    {f1:Addr}{od1 an1:Option Addr}{sl1:Array (Option Value)}{oc1 kV1 dc1 pm1 cd1 ct1:Value}
    {f2:Addr}{od2 an2:Option Addr}{sl2:Array (Option Value)}{oc2 kV2 dc2 pm2 cd2 ct2:Value}
    {f3:Addr}{od3 an3:Option Addr}{sl3:Array (Option Value)}{oc3 kV3 dc3 pm3 cd3 ct3:Value}
    {f4:Addr}{od4 an4:Option Addr}{sl4:Array (Option Value)}{oc4 kV4 dc4 pm4 cd4 ct4:Value}
    {f5:Addr}{od5 an5:Option Addr}{sl5:Array (Option Value)}{oc5 kV5 dc5 pm5 cd5 ct5:Value}
    {f6:Addr}{od6 an6:Option Addr}{sl6:Array (Option Value)}{oc6 kV6 dc6 pm6 cd6 ct6:Value}
    {f7:Addr}{od7 an7:Option Addr}{sl7:Array (Option Value)}{oc7 kV7 dc7 pm7 cd7 ct7:Value}
    {f8:Addr}{od8 an8:Option Addr}{sl8:Array (Option Value)}{oc8 kV8 dc8 pm8 cd8 ct8:Value}
    {f9:Addr}{od9 an9:Option Addr}{sl9:Array (Option Value)}{oc9 kV9 dc9 pm9 cd9 ct9:Value}
    {f10:Addr}{od10 an10:Option Addr}{sl10:Array (Option Value)}{oc10 kV10 dc10 pm10 cd10 ct10:Value}
    {f11:Addr}{od11 an11:Option Addr}{sl11:Array (Option Value)}{oc11 kV11 dc11 pm11 cd11 ct11:Value}
    {f12:Addr}{od12 an12:Option Addr}{sl12:Array (Option Value)}{oc12 kV12 dc12 pm12 cd12 ct12:Value}
    {f13:Addr}{od13 an13:Option Addr}{sl13:Array (Option Value)}{oc13 kV13 dc13 pm13 cd13 ct13:Value}
    {f14:Addr}{od14 an14:Option Addr}{sl14:Array (Option Value)}{oc14 kV14 dc14 pm14 cd14 ct14:Value}
    {f15:Addr}{od15 an15:Option Addr}{sl15:Array (Option Value)}{oc15 kV15 dc15 pm15 cd15 ct15:Value}
    {f16:Addr}{od16 an16:Option Addr}{sl16:Array (Option Value)}{oc16 kV16 dc16 pm16 cd16 ct16:Value}
    {f17:Addr}{od17 an17:Option Addr}{sl17:Array (Option Value)}{oc17 kV17 dc17 pm17 cd17 ct17:Value}
    {f18:Addr}{od18 an18:Option Addr}{sl18:Array (Option Value)}{oc18 kV18 dc18 pm18 cd18 ct18:Value}
    {f19:Addr}{od19 an19:Option Addr}{sl19:Array (Option Value)}{oc19 kV19 dc19 pm19 cd19 ct19:Value}
    {f20:Addr}{od20 an20:Option Addr}{sl20:Array (Option Value)}{oc20 kV20 dc20 pm20 cd20 ct20:Value}
    {f21:Addr}{od21 an21:Option Addr}{sl21:Array (Option Value)}{oc21 kV21 dc21 pm21 cd21 ct21:Value}
    {f22:Addr}{od22 an22:Option Addr}{sl22:Array (Option Value)}{oc22 kV22 dc22 pm22 cd22 ct22:Value}
    {f23:Addr}{od23 an23:Option Addr}{sl23:Array (Option Value)}{oc23 kV23 dc23 pm23 cd23 ct23:Value}
    {f24:Addr}{od24 an24:Option Addr}{sl24:Array (Option Value)}{oc24 kV24 dc24 pm24 cd24 ct24:Value}
    {f25:Addr}{od25 an25:Option Addr}{sl25:Array (Option Value)}{oc25 kV25 dc25 pm25 cd25 ct25:Value}
    {f26:Addr}{od26 an26:Option Addr}{sl26:Array (Option Value)}{oc26 kV26 dc26 pm26 cd26 ct26:Value}
    {f27:Addr}{od27 an27:Option Addr}{sl27:Array (Option Value)}{oc27 kV27 dc27 pm27 cd27 ct27:Value}
    {f28:Addr}{od28 an28:Option Addr}{sl28:Array (Option Value)}{oc28 kV28 dc28 pm28 cd28 ct28:Value}
    {f29:Addr}{od29 an29:Option Addr}{sl29:Array (Option Value)}{oc29 kV29 dc29 pm29 cd29 ct29:Value}
    {f30:Addr}{od30 an30:Option Addr}{sl30:Array (Option Value)}{oc30 kV30 dc30 pm30 cd30 ct30:Value}
    {f31:Addr}{od31 an31:Option Addr}{sl31:Array (Option Value)}{oc31 kV31 dc31 pm31 cd31 ct31:Value}
    {f32:Addr}{od32 an32:Option Addr}{sl32:Array (Option Value)}{oc32 kV32 dc32 pm32 cd32 ct32:Value}
    {f33:Addr}{od33 an33:Option Addr}{sl33:Array (Option Value)}{oc33 kV33 dc33 pm33 cd33 ct33:Value}
    {f34:Addr}{od34 an34:Option Addr}{sl34:Array (Option Value)}{oc34 kV34 dc34 pm34 cd34 ct34:Value}
    {f35:Addr}{od35 an35:Option Addr}{sl35:Array (Option Value)}{oc35 kV35 dc35 pm35 cd35 ct35:Value}
    {f36:Addr}{od36 an36:Option Addr}{sl36:Array (Option Value)}{oc36 kV36 dc36 pm36 cd36 ct36:Value}
    {f37:Addr}{od37 an37:Option Addr}{sl37:Array (Option Value)}{oc37 kV37 dc37 pm37 cd37 ct37:Value}
    (a_Program:W.nsIn K mainGlobals "Program"=some (some (.ref C_Program)))
    (pg_Program:W.plainGet K C_Program Str.empty=true)
    (hd_Program:W.hasDictIn K C_Program=true)
    (po_Program:W.plainOver K C_Program=true)
    (sa_Program:W.findIn K (.ref C_Program) "__setattr__"=some (some (.builtin "object.__setattr__")))
    (mk_Program:W.makesIn K C_Program=true)
    (kc_Program:W.keepIn K (.ref C_Program)=true)
    (a_Reading:W.nsIn K mainGlobals "Reading"=some (some (.ref C_Reading)))
    (pg_Reading:W.plainGet K C_Reading Str.empty=true)
    (hd_Reading:W.hasDictIn K C_Reading=true)
    (po_Reading:W.plainOver K C_Reading=true)
    (sa_Reading:W.findIn K (.ref C_Reading) "__setattr__"=some (some (.builtin "object.__setattr__")))
    (mk_Reading:W.makesIn K C_Reading=true)
    (kc_Reading:W.keepIn K (.ref C_Reading)=true)
    (n_Program_body_texts:W.findIn K (.ref C_Program) "body_texts"=some none)
    (n_Program_numbered:W.findIn K (.ref C_Program) "numbered"=some none)
    (n_Program_text:W.findIn K (.ref C_Program) "text"=some none)
    (n_Reading_blocks:W.findIn K (.ref C_Reading) "blocks"=some none)
    (n_Reading_body:W.findIn K (.ref C_Reading) "body"=some none)
    (n_Reading_fields:W.findIn K (.ref C_Reading) "fields"=some none)
    (n_Reading_heads:W.findIn K (.ref C_Reading) "heads"=some none)
    (n_Reading_later:W.findIn K (.ref C_Reading) "later"=some none)
    (n_Reading_over:W.findIn K (.ref C_Reading) "over"=some none)
    (a0:W.nsIn K mainGlobals "_law_cell_at"=some (some (.ref f0)))
    (l0:K.lookup f0=some ⟨oc0,od0,.func (W.fnOf "_law_cell_at" "_law_cell_at" (defArgs s_law_cell_at) (defBody s_law_cell_at) (defScope s_law_cell_at) .none kV0 dc0 pm0 an0 cd0 ct0),sl0⟩)
    (c0:W.codeIn K cd0 "_law_cell_at"=true) (k0:W.keepIn K (.ref f0)=true)
    (a1:W.nsIn K mainGlobals "_law_draw"=some (some (.ref f1)))
    (l1:K.lookup f1=some ⟨oc1,od1,.func (W.fnOf "_law_draw" "_law_draw" (defArgs s_law_draw) (defBody s_law_draw) (defScope s_law_draw) .none kV1 dc1 pm1 an1 cd1 ct1),sl1⟩)
    (c1:W.codeIn K cd1 "_law_draw"=true) (k1:W.keepIn K (.ref f1)=true)
    (a2:W.nsIn K mainGlobals "_law_elders"=some (some (.ref f2)))
    (l2:K.lookup f2=some ⟨oc2,od2,.func (W.fnOf "_law_elders" "_law_elders" (defArgs s_law_elders) (defBody s_law_elders) (defScope s_law_elders) .none kV2 dc2 pm2 an2 cd2 ct2),sl2⟩)
    (c2:W.codeIn K cd2 "_law_elders"=true) (k2:W.keepIn K (.ref f2)=true)
    (a3:W.nsIn K mainGlobals "_law_fields"=some (some (.ref f3)))
    (l3:K.lookup f3=some ⟨oc3,od3,.func (W.fnOf "_law_fields" "_law_fields" (defArgs s_law_fields) (defBody s_law_fields) (defScope s_law_fields) .none kV3 dc3 pm3 an3 cd3 ct3),sl3⟩)
    (c3:W.codeIn K cd3 "_law_fields"=true) (k3:W.keepIn K (.ref f3)=true)
    (a4:W.nsIn K mainGlobals "_law_kinds"=some (some (.ref f4)))
    (l4:K.lookup f4=some ⟨oc4,od4,.func (W.fnOf "_law_kinds" "_law_kinds" (defArgs s_law_kinds) (defBody s_law_kinds) (defScope s_law_kinds) .none kV4 dc4 pm4 an4 cd4 ct4),sl4⟩)
    (c4:W.codeIn K cd4 "_law_kinds"=true) (k4:W.keepIn K (.ref f4)=true)
    (a5:W.findIn K (.ref C_Reading) "__init__"=some (some (.ref f5))) (i5:W.isFn K (.ref f5)=true)
    (l5:K.lookup f5=some ⟨oc5,od5,.func (W.fnOf "__init__" "Reading.__init__" (defArgs s_Reading_init) (defBody s_Reading_init) (defScope s_Reading_init) .none kV5 dc5 pm5 an5 cd5 ct5),sl5⟩)
    (c5:W.codeIn K cd5 "Reading.__init__"=true) (k5:W.keepIn K (.ref f5)=true)
    (a6:W.nsIn K mainGlobals "method_body"=some (some (.ref f6)))
    (l6:K.lookup f6=some ⟨oc6,od6,.func (W.fnOf "method_body" "method_body" (defArgs s_method_body) (defBody s_method_body) (defScope s_method_body) .none kV6 dc6 pm6 an6 cd6 ct6),sl6⟩)
    (c6:W.codeIn K cd6 "method_body"=true) (k6:W.keepIn K (.ref f6)=true)
    (a7:W.nsIn K mainGlobals "head_body"=some (some (.ref f7)))
    (l7:K.lookup f7=some ⟨oc7,od7,.func (W.fnOf "head_body" "head_body" (defArgs s_head_body) (defBody s_head_body) (defScope s_head_body) .none kV7 dc7 pm7 an7 cd7 ct7),sl7⟩)
    (c7:W.codeIn K cd7 "head_body"=true) (k7:W.keepIn K (.ref f7)=true)
    (a8:W.nsIn K mainGlobals "numbered_rows"=some (some (.ref f8)))
    (l8:K.lookup f8=some ⟨oc8,od8,.func (W.fnOf "numbered_rows" "numbered_rows" (defArgs s_numbered_rows) (defBody s_numbered_rows) (defScope s_numbered_rows) .none kV8 dc8 pm8 an8 cd8 ct8),sl8⟩)
    (c8:W.codeIn K cd8 "numbered_rows"=true) (k8:W.keepIn K (.ref f8)=true)
    (a9:W.findIn K (.ref C_Program) "shown"=some (some (.ref f9))) (i9:W.isFn K (.ref f9)=true)
    (l9:K.lookup f9=some ⟨oc9,od9,.func (W.fnOf "shown" "Program.shown" (defArgs s_Program_shown) (defBody s_Program_shown) (defScope s_Program_shown) .none kV9 dc9 pm9 an9 cd9 ct9),sl9⟩)
    (c9:W.codeIn K cd9 "Program.shown"=true) (k9:W.keepIn K (.ref f9)=true)
    (a10:W.nsIn K mainGlobals "rows_of_words"=some (some (.ref f10)))
    (l10:K.lookup f10=some ⟨oc10,od10,.func (W.fnOf "rows_of_words" "rows_of_words" (defArgs s_rows_of_words) (defBody s_rows_of_words) (defScope s_rows_of_words) .none kV10 dc10 pm10 an10 cd10 ct10),sl10⟩)
    (c10:W.codeIn K cd10 "rows_of_words"=true) (k10:W.keepIn K (.ref f10)=true)
    (a11:W.nsIn K mainGlobals "body_heads"=some (some (.ref f11)))
    (l11:K.lookup f11=some ⟨oc11,od11,.func (W.fnOf "body_heads" "body_heads" (defArgs s_body_heads) (defBody s_body_heads) (defScope s_body_heads) .none kV11 dc11 pm11 an11 cd11 ct11),sl11⟩)
    (c11:W.codeIn K cd11 "body_heads"=true) (k11:W.keepIn K (.ref f11)=true)
    (a12:W.findIn K (.ref C_Program) "__init__"=some (some (.ref f12))) (i12:W.isFn K (.ref f12)=true)
    (l12:K.lookup f12=some ⟨oc12,od12,.func (W.fnOf "__init__" "Program.__init__" (defArgs s_Program_init) (defBody s_Program_init) (defScope s_Program_init) .none kV12 dc12 pm12 an12 cd12 ct12),sl12⟩)
    (c12:W.codeIn K cd12 "Program.__init__"=true) (k12:W.keepIn K (.ref f12)=true)
    (a13:W.nsIn K mainGlobals "close_block"=some (some (.ref f13)))
    (l13:K.lookup f13=some ⟨oc13,od13,.func (W.fnOf "close_block" "close_block" (defArgs s_close_block) (defBody s_close_block) (defScope s_close_block) .none kV13 dc13 pm13 an13 cd13 ct13),sl13⟩)
    (c13:W.codeIn K cd13 "close_block"=true) (k13:W.keepIn K (.ref f13)=true)
    (a14:W.nsIn K mainGlobals "reads_within"=some (some (.ref f14)))
    (l14:K.lookup f14=some ⟨oc14,od14,.func (W.fnOf "reads_within" "reads_within" (defArgs s_reads_within) (defBody s_reads_within) (defScope s_reads_within) .none kV14 dc14 pm14 an14 cd14 ct14),sl14⟩)
    (c14:W.codeIn K cd14 "reads_within"=true) (k14:W.keepIn K (.ref f14)=true)
    (a15:W.nsIn K mainGlobals "are_once"=some (some (.ref f15)))
    (l15:K.lookup f15=some ⟨oc15,od15,.func (W.fnOf "are_once" "are_once" (defArgs s_are_once) (defBody s_are_once) (defScope s_are_once) .none kV15 dc15 pm15 an15 cd15 ct15),sl15⟩)
    (c15:W.codeIn K cd15 "are_once"=true) (k15:W.keepIn K (.ref f15)=true)
    (a16:W.nsIn K mainGlobals "reads_kind"=some (some (.ref f16)))
    (l16:K.lookup f16=some ⟨oc16,od16,.func (W.fnOf "reads_kind" "reads_kind" (defArgs s_reads_kind) (defBody s_reads_kind) (defScope s_reads_kind) .none kV16 dc16 pm16 an16 cd16 ct16),sl16⟩)
    (c16:W.codeIn K cd16 "reads_kind"=true) (k16:W.keepIn K (.ref f16)=true)
    (a17:W.nsIn K mainGlobals "head_params"=some (some (.ref f17)))
    (l17:K.lookup f17=some ⟨oc17,od17,.func (W.fnOf "head_params" "head_params" (defArgs s_head_params) (defBody s_head_params) (defScope s_head_params) .none kV17 dc17 pm17 an17 cd17 ct17),sl17⟩)
    (c17:W.codeIn K cd17 "head_params"=true) (k17:W.keepIn K (.ref f17)=true)
    (a18:W.nsIn K mainGlobals "head_kept"=some (some (.ref f18)))
    (l18:K.lookup f18=some ⟨oc18,od18,.func (W.fnOf "head_kept" "head_kept" (defArgs s_head_kept) (defBody s_head_kept) (defScope s_head_kept) .none kV18 dc18 pm18 an18 cd18 ct18),sl18⟩)
    (c18:W.codeIn K cd18 "head_kept"=true) (k18:W.keepIn K (.ref f18)=true)
    (a19:W.nsIn K mainGlobals "are_heads_names"=some (some (.ref f19)))
    (l19:K.lookup f19=some ⟨oc19,od19,.func (W.fnOf "are_heads_names" "are_heads_names" (defArgs s_are_heads_names) (defBody s_are_heads_names) (defScope s_are_heads_names) .none kV19 dc19 pm19 an19 cd19 ct19),sl19⟩)
    (c19:W.codeIn K cd19 "are_heads_names"=true) (k19:W.keepIn K (.ref f19)=true)
    (a20:W.nsIn K mainGlobals "is_head"=some (some (.ref f20)))
    (l20:K.lookup f20=some ⟨oc20,od20,.func (W.fnOf "is_head" "is_head" (defArgs s_is_head) (defBody s_is_head) (defScope s_is_head) .none kV20 dc20 pm20 an20 cd20 ct20),sl20⟩)
    (c20:W.codeIn K cd20 "is_head"=true) (k20:W.keepIn K (.ref f20)=true)
    (a21:W.nsIn K mainGlobals "reads_row"=some (some (.ref f21)))
    (l21:K.lookup f21=some ⟨oc21,od21,.func (W.fnOf "reads_row" "reads_row" (defArgs s_reads_row) (defBody s_reads_row) (defScope s_reads_row) .none kV21 dc21 pm21 an21 cd21 ct21),sl21⟩)
    (c21:W.codeIn K cd21 "reads_row"=true) (k21:W.keepIn K (.ref f21)=true)
    (a22:W.nsIn K mainGlobals "is_letters"=some (some (.ref f22)))
    (l22:K.lookup f22=some ⟨oc22,od22,.func (W.fnOf "is_letters" "is_letters" (defArgs s_is_letters) (defBody s_is_letters) (defScope s_is_letters) .none kV22 dc22 pm22 an22 cd22 ct22),sl22⟩)
    (c22:W.codeIn K cd22 "is_letters"=true) (k22:W.keepIn K (.ref f22)=true)
    (a23:W.nsIn K mainGlobals "is_name"=some (some (.ref f23)))
    (l23:K.lookup f23=some ⟨oc23,od23,.func (W.fnOf "is_name" "is_name" (defArgs s_is_name) (defBody s_is_name) (defScope s_is_name) .none kV23 dc23 pm23 an23 cd23 ct23),sl23⟩)
    (c23:W.codeIn K cd23 "is_name"=true) (k23:W.keepIn K (.ref f23)=true)
    (a24:W.nsIn K mainGlobals "read_program"=some (some (.ref f24)))
    (l24:K.lookup f24=some ⟨oc24,od24,.func (W.fnOf "read_program" "read_program" (defArgs s_read_program) (defBody s_read_program) (defScope s_read_program) .none kV24 dc24 pm24 an24 cd24 ct24),sl24⟩)
    (c24:W.codeIn K cd24 "read_program"=true) (k24:W.keepIn K (.ref f24)=true)
    (a25:W.nsIn K mainGlobals "elder_and_fields"=some (some (.ref f25)))
    (l25:K.lookup f25=some ⟨oc25,od25,.func (W.fnOf "elder_and_fields" "elder_and_fields" (defArgs s_elder_and_fields) (defBody s_elder_and_fields) (defScope s_elder_and_fields) .none kV25 dc25 pm25 an25 cd25 ct25),sl25⟩)
    (c25:W.codeIn K cd25 "elder_and_fields"=true) (k25:W.keepIn K (.ref f25)=true)
    (a26:W.nsIn K mainGlobals "kind_table"=some (some (.ref f26)))
    (l26:K.lookup f26=some ⟨oc26,od26,.func (W.fnOf "kind_table" "kind_table" (defArgs s_kind_table) (defBody s_kind_table) (defScope s_kind_table) .none kV26 dc26 pm26 an26 cd26 ct26),sl26⟩)
    (c26:W.codeIn K cd26 "kind_table"=true) (k26:W.keepIn K (.ref f26)=true)
    (a27:W.nsIn K mainGlobals "kind_names"=some (some (.ref f27)))
    (l27:K.lookup f27=some ⟨oc27,od27,.func (W.fnOf "kind_names" "kind_names" (defArgs s_kind_names) (defBody s_kind_names) (defScope s_kind_names) .none kV27 dc27 pm27 an27 cd27 ct27),sl27⟩)
    (c27:W.codeIn K cd27 "kind_names"=true) (k27:W.keepIn K (.ref f27)=true)
    (a28:W.nsIn K mainGlobals "_law_text"=some (some (.ref f28)))
    (l28:K.lookup f28=some ⟨oc28,od28,.func (W.fnOf "_law_text" "_law_text" (defArgs s_law_text) (defBody s_law_text) (defScope s_law_text) .none kV28 dc28 pm28 an28 cd28 ct28),sl28⟩)
    (c28:W.codeIn K cd28 "_law_text"=true) (k28:W.keepIn K (.ref f28)=true)
    (a29:W.nsIn K mainGlobals "kind_and_elders"=some (some (.ref f29)))
    (l29:K.lookup f29=some ⟨oc29,od29,.func (W.fnOf "kind_and_elders" "kind_and_elders" (defArgs s_kind_and_elders) (defBody s_kind_and_elders) (defScope s_kind_and_elders) .none kV29 dc29 pm29 an29 cd29 ct29),sl29⟩)
    (c29:W.codeIn K cd29 "kind_and_elders"=true) (k29:W.keepIn K (.ref f29)=true)
    (a30:W.nsIn K mainGlobals "fields_by"=some (some (.ref f30)))
    (l30:K.lookup f30=some ⟨oc30,od30,.func (W.fnOf "fields_by" "fields_by" (defArgs s_fields_by) (defBody s_fields_by) (defScope s_fields_by) .none kV30 dc30 pm30 an30 cd30 ct30),sl30⟩)
    (c30:W.codeIn K cd30 "fields_by"=true) (k30:W.keepIn K (.ref f30)=true)
    (a31:W.nsIn K mainGlobals "fields_of"=some (some (.ref f31)))
    (l31:K.lookup f31=some ⟨oc31,od31,.func (W.fnOf "fields_of" "fields_of" (defArgs s_fields_of) (defBody s_fields_of) (defScope s_fields_of) .none kV31 dc31 pm31 an31 cd31 ct31),sl31⟩)
    (c31:W.codeIn K cd31 "fields_of"=true) (k31:W.keepIn K (.ref f31)=true)
    (a32:W.nsIn K mainGlobals "elder_of"=some (some (.ref f32)))
    (l32:K.lookup f32=some ⟨oc32,od32,.func (W.fnOf "elder_of" "elder_of" (defArgs s_elder_of) (defBody s_elder_of) (defScope s_elder_of) .none kV32 dc32 pm32 an32 cd32 ct32),sl32⟩)
    (c32:W.codeIn K cd32 "elder_of"=true) (k32:W.keepIn K (.ref f32)=true)
    (a33:W.nsIn K mainGlobals "found_by"=some (some (.ref f33)))
    (l33:K.lookup f33=some ⟨oc33,od33,.func (W.fnOf "found_by" "found_by" (defArgs s_found_by) (defBody s_found_by) (defScope s_found_by) .none kV33 dc33 pm33 an33 cd33 ct33),sl33⟩)
    (c33:W.codeIn K cd33 "found_by"=true) (k33:W.keepIn K (.ref f33)=true)
    (a34:W.nsIn K mainGlobals "finds"=some (some (.ref f34)))
    (l34:K.lookup f34=some ⟨oc34,od34,.func (W.fnOf "finds" "finds" (defArgs s_finds) (defBody s_finds) (defScope s_finds) .none kV34 dc34 pm34 an34 cd34 ct34),sl34⟩)
    (c34:W.codeIn K cd34 "finds"=true) (k34:W.keepIn K (.ref f34)=true)
    (a35:W.nsIn K mainGlobals "_law_finds"=some (some (.ref f35)))
    (l35:K.lookup f35=some ⟨oc35,od35,.func (W.fnOf "_law_finds" "_law_finds" (defArgs s_law_finds) (defBody s_law_finds) (defScope s_law_finds) .none kV35 dc35 pm35 an35 cd35 ct35),sl35⟩)
    (c35:W.codeIn K cd35 "_law_finds"=true) (k35:W.keepIn K (.ref f35)=true)
    (a36:W.nsIn K mainGlobals "_law_right"=some (some (.ref f36)))
    (l36:K.lookup f36=some ⟨oc36,od36,.func (W.fnOf "_law_right" "_law_right" (defArgs s_law_right) (defBody s_law_right) (defScope s_law_right) .none kV36 dc36 pm36 an36 cd36 ct36),sl36⟩)
    (c36:W.codeIn K cd36 "_law_right"=true) (k36:W.keepIn K (.ref f36)=true)
    (a37:W.nsIn K mainGlobals "law"=some (some (.ref f37)))
    (l37:K.lookup f37=some ⟨oc37,od37,.func (W.fnOf "law" "law" (defArgs s_law) (defBody s_law) (defScope s_law) .none kV37 dc37 pm37 an37 cd37 ct37),sl37⟩)
    (c37:W.codeIn K cd37 "law"=true) (k37:W.keepIn K (.ref f37)=true)
    (z0:W.nsIn K mainGlobals "all"=some none)
    (z1:W.nsIn K mainGlobals "enumerate"=some none)
    (z2:W.nsIn K mainGlobals "int"=some none)
    (z3:W.nsIn K mainGlobals "isinstance"=some none)
    (z4:W.nsIn K mainGlobals "len"=some none)
    (z5:W.nsIn K mainGlobals "list"=some none)
    (z6:W.nsIn K mainGlobals "max"=some none)
    (z7:W.nsIn K mainGlobals "min"=some none)
    (z8:W.nsIn K mainGlobals "range"=some none)
    (z9:W.nsIn K mainGlobals "reversed"=some none)
    (z10:W.nsIn K mainGlobals "set"=some none) :
    ∃ fd:FuncData,(∀ (s:Shared) (v:Value),BindsTo s fd ⟨[v],[]⟩ [("_law_script",v)])∧∀ base:Heap,K.In base→base.Ns mainGlobals mg→FnOk l.prog w K mg base CX0 7 fa fd ["_law_script"] (spD K 1 f_law):=by
  have e:=hfa.symm.trans (W.mg_of X G a37)
  cases e
  have B:Blt mg:=⟨W.mg_none_of X G z0,W.mg_none_of X G z1,W.mg_none_of X G z2,W.mg_none_of X G z3,W.mg_none_of X G z4,W.mg_none_of X G z5,W.mg_none_of X G z6,W.mg_none_of X G z7,W.mg_none_of X G z8,W.mg_none_of X G z9,W.mg_none_of X G z10⟩
  have L_Program:Cls K C_Program:=⟨pg_Program,hd_Program,po_Program,sa_Program⟩
  have L_Reading:Cls K C_Reading:=⟨pg_Reading,hd_Reading,po_Reading,sa_Reading⟩
  have T:Tf l.prog w K mg:=⟨⟨C_Program,a_Program,L_Program,n_Program_body_texts⟩,
    ⟨C_Program,a_Program,L_Program,n_Program_numbered⟩,
    ⟨C_Program,a_Program,L_Program,n_Program_text⟩,
    ⟨C_Reading,a_Reading,L_Reading,n_Reading_blocks⟩,
    ⟨C_Reading,a_Reading,L_Reading,n_Reading_body⟩,
    ⟨C_Reading,a_Reading,L_Reading,n_Reading_fields⟩,
    ⟨C_Reading,a_Reading,L_Reading,n_Reading_heads⟩,
    ⟨C_Reading,a_Reading,L_Reading,n_Reading_later⟩,
    ⟨C_Reading,a_Reading,L_Reading,n_Reading_over⟩⟩
  have F0:=fun_mk (st:=s_law_cell_at) l0 c0 k0
  have F1:=fun_mk (st:=s_law_draw) l1 c1 k1
  have F2:=fun_mk (st:=s_law_elders) l2 c2 k2
  have F3:=fun_mk (st:=s_law_fields) l3 c3 k3
  have F4:=fun_mk (st:=s_law_kinds) l4 c4 k4
  have F5:=fun_mk (st:=s_Reading_init) l5 c5 k5
  have F6:=fun_mk (st:=s_method_body) l6 c6 k6
  have F7:=fun_mk (st:=s_head_body) l7 c7 k7
  have F8:=fun_mk (st:=s_numbered_rows) l8 c8 k8
  have F9:=fun_mk (st:=s_Program_shown) l9 c9 k9
  have F10:=fun_mk (st:=s_rows_of_words) l10 c10 k10
  have F11:=fun_mk (st:=s_body_heads) l11 c11 k11
  have F12:=fun_mk (st:=s_Program_init) l12 c12 k12
  have F13:=fun_mk (st:=s_close_block) l13 c13 k13
  have F14:=fun_mk (st:=s_reads_within) l14 c14 k14
  have F15:=fun_mk (st:=s_are_once) l15 c15 k15
  have F16:=fun_mk (st:=s_reads_kind) l16 c16 k16
  have F17:=fun_mk (st:=s_head_params) l17 c17 k17
  have F18:=fun_mk (st:=s_head_kept) l18 c18 k18
  have F19:=fun_mk (st:=s_are_heads_names) l19 c19 k19
  have F20:=fun_mk (st:=s_is_head) l20 c20 k20
  have F21:=fun_mk (st:=s_reads_row) l21 c21 k21
  have F22:=fun_mk (st:=s_is_letters) l22 c22 k22
  have F23:=fun_mk (st:=s_is_name) l23 c23 k23
  have F24:=fun_mk (st:=s_read_program) l24 c24 k24
  have F25:=fun_mk (st:=s_elder_and_fields) l25 c25 k25
  have F26:=fun_mk (st:=s_kind_table) l26 c26 k26
  have F27:=fun_mk (st:=s_kind_names) l27 c27 k27
  have F28:=fun_mk (st:=s_law_text) l28 c28 k28
  have F29:=fun_mk (st:=s_kind_and_elders) l29 c29 k29
  have F30:=fun_mk (st:=s_fields_by) l30 c30 k30
  have F31:=fun_mk (st:=s_fields_of) l31 c31 k31
  have F32:=fun_mk (st:=s_elder_of) l32 c32 k32
  have F33:=fun_mk (st:=s_found_by) l33 c33 k33
  have F34:=fun_mk (st:=s_finds) l34 c34 k34
  have F35:=fun_mk (st:=s_law_finds) l35 c35 k35
  have F36:=fun_mk (st:=s_law_right) l36 c36 k36
  have F37:=fun_mk (st:=s_law) l37 c37 k37
  refine ⟨W.fnOf "law" "law" (defArgs s_law) (defBody s_law) (defScope s_law) .none kV37 dc37 pm37 an37 cd37 ct37,fun s v=>.of_eq rfl,fun base _ _=>?_⟩
  have O_law_cell_at:Own l.prog w K mg base "_law_cell_at" 1 2 f_law_cell_at:=⟨f0,_,["_law_script","_law_k"],(fn_law_cell_at (P:=l.prog) (w:=w) (base:=base) F0 B T ),W.mg_of X G a0,k0,(F0.binds fun _ _ _ _ _ _ us hl=>match us,hl with | [_,_],_=>rfl)⟩
  have O_law_draw:Own l.prog w K mg base "_law_draw" 1 2 f_law_draw:=⟨f1,_,["_law_cell","_law_digits"],(fn_law_draw (P:=l.prog) (w:=w) (base:=base) F1 B T ),W.mg_of X G a1,k1,(F1.binds fun _ _ _ _ _ _ us hl=>match us,hl with | [_,_],_=>rfl)⟩
  have O_law_elders:Own l.prog w K mg base "_law_elders" 1 2 f_law_elders:=⟨f2,_,["_law_kinds_here","_law_k"],(fn_law_elders (P:=l.prog) (w:=w) (base:=base) F2 B T ),W.mg_of X G a2,k2,(F2.binds fun _ _ _ _ _ _ us hl=>match us,hl with | [_,_],_=>rfl)⟩
  have O_law_fields:OwnNew l.prog w K mg base "_law_fields" 2 2 f_law_fields:=⟨f3,_,["_law_kinds_here","_law_k"],(fn_law_fields (P:=l.prog) (w:=w) (base:=base) F3 B T O_law_elders),W.mg_of X G a3,k3,(F3.binds fun _ _ _ _ _ _ us hl=>match us,hl with | [_,_],_=>rfl)⟩
  have O_law_kinds:Own l.prog w K mg base "_law_kinds" 3 2 f_law_kinds:=⟨f4,_,["_law_script","_law_digits"],(fn_law_kinds (P:=l.prog) (w:=w) (base:=base) F4 B T O_law_cell_at O_law_draw O_law_fields),W.mg_of X G a4,k4,(F4.binds fun _ _ _ _ _ _ us hl=>match us,hl with | [_,_],_=>rfl)⟩
  have O_Reading_init:OwnCls l.prog w K mg base "Reading" 1 1 f_Reading_init:=⟨C_Reading,f5,_,["self"],a_Reading,W.mg_of X G a_Reading,⟨mk_Reading,a5,i5,kc_Reading⟩,(fn_Reading_init (P:=l.prog) (w:=w) (base:=base) F5 B T ),(F5.binds fun _ _ _ _ _ _ us hl=>match us,hl with | [_],_=>rfl)⟩
  have O_method_body:Own l.prog w K mg base "method_body" 1 2 f_method_body:=⟨f6,_,["kind","method"],(fn_method_body (P:=l.prog) (w:=w) (base:=base) F6 B T ),W.mg_of X G a6,k6,(F6.binds fun _ _ _ _ _ _ us hl=>match us,hl with | [_,_],_=>rfl)⟩
  have O_head_body:Own l.prog w K mg base "head_body" 2 1 f_head_body:=⟨f7,_,["head"],(fn_head_body (P:=l.prog) (w:=w) (base:=base) F7 B T O_method_body),W.mg_of X G a7,k7,(F7.binds fun _ _ _ _ _ _ us hl=>match us,hl with | [_],_=>rfl)⟩
  have O_numbered_rows:Own l.prog w K mg base "numbered_rows" 3 1 f_numbered_rows:=⟨f8,_,["text"],(fn_numbered_rows (P:=l.prog) (w:=w) (base:=base) F8 B T O_head_body),W.mg_of X G a8,k8,(F8.binds fun _ _ _ _ _ _ us hl=>match us,hl with | [_],_=>rfl)⟩
  have O_Program_shown:OwnMeth l.prog w K mg base "Program" "shown" 1 1 f_Program_shown:=⟨C_Program,f9,_,["self"],a_Program,L_Program,⟨a9,i9,k9⟩,(fn_Program_shown (P:=l.prog) (w:=w) (base:=base) F9 B T ),(F9.binds fun _ _ _ _ _ _ us hl=>match us,hl with | [_],_=>rfl)⟩
  have O_rows_of_words:Own l.prog w K mg base "rows_of_words" 2 1 f_rows_of_words:=⟨f10,_,["program"],(fn_rows_of_words (P:=l.prog) (w:=w) (base:=base) F10 B T O_Program_shown),W.mg_of X G a10,k10,(F10.binds fun _ _ _ _ _ _ us hl=>match us,hl with | [_],_=>rfl)⟩
  have O_body_heads:Own l.prog w K mg base "body_heads" 3 1 f_body_heads:=⟨f11,_,["program"],(fn_body_heads (P:=l.prog) (w:=w) (base:=base) F11 B T O_head_body O_rows_of_words),W.mg_of X G a11,k11,(F11.binds fun _ _ _ _ _ _ us hl=>match us,hl with | [_],_=>rfl)⟩
  have O_Program_init:OwnCls l.prog w K mg base "Program" 4 2 f_Program_init:=⟨C_Program,f12,_,["self","text"],a_Program,W.mg_of X G a_Program,⟨mk_Program,a12,i12,kc_Program⟩,(fn_Program_init (P:=l.prog) (w:=w) (base:=base) F12 B T O_body_heads O_numbered_rows),(F12.binds fun _ _ _ _ _ _ us hl=>match us,hl with | [_,_],_=>rfl)⟩
  have O_close_block:OwnIo l.prog w K mg base "close_block" 1 1 f_close_block:=⟨f13,_,["reading"],(fn_close_block (P:=l.prog) (w:=w) (base:=base) F13 B T ),W.mg_of X G a13,k13,(F13.binds fun _ _ _ _ _ _ us hl=>match us,hl with | [_],_=>rfl)⟩
  have O_reads_within:OwnIo l.prog w K mg base "reads_within" 2 3 f_reads_within:=⟨f14,_,["reading","line","words"],(fn_reads_within (P:=l.prog) (w:=w) (base:=base) F14 B T O_close_block),W.mg_of X G a14,k14,(F14.binds fun _ _ _ _ _ _ us hl=>match us,hl with | [_,_,_],_=>rfl)⟩
  have O_are_once:Own l.prog w K mg base "are_once" 1 1 f_are_once:=⟨f15,_,["names"],(fn_are_once (P:=l.prog) (w:=w) (base:=base) F15 B T ),W.mg_of X G a15,k15,(F15.binds fun _ _ _ _ _ _ us hl=>match us,hl with | [_],_=>rfl)⟩
  have O_reads_kind:OwnIo l.prog w K mg base "reads_kind" 2 2 f_reads_kind:=⟨f16,_,["reading","words"],(fn_reads_kind (P:=l.prog) (w:=w) (base:=base) F16 B T O_are_once),W.mg_of X G a16,k16,(F16.binds fun _ _ _ _ _ _ us hl=>match us,hl with | [_,_],_=>rfl)⟩
  have O_head_params:OwnNew l.prog w K mg base "head_params" 1 1 f_head_params:=⟨f17,_,["head"],(fn_head_params (P:=l.prog) (w:=w) (base:=base) F17 B T ),W.mg_of X G a17,k17,(F17.binds fun _ _ _ _ _ _ us hl=>match us,hl with | [_],_=>rfl)⟩
  have O_head_kept:OwnNew l.prog w K mg base "head_kept" 1 1 f_head_kept:=⟨f18,_,["head"],(fn_head_kept (P:=l.prog) (w:=w) (base:=base) F18 B T ),W.mg_of X G a18,k18,(F18.binds fun _ _ _ _ _ _ us hl=>match us,hl with | [_],_=>rfl)⟩
  have O_are_heads_names:Own l.prog w K mg base "are_heads_names" 2 1 f_are_heads_names:=⟨f19,_,["words"],(fn_are_heads_names (P:=l.prog) (w:=w) (base:=base) F19 B T O_are_once O_head_kept O_head_params),W.mg_of X G a19,k19,(F19.binds fun _ _ _ _ _ _ us hl=>match us,hl with | [_],_=>rfl)⟩
  have O_is_head:Own l.prog w K mg base "is_head" 3 2 f_is_head:=⟨f20,_,["reading","words"],(fn_is_head (P:=l.prog) (w:=w) (base:=base) F20 B T O_are_heads_names),W.mg_of X G a20,k20,(F20.binds fun _ _ _ _ _ _ us hl=>match us,hl with | [_,_],_=>rfl)⟩
  have O_reads_row:OwnIo l.prog w K mg base "reads_row" 4 3 f_reads_row:=⟨f21,_,["reading","line","words"],(fn_reads_row (P:=l.prog) (w:=w) (base:=base) F21 B T O_head_body O_is_head O_reads_kind O_reads_within),W.mg_of X G a21,k21,(F21.binds fun _ _ _ _ _ _ us hl=>match us,hl with | [_,_,_],_=>rfl)⟩
  have O_is_letters:Own l.prog w K mg base "is_letters" 1 1 f_is_letters:=⟨f22,_,["word"],(fn_is_letters (P:=l.prog) (w:=w) (base:=base) F22 B T ),W.mg_of X G a22,k22,(F22.binds fun _ _ _ _ _ _ us hl=>match us,hl with | [_],_=>rfl)⟩
  have O_is_name:Own l.prog w K mg base "is_name" 2 1 f_is_name:=⟨f23,_,["word"],(fn_is_name (P:=l.prog) (w:=w) (base:=base) F23 B T O_is_letters),W.mg_of X G a23,k23,(F23.binds fun _ _ _ _ _ _ us hl=>match us,hl with | [_],_=>rfl)⟩
  have O_read_program:Own l.prog w K mg base "read_program" 6 1 f_read_program:=⟨f24,_,["text"],(fn_read_program (P:=l.prog) (w:=w) (base:=base) F24 B T O_Program_init O_Reading_init O_is_name O_reads_row),W.mg_of X G a24,k24,(F24.binds fun _ _ _ _ _ _ us hl=>match us,hl with | [_],_=>rfl)⟩
  have O_elder_and_fields:Own l.prog w K mg base "elder_and_fields" 1 1 f_elder_and_fields:=⟨f25,_,["words"],(fn_elder_and_fields (P:=l.prog) (w:=w) (base:=base) F25 B T ),W.mg_of X G a25,k25,(F25.binds fun _ _ _ _ _ _ us hl=>match us,hl with | [_],_=>rfl)⟩
  have O_kind_table:Own l.prog w K mg base "kind_table" 3 1 f_kind_table:=⟨f26,_,["program"],(fn_kind_table (P:=l.prog) (w:=w) (base:=base) F26 B T O_elder_and_fields O_rows_of_words),W.mg_of X G a26,k26,(F26.binds fun _ _ _ _ _ _ us hl=>match us,hl with | [_],_=>rfl)⟩
  have O_kind_names:OwnNew l.prog w K mg base "kind_names" 4 1 f_kind_names:=⟨f27,_,["program"],(fn_kind_names (P:=l.prog) (w:=w) (base:=base) F27 B T O_kind_table),W.mg_of X G a27,k27,(F27.binds fun _ _ _ _ _ _ us hl=>match us,hl with | [_],_=>rfl)⟩
  have O_law_text:Own l.prog w K mg base "_law_text" 1 2 f_law_text:=⟨f28,_,["_law_kinds_here","_law_turn"],(fn_law_text (P:=l.prog) (w:=w) (base:=base) F28 B T ),W.mg_of X G a28,k28,(F28.binds fun _ _ _ _ _ _ us hl=>match us,hl with | [_,_],_=>rfl)⟩
  have O_kind_and_elders:Own l.prog w K mg base "kind_and_elders" 1 2 f_kind_and_elders:=⟨f29,_,["table","kind"],(fn_kind_and_elders (P:=l.prog) (w:=w) (base:=base) F29 B T ),W.mg_of X G a29,k29,(F29.binds fun _ _ _ _ _ _ us hl=>match us,hl with | [_,_],_=>rfl)⟩
  have O_fields_by:OwnNew l.prog w K mg base "fields_by" 2 2 f_fields_by:=⟨f30,_,["table","kind"],(fn_fields_by (P:=l.prog) (w:=w) (base:=base) F30 B T O_kind_and_elders),W.mg_of X G a30,k30,(F30.binds fun _ _ _ _ _ _ us hl=>match us,hl with | [_,_],_=>rfl)⟩
  have O_fields_of:OwnNew l.prog w K mg base "fields_of" 4 2 f_fields_of:=⟨f31,_,["program","kind"],(fn_fields_of (P:=l.prog) (w:=w) (base:=base) F31 B T O_fields_by O_kind_table),W.mg_of X G a31,k31,(F31.binds fun _ _ _ _ _ _ us hl=>match us,hl with | [_,_],_=>rfl)⟩
  have O_elder_of:Own l.prog w K mg base "elder_of" 4 2 f_elder_of:=⟨f32,_,["program","kind"],(fn_elder_of (P:=l.prog) (w:=w) (base:=base) F32 B T O_kind_table),W.mg_of X G a32,k32,(F32.binds fun _ _ _ _ _ _ us hl=>match us,hl with | [_,_],_=>rfl)⟩
  have O_found_by:Own l.prog w K mg base "found_by" 2 4 f_found_by:=⟨f33,_,["table","heads","kind","method"],(fn_found_by (P:=l.prog) (w:=w) (base:=base) F33 B T O_kind_and_elders O_method_body),W.mg_of X G a33,k33,(F33.binds fun _ _ _ _ _ _ us hl=>match us,hl with | [_,_,_,_],_=>rfl)⟩
  have O_finds:Own l.prog w K mg base "finds" 4 3 f_finds:=⟨f34,_,["program","kind","method"],(fn_finds (P:=l.prog) (w:=w) (base:=base) F34 B T O_body_heads O_found_by O_kind_table),W.mg_of X G a34,k34,(F34.binds fun _ _ _ _ _ _ us hl=>match us,hl with | [_,_,_],_=>rfl)⟩
  have O_law_finds:Own l.prog w K mg base "_law_finds" 2 3 f_law_finds:=⟨f35,_,["_law_kinds_here","_law_k","_law_method"],(fn_law_finds (P:=l.prog) (w:=w) (base:=base) F35 B T O_law_elders),W.mg_of X G a35,k35,(F35.binds fun _ _ _ _ _ _ us hl=>match us,hl with | [_,_,_],_=>rfl)⟩
  have O_law_right:Own l.prog w K mg base "_law_right" 5 3 f_law_right:=⟨f36,_,["_law_program","_law_kinds_here","_law_k"],(fn_law_right (P:=l.prog) (w:=w) (base:=base) F36 B T O_law_fields O_law_finds O_elder_of O_fields_of O_finds),W.mg_of X G a36,k36,(F36.binds fun _ _ _ _ _ _ us hl=>match us,hl with | [_,_,_],_=>rfl)⟩
  exact fn_law F37 B T O_law_cell_at O_law_kinds O_law_right O_law_text O_kind_names O_read_program
open PySem L2 PySem.StrLaws PySem.Builtin PySem.Builtin.Str
open PySem
theorem e_var (i:Nat) (ρ:Rho):dVar i ρ=(ρ[i]?).join:=rfl
theorem e_c (d:PyData) (ρ:Rho):dC d ρ=some d:=rfl
theorem e_d2 (o:PyData→PyData→Option PyData) (f g:Rho→Option PyData) (ρ:Rho):d2 o f g ρ=(f ρ).bind fun x=>(g ρ).bind fun y=>o x y:=rfl
theorem e_fn (n:Nat) (f:List PyData→Option PyData) (ff:Rho→Option (List PyData)) (ρ:Rho):dFn n f ff ρ=(ff ρ).bind fun ds=>if ds.length=n then f ds else none:=rfl
theorem e_call (f:List PyData→Option PyData) (ff:Rho→Option (List PyData)) (ρ:Rho):dCall f ff ρ=(ff ρ).bind f:=rfl
theorem e_anil  (ρ:Rho):aNil ρ=some []:=rfl
theorem e_acons (f:Rho→Option PyData) (ff:Rho→Option (List PyData)) (ρ:Rho):aCons f ff ρ=(f ρ).bind fun x=>(ff ρ).bind fun xs=>some (x :: xs):=rfl
theorem e_tup (ff:Rho→Option (List PyData)) (ρ:Rho):dTup ff ρ=(ff ρ).bind fun xs=>if xs.length ≤ sizeLine then some (.tuple xs) else none:=rfl
theorem e_lst (ff:Rho→Option (List PyData)) (ρ:Rho):dLst ff ρ=(ff ρ).bind fun xs=>if xs.length ≤ sizeLine then some (.list xs) else none:=rfl
theorem e_slice (f:Rho→Option PyData) (l h:FO) (ρ:Rho):dSlice f l h ρ=(f ρ).bind fun x=>(l ρ).bind fun lo=>(h ρ).bind fun hi=>dSl x lo hi:=rfl
theorem e_osome (f:Rho→Option PyData) (ρ:Rho):oSome f ρ=(f ρ).bind fun d=>match d with | .int i=>some (some i) | _=>none:=rfl
theorem e_onone  (ρ:Rho):oNone ρ=some none:=rfl
theorem e_sliceL (f:Rho→Option PyData) (l h:FO) (ρ:Rho):dSliceL f l h ρ=(f ρ).bind fun x=>(l ρ).bind fun lo=>(h ρ).bind fun hi=>match x with | .list xs=>some (.list (cutL xs lo hi)) | _=>none:=rfl
theorem e_mt (o:PyData→List PyData→Option PyData) (f:Rho→Option PyData) (ff:Rho→Option (List PyData)) (ρ:Rho):dMt o f ff ρ=(f ρ).bind fun d=>(ff ρ).bind fun ds=>match d with | .str z=>o (.str z) ds | _=>none:=rfl
theorem e_mtl (o:PyData→List PyData→Option PyData) (f:Rho→Option PyData) (ff:Rho→Option (List PyData)) (ρ:Rho):dMtL o f ff ρ=(f ρ).bind fun d=>(ff ρ).bind fun ds=>match d with | .list z=>o (.list z) ds | _=>none:=rfl
theorem e_fld (cs:List Str) (n:Str) (f:Rho→Option PyData) (ρ:Rho):dFld cs n f ρ=(f ρ).bind (dFldD cs n):=rfl
theorem e_comp (q:Rho→Option (List PyData)) (caps:List (Nat × Str)) (g:Rho→Option Bool) (f:Rho→Option PyData) (ρ:Rho):dComp q caps g f ρ=(q ρ).bind fun ds=>if ds.length ≤ sizeLine then (compD g f (capD caps ρ) ds).map .list else none:=rfl
theorem e_seqi (f:Rho→Option PyData) (ρ:Rho):qSeq f ρ=(f ρ).bind fun d=>match d with | .list ds=>some ds | .tuple ds=>some ds | _=>none:=rfl
theorem e_seqa (f:Rho→Option PyData) (ρ:Rho):qSeqA f ρ=(f ρ).bind fun d=>match d with | .list ds=>some ds | .tuple ds=>some ds | .str x=>some (signsD x) | _=>none:=rfl
theorem e_ret (f:Rho→Option PyData) (ρ:Rho):sRet f ρ=(f ρ).map .rt:=rfl
theorem e_setv (f:Rho→Option PyData) (i:Nat) (ρ:Rho):sSetV f i ρ=(f ρ).map fun d=>.nx (ρ.set i (some d)):=rfl
theorem e_newf (f:Rho→Option PyData) (i:Nat) (ρ:Rho):sNewF f i ρ=(f ρ).bind fun d=>if i < ρ.length then some (.nx (ρ.set i (some d))) else none:=rfl
theorem e_nil  (ρ:Rho):sNil ρ=some (.nx ρ):=rfl
theorem e_vfr (O:List Nat) (f:Rho→Option PyData) (ρ:Rho):vFr O f ρ=f (eraseO O ρ):=rfl
theorem e_vsc (f:Rho→Option PyData) (ρ:Rho):vSc f ρ=(f ρ).bind fun d=>if scalD d=true then some d else none:=rfl
theorem e_vfl (f:Rho→Option PyData) (ρ:Rho):vFl f ρ=(f ρ).bind fun d=>if flat d=true then some d else none:=rfl
theorem e_qfr (O:List Nat) (f:Rho→Option (List PyData)) (ρ:Rho):qFr O f ρ=f (eraseO O ρ):=rfl
theorem e_fb (f:Rho→Option PyData) (ρ:Rho):fB f ρ=(f ρ).bind fun d=>match d with | .bool b=>some b | _=>none:=rfl
theorem e_fta (f:Rho→Option PyData) (ρ:Rho):fTA f ρ=(f ρ).bind dTruthA:=rfl
theorem e_fnot (f:Rho→Option Bool) (ρ:Rho):fNot f ρ=(f ρ).map (!·):=rfl
theorem e_aug (i:Nat) (o:Int→Int→Int) (f:Rho→Option PyData) (ρ:Rho):sAug i o f ρ=(ρ[i]?).join.bind fun x=>(f ρ).bind fun d=>match x,d with | .int a,.int b=>some (.nx (ρ.set i (some (.int (o a b))))) | _,_=>none:=rfl
theorem e_put (π:Pl) (fk fv:Rho→Option PyData) (ρ:Rho):sPut π fk fv ρ=(getP π ρ).bind fun l=>(fv ρ).bind fun d=>(fk ρ).bind fun kd=>(putC kd d l).map fun l'=>.nx (setP π l' ρ):=rfl
theorem e_app (π:Pl) (f:Rho→Option PyData) (ρ:Rho):sAppend π f ρ=(getP π ρ).bind fun l=>(f ρ).bind fun d=>match l with | .list ds=>if ds.length < sizeLine then some (.nx (setP π (.list (ds++[d])) ρ)) else none | _=>none:=rfl
theorem e_unp (f:Rho→Option PyData) (tg:Tg) (ρ:Rho):sUnpO f tg ρ=(f ρ).bind fun d=>(bdT tg d ρ).map .nx:=rfl
theorem e_for (q:Rho→Option (List PyData)) (tg:Tg) (g:Rho→Option Out) (ρ:Rho):sForO q tg g ρ=(q ρ).bind fun ds=>forD (bdT tg) g ds ρ:=rfl
theorem e_reti (f:Rho→Option PyData) (ρ:Rho):sRetI f ρ=(vSc f ρ).bind fun d=>(ρ[0]?).join.map fun d0=>.rt (.tuple [d,d0]):=rfl
theorem e_fldv (i:Nat) (c n:Str) (f:Rho→Option PyData) (ρ:Rho):sFldV i c n f ρ=(ρ[i]?).join.bind fun x=>(f ρ).bind fun d=>match x with | .dict ((.none,.str c') :: r)=>if c'=c∧ownFld c n=false∧r.length < 1000 then some (.nx (ρ.set i (some (.dict ((.none,.str c) :: setF n d r))))) else none | _=>none:=rfl
theorem e_meth (c mn:Str) (n:Nat) (F:List PyData→Option PyData) (f:Rho→Option PyData) (ff:Rho→Option (List PyData)) (ρ:Rho):dMeth c mn n F f ff ρ=(f ρ).bind fun d=>if dMethD c mn d=true then (ff ρ).bind fun ds=>if ds.length + 1=n then F (d :: ds) else none else none:=rfl
theorem e_make (c:Str) (n:Nat) (F:List PyData→Option (PyData × PyData)) (ff:Rho→Option (List PyData)) (ρ:Rho):dMake c n F ff ρ=(ff ρ).bind fun ds=>if ds.length + 1=n then (F (.dict [(.none,.str c)] :: ds)).bind fun r=>match r with | (.none,d)=>some d | _=>none else none:=rfl
theorem e_fs (fj:Rho→Option Str) (ρ:Rho):dFs fj ρ=(fj ρ).bind fun z=>if z.length ≤ sizeLine then some (.str z) else none:=rfl
theorem e_jc (f:Rho→Option PyData) (fj:Rho→Option Str) (ρ:Rho):jCons f fj ρ=(f ρ).bind fun d=>(fj ρ).bind fun z=>match d with | .str y=>some (y++z) | _=>none:=rfl
theorem e_fv (f:Rho→Option PyData) (ρ:Rho):dFv f ρ=(f ρ).bind fun d=>match d with | .str x=>if x.length ≤ sizeLine then some (.str x) else none | _=>none:=rfl
theorem e_hcall (O:List Nat) (i n:Nat) (F:List PyData→Option (PyData × PyData)) (ff:Rho→Option (List PyData)) (ρ:Rho):hCall O i n F ff ρ=(ρ[i]?).join.bind fun d0=>(ff (eraseO O ρ)).bind fun ds=>if ds.length + 1=n then (F (d0 :: ds)).bind fun r=>if scalD r.1=true then some (r.1,ρ.set i (some r.2)) else none else none:=rfl
theorem e_retx (h:Rho→Option (PyData × Rho)) (ρ:Rho):sRetX h ρ=(h ρ).bind fun r=>(r.2[0]?).join.map fun d0=>.rt (.tuple [r.1,d0]):=rfl
theorem e_ht (h:Rho→Option (PyData × Rho)) (ρ:Rho):hT h ρ=(h ρ).bind fun r=>match r with | (.bool b,ρ')=>some (b,ρ') | _=>none:=rfl
theorem e_hnot (h:Rho→Option (Bool × Rho)) (ρ:Rho):hNot h ρ=(h ρ).map fun r=>(!r.1,r.2):=rfl
theorem e_never  (ρ:Rho):sNever ρ=none:=rfl
theorem e_ist (T:String) (f:Rho→Option PyData) (ρ:Rho):dIsT T f ρ=(f ρ).bind fun d=>if isDct d then none else some (.bool (tyD d == T || (tyD d == "bool" && T == "int"))):=rfl
theorem e_r1 (f:Rho→Option PyData) (ρ:Rho):qRange1 f ρ=(f ρ).bind fun d=>match d with | .int j=>if -(2 ^ 62) ≤ j∧j < 2 ^ 62 then some (intsD 0 j.toNat) else none | _=>none:=rfl
theorem e_enum (f:Rho→Option PyData) (ρ:Rho):qEnum f ρ=(f ρ).bind fun d=>match d with | .list ds=>some (enumD ds) | _=>none:=rfl
theorem e_rev (f:Rho→Option PyData) (ρ:Rho):dRev f ρ=(f ρ).bind fun d=>match d with | .list xs=>some (.list xs.reverse) | _=>none:=rfl
theorem e_qrev (f:Rho→Option PyData) (ρ:Rho):qRev f ρ=(f ρ).bind fun d=>match d with | .list ds=>some ds.reverse | _=>none:=rfl
theorem e_ext (π:Pl) (f:Rho→Option PyData) (ρ:Rho):sExtend π f ρ=(getP π ρ).bind fun l=>(f ρ).bind fun d=>match l,d with | .list ds,.list es=>if ds.length + es.length ≤ sizeLine then some (.nx (setP π (.list (ds++es)) ρ)) else none | _,_=>none:=rfl
theorem e_clear (π:Pl) (ρ:Rho):sClear π ρ=(getP π ρ).bind fun l=>match l with | .list _=>some (.nx (setP π (.list []) ρ)) | _=>none:=rfl
def nxt (h:Rho→Option Out):Option Out→Option Out
  | some (.nx ρ)=>h ρ
  | o=>o
theorem e_seq (g h:Rho→Option Out) (ρ:Rho):sSeq g h ρ=nxt h (g ρ):=by
  unfold sSeq nxt
  cases g ρ with
  | none=>rfl
  | some o=>cases o <;> rfl
theorem nxt_nx (h:Rho→Option Out) (ρ:Rho):nxt h (some (.nx ρ))=h ρ:=rfl
theorem nxt_rt (h:Rho→Option Out) (d:PyData):nxt h (some (.rt d))=some (.rt d):=rfl
def brB {α:Type} (c:Option Bool) (g h:Rho→Option α) (ρ:Rho):Option α:=match c with
  | some true=>g ρ
  | some false=>h ρ
  | none=>none
theorem br_t {α:Type} (g h:Rho→Option α) (ρ:Rho):brB (some true) g h ρ=g ρ:=rfl
theorem br_f {α:Type} (g h:Rho→Option α) (ρ:Rho):brB (some false) g h ρ=h ρ:=rfl
theorem e_if (c:Rho→Option Bool) (g h:Rho→Option Out) (ρ:Rho):sIf c g h ρ=brB (c ρ) g h ρ:=by
  unfold sIf brB
  rcases c ρ with _ | _ | _ <;> rfl
theorem e_and (f g:Rho→Option Bool) (ρ:Rho):fAnd f g ρ=brB (f ρ) g (fun _=>some false) ρ:=by
  unfold fAnd brB
  rcases f ρ with _ | _ | _ <;> rfl
theorem e_or (f g:Rho→Option Bool) (ρ:Rho):fOr f g ρ=brB (f ρ) (fun _=>some true) g ρ:=by
  unfold fOr brB
  rcases f ρ with _ | _ | _ <;> rfl
theorem e_andv (f g:Rho→Option PyData) (ρ:Rho):dAndV f g ρ=brB ((f ρ).bind asB) g (fun _=>some (.bool false)) ρ:=by
  unfold dAndV brB
  rcases f ρ with _ | d
  · rfl
  · simp only [Option.bind_some]
    rcases asB d with _ | _ | _ <;> rfl
theorem asB_b (b:Bool):asB (.bool b)=some b:=rfl
def outD:Option Out→Option PyData
  | some (.rt d)=>some d
  | some (.nx _)=>some .none
  | _=>none
theorem e_run (N:List Str) (g:Rho→Option Out) (ds:List PyData):runD N g ds=outD (g (startD N ds)):=by
  unfold runD outD
  cases g (startD N ds) with
  | none=>rfl
  | some o=>cases o <;> rfl
theorem outD_rt (d:PyData):outD (some (.rt d))=some d:=rfl
theorem outD_nx (ρ:Rho):outD (some (.nx ρ))=some .none:=rfl
def outF:Option Out→Option PyData
  | some (.rt d)=>some d
  | _=>none
theorem e_runF (N:List Str) (g:Rho→Option Out) (ds:List PyData):runF N g ds=outF (g (startD N ds)):=by
  unfold runF outF
  cases g (startD N ds) with
  | none=>rfl
  | some o=>cases o <;> rfl
theorem outF_rt (d:PyData):outF (some (.rt d))=some d:=rfl
def outI:Option Out→Option (PyData × PyData)
  | some (.rt (.tuple [d,d0]))=>some (d,d0)
  | some (.nx ρ)=>(ρ[0]?).join.map fun d0=>(.none,d0)
  | _=>none
theorem e_runI (N:List Str) (g:Rho→Option Out) (ds:List PyData):runIO N g ds=outI (g (startD N ds)):=by
  unfold runIO
  cases g (startD N ds) with
  | none=>rfl
  | some o=>cases o <;> first | rfl | (rename_i d; cases d <;> first | rfl | (rename_i l; rcases l with _ | ⟨a,_ | ⟨b,_ | ⟨c,l⟩⟩⟩ <;> rfl))
theorem outI_rt (a b:PyData):outI (some (.rt (.tuple [a,b])))=some (a,b):=rfl
theorem outI_nx (ρ:Rho):outI (some (.nx ρ))=(ρ[0]?).join.map fun d0=>(.none,d0):=rfl
theorem e_start (N:List Str) (ds:List PyData):startD N ds=ds.map some++List.replicate (N.length - ds.length) none:=rfl
theorem er0 (ρ:Rho):eraseO [] ρ=ρ:=rfl
theorem er1 (i:Nat) (O:List Nat) (ρ:Rho):eraseO (i :: O) ρ=(eraseO O ρ).set i none:=rfl
theorem gp_sl (i:Nat) (ρ:Rho):getP (.sl i) ρ=(ρ[i]?).join:=rfl
theorem sp_sl (i:Nat) (d:PyData) (ρ:Rho):setP (.sl i) d ρ=ρ.set i (some d):=rfl
theorem sizeLine_eq:sizeLine=16777216:=by decide
local macro_rules
  | `(tactic| simp? only [$a,*]) => `(tactic| simp only [$a,*, e_var, e_c, e_d2, e_fn, e_call, e_anil, e_acons, e_tup, e_lst, e_slice, e_osome, e_onone, e_sliceL, e_mt, e_mtl, e_fld, e_comp, e_seqi, e_seqa, e_ret, e_setv, e_newf, e_nil, e_vfr, e_vsc, e_vfl, e_qfr, e_fb, e_fta, e_fnot, e_aug, e_app, e_unp, e_for, e_reti, e_meth, e_make, e_fs, e_jc, e_fv, e_hcall, e_retx, e_ht, e_hnot, e_never, e_ist, e_enum, e_rev, e_qrev, e_ext, e_clear, e_seq, nxt_nx, nxt_rt, br_t, br_f, e_if, e_and, e_or, e_andv, asB_b, e_run, outD_rt, outD_nx, e_runF, outF_rt, e_runI, outI_rt, outI_nx, e_start, er0, er1, gp_sl, sp_sl, sizeLine_eq, List.map_cons, List.map_nil, List.length_cons, List.length_nil, List.cons_append, List.nil_append, List.getElem?_cons_zero, List.getElem?_cons_succ, List.getElem?_nil, Option.join_some, Option.join_none, Option.bind_some, Option.bind_none, Option.map_some, Option.map_none, List.set_cons_zero, List.set_cons_succ, List.replicate_zero, List.replicate_succ, Nat.reduceAdd, Nat.reduceSub, Nat.reduceLeDiff, Nat.reduceLT, Nat.reduceEqDiff, Nat.zero_add, ↓reduceIte, if_true, if_false, Bool.not_true, Bool.not_false, reduceCtorEq, and_self, and_true, true_and, Nat.zero_le])
theorem lit_nl:Str.ofString "\n"=⟨#[10]⟩:=by decide +kernel
theorem lit_sp:Str.ofString " "=⟨#[32]⟩:=by decide +kernel
theorem lit_dot:Str.ofString "."=⟨#[46]⟩:=by decide +kernel
theorem app_cut {c:Nat}:∀ (l1 l2 r1 r2:List Nat),c ∉ l1→c ∉ l2→l1++c :: r1=l2++c :: r2→l1=l2∧r1=r2
  | [],[],_,_,_,_,h=>by simp at h; exact ⟨rfl,h⟩
  | [],a :: l2,_,_,_,h2,h=>by simp at h; exact absurd h.1 (by intro e; subst e; simp at h2)
  | a :: l1,[],_,_,h1,_,h=>by simp at h; exact absurd h.1 (by intro e; subst e; simp at h1)
  | a :: l1,b :: l2,r1,r2,h1,h2,h=>by
    simp only [List.cons_append,List.cons.injEq] at h
    simp only [List.mem_cons,not_or] at h1 h2
    obtain ⟨e1,e2⟩:=app_cut l1 l2 r1 r2 h1.2 h2.2 h.2
    exact ⟨by rw [h.1,e1],e2⟩
theorem app_no {c:Nat} (l1 l2 r2:List Nat) (h1:c ∉ l1) (h:l1=l2++c :: r2):False:=h1 (by rw [h]; simp)
theorem join_list (c:Nat) (a b:Str) (r:List Str):(Str.join ⟨#[c]⟩ (a :: b :: r)).cps.toList=a.cps.toList++c :: (Str.join ⟨#[c]⟩ (b :: r)).cps.toList:=by
  show (a++(⟨#[c]⟩:Str)++Str.join ⟨#[c]⟩ (b :: r)).cps.toList=_
  simp [Str.cps_append]
theorem join_inj (c:Nat):∀ (as bs:List Str),as ≠ []→bs ≠ []→(∀ p∈as,c ∉ p.cps.toList)→(∀ p∈bs,c ∉ p.cps.toList)→Str.join ⟨#[c]⟩ as=Str.join ⟨#[c]⟩ bs→as=bs
  | [],_,h,_,_,_,_=>absurd rfl h
  | _ :: _,[],_,h,_,_,_=>absurd rfl h
  | [a],[b],_,_,_,_,h=>by
    have:a=b:=h
    rw [this]
  | [a],b :: b2 :: r,_,_,h1,_,h=>by
    have e:=congrArg (fun z:Str=>z.cps.toList) h
    simp only [join_list] at e
    exact (app_no _ _ _ (h1 a (by simp)) e).elim
  | a :: a2 :: r,[b],_,_,_,h2,h=>by
    have e:=congrArg (fun z:Str=>z.cps.toList) h
    simp only [join_list] at e
    exact (app_no _ _ _ (h2 b (by simp)) e.symm).elim
  | a :: a2 :: r,b :: b2 :: t,_,_,h1,h2,h=>by
    have e:=congrArg (fun z:Str=>z.cps.toList) h
    simp only [join_list] at e
    obtain ⟨e1,e2⟩:=app_cut _ _ _ _ (h1 a (by simp)) (h2 b (by simp)) e
    have ea:a=b:=Str.ext' (Array.toList_inj.mp e1)
    have er:=join_inj c (a2 :: r) (b2 :: t) (by simp) (by simp) (fun p hp=>h1 p (by simp [hp])) (fun p hp=>h2 p (by simp [hp])) (Str.ext' (Array.toList_inj.mp e2))
    rw [ea,er]
theorem split_ne (x y:Str):Txt.split x y ≠ []:=by
  unfold Txt.split
  split
  · simp
  · split
    · simp
    · rw [partsBetween_eq]
      obtain ⟨p,r,e⟩:=partsFrom_ne x y.length 0 (occurrences x y 0 x.length (x.length + 1))
      rw [e]; simp
theorem split_join (c:Nat) (ps:List Str) (h0:ps ≠ []) (h:∀ p∈ps,c ∉ p.cps.toList):Txt.split (Str.join ⟨#[c]⟩ ps) ⟨#[c]⟩=ps :=
  join_inj c _ _ (split_ne _ _) h0 (fun p hp=>split_free _ c p hp) h (join_split _ _)
theorem partsFrom_len (x:Str) (w:Nat):∀ (cuts:List Nat) (a:Nat),(partsFrom x w a cuts).length=cuts.length + 1
  | [],_=>rfl
  | c :: r,a=>by
    show (strSub x a c :: partsFrom x w (c + w) r).length=_
    simp [partsFrom_len x w r]
abbrev wl (ws:List Str):PyData:=.list (ws.map .str)
theorem d_split (c:Nat) (ps:List Str) (h0:ps ≠ []) (h:∀ p∈ps,c ∉ p.cps.toList) (hl:(Str.join ⟨#[c]⟩ ps).length ≤ 1000000) :
    dSplit (.str (Str.join ⟨#[c]⟩ ps)) [.str ⟨#[c]⟩]=some (wl ps):=by
  have h1:=occ_length_le_len (Str.join ⟨#[c]⟩ ps) ⟨#[c]⟩ 0 (Str.join ⟨#[c]⟩ ps).length ((Str.join ⟨#[c]⟩ ps).length + 1)
  show (if _ then _ else none)=_
  rw [if_pos ⟨rfl,by rw [sizeLine_eq]; omega,by rw [partsBetween_eq,partsFrom_len,sizeLine_eq]; omega⟩,split_join c ps h0 h]
theorem strsOf_map:∀ ps:List Str,strsOf (ps.map .str)=some ps
  | []=>rfl
  | p :: ps=>by show (strsOf (ps.map .str)).map (p :: ·)=_; rw [strsOf_map ps]; rfl
theorem d_join (c:Nat) (ps:List Str) {B:Nat} (hB:∀ y∈ps,y.length ≤ B) (h:ps.length * B + ps.length ≤ 1000000) :
    dJoin (.str ⟨#[c]⟩) [wl ps]=some (.str (Str.join ⟨#[c]⟩ ps)):=by
  show (strsOf (ps.map .str)).bind (fun texts=>if JoinOk ⟨#[c]⟩ texts=true then some (PyData.str (Txt.join ⟨#[c]⟩ texts)) else none)=_
  rw [strsOf_map]
  have:JoinOk ⟨#[c]⟩ ps=true:=by
    unfold JoinOk
    rw [joinFits hB (by show _ + ps.length * 1 ≤ _; omega)]; rfl
  show (if JoinOk ⟨#[c]⟩ ps=true then some (PyData.str (glued ⟨#[c]⟩ ps)) else none)=_
  rw [if_pos this,glued_eq_join]
theorem join_len (c:Nat) (ps:List Str) {B:Nat} (hB:∀ y∈ps,y.length ≤ B):(Str.join ⟨#[c]⟩ ps).length ≤ ps.length * B + ps.length:=by
  have h1:=join_length_le ⟨#[c]⟩ ps
  have h2:=sumLen_le ps hB
  have:(⟨#[c]⟩:Str).length=1:=rfl
  rw [this] at h1
  omega
theorem join_free (c k:Nat) (hk:k ≠ c):∀ ps:List Str,(∀ p∈ps,k ∉ p.cps.toList)→k ∉ (Str.join ⟨#[c]⟩ ps).cps.toList
  | [],_=>by simp [Str.join,Str.empty]
  | [a],h=>h a (by simp)
  | a :: b :: r,h=>by
    rw [join_list]
    have:=join_free c k hk (b :: r) (fun p hp=>h p (by simp [hp]))
    have h1:=h a (by simp)
    simp only [List.mem_append,List.mem_cons,not_or]
    exact ⟨h1,hk,this⟩
def nmB (x:Str):Bool:=decide (1 ≤ x.length) && decide (x.length ≤ 8) && x.cps.toList.all fun c=>decide (97 ≤ c) && decide (c ≤ 122)
theorem nm_iff {x:Str}:nmB x=true ↔ 1 ≤ x.length∧x.length ≤ 8∧∀ c∈x.cps.toList,97 ≤ c∧c ≤ 122:=by
  simp only [nmB,Bool.and_eq_true,decide_eq_true_eq,List.all_eq_true,and_assoc]
theorem nm_free {x:Str} (h:nmB x=true) {c:Nat} (hc:c < 97):c ∉ x.cps.toList:=fun hm=>by
  have:=((nm_iff.mp h).2.2 c hm).1
  omega
theorem nm_ok {x:Str} (h:nmB x=true):PyData.strOk x=true:=by
  unfold PyData.strOk
  rw [Array.all_eq_true_iff_forall_mem]
  intro c hc
  have:=((nm_iff.mp h).2.2 c (by simpa using hc)).2
  simp; omega
theorem shaped_s {x:Str} (h:PyData.strOk x=true):SeqAt.shaped (.str x)=true:=by simp [SeqAt.shaped,PyData.canLay0,PyData.depth,h]
theorem eqvS (a b:Str):PyData.eqv (.str a) (.str b)=(a == b):=by rw [PyData.eqv]
theorem dEqS {a b:Str} (ha:PyData.strOk a=true) (hb:PyData.strOk b=true):dEq (.str a) (.str b)=some (.bool (a == b)):=by
  rw [dEq,if_pos ⟨shaped_s ha,shaped_s hb⟩,eqvS]
theorem dNeS {a b:Str} (ha:PyData.strOk a=true) (hb:PyData.strOk b=true):dNe (.str a) (.str b)=some (.bool (!(a == b))):=by
  rw [dNe,if_pos ⟨shaped_s ha,shaped_s hb⟩,eqvS]
theorem depth_strs:∀ ws:List Str,PyData.depthAll (ws.map .str)=0
  | []=>by simp [PyData.depthAll]
  | w :: ws=>by simp [PyData.depthAll,PyData.depth,depth_strs ws]
theorem shaped_wl {ws:List Str} (h:∀ w∈ws,PyData.strOk w=true):SeqAt.shaped (wl ws)=true:=by
  have:PyData.canLayAll0 (ws.map .str)=true:=by rw [PyProof.Rows.canLayAll_strs']; simpa using h
  simp [SeqAt.shaped,PyData.canLay0,PyData.depth,this,depth_strs]
theorem eqvAll_strs:∀ as bs:List Str,PyData.eqvAll (as.map .str) (bs.map .str)=decide (as=bs)
  | [],[]=>by rw [List.map_nil,PyData.eqvAll]; rfl
  | [],b :: bs=>by rw [List.map_nil,List.map_cons,PyData.eqvAll]; simp
  | a :: as,[]=>by rw [List.map_nil,List.map_cons,PyData.eqvAll]; simp
  | a :: as,b :: bs=>by
    rw [List.map_cons,List.map_cons,PyData.eqvAll,eqvS,eqvAll_strs as bs]
    by_cases e:a=b
    · subst e; simp
    · simp [e]
theorem eqv_wl (as bs:List Str):PyData.eqv (wl as) (wl bs)=decide (as=bs):=by
  rw [PyData.eqv,eqvAll_strs]
theorem dNe_wl {as bs:List Str} (ha:∀ w∈as,PyData.strOk w=true) (hb:∀ w∈bs,PyData.strOk w=true):dNe (wl as) (wl bs)=some (.bool (!decide (as=bs))):=by
  rw [dNe,if_pos ⟨shaped_wl ha,shaped_wl hb⟩,eqv_wl]
theorem any_strs (x:Str):∀ ys:List Str,(ys.map PyData.str).any (fun y=>PyData.eqv y (.str x))=decide (x∈ys)
  | []=>by simp
  | y :: ys=>by
    rw [List.map_cons,List.any_cons,eqvS,any_strs x ys]
    by_cases e:y=x
    · subst e; simp
    · have e':¬ x=y:=fun z=>e z.symm
      simp [e,e']
theorem dInB_wl {x:Str}{ys:List Str} (hx:PyData.strOk x=true) (hy:∀ w∈ys,PyData.strOk w=true):dInB (.str x) (wl ys)=some (decide (x∈ys)):=by
  show (if _ then _ else none)=_
  rw [if_pos ⟨shaped_s hx,by rw [List.all_map,List.all_eq_true]; intro w hw; exact shaped_s (hy w hw),by simp [PyData.depth]⟩,any_strs]
theorem lt1 (c d:Nat):decide (([c]:List Nat) < [d])=decide (c < d):=by
  rw [lt_cons_cons]; simp
theorem lit_a:Str.ofString "a"=⟨#[97]⟩:=by decide +kernel
theorem lit_z:Str.ofString "z"=⟨#[122]⟩:=by decide +kernel
theorem sign_step {c:Nat} (h:97 ≤ c∧c ≤ 122) (x:PyData):g_is_letters_L0 [some x,some (.str ⟨#[c]⟩)]=some (.nx [some x,some (.str ⟨#[c]⟩)]):=by
  have e1:dLeA (.str ⟨#[97]⟩) (.str ⟨#[c]⟩)=some (.bool true):=by
    show some (PyData.bool (!decide (([c]:List Nat) < [97])))=_
    rw [lt1,decide_eq_false (by omega)]; rfl
  have e2:dLeA (.str ⟨#[c]⟩) (.str ⟨#[122]⟩)=some (.bool true):=by
    show some (PyData.bool (!decide (([122]:List Nat) < [c])))=_
    rw [lt1,decide_eq_false (by omega)]; rfl
  have e3:fChain dLeA dLeA (dC (.str "a")) (dVar 1) (dC (.str "z")) [some x,some (.str ⟨#[c]⟩)]=some true:=by
    simp only [fChain,dC,dVar,lit_a,lit_z,List.getElem?_cons_succ,List.getElem?_cons_zero,Option.join_some,Option.bind_some,e1,e2]
    rfl
  simp? only [g_is_letters_L0,e3]
theorem signs_loop (x:PyData):∀ (l:List Nat) (o:Option PyData),(∀ c∈l,97 ≤ c∧c ≤ 122)→∃ o',forD (bdT (.one 1)) g_is_letters_L0 (l.map fun c=>.str ⟨#[c]⟩) [some x,o]=some (.nx [some x,o'])
  | [],o,_=>⟨o,rfl⟩
  | c :: l,o,h=>by
    obtain ⟨o',e⟩:=signs_loop x l (some (.str ⟨#[c]⟩)) fun z hz=>h z (by simp [hz])
    refine ⟨o',?_⟩
    rw [List.map_cons,forD]
    show ((g_is_letters_L0 [some x,some (.str ⟨#[c]⟩)])).bind _=_
    rw [sign_step (h c (by simp))]
    exact e
theorem ok_empty:PyData.strOk (Str.ofString "")=true:=by decide +kernel
theorem is_name {x:Str} (h:nmB x=true):f_is_name [.str x]=some (.bool true):=by
  obtain ⟨h1,h2,h3⟩:=nm_iff.mp h
  obtain ⟨o',e⟩:=signs_loop (.str x) x.cps.toList none h3
  have hne:(x == Str.ofString "")=false:=by
    rw [beq_eq_false_iff_ne]
    intro z; subst z
    exact absurd h1 (by decide +kernel)
  have hl:f_is_letters [.str x]=some (.bool true):=by
    simp? only [f_is_letters,g_is_letters]
    rw [show signsD x=x.cps.toList.map fun c=>PyData.str ⟨#[c]⟩ from rfl,e]
    simp? only [dNeS (nm_ok h) ok_empty,hne]
  have h2':(x.length:Int) ≤ 8:=by omega
  have hz:x.length ≤ 16777216:=by omega
  have e8:dLeA (.int x.length) (.int 8)=some (.bool true):=by simp [dLeA,dLe,dI,h2']
  simp? only [f_is_name,g_is_name,dLenA,dLen,if_pos hz,hl,e8]
theorem strEq (a b:String):dEq (.str (Str.ofString a)) (.str (Str.ofString b))=some (.bool (a == b)):=by
  rw [dEqS (strOk_ofString a) (strOk_ofString b),beq_ofString]
theorem strNe (a b:String):dNe (.str (Str.ofString a)) (.str (Str.ofString b))=some (.bool (!(a == b))):=by
  rw [dNeS (strOk_ofString a) (strOk_ofString b),beq_ofString]
theorem ixL (l:List PyData) (i:Int):dIxA (.list l) (.int i)=atI l i:=rfl
theorem ixT (l:List PyData) (i:Int):dIxA (.tuple l) (.int i)=atI l i:=rfl
theorem at0 {α:Type} (a:α) (l:List α):atI (a :: l) 0=some a:=by
  have:(0:Int) < ((l.length:Nat):Int) + 1:=by omega
  simp [atI,ixN,this]
theorem at1 {α:Type} (a b:α) (l:List α):atI (a :: b :: l) 1=some b:=by
  have:(1:Int) < ((l.length:Nat):Int) + 1 + 1:=by omega
  simp [atI,ixN,this]
theorem at2 {α:Type} (a b c:α) (l:List α):atI (a :: b :: c :: l) 2=some c:=by
  have:(2:Int) < ((l.length:Nat):Int) + 1 + 1 + 1:=by omega
  simp [atI,ixN,this]
theorem sIx_some (n d:Nat) (v:Int):HT.sIx n d (some v)=if v < 0 then (v + (n:Int)).toNat else min v.toNat n:=rfl
theorem cut_from {α:Type} (l:List α) (k:Nat) (hk:k ≤ l.length):cutL l (some (k:Int)) none=l.drop k:=by
  unfold cutL
  rw [sIx_some,if_neg (by omega)]
  simp only [HT.sIx]
  rw [Int.toNat_natCast,Nat.min_eq_left hk,List.take_of_length_le]
  simp
theorem cut_to {α:Type} (l:List α) (k:Nat) (hk:k ≤ l.length):cutL l none (some (k:Int))=l.take k:=by
  unfold cutL
  rw [sIx_some,if_neg (by omega)]
  simp only [HT.sIx]
  rw [Int.toNat_natCast,Nat.min_eq_left hk]
  simp
theorem cut2 {α:Type} (a b:α) (l:List α):cutL (a :: b :: l) (some 2) none=l:=by
  have:=cut_from (a :: b :: l) 2 (by simp)
  simpa using this
theorem cut3 {α:Type} (a b c:α) (l:List α):cutL (a :: b :: c :: l) (some 3) none=l:=by
  have:=cut_from (a :: b :: c :: l) 3 (by simp)
  simpa using this
theorem listA_l (l:List PyData):dListA [.list l]=some (.list l):=rfl
theorem slL (l:List PyData) (lo hi:Option Int):dSl (.list l) lo hi=some (.list (cutL l lo hi)):=rfl
theorem lenL (l:List PyData):dLenA [.list l]=some (.int l.length):=rfl
theorem firstAt_strs (x:Str) (r:List Str):∀ (ps:List Str) (n:Nat),x ∉ ps→firstAt (fun y=>PyData.eqv y (.str x)) ((ps++x :: r).map .str) n=some (n + ps.length)
  | [],n,_=>by
    rw [List.nil_append,List.map_cons,firstAt,eqvS]
    simp
  | p :: ps,n,h=>by
    simp only [List.mem_cons,not_or] at h
    rw [List.cons_append,List.map_cons,firstAt,eqvS,firstAt_strs x r ps (n + 1) h.2]
    have:¬ (p == x)=true:=by simpa using fun z:p=x=>h.1 z.symm
    rw [if_neg this]
    simp only [List.length_cons]
    congr 1; omega
theorem dIndex_wl {x:Str}{ps r:List Str} (hx:PyData.strOk x=true) (hy:∀ w∈ps++x :: r,PyData.strOk w=true) (h:x ∉ ps) (hl:(ps++x :: r).length ≤ 1000) :
    dIndex (.list ((ps++x :: r).map .str)) [.str x]=some (.int ps.length):=by
  show (if _ then _ else none)=_
  rw [if_pos ⟨shaped_s hx,by rw [List.all_map,List.all_eq_true]; intro w hw; exact shaped_s (hy w hw),by simp [PyData.depth],by rw [List.length_map,sizeLine_eq]; omega⟩,firstAt_strs x r ps 0 h]
  simp
theorem e_dIn (x y:PyData):dIn x y=(dInB x y).map .bool:=rfl
theorem e_dNotIn (x y:PyData):dNotIn x y=(dInB x y).map fun b=>.bool (!b):=rfl
theorem hb_meth (k m:Str) (r:List Str) (hk:k.length ≤ 8) (hm:m.length ≤ 8):f_head_body [wl (Str.ofString "method" :: k :: m :: r)]=some (.str (k++(Str.ofString "."++m))):=by
  have e1:("method" == "method")=true:=by decide
  have h1:k.length ≤ 16777216:=by omega
  have h2:m.length ≤ 16777216:=by omega
  have h3:(k++(Str.ofString "."++m)).length ≤ 16777216:=by
    rw [Str.length_append,Str.length_append,show (Str.ofString ".").length=1 by decide +kernel]; omega
  simp? only [f_head_body,g_head_body,f_method_body,g_method_body,wl,ixL,at0,at1,at2,strEq,e1,if_pos h1,if_pos h2,if_pos h3,Str.append_empty]
theorem hb_main:f_head_body [wl ["main"]]=some (.str "main"):=by kernel_rfl
theorem hp_meth (k m:Str) (r:List Str):f_head_params [wl (Str.ofString "method" :: k :: m :: r)]=some (wl r):=by
  have e1:("method" == "method")=true:=by decide
  simp? only [f_head_params,g_head_params,wl,ixL,at0,strEq,e1,slL,cut3,listA_l]
theorem hk_meth (k m:Str) (r:List Str):f_head_kept [wl (Str.ofString "method" :: k :: m :: r)]=some (wl []):=by
  have e1:("method" == "func")=false:=by decide
  simp? only [f_head_kept,g_head_kept,wl,ixL,at0,strNe,e1]
theorem keys_strs:∀ ws:List Str,keysOf (ws.map .str)=some (ws.map .inr)
  | []=>rfl
  | w :: ws=>by
    show ((dKey (.str w)).bind fun k=>(keysOf (ws.map .str)).map (k :: ·))=_
    rw [keys_strs ws]; rfl
theorem adds_nodup {K:Type} [DecidableEq K]:∀ (ks acc:List K),(acc++ks).Nodup→addsK acc ks=acc++ks
  | [],acc,_=>by simp [addsK]
  | k :: ks,acc,h=>by
    have hk:k ∉ acc:=fun z=>by
      rw [List.nodup_append] at h
      exact h.2.2 k z k (by simp) rfl
    show addsK (addK acc k) ks=_
    have e:addK acc k=acc++[k]:=by simp [addK,hk]
    rw [e,adds_nodup ks (acc++[k]) (by simpa using h)]
    simp
theorem once_ok {ns:List Str} (h:ns.Nodup) (hl:ns.length ≤ 900):f_are_once [wl ns]=some (.bool true):=by
  have hk:(ns.map (Sum.inr:Str→Key)).Nodup:=by
    unfold List.Nodup at h ⊢
    exact List.Pairwise.map _ (fun a b q z=>q (by injection z)) h
  have e1:dLenSet (dVar 0) [some (.list (ns.map .str))]=some (.int ns.length):=by
    show (keysOf (ns.map .str)).bind _=_
    rw [keys_strs]
    show (if _ then _ else none)=_
    rw [if_pos (by rw [List.length_map]; omega),adds_nodup _ _ (by simpa using hk)]
    simp
  have e2:dEq (.int (ns.length:Int)) (.int (ns.length:Int))=some (.bool true):=by
    rw [dEq,if_pos ⟨by rfl,by rfl⟩,PyData.eqv]; simp
  simp? only [f_are_once,g_are_once,wl,e1,lenL,List.length_map,e2]
def gD (H:List (Str × PyData)):PyData:=.dict (H.map fun p=>(.str p.1,p.2))
theorem getK_none {t:Str}:∀ {H:List (Str × PyData)},t ∉ H.map (·.1)→getK (.str t) (H.map fun p=>(.str p.1,p.2))=none
  | [],_=>rfl
  | p :: H,h=>by
    simp only [List.map_cons,List.mem_cons,not_or] at h
    rw [List.map_cons,getK,if_neg (by show ¬ (decide (p.1=t))=true; simpa using fun z:p.1=t=>h.1 z.symm)]
    exact getK_none h.2
theorem getK_some {t:Str}{d:PyData}:∀ {H:List (Str × PyData)},(H.map (·.1)).Nodup→(t,d)∈H→getK (.str t) (H.map fun p=>(.str p.1,p.2))=some d
  | [],_,h=>by simp at h
  | p :: H,nd,h=>by
    rw [List.map_cons,List.nodup_cons] at nd
    rw [List.map_cons,getK]
    rcases List.mem_cons.mp h with e | e
    · subst e
      rw [if_pos (by show (decide (t=t))=true; simp)]
    · have:p.1 ≠ t:=fun z=>nd.1 (by rw [z]; exact List.mem_map.mpr ⟨(t,d),e,rfl⟩)
      rw [if_neg (by show ¬ (decide (p.1=t))=true; simpa using this)]
      exact getK_some nd.2 e
theorem any_none {t:Str}:∀ {H:List (Str × PyData)},t ∉ H.map (·.1)→((H.map fun p=>((.str p.1:PyData),p.2)).any fun x=>keyEq x.1 (.str t))=false
  | [],_=>rfl
  | p :: H,h=>by
    simp only [List.map_cons,List.mem_cons,not_or] at h
    rw [List.map_cons,List.any_cons,any_none h.2]
    have:keyEq (.str p.1) (.str t)=false:=by show decide (p.1=t)=false; simpa using fun z:p.1=t=>h.1 z.symm
    rw [this]; rfl
theorem inst_gD (H:List (Str × PyData)):isInst (H.map fun p=>((.str p.1:PyData),p.2))=false:=by cases H <;> rfl
theorem put_gD {t:Str}{d:PyData}{H:List (Str × PyData)} (h:t ∉ H.map (·.1)) (hl:H.length ≤ 900):putC (.str t) d (gD H)=some (gD (H++[(t,d)])):=by
  show (if _ then _ else none)=_
  rw [if_pos ⟨by rw [List.length_map,sizeLine_eq]; omega,inst_gD H⟩]
  show some (PyData.dict (putD (.str t) d _))=_
  rw [putD,if_neg (by rw [any_none h]; simp)]
  simp [gD]
theorem getK_in {t:Str}:∀ {H:List (Str × PyData)},t∈H.map (·.1)→(getK (.str t) (H.map fun p=>(.str p.1,p.2))).isSome=true
  | [],h=>by simp at h
  | p :: H,h=>by
    rw [List.map_cons,getK]
    by_cases q:p.1=t
    · rw [if_pos (by show (decide (p.1=t))=true; simpa using q)]; rfl
    · rw [if_neg (by show ¬ (decide (p.1=t))=true; simpa using q)]
      refine getK_in ?_
      rw [List.map_cons] at h
      rcases List.mem_cons.mp h with e | e
      · exact absurd e.symm q
      · exact e
theorem in_gD {t:Str}{H:List (Str × PyData)}:dInB (.str t) (gD H)=some (decide (t∈H.map (·.1))):=by
  show (if isInst _=true then none else _)=_
  rw [if_neg (by rw [inst_gD]; simp)]
  show some (getK (.str t) _).isSome=_
  by_cases h:t∈H.map (·.1)
  · rw [decide_eq_true h,getK_in h]
  · rw [decide_eq_false h,getK_none h]; rfl
theorem ix_gD {t:Str}{d:PyData}{H:List (Str × PyData)} (nd:(H.map (·.1)).Nodup) (h:(t,d)∈H):dIxA (gD H) (.str t)=some d:=by
  show (if isInst _=true then none else _)=_
  rw [if_neg (by rw [inst_gD]; simp)]
  exact getK_some nd h
theorem keys_gD (H:List (Str × PyData)):dListA [gD H]=some (wl (H.map (·.1))):=by
  show (if isInst _=true then none else _)=_
  rw [if_neg (by rw [inst_gD]; simp)]
  simp [wl,Function.comp_def]
structure KR where
  k:Nat
  el:Option Nat
  own:List Str
  ms:List Str
def nmK (k:Nat):Str:=⟨#[107,105,110,100,97 + k]⟩
def elD:Option Nat→PyData
  | none=>.none
  | some j=>.str (nmK j)
def krD (r:KR):PyData:=.tuple [.str (nmK r.k),elD r.el,wl r.own,wl r.ms]
theorem nmK_inj {i j:Nat} (h:nmK i=nmK j):i=j:=by
  have e:=congrArg (fun x:Str=>x.cps.toList[4]?) h
  simp [nmK] at e
  exact e
theorem nmK_len (k:Nat):(nmK k).length=5:=rfl
theorem nmK_nm {k:Nat} (h:k < 26):nmB (nmK k)=true:=by
  rw [nm_iff]
  refine ⟨by rw [nmK_len]; decide,by rw [nmK_len]; decide,fun c hc=>?_⟩
  simp [nmK] at hc
  omega
def ch (ks:List KR):Nat→Nat→List Nat
  | 0,_=>[]
  | n + 1,k=>match ks[k]? with
    | none=>[]
    | some r=>match r.el with
      | none=>[k]
      | some j=>k :: ch ks n j
structure KOk (ks:List KR):Prop where
  id:∀ (i:Nat) (r:KR),ks[i]?=some r→r.k=i
  el:∀ (i:Nat) (r:KR) (j:Nat),ks[i]?=some r→r.el=some j→j < i
  len:ks.length ≤ 16
theorem ch_enough {ks:List KR} (O:KOk ks):∀ n m k,k < n→k < m→ch ks n k=ch ks m k
  | 0,_,_,h,_=>absurd h (Nat.not_lt_zero _)
  | _ + 1,0,_,_,h=>absurd h (Nat.not_lt_zero _)
  | n + 1,m + 1,k,h1,h2=>by
    rw [ch,ch]
    cases e:ks[k]? with
    | none=>rfl
    | some r =>
      dsimp only
      cases e2:r.el with
      | none=>rfl
      | some j =>
        have:=O.el k r j e e2
        dsimp only
        rw [ch_enough O n m j (by omega) (by omega)]
def chn (ks:List KR) (k:Nat):List Nat:=ch ks (k + 1) k
theorem chn_top {ks:List KR}{k:Nat}{r:KR} (h:ks[k]?=some r) (e:r.el=none):chn ks k=[k]:=by
  rw [chn,ch,h]; dsimp only; rw [e]
theorem chn_up {ks:List KR} (O:KOk ks) {k j:Nat}{r:KR} (h:ks[k]?=some r) (e:r.el=some j):chn ks k=k :: chn ks j:=by
  have:=O.el k r j h e
  rw [chn,ch,h]; dsimp only; rw [e]; dsimp only
  rw [chn,ch_enough O k (j + 1) j this (by omega)]
inductive Ch (ks:List KR):Nat→List Nat→Prop
  | top {k:Nat}{r:KR}:ks[k]?=some r→r.el=none→Ch ks k [k]
  | up {k j:Nat}{r:KR}{l:List Nat}:ks[k]?=some r→r.el=some j→Ch ks j l→Ch ks k (k :: l)
theorem ch_of {ks:List KR} (O:KOk ks):∀ n k,k < n→k < ks.length→Ch ks k (chn ks k)∧(chn ks k).length ≤ k + 1
  | 0,_,h,_=>absurd h (Nat.not_lt_zero _)
  | n + 1,k,h,hk=>by
    have e:ks[k]?=some ks[k]:=List.getElem?_eq_getElem hk
    cases e2:(ks[k]).el with
    | none =>
      rw [chn_top e e2]
      exact ⟨.top e e2,by simp⟩
    | some j =>
      have hj:=O.el k _ j e e2
      obtain ⟨a,b⟩:=ch_of O n j (by omega) (by omega)
      rw [chn_up O e e2]
      exact ⟨.up e e2 a,by simp; omega⟩
theorem Ch.mem {ks:List KR}{k:Nat}{l:List Nat} (h:Ch ks k l):∀ i∈l,∃ r,ks[i]?=some r:=by
  induction h with
  | top e _=>intro i hi; simp at hi; subst hi; exact ⟨_,e⟩
  | up e _ _ ih =>
    intro i hi
    rcases List.mem_cons.mp hi with rfl | hi
    · exact ⟨_,e⟩
    · exact ih i hi
def ow (ks:List KR) (i:Nat):List Str:=match ks[i]? with
  | some r=>r.own
  | none=>[]
def mo (ks:List KR) (i:Nat):List Str:=match ks[i]? with
  | some r=>r.ms
  | none=>[]
theorem ow_of {ks:List KR}{i:Nat}{r:KR} (h:ks[i]?=some r):ow ks i=r.own:=by rw [ow,h]
theorem mo_of {ks:List KR}{i:Nat}{r:KR} (h:ks[i]?=some r):mo ks i=r.ms:=by rw [mo,h]
def FL (ks:List KR) (l:List Nat):List Str:=(l.reverse.map (ow ks)).flatten
theorem FL_cons (ks:List KR) (i:Nat) (l:List Nat):FL ks (i :: l)=FL ks l++ow ks i:=by simp [FL]
theorem FL_nil (ks:List KR):FL ks []=[]:=rfl
def flds (ks:List KR) (k:Nat):List Str:=FL ks (chn ks k)
theorem flds_top {ks:List KR}{k:Nat}{r:KR} (h:ks[k]?=some r) (e:r.el=none):flds ks k=r.own:=by
  rw [flds,chn_top h e,FL_cons,FL_nil,List.nil_append,ow_of h]
theorem flds_up {ks:List KR} (O:KOk ks) {k j:Nat}{r:KR} (h:ks[k]?=some r) (e:r.el=some j):flds ks k=flds ks j++r.own:=by
  rw [flds,chn_up O h e,FL_cons,ow_of h]; rfl
theorem FL_len {ks:List KR} (h:∀ (i:Nat) (r:KR),ks[i]?=some r→r.own.length ≤ 3):∀ l:List Nat,(FL ks l).length ≤ 3 * l.length
  | []=>by simp [FL]
  | i :: l=>by
    have:=FL_len h l
    rw [FL_cons,List.length_append,List.length_cons]
    have:(ow ks i).length ≤ 3:=by
      unfold ow
      split
      · rename_i r e; exact h i r e
      · simp
    omega
theorem FL_ok {ks:List KR}{p:Str→Prop} (h:∀ (i:Nat) (r:KR),ks[i]?=some r→∀ w∈r.own,p w):∀ l:List Nat,∀ w∈FL ks l,p w
  | [],w,hw=>by simp [FL] at hw
  | i :: l,w,hw=>by
    rw [FL_cons] at hw
    rcases List.mem_append.mp hw with q | q
    · exact FL_ok h l w q
    · unfold ow at q
      split at q
      · rename_i r e; exact h i r e w q
      · simp at q
theorem ch_app {ks:List KR} (O:KOk ks) (r:KR):∀ n i,i < ks.length→ch (ks++[r]) n i=ch ks n i
  | 0,_,_=>rfl
  | n + 1,i,h=>by
    rw [ch,ch,List.getElem?_append_left h]
    cases e:ks[i]? with
    | none=>rfl
    | some x =>
      dsimp only
      cases e2:x.el with
      | none=>rfl
      | some j =>
        have:=O.el i x j e e2
        dsimp only
        rw [ch_app O r n j (by omega)]
theorem FL_app {ks:List KR} (r:KR):∀ l:List Nat,(∀ i∈l,i < ks.length)→FL (ks++[r]) l=FL ks l
  | [],_=>rfl
  | i :: l,h=>by
    rw [FL_cons,FL_cons,FL_app r l fun x hx=>h x (by simp [hx])]
    congr 1
    rw [ow,ow,List.getElem?_append_left (h i (by simp))]
theorem lt_of_get {α:Type}{l:List α}{i:Nat}{x:α} (h:l[i]?=some x):i < l.length:=(List.getElem?_eq_some_iff.mp h).1
theorem flds_app {ks:List KR} (O:KOk ks) (r:KR) {i:Nat} (h:i < ks.length):flds (ks++[r]) i=flds ks i:=by
  rw [flds,flds,chn,ch_app O r _ _ h]
  refine FL_app r _ fun x hx=>?_
  obtain ⟨q,e⟩:=(ch_of O (i + 1) i (by omega) h).1.mem x hx
  exact lt_of_get e
theorem isnot_n:dIsNotA .none .none=some (.bool false):=rfl
theorem isnot_s (t:Str):dIsNotA (.str t) .none=some (.bool true):=rfl
theorem truB (b:Bool):dTruthA (.bool b)=some b:=rfl
theorem sc_bool (b:Bool):scalD (.bool b)=true:=rfl
theorem sc_str (b:Str):scalD (.str b)=true:=rfl
theorem sc_int (b:Int):scalD (.int b)=true:=rfl
theorem sc_none:scalD .none=true:=rfl
theorem flat_wl (ws:List Str):flat (wl ws)=true:=by simp [flat,wl,scalD]
theorem at3 {α:Type} (a b c d:α) (l:List α):atI (a :: b :: c :: d :: l) 3=some d:=by
  have:(3:Int) < ((l.length:Nat):Int) + 1 + 1 + 1 + 1:=by omega
  simp [atI,ixN,this]
theorem at_last {α:Type} (l:List α) (a:α):atI (l++[a]) (-1)=some a:=by
  have h1:(1:Int) ≤ (l.length:Int) + 1:=by omega
  have h2:(-1 + ((l.length:Int) + 1)).toNat=l.length:=by omega
  simp [atI,ixN,h1,h2]
def kl (ks:List KR):PyData:=.list (ks.map krD)
theorem kl_ix {ks:List KR}{k:Nat}{r:KR} (h:ks[k]?=some r):dIxA (kl ks) (.int (k:Int))=some (krD r):=by
  rw [kl,ixL]
  exact atI_nat (by rw [List.getElem?_map,h]; rfl)
theorem kr0 (r:KR):dIxA (krD r) (.int 0)=some (.str (nmK r.k)):=by rw [krD,ixT,at0]
theorem kr1 (r:KR):dIxA (krD r) (.int 1)=some (elD r.el):=by rw [krD,ixT,at1]
theorem kr2 (r:KR):dIxA (krD r) (.int 2)=some (wl r.own):=by rw [krD,ixT,at2]
theorem kr3 (r:KR):dIxA (krD r) (.int 3)=some (wl r.ms):=by rw [krD,ixT,at3]
def kn (ks:List KR):List Str:=ks.map fun r=>nmK r.k
theorem firsts (T:Rho→Option Bool) (C:Rho→Option PyData) (hT:T=fun _=>some true) (hC:C=d2 dIxA (dVar 0) (dC (.int 0))):∀ ks:List KR,compD T C [] (ks.map krD)=some ((kn ks).map .str)
  | []=>rfl
  | r :: ks=>by
    have ih:=firsts T C hT hC ks
    have e:C [some (krD r)]=some (.str (nmK r.k)):=by rw [hC]; simp? only [kr0]
    have e0:T [some (krD r)]=some true:=by rw [hT]
    rw [List.map_cons,compD,e0]
    simp? only [e,ih,kn]
theorem kn_eq {ks:List KR} (O:KOk ks):kn ks=(List.range ks.length).map nmK:=by
  apply List.ext_getElem?
  intro i
  rw [kn,List.getElem?_map,List.getElem?_map]
  by_cases h:i < ks.length
  · have e:ks[i]?=some ks[i]:=List.getElem?_eq_getElem h
    rw [e,List.getElem?_range h]
    show some (nmK (ks[i]).k)=some (nmK i)
    rw [O.id i _ e]
  · rw [List.getElem?_eq_none (by omega),List.getElem?_eq_none (by simp; omega)]; rfl
theorem range_cut (j n:Nat) (h:j < n):List.range n=List.range j++j :: List.range' (j + 1) (n - j - 1):=by
  have e:n=j + (n - j - 1 + 1):=by omega
  rw [List.range_eq_range',List.range_eq_range']
  conv=>lhs; rw [e]
  rw [← List.range'_append_1,Nat.zero_add,List.range'_succ]
theorem ok_kn {n:Nat} (h:n ≤ 26):∀ w∈(List.range n).map nmK,PyData.strOk w=true:=by
  intro w hw
  obtain ⟨i,hi,rfl⟩:=List.mem_map.mp hw
  exact nm_ok (nmK_nm (by have:=List.mem_range.mp hi; omega))
theorem kn_index {ks:List KR} (O:KOk ks) {j:Nat} (h:j < ks.length):dIndex (.list ((kn ks).map .str)) [.str (nmK j)]=some (.int (j:Int)):=by
  have hl:=O.len
  have ok:=ok_kn (n:=ks.length) (by omega)
  rw [kn_eq O]
  rw [range_cut j _ h,List.map_append,List.map_cons] at ok ⊢
  have:=dIndex_wl (x:=nmK j) (ps:=(List.range j).map nmK) (r:=(List.range' (j + 1) (ks.length - j - 1)).map nmK) (nm_ok (nmK_nm (by omega))) ok (fun z=>by
    obtain ⟨i,hi,e⟩:=List.mem_map.mp z
    have:=nmK_inj e
    have:=List.mem_range.mp hi
    omega) (by simp; omega)
  simpa using this
def il (l:List Nat):PyData:=.list (l.map fun (i:Nat)=>.int (i:Int))
theorem il_last (acc:List Nat) (k:Nat):dIxA (il (acc++[k])) (.int (-1))=some (.int (k:Int)):=by
  rw [il,ixL,List.map_append,List.map_cons,List.map_nil,at_last]
theorem while_t {c:Rho→Option Bool}{g:Rho→Option Out}{n:Nat}{ρ ρ1:Rho} (h:c ρ=some true) (h2:g ρ=some (.nx ρ1)):whileD c g (n + 1) ρ=whileD c g n ρ1:=by
  rw [whileD,h]; simp only [Option.bind_some,if_true,h2]
theorem while_f {c:Rho→Option Bool}{g:Rho→Option Out}{n:Nat}{ρ:Rho} (h:c ρ=some false):whileD c g (n + 1) ρ=some (.nx ρ):=by
  rw [whileD,h]; simp only [Option.bind_some,Bool.false_eq_true,if_false]
theorem el_loop {ks:List KR} (O:KOk ks) (x:Option PyData) {k:Nat}{l:List Nat} (h:Ch ks k l):∀ (n:Nat) (acc:List Nat),acc.length + l.length ≤ 100 →
    whileD (fB (d2 dIsNotA (d2 dIxA (d2 dIxA (dVar 0) (d2 dIxA (dVar 3) (dC (.int (-1))))) (dC (.int 1))) (dC .none))) g_law_elders_L1 (l.length + n) [some (kl ks),x,some (.list ((kn ks).map .str)),some (il (acc++[k]))]=some (.nx [some (kl ks),x,some (.list ((kn ks).map .str)),some (il (acc++l))]):=by
  induction h with
  | @top k r e e2 =>
    intro n acc _
    rw [List.length_singleton,Nat.add_comm]
    refine while_f ?_
    simp? only [il_last,kl_ix e,kr1,e2,elD,isnot_n]
  | @up k j r l e e2 h ih =>
    intro n acc hl
    have hj:j < ks.length:=by
      have:=O.el k r j e e2
      have:=lt_of_get e
      omega
    have z:((acc++[k]).map fun (i:Nat)=>PyData.int (i:Int)).length < 16777216:=by simp at hl ⊢; omega
    rw [List.length_cons,show l.length + 1 + n=(l.length + n) + 1 by omega]
    rw [while_t (ρ1:=[some (kl ks),x,some (.list ((kn ks).map .str)),some (il (acc++[k]++[j]))])]
    · rw [ih n (acc++[k]) (by simp at hl ⊢; omega),List.append_assoc]; rfl
    · simp? only [il_last,kl_ix e,kr1,e2,elD,isnot_s]
    · have z2:(il (acc++[k]))=.list ((acc++[k]).map fun (i:Nat)=>PyData.int (i:Int)):=rfl
      have hi:=kn_index O hj
      have e5:(vSc (dMtL dIndex (dVar 2) (aCons (d2 dIxA (d2 dIxA (dVar 0) (d2 dIxA (dVar 3) (dC (.int (-1))))) (dC (.int 1))) aNil))) [some (kl ks),x,some (.list ((kn ks).map .str)),some (il (acc++[k]))]=some (.int (j:Int)):=by
        simp? only [il_last,kl_ix e,kr1,e2,elD,hi,sc_int]
      rw [g_law_elders_L1,e_app,e5]
      simp? only [z2,if_pos z]
      rw [il,List.map_append (l₁:=acc++[k])]
      rfl
theorem comp_of {q:Rho→Option (List PyData)}{caps:List (Nat × Str)}{T:Rho→Option Bool}{C:Rho→Option PyData}{ρ:Rho}{ds ys:List PyData} (h1:q ρ=some ds) (h2:ds.length ≤ 1000) (h3:compD T C (capD caps ρ) ds=some ys):dComp q caps T C ρ=some (.list ys):=by
  rw [e_comp,h1]
  simp only [Option.bind_some]
  rw [if_pos (by rw [sizeLine_eq]; omega),h3]; rfl
theorem run4 {N:List Str}{A B C E:Rho→Option Out}{ds:List PyData}{ρ0 ρ1 ρ2 ρ3:Rho}{d:PyData} (h0:startD N ds=ρ0) (h1:A ρ0=some (.nx ρ1)) (h2:B ρ1=some (.nx ρ2)) (h3:C ρ2=some (.nx ρ3)) (h4:E ρ3=some (.rt d)):runD N (sSeq A (sSeq B (sSeq C E))) ds=some d:=by
  rw [e_run,h0,e_seq,h1,nxt_nx,e_seq,h2,nxt_nx,e_seq,h3,nxt_nx,h4,outD_rt]
theorem while_of {c:Rho→Option Bool}{g:Rho→Option Out}{ρ:Rho}{o:Option Out}{m:Nat} (hm:m ≤ 1000) (h:∀ n,whileD c g (m + n) ρ=o):sWhile c g ρ=o:=by
  have:=h (wMost - m)
  rwa [show m + (wMost - m)=wMost by have:wMost=1000000:=rfl; omega] at this
theorem elders_ok {ks:List KR} (O:KOk ks) {k:Nat}{l:List Nat} (h:Ch ks k l) (hl:l.length ≤ 90):f_law_elders [kl ks,.int (k:Int)]=some (il l):=by
  have h16:=O.len
  have f1:=firsts g_law_elders_T0 g_law_elders_C0 rfl rfl ks
  have w:=while_of (m:=l.length) (by omega) fun n=>el_loop O (some (.int (k:Int))) h n [] (by simp; omega)
  rw [List.nil_append,List.nil_append] at w
  refine run4 (ρ0:=[some (kl ks),some (.int (k:Int)),none,none]) (ρ1:=[some (kl ks),some (.int (k:Int)),some (.list ((kn ks).map .str)),none]) (ρ2:=[some (kl ks),some (.int (k:Int)),some (.list ((kn ks).map .str)),some (il [k])]) (by rw [e_start]; rfl) ?_ ?_ w ?_
  · have c:=comp_of (q:=qSeq (dVar 0)) (caps:=[]) (ρ:=[some (kl ks),some (.int (k:Int)),none,none]) (ds:=ks.map krD) rfl (by simp; omega) f1
    rw [e_setv,e_vfr,er1,er0]
    simp only [List.set_cons_succ,List.set_cons_zero,c,Option.map_some]
  · simp? only [e_c]
    rfl
  · simp? only [e_c]
theorem addL_wl (as bs:List Str) (h:as.length + bs.length ≤ 900):dAddL (wl as) (wl bs)=some (wl (as++bs)):=by
  show (if _ then _ else none)=_
  rw [if_pos (by rw [List.length_map,List.length_map,sizeLine_eq]; omega),← List.map_append]
theorem forD_cons {bd:BD}{g:Rho→Option Out}{d:PyData}{ds:List PyData}{ρ ρ1:Rho} (h:(bd d ρ).bind g=some (.nx ρ1)):forD bd g (d :: ds) ρ=forD bd g ds ρ1:=by
  rw [forD,h]; rfl
theorem forD_rt {bd:BD}{g:Rho→Option Out}{d x:PyData}{ds:List PyData}{ρ:Rho} (h:(bd d ρ).bind g=some (.rt x)):forD bd g (d :: ds) ρ=some (.rt x):=by
  rw [forD,h]; rfl
theorem forD_bk {bd:BD}{g:Rho→Option Out}{d:PyData}{ds:List PyData}{ρ ρ1:Rho} (h:(bd d ρ).bind g=some (.bk ρ1)):forD bd g (d :: ds) ρ=some (.nx ρ1):=by
  rw [forD,h]; rfl
theorem fl_loop {ks:List KR} (h3:∀ (i:Nat) (r:KR),ks[i]?=some r→r.own.length ≤ 3) (x:Option PyData):∀ (l:List Nat) (acc:List Str) (a:Option PyData),(∀ i∈l,∃ r,ks[i]?=some r)→acc.length + 3 * l.length ≤ 800 →
    ∃ a',forD (bdT (.one 3)) g_law_fields_L0 (l.map fun (i:Nat)=>.int (i:Int)) [some (kl ks),x,some (wl acc),a]=some (.nx [some (kl ks),x,some (wl (FL ks l++acc)),a'])
  | [],acc,a,_,_=>⟨a,rfl⟩
  | i :: l,acc,a,hm,hl=>by
    obtain ⟨r,e⟩:=hm i (by simp)
    have h3':=h3 i r e
    obtain ⟨a',ih⟩:=fl_loop h3 x l (r.own++acc) (some (.int (i:Int))) (fun z hz=>hm z (by simp [hz])) (by simp at hl ⊢; omega)
    refine ⟨a',?_⟩
    have ad:=addL_wl r.own acc (by simp at hl; omega)
    rw [List.map_cons,forD_cons (ρ1:=[some (kl ks),x,some (wl (r.own++acc)),some (.int (i:Int))]),ih,FL_cons,ow_of e,List.append_assoc]
    show g_law_fields_L0 [some (kl ks),x,some (wl acc),some (.int (i:Int))]=_
    simp? only [g_law_fields_L0,kl_ix e,kr2,ad,flat_wl]
theorem run3F {N:List Str}{A B C:Rho→Option Out}{ds:List PyData}{ρ0 ρ1 ρ2:Rho}{d:PyData} (h0:startD N ds=ρ0) (h1:A ρ0=some (.nx ρ1)) (h2:B ρ1=some (.nx ρ2)) (h3:C ρ2=some (.rt d)):runF N (sSeq A (sSeq B C)) ds=some d:=by
  rw [e_runF,h0,e_seq,h1,nxt_nx,e_seq,h2,nxt_nx,h3,outF_rt]
theorem for_of1 {q:Rho→Option (List PyData)}{i:Nat}{tg:Tg}{g:Rho→Option Out}{ρ:Rho}{ds:List PyData}{o:Option Out} (h:q (ρ.set i none)=some ds) (e:forD (bdT tg) g ds ρ=o):sForO (qFr [i] q) tg g ρ=o:=by
  rw [e_for,e_qfr,er1,er0,h]; exact e
theorem for_of {q:Rho→Option (List PyData)}{tg:Tg}{g:Rho→Option Out}{ρ:Rho}{ds:List PyData}{o:Option Out} (h:q (eraseO [] ρ)=some ds) (e:forD (bdT tg) g ds ρ=o):sForO (qFr [] q) tg g ρ=o:=by
  rw [e_for,e_qfr,h]; exact e
theorem fields_ok {ks:List KR} (O:KOk ks) (h3:∀ (i:Nat) (r:KR),ks[i]?=some r→r.own.length ≤ 3) {k:Nat} (hk:k < ks.length):f_law_fields [kl ks,.int (k:Int)]=some (wl (flds ks k)):=by
  have h16:=O.len
  obtain ⟨h,hl⟩:=ch_of O (k + 1) k (by omega) hk
  have e1:=elders_ok O h (by omega)
  obtain ⟨a',e2⟩:=fl_loop h3 (some (.int (k:Int))) (chn ks k) [] none h.mem (by simp; omega)
  rw [List.append_nil] at e2
  refine run3F (ρ0:=[some (kl ks),some (.int (k:Int)),none,none]) (ρ1:=[some (kl ks),some (.int (k:Int)),some (wl []),none]) (by rw [e_start]; rfl) ?_ (for_of1 ?_ e2) ?_
  · simp? only [e_c]; rfl
  · simp? only [e1,il]
  · simp? only [e_c]; rfl
def dotS (k m:Str):Str:=k++(Str.ofString "."++m)
def fi (ks:List KR) (m:Str):List Nat→PyData
  | []=>.none
  | i :: l=>if m∈mo ks i then .str (dotS (nmK i) m) else fi ks m l
theorem strAdd (a b:Str) (h:a.length + b.length ≤ 1000):dAdd (.str a) (.str b)=some (.str (a++b)):=by
  show (if _ then _ else none)=_
  rw [if_pos (by rw [sizeLine_eq]; omega)]
theorem fi_loop {ks:List KR} (O:KOk ks) (hm:∀ (i:Nat) (r:KR),ks[i]?=some r→∀ w∈r.ms,PyData.strOk w=true) (x:Option PyData) {m:Str} (ho:PyData.strOk m=true) (h8:m.length ≤ 8):∀ (l:List Nat) (a:Option PyData),(∀ i∈l,∃ r,ks[i]?=some r) →
    nxt (sRet (dC .none)) (forD (bdT (.one 3)) g_law_finds_L0 (l.map fun (i:Nat)=>.int (i:Int)) [some (kl ks),x,some (.str m),a])=some (.rt (fi ks m l))
  | [],a,_=>rfl
  | i :: l,a,h=>by
    obtain ⟨r,e⟩:=h i (by simp)
    have hi:=dInB_wl ho (hm i r e)
    have ek:=O.id i r e
    rw [List.map_cons,fi,mo_of e]
    by_cases q:m∈r.ms
    · rw [decide_eq_true q] at hi
      have a1:=strAdd (nmK r.k) (Str.ofString ".") (by rw [nmK_len,show (Str.ofString ".").length=1 by decide +kernel]; omega)
      have a2:=strAdd (nmK r.k++Str.ofString ".") m (by rw [Str.length_append,nmK_len,show (Str.ofString ".").length=1 by decide +kernel]; omega)
      rw [Str.append_assoc] at a2
      rw [if_pos q,forD_rt (x:=.str (dotS (nmK i) m)),nxt_rt]
      show g_law_finds_L0 [some (kl ks),x,some (.str m),some (.int (i:Int))]=_
      simp? only [g_law_finds_L0,kl_ix e,kr3,kr0,e_dIn,hi,a1,a2]
      rw [ek]; rfl
    · rw [decide_eq_false q] at hi
      rw [if_neg q,forD_cons (ρ1:=[some (kl ks),x,some (.str m),some (.int (i:Int))]),fi_loop O hm x ho h8 l _ fun z hz=>h z (by simp [hz])]
      show g_law_finds_L0 [some (kl ks),x,some (.str m),some (.int (i:Int))]=_
      simp? only [g_law_finds_L0,kl_ix e,kr3,e_dIn,hi]
theorem finds_ok {ks:List KR} (O:KOk ks) (hm:∀ (i:Nat) (r:KR),ks[i]?=some r→∀ w∈r.ms,PyData.strOk w=true) {k:Nat} (hk:k < ks.length) {m:Str} (ho:PyData.strOk m=true) (h8:m.length ≤ 8):f_law_finds [kl ks,.int (k:Int),.str m]=some (fi ks m (chn ks k)):=by
  have h16:=O.len
  obtain ⟨h,hl⟩:=ch_of O (k + 1) k (by omega) hk
  have e1:=elders_ok O h (by omega)
  have e2:=fi_loop O hm (some (.int (k:Int))) ho h8 (chn ks k) none h.mem
  have e3:sForO (qFr [] (qSeqA (dFn 2 f_law_elders (aCons (dVar 0) (aCons (dVar 1) aNil))))) (.one 3) g_law_finds_L0 [some (kl ks),some (.int (k:Int)),some (.str m),none]=forD (bdT (.one 3)) g_law_finds_L0 ((chn ks k).map fun (i:Nat)=>.int (i:Int)) [some (kl ks),some (.int (k:Int)),some (.str m),none]:=for_of (by simp? only [e1,il]) rfl
  rw [f_law_finds,g_law_finds,e_run,e_seq]
  show outD (nxt _ (sForO _ _ _ [some (kl ks),some (.int (k:Int)),some (.str m),none]))=_
  rw [e3,e2,outD_rt]
def tab (ks:List KR):List (Str × PyData):=ks.map fun r=>(nmK r.k,.tuple [elD r.el,wl r.own])
theorem tab_keys (ks:List KR):(tab ks).map (·.1)=kn ks:=by simp [tab,kn,Function.comp_def]
theorem kn_nodup {ks:List KR} (O:KOk ks):(kn ks).Nodup:=by
  rw [kn_eq O]
  have h:(List.range ks.length).Nodup:=List.nodup_range
  unfold List.Nodup at h ⊢
  rw [List.pairwise_map]
  exact h.imp fun h z=>h (nmK_inj z)
theorem tab_ix {ks:List KR} (O:KOk ks) {k:Nat}{r:KR} (h:ks[k]?=some r):dIxA (gD (tab ks)) (.str (nmK k))=some (.tuple [elD r.el,wl r.own]):=by
  refine ix_gD (by rw [tab_keys]; exact kn_nodup O) ?_
  have:=O.id k r h
  subst this
  exact List.mem_map.mpr ⟨r,List.mem_of_getElem? h,rfl⟩
theorem app_wl {f:Rho→Option PyData}{ρ:Rho}{i:Nat}{acc:List Str}{x:Str} (h1:(ρ[i]?).join=some (wl acc)) (hl:acc.length ≤ 1000) (h:f ρ=some (.str x)):sAppend (.sl i) f ρ=some (.nx (ρ.set i (some (wl (acc++[x]))))):=by
  rw [e_app,gp_sl,h1,h]
  have z:(acc.map PyData.str).length < sizeLine:=by rw [sizeLine_eq]; simp; omega
  simp only [Option.bind_some,if_pos z,sp_sl]
  simp only [wl,List.map_append,List.map_cons,List.map_nil]
theorem seq2 {A B:Rho→Option Out}{ρ0 ρ1:Rho}{o:Option Out} (h1:A ρ0=some (.nx ρ1)) (h2:B ρ1=o):sSeq A B ρ0=o:=by rw [e_seq,h1,nxt_nx,h2]
theorem if_t {c:Rho→Option Bool}{A B:Rho→Option Out}{ρ:Rho}{o:Option Out} (h1:c ρ=some true) (h2:A ρ=o):sIf c A B ρ=o:=by rw [e_if,h1,br_t,h2]
theorem if_f {c:Rho→Option Bool}{A B:Rho→Option Out}{ρ:Rho}{o:Option Out} (h1:c ρ=some false) (h2:B ρ=o):sIf c A B ρ=o:=by rw [e_if,h1,br_f,h2]
theorem ke_step {ks:List KR} (O:KOk ks) (x:Option PyData) {k:Nat}{r:KR} (e:ks[k]?=some r) {acc:List Str} (hl:acc.length ≤ 900):g_kind_and_elders_L0 [some (gD (tab ks)),x,some (wl acc),some (.str (nmK k))]=some (.nx [some (gD (tab ks)),x,some (wl (acc++[nmK k])),some (elD r.el)]):=by
  refine seq2 (app_wl (x:=nmK k) rfl (by omega) ?_) ?_
  · simp? only [e_c]
  · simp? only [tab_ix O e,ixT,at0]
theorem ke_loop {ks:List KR} (O:KOk ks) (x:Option PyData) {k:Nat}{l:List Nat} (h:Ch ks k l):∀ (n:Nat) (acc:List Str),acc.length + l.length ≤ 100 →
    whileD (fB (d2 dIsNotA (dVar 3) (dC .none))) g_kind_and_elders_L0 (l.length + 1 + n) [some (gD (tab ks)),x,some (wl acc),some (.str (nmK k))]=some (.nx [some (gD (tab ks)),x,some (wl (acc++l.map nmK)),some .none]):=by
  induction h with
  | @top k r e e2 =>
    intro n acc hl
    have s:=ke_step O x e (acc:=acc) (by simp at hl; omega)
    rw [e2] at s
    rw [List.length_singleton,show 1 + 1 + n=n + 1 + 1 by omega,while_t (by simp? only [isnot_s]) s,while_f]
    · rfl
    · simp? only [elD,isnot_n]
  | @up k j r l e e2 h ih =>
    intro n acc hl
    have s:=ke_step O x e (acc:=acc) (by simp at hl; omega)
    rw [e2] at s
    rw [List.length_cons,show l.length + 1 + 1 + n=l.length + 1 + n + 1 by omega,while_t (by simp? only [isnot_s]) s]
    have:=ih n (acc++[nmK k]) (by simp at hl ⊢; omega)
    rw [List.append_assoc] at this
    exact this
theorem ke_ok {ks:List KR} (O:KOk ks) {k:Nat} (hk:k < ks.length):f_kind_and_elders [gD (tab ks),.str (nmK k)]=some (wl ((chn ks k).map nmK)):=by
  have h16:=O.len
  obtain ⟨h,hl⟩:=ch_of O (k + 1) k (by omega) hk
  have w:=while_of (m:=(chn ks k).length + 1) (by omega) fun n=>ke_loop O (some (.str (nmK k))) h n [] (by simp; omega)
  rw [List.nil_append] at w
  refine run4 (ρ0:=[some (gD (tab ks)),some (.str (nmK k)),none,none]) (ρ1:=[some (gD (tab ks)),some (.str (nmK k)),some (wl []),none]) (ρ2:=[some (gD (tab ks)),some (.str (nmK k)),some (wl []),some (.str (nmK k))]) (by rw [e_start]; rfl) ?_ ?_ w ?_
  · simp? only [e_c]; rfl
  · simp? only [e_c]
  · simp? only [e_c]
theorem fb_loop {ks:List KR} (O:KOk ks) (h3:∀ (i:Nat) (r:KR),ks[i]?=some r→r.own.length ≤ 3) (x:Option PyData):∀ (l:List Nat) (acc:List Str) (a:Option PyData),(∀ i∈l,∃ r,ks[i]?=some r)→acc.length + 3 * l.length ≤ 800 →
    ∃ a',forD (bdT (.one 3)) g_fields_by_L0 ((l.map nmK).map .str) [some (gD (tab ks)),x,some (wl acc),a]=some (.nx [some (gD (tab ks)),x,some (wl (acc++(l.map (ow ks)).flatten)),a'])
  | [],acc,a,_,_=>⟨a,by simp [forD]⟩
  | i :: l,acc,a,hm,hl=>by
    obtain ⟨r,e⟩:=hm i (by simp)
    have h3':=h3 i r e
    obtain ⟨a',ih⟩:=fb_loop O h3 x l (acc++r.own) (some (.str (nmK i))) (fun z hz=>hm z (by simp [hz])) (by simp at hl ⊢; omega)
    refine ⟨a',?_⟩
    have z:(acc.map PyData.str).length + (r.own.map PyData.str).length ≤ 16777216:=by simp at hl ⊢; omega
    rw [List.map_cons,List.map_cons,forD_cons (ρ1:=[some (gD (tab ks)),x,some (wl (acc++r.own)),some (.str (nmK i))]),ih,List.map_cons,List.flatten_cons,ow_of e,List.append_assoc]
    show g_fields_by_L0 [some (gD (tab ks)),x,some (wl acc),some (.str (nmK i))]=_
    simp? only [g_fields_by_L0,tab_ix O e,ixT,at1,wl,if_pos z,List.map_append]
theorem fby_ok {ks:List KR} (O:KOk ks) (h3:∀ (i:Nat) (r:KR),ks[i]?=some r→r.own.length ≤ 3) {k:Nat} (hk:k < ks.length):f_fields_by [gD (tab ks),.str (nmK k)]=some (wl (flds ks k)):=by
  have h16:=O.len
  obtain ⟨h,hl⟩:=ch_of O (k + 1) k (by omega) hk
  have e1:=ke_ok O hk
  obtain ⟨a',e2⟩:=fb_loop O h3 (some (.str (nmK k))) (chn ks k).reverse [] none (fun i hi=>h.mem i (by simpa using hi)) (by simp; omega)
  rw [List.nil_append] at e2
  refine run3F (ρ0:=[some (gD (tab ks)),some (.str (nmK k)),none,none]) (ρ1:=[some (gD (tab ks)),some (.str (nmK k)),some (wl []),none]) (by rw [e_start]; rfl) ?_ (for_of1 ?_ e2) ?_
  · simp? only [e_c]; rfl
  · simp? only [e1,wl]
    rw [List.map_reverse,List.map_reverse]
  · simp? only [e_c]; rfl
theorem mb_ok (k m:Str) (hk:k.length ≤ 8) (hm:m.length ≤ 8):f_method_body [.str k,.str m]=some (.str (dotS k m)):=by
  have h1:k.length ≤ 16777216:=by omega
  have h2:m.length ≤ 16777216:=by omega
  have h3:(k++(Str.ofString "."++m)).length ≤ 16777216:=by
    rw [Str.length_append,Str.length_append,show (Str.ofString ".").length=1 by decide +kernel]; omega
  simp? only [f_method_body,g_method_body,if_pos h1,if_pos h2,if_pos h3,Str.append_empty,dotS]
theorem fo_loop {ks:List KR}{H:List (Str × PyData)}{m:Str} (h8:m.length ≤ 8) (hH:∀ (i:Nat) (r:KR),ks[i]?=some r→(dotS (nmK i) m∈H.map (·.1) ↔ m∈r.ms)) (T x:Option PyData):∀ (l:List Nat) (a b:Option PyData),(∀ i∈l,∃ r,ks[i]?=some r) →
    nxt (sRet (dC .none)) (forD (bdT (.one 4)) g_found_by_L0 ((l.map nmK).map .str) [T,some (gD H),x,some (.str m),a,b])=some (.rt (fi ks m l))
  | [],a,b,_=>rfl
  | i :: l,a,b,h=>by
    obtain ⟨r,e⟩:=h i (by simp)
    have hi:=in_gD (t:=dotS (nmK i) m) (H:=H)
    have hb:=mb_ok (nmK i) m (by rw [nmK_len]; decide) h8
    rw [List.map_cons,List.map_cons,fi,mo_of e]
    by_cases q:m∈r.ms
    · rw [decide_eq_true ((hH i r e).mpr q)] at hi
      rw [if_pos q,forD_rt (x:=.str (dotS (nmK i) m)),nxt_rt]
      show g_found_by_L0 [T,some (gD H),x,some (.str m),some (.str (nmK i)),b]=_
      simp? only [g_found_by_L0,hb,e_dIn,hi]
    · rw [decide_eq_false fun z=>q ((hH i r e).mp z)] at hi
      rw [if_neg q,forD_cons (ρ1:=[T,some (gD H),x,some (.str m),some (.str (nmK i)),some (.str (dotS (nmK i) m))]),fo_loop h8 hH T x l _ _ fun z hz=>h z (by simp [hz])]
      show g_found_by_L0 [T,some (gD H),x,some (.str m),some (.str (nmK i)),b]=_
      simp? only [g_found_by_L0,hb,e_dIn,hi]
theorem fo_ok {ks:List KR} (O:KOk ks) {H:List (Str × PyData)}{m:Str} (h8:m.length ≤ 8) (hH:∀ (i:Nat) (r:KR),ks[i]?=some r→(dotS (nmK i) m∈H.map (·.1) ↔ m∈r.ms)) {k:Nat} (hk:k < ks.length):f_found_by [gD (tab ks),gD H,.str (nmK k),.str m]=some (fi ks m (chn ks k)):=by
  have h16:=O.len
  obtain ⟨h,hl⟩:=ch_of O (k + 1) k (by omega) hk
  have e1:=ke_ok O hk
  have e2:=fo_loop h8 hH (some (gD (tab ks))) (some (.str (nmK k))) (chn ks k) none none h.mem
  have e3:sForO (qFr [] (qSeqA (dFn 2 f_kind_and_elders (aCons (dVar 0) (aCons (dVar 2) aNil))))) (.one 4) g_found_by_L0 [some (gD (tab ks)),some (gD H),some (.str (nmK k)),some (.str m),none,none]=forD (bdT (.one 4)) g_found_by_L0 (((chn ks k).map nmK).map .str) [some (gD (tab ks)),some (gD H),some (.str (nmK k)),some (.str m),none,none]:=for_of (by simp? only [e1,wl]) rfl
  rw [f_found_by,g_found_by,e_run,e_seq]
  show outD (nxt _ (sForO _ _ _ [some (gD (tab ks)),some (gD H),some (.str (nmK k)),some (.str m),none,none]))=_
  rw [e3,e2,outD_rt]
def elw:Option Nat→List Str
  | none=>[]
  | some j=>[Str.ofString "of",nmK j]
def oww:List Str→List Str
  | []=>[]
  | a :: l=>Str.ofString "fields" :: a :: l
def krow (r:KR):List Str:=Str.ofString "kind" :: nmK r.k :: (elw r.el++oww r.own)
theorem cut1 {α:Type} (a:α) (l:List α):cutL (a :: l) (some 1) none=l:=by
  have:=cut_from (a :: l) 1 (by simp)
  simpa using this
theorem cut1n:cutL ([]:List PyData) (some 1) none=[]:=rfl
theorem cut3n (a b:PyData):cutL [a,b] (some 3) none=[]:=by kernel_rfl
theorem tru_nil:dTruthA (.list [])=some false:=rfl
theorem tru_cons (a:PyData) (l:List PyData):dTruthA (.list (a :: l))=some true:=rfl
theorem ef_ok (el:Option Nat) (own:List Str):f_elder_and_fields [wl (elw el++oww own)]=some (.tuple [elD el,wl own]):=by
  have s1:("fields" == "of")=false:=by decide
  have s2:("of" == "of")=true:=by decide
  cases el with
  | none =>
    cases own with
    | nil=>simp? only [f_elder_and_fields,g_elder_and_fields,elw,oww,elD,wl,tru_nil,slL,cut1n]
    | cons a l=>simp? only [f_elder_and_fields,g_elder_and_fields,elw,oww,elD,wl,tru_cons,ixL,at0,strEq,s1,slL,cut1]
  | some j =>
    cases own with
    | nil=>simp? only [f_elder_and_fields,g_elder_and_fields,elw,oww,elD,wl,tru_cons,ixL,at0,at1,strEq,s2,slL,cut3n]
    | cons a l=>simp? only [f_elder_and_fields,g_elder_and_fields,elw,oww,elD,wl,tru_cons,ixL,at0,at1,strEq,s2,slL,cut3]
theorem tab_app (ks:List KR) (r:KR):tab (ks++[r])=tab ks++[(nmK r.k,.tuple [elD r.el,wl r.own])]:=by simp [tab]
theorem kt_loop (pr:Option PyData) (w0:String) (hw:(w0 == "kind")=false) (r0:List Str) (rest:List PyData):∀ (ks done:List KR) (w:Option PyData),(kn (done++ks)).Nodup→done.length + ks.length ≤ 900 →
    ∃ w',forD (bdT (.one 2)) g_kind_table_L0 ((ks.map krow).map wl++wl (Str.ofString w0 :: r0) :: rest) [pr,some (gD (tab done)),w]=some (.nx [pr,some (gD (tab (done++ks))),w'])
  | [],done,w,_,_=>by
    refine ⟨some (wl (Str.ofString w0 :: r0)),?_⟩
    rw [List.map_nil,List.map_nil,List.nil_append,List.append_nil,forD_bk]
    show g_kind_table_L0 [pr,some (gD (tab done)),some (wl (Str.ofString w0 :: r0))]=_
    have q:(!(w0 == "kind"))=true:=by rw [hw]; rfl
    refine (e_seq _ _ _).trans ?_
    rw [show sIf (fB (d2 dNe (d2 dIxA (dVar 2) (dC (.int 0))) (dC (.str "kind")))) (fun ρ=>some (.bk ρ)) sNil [pr,some (gD (tab done)),some (wl (Str.ofString w0 :: r0))]=some (.bk [pr,some (gD (tab done)),some (wl (Str.ofString w0 :: r0))]) from if_t (by simp? only [wl,ixL,at0,strNe,q]) rfl]
    rfl
  | r :: ks,done,w,nd,hl=>by
    have hn:nmK r.k ∉ (tab done).map (·.1):=fun z=>by
      rw [tab_keys] at z
      have nd':(kn done++kn (r :: ks)).Nodup:=by simpa [kn] using nd
      rw [List.nodup_append] at nd'
      exact nd'.2.2 _ z _ (by simp [kn]) rfl
    obtain ⟨w',ih⟩:=kt_loop pr w0 hw r0 rest ks (done++[r]) (some (wl (krow r))) (by simpa using nd) (by simp at hl ⊢; omega)
    refine ⟨w',?_⟩
    rw [List.map_cons,List.map_cons,List.cons_append,forD_cons (ρ1:=[pr,some (gD (tab (done++[r]))),some (wl (krow r))]),ih,List.append_assoc]
    · rfl
    show g_kind_table_L0 [pr,some (gD (tab done)),some (wl (krow r))]=_
    have q:(!("kind" == "kind"))=false:=by decide
    have pt:=put_gD (d:=.tuple [elD r.el,wl r.own]) hn (by simp [tab]; simp at hl; omega)
    have e0:dIxA (wl (krow r)) (.int 0)=some (.str (Str.ofString "kind")):=by simp only [krow,wl,List.map_cons,ixL,at0]
    have e1:dIxA (wl (krow r)) (.int 1)=some (.str (nmK r.k)):=by simp only [krow,wl,List.map_cons,ixL,at1]
    have e2:dSl (wl (krow r)) (some 2) none=some (wl (elw r.el++oww r.own)):=by simp only [krow,wl,List.map_cons,slL,cut2]
    refine seq2 (ρ1:=[pr,some (gD (tab done)),some (wl (krow r))]) (if_f (by simp? only [e0,strNe,q]) rfl) ?_
    simp? only [e_put,e1,e2,ef_ok,pt]
    rw [tab_app]
def Rg (fs hs b bl:PyData) (ov:Bool):PyData:=.dict [(.none,.str "Reading"),(.str "fields",fs),(.str "heads",hs),(.str "body",b),(.str "blocks",bl),(.str "over",.bool ov),(.str "later",.list [])]
abbrev R0:PyData:=Rg (gD []) (gD []) .none (.list []) false
theorem rg_over (fs hs b bl:PyData) (ov:Bool):dFldD ["Reading"] "over" (Rg fs hs b bl ov)=some (.bool ov):=by kernel_rfl
theorem rg_body (fs hs b bl:PyData) (ov:Bool):dFldD ["Reading"] "body" (Rg fs hs b bl ov)=some b:=by kernel_rfl
theorem rg_heads (fs hs b bl:PyData) (ov:Bool):dFldD ["Reading"] "heads" (Rg fs hs b bl ov)=some hs:=by kernel_rfl
theorem rg_fields (fs hs b bl:PyData) (ov:Bool):dFldD ["Reading"] "fields" (Rg fs hs b bl ov)=some fs:=by kernel_rfl
theorem rg_blocks (fs hs b bl:PyData) (ov:Bool):dFldD ["Reading"] "blocks" (Rg fs hs b bl ov)=some bl:=by kernel_rfl
theorem rg_later (fs hs b bl:PyData) (ov:Bool):dFldD ["Reading"] "later" (Rg fs hs b bl ov)=some (.list []):=by kernel_rfl
theorem rg_setBody {f:Rho→Option PyData}{fs hs b bl d:PyData}{ov:Bool}{x y:Option PyData} (h:f [some (Rg fs hs b bl ov),x,y]=some d) :
    sFldV 0 "Reading" "body" f [some (Rg fs hs b bl ov),x,y]=some (.nx [some (Rg fs hs d bl ov),x,y]):=by
  rw [e_fldv,h]; kernel_rfl
theorem rg_putHeads {fk fv:Rho→Option PyData}{fs b bl d:PyData}{H:List (Str × PyData)}{t:Str}{ov:Bool}{x y:Option PyData} (h1:fk [some (Rg fs (gD H) b bl ov),x,y]=some (.str t)) (h2:fv [some (Rg fs (gD H) b bl ov),x,y]=some d) (ht:t ∉ H.map (·.1)) (hl:H.length ≤ 900) :
    sPut (.fl 0 "Reading" "heads") fk fv [some (Rg fs (gD H) b bl ov),x,y]=some (.nx [some (Rg fs (gD (H++[(t,d)])) b bl ov),x,y]):=by
  have e:getP (.fl 0 "Reading" "heads") [some (Rg fs (gD H) b bl ov),x,y]=some (gD H):=by kernel_rfl
  rw [e_put,e,h1,h2]
  simp only [Option.bind_some,put_gD ht hl,Option.map_some]
  kernel_rfl
theorem rg_putFields {fk fv:Rho→Option PyData}{hs b bl d:PyData}{F:List (Str × PyData)}{t:Str}{ov:Bool}{x y z:Option PyData} (h1:fk [some (Rg (gD F) hs b bl ov),x,y,z]=some (.str t)) (h2:fv [some (Rg (gD F) hs b bl ov),x,y,z]=some d) (ht:t ∉ F.map (·.1)) (hl:F.length ≤ 900) :
    sPut (.fl 0 "Reading" "fields") fk fv [some (Rg (gD F) hs b bl ov),x,y,z]=some (.nx [some (Rg (gD (F++[(t,d)])) hs b bl ov),x,y,z]):=by
  have e:getP (.fl 0 "Reading" "fields") [some (Rg (gD F) hs b bl ov),x,y,z]=some (gD F):=by kernel_rfl
  rw [e_put,e,h1,h2]
  simp only [Option.bind_some,put_gD ht hl,Option.map_some]
  kernel_rfl
structure HdOk (F:PyData) (t:Str) (ws:List Str):Prop where
  nm:∀ w∈ws,nmB w=true
  hd:∃ w0 r,ws=Str.ofString w0 :: r∧(w0="method" ∨ w0="main")
  len:ws.length ≤ 12
  bod:f_head_body [wl ws]=some (.str t)
  ish:∀ hs b bl ov,f_is_head [Rg F hs b bl ov,wl ws]=some (.bool true)
  tok:PyData.strOk t=true
theorem rd_head {F:PyData}{t:Str}{ws:List Str} (O:HdOk F t ws) {H:List (Str × PyData)} (ht:t ∉ H.map (·.1)) (hl:H.length ≤ 900) (i:Int) :
    f_reads_row [Rg F (gD H) .none (.list []) false,.int i,wl ws]=some (.bool true,Rg F (gD (H++[(t,wl ws)])) (.str t) (.list []) false):=by
  obtain ⟨w0,r,ew,hw⟩:=O.hd
  have hk:(w0 == "kind")=false:=by rcases hw with rfl | rfl <;> decide
  have e1:dIxA (wl ws) (.int 0)=some (.str (Str.ofString w0)):=by rw [ew]; simp only [wl,List.map_cons,ixL,at0]
  have e2:=O.ish (gD H) .none (.list []) false
  have e3:=in_gD (t:=t) (H:=H)
  rw [decide_eq_false ht] at e3
  have e4:(vFr [0] (dFn 1 f_head_body (aCons (dVar 2) aNil))) [some (Rg F (gD H) .none (.list []) false),some (.int i),some (wl ws)]=some (.str t):=by
    simp? only [O.bod]
  have e5:(vSc (dFld ["Reading"] "body" (dVar 0))) [some (Rg F (gD H) (.str t) (.list []) false),some (.int i),some (wl ws)]=some (.str t):=by
    simp? only [rg_body,sc_str]
  have e6:(vFr [0] (dVar 2)) [some (Rg F (gD H) (.str t) (.list []) false),some (.int i),some (wl ws)]=some (wl ws):=by
    simp? only [e_c]
  simp? only [f_reads_row,g_reads_row,rg_over,rg_body,rg_heads,truB,isnot_n,e1,strEq,hk,e2,O.bod,e_dIn,e3,rg_setBody e4,rg_putHeads e5 e6 ht hl,sc_bool]
theorem ltI {i j:Int} (h:¬ i < j):dLt (.int i) (.int j)=some (.bool false):=by simp [dLt,dI,h]
theorem tru_g0:dTruthA (gD [])=some false:=by kernel_rfl
theorem e_frz (j:Nat) (g:Rho→Option Out) (ρ:Rho):sFrz j g ρ=(g ρ).map (unsetO j):=rfl
theorem cut_oww (own:List Str):cutL ((oww own).map PyData.str) (some 1) none=own.map .str:=by
  cases own with
  | nil=>rfl
  | cons a l=>rw [oww,List.map_cons,cut1]
theorem set4 {f:Rho→Option PyData}{a b c d:Option PyData}{x:PyData} (h:f [none,b,c,none]=some x):sSetV (vFr [0,3] f) 2 [a,b,c,d]=some (.nx [a,b,some x,d]):=by
  rw [e_setv,e_vfr,er1,er1,er0]
  show (f [none,b,c,none]).map _=_
  rw [h]; rfl
theorem kd_first {r:KR}{F:List (Str × PyData)}{hs:PyData} (hn:nmK r.k ∉ F.map (·.1)) (h0:dTruthA hs=some false) {b bl:PyData}{ov:Bool} :
    (fOr (fTA (dFld ["Reading"] "heads" (dVar 0))) (fOr (fB (d2 dLt (dCall dLenA (aCons (dVar 1) aNil)) (dC (.int 2)))) (fB (d2 dIn (d2 dIxA (dVar 1) (dC (.int 1))) (dFld ["Reading"] "fields" (dVar 0)))))) [some (Rg (gD F) hs b bl ov),some (wl (krow r)),none,none]=some false:=by
  have e1:dIxA (wl (krow r)) (.int 1)=some (.str (nmK r.k)):=by simp only [krow,wl,List.map_cons,ixL,at1]
  have e2:dLenA [wl (krow r)]=some (.int (((krow r).map PyData.str).length:Int)):=lenL _
  have e3:dLt (.int (((krow r).map PyData.str).length:Int)) (.int 2)=some (.bool false):=ltI (by simp [krow]; omega)
  have e4:=in_gD (t:=nmK r.k) (H:=F)
  rw [decide_eq_false hn] at e4
  simp? only [rg_heads,h0,e2,e3,e1,rg_fields,e_dIn,e4]
def Inh (F:List (Str × PyData)) (el:Option Nat) (inh:List Str):Prop:=match el with
  | none=>inh=[]
  | some j=>(nmK j,wl inh)∈F
theorem kd_elder {el:Option Nat}{own inh:List Str}{F:List (Str × PyData)} (nd:(F.map (·.1)).Nodup) (hi:Inh F el inh) {hs b bl w:PyData}{ov:Bool} :
    (sIf (fAnd (fTA (dVar 2)) (fB (d2 dEq (d2 dIxA (dVar 2) (dC (.int 0))) (dC (.str "of")))))
      (sSeq (sIf (fOr (fB (d2 dLt (dCall dLenA (aCons (dVar 2) aNil)) (dC (.int 2)))) (fB (d2 dNotIn (d2 dIxA (dVar 2) (dC (.int 1))) (dFld ["Reading"] "fields" (dVar 0)))))
      (sRetI (dC (.bool false)))
      sNil)
      (sSeq (sNewF (vFl (dCall dListA (aCons (d2 dIxA (dFld ["Reading"] "fields" (dVar 0)) (d2 dIxA (dVar 2) (dC (.int 1)))) aNil))) 3)
      (sSetV (vFr [0,3] (dSlice (dVar 2) (oSome (dC (.int 2))) oNone)) 2)))
      sNil) [some (Rg (gD F) hs b bl ov),some w,some (wl (elw el++oww own)),some (wl [])]=some (.nx [some (Rg (gD F) hs b bl ov),some w,some (wl (oww own)),some (wl inh)]):=by
  cases el with
  | none =>
    have hi':inh=[]:=hi
    subst hi'
    refine if_f ?_ ?_
    · cases own with
      | nil=>simp? only [elw,oww,wl,tru_nil]
      | cons a l =>
        have s1:("fields" == "of")=false:=by decide
        simp? only [elw,oww,wl,tru_cons,ixL,at0,strEq,s1]
    · rfl
  | some j =>
    have hi':(nmK j,wl inh)∈F:=hi
    have s2:("of" == "of")=true:=by decide
    have c0:dIxA (wl (elw (some j)++oww own)) (.int 0)=some (.str (Str.ofString "of")):=by simp only [elw,wl,List.cons_append,List.map_cons,ixL,at0]
    have c1:dIxA (wl (elw (some j)++oww own)) (.int 1)=some (.str (nmK j)):=by simp only [elw,wl,List.cons_append,List.map_cons,ixL,at1]
    have c2:dSl (wl (elw (some j)++oww own)) (some 2) none=some (wl (oww own)):=by simp only [elw,wl,List.cons_append,List.nil_append,List.map_cons,slL,cut2]
    have c3:dTruthA (wl (elw (some j)++oww own))=some true:=rfl
    have c4:dLenA [wl (elw (some j)++oww own)]=some (.int (((elw (some j)++oww own).map PyData.str).length:Int)):=lenL _
    have c5:dLt (.int (((elw (some j)++oww own).map PyData.str).length:Int)) (.int 2)=some (.bool false):=ltI (by simp [elw]; omega)
    have c6:=in_gD (t:=nmK j) (H:=F)
    rw [decide_eq_true (List.mem_map.mpr ⟨_,hi',rfl⟩)] at c6
    have c7:=ix_gD nd hi'
    refine if_t ?_ (seq2 (ρ1:=[some (Rg (gD F) hs b bl ov),some w,some (wl (elw (some j)++oww own)),some (wl [])]) (if_f ?_ rfl) (seq2 (ρ1:=[some (Rg (gD F) hs b bl ov),some w,some (wl (elw (some j)++oww own)),some (wl inh)]) ?_ (set4 ?_)))
    · simp? only [c3,c0,strEq,s2]
    · simp? only [c4,c5,c1,rg_fields,e_dNotIn,c6]
    · simp? only [rg_fields,c1,c7,listA_l,flat_wl]
    · simp? only [c2]
theorem rd_kind {r:KR}{inh:List Str}{F:List (Str × PyData)}{hs:PyData} (nd:(F.map (·.1)).Nodup) (hn:nmK r.k ∉ F.map (·.1)) (h0:dTruthA hs=some false) (hi:Inh F r.el inh) (ho:(inh++r.own).Nodup) (hl:F.length ≤ 900) (h9:inh.length + r.own.length ≤ 900) :
    f_reads_kind [Rg (gD F) hs .none (.list []) false,wl (krow r)]=some (.bool true,Rg (gD (F++[(nmK r.k,wl (inh++r.own))])) hs .none (.list []) false):=by
  have z:(inh.map PyData.str).length + (r.own.map PyData.str).length ≤ 16777216:=by simp; omega
  have e1:dIxA (wl (krow r)) (.int 1)=some (.str (nmK r.k)):=by simp only [krow,wl,List.map_cons,ixL,at1]
  have e2:dSl (wl (krow r)) (some 2) none=some (wl (elw r.el++oww r.own)):=by simp only [krow,wl,List.map_cons,slL,cut2]
  have on:=once_ok ho (by simpa using h9)
  have g:g_reads_kind [some (Rg (gD F) hs .none (.list []) false),some (wl (krow r)),none,none]=some (.rt (.tuple [.bool true,Rg (gD (F++[(nmK r.k,wl (inh++r.own))])) hs .none (.list []) false])):=by
    refine seq2 (if_f (kd_first hn h0) rfl) (seq2 (set4 (x:=wl (elw r.el++oww r.own)) ?_) (seq2 (ρ1:=[some (Rg (gD F) hs .none (.list []) false),some (wl (krow r)),some (wl (elw r.el++oww r.own)),some (wl [])]) ?_ (seq2 (kd_elder nd hi) (seq2 (ρ1:=[some (Rg (gD F) hs .none (.list []) false),some (wl (krow r)),some (wl (oww r.own)),some (wl inh)]) (if_f ?_ rfl) (seq2 (ρ1:=[some (Rg (gD F) hs .none (.list []) false),some (wl (krow r)),some (wl (oww r.own)),some (wl (inh++r.own))]) ?_ ?_)))))
    · simp? only [e2]
    · simp? only [e_c]; rfl
    · have hh:r.own=[] ∨ ∃ a l,r.own=a :: l:=by cases r.own <;> simp
      rcases hh with q | ⟨a,l,q⟩
      · rw [q]; simp? only [oww,wl,tru_nil]
      · have s1:(!("fields" == "fields"))=false:=by decide
        have s2:dLt (.int (((l.map PyData.str).length + 1 + 1:Nat):Int)) (.int 2)=some (.bool false):=ltI (by omega)
        rw [q]; simp? only [oww,wl,tru_cons,ixL,at0,strNe,s1,lenL,s2]
    · simp? only [wl,cut_oww,if_pos z,List.map_append]
    · rw [e_frz,seq2 (rg_putFields (t:=nmK r.k) (d:=wl (inh++r.own)) ?_ ?_ hn hl) (o:=some (.rt (.tuple [.bool true,Rg (gD (F++[(nmK r.k,wl (inh++r.own))])) hs .none (.list []) false]))) ?_]
      · rfl
      · simp? only [e1]
      · simp? only [e_c]
      · simp? only [on,sc_bool]
  rw [f_reads_kind,e_runI]
  show outI (g_reads_kind [some (Rg (gD F) hs .none (.list []) false),some (wl (krow r)),none,none])=_
  rw [g,outI_rt]
theorem rd_krow {r:KR}{inh:List Str}{F:List (Str × PyData)}{hs:PyData} (nd:(F.map (·.1)).Nodup) (hn:nmK r.k ∉ F.map (·.1)) (h0:dTruthA hs=some false) (hi:Inh F r.el inh) (ho:(inh++r.own).Nodup) (hl:F.length ≤ 900) (h9:inh.length + r.own.length ≤ 900) (i:Int) :
    f_reads_row [Rg (gD F) hs .none (.list []) false,.int i,wl (krow r)]=some (.bool true,Rg (gD (F++[(nmK r.k,wl (inh++r.own))])) hs .none (.list []) false):=by
  have s1:("kind" == "kind")=true:=by decide
  have e1:dIxA (wl (krow r)) (.int 0)=some (.str (Str.ofString "kind")):=by simp only [krow,wl,List.map_cons,ixL,at0]
  have e2:=rd_kind nd hn h0 hi ho hl h9
  simp? only [f_reads_row,g_reads_row,rg_over,rg_body,truB,isnot_n,e1,strEq,s1,e2,sc_bool]
theorem e_exprx (h:Rho→Option (PyData × Rho)) (ρ:Rho):sExprX h ρ=(h ρ).map fun r=>.nx r.2:=rfl
theorem rg_over1 {f:Rho→Option PyData}{fs hs b bl:PyData}{ov d:Bool} (h:f [some (Rg fs hs b bl ov)]=some (.bool d)) :
    sFldV 0 "Reading" "over" f [some (Rg fs hs b bl ov)]=some (.nx [some (Rg fs hs b bl d)]):=by
  rw [e_fldv,h]; kernel_rfl
theorem rg_body1 {f:Rho→Option PyData}{fs hs b bl d:PyData}{ov:Bool} (h:f [some (Rg fs hs b bl ov)]=some d) :
    sFldV 0 "Reading" "body" f [some (Rg fs hs b bl ov)]=some (.nx [some (Rg fs hs d bl ov)]):=by
  rw [e_fldv,h]; kernel_rfl
theorem close_ok {t:Str} (h1:PyData.strOk t=true) (F hs:PyData) :
    f_close_block [Rg F hs (.str t) (.list []) false]=some (.none,Rg F hs .none (.list []) (t == Str.ofString "main")):=by
  have e1:(vSc (d2 dEq (dFld ["Reading"] "body" (dVar 0)) (dC (.str "main")))) [some (Rg F hs (.str t) (.list []) false)]=some (.bool (t == Str.ofString "main")):=by
    simp? only [rg_body,dEqS h1 (strOk_ofString _),sc_bool]
  have e2:(vFr [0] (dC .none)) [some (Rg F hs (.str t) (.list []) (t == Str.ofString "main"))]=some .none:=rfl
  simp? only [f_close_block,g_close_block,rg_blocks,tru_nil,rg_over1 e1,rg_body1 e2]
theorem end_end:dEq (.list [.str "end"]) (.list [.str "end"])=some (.bool true):=by kernel_rfl
theorem rd_end {t:Str} (h1:PyData.strOk t=true) (F hs:PyData) (i:Int) :
    f_reads_row [Rg F hs (.str t) (.list []) false,.int i,wl ["end"]]=some (.bool true,Rg F hs .none (.list []) (t == Str.ofString "main")):=by
  have e1:f_reads_within [Rg F hs (.str t) (.list []) false,.int i,.list [.str "end"]]=some (.bool true,Rg F hs .none (.list []) (t == Str.ofString "main")):=by
    simp? only [f_reads_within,g_reads_within,end_end,e_exprx,close_ok h1,sc_none,sc_bool]
  simp? only [f_reads_row,g_reads_row,wl,rg_over,rg_body,truB,isnot_s,e1,sc_bool]
theorem all_names (T:Rho→Option Bool) (C:Rho→Option PyData) (hT:T=fun _=>some true) (hC:C=dFn 1 f_is_name (aCons (dVar 0) aNil)):∀ (ws:List Str),(∀ w∈ws,nmB w=true)→compD T C [] (ws.map .str)=some (ws.map fun _=>.bool true)
  | [],_=>rfl
  | w :: ws,h=>by
    have ih:=all_names T C hT hC ws fun z hz=>h z (by simp [hz])
    have e:C [some (.str w)]=some (.bool true):=by
      rw [hC]; simp? only [is_name (h w (by simp))]
    have e0:T [some (.str w)]=some true:=by rw [hT]
    rw [List.map_cons,compD,e0]
    simp? only [e,ih]
theorem bools_true {α:Type}:∀ ws:List α,boolsOf (ws.map fun _=>PyData.bool true)=some (ws.map fun _=>true)
  | []=>rfl
  | w :: ws=>by show (boolsOf (ws.map fun _=>PyData.bool true)).map (true :: ·)=_; rw [bools_true ws]; rfl
theorem all_true {α:Type} (ws:List α):dAll [.list (ws.map fun _=>PyData.bool true)]=some (.bool true):=by
  show (boolsOf (ws.map fun _=>PyData.bool true)).map _=_
  rw [bools_true]; simp
theorem gtI {i j:Int} (h:j < i):dGt (.int i) (.int j)=some (.bool true):=by simp [dGt,dI,h]
theorem addWl (as bs:List Str) (h:as.length + bs.length ≤ 900):dAdd (wl as) (wl bs)=some (wl (as++bs)):=by
  show (if _ then _ else none)=_
  rw [if_pos (by rw [List.length_map,List.length_map,sizeLine_eq]; omega),← List.map_append]
theorem an_meth (k m:Str):f_are_heads_names [wl [Str.ofString "method",k,m]]=some (.bool true):=by
  have e1:("method" == "func")=false:=by decide
  have h1:=hp_meth k m []
  have h2:=hk_meth k m []
  have h3:=addWl [] [] (by simp)
  have h4:(sRet (dAndV (d2 dNotIn (dC (.str "self")) (dVar 1)) (dFn 1 f_are_once (aCons (dVar 1) aNil)))) [some (wl [Str.ofString "method",k,m]),some (wl [])]=some (.rt (.bool true)):=by kernel_rfl
  simp only [List.append_nil] at h3
  simp only [wl,List.map_cons,List.map_nil] at h1 h2 h3 h4
  simp? only [f_are_heads_names,g_are_heads_names,e_run,e_start,e_seq,h4,wl,ixL,at0,strEq,e1,slL,cut2,e_dIn,h1,h2,h3,h4]
theorem ih_meth (k m:Str) {F:List (Str × PyData)} (hk:k∈F.map (·.1)) (hs b bl:PyData) (ov:Bool) :
    f_is_head [Rg (gD F) hs b bl ov,wl [Str.ofString "method",k,m]]=some (.bool true):=by
  have e1:("method" == "func")=false:=by decide
  have e3:("method" == "method")=true:=by decide
  have e2:dGt (.int ((3:Nat):Int)) (.int 2)=some (.bool true):=gtI (by omega)
  have ha:=an_meth k m
  have hi:=in_gD (t:=k) (H:=F)
  rw [decide_eq_true hk] at hi
  simp only [wl,List.map_cons,List.map_nil] at ha
  simp? only [f_is_head,g_is_head,wl,ixL,at0,at1,strEq,e1,e3,lenL,e2,rg_fields,e_dIn,hi,ha]
theorem ok_dot {k m:Str} (nk:nmB k=true) (hm:nmB m=true):PyData.strOk (dotS k m)=true:=by
  have a:=nm_ok nk
  have b:=nm_ok hm
  unfold PyData.strOk at a b ⊢
  rw [Array.all_eq_true_iff_forall_mem] at a b ⊢
  intro c hc
  have:c∈k.cps ∨ c∈(Str.ofString ".").cps ∨ c∈m.cps:=by
    simpa [dotS,Str.cps_append] using hc
  rcases this with z | z | z
  · exact a c z
  · rw [lit_dot] at z; simp at z; subst z; decide
  · exact b c z
theorem hd_meth {k m:Str}{F:List (Str × PyData)} (hk:k∈F.map (·.1)) (nk:nmB k=true) (hm:nmB m=true) :
    HdOk (gD F) (dotS k m) [Str.ofString "method",k,m]:=by
  have lk:=(nm_iff.mp nk).2.1
  have lm:=(nm_iff.mp hm).2.1
  refine ⟨?_,⟨"method",_,rfl,.inl rfl⟩,by simp,hb_meth _ _ _ lk lm,fun hs' b bl ov=>ih_meth k m hk _ _ _ _,ok_dot nk hm⟩
  intro w hw
  simp only [List.mem_cons,List.not_mem_nil,or_false] at hw
  rcases hw with rfl | rfl | rfl
  · decide +kernel
  · exact nk
  · exact hm
theorem hd_main (F:PyData):HdOk F (Str.ofString "main") [Str.ofString "main"] :=
  ⟨by intro w hw; simp at hw; subst hw; decide +kernel,⟨"main",[],rfl,.inr rfl⟩,by decide,hb_main,fun hs b bl ov=>by kernel_rfl,strOk_ofString _⟩
abbrev Hd:=Nat × Str
def hrow (h:Hd):List Str:=[Str.ofString "method",nmK h.1,h.2]
def hnm (h:Hd):Str:=dotS (nmK h.1) h.2
def hrows:List Hd→List (List Str)
  | []=>[]
  | h :: r=>hrow h :: [Str.ofString "end"] :: hrows r
def mains:List (List Str):=[[Str.ofString "main"],[Str.ofString "end"]]
def allRows (ks:List KR) (hs:List Hd):List (List Str):=ks.map krow++(hrows hs++mains)
structure KG (ks:List KR):Prop where
  ok:KOk ks
  own_nm:∀ (i:Nat) (r:KR),ks[i]?=some r→∀ w∈r.own,nmB w=true
  own3:∀ (i:Nat) (r:KR),ks[i]?=some r→r.own.length ≤ 3
  ms_nm:∀ (i:Nat) (r:KR),ks[i]?=some r→∀ w∈r.ms,nmB w=true
  ms_nd:∀ (i:Nat) (r:KR),ks[i]?=some r→r.ms.Nodup
  ms3:∀ (i:Nat) (r:KR),ks[i]?=some r→r.ms.length ≤ 3
  nd:∀ i,i < ks.length→(flds ks i).Nodup
structure HG (ks:List KR) (hs:List Hd):Prop where
  lt:∀ h∈hs,h.1 < ks.length
  nm:∀ h∈hs,nmB h.2=true
  nd:(hs.map hnm).Nodup
  len:hs.length ≤ 60
def Reads:PyData→List (List Str)→PyData→Prop
  | R,[],R'=>R=R'
  | R,ws :: r,R'=>∃ R1,(∀ w∈ws,nmB w=true)∧(∀ i:Int,f_reads_row [R,.int i,wl ws]=some (.bool true,R1))∧Reads R1 r R'
theorem Reads.app:∀ {as bs:List (List Str)}{R R1 R2:PyData},Reads R as R1→Reads R1 bs R2→Reads R (as++bs) R2
  | [],_,_,_,_,h1,h2=>by cases h1; exact h2
  | _ :: _,_,_,_,_,⟨Q,a,b,c⟩,h2=>⟨Q,a,b,c.app h2⟩
theorem nm_end:∀ w∈[Str.ofString "end"],nmB w=true:=by intro w hw; simp at hw; subst hw; decide +kernel
theorem nm_krow {ks:List KR} (G:KG ks) {i:Nat}{r:KR} (h:ks[i]?=some r):∀ w∈krow r,nmB w=true:=by
  have hl:=G.ok.len
  have hi:=lt_of_get h
  intro w hw
  rw [krow] at hw
  rcases List.mem_cons.mp hw with rfl | hw
  · decide +kernel
  rcases List.mem_cons.mp hw with rfl | hw
  · exact nmK_nm (by rw [G.ok.id i r h]; omega)
  rcases List.mem_append.mp hw with hw | hw
  · cases e:r.el with
    | none=>rw [e] at hw; simp [elw] at hw
    | some j =>
      have:=G.ok.el i r j h e
      rw [e,elw] at hw
      rcases List.mem_cons.mp hw with rfl | hw
      · decide +kernel
      · simp at hw; subst hw; exact nmK_nm (by omega)
  · have o:=G.own_nm i r h
    revert hw o
    cases r.own with
    | nil=>intro hw; simp [oww] at hw
    | cons a l =>
      intro hw o
      rw [oww] at hw
      rcases List.mem_cons.mp hw with rfl | hw
      · decide +kernel
      · exact o w hw
theorem len_krow {ks:List KR} (G:KG ks) {i:Nat}{r:KR} (h:ks[i]?=some r):(krow r).length ≤ 8:=by
  have h3:=G.own3 i r h
  have h1:(elw r.el).length ≤ 2:=by cases r.el <;> simp [elw]
  have h2:(oww r.own).length ≤ r.own.length + 1:=by cases r.own <;> simp [oww]
  simp [krow]; omega
theorem nm_hrow {h:Hd} (h1:h.1 < 26) (h2:nmB h.2=true):∀ w∈hrow h,nmB w=true:=by
  intro w hw
  simp only [hrow,List.mem_cons,List.not_mem_nil,or_false] at hw
  rcases hw with rfl | rfl | rfl
  · decide +kernel
  · exact nmK_nm h1
  · exact h2
def fdl (ks done:List KR):List (Str × PyData):=done.map fun r=>(nmK r.k,wl (flds ks r.k))
theorem fdl_keys (ks done:List KR):(fdl ks done).map (·.1)=kn done:=by simp [fdl,kn,Function.comp_def]
theorem reads_kinds {ks:List KR} (G:KG ks):∀ rest done:List KR,done++rest=ks→Reads (Rg (gD (fdl ks done)) (gD []) .none (.list []) false) (rest.map krow) (Rg (gD (fdl ks ks)) (gD []) .none (.list []) false)
  | [],done,e=>by rw [List.append_nil] at e; subst e; rfl
  | r :: rest,done,e=>by
    have hl:=G.ok.len
    have hr:ks[done.length]?=some r:=by rw [← e]; simp
    have hk:=G.ok.id _ _ hr
    have hd:=lt_of_get hr
    have nd':(kn done++kn (r :: rest)).Nodup:=by
      have:=kn_nodup G.ok
      rw [← e] at this
      simpa [kn] using this
    have nd1:((fdl ks done).map (·.1)).Nodup:=by rw [fdl_keys]; exact (List.nodup_append.mp nd').1
    have hn:nmK r.k ∉ (fdl ks done).map (·.1):=fun z=>by
      rw [fdl_keys] at z
      exact (List.nodup_append.mp nd').2.2 _ z _ (by simp [kn]) rfl
    have key:∃ inh,Inh (fdl ks done) r.el inh∧flds ks r.k=inh++r.own∧inh.length ≤ 800:=by
      cases q:r.el with
      | none=>exact ⟨[],rfl,by rw [hk,flds_top hr q]; simp,by simp⟩
      | some j =>
        have hj:=G.ok.el _ _ _ hr q
        refine ⟨flds ks j,?_,by rw [hk,flds_up G.ok hr q],?_⟩
        · have hx:done[j]?=some done[j]:=List.getElem?_eq_getElem hj
          have hy:ks[j]?=some done[j]:=by rw [← e,List.getElem?_append_left hj,hx]
          have:=G.ok.id _ _ hy
          exact List.mem_map.mpr ⟨done[j],List.mem_of_getElem? hx,by rw [this]⟩
        · have h1:=FL_len G.own3 (chn ks j)
          have h2:=(ch_of G.ok (j + 1) j (by omega) (by omega)).2
          rw [flds]; omega
    obtain ⟨inh,h1,h2,h3⟩:=key
    have h4:=G.nd _ hd
    rw [← hk,h2] at h4
    have h5:=G.own3 _ _ hr
    have h6:(fdl ks done).length ≤ 900:=by
      have:(fdl ks done).length=done.length:=by simp [fdl]
      omega
    refine ⟨_,nm_krow G hr,rd_krow nd1 hn tru_g0 h1 h4 h6 (by omega),?_⟩
    have ih:=reads_kinds G rest (done++[r]) (by rw [← e]; simp)
    have ef:fdl ks (done++[r])=fdl ks done++[(nmK r.k,wl (inh++r.own))]:=by simp [fdl,h2]
    rw [ef] at ih
    exact ih
theorem hnm_main (h:Hd):hnm h ≠ Str.ofString "main":=fun z=>by
  have e:=congrArg (fun x:Str=>x.cps.toList[0]?) z
  rw [show (Str.ofString "main").cps.toList[0]?=some 109 by decide +kernel] at e
  simp [hnm,dotS,nmK,Str.cps_append] at e
def hm (hs:List Hd):List (Str × PyData):=hs.map fun h=>(hnm h,wl (hrow h))
theorem hm_keys (hs:List Hd):(hm hs).map (·.1)=hs.map hnm:=by simp [hm,Function.comp_def]
theorem hd_ok {ks:List KR} (O:KOk ks) {h:Hd} (h1:h.1 < ks.length) (h2:nmB h.2=true) {F:List (Str × PyData)} (hF:F.map (·.1)=kn ks):HdOk (gD F) (hnm h) (hrow h):=by
  have hl:=O.len
  refine hd_meth ?_ (nmK_nm (by omega)) h2
  rw [hF,kn_eq O]
  exact List.mem_map.mpr ⟨h.1,by simp [h1],rfl⟩
theorem reads_heads {ks:List KR} (O:KOk ks) {F:List (Str × PyData)} (hF:F.map (·.1)=kn ks):∀ (hs:List Hd) (H:List (Str × PyData)),(∀ h∈hs,h.1 < ks.length)→(∀ h∈hs,nmB h.2=true)→(H.map (·.1)++hs.map hnm).Nodup→H.length + hs.length ≤ 900 →
    Reads (Rg (gD F) (gD H) .none (.list []) false) (hrows hs) (Rg (gD F) (gD (H++hm hs)) .none (.list []) false)
  | [],H,_,_,_,_=>by simp [hrows,Reads,hm]
  | h :: hs,H,a1,a2,nd,hl=>by
    have h16:=O.len
    have o:=hd_ok O (a1 h (by simp)) (a2 h (by simp)) hF
    have ht:hnm h ∉ H.map (·.1):=fun z=>by
      rw [List.nodup_append] at nd
      exact nd.2.2 _ z _ (by simp) rfl
    have ih:=reads_heads O hF hs (H++[(hnm h,wl (hrow h))]) (fun x hx=>a1 x (by simp [hx])) (fun x hx=>a2 x (by simp [hx])) (by simpa using nd) (by simp at hl ⊢; omega)
    have hb:(hnm h == Str.ofString "main")=false:=by simpa using hnm_main h
    have e3:=rd_end o.tok (gD F) (gD (H++[(hnm h,wl (hrow h))]))
    rw [hb] at e3
    refine ⟨_,o.nm,rd_head o ht (by simp at hl; omega),_,nm_end,e3,?_⟩
    simpa [hm] using ih
def hmm (hs:List Hd):List (Str × PyData):=hm hs++[(Str.ofString "main",wl [Str.ofString "main"])]
theorem main_new (hs:List Hd):Str.ofString "main" ∉ (hm hs).map (·.1):=fun z=>by
  rw [hm_keys] at z
  obtain ⟨h,_,e⟩:=List.mem_map.mp z
  exact hnm_main h e
theorem reads_all {ks:List KR}{hs:List Hd} (G:KG ks) (Q:HG ks hs):∃ F,Reads R0 (allRows ks hs) (Rg F (gD (hmm hs)) .none (.list []) true):=by
  have e1:=reads_kinds G ks [] rfl
  have e2:=reads_heads G.ok (fdl_keys ks ks) hs [] Q.lt Q.nm (by simpa using Q.nd) (by have:=Q.len; simp; omega)
  have e3:=rd_end (strOk_ofString "main") (gD (fdl ks ks)) (gD (hmm hs))
  have hb:(Str.ofString "main" == Str.ofString "main")=true:=by simp
  rw [hb] at e3
  have hl:=Q.len
  refine ⟨_,e1.app (e2.app ⟨_,(hd_main (gD [])).nm,rd_head (hd_main _) (by rw [List.nil_append]; exact main_new hs) (by simp [hm]; omega),_,nm_end,e3,rfl⟩)⟩
def brX (c:Option (Bool × Rho)) (g h:Rho→Option Out):Option Out:=match c with
  | some (true,ρ)=>g ρ
  | some (false,ρ)=>h ρ
  | none=>none
theorem brX_f (g h:Rho→Option Out) (ρ:Rho):brX (some (false,ρ)) g h=h ρ:=rfl
theorem e_ifx (c:Rho→Option (Bool × Rho)) (g h:Rho→Option Out) (ρ:Rho):sIfX c g h ρ=brX (c ρ) g h:=by
  unfold sIfX brX
  rcases c ρ with _ | ⟨_ | _,ρ'⟩ <;> rfl
theorem e_hor (g:Rho→Option Bool) (h:Rho→Option (Bool × Rho)) (ρ:Rho):hOr g h ρ=brB (g ρ) (fun ρ=>some (true,ρ)) h ρ:=by
  unfold hOr brB
  rcases g ρ with _ | _ | _ <;> rfl
theorem read_step {ws:List Str}{R R' tx rw:PyData}{c:Option PyData}{i:Int} (h:∀ w∈ws,nmB w=true) (hw:ws.length ≤ 900) (e:f_reads_row [R,.int i,wl ws]=some (.bool true,R')) :
    g_read_program_L2 [some tx,some R,some rw,some (.int i),some (wl ws),c]=some (.nx [some tx,some R',some rw,some (.int i),some (wl ws),c]):=by
  have e1:=all_names g_read_program_T1 g_read_program_C1 rfl rfl ws h
  have e2:=all_true ws
  have hz:ws.length ≤ 16777216:=by omega
  simp? only [g_read_program_L2,e_ifx,brX_f,e_hor,wl,List.length_map,if_pos hz,capD,e1,e2,truB]
  rw [show (PyData.list (List.map PyData.str ws))=wl ws from rfl,e]
  simp? only [sc_bool,brX_f]
theorem read_loop (tx rw:PyData) (c:Option PyData):∀ (rows:List (List Str)) (n:Nat) (R R':PyData) (a b:Option PyData),Reads R rows R'→(∀ ws∈rows,ws.length ≤ 900) →
    ∃ a' b',forD (bdT (.many [3,4])) g_read_program_L2 (((rows.map wl).zipIdx n).map fun x=>.tuple [.int x.2,x.1]) [some tx,some R,some rw,a,b,c]=some (.nx [some tx,some R',some rw,a',b',c])
  | [],n,R,R',a,b,h,_=>by cases h; exact ⟨a,b,rfl⟩
  | ws :: rows,n,R,R',a,b,⟨R1,h1,h2,h3⟩,hl=>by
    obtain ⟨a',b',e⟩:=read_loop tx rw c rows (n + 1) R1 R' (some (.int n)) (some (wl ws)) h3 fun x hx=>hl x (by simp [hx])
    refine ⟨a',b',?_⟩
    rw [List.map_cons,List.zipIdx_cons,List.map_cons,forD]
    show (g_read_program_L2 [some tx,some R,some rw,some (.int n),some (wl ws),c]).bind _=_
    rw [read_step h1 (hl ws (by simp)) (h2 n)]
    exact e
theorem eq00:dEq (.int 0) (.int 0)=some (.bool true):=by kernel_rfl
theorem kind_if:dInB (.str (Str.ofString "kind")) (.tuple [.str (Str.ofString "if"),.str (Str.ofString "while")])=some false:=by kernel_rfl
theorem bh_kinds (pr hs:Option PyData) (ds:List PyData):∀ (ks:List KR) (w:Option PyData),∃ w',forD (bdT (.one 3)) g_body_heads_L0 ((ks.map krow).map wl++ds) [pr,hs,some (.int 0),w]=forD (bdT (.one 3)) g_body_heads_L0 ds [pr,hs,some (.int 0),w']
  | [],w=>⟨w,rfl⟩
  | r :: ks,w=>by
    obtain ⟨w',ih⟩:=bh_kinds pr hs ds ks (some (wl (krow r)))
    refine ⟨w',?_⟩
    rw [List.map_cons,List.map_cons,List.cons_append,forD_cons (ρ1:=[pr,hs,some (.int 0),some (wl (krow r))]),ih]
    show g_body_heads_L0 [pr,hs,some (.int 0),some (wl (krow r))]=_
    have h1:("kind" == "end")=false:=by decide
    have h2:(!("kind" == "kind"))=false:=by decide
    have e1:dIxA (wl (krow r)) (.int 0)=some (.str (Str.ofString "kind")):=by simp only [krow,wl,List.map_cons,ixL,at0]
    simp? only [g_body_heads_L0,e1,strEq,strNe,h1,h2,eq00,e_dIn,kind_if]
theorem bh_head {F:PyData}{t:Str}{ws:List Str} (O:HdOk F t ws) {H:List (Str × PyData)} (ht:t ∉ H.map (·.1)) (hl:H.length ≤ 900) (pr w:Option PyData) (ds:List PyData) :
    forD (bdT (.one 3)) g_body_heads_L0 (wl ws :: wl [Str.ofString "end"] :: ds) [pr,some (gD H),some (.int 0),w]=forD (bdT (.one 3)) g_body_heads_L0 ds [pr,some (gD (H++[(t,wl ws)])),some (.int 0),some (wl [Str.ofString "end"])]:=by
  rw [forD_cons (ρ1:=[pr,some (gD (H++[(t,wl ws)])),some (.int 1),some (wl ws)]),forD_cons (ρ1:=[pr,some (gD (H++[(t,wl ws)])),some (.int 0),some (wl [Str.ofString "end"])]) (by kernel_rfl)]
  show g_body_heads_L0 [pr,some (gD H),some (.int 0),some (wl ws)]=_
  obtain ⟨w0,r,ew,hw⟩:=O.hd
  have h1:(w0 == "end")=false:=by rcases hw with rfl | rfl <;> decide
  have h2:(w0 == "kind")=false:=by rcases hw with rfl | rfl <;> decide
  have e1:dIxA (wl ws) (.int 0)=some (.str (Str.ofString w0)):=by rw [ew]; simp only [wl,List.map_cons,ixL,at0]
  simp? only [g_body_heads_L0,e_put,e1,strEq,strNe,h1,h2,eq00,O.bod,put_gD ht hl]
theorem bh_heads {ks:List KR} (O:KOk ks) (pr:Option PyData) (ds:List PyData):∀ (hs:List Hd) (H:List (Str × PyData)) (w:Option PyData),(∀ h∈hs,h.1 < ks.length)→(∀ h∈hs,nmB h.2=true)→(H.map (·.1)++hs.map hnm).Nodup→H.length + hs.length ≤ 900 →
    ∃ w',forD (bdT (.one 3)) g_body_heads_L0 ((hrows hs).map wl++ds) [pr,some (gD H),some (.int 0),w]=forD (bdT (.one 3)) g_body_heads_L0 ds [pr,some (gD (H++hm hs)),some (.int 0),w']
  | [],H,w,_,_,_,_=>⟨w,by simp [hrows,hm]⟩
  | h :: hs,H,w,a1,a2,nd,hl=>by
    have o:=hd_ok O (a1 h (by simp)) (a2 h (by simp)) (F:=fdl ks ks) (fdl_keys ks ks)
    have ht:hnm h ∉ H.map (·.1):=fun z=>by
      rw [List.nodup_append] at nd
      exact nd.2.2 _ z _ (by simp) rfl
    obtain ⟨w',ih⟩:=bh_heads O pr ds hs (H++[(hnm h,wl (hrow h))]) (some (wl [Str.ofString "end"])) (fun x hx=>a1 x (by simp [hx])) (fun x hx=>a2 x (by simp [hx])) (by simpa using nd) (by simp at hl ⊢; omega)
    refine ⟨w',?_⟩
    rw [hrows,List.map_cons,List.map_cons,List.cons_append,List.cons_append,bh_head o ht (by simp at hl; omega),ih]
    simp [hm]
theorem bh_all {ks:List KR}{hs:List Hd} (G:KG ks) (Q:HG ks hs) (pr w:Option PyData):∃ w',forD (bdT (.one 3)) g_body_heads_L0 ((allRows ks hs).map wl) [pr,some (gD []),some (.int 0),w]=some (.nx [pr,some (gD (hmm hs)),some (.int 0),w']):=by
  have hl:=Q.len
  obtain ⟨w1,e1⟩:=bh_kinds pr (some (gD [])) ((hrows hs++mains).map wl) ks w
  obtain ⟨w2,e2⟩:=bh_heads G.ok pr (mains.map wl) hs [] w1 Q.lt Q.nm (by simpa using Q.nd) (by simp; omega)
  refine ⟨some (wl [Str.ofString "end"]),?_⟩
  rw [allRows,List.map_append,e1,List.map_append,e2,List.nil_append,mains,List.map_cons,List.map_cons,List.map_nil,bh_head (hd_main (gD [])) (main_new hs) (by simp [hm]; omega)]
  rfl
inductive Dp:Int→List (List Str)→Int→Prop
  | nil (d:Int):Dp d [] d
  | kind (r:KR) {rest:List (List Str)}{d:Int}:Dp 0 rest d→Dp 0 (krow r :: rest) d
  | head {F:PyData}{t:Str}{ws:List Str}{rest:List (List Str)}{d:Int}:HdOk F t ws→Dp 1 rest d→Dp 0 (ws :: rest) d
  | fin {rest:List (List Str)}{d d':Int}:Dp (d - 1) rest d'→Dp d ([Str.ofString "end"] :: rest) d'
theorem Dp.app:∀ {as bs:List (List Str)}{a b c:Int},Dp a as b→Dp b bs c→Dp a (as++bs) c
  | _,_,_,_,_,.nil _,h=>h
  | _,_,_,_,_,.kind r h,h2=>.kind r (h.app h2)
  | _,_,_,_,_,.head o h,h2=>.head o (h.app h2)
  | _,_,_,_,_,.fin h,h2=>.fin (h.app h2)
def GR (ws:List Str):Prop:=ws ≠ []∧(∀ w∈ws,nmB w=true)∧ws.length ≤ 12
theorem GR.len {ws:List Str} (h:GR ws):(Str.join ⟨#[32]⟩ ws).length ≤ 108:=by
  have:=join_len 32 ws (B:=8) fun w hw=>(nm_iff.mp (h.2.1 w hw)).2.1
  have:=h.2.2
  omega
theorem GR.split {ws:List Str} (h:GR ws):dSplit (.str (Str.join ⟨#[32]⟩ ws)) [.str ⟨#[32]⟩]=some (wl ws) :=
  d_split 32 ws h.1 (fun w hw=>nm_free (h.2.1 w hw) (by decide)) (by have:=h.len; omega)
theorem gt0 (d:Int):dGt (.int d) (.int 0)=some (.bool (decide (0 < d))):=rfl
theorem nr_loop (tx:PyData):∀ {d d':Int}{rows:List (List Str)},Dp d rows d'→∀ (k:Nat) (b:PyData) (l r w:Option PyData),(∀ ws∈rows,GR ws) →
    ∃ b' l' r' w',forD (bdT (.many [4,5])) g_numbered_rows_L0 (((rows.map fun ws=>PyData.str (Str.join ⟨#[32]⟩ ws)).zipIdx k).map fun x=>.tuple [.int x.2,x.1]) [some tx,some (.dict []),some b,some (.int d),l,r,w]=some (.nx [some tx,some (.dict []),b',some (.int d'),l',r',w']):=by
  intro d d' rows h
  induction h with
  | nil d=>intro k b l r w _; exact ⟨some b,l,r,w,rfl⟩
  | @kind r0 rest d hd ih =>
    intro k b l r w hg
    have g:=hg _ (List.mem_cons_self ..)
    obtain ⟨b',l',r',w',e⟩:=ih (k + 1) b (some (.int k)) (some (.str (Str.join ⟨#[32]⟩ (krow r0)))) (some (wl (krow r0))) fun ws hw=>hg ws (List.mem_cons_of_mem _ hw)
    refine ⟨b',l',r',w',?_⟩
    rw [List.map_cons,List.zipIdx_cons,List.map_cons,forD_cons ?_,e]
    show g_numbered_rows_L0 [some tx,some (.dict []),some b,some (.int 0),some (.int k),some (.str (Str.join ⟨#[32]⟩ (krow r0))),w]=_
    have e1:("kind" == "end")=false:=by decide
    have e2:(!("kind" == "kind"))=false:=by decide
    have e3:decide ((0:Int) < 0)=false:=by decide
    have e4:dIxA (wl (krow r0)) (.int 0)=some (.str (Str.ofString "kind")):=by simp only [krow,wl,List.map_cons,ixL,at0]
    simp? only [g_numbered_rows_L0,lit_sp,g.split,e4,strEq,strNe,e1,e2,gt0,e3]
  | @head F t ws rest d O hd ih =>
    intro k b l r w hg
    have g:=hg _ (List.mem_cons_self ..)
    obtain ⟨b',l',r',w',e⟩:=ih (k + 1) (.str t) (some (.int k)) (some (.str (Str.join ⟨#[32]⟩ ws))) (some (wl ws)) fun ws hw=>hg ws (List.mem_cons_of_mem _ hw)
    refine ⟨b',l',r',w',?_⟩
    rw [List.map_cons,List.zipIdx_cons,List.map_cons,forD_cons ?_,e]
    show g_numbered_rows_L0 [some tx,some (.dict []),some b,some (.int 0),some (.int k),some (.str (Str.join ⟨#[32]⟩ ws)),w]=_
    obtain ⟨w0,r,ew,hw⟩:=O.hd
    have h1:(w0 == "end")=false:=by rcases hw with rfl | rfl <;> decide
    have h2:(w0 == "kind")=false:=by rcases hw with rfl | rfl <;> decide
    have e1:dIxA (wl ws) (.int 0)=some (.str (Str.ofString w0)):=by rw [ew]; simp only [wl,List.map_cons,ixL,at0]
    have e3:decide ((0:Int) < 0)=false:=by decide
    simp? only [g_numbered_rows_L0,lit_sp,g.split,e1,strEq,strNe,h1,h2,gt0,e3,O.bod]
  | @fin rest d d' hd ih =>
    intro k b l r w hg
    have g:=hg _ (List.mem_cons_self ..)
    obtain ⟨b',l',r',w',e⟩:=ih (k + 1) b (some (.int k)) (some (.str (Str.join ⟨#[32]⟩ [Str.ofString "end"]))) (some (wl [Str.ofString "end"])) fun ws hw=>hg ws (List.mem_cons_of_mem _ hw)
    refine ⟨b',l',r',w',?_⟩
    rw [List.map_cons,List.zipIdx_cons,List.map_cons,forD_cons ?_,e]
    show g_numbered_rows_L0 [some tx,some (.dict []),some b,some (.int d),some (.int k),some (.str (Str.join ⟨#[32]⟩ [Str.ofString "end"])),w]=_
    have e1:("end" == "end")=true:=by decide
    simp? only [g_numbered_rows_L0,lit_sp,g.split,ixL,at0,strEq,strNe,e1]
def ln (ws:List Str):Str:=Str.join ⟨#[32]⟩ ws
theorem gr_krow {ks:List KR} (G:KG ks) {i:Nat}{r:KR} (h:ks[i]?=some r):GR (krow r):=⟨by simp [krow],nm_krow G h,by have:=len_krow G h; omega⟩
theorem gr_hrow {h:Hd} (h1:h.1 < 26) (h2:nmB h.2=true):GR (hrow h):=⟨by simp [hrow],nm_hrow h1 h2,by simp [hrow]⟩
theorem gr_one (s:String) (h:nmB (Str.ofString s)=true):GR [Str.ofString s]:=⟨by simp,by intro w hw; simp at hw; subst hw; exact h,by simp⟩
theorem gr_hrows:∀ hs:List Hd,(∀ h∈hs,h.1 < 26)→(∀ h∈hs,nmB h.2=true)→∀ ws∈hrows hs,GR ws
  | [],_,_,_,hw=>by simp [hrows] at hw
  | h :: hs,a,b,ws,hw=>by
    rw [hrows] at hw
    rcases List.mem_cons.mp hw with rfl | hw
    · exact gr_hrow (a h (by simp)) (b h (by simp))
    rcases List.mem_cons.mp hw with rfl | hw
    · exact gr_one "end" (by decide +kernel)
    · exact gr_hrows hs (fun x hx=>a x (by simp [hx])) (fun x hx=>b x (by simp [hx])) ws hw
theorem gr_all {ks:List KR}{hs:List Hd} (G:KG ks) (Q:HG ks hs):∀ ws∈allRows ks hs,GR ws:=by
  have hl:=G.ok.len
  intro ws hw
  rcases List.mem_append.mp hw with hw | hw
  · obtain ⟨r,hr,rfl⟩:=List.mem_map.mp hw
    obtain ⟨i,hi,e⟩:=List.getElem_of_mem hr
    exact gr_krow G (i:=i) (by rw [List.getElem?_eq_getElem hi,e])
  rcases List.mem_append.mp hw with hw | hw
  · exact gr_hrows hs (fun h hh=>by have:=Q.lt h hh; omega) Q.nm ws hw
  · simp only [mains,List.mem_cons,List.not_mem_nil,or_false] at hw
    rcases hw with rfl | rfl
    · exact gr_one "main" (by decide +kernel)
    · exact gr_one "end" (by decide +kernel)
theorem lines_len {rows:List (List Str)} (h:∀ ws∈rows,GR ws):∀ y∈rows.map ln,y.length ≤ 108:=by
  intro y hy
  obtain ⟨ws,hw,rfl⟩:=List.mem_map.mp hy
  exact (h ws hw).len
theorem lines_free {rows:List (List Str)} (h:∀ ws∈rows,GR ws):∀ y∈rows.map ln,10 ∉ y.cps.toList:=by
  intro y hy
  obtain ⟨ws,hw,rfl⟩:=List.mem_map.mp hy
  exact join_free 32 10 (by decide) ws fun p hp=>nm_free ((h ws hw).2.1 p hp) (by decide)
theorem hrows_len:∀ hs:List Hd,(hrows hs).length=2 * hs.length
  | []=>rfl
  | h :: hs=>by simp [hrows,hrows_len hs]; omega
theorem all_len {ks:List KR}{hs:List Hd} (G:KG ks) (Q:HG ks hs):(allRows ks hs).length ≤ 140:=by
  have:=G.ok.len
  have:=Q.len
  simp [allRows,mains,hrows_len]; omega
def tx (ks:List KR) (hs:List Hd):Str:=Str.join ⟨#[10]⟩ ((allRows ks hs).map ln)
theorem tx_split {ks:List KR}{hs:List Hd} (G:KG ks) (Q:HG ks hs):dSplit (.str (tx ks hs)) [.str (Str.ofString "\n")]=some (wl ((allRows ks hs).map ln)):=by
  have g:=gr_all G Q
  have h1:=join_len 10 _ (lines_len g)
  have h2:=all_len G Q
  rw [lit_nl]
  exact d_split 10 _ (by simp [allRows,mains]) (lines_free g) (by rw [List.length_map] at h1; omega)
theorem jn_ok {ks:List KR}{hs:List Hd} (G:KG ks) (Q:HG ks hs):dJoin (.str (Str.ofString "\n")) [wl ((allRows ks hs).map ln)]=some (.str (tx ks hs)):=by
  have g:=gr_all G Q
  have h2:=all_len G Q
  rw [lit_nl]
  exact d_join 10 _ (lines_len g) (by rw [List.length_map]; omega)
theorem row_join {ws:List Str} (h:GR ws):dJoin (.str (Str.ofString " ")) [wl ws]=some (.str (ln ws)):=by
  rw [lit_sp]
  exact d_join 32 ws (B:=8) (fun w hw=>(nm_iff.mp (h.2.1 w hw)).2.1) (by have:=h.2.2; omega)
theorem ne_wl_nil {ks:List Str} (h:∀ w∈ks,PyData.strOk w=true):dNe (wl ks) (.list [])=some (.bool (!decide (ks=[]))):=dNe_wl (bs:=[]) h (by simp)
theorem setv_of {O:List Nat}{f:Rho→Option PyData}{ρ:Rho}{i:Nat}{d:PyData} (h:f (eraseO O ρ)=some d):sSetV (vFr O f) i ρ=some (.nx (ρ.set i (some d))):=by
  rw [e_setv,e_vfr,h]; rfl
section
variable {K t nm el own ms row hs hd L:Option PyData}
theorem t0_el (e:Option Nat) (k:Nat):sIf (fB (d2 dIsNotA (dVar 4) (dC .none))) (sSetV (vFr [2] (d2 dAdd (dVar 7) (dLst (aCons (dC (.str "of")) (aCons (dVar 4) aNil))))) 7) sNil [K,t,L,nm,some (elD e),own,ms,some (wl [Str.ofString "kind",nmK k]),hs,hd]=some (.nx [K,t,L,nm,some (elD e),own,ms,some (wl (Str.ofString "kind" :: nmK k :: elw e)),hs,hd]):=by
  cases e with
  | none=>exact if_f (by simp? only [elD,isnot_n]) rfl
  | some j =>
    have a1:dAdd (wl [Str.ofString "kind",nmK k]) (.list [.str (Str.ofString "of"),.str (nmK j)])=some (wl (Str.ofString "kind" :: nmK k :: elw (some j))):=addWl [Str.ofString "kind",nmK k] [Str.ofString "of",nmK j] (by simp)
    refine if_t (by simp? only [elD,isnot_s]) (setv_of ?_)
    simp? only [elD,a1]
theorem t0_own (o:List Str) (ho:∀ w∈o,PyData.strOk w=true) (h3:o.length ≤ 3) (R:List Str) (hR:R.length ≤ 100):sIf (fB (d2 dNe (dVar 5) (dLst aNil))) (sSetV (vFr [2] (d2 dAdd (d2 dAdd (dVar 7) (dLst (aCons (dC (.str "fields")) aNil))) (dVar 5))) 7) sNil [K,t,L,nm,el,some (wl o),ms,some (wl R),hs,hd]=some (.nx [K,t,L,nm,el,some (wl o),ms,some (wl (R++oww o)),hs,hd]):=by
  have nk:=ne_wl_nil ho
  cases o with
  | nil =>
    rw [decide_eq_true rfl] at nk
    rw [oww,List.append_nil]
    exact if_f (by simp? only [nk]) rfl
  | cons a l =>
    rw [decide_eq_false (by simp)] at nk
    have a1:dAdd (wl R) (.list [.str (Str.ofString "fields")])=some (wl (R++[Str.ofString "fields"])):=addWl R [Str.ofString "fields"] (by simp; omega)
    have a2:dAdd (wl (R++[Str.ofString "fields"])) (wl (a :: l))=some (wl (R++oww (a :: l))):=by
      rw [addWl _ _ (by simp at h3 ⊢; omega),oww]; simp
    refine if_t (by simp? only [nk]) (setv_of ?_)
    simp? only [a1,a2]
end
theorem t0_step {ks:List KR} (G:KG ks) {i:Nat}{r:KR} (h:ks[i]?=some r) {L:List Str} (hL:L.length ≤ 800) (K t row hs hd:Option PyData) :
    g_law_text_L0 [K,t,some (wl L),some (.str (nmK r.k)),some (elD r.el),some (wl r.own),some (wl r.ms),row,hs,hd]=some (.nx [K,t,some (wl (L++[ln (krow r)])),some (.str (nmK r.k)),some (elD r.el),some (wl r.own),some (wl r.ms),some (wl (krow r)),hs,hd]):=by
  have jn:=row_join (gr_krow G h)
  refine seq2 (ρ1:=[K,t,some (wl L),some (.str (nmK r.k)),some (elD r.el),some (wl r.own),some (wl r.ms),some (wl [Str.ofString "kind",nmK r.k]),hs,hd]) (setv_of (by simp? only [e_c]; rfl)) (seq2 (t0_el r.el r.k) (seq2 (t0_own r.own (fun w hw=>nm_ok (G.own_nm i r h w hw)) (G.own3 i r h) _ (by cases r.el <;> simp [elw])) ?_))
  rw [show Str.ofString "kind" :: nmK r.k :: elw r.el++oww r.own=krow r from rfl]
  refine app_wl (x:=ln (krow r)) rfl (by omega) ?_
  simp? only [jn]
theorem t0_loop {ks:List KR} (G:KG ks) (K t hs hd:Option PyData):∀ (rest:List KR) (L:List Str) (a b c d e:Option PyData),(∀ r∈rest,∃ i:Nat,ks[i]?=some r)→L.length + rest.length ≤ 700 →
    ∃ a' b' c' d' e',forD (bdT (.many [3,4,5,6])) g_law_text_L0 (rest.map krD) [K,t,some (wl L),a,b,c,d,e,hs,hd]=some (.nx [K,t,some (wl (L++(rest.map krow).map ln)),a',b',c',d',e',hs,hd])
  | [],L,a,b,c,d,e,_,_=>⟨a,b,c,d,e,by simp [forD]⟩
  | r :: rest,L,a,b,c,d,e,hm,hl=>by
    obtain ⟨i,hi⟩:=hm r (by simp)
    have s:=t0_step G hi (L:=L) (by simp at hl; omega) K t e hs hd
    obtain ⟨a',b',c',d',e',ih⟩:=t0_loop G K t hs hd rest (L++[ln (krow r)]) (some (.str (nmK r.k))) (some (elD r.el)) (some (wl r.own)) (some (wl r.ms)) (some (wl (krow r))) (fun x hx=>hm x (by simp [hx])) (by simp at hl ⊢; omega)
    refine ⟨a',b',c',d',e',?_⟩
    have s':(bdT (.many [3,4,5,6]) (krD r) [K,t,some (wl L),a,b,c,d,e,hs,hd]).bind g_law_text_L0=_:=s
    rw [List.map_cons,forD_cons s',ih]
    simp
theorem ln_hrow (h:Hd):ln (hrow h)=Str.ofString "method "++nmK h.1++Str.ofString " "++h.2:=by
  show Str.ofString "method"++(⟨#[32]⟩:Str)++(nmK h.1++(⟨#[32]⟩:Str)++h.2)=_
  rw [lit_sp,← Str.append_assoc,← Str.append_assoc]
  congr 3
theorem t2_comp (k:Nat):∀ ms:List Str,(∀ m∈ms,nmB m=true)→compD g_law_text_T1 g_law_text_C1 [some (.str (nmK k))] (ms.map .str)=some ((ms.map fun m=>ln (hrow (k,m))).map .str)
  | [],_=>rfl
  | m :: ms,h=>by
    have ih:=t2_comp k ms fun x hx=>h x (by simp [hx])
    have lm:=(nm_iff.mp (h m (by simp))).2.1
    have l1:(Str.ofString "method ").length=7:=by decide +kernel
    have l2:(Str.ofString " ").length=1:=by decide +kernel
    have a1:=strAdd (Str.ofString "method ") (nmK k) (by rw [nmK_len,l1]; omega)
    have a2:=strAdd (Str.ofString "method "++nmK k) (Str.ofString " ") (by rw [Str.length_append,nmK_len,l1,l2]; omega)
    have a3:=strAdd (Str.ofString "method "++nmK k++Str.ofString " ") m (by rw [Str.length_append,Str.length_append,nmK_len,l1,l2]; omega)
    rw [← ln_hrow (k,m)] at a3
    have e:g_law_text_C1 [some (.str m),some (.str (nmK k))]=some (.str (ln (hrow (k,m)))):=by
      simp? only [g_law_text_C1,a1,a2,a3]
    have e0:g_law_text_T1 [some (.str m),some (.str (nmK k))]=some true:=rfl
    rw [List.map_cons,compD,e0]
    simp? only [e,ih]
def hsOf (ks:List KR):List Hd:=ks.flatMap fun r=>r.ms.map fun m=>(r.k,m)
theorem t2_loop {ks:List KR} (G:KG ks) (K t L row hd:Option PyData):∀ (rest:List KR) (HL:List Str) (a b c d:Option PyData),(∀ r∈rest,∃ i:Nat,ks[i]?=some r)→HL.length + 3 * rest.length ≤ 700 →
    ∃ a' b' c' d',forD (bdT (.many [3,4,5,6])) g_law_text_L2 (rest.map krD) [K,t,L,a,b,c,d,row,some (wl HL),hd]=some (.nx [K,t,L,a',b',c',d',row,some (wl (HL++(hsOf rest).map fun h=>ln (hrow h))),hd])
  | [],HL,a,b,c,d,_,_=>⟨a,b,c,d,by simp [forD,hsOf]⟩
  | r :: rest,HL,a,b,c,d,hm,hl=>by
    obtain ⟨i,hi⟩:=hm r (by simp)
    have m3:=G.ms3 i r hi
    have cp:=t2_comp r.k r.ms (G.ms_nm i r hi)
    obtain ⟨a',b',c',d',ih⟩:=t2_loop G K t L row hd rest (HL++r.ms.map fun m=>ln (hrow (r.k,m))) (some (.str (nmK r.k))) (some (elD r.el)) (some (wl r.own)) (some (wl r.ms)) (fun x hx=>hm x (by simp [hx])) (by simp at hl ⊢; omega)
    refine ⟨a',b',c',d',?_⟩
    have s:g_law_text_L2 [K,t,L,some (.str (nmK r.k)),some (elD r.el),some (wl r.own),some (wl r.ms),row,some (wl HL),hd]=some (.nx [K,t,L,some (.str (nmK r.k)),some (elD r.el),some (wl r.own),some (wl r.ms),row,some (wl (HL++r.ms.map fun m=>ln (hrow (r.k,m)))),hd]):=by
      have c1:=comp_of (q:=qSeq (dVar 6)) (caps:=[(3,"_law_name")]) (ρ:=[K,t,none,some (.str (nmK r.k)),some (elD r.el),some (wl r.own),some (wl r.ms),row,some (wl HL),hd]) (ds:=r.ms.map .str) rfl (by simp; omega) cp
      have ad:=addWl HL (r.ms.map fun m=>ln (hrow (r.k,m))) (by simp at hl ⊢; omega)
      refine setv_of (O:=[2]) (i:=8) ?_
      show (d2 dAdd (dVar 8) _) [K,t,none,some (.str (nmK r.k)),some (elD r.el),some (wl r.own),some (wl r.ms),row,some (wl HL),hd]=_
      rw [e_d2,c1,e_var]
      exact ad
    have s':(bdT (.many [3,4,5,6]) (krD r) [K,t,L,a,b,c,d,row,some (wl HL),hd]).bind g_law_text_L2=_:=s
    rw [List.map_cons,forD_cons s',ih]
    simp [hsOf]
theorem lit_end:ln [Str.ofString "end"]=Str.ofString "end":=rfl
theorem t3_loop (K t a b c d row hl:Option PyData):∀ (hs:List Hd) (L:List Str) (e:Option PyData),L.length + 2 * hs.length ≤ 700 →
    ∃ e',forD (bdT (.one 9)) g_law_text_L3 ((hs.map fun h=>ln (hrow h)).map .str) [K,t,some (wl L),a,b,c,d,row,hl,e]=some (.nx [K,t,some (wl (L++(hrows hs).map ln)),a,b,c,d,row,hl,e'])
  | [],L,e,_=>⟨e,by simp [forD,hrows]⟩
  | h :: hs,L,e,hL=>by
    obtain ⟨e',ih⟩:=t3_loop K t a b c d row hl hs (L++[ln (hrow h),Str.ofString "end"]) (some (.str (ln (hrow h)))) (by simp at hL ⊢; omega)
    refine ⟨e',?_⟩
    have ad:dAddL (wl L) (.list [.str (ln (hrow h)),.str (Str.ofString "end")])=some (wl (L++[ln (hrow h),Str.ofString "end"])):=addL_wl L [ln (hrow h),Str.ofString "end"] (by simp at hL ⊢; omega)
    rw [List.map_cons,List.map_cons,forD_cons (ρ1:=[K,t,some (wl (L++[ln (hrow h),Str.ofString "end"])),a,b,c,d,row,hl,some (.str (ln (hrow h)))]),ih,hrows,List.map_cons,List.map_cons,lit_end,List.append_assoc]
    · rfl
    show g_law_text_L3 [K,t,some (wl L),a,b,c,d,row,hl,some (.str (ln (hrow h)))]=_
    simp? only [g_law_text_L3,ad,flat_wl]
def hsT (ks:List KR) (turn:Bool):List Hd:=if turn then (hsOf ks).reverse else hsOf ks
theorem run7 {N:List Str}{A B C D E F G:Rho→Option Out}{ds:List PyData}{ρ0 ρ1 ρ2 ρ3 ρ4 ρ5 ρ6:Rho}{d:PyData} (h0:startD N ds=ρ0) (h1:A ρ0=some (.nx ρ1)) (h2:B ρ1=some (.nx ρ2)) (h3:C ρ2=some (.nx ρ3)) (h4:D ρ3=some (.nx ρ4)) (h5:E ρ4=some (.nx ρ5)) (h6:F ρ5=some (.nx ρ6)) (h7:G ρ6=some (.rt d)):runD N (sSeq A (sSeq B (sSeq C (sSeq D (sSeq E (sSeq F G)))))) ds=some d:=by
  rw [e_run,h0,e_seq,h1,nxt_nx,e_seq,h2,nxt_nx,e_seq,h3,nxt_nx,e_seq,h4,nxt_nx,e_seq,h5,nxt_nx,e_seq,h6,nxt_nx,h7,outD_rt]
theorem mem_ix {ks:List KR}:∀ r∈ks,∃ i:Nat,ks[i]?=some r:=fun r hr=>by
  obtain ⟨i,hi,e⟩:=List.getElem_of_mem hr
  exact ⟨i,by rw [List.getElem?_eq_getElem hi,e]⟩
theorem hsOf_len {ks:List KR} (h:∀ r∈ks,r.ms.length ≤ 3):(hsOf ks).length ≤ 3 * ks.length:=by
  induction ks with
  | nil=>simp [hsOf]
  | cons r ks ih =>
    have:=ih fun x hx=>h x (by simp [hx])
    have:=h r (by simp)
    simp [hsOf] at *; omega
theorem law_text_ok {ks:List KR} (G:KG ks) (turn:Bool) (Q:HG ks (hsT ks turn)):f_law_text [kl ks,.bool turn]=some (.str (tx ks (hsT ks turn))):=by
  have h16:=G.ok.len
  have h60:=Q.len
  obtain ⟨a,b,c,d,e,q1⟩:=t0_loop G (some (kl ks)) (some (.bool turn)) none none ks [] none none none none none mem_ix (by simp; omega)
  obtain ⟨a',b',c',d',q2⟩:=t2_loop G (some (kl ks)) (some (.bool turn)) (some (wl ((ks.map krow).map ln))) e none ks [] a b c d mem_ix (by simp; omega)
  obtain ⟨e',q3⟩:=t3_loop (some (kl ks)) (some (.bool turn)) a' b' c' d' e (some (wl ((hsT ks turn).map fun h=>ln (hrow h)))) (hsT ks turn) ((ks.map krow).map ln) none (by simp; omega)
  rw [List.nil_append] at q1 q2
  refine run7 (ρ0:=[some (kl ks),some (.bool turn),none,none,none,none,none,none,none,none]) (ρ1:=[some (kl ks),some (.bool turn),some (wl []),none,none,none,none,none,none,none]) (ρ3:=[some (kl ks),some (.bool turn),some (wl ((ks.map krow).map ln)),a,b,c,d,e,some (wl []),none])
    (ρ5:=[some (kl ks),some (.bool turn),some (wl ((ks.map krow).map ln)),a',b',c',d',e,some (wl ((hsT ks turn).map fun h=>ln (hrow h))),none]) (by rw [e_start]; rfl) ?_ (for_of1 rfl q1) ?_ (for_of1 rfl q2) ?_ (for_of1 rfl q3) ?_
  · simp? only [e_c]; rfl
  · simp? only [e_c]; rfl
  · cases turn with
    | false=>exact if_f (by simp? only [truB]) rfl
    | true =>
      refine if_t (by simp? only [truB]) (setv_of ?_)
      simp? only [wl,hsT]
      rw [← List.map_reverse,← List.map_reverse]
  · have ad:dAdd (wl ((ks.map krow).map ln++(hrows (hsT ks turn)).map ln)) (.list [.str (Str.ofString "main"),.str (Str.ofString "end")])=some (wl ((allRows ks (hsT ks turn)).map ln)):=by
      rw [show PyData.list [.str (Str.ofString "main"),.str (Str.ofString "end")]=wl (mains.map ln) from rfl,addWl _ _ (by simp [hrows_len,mains]; omega)]
      simp [allRows]
    have jn:=jn_ok G Q
    simp? only [ad,jn]
def Pr (fs:List (PyData × PyData)):PyData:=.dict ((.none,.str "Program") :: fs)
def IsPr (pr:PyData) (x:Str):Prop:=dFldD ["Program"] "text" pr=some (.str x)∧dMethD "Program" "shown" pr=true
theorem shown_ok {pr:PyData}{x:Str} (h:IsPr pr x):f_Program_shown [pr]=some (.str x):=by
  simp? only [f_Program_shown,g_Program_shown,h.1]
theorem split_rows (T:Rho→Option Bool) (C:Rho→Option PyData) (hT:T=fun _=>some true) (hC:C=dMt dSplit (dVar 0) (aCons (dC (.str (Str.ofString " "))) aNil)):∀ {rows:List (List Str)},(∀ ws∈rows,GR ws)→compD T C [] ((rows.map ln).map .str)=some (rows.map wl)
  | [],_=>rfl
  | ws :: rows,h=>by
    have ih:=split_rows T C hT hC fun x (hx:x∈rows)=>h x (by simp [hx])
    have g:=h ws (by simp)
    have e:C [some (.str (ln ws))]=some (wl ws):=by
      rw [hC]
      simp? only [lit_sp]
      exact g.split
    have e0:T [some (.str (ln ws))]=some true:=by rw [hT]
    rw [List.map_cons,List.map_cons,compD,e0]
    simp? only [e,ih]
section
variable {ks:List KR}{hs:List Hd}
theorem rows_ok (G:KG ks) (Q:HG ks hs) {pr:PyData} (hp:IsPr pr (tx ks hs)):f_rows_of_words [pr]=some (.list ((allRows ks hs).map wl)):=by
  have h2:=all_len G Q
  have e1:=tx_split G Q
  have e2:=split_rows g_rows_of_words_T0 g_rows_of_words_C0 rfl rfl (gr_all G Q)
  have hz:(((allRows ks hs).map ln).map PyData.str).length ≤ 16777216:=by simp; omega
  simp? only [f_rows_of_words,g_rows_of_words,hp.2,shown_ok hp,e1,if_pos hz,capD,e2]
theorem heads_ok (G:KG ks) (Q:HG ks hs) {pr:PyData} (hp:IsPr pr (tx ks hs)):f_body_heads [pr]=some (gD (hmm hs)):=by
  have e1:=rows_ok G Q hp
  obtain ⟨w',e2⟩:=bh_all G Q (some pr) none
  have hz:PyData.dict []=gD []:=rfl
  simp? only [f_body_heads,g_body_heads,e1,hz,e2]
theorem kt_ok (G:KG ks) (Q:HG ks hs) {pr:PyData} (hp:IsPr pr (tx ks hs)):f_kind_table [pr]=some (gD (tab ks)):=by
  have h16:=G.ok.len
  have e1:=rows_ok G Q hp
  have hz:PyData.dict []=gD (tab []):=rfl
  have e3:∃ w0 r0 rest,(w0 == "kind")=false∧(hrows hs++mains).map wl=wl (Str.ofString w0 :: r0) :: rest:=by
    cases hs with
    | nil=>exact ⟨"main",[],_,by decide,rfl⟩
    | cons h hs=>exact ⟨"method",[nmK h.1,h.2],_,by decide,rfl⟩
  obtain ⟨w0,r0,rest,hw,e4⟩:=e3
  obtain ⟨w',e2⟩:=kt_loop (some pr) w0 hw r0 rest ks [] none (by simpa using kn_nodup G.ok) (by simp; omega)
  rw [← e4,← List.map_append,List.nil_append] at e2
  have e5:forD (bdT (.one 2)) g_kind_table_L0 ((allRows ks hs).map wl) [some pr,some (gD (tab [])),none]=some (.nx [some pr,some (gD (tab ks)),w']):=e2
  simp? only [f_kind_table,g_kind_table,e1,hz,e5]
theorem dp_kinds:∀ ks:List KR,Dp 0 (ks.map krow) 0
  | []=>.nil 0
  | r :: ks=>.kind r (dp_kinds ks)
theorem dp_heads (O:KOk ks):∀ hs:List Hd,(∀ h∈hs,h.1 < ks.length)→(∀ h∈hs,nmB h.2=true)→Dp 0 (hrows hs) 0
  | [],_,_=>.nil 0
  | h :: hs,a,b=>.head (hd_ok O (a h (by simp)) (b h (by simp)) (F:=fdl ks ks) (fdl_keys ks ks)) (.fin (dp_heads O hs (fun x hx=>a x (by simp [hx])) (fun x hx=>b x (by simp [hx]))))
theorem dp_all (G:KG ks) (Q:HG ks hs):Dp 0 (allRows ks hs) 0 :=
  (dp_kinds ks).app ((dp_heads G.ok hs Q.lt Q.nm).app (.head (hd_main (gD [])) (.fin (.nil 0))))
theorem numbered_ok (G:KG ks) (Q:HG ks hs):f_numbered_rows [.str (tx ks hs)]=some (.dict []):=by
  have e1:=tx_split G Q
  obtain ⟨b',l',r',w',e⟩:=nr_loop (.str (tx ks hs)) (dp_all G Q) 0 .none none none none (gr_all G Q)
  have q:enumD (((allRows ks hs).map ln).map PyData.str)=(((allRows ks hs).map fun ws=>PyData.str (Str.join ⟨#[32]⟩ ws)).zipIdx 0).map fun x=>.tuple [.int x.2,x.1]:=by
    unfold enumD
    rw [List.map_map]; rfl
  simp? only [f_numbered_rows,g_numbered_rows,e1,q,e]
def prog (ks:List KR) (hs:List Hd):PyData:=Pr [(.str "text",.str (tx ks hs)),(.str "numbered",.dict []),(.str "body_texts",wl ((hmm hs).map (·.1)))]
theorem pr_set1 {f:Rho→Option PyData}{d x:PyData} (h:f [some (Pr []),some x]=some d):sFldV 0 "Program" "text" f [some (Pr []),some x]=some (.nx [some (Pr [(.str "text",d)]),some x]):=by
  rw [e_fldv,h]; kernel_rfl
theorem pr_set2 {f:Rho→Option PyData}{a d x:PyData} (h:f [some (Pr [(.str "text",a)]),some x]=some d):sFldV 0 "Program" "numbered" f [some (Pr [(.str "text",a)]),some x]=some (.nx [some (Pr [(.str "text",a),(.str "numbered",d)]),some x]):=by
  rw [e_fldv,h]; kernel_rfl
theorem pr_set3 {f:Rho→Option PyData}{a b d x:PyData} (h:f [some (Pr [(.str "text",a),(.str "numbered",b)]),some x]=some d):sFldV 0 "Program" "body_texts" f [some (Pr [(.str "text",a),(.str "numbered",b)]),some x]=some (.nx [some (Pr [(.str "text",a),(.str "numbered",b),(.str "body_texts",d)]),some x]):=by
  rw [e_fldv,h]; kernel_rfl
theorem init_ok (G:KG ks) (Q:HG ks hs):f_Program_init [Pr [],.str (tx ks hs)]=some (.none,prog ks hs):=by
  have e1:=numbered_ok G Q
  have e2:=heads_ok G Q (pr:=Pr [(.str "text",.str (tx ks hs)),(.str "numbered",.dict [])]) ⟨by kernel_rfl,by kernel_rfl⟩
  have s1:(vFr [0] (dVar 1)) [some (Pr []),some (.str (tx ks hs))]=some (.str (tx ks hs)):=rfl
  have s2:(vFr [0] (dFn 1 f_numbered_rows (aCons (dVar 1) aNil))) [some (Pr [(.str "text",.str (tx ks hs))]),some (.str (tx ks hs))]=some (.dict []):=by
    simp? only [e1]
  have s3:(vFl (dCall dListA (aCons (dFn 1 f_body_heads (aCons (dVar 0) aNil)) aNil))) [some (Pr [(.str "text",.str (tx ks hs)),(.str "numbered",.dict [])]),some (.str (tx ks hs))]=some (wl ((hmm hs).map (·.1))):=by
    simp? only [e2,keys_gD,flat_wl]
  simp? only [f_Program_init,g_Program_init,e_runI,e_start,e_seq,pr_set1 s1,pr_set2 s2,pr_set3 s3]
  rfl
theorem prog_is:IsPr (prog ks hs) (tx ks hs):=⟨by kernel_rfl,by kernel_rfl⟩
theorem read_ok (G:KG ks) (Q:HG ks hs):f_read_program [.str (tx ks hs)]=some (prog ks hs):=by
  have e1:=init_ok G Q
  have h2:=all_len G Q
  have e2:=tx_split G Q
  have e3:=split_rows g_read_program_T0 g_read_program_C0 rfl rfl (gr_all G Q)
  have hz:(((allRows ks hs).map ln).map PyData.str).length ≤ 16777216:=by simp; omega
  have e0:f_Reading_init [.dict [(.none,.str (Str.ofString "Reading"))]]=some (.none,R0):=by kernel_rfl
  have e1':f_Program_init [.dict [(.none,.str (Str.ofString "Program"))],.str (tx ks hs)]=some (.none,prog ks hs):=e1
  obtain ⟨F,rd⟩:=reads_all G Q
  obtain ⟨a',b',e4⟩:=read_loop (.str (tx ks hs)) (.list ((allRows ks hs).map wl)) none (allRows ks hs) 0 R0 _ none none rd fun ws hw=>by have:=(gr_all G Q ws hw).2.2; omega
  have q:enumD ((allRows ks hs).map wl)=(((allRows ks hs).map wl).zipIdx 0).map fun x=>.tuple [.int x.2,x.1]:=rfl
  have e5:∀ ρ:Rho,forD (bdT (.many [3,5])) g_read_program_L3 [] ρ=some (.nx ρ):=fun _=>rfl
  simp? only [f_read_program,g_read_program,e0,e2,if_pos hz,capD,e3,q,e4,rg_over,truB,e_frz,rg_later,e5,e1',unsetO]
theorem names_ok (G:KG ks) (Q:HG ks hs):f_kind_names [prog ks hs]=some (wl (kn ks)):=by
  have e1:=kt_ok G Q prog_is
  simp? only [f_kind_names,g_kind_names,e1,keys_gD,tab_keys]
theorem elder_ok (G:KG ks) (Q:HG ks hs) {k:Nat}{r:KR} (h:ks[k]?=some r):f_elder_of [prog ks hs,.str (nmK k)]=some (elD r.el):=by
  have e1:=kt_ok G Q prog_is
  simp? only [f_elder_of,g_elder_of,e1,tab_ix G.ok h,ixT,at0]
theorem fieldsof_ok (G:KG ks) (Q:HG ks hs) {k:Nat} (h:k < ks.length):f_fields_of [prog ks hs,.str (nmK k)]=some (wl (flds ks k)):=by
  have e1:=kt_ok G Q prog_is
  simp? only [f_fields_of,g_fields_of,e1,fby_ok G.ok G.own3 h]
theorem hnm_inj {a b:Hd} (h:hnm a=hnm b):a=b:=by
  have e:=congrArg (fun x:Str=>x.cps.toList) h
  simp [hnm,dotS,nmK,Str.cps_append,lit_dot] at e
  obtain ⟨e1,e2⟩:=e
  exact Prod.ext e1 (Str.ext' e2)
theorem mem_hsOf {i:Nat}{r:KR} (O:KOk ks) (h:ks[i]?=some r) (m:Str):(i,m)∈hsOf ks ↔ m∈r.ms:=by
  constructor
  · intro z
    obtain ⟨x,hx,z⟩:=List.mem_flatMap.mp z
    obtain ⟨m',hm,e⟩:=List.mem_map.mp z
    obtain ⟨j,hj⟩:=mem_ix x hx
    have:=O.id j x hj
    injection e with e1 e2
    subst e2
    rw [this] at e1
    subst e1
    rw [hj] at h
    cases h
    exact hm
  · intro z
    have:=O.id i r h
    exact List.mem_flatMap.mpr ⟨r,List.mem_of_getElem? h,List.mem_map.mpr ⟨m,z,by rw [this]⟩⟩
theorem hmm_keys (hs:List Hd):(hmm hs).map (·.1)=hs.map hnm++[Str.ofString "main"]:=by rw [hmm,List.map_append,hm_keys]; rfl
theorem in_heads (O:KOk ks) (hp:∀ h,h∈hs ↔ h∈hsOf ks) {i:Nat}{r:KR} (h:ks[i]?=some r) (m:Str):dotS (nmK i) m∈(hmm hs).map (·.1) ↔ m∈r.ms:=by
  rw [hmm_keys,← mem_hsOf O h m]
  constructor
  · intro z
    rcases List.mem_append.mp z with z | z
    · obtain ⟨x,hx,e⟩:=List.mem_map.mp z
      have:x=(i,m):=hnm_inj e
      subst this
      exact (hp _).mp hx
    · simp at z
      exact absurd z (hnm_main (i,m))
  · intro z
    exact List.mem_append.mpr (.inl (List.mem_map.mpr ⟨(i,m),(hp _).mpr z,rfl⟩))
theorem findsP_ok (G:KG ks) (Q:HG ks hs) (hp:∀ h,h∈hs ↔ h∈hsOf ks) {k:Nat} (h:k < ks.length) {m:Str} (h8:m.length ≤ 8):f_finds [prog ks hs,.str (nmK k),.str m]=some (fi ks m (chn ks k)):=by
  have e1:=kt_ok G Q prog_is
  have e2:=heads_ok G Q prog_is
  have e3:=fo_ok G.ok h8 (fun i r hi=>in_heads G.ok hp hi m) h
  simp? only [f_finds,g_finds,e1,e2,e3]
end
theorem rng {n:Nat} (h:n ≤ 1000):(-(2 ^ 62) ≤ (n:Int)∧(n:Int) < 2 ^ 62):=by
  have e:(2:Int) ^ 62=4611686018427387904:=by decide
  rw [e]
  omega
theorem q_r1 {f:Rho→Option PyData}{ρ:Rho}{j:Int} (h:f ρ=some (.int j)) (hj:-(2 ^ 62) ≤ j∧j < 2 ^ 62):qRange1 f ρ=some (intsD 0 j.toNat):=by
  rw [e_r1,h]
  simp only [Option.bind_some]
  rw [if_pos hj]
theorem ints_range (n:Nat):intsD 0 n=(List.range' 0 n).map fun (i:Nat)=>PyData.int (i:Int):=by
  unfold intsD
  rw [List.range_eq_range']
  apply List.map_congr_left
  intro a _
  rw [Int.zero_add]
theorem r1_ok {n:Nat} (hl:n ≤ 1000) (ρ:Rho) (f:Rho→Option PyData) (h:f ρ=some (.int (n:Int))):qRange1 f ρ=some ((List.range' 0 n).map fun (i:Nat)=>PyData.int (i:Int)):=by
  rw [q_r1 h (rng hl),Int.toNat_natCast,ints_range]
theorem nn:dEq .none .none=some (.bool true):=by kernel_rfl
theorem nnn:dNe .none .none=some (.bool false):=by kernel_rfl
theorem fi_eq {ks:List KR}{m:Str} (hm:nmB m=true):∀ l:List Nat,(∀ i∈l,i < 26)→dEq (fi ks m l) (fi ks m l)=some (.bool true)
  | [],_=>nn
  | i :: l,h=>by
    rw [fi]
    split
    · have o:=ok_dot (nmK_nm (h i (by simp))) hm
      rw [dEqS o o]; simp
    · exact fi_eq hm l fun x hx=>h x (by simp [hx])
theorem el_ne (el:Option Nat) (h:∀ j,el=some j→j < 26):dNe (elD el) (elD el)=some (.bool false):=by
  cases el with
  | none=>exact nnn
  | some j =>
    have o:=nm_ok (nmK_nm (h j rfl))
    rw [elD,dNeS o o]; simp
theorem ist_l (l:List PyData):(if isDct (.list l) then none else some (PyData.bool (tyD (.list l) == "list" || (tyD (.list l) == "bool" && "list" == "int"))))=some (.bool true):=by rfl
section
variable {ks:List KR}{hs:List Hd}
theorem rc_one (G:KG ks) (Q:HG ks hs) (hp:∀ h,h∈hs ↔ h∈hsOf ks) {k:Nat} (hk:k < ks.length) {m:Str} (hm:nmB m=true) :
    g_law_right_C0 [some (.str m),some (prog ks hs),some (.str (nmK k)),some (kl ks),some (.int (k:Int))]=some (.bool true):=by
  have h16:=G.ok.len
  have h8:=(nm_iff.mp hm).2.1
  obtain ⟨hc,hl⟩:=ch_of G.ok (k + 1) k (by omega) hk
  have e1:=findsP_ok G Q hp hk h8
  have e2:=finds_ok G.ok (fun i r hi w hw=>nm_ok (G.ms_nm i r hi w hw)) hk (nm_ok hm) h8
  have e3:=fi_eq (ks:=ks) hm (chn ks k) fun i hi=>by
    obtain ⟨r,e⟩:=hc.mem i hi
    have:=lt_of_get e
    omega
  simp? only [g_law_right_C0,e1,e2,e3]
theorem rc_all (G:KG ks) (Q:HG ks hs) (hp:∀ h,h∈hs ↔ h∈hsOf ks) {k:Nat} (hk:k < ks.length):∀ ms:List Str,(∀ m∈ms,nmB m=true) →
    compD g_law_right_T0 g_law_right_C0 [some (prog ks hs),some (.str (nmK k)),some (kl ks),some (.int (k:Int))] (ms.map .str)=some (ms.map fun _=>.bool true)
  | [],_=>rfl
  | m :: ms,h=>by
    have ih:=rc_all G Q hp hk ms fun x hx=>h x (by simp [hx])
    have e:=rc_one G Q hp hk (h m (by simp))
    have e0:∀ ρ,g_law_right_T0 ρ=some true:=fun _=>rfl
    rw [List.map_cons,compD,e0]
    simp? only [e,ih]
theorem flds_ok (G:KG ks) (k:Nat):∀ w∈flds ks k,PyData.strOk w=true:=FL_ok (p:=fun w=>PyData.strOk w=true) (fun i r h w hw=>nm_ok (G.own_nm i r h w hw)) _
theorem flds_len (G:KG ks) {k:Nat} (hk:k < ks.length):(flds ks k).length ≤ 100:=by
  have h16:=G.ok.len
  have h1:=FL_len G.own3 (chn ks k)
  have h2:=(ch_of G.ok (k + 1) k (by omega) hk).2
  rw [flds]; omega
theorem right_ok (G:KG ks) (Q:HG ks hs) (hp:∀ h,h∈hs ↔ h∈hsOf ks) {k:Nat} (hk:k < ks.length):f_law_right [prog ks hs,kl ks,.int (k:Int)]=some (.bool true):=by
  have h16:=G.ok.len
  have hr:ks[k]?=some ks[k]:=List.getElem?_eq_getElem hk
  generalize ks[k]=r at hr
  have ek:=G.ok.id k r hr
  have e1:=fieldsof_ok G Q hk
  have e2:=elder_ok G Q hr
  have e3:=el_ne r.el fun j hj=>by have:=G.ok.el k r j hr hj; omega
  have e4:=fields_ok G.ok G.own3 hk
  have e5:=dNe_wl (flds_ok G k) (flds_ok G k)
  rw [decide_eq_true rfl] at e5
  have l1:=flds_len G hk
  have cp:=rc_all G Q hp hk [Str.ofString "m",Str.ofString "n",Str.ofString "mm",Str.ofString "o"] (by
    intro w hw
    simp only [List.mem_cons,List.not_mem_nil,or_false] at hw
    rcases hw with rfl | rfl | rfl | rfl <;> decide +kernel)
  have g:g_law_right [some (prog ks hs),some (kl ks),some (.int (k:Int)),none,none]=some (.rt (.bool true)):=by
    refine seq2 (ρ1:=[some (prog ks hs),some (kl ks),some (.int (k:Int)),some (.str (nmK k)),none]) (setv_of ?_) (seq2 (ρ1:=[some (prog ks hs),some (kl ks),some (.int (k:Int)),some (.str (nmK k)),some (wl (flds ks k))]) ?_ (seq2 (ρ1:=[some (prog ks hs),some (kl ks),some (.int (k:Int)),some (.str (nmK k)),some (wl (flds ks k))]) (if_f ?_ rfl) (seq2 (ρ1:=[some (prog ks hs),some (kl ks),some (.int (k:Int)),some (.str (nmK k)),some (wl (flds ks k++[Str.ofString "more"]))]) (app_wl rfl (by omega) ?_) (seq2 (ρ1:=[some (prog ks hs),some (kl ks),some (.int (k:Int)),some (.str (nmK k)),some (wl (flds ks k++[Str.ofString "more"]))]) (if_f ?_ rfl) ?_))))
    · simp? only [kl_ix hr,kr0,ek]
    · simp? only [e1]
    · simp? only [e2,kl_ix hr,kr1,e3,wl,ist_l,truB]
      simp only [wl] at e4 e5
      simp? only [e4,e5]
    · simp? only [e_c]
    · simp? only [e1,e4,e5]
    · have c1:=comp_of (q:=qSeq (dLst (aCons (dC (.str "m")) (aCons (dC (.str "n")) (aCons (dC (.str "mm")) (aCons (dC (.str "o")) aNil)))))) (caps:=[(0,"_law_program"),(3,"_law_name"),(1,"_law_kinds_here"),(2,"_law_k")]) (T:=g_law_right_T0) (C:=g_law_right_C0) (ρ:=[some (prog ks hs),some (kl ks),some (.int (k:Int)),some (.str (nmK k)),some (wl (flds ks k++[Str.ofString "more"]))]) (ds:=[Str.ofString "m",Str.ofString "n",Str.ofString "mm",Str.ofString "o"].map .str) (by simp? only [e_c]) (by simp) cp
      rw [e_ret,e_call,e_acons,c1]
      exact congrArg (fun z=>Option.map Out.rt z) (all_true [Str.ofString "m",Str.ofString "n",Str.ofString "mm",Str.ofString "o"])
  rw [f_law_right,e_run]
  show outD (g_law_right [some (prog ks hs),some (kl ks),some (.int (k:Int)),none,none])=_
  rw [g,outD_rt]
theorem rights (G:KG ks) (Q:HG ks hs) (hp:∀ h,h∈hs ↔ h∈hsOf ks):∀ l:List Nat,(∀ k∈l,k < ks.length)→compD g_law_T2 g_law_C2 [some (prog ks hs),some (kl ks)] (l.map fun (i:Nat)=>PyData.int (i:Int))=some (l.map fun _=>.bool true)
  | [],_=>rfl
  | k :: l,h=>by
    have ih:=rights G Q hp l fun x hx=>h x (by simp [hx])
    have e1:=right_ok G Q hp (h k (by simp))
    have e:g_law_C2 [some (.int (k:Int)),some (prog ks hs),some (kl ks)]=some (.bool true):=by
      simp? only [g_law_C2,e1]
    have e0:∀ ρ,g_law_T2 ρ=some true:=fun _=>rfl
    rw [List.map_cons,compD,e0]
    simp? only [e,ih]
theorem set2 {F C:List PyData→Option PyData}{s b x:PyData}{a1 a2 a3 a4:Option PyData}{fb:Rho→Option PyData} (hb:fb [some s,a1,a2,a3,none]=some b) (hF:F [s,b]=some x):sSetV (vFr [4] (dFn 2 F (aCons (dVar 0) (aCons fb aNil)))) 2 [some s,a1,a2,a3,a4]=some (.nx [some s,a1,some x,a3,a4]):=by
  refine setv_of (O:=[4]) (i:=2) ?_
  show (dFn 2 F (aCons (dVar 0) (aCons fb aNil))) [some s,a1,a2,a3,none]=_
  simp only [e_fn,e_acons,e_anil,e_var,List.getElem?_cons_zero,Option.join_some,Option.bind_some,hb,List.length_cons,List.length_nil,Nat.zero_add,Nat.reduceAdd,if_true,hF]
theorem set3 {F T:List PyData→Option PyData}{K b x y:PyData}{a0 a1 a3 a4:Option PyData}{fb:Rho→Option PyData} (hb:fb [a0,a1,some K,a3,none]=some b) (hT:T [K,b]=some x) (hF:F [x]=some y):sSetV (vFr [4] (dFn 1 F (aCons (dFn 2 T (aCons (dVar 2) (aCons fb aNil))) aNil))) 3 [a0,a1,some K,a3,a4]=some (.nx [a0,a1,some K,some y,a4]):=by
  refine setv_of (O:=[4]) (i:=3) ?_
  show (dFn 1 F (aCons (dFn 2 T (aCons (dVar 2) (aCons fb aNil))) aNil)) [a0,a1,some K,a3,none]=_
  simp only [e_fn,e_acons,e_anil,e_var,List.getElem?_cons_zero,List.getElem?_cons_succ,Option.join_some,Option.bind_some,hb,List.length_cons,List.length_nil,Nat.zero_add,Nat.reduceAdd,if_true,hT,hF]
theorem new4 {F:List PyData→Option PyData}{a0 a1 a2 a4:Option PyData}{p y:PyData} (hF:F [p]=some y):sNewF (vFr [4] (dFn 1 F (aCons (dVar 3) aNil))) 4 [a0,a1,a2,some p,a4]=some (.nx [a0,a1,a2,some p,some y]):=by
  simp? only [hF]
theorem law_of (G:KG ks) (turn:Bool) (Q:HG ks (hsT ks turn)) (hp:∀ h,h∈hsT ks turn ↔ h∈hsOf ks) {s:PyData}{c:Int}{b:Bool} (e0:f_law_cell_at [s,.int 0]=some (.int c)) (e1:∀ x,d2 dEq (d2 dMod (dVar 1) (dC (.int 2))) (dC (.int 0)) (x :: some (.int c) :: [none,none,none])=some (.bool b)) (e1':∀ x y,d2 dEq (d2 dMod (d2 dDiv (dVar 1) (dC (.int 2))) (dC (.int 2))) (dC (.int 0)) (x :: some (.int c) :: y :: [none,none])=some (.bool turn)) (e2:f_law_kinds [s,.bool b]=some (kl ks)):f_law [s]=some (.bool true):=by
  have h16:=G.ok.len
  have e3:=law_text_ok G turn Q
  have e4:=read_ok G Q
  have e5:=names_ok G Q
  have fi1:=firsts g_law_T0 g_law_C0 rfl rfl ks
  have fi2:=firsts g_law_T1 g_law_C1 rfl rfl ks
  have ok:∀ w∈kn ks,PyData.strOk w=true:=by rw [kn_eq G.ok]; exact ok_kn (by omega)
  have ne:=dNe_wl ok ok
  rw [decide_eq_true rfl] at ne
  have rt:=rights G Q hp (List.range' 0 ks.length) fun k hk=>by simp at hk; omega
  have g:g_law [some s,none,none,none,none]=some (.rt (.bool true)):=by
    refine seq2 (ρ1:=[some s,some (.int c),none,none,none]) (setv_of ?_) (seq2 (set2 (C:=f_law) (e1 _) e2) (seq2 (set3 (e1' _ _) e3 e4) (seq2 (new4 e5) (seq2 (ρ1:=[some s,some (.int c),some (kl ks),some (prog ks (hsT ks turn)),some (wl (kn ks))]) (if_f ?_ rfl) (seq2 (ρ1:=[some s,some (.int c),some (kl ks),some (prog ks (hsT ks turn)),some (wl [])]) ?_ (seq2 (ρ1:=[some s,some (.int c),some (kl ks),some (prog ks (hsT ks turn)),some (wl [])]) (if_f ?_ rfl) ?_))))))
    · simp? only [e0]
    · have c1:=comp_of (q:=qSeq (dVar 2)) (caps:=[]) (ρ:=[some s,some (.int c),some (kl ks),some (prog ks (hsT ks turn)),some (wl (kn ks))]) (ds:=ks.map krD) rfl (by simp; omega) fi1
      rw [e_fb,e_d2,c1,e_var]
      show ((dNe (wl (kn ks)) (.list ((kn ks).map .str))).bind _)=_
      rw [ne]; rfl
    · simp? only [e_c]; rfl
    · have c1:=comp_of (q:=qSeq (dVar 2)) (caps:=[]) (ρ:=[some s,some (.int c),some (kl ks),some (prog ks (hsT ks turn)),some (wl [])]) (ds:=ks.map krD) rfl (by simp; omega) fi2
      have c2:(dFn 1 f_kind_names (aCons (dVar 3) aNil)) [some s,some (.int c),some (kl ks),some (prog ks (hsT ks turn)),some (wl [])]=some (wl (kn ks)):=by
        simp? only [e5]
      rw [e_fb,e_d2,c1,c2]
      show ((dNe (wl (kn ks)) (.list ((kn ks).map .str))).bind _)=_
      rw [ne]; rfl
    · have q:(dCall dLenA (aCons (dVar 2) aNil)) [some s,some (.int c),some (kl ks),some (prog ks (hsT ks turn)),some (wl [])]=some (.int (ks.length:Int)):=by
        show some (PyData.int ((ks.map krD).length:Int))=_
        rw [List.length_map]
      have c1:=comp_of (caps:=[(3,"_law_program"),(2,"_law_kinds_here")]) (T:=g_law_T2) (C:=g_law_C2) (r1_ok (by omega) _ _ q) (by simp; omega) rt
      rw [e_ret,e_call,e_acons,c1]
      exact congrArg (fun z=>Option.map Out.rt z) (all_true (List.range' 0 ks.length))
  rw [f_law,e_run]
  show outD (g_law [some s,none,none,none,none])=_
  rw [g,outD_rt]
end
theorem okb {i:Int} (h0:0 ≤ i) (h:i < 4294967296):okBits i=true:=by
  unfold okBits Builtin.Int.intBits
  rw [decide_eq_true_iff]
  split
  · exact Nat.zero_le _
  · rename_i q
    have:i.natAbs ≠ 0:=by simpa using q
    rw [Nat.succ_le_iff]
    refine (Nat.log2_lt this).mpr (Nat.lt_of_lt_of_le (show i.natAbs < 2 ^ 32 by omega) (Nat.pow_le_pow_right (by decide) (by decide)))
theorem mulI {i j:Int} (hi:okBits i=true) (hj:okBits j=true):dMulA (.int i) (.int j)=some (.int (i * j)):=by
  simp [dMulA,dMul,dI,hi,hj]
theorem modI {i j:Int} (h:0 < j):dMod (.int i) (.int j)=some (.int (i % j)):=by simp [dMod,dI,h]
theorem divI {i j:Int} (h:0 < j) (h':j < 1073741824):dDiv (.int i) (.int j)=some (.int (i / j)):=by simp [dDiv,dI,h,h']
theorem addI (i j:Int):dAdd (.int i) (.int j)=some (.int (i + j)):=rfl
theorem ni2 (c:Int):∃ b,dNotIn (.int c) (.tuple [.int 0,.int (-1)])=some (.bool b):=by
  refine ⟨!([PyData.int 0,.int (-1)].any fun y=>PyData.eqv y (.int c)),?_⟩
  have e:dInB (.int c) (.tuple [.int 0,.int (-1)])=some ([PyData.int 0,.int (-1)].any fun y=>PyData.eqv y (.int c)):=by
    rw [dInB,if_pos ⟨by rfl,by rfl,by simp [PyData.depth]⟩]
  rw [e_dNotIn,e]; rfl
theorem draw_step {c n k:Int}{dg:Bool}{xs:List Int} (hn:0 ≤ n∧n ≤ 2147483647) (hk:0 ≤ k) (hx:xs.length ≤ 100) :
    ∃ c' n' x,(0 ≤ n'∧n' ≤ 2147483647)∧g_law_draw_L0 [some (.int c),some (.bool dg),some (.list (xs.map .int)),some (.int n),some (.int k)]=some (.nx [some (.int c'),some (.bool dg),some (.list ((xs++[x]).map .int)),some (.int n'),some (.int k)]):=by
  have m1:=mulI (okb hn.1 (by omega)) (show okBits 48271=true from okb (by omega) (by omega))
  have m2:=addI (n * 48271) k
  have m3:=modI (i:=n * 48271 + k) (j:=2147483647) (by omega)
  have hn':0 ≤ (n * 48271 + k) % 2147483647∧(n * 48271 + k) % 2147483647 ≤ 2147483647:=by omega
  generalize hN:(n * 48271 + k) % 2147483647=N at m3 hn'
  have m4:=mulI (okb hn'.1 (by omega)) (show okBits 69621=true from okb (by omega) (by omega))
  have m5:=modI (i:=N * 69621) (j:=99991) (by omega)
  have m6:=mulI (i:=N * 69621 % 99991) (okb (by omega) (by omega)) (show okBits 16807=true from okb (by omega) (by omega))
  have m7:=modI (i:=N * 69621 % 99991 * 16807) (j:=99989) (by omega)
  have m8:=modI (i:=c) (j:=5040) (by omega)
  have m9:=divI (i:=c) (j:=5040) (by omega) (by omega)
  have z:(xs.map PyData.int).length < 16777216:=by simp; omega
  obtain ⟨b,hb⟩:=ni2 c
  have no:∃ c' x,g_law_draw_L0 [some (.int c),some (.bool dg),some (.list (xs.map .int)),some (.int n),some (.int k)]=some (.nx [some (.int c'),some (.bool dg),some (.list ((xs++[x]).map .int)),some (.int N),some (.int k)]):=by
    cases dg with
    | false =>
      refine ⟨c,N * 69621 % 99991 * 16807 % 99989,?_⟩
      simp? only [g_law_draw_L0,m1,m2,m3,m4,m5,m6,m7,truB,if_pos z,List.map_append]
    | true =>
      cases b with
      | false =>
        refine ⟨c,N * 69621 % 99991 * 16807 % 99989,?_⟩
        simp? only [g_law_draw_L0,m1,m2,m3,m4,m5,m6,m7,truB,hb,if_pos z,List.map_append]
      | true =>
        refine ⟨c / 5040,c % 5040,?_⟩
        simp? only [g_law_draw_L0,m1,m2,m3,m8,m9,truB,hb,if_pos z,List.map_append]
  obtain ⟨c',x,e⟩:=no
  exact ⟨c',N,x,hn',e⟩
theorem draw_loop (dg:Bool):∀ (m s:Nat) (c n:Int) (xs:List Int) (k:Option PyData),(0 ≤ n∧n ≤ 2147483647)→xs.length + m ≤ 100 →
    ∃ (c' n':Option PyData) (ys:List Int) (k':Option PyData),ys.length=xs.length + m∧forD (bdT (.one 4)) g_law_draw_L0 ((List.range' s m).map fun (i:Nat)=>PyData.int (i:Int)) [some (.int c),some (.bool dg),some (.list (xs.map .int)),some (.int n),k]=some (.nx [c',some (.bool dg),some (.list (ys.map .int)),n',k'])
  | 0,s,c,n,xs,k,_,_=>⟨some (.int c),some (.int n),xs,k,rfl,rfl⟩
  | m + 1,s,c,n,xs,k,hn,hx=>by
    obtain ⟨c1,n1,x,h1,e1⟩:=draw_step (c:=c) (n:=n) (k:=(s:Int)) (dg:=dg) (xs:=xs) hn (by omega) (by omega)
    obtain ⟨c',n',ys,k',hl,e⟩:=draw_loop dg m (s + 1) c1 n1 (xs++[x]) (some (.int s)) h1 (by simp; omega)
    refine ⟨c',n',ys,k',by simp at hl; omega,?_⟩
    have e1':(bdT (.one 4) (PyData.int (s:Int)) [some (.int c),some (.bool dg),some (.list (xs.map .int)),some (.int n),k]).bind g_law_draw_L0=_:=e1
    rw [List.range'_succ,List.map_cons,forD_cons e1',e]
theorem draw_ok (c:Int) (dg:Bool):∃ xs:List Int,xs.length=14∧f_law_draw [.int c,.bool dg]=some (.list (xs.map .int)):=by
  have m1:=modI (i:=c) (j:=1000000007) (by omega)
  obtain ⟨c',n',ys,k',hl,e⟩:=draw_loop dg 14 0 c (c % 1000000007 + 1) [] none (by omega) (by simp)
  refine ⟨ys,by simpa using hl,?_⟩
  refine run4 (ρ0:=[some (.int c),some (.bool dg),none,none,none]) (ρ1:=[some (.int c),some (.bool dg),some (.list []),none,none]) (ρ2:=[some (.int c),some (.bool dg),some (.list []),some (.int (c % 1000000007 + 1)),none]) (by rw [e_start]; rfl) ?_ ?_ (for_of1 (r1_ok (n:=14) (by decide) _ _ rfl) e) ?_
  · simp? only [e_c]
  · simp? only [m1,addI]
  · simp? only [e_c]
theorem fold_rep (c:Nat):∀ (n:Nat) (acc:Array Nat),((List.replicate n (#[c]:Array Nat)).foldl (·++·) acc).toList=acc.toList++List.replicate n c
  | 0,acc=>by simp
  | n + 1,acc=>by
    rw [List.replicate_succ,List.foldl_cons,fold_rep c n]
    simp [List.replicate_succ]
def repS (c n:Nat):Str:=⟨(List.replicate n c).toArray⟩
theorem repS_len (c n:Nat):(repS c n).length=n:=by simp [repS,Str.length]
theorem mul_any (c n:Nat):Txt.mul ⟨#[c]⟩ (n:Int)=repS c n:=by
  unfold Txt.mul
  by_cases h:n=0
  · subst h; rfl
  rw [if_neg (by omega)]
  split
  · rename_i q
    have hl:(⟨#[c]⟩:Str).length=1:=rfl
    simp [hl] at q
    have:n=1:=by omega
    subst this; rfl
  · apply Str.ext'
    apply Array.toList_inj.mp
    rw [Int.toNat_natCast]
    show ((List.replicate n (#[c]:Array Nat)).foldl (·++·) #[]).toList=_
    rw [fold_rep]; simp [repS]
theorem mulS (c n:Nat) (h':n ≤ 64):dMulA (.str ⟨#[c]⟩) (.int (n:Int))=some (.str (repS c n)):=by
  have hl:(⟨#[c]⟩:Str).length=1:=rfl
  show (if _ then _ else none)=_
  rw [if_pos ⟨by omega,by omega,by rw [hl]; omega⟩,mul_any c n]
def base (p x:Nat):Str:=repS 102 p++⟨#[x]⟩
def mid (k:Nat) (b:Bool):Str:=if b then ⟨#[103 + k]⟩ else Str.ofString ""
def fnl (p k:Nat) (ah:List Str) (x:Nat):Str:=repS 102 p++mid k (decide (base p x∈ah))++⟨#[x]⟩
theorem lit_e:Str.ofString ""=⟨#[]⟩:=by decide +kernel
theorem fnl_list (p k:Nat) (ah:List Str) (x:Nat):(fnl p k ah x).cps.toList=List.replicate p 102++((if base p x∈ah then [103 + k] else [])++[x]):=by
  unfold fnl mid
  by_cases h:base p x∈ah
  · simp [h,Str.cps_append,repS]
  · simp [h,Str.cps_append,repS,lit_e]
theorem base_list (p x:Nat):(base p x).cps.toList=List.replicate p 102++[x]:=by simp [base,Str.cps_append,repS]
theorem fnl_base {p k x:Nat}{ah:List Str} (h:base p x ∉ ah):fnl p k ah x=base p x:=by
  apply Str.ext'
  apply Array.toList_inj.mp
  rw [fnl_list,base_list,if_neg h,List.nil_append]
def pen (w:Str):Option Nat:=w.cps.toList.reverse[1]?
theorem fnl_pen {p k x c:Nat}{ah:List Str} (h:pen (fnl p k ah x)=some c):c ≤ 103 + k:=by
  rw [pen,fnl_list] at h
  split at h
  · simp at h; omega
  · cases p with
    | zero=>simp at h
    | succ p=>simp [List.replicate_succ'] at h; omega
theorem fnl_penIn {p k x:Nat}{ah:List Str} (h:base p x∈ah):pen (fnl p k ah x)=some (103 + k):=by
  rw [pen,fnl_list,if_pos h]
  simp
theorem fnl_last (p k x:Nat) (ah:List Str):(fnl p k ah x).cps.toList.getLast?=some x:=by
  rw [fnl_list,← List.append_assoc,List.getLast?_concat]
theorem fnl_nm {p k x:Nat}{ah:List Str} (hp:p ≤ 5) (hk:k < 16) (hx:97 ≤ x∧x ≤ 99):nmB (fnl p k ah x)=true:=by
  rw [nm_iff]
  have hl:(fnl p k ah x).length=(fnl p k ah x).cps.toList.length:=by simp [Str.length]
  have h2:(fnl p k ah x).cps.toList.length=p + ((if base p x∈ah then [103 + k] else []).length + 1):=by rw [fnl_list]; simp
  have h3:(if base p x∈ah then [103 + k] else []:List Nat).length ≤ 1:=by split <;> simp
  refine ⟨by omega,by omega,fun c hc=>?_⟩
  rw [fnl_list] at hc
  rcases List.mem_append.mp hc with q | q
  · rw [(List.mem_replicate.mp q).2]; decide
  rcases List.mem_append.mp q with q | q
  · split at q
    · simp at q; omega
    · simp at q
  · simp at q; omega
theorem base_nm {p x:Nat} (hp:p ≤ 5) (hx:97 ≤ x∧x ≤ 99):nmB (base p x)=true:=by
  rw [← fnl_base (k:=0) (ah:=[]) (by simp)]
  exact fnl_nm hp (by decide) hx
def owns (p k n:Nat) (ah:List Str):List Str:=([97,98,99].take n).map (fnl p k ah)
theorem take3 {n x:Nat} (h:x∈([97,98,99]:List Nat).take n):97 ≤ x∧x ≤ 99:=by
  have:=List.mem_of_mem_take h
  simp at this
  omega
theorem owns_nodup (p k n:Nat) (ah:List Str):(owns p k n ah).Nodup:=by
  unfold owns
  have h:(([97,98,99]:List Nat).take n).Nodup:=(List.take_sublist _ _).nodup (by decide)
  unfold List.Nodup at h ⊢
  rw [List.pairwise_map]
  refine h.imp fun hab z=>hab ?_
  have e:=congrArg (fun x:Str=>x.cps.toList.getLast?) z
  simpa only [fnl_last,Option.some.injEq] using e
theorem owns_apart {p k n:Nat}{ah:List Str} (h:∀ w∈ah,∀ c,pen w=some c→c < 103 + k):∀ w∈owns p k n ah,w ∉ ah:=by
  intro w hw z
  obtain ⟨x,_,rfl⟩:=List.mem_map.mp hw
  by_cases q:base p x∈ah
  · have:=h _ z _ (fnl_penIn q)
    omega
  · rw [fnl_base q] at z
    exact q z
structure KP (ks:List KR):Prop extends KG ks where
  pn:∀ i,i < ks.length→∀ w∈flds ks i,∀ c,pen w=some c→c ≤ 103 + i
def inhOf (ks:List KR):Option Nat→List Str
  | none=>[]
  | some j=>flds ks j
def msAll:List Str:=[Str.ofString "m",Str.ofString "n",Str.ofString "mm"]
theorem get_app {ks:List KR}{r x:KR}{i:Nat} (h:(ks++[r])[i]?=some x):(i < ks.length∧ks[i]?=some x) ∨ (i=ks.length∧x=r):=by
  by_cases q:i < ks.length
  · rw [List.getElem?_append_left q] at h
    exact .inl ⟨q,h⟩
  · have hl:=lt_of_get h
    simp at hl
    have:i=ks.length:=by omega
    subst this
    simp at h
    exact .inr ⟨rfl,h.symm⟩
theorem KP.more {ks:List KR} (G:KP ks) {el:Option Nat}{p n:Nat}{ms:List Str} (h16:ks.length < 16) (he:∀ j,el=some j→j < ks.length) (hp:p ≤ 5) (hms:ms.Sublist msAll):KP (ks++[⟨ks.length,el,owns p ks.length n (inhOf ks el),ms⟩]):=by
  have hap:∀ w∈inhOf ks el,∀ c,pen w=some c→c < 103 + ks.length:=by
    intro w hw c hc
    cases el with
    | none=>simp [inhOf] at hw
    | some j =>
      have hj:=he j rfl
      have:=G.pn j hj w hw c hc
      omega
  have O:KOk (ks++[⟨ks.length,el,owns p ks.length n (inhOf ks el),ms⟩]):=by
    refine ⟨fun i x h=>?_,fun i x j h hj=>?_,by simp; omega⟩
    · rcases get_app h with ⟨_,h⟩ | ⟨rfl,rfl⟩
      · exact G.ok.id i x h
      · rfl
    · rcases get_app h with ⟨_,h⟩ | ⟨rfl,rfl⟩
      · exact G.ok.el i x j h hj
      · exact he j hj
  have last:(ks++[(⟨ks.length,el,owns p ks.length n (inhOf ks el),ms⟩:KR)])[ks.length]?=some ⟨ks.length,el,owns p ks.length n (inhOf ks el),ms⟩:=by simp
  have fl:flds (ks++[⟨ks.length,el,owns p ks.length n (inhOf ks el),ms⟩]) ks.length=inhOf ks el++owns p ks.length n (inhOf ks el):=by
    cases el with
    | none=>rw [flds_top last rfl]; rfl
    | some j=>rw [flds_up O last rfl,flds_app G.ok _ (he j rfl)]; rfl
  have len3:(owns p ks.length n (inhOf ks el)).length ≤ 3:=by
    unfold owns; rw [List.length_map,List.length_take]; simp; omega
  have own_nm:∀ w∈owns p ks.length n (inhOf ks el),nmB w=true:=by
    intro w hw
    obtain ⟨x,hx,rfl⟩:=List.mem_map.mp hw
    exact fnl_nm hp h16 (take3 hx)
  have ms_nm:∀ w∈ms,nmB w=true:=by
    intro w hw
    have:=hms.subset hw
    simp only [msAll,List.mem_cons,List.not_mem_nil,or_false] at this
    rcases this with rfl | rfl | rfl <;> decide +kernel
  have ind:(inhOf ks el).Nodup:=by
    cases el with
    | none=>exact List.nodup_nil
    | some j=>exact G.nd j (he j rfl)
  refine ⟨⟨O,fun i x h=>?_,fun i x h=>?_,fun i x h=>?_,fun i x h=>?_,fun i x h=>?_,fun i hi=>?_⟩,fun i hi w hw c hc=>?_⟩
  · rcases get_app h with ⟨_,h⟩ | ⟨rfl,rfl⟩
    · exact G.own_nm i x h
    · exact own_nm
  · rcases get_app h with ⟨_,h⟩ | ⟨rfl,rfl⟩
    · exact G.own3 i x h
    · exact len3
  · rcases get_app h with ⟨_,h⟩ | ⟨rfl,rfl⟩
    · exact G.ms_nm i x h
    · exact ms_nm
  · rcases get_app h with ⟨_,h⟩ | ⟨rfl,rfl⟩
    · exact G.ms_nd i x h
    · exact hms.nodup (by decide +kernel)
  · rcases get_app h with ⟨_,h⟩ | ⟨rfl,rfl⟩
    · exact G.ms3 i x h
    · exact hms.length_le
  · by_cases q:i < ks.length
    · rw [flds_app G.ok _ q]; exact G.nd i q
    · have:i=ks.length:=by simp at hi; omega
      subst this
      rw [fl,List.nodup_append]
      exact ⟨ind,owns_nodup _ _ _ _,fun a ha b hb z=>by subst z; exact owns_apart hap a hb ha⟩
  · by_cases q:i < ks.length
    · rw [flds_app G.ok _ q] at hw; exact G.pn i q w hw c hc
    · have:i=ks.length:=by simp at hi; omega
      subst this
      rw [fl] at hw
      rcases List.mem_append.mp hw with hw | hw
      · have:=hap w hw c hc; omega
      · obtain ⟨x,_,rfl⟩:=List.mem_map.mp hw
        exact fnl_pen hc
theorem KP.nil:KP []:=⟨⟨⟨by simp,by simp,by simp⟩,by simp,by simp,by simp,by simp,by simp,by simp⟩,by simp⟩
theorem hsOf_nodup {ks:List KR} (O:KOk ks) (hm:∀ (i:Nat) (r:KR),ks[i]?=some r→r.ms.Nodup):(hsOf ks).Nodup:=by
  have key:∀ (rest:List KR),(rest.map (·.k)).Nodup→(∀ r∈rest,r.ms.Nodup)→(hsOf rest).Nodup:=by
    intro rest
    induction rest with
    | nil=>intro _ _; simp [hsOf]
    | cons r rest ih =>
      intro nd hm
      rw [List.map_cons,List.nodup_cons] at nd
      have e:hsOf (r :: rest)=(r.ms.map fun m=>(r.k,m))++hsOf rest:=by simp [hsOf]
      rw [e,List.nodup_append]
      refine ⟨?_,ih nd.2 fun x hx=>hm x (by simp [hx]),?_⟩
      · have:=hm r (by simp)
        unfold List.Nodup at this ⊢
        rw [List.pairwise_map]
        exact this.imp fun h z=>h (by injection z)
      · intro a ha b hb z
        subst z
        obtain ⟨m,_,rfl⟩:=List.mem_map.mp ha
        obtain ⟨x,hx,hb⟩:=List.mem_flatMap.mp hb
        obtain ⟨m',_,e2⟩:=List.mem_map.mp hb
        injection e2 with e3 e4
        exact nd.1 (List.mem_map.mpr ⟨x,hx,e3⟩)
  refine key ks ?_ fun r hr=>?_
  · have e:ks.map (·.k)=List.range ks.length:=by
      apply List.ext_getElem?
      intro i
      rw [List.getElem?_map]
      by_cases h:i < ks.length
      · have e:ks[i]?=some ks[i]:=List.getElem?_eq_getElem h
        rw [e,List.getElem?_range h]
        show some (ks[i]).k=some i
        rw [O.id i _ e]
      · rw [List.getElem?_eq_none (by omega),List.getElem?_eq_none (by simp; omega)]; rfl
    rw [e]; exact List.nodup_range
  · obtain ⟨i,hi⟩:=mem_ix r hr
    exact hm i r hi
theorem hsT_mem (ks:List KR) (turn:Bool) (h:Hd):h∈hsT ks turn ↔ h∈hsOf ks:=by cases turn <;> simp [hsT]
theorem hg_of {ks:List KR} (G:KG ks) (turn:Bool):HG ks (hsT ks turn):=by
  have h16:=G.ok.len
  have mem:∀ h∈hsOf ks,h.1 < ks.length∧nmB h.2=true:=by
    intro h hh
    obtain ⟨r,hr,z⟩:=List.mem_flatMap.mp hh
    obtain ⟨m,hm,rfl⟩:=List.mem_map.mp z
    obtain ⟨i,hi⟩:=mem_ix r hr
    have:=G.ok.id i r hi
    have:=lt_of_get hi
    exact ⟨by show r.k < _; omega,G.ms_nm i r hi m hm⟩
  have nd:(hsT ks turn).Nodup:=by
    have:=hsOf_nodup G.ok G.ms_nd
    cases turn with
    | false=>exact this
    | true=>exact List.pairwise_reverse.mpr (List.Pairwise.imp (fun h z=>h z.symm) this)
  refine ⟨fun h hh=>(mem h ((hsT_mem ks turn h).mp hh)).1,fun h hh=>(mem h ((hsT_mem ks turn h).mp hh)).2,?_,?_⟩
  · unfold List.Nodup at nd ⊢
    rw [List.pairwise_map]
    exact nd.imp fun h z=>h (hnm_inj z)
  · have:=hsOf_len (ks:=ks) fun r hr=>by
      obtain ⟨i,hi⟩:=mem_ix r hr
      exact G.ms3 i r hi
    have e:(hsT ks turn).length=(hsOf ks).length:=by cases turn <;> simp [hsT]
    omega
def abcp:Str:=Str.ofString "abcdefghijklmnop"
theorem abcp_list:abcp.cps.toList=(List.range 16).map (97 + ·):=by decide +kernel
theorem abcp_at (i:Nat) (h:i < 16):dIxA (.str abcp) (.int (i:Int))=some (.str ⟨#[97 + i]⟩):=by
  have hl:abcp.length ≤ sizeLine:=by decide +kernel
  show (if abcp.length ≤ sizeLine then (atI abcp.cps.toList (i:Int)).map (fun c=>PyData.str ⟨#[c]⟩) else none)=_
  rw [if_pos hl,abcp_list,atI_nat (v:=97 + i) (by simp [h])]
  rfl
def ghp:Str:=Str.ofString "ghijklmnopqrstuv"
theorem ghp_list:ghp.cps.toList=(List.range 16).map (103 + ·):=by decide +kernel
theorem ghp_at (i:Nat) (h:i < 16):dIxA (.str ghp) (.int (i:Int))=some (.str ⟨#[103 + i]⟩):=by
  have hl:ghp.length ≤ sizeLine:=by decide +kernel
  show (if ghp.length ≤ sizeLine then (atI ghp.cps.toList (i:Int)).map (fun c=>PyData.str ⟨#[c]⟩) else none)=_
  rw [if_pos hl,ghp_list,atI_nat (v:=103 + i) (by simp [h])]
  rfl
theorem abcp_occ:∀ j:Fin 16,occurrences abcp ⟨#[97 + j.1]⟩ 0 abcp.length 1=[j.1]:=by decide +kernel
theorem abcp_index {j:Nat} (h:j < 16):dSIndex (.str abcp) [.str ⟨#[97 + j]⟩]=some (.int (j:Int)):=by
  have:=abcp_occ ⟨j,h⟩
  show (match occurrences abcp ⟨#[97 + j]⟩ 0 abcp.length 1 with | i :: _=>some (PyData.int i) | []=>none)=_
  rw [this]
theorem nmK_4 (j:Nat):dIxA (.str (nmK j)) (.int 4)=some (.str ⟨#[97 + j]⟩):=by
  show (if (nmK j).length ≤ sizeLine then (atI (nmK j).cps.toList 4).map (fun c=>PyData.str ⟨#[c]⟩) else none)=_
  rw [if_pos (by rw [nmK_len]; decide)]
  rfl
theorem kind_add (j:Nat):dAdd (.str (Str.ofString "kind")) (.str ⟨#[97 + j]⟩)=some (.str (nmK j)):=by
  rw [strAdd _ _ (by rw [show (Str.ofString "kind").length=4 by decide +kernel]; show 4 + 1 ≤ _; omega)]
  congr 2
theorem subI (i j:Int):dSub (.int i) (.int j)=some (.int (i - j)):=rfl
theorem sel (k:Nat) (hk:0 < k) (a b:Int):∃ j:Nat,j < k∧dIxA (.list [.int ((k:Int) - 1),.int (a % (k:Int))]) (.int (b % 2))=some (.int (j:Int)):=by
  have:b % 2=0 ∨ b % 2=1:=by omega
  rcases this with q | q
  · exact ⟨k - 1,by omega,by rw [q,ixL,at0,show (k:Int) - 1=((k - 1:Nat):Int) by omega]⟩
  · have h0:0 ≤ a % (k:Int):=Int.emod_nonneg _ (by omega)
    have h1:a % (k:Int) < k:=Int.emod_lt_of_pos _ (by omega)
    exact ⟨(a % (k:Int)).toNat,by omega,by rw [q,ixL,at1,show ((a % (k:Int)).toNat:Int)=a % (k:Int) by omega]⟩
theorem cell_ok (ns:List Int) (k:Nat):∃ c:Int,f_law_cell_at [.list (ns.map .int),.int (k:Int)]=some (.int c):=by
  by_cases h:k < ns.length
  · refine ⟨ns[k],?_⟩
    have h1:dLt (.int (k:Int)) (.int (((ns.map PyData.int).length:Nat):Int))=some (.bool true):=by
      have:(k:Int) < ((ns.length:Nat):Int):=by omega
      simp [dLt,dI,this]
    have h2:dIxA (.list (ns.map .int)) (.int (k:Int))=some (.int ns[k]):=by
      rw [ixL]
      exact atI_nat (by rw [List.getElem?_map,List.getElem?_eq_getElem h]; rfl)
    simp? only [f_law_cell_at,g_law_cell_at,lenL,h1,h2]
  · refine ⟨0,?_⟩
    have h1:dLt (.int (k:Int)) (.int (((ns.map PyData.int).length:Nat):Int))=some (.bool false):=ltI (by simp; omega)
    simp? only [f_law_cell_at,g_law_cell_at,lenL,h1]
theorem comp_map {α:Type}{T:Rho→Option Bool}{C:Rho→Option PyData}{ρc:Rho}{F:α→Str}{D:α→PyData} (hT:T=fun _=>some true):∀ (xs:List α),(∀ x∈xs,C (some (D x) :: ρc)=some (.str (F x)))→compD T C ρc (xs.map D)=some ((xs.map F).map .str)
  | [],_=>rfl
  | x :: xs,h=>by
    have ih:=comp_map hT xs fun y hy=>h y (by simp [hy])
    rw [List.map_cons,compD,h x (by simp),ih,hT]
    rfl
theorem lit_f:Str.ofString "f"=⟨#[102]⟩:=by decide +kernel
theorem c0_ok {L:PyData}{d:Int} (hd:dIxA L (.int 3)=some (.int d)) (x:Nat):g_law_kinds_C0 [some (.str ⟨#[x]⟩),some L]=some (.str (base (d % 6).toNat x)):=by
  have m:=modI (i:=d) (j:=6) (by omega)
  have mm:=mulS 102 (d % 6).toNat (by omega)
  rw [show (((d % 6).toNat:Nat):Int)=d % 6 by omega,← lit_f] at mm
  have a:=strAdd (repS 102 (d % 6).toNat) ⟨#[x]⟩ (by rw [repS_len]; show _ + 1 ≤ _; omega)
  simp? only [g_law_kinds_C0,hd,m,mm,a]
  rfl
theorem sl_base:∀ (p:Fin 6) (x:Fin 3),Txt.slice (base p.1 (97 + x.1)) none (some (-1))=repS 102 p.1:=by decide +kernel
theorem base_len (p x:Nat):(base p x).length=p + 1:=by rw [base,Str.length_append,repS_len]; rfl
theorem sl_ok {p x:Nat} (hp:p ≤ 5) (hx:97 ≤ x∧x ≤ 99):dSl (.str (base p x)) none (some (-1))=some (.str (repS 102 p)):=by
  have e:=sl_base ⟨p,by omega⟩ ⟨x - 97,by omega⟩
  simp only [show 97 + (x - 97)=x by omega] at e
  show (if (base p x).length ≤ sizeLine then _ else none)=_
  rw [if_pos (by rw [base_len,sizeLine_eq]; omega),e]
theorem last_ok (p x:Nat) (hp:p ≤ 5):dIxA (.str (base p x)) (.int (-1))=some (.str ⟨#[x]⟩):=by
  show (if (base p x).length ≤ sizeLine then (atI (base p x).cps.toList (-1)).map (fun c=>PyData.str ⟨#[c]⟩) else none)=_
  rw [if_pos (by rw [base_len,sizeLine_eq]; omega),base_list,at_last]
  rfl
theorem mid_ok (k:Nat) (b:Bool):(dIntOf [.bool b]).bind (fun i=>dIxA (.list [.str (Str.ofString ""),.str ⟨#[103 + k]⟩]) i)=some (.str (mid k b)):=by
  cases b <;> rfl
theorem c1_ok {p k x:Nat}{ah:List Str} (hp:p ≤ 5) (hk:k < 16) (hx:97 ≤ x∧x ≤ 99) (ha:∀ w∈ah,PyData.strOk w=true):g_law_kinds_C1 [some (.str (base p x)),some (.int (k:Int)),some (wl ah)]=some (.str (fnl p k ah x)):=by
  have hi:=dInB_wl (nm_ok (base_nm hp hx)) ha
  have g:=ghp_at k hk
  have md:=mid_ok k (decide (base p x∈ah))
  have lm:(mid k (decide (base p x∈ah))).length ≤ 1:=by
    unfold mid; split
    · exact Nat.le_refl 1
    · rw [lit_e]; exact Nat.zero_le _
  have a1:=strAdd (repS 102 p) (mid k (decide (base p x∈ah))) (by rw [repS_len]; omega)
  have a2:=strAdd (repS 102 p++mid k (decide (base p x∈ah))) ⟨#[x]⟩ (by rw [Str.length_append,repS_len]; show _ + 1 ≤ _; omega)
  have s:=sl_ok hp hx
  have l:=last_ok p x hp
  obtain ⟨i,hq,md2⟩:∃ i,dIntOf [.bool (decide (base p x∈ah))]=some i∧dIxA (.list [.str (Str.ofString ""),.str ⟨#[103 + k]⟩]) i=some (.str (mid k (decide (base p x∈ah)))):=by
    cases e:dIntOf [.bool (decide (base p x∈ah))] with
    | none=>rw [e] at md; cases md
    | some i=>rw [e] at md; exact ⟨i,rfl,md⟩
  simp only [ghp] at g
  simp? only [g_law_kinds_C1,s,g,e_dIn,hi,hq,md2,l,a1,a2]
  rfl
theorem gtB (i:Int):dGt (.int i) (.int 0)=some (.bool (decide (0 < i))):=rfl
theorem k_elder {ns:List Int}{dg:Bool}{K L:PyData}{k:Nat} (hk:k < 16) {a b c:Int} (h0:dIxA L (.int 0)=some (.int a)) (h1:dIxA L (.int 1)=some (.int b)) (h2:dIxA L (.int 2)=some (.int c)) (s a7 a8:Option PyData):∃ el:Option Nat,(∀ j,el=some j→j < k) ∧
    (sIf (fAnd (fB (d2 dGt (dVar 4) (dC (.int 0)))) (fB (d2 dGt (d2 dMod (d2 dIxA (dVar 5) (dC (.int 0))) (dC (.int 4))) (dC (.int 0)))))
      (sSetV (vFr [3] (d2 dAdd (dC (.str "kind")) (d2 dIxA (dVar 2) (d2 dIxA (dLst (aCons (d2 dSub (dVar 4) (dC (.int 1))) (aCons (d2 dMod (d2 dIxA (dVar 5) (dC (.int 1))) (dVar 4)) aNil))) (d2 dMod (d2 dIxA (dVar 5) (dC (.int 2))) (dC (.int 2))))))) 6)
      sNil) [s,some (.bool dg),some (.str abcp),some K,some (.int (k:Int)),some L,some .none,a7,a8]=some (.nx [s,some (.bool dg),some (.str abcp),some K,some (.int (k:Int)),some L,some (elD el),a7,a8]):=by
  have m0:=modI (i:=a) (j:=4) (by omega)
  by_cases q0:0 < k
  · by_cases q1:0 < a % 4
    · obtain ⟨j,hj,e⟩:=sel k q0 b c
      have m1:=modI (i:=b) (j:=(k:Int)) (by omega)
      have m2:=modI (i:=c) (j:=2) (by omega)
      have at_:=abcp_at j (by omega)
      have ka:=kind_add j
      refine ⟨some j,fun i hi=>by cases hi; exact hj,if_t ?_ (setv_of ?_)⟩
      · have z0:decide ((0:Int) < (k:Int))=true:=by simpa using q0
        have z1:decide (0 < a % 4)=true:=by simpa using q1
        simp? only [gtB,z0,h0,m0,z1]
      · simp? only [subI,h1,m1,h2,m2,e,at_,ka,elD]
    · refine ⟨none,by simp,if_f ?_ rfl⟩
      have z0:decide ((0:Int) < (k:Int))=true:=by simpa using q0
      have z1:decide (0 < a % 4)=false:=by simpa using q1
      simp? only [gtB,z0,h0,m0,z1]
  · refine ⟨none,by simp,if_f ?_ rfl⟩
    have z0:decide ((0:Int) < (k:Int))=false:=by simpa using q0
    simp? only [gtB,z0]
theorem k_ahead {ks:List KR} (G:KG ks) {el:Option Nat} (he:∀ j,el=some j→j < ks.length) (s dg k L a8:Option PyData) :
    (sIf (fB (d2 dIsNotA (dVar 6) (dC .none)))
      (sSetV (vFl (dFn 2 f_law_fields (aCons (dVar 3) (aCons (dMt dSIndex (dVar 2) (aCons (d2 dIxA (dVar 6) (dC (.int 4))) aNil)) aNil)))) 7)
      sNil) [s,dg,some (.str abcp),some (kl ks),k,L,some (elD el),some (wl []),a8]=some (.nx [s,dg,some (.str abcp),some (kl ks),k,L,some (elD el),some (wl (inhOf ks el)),a8]):=by
  have h16:=G.ok.len
  cases el with
  | none=>exact if_f (by simp? only [elD,isnot_n]) rfl
  | some j =>
    have hj:=he j rfl
    have ix:=abcp_index (j:=j) (by omega)
    have f:=fields_ok G.ok G.own3 hj
    refine if_t (by simp? only [elD,isnot_s]) ?_
    simp? only [elD,nmK_4,ix,f,flat_wl,inhOf]
theorem sub_cut (a b:Option Int) (l:List Str):(cutL l a b).Sublist l:=(List.take_sublist _ _).trans (List.drop_sublist _ _)
theorem cut_map (a b:Option Int) (l:List Str):cutL (l.map PyData.str) a b=(cutL l a b).map .str:=by
  unfold cutL
  rw [List.length_map,List.map_take,List.map_drop]
theorem lits3:[PyData.str (Str.ofString "a"),.str (Str.ofString "b"),.str (Str.ofString "c")]=[97,98,99].map fun x:Nat=>PyData.str ⟨#[x]⟩:=by
  have b:Str.ofString "b"=⟨#[98]⟩:=by decide +kernel
  have c:Str.ofString "c"=⟨#[99]⟩:=by decide +kernel
  rw [lit_a,b,c]; rfl
theorem k_own1 {L:PyData}{d e:Int} (h3:dIxA L (.int 3)=some (.int d)) (h4:dIxA L (.int 4)=some (.int e)) (s dg lt k el ah a8:Option PyData) :
    (dComp (qSeq (dSlice (dLst (aCons (dC (.str "a")) (aCons (dC (.str "b")) (aCons (dC (.str "c")) aNil)))) oNone (oSome (d2 dMod (d2 dIxA (dVar 5) (dC (.int 4))) (dC (.int 4)))))) [(5,"_law_draw_here")] g_law_kinds_T0 g_law_kinds_C0) [s,dg,lt,none,k,some L,el,ah,a8] =
      some (wl (([97,98,99].take (e % 4).toNat).map (base (d % 6).toNat))):=by
  have m4:=modI (i:=e) (j:=4) (by omega)
  have ct:=cut_to ([97,98,99].map fun x:Nat=>PyData.str ⟨#[x]⟩) (e % 4).toNat (by simp; omega)
  rw [show (((e % 4).toNat:Nat):Int)=e % 4 by omega,← lits3] at ct
  refine comp_of (ds:=([97,98,99].take (e % 4).toNat).map fun x:Nat=>PyData.str ⟨#[x]⟩) ?_ (by simp; omega) (comp_map rfl _ fun x _=>c0_ok h3 x)
  simp? only [h4,m4,slL,ct]
  rw [lits3,List.map_take]
theorem k_own2 {p k n:Nat}{ah:List Str} (hp:p ≤ 5) (hk:k < 16) (hn:n ≤ 3) (ha:∀ w∈ah,PyData.strOk w=true) (s dg lt L el:Option PyData) :
    (dComp (qSeq (dVar 8)) [(4,"_law_k"),(7,"_law_ahead")] g_law_kinds_T1 g_law_kinds_C1) [s,dg,lt,none,some (.int (k:Int)),L,el,some (wl ah),some (wl (([97,98,99].take n).map (base p)))]=some (wl (owns p k n ah)):=by
  refine comp_of (ds:=(([97,98,99].take n).map (base p)).map .str) rfl (by simp; omega) ?_
  rw [List.map_map]
  exact comp_map (D:=PyData.str ∘ base p) (F:=fnl p k ah) rfl _ fun x hx=>c1_ok hp hk (take3 hx) ha
theorem k_tup {k:Nat} (hk:k < 16) {L:PyData}{f g:Int} (h5:dIxA L (.int 5)=some (.int f)) (h6:dIxA L (.int 6)=some (.int g)) (s dg:Option PyData) (el own:PyData) :
    ∃ ms:List Str,ms.Sublist msAll∧(dTup (aCons (d2 dAdd (dC (.str "kind")) (d2 dIxA (dVar 2) (dVar 4))) (aCons (dVar 6) (aCons (dVar 8) (aCons (dSlice (dLst (aCons (dC (.str "m")) (aCons (dC (.str "n")) (aCons (dC (.str "mm")) aNil)))) (oSome (d2 dMod (d2 dIxA (dVar 5) (dC (.int 5))) (dC (.int 3)))) (oSome (d2 dAdd (d2 dMod (d2 dIxA (dVar 5) (dC (.int 5))) (dC (.int 3))) (d2 dMod (d2 dIxA (dVar 5) (dC (.int 6))) (dC (.int 3)))))) aNil))))) [s,dg,some (.str abcp),none,some (.int (k:Int)),some L,some el,ah,some own]=some (.tuple [.str (nmK k),el,own,wl ms]):=by
  have m5:=modI (i:=f) (j:=3) (by omega)
  have m6:=modI (i:=g) (j:=3) (by omega)
  have ct:=cut_map (some (f % 3)) (some (f % 3 + g % 3)) msAll
  simp only [msAll,List.map_cons,List.map_nil] at ct
  refine ⟨cutL msAll (some (f % 3)) (some (f % 3 + g % 3)),sub_cut _ _ _,?_⟩
  simp? only [abcp_at k hk,kind_add,h5,m5,h6,m6,addI,slL,ct]
  rfl
theorem k_step {ns:List Int}{dg:Bool}{ks:List KR} (G:KP ks) (h16:ks.length < 16) (a b c d:Option PyData):∃ r a' b' c' d',KP (ks++[r]) ∧
    g_law_kinds_L2 [some (.list (ns.map .int)),some (.bool dg),some (.str abcp),some (kl ks),some (.int (ks.length:Int)),a,b,c,d]=some (.nx [some (.list (ns.map .int)),some (.bool dg),some (.str abcp),some (kl (ks++[r])),some (.int (ks.length:Int)),a',b',c',d']):=by
  obtain ⟨v,hv⟩:=cell_ok ns (1 + ks.length)
  obtain ⟨xs,hx,hd⟩:=draw_ok v dg
  match xs,hx with
  | [d0,d1,d2',d3,d4,d5,d6,d7,d8,d9,d10,d11,d12,d13],_ =>
  generalize hL:PyData.list (List.map PyData.int [d0,d1,d2',d3,d4,d5,d6,d7,d8,d9,d10,d11,d12,d13])=L at hd
  have i0:dIxA L (.int 0)=some (.int d0):=by subst hL; rfl
  have i1:dIxA L (.int 1)=some (.int d1):=by subst hL; rfl
  have i2:dIxA L (.int 2)=some (.int d2'):=by subst hL; rfl
  have i3:dIxA L (.int 3)=some (.int d3):=by subst hL; rfl
  have i4:dIxA L (.int 4)=some (.int d4):=by subst hL; rfl
  have i5:dIxA L (.int 5)=some (.int d5):=by subst hL; rfl
  have i6:dIxA L (.int 6)=some (.int d6):=by subst hL; rfl
  obtain ⟨el,he,s3⟩:=k_elder (ns:=ns) (dg:=dg) (K:=kl ks) h16 i0 i1 i2 (some (.list (ns.map .int))) c d
  have ok:∀ w∈inhOf ks el,PyData.strOk w=true:=by
    cases el with
    | none=>simp [inhOf]
    | some j=>exact flds_ok G.toKG j
  have hp:(d3 % 6).toNat ≤ 5:=by omega
  have hn:(d4 % 4).toNat ≤ 3:=by omega
  obtain ⟨ms,hms,s8⟩:=k_tup (ah:=some (wl (inhOf ks el))) h16 i5 i6 (some (.list (ns.map .int))) (some (.bool dg)) (elD el) (wl (owns (d3 % 6).toNat ks.length (d4 % 4).toNat (inhOf ks el)))
  refine ⟨⟨ks.length,el,owns (d3 % 6).toNat ks.length (d4 % 4).toNat (inhOf ks el),ms⟩,some L,some (elD el),some (wl (inhOf ks el)),some (wl (owns (d3 % 6).toNat ks.length (d4 % 4).toNat (inhOf ks el))),G.more h16 he hp hms,?_⟩
  have s1:(dFn 2 f_law_draw (aCons (dFn 2 f_law_cell_at (aCons (dVar 0) (aCons (d2 dAdd (dC (.int 1)) (dVar 4)) aNil))) (aCons (dVar 1) aNil))) [some (.list (ns.map .int)),some (.bool dg),some (.str abcp),none,some (.int (ks.length:Int)),a,b,c,d]=some L:=by
    have ad:=addI 1 (ks.length:Int)
    rw [show (1:Int) + (ks.length:Int)=((1 + ks.length:Nat):Int) by omega] at ad
    simp? only [ad,hv,hd]
  have z:(ks.map krD).length < sizeLine:=by rw [sizeLine_eq]; simp; omega
  refine seq2 (ρ1:=[some (.list (ns.map .int)),some (.bool dg),some (.str abcp),some (kl ks),some (.int (ks.length:Int)),some L,b,c,d]) (setv_of s1) (seq2 (ρ1:=[some (.list (ns.map .int)),some (.bool dg),some (.str abcp),some (kl ks),some (.int (ks.length:Int)),some L,some .none,c,d]) (setv_of rfl) (seq2 s3 (seq2 (ρ1:=[some (.list (ns.map .int)),some (.bool dg),some (.str abcp),some (kl ks),some (.int (ks.length:Int)),some L,some (elD el),some (wl []),d]) (setv_of (by simp? only [e_c]; rfl)) (seq2 (k_ahead G.toKG he _ _ _ _ _) (seq2 (setv_of (O:=[3]) (i:=8) (k_own1 i3 i4 _ _ _ _ _ _ _)) (seq2 (setv_of (O:=[3]) (i:=8) (k_own2 hp h16 hn ok _ _ _ _ _)) ?_))))))
  rw [e_app,gp_sl,e_vfr]
  show Option.bind (some (kl ks)) (fun l=>Option.bind (dTup _ [some (.list (ns.map .int)),some (.bool dg),some (.str abcp),none,some (.int (ks.length:Int)),some L,some (elD el),some (wl (inhOf ks el)),some (wl (owns (d3 % 6).toNat ks.length (d4 % 4).toNat (inhOf ks el)))]) _)=_
  rw [s8]
  simp only [Option.bind_some,kl,if_pos z,sp_sl,List.map_append,List.map_cons,List.map_nil]
  rfl
theorem k_loop {ns:List Int}{dg:Bool}:∀ (m:Nat) (ks:List KR) (x a b c d:Option PyData),KP ks→ks.length + m ≤ 16 →
    ∃ (ks':List KR) (x' a' b' c' d':Option PyData),KP ks'∧forD (bdT (.one 4)) g_law_kinds_L2 ((List.range' ks.length m).map fun (i:Nat)=>PyData.int (i:Int)) [some (.list (ns.map .int)),some (.bool dg),some (.str abcp),some (kl ks),x,a,b,c,d]=some (.nx [some (.list (ns.map .int)),some (.bool dg),some (.str abcp),some (kl ks'),x',a',b',c',d'])
  | 0,ks,x,a,b,c,d,G,_=>⟨ks,x,a,b,c,d,G,rfl⟩
  | m + 1,ks,x,a,b,c,d,G,h=>by
    obtain ⟨r,a1,b1,c1,d1,G1,e1⟩:=k_step (ns:=ns) (dg:=dg) G (by omega) a b c d
    obtain ⟨ks',x',a',b',c',d',G',e⟩:=k_loop (ns:=ns) (dg:=dg) m (ks++[r]) (some (.int (ks.length:Int))) a1 b1 c1 d1 G1 (by simp; omega)
    refine ⟨ks',x',a',b',c',d',G',?_⟩
    have e1':(bdT (.one 4) (PyData.int (ks.length:Int)) [some (.list (ns.map .int)),some (.bool dg),some (.str abcp),some (kl ks),x,a,b,c,d]).bind g_law_kinds_L2=_:=e1
    rw [List.length_append,List.length_singleton] at e
    rw [List.range'_succ,List.map_cons,forD_cons e1',e]
theorem kinds_ok (ns:List Int) (dg:Bool) (hn:ns.length ≤ 63):∃ ks,KP ks∧f_law_kinds [.list (ns.map .int),.bool dg]=some (kl ks):=by
  have hM:∃ M:Nat,M ≤ 16∧(dCall dMax (aCons (dC (.int 1)) (aCons (dCall dMin (aCons (dC (.int 16)) (aCons (d2 dSub (dCall dLenA (aCons (dVar 0) aNil)) (dC (.int 1))) aNil))) aNil))) [some (.list (ns.map .int)),some (.bool dg),some (.str abcp),none,none,none,none,none,none]=some (.int (M:Int)):=by
    have h1:∀ i:Int,i ≤ 62→∃ M:Nat,M ≤ 16∧(dMin [.int 16,.int i]).bind (fun d=>dMax [.int 1,d])=some (.int (M:Int)):=by
      intro i hi
      by_cases q:i < 16
      · by_cases q2:1 < i
        · exact ⟨i.toNat,by omega,by simp [dMin,dMax,q,q2]; omega⟩
        · exact ⟨1,by omega,by simp [dMin,dMax,q,q2]⟩
      · exact ⟨16,by omega,by simp [dMin,dMax,q]⟩
    obtain ⟨M,h2,h3⟩:=h1 ((ns.length:Int) - 1) (by omega)
    refine ⟨M,h2,?_⟩
    obtain ⟨y,h4,h5⟩:∃ y,dMin [.int 16,.int ((ns.length:Int) - 1)]=some y∧dMax [.int 1,y]=some (.int (M:Int)):=by
      cases e:dMin [.int 16,.int ((ns.length:Int) - 1)] with
      | none=>rw [e] at h3; cases h3
      | some y=>rw [e] at h3; exact ⟨y,rfl,h3⟩
    simp? only [lenL,List.length_map,subI,h4,h5]
  obtain ⟨M,hM,q⟩:=hM
  obtain ⟨ks',x',a',b',c',d',G,e⟩:=k_loop (ns:=ns) (dg:=dg) M [] none none none none none KP.nil (by simpa using hM)
  refine ⟨ks',G,?_⟩
  refine run4 (ρ0:=[some (.list (ns.map .int)),some (.bool dg),none,none,none,none,none,none,none]) (ρ1:=[some (.list (ns.map .int)),some (.bool dg),some (.str abcp),none,none,none,none,none,none]) (ρ2:=[some (.list (ns.map .int)),some (.bool dg),some (.str abcp),some (kl []),none,none,none,none,none]) (by rw [e_start]; rfl) rfl ?_ (for_of1 (r1_ok (by omega) _ _ q) e) ?_
  · simp? only [e_c]
    rfl
  · simp? only [e_c]
theorem eqI (i j:Int):dEq (.int i) (.int j)=some (.bool (i == j)):=by
  rw [dEq,if_pos ⟨by rfl,by rfl⟩,PyData.eqv]
theorem law_true:∀ ns:List Int,ns.length ≤ 63→(∀ x∈ns,okBits x=true)→f_law [.list (ns.map .int)]=some (.bool true):=by
  intro ns hn _
  obtain ⟨c,hc⟩:=cell_ok ns 0
  obtain ⟨ks,G,e⟩:=kinds_ok ns (c % 2 == 0) hn
  refine law_of G.toKG (c / 2 % 2 == 0) (hg_of G.toKG _) (hsT_mem ks _) (c:=c) (b:=c % 2 == 0) hc (fun x=>?_) (fun x y=>?_) e
  · simp only [e_d2,e_c,e_var,List.getElem?_cons_zero,List.getElem?_cons_succ,Option.join_some,Option.bind_some,modI (i:=c) (j:=2) (by omega),eqI]
  · simp only [e_d2,e_c,e_var,List.getElem?_cons_zero,List.getElem?_cons_succ,Option.join_some,Option.bind_some,divI (i:=c) (j:=2) (by omega) (by omega),modI (i:=c / 2) (j:=2) (by omega),eqI]
end K05
def PySem.W.Fast.tw4785849482078711390 : Unit := ()
def PySem.W.Fast.tw7439153587423717150 : Unit := ()
def PySem.W.Fast.tw17851773770717755541 : Unit := ()
def PySem.W.Fast.tw17039247553945084875 : Unit := ()
def PySem.W.Fast.tw3755477553976050787 : Unit := ()
def PySem.W.Fast.tw712455355134960992 : Unit := ()
def PySem.W.Fast.tw10664963030563236607 : Unit := ()
def PySem.W.Fast.tw10929153888178415396 : Unit := ()
def PySem.W.Fast.tw2675378415565977575 : Unit := ()
def PySem.W.Fast.tw13678116775941939341 : Unit := ()
def PySem.W.Fast.tw16855338507979009523 : Unit := ()
def PySem.W.Fast.tw132856382915593034 : Unit := ()
def PySem.W.Fast.tw16613102709389447528 : Unit := ()
def PySem.W.Fast.tw1056866107884672453 : Unit := ()
open PySem PySem.W PyProof.Rows
set_option maxRecDepth 100000 in
set_option maxHeartbeats 0 in
theorem PySem.Challenge.cw_pointsure_k05_kinds_holds : PySem.Challenge.rw_pointsure_k05_kinds.Holds := by
  w_on; o_law; k_head; (case hw => w_witness2)
  k_fill
  refine L2.walk_data (l := PySem.Challenge.rw_pointsure_k05_kinds) (n := 63) (k := 7) (x := "_law_script") (f := K05.f_law) rfl (by decide) rfl ⟨rfl, by decide, by decide⟩ (fun w h Y => PySem.W.kIn_of Y) ?F K05.law_true
  case F =>
    intro w mg fa h KX G hmg
    refine' K05.all_mk KX G hmg ?a_Program ?pg_Program ?hd_Program ?po_Program ?sa_Program ?mk_Program ?kc_Program ?a_Reading ?pg_Reading ?hd_Reading ?po_Reading ?sa_Reading ?mk_Reading ?kc_Reading ?n_Program_body_texts ?n_Program_numbered ?n_Program_text ?n_Reading_blocks ?n_Reading_body ?n_Reading_fields ?n_Reading_heads ?n_Reading_later ?n_Reading_over ?a0 ?l0 ?c0 ?k0 ?a1 ?l1 ?c1 ?k1 ?a2 ?l2 ?c2 ?k2 ?a3 ?l3 ?c3 ?k3 ?a4 ?l4 ?c4 ?k4 ?a5 ?i5 ?l5 ?c5 ?k5 ?a6 ?l6 ?c6 ?k6 ?a7 ?l7 ?c7 ?k7 ?a8 ?l8 ?c8 ?k8 ?a9 ?i9 ?l9 ?c9 ?k9 ?a10 ?l10 ?c10 ?k10 ?a11 ?l11 ?c11 ?k11 ?a12 ?i12 ?l12 ?c12 ?k12 ?a13 ?l13 ?c13 ?k13 ?a14 ?l14 ?c14 ?k14 ?a15 ?l15 ?c15 ?k15 ?a16 ?l16 ?c16 ?k16 ?a17 ?l17 ?c17 ?k17 ?a18 ?l18 ?c18 ?k18 ?a19 ?l19 ?c19 ?k19 ?a20 ?l20 ?c20 ?k20 ?a21 ?l21 ?c21 ?k21 ?a22 ?l22 ?c22 ?k22 ?a23 ?l23 ?c23 ?k23 ?a24 ?l24 ?c24 ?k24 ?a25 ?l25 ?c25 ?k25 ?a26 ?l26 ?c26 ?k26 ?a27 ?l27 ?c27 ?k27 ?a28 ?l28 ?c28 ?k28 ?a29 ?l29 ?c29 ?k29 ?a30 ?l30 ?c30 ?k30 ?a31 ?l31 ?c31 ?k31 ?a32 ?l32 ?c32 ?k32 ?a33 ?l33 ?c33 ?k33 ?a34 ?l34 ?c34 ?k34 ?a35 ?l35 ?c35 ?k35 ?a36 ?l36 ?c36 ?k36 ?a37 ?l37 ?c37 ?k37 ?z0 ?z1 ?z2 ?z3 ?z4 ?z5 ?z6 ?z7 ?z8 ?z9 ?z10
    (case a_Program => first | k_is | decide)
    (case pg_Program => first | k_is | decide)
    (case hd_Program => first | k_is | decide)
    (case po_Program => first | k_is | decide)
    (case sa_Program => first | k_is | decide)
    (case mk_Program => first | k_is | decide)
    (case kc_Program => first | k_is | decide)
    (case a_Reading => first | k_is | decide)
    (case pg_Reading => first | k_is | decide)
    (case hd_Reading => first | k_is | decide)
    (case po_Reading => first | k_is | decide)
    (case sa_Reading => first | k_is | decide)
    (case mk_Reading => first | k_is | decide)
    (case kc_Reading => first | k_is | decide)
    (case n_Program_body_texts => first | k_is | decide)
    (case n_Program_numbered => first | k_is | decide)
    (case n_Program_text => first | k_is | decide)
    (case n_Reading_blocks => first | k_is | decide)
    (case n_Reading_body => first | k_is | decide)
    (case n_Reading_fields => first | k_is | decide)
    (case n_Reading_heads => first | k_is | decide)
    (case n_Reading_later => first | k_is | decide)
    (case n_Reading_over => first | k_is | decide)
    (case a0 => first | k_is | decide)
    (case l0 => first | k_is | decide)
    (case c0 => first | k_is | decide)
    (case k0 => first | k_is | decide)
    (case a1 => first | k_is | decide)
    (case l1 => first | k_is | decide)
    (case c1 => first | k_is | decide)
    (case k1 => first | k_is | decide)
    (case a2 => first | k_is | decide)
    (case l2 => first | k_is | decide)
    (case c2 => first | k_is | decide)
    (case k2 => first | k_is | decide)
    (case a3 => first | k_is | decide)
    (case l3 => first | k_is | decide)
    (case c3 => first | k_is | decide)
    (case k3 => first | k_is | decide)
    (case a4 => first | k_is | decide)
    (case l4 => first | k_is | decide)
    (case c4 => first | k_is | decide)
    (case k4 => first | k_is | decide)
    (case a5 => first | k_is | decide)
    (case i5 => first | k_is | decide)
    (case l5 => first | k_is | decide)
    (case c5 => first | k_is | decide)
    (case k5 => first | k_is | decide)
    (case a6 => first | k_is | decide)
    (case l6 => first | k_is | decide)
    (case c6 => first | k_is | decide)
    (case k6 => first | k_is | decide)
    (case a7 => first | k_is | decide)
    (case l7 => first | k_is | decide)
    (case c7 => first | k_is | decide)
    (case k7 => first | k_is | decide)
    (case a8 => first | k_is | decide)
    (case l8 => first | k_is | decide)
    (case c8 => first | k_is | decide)
    (case k8 => first | k_is | decide)
    (case a9 => first | k_is | decide)
    (case i9 => first | k_is | decide)
    (case l9 => first | k_is | decide)
    (case c9 => first | k_is | decide)
    (case k9 => first | k_is | decide)
    (case a10 => first | k_is | decide)
    (case l10 => first | k_is | decide)
    (case c10 => first | k_is | decide)
    (case k10 => first | k_is | decide)
    (case a11 => first | k_is | decide)
    (case l11 => first | k_is | decide)
    (case c11 => first | k_is | decide)
    (case k11 => first | k_is | decide)
    (case a12 => first | k_is | decide)
    (case i12 => first | k_is | decide)
    (case l12 => first | k_is | decide)
    (case c12 => first | k_is | decide)
    (case k12 => first | k_is | decide)
    (case a13 => first | k_is | decide)
    (case l13 => first | k_is | decide)
    (case c13 => first | k_is | decide)
    (case k13 => first | k_is | decide)
    (case a14 => first | k_is | decide)
    (case l14 => first | k_is | decide)
    (case c14 => first | k_is | decide)
    (case k14 => first | k_is | decide)
    (case a15 => first | k_is | decide)
    (case l15 => first | k_is | decide)
    (case c15 => first | k_is | decide)
    (case k15 => first | k_is | decide)
    (case a16 => first | k_is | decide)
    (case l16 => first | k_is | decide)
    (case c16 => first | k_is | decide)
    (case k16 => first | k_is | decide)
    (case a17 => first | k_is | decide)
    (case l17 => first | k_is | decide)
    (case c17 => first | k_is | decide)
    (case k17 => first | k_is | decide)
    (case a18 => first | k_is | decide)
    (case l18 => first | k_is | decide)
    (case c18 => first | k_is | decide)
    (case k18 => first | k_is | decide)
    (case a19 => first | k_is | decide)
    (case l19 => first | k_is | decide)
    (case c19 => first | k_is | decide)
    (case k19 => first | k_is | decide)
    (case a20 => first | k_is | decide)
    (case l20 => first | k_is | decide)
    (case c20 => first | k_is | decide)
    (case k20 => first | k_is | decide)
    (case a21 => first | k_is | decide)
    (case l21 => first | k_is | decide)
    (case c21 => first | k_is | decide)
    (case k21 => first | k_is | decide)
    (case a22 => first | k_is | decide)
    (case l22 => first | k_is | decide)
    (case c22 => first | k_is | decide)
    (case k22 => first | k_is | decide)
    (case a23 => first | k_is | decide)
    (case l23 => first | k_is | decide)
    (case c23 => first | k_is | decide)
    (case k23 => first | k_is | decide)
    (case a24 => first | k_is | decide)
    (case l24 => first | k_is | decide)
    (case c24 => first | k_is | decide)
    (case k24 => first | k_is | decide)
    (case a25 => first | k_is | decide)
    (case l25 => first | k_is | decide)
    (case c25 => first | k_is | decide)
    (case k25 => first | k_is | decide)
    (case a26 => first | k_is | decide)
    (case l26 => first | k_is | decide)
    (case c26 => first | k_is | decide)
    (case k26 => first | k_is | decide)
    (case a27 => first | k_is | decide)
    (case l27 => first | k_is | decide)
    (case c27 => first | k_is | decide)
    (case k27 => first | k_is | decide)
    (case a28 => first | k_is | decide)
    (case l28 => first | k_is | decide)
    (case c28 => first | k_is | decide)
    (case k28 => first | k_is | decide)
    (case a29 => first | k_is | decide)
    (case l29 => first | k_is | decide)
    (case c29 => first | k_is | decide)
    (case k29 => first | k_is | decide)
    (case a30 => first | k_is | decide)
    (case l30 => first | k_is | decide)
    (case c30 => first | k_is | decide)
    (case k30 => first | k_is | decide)
    (case a31 => first | k_is | decide)
    (case l31 => first | k_is | decide)
    (case c31 => first | k_is | decide)
    (case k31 => first | k_is | decide)
    (case a32 => first | k_is | decide)
    (case l32 => first | k_is | decide)
    (case c32 => first | k_is | decide)
    (case k32 => first | k_is | decide)
    (case a33 => first | k_is | decide)
    (case l33 => first | k_is | decide)
    (case c33 => first | k_is | decide)
    (case k33 => first | k_is | decide)
    (case a34 => first | k_is | decide)
    (case l34 => first | k_is | decide)
    (case c34 => first | k_is | decide)
    (case k34 => first | k_is | decide)
    (case a35 => first | k_is | decide)
    (case l35 => first | k_is | decide)
    (case c35 => first | k_is | decide)
    (case k35 => first | k_is | decide)
    (case a36 => first | k_is | decide)
    (case l36 => first | k_is | decide)
    (case c36 => first | k_is | decide)
    (case k36 => first | k_is | decide)
    (case a37 => first | k_is | decide)
    (case l37 => first | k_is | decide)
    (case c37 => first | k_is | decide)
    (case k37 => first | k_is | decide)
    (case z0 => first | k_is | decide)
    (case z1 => first | k_is | decide)
    (case z2 => first | k_is | decide)
    (case z3 => first | k_is | decide)
    (case z4 => first | k_is | decide)
    (case z5 => first | k_is | decide)
    (case z6 => first | k_is | decide)
    (case z7 => first | k_is | decide)
    (case z8 => first | k_is | decide)
    (case z9 => first | k_is | decide)
    (case z10 => first | k_is | decide)
