import PyProof.Rows.All
import Wide.All
import OpenK.AllK
import Wide.FinOn
import Lean
import PyProof.EqAt
import PyProof.EqKinds
import PyProof.TupleCall
import KE.KItemsList
import KE.KRevIter
import KE.KRevSl
import PyProof.AttrMissHeap
import PySem.Challenge.RW_pointsure_k11_calls_over
noncomputable section
abbrev Od:=Option PySem.PyData
abbrev Lp:=List PySem.PyData
abbrev Lr:=List PySem.Str
abbrev Lw:=List PySem.Value
abbrev Ow:=Option PySem.Value
abbrev Ax:=List (PySem.Addr × PySem.Obj)
abbrev Px:=PySem.Value → PySem.Shared → Prop
abbrev Lx:=List PySem.Expr
abbrev Fg:=PySem.W.Frag
set_option Elab.async false
set_option linter.all false
set_option compiler.extract_closed false
set_option genSizeOfSpec false
set_option maxRecDepth 100000
set_option maxHeartbeats 4000000
def aa:=@Option.map_eq_some_iff
def ab:=@PySem.wpAny_bind
def ae:=@Option.bind_some
def af:=@List.forall_mem_cons
def ag:=@if_pos
def ai:=@if_neg
def aj:=@PySem.Heap.get?_push_of_some
def ak:=@PySem.wpAny_pure
def ao:=@List.mem_append_right
def aq:=@PySem.Heap.lt_size
def ar:=@List.mem_cons_of_mem
def au:=@List.getElem?_eq_some_iff
def av:=@List.mem_cons
def aw:=@List.size_toArray
def ax:=@Nat.le_refl
def ay:=@List.getElem?_set_ne
def az:=@List.getElem?_map
def aA:=@PySem.Heap.get?_push_size
def aB:=@List.map_cons
def aC:=@Bool.false_ne_true
def aE:=@List.getElem?_append_left
def aF:=@List.length_map
def aG:=@Nat.ne_of_lt
def aH:=@List.getElem?_set_self
def aI:=@List.getElem?_append_right
def aJ:=@Nat.lt_of_lt_of_le
def aK:=@PySem.PassesOwn.never
def aL:=@List.getElem?_eq_getElem
def aM:=@List.mem_append_left
def aN:=@List.append_assoc
def aO:=@List.forall_mem_nil
def aP:=@True.intro
def aQ:=@List.length_append
def aR:=@List.append_nil
def aS:=@PySem.SeqAt.canLay_of_shaped
def aT:=@PySem.Calls.spliced_cons
def aU:=@List.mem_map
def aV:=@List.length_cons
def aW:=@Nat.lt_irrefl
def aX:=@PySem.wpAny_Call_Name_kw
def aY:=@List.lookup_cons
def aZ:=@beq_eq_false_iff_ne
def ba:=@decide_eq_false
def bc:=@List.mem_append
def bf:=@PyProof.Rows.callWith_type1
def bg:=@PySem.Heap.get?_update_other
def bj:=@Nat.le_trans
def bo:=@List.perm_append_comm
def bp:=@PySem.wpAny_holding
def bq:=@Option.some.inj
def br:=@List.nodup_cons
def bt:=@List.map_append
def bu:=@PySem.Calls.spliced_nil
def bw:=@PyProof.Rows.slot_tuple_getitem
def bx:=@congrArg
def bz:=@PySem.wpAny_passesOwn
def bA:=@PySem.Heap.get?_update_self
def bB:=@List.getElem?_replicate
def bC:=@PySem.F.plainAttrs_list
def bD:=@List.drop_eq_getElem_cons
def bE:=@PySem.mem_of_lookup
def bF:=@Or.inr
def bG:=@Bool.false_eq_true
def bH:=@Nat.zero_le
def bJ:=@List.all_eq_true
def bK:=@PySem.wpAny_mono
def bM:=@PySem.wpAny_truthy_bool
def bN:=@List.getD_eq_getElem?_getD
def bO:=@List.replicate_succ
def bP:=@List.find?_cons
def bQ:=@List.getElem?_eq_none
def bR:=@Bool.and_eq_true
def bT:=@List.map_map
def bU:=@decide_eq_true
def bV:=@PySem.lookup_relabel_local
def bW:=@PySem.Around.under_plainId
def bX:=@PySem.F.plainAttrs_dict
def bY:=@beq_iff_eq
def bZ:=@PySem.wpAny_updateSeq
def b0:=@PySem.F.plain_extend_loop
def b6:=@PySem.Calls.callWith_builtin
def b7:=@Or.inl
def b8:=@Nat.le_add_right
def b9:=@Array.toList_inj
def cb:=@List.mem_cons_self
def cf:=@List.mem_filterMap
def cg:=@PySem.F.slot_dict_get
def cj:=@PySem.codeAny_builtin
def ck:=@PySem.wpAny_typeOf
def cm:=@List.flatten_cons
def cp:=@PySem.Paired.length
def cq:=@PySem.call_meets
def cu:=@List.any_cons
def cv:=@List.filterMap_cons
def cw:=@Array.length_toList
def cx:=@if_true
def cy:=@PySem.Heap.size_push
def cz:=@PyProof.Rows.callWith_builtin1
def cA:=@PySem.wpAny_callSpecial?_slot
def cB:=@PySem.wpAny_field
def cC:=@PySem.tupleKind_room_in1
def cD:=@Array.getElem?_eq_none
def cE:=@PySem.plainId_quiet
def cF:=@List.Perm.append_left
def cG:=@PySem.wpAny_newObj_type
def cH:=@PySem.wpAny_Call_method
def cI:=@Iff.rfl
def cJ:=@List.nodup_append
def cK:=@List.mem_of_getElem?
def cL:=@PySem.Calls.evalArgs_plain
def cM:=@Nat.le_of_lt
def cN:=@Nat.ne_of_gt
def cO:=@Nat.lt_succ_self
def cP:=@PySem.wpAny_call_entry
def cQ:=@Nat.le_of_not_lt
def cR:=@List.cons_append
def cS:=@PySem.F.args_tuple_add_2
def cT:=@if_false
def cU:=@PySem.wpAny_comprehension_free
def cV:=@PySem.F.slot_list_extend
def cW:=@PySem.wpAny_execs_nil
def cX:=@List.of_mem_zip
def cY:=@List.forIn_cons
def cZ:=@PySem.F.entry_tuple_add
def c5:=@PySem.F.args_dict_get_2
def c6:=@List.getElem?_cons_succ
def c7:=@PySem.wpAny_pyNext_list_item
def c8:=@PySem.wpAny_pyIter_list
def c9:=@PySem.codeAny_mono
def de:=@PySem.F.slot_tuple_add
def df:=@PySem.F.entry_dict_get
def dg:=@List.forIn_nil
def dh:=@List.Perm.append_right
def dm:=@PySem.wpAny_nextOf_list_item
def dq:=@PySem.wpAny_pyNext_list_end
def du:=@PySem.F.slot_dict_pop
def dv:=@PySem.builtinLookup_eq_fast
def dw:=@List.filter_cons
def dz:=@PySem.wpAny_rule
def dA:=@List.drop_length
def dB:=@List.length_set
def dD:=@PySem.wpAny_specialOf
def dE:=@PySem.F.slot_zip_next
def dF:=@Option.map_some
def dG:=@ne_true_of_eq_false
def dH:=@Array.getElem?_push
def dJ:=@PySem.call_meetsIn
def dM:=@PySem.Calls.Name_function_global
def dN:=@PySem.typeIs_str
def dO:=@PySem.F.args_str_split_2
def dP:=@Option.isNone_iff_eq_none
def dQ:=@Nat.le_succ
def dR:=@Option.isSome_map
def dS:=@decide_eq_true_eq
def dU:=@PySem.F.entry_str_split
def dW:=@List.length_take
def dX:=@PySem.noFill_tuple_add
def dY:=@Nat.min_le_right
def dZ:=@PySem.wpAny_getItem_of
def d3:=@PySem.F.slot_str_split
def d4:=@PySem.concat_meets
def d5:=@List.map_nil
def d6:=@Nat.lt_trans
def d7:=@PySem.typeLookup_type
def d8:=@PySem.F.type_dict_get
def d9:=@PySem.wpAny_seqItems
def eh:=@List.getElem?_range
def et:=@Bool.or_false
open Option renaming some→Y
open Option renaming none→Z
open PySem renaming PyData→eA
variable  {x:PySem.Str}{a:PySem.Addr}{b e c tg:PySem.Expr}{w:PySem.World}{h:PySem.Heap}{α:Type}{pins:Ax}{s:PySem.Shared}{i j:Nat}{A:PySem.Around}{E:Px}{pos p apos:PySem.Pos}{ys zs:List (PySem.Str×PySem.PyData)}{K:Fg}{f:PySem.Value->PySem.Value->PySem.Sem PySem.Value}{es:Lx}{body:List PySem.Stmt}{R:PySem.Result->PySem.Shared->Prop}{prog:PySem.Program}{mg:PySem.Str->Ow}{fd:PySem.FuncData}{ds:Lp}{scope:PySem.Scope}{d en inp:PySem.PyData}{kvs:List (PySem.PyData×PySem.PyData)}{iL:List (Nat×PySem.Str)}{dp:Bool}{O:List Nat}{F:Lp->Option (PySem.PyData×PySem.PyData)}
local macro_rules
| `(zZ $a) => `(PySem.Str.ofString $a)
| `(zK 0) => `(by kernel_rfl)
| `(zB $s) => `(($s).heap.objs.size)
| `(zg $x) => `(($x == ("__debug__" : PySem.Str)) = false)
| `(zE $e $s $x) => `(PySem.starEach ($e :: $s) ($x).env = (false, PySem.eval $e ($x).env) :: PySem.starEach $s ($x).env)
| `(zy $a $n) => `({ cls := .type "tuple", data := .seq $a $n })
| `(zl $a $n) => `({ cls := .type "list", data := .seq $a $n })
| `(zw $x) => `(PySem.wpAny (PySem.model ($x).prog ($x).w) ($x).A)
| `(zi $i) => `(.int ($i : Int))
namespace L2
open PySem PySem.Spec PyProof.Rows
abbrev Key:=Sum Int Str
def yh:Key->Value->Bool
 |.inl k,v=>Value.isInt k v
 |.inr x,v=>Value.isStrOf x v
def RW(w:World):Key->Int
 |.inl k=>hashInt k
 |.inr x=>hashStr w x
def g9:∀{k:Key}{v:Value},yh k v=true->(∃i t,k=Sum.inl i/\v=Value.int i t)\/(∃x t,k=Sum.inr x/\v=Value.str x t)
 |.inl i,v,h=>by obtain⟨t,e⟩:=Value.isInt_shape (k:=i) (v:=v) h;exact .inl ⟨i,t,rfl,e⟩
 |.inr x,v,h=>by obtain⟨t,e⟩:=Value.isStrOf_shape (x:=x) (v:=v) h;exact .inr ⟨x,t,rfl,e⟩
def Ke(i:Int)(t:Tok):yh (.inl i) (.int i t)=true:=by simp[yh,Value.isInt]
def Kf(x:Str)(t:Tok):yh (.inr x) (.str x t)=true:=by simp[yh,Value.isStrOf]
def RX(a b:Int):decide ((Sum.inl a:Key)=Sum.inl b)=(a==b):=by
 by_cases e:a=b
 ·subst e;simp
 ·have h:¬ (Sum.inl a:Key)=Sum.inl b:=λq=>e (Sum.inl.inj q);rw[ba h];exact(aZ.mpr e).symm
def RY(a b:Str):decide ((Sum.inr a:Key)=Sum.inr b)=decide (a=b):=by
 by_cases e:a=b
 ·subst e;simp
 ·have h:¬ (Sum.inr a:Key)=Sum.inr b:=λq=>e (Sum.inr.inj q);rw[ba h,ba e]
def RZ(a:Int)(b:Str):decide ((Sum.inl a:Key)=Sum.inr b)=false:=ba (λq=>nomatch q)
def R0(a:Str)(b:Int):decide ((Sum.inr a:Key)=Sum.inl b)=false:=ba (λq=>nomatch q)
def fD(c:Program)(w:World):PySem.KeyKind c w Key where
 is:=yh
 hash:=RW w
 inj:=λv a b m g=>by
  rcases g9 m with ⟨i,t,rfl,rfl⟩ | ⟨x,t,rfl,rfl⟩
  ·rcases g9 g with ⟨j,u,rfl,e⟩ | ⟨y,u,rfl,e⟩
   ·injection e with d _;rw[d]
   ·exact nomatch e
  ·rcases g9 g with ⟨j,u,rfl,e⟩ | ⟨y,u,rfl,e⟩
   ·exact nomatch e
   ·injection e with d _;rw[d]
 byValue:=λk v h=>by rcases g9 h with ⟨i,t,rfl,rfl⟩ | ⟨x,t,rfl,rfl⟩<;>rfl
 pyHash:=λf h=>by
  rcases g9 f with ⟨i,t,rfl,rfl⟩ | ⟨x,t,rfl,rfl⟩
  ·exact wpAny_pyHash_int h
  ·exact wpAny_pyHash_str h
 eqBool:=λl f h=>by
  rcases g9 l with ⟨i,t,rfl,rfl⟩ | ⟨x,t,rfl,rfl⟩
  ·rcases g9 f with ⟨j,u,rfl,rfl⟩ | ⟨y,u,rfl,rfl⟩
   ·rw[RX] at h;exact wpAny_eqBool_int h
   ·rw[RZ] at h;exact SeqAt.EqAt.int_str i t y u _ _ _ _ h
  ·rcases g9 f with ⟨j,u,rfl,rfl⟩ | ⟨y,u,rfl,rfl⟩
   ·rw[R0] at h;exact SeqAt.EqAt.str_int x t j u _ _ _ _ h
   ·rw[RY] at h;exact wpAny_eqBool_str h
 «strs»:=λk x t v h=>by
  rcases g9 h with ⟨i,u,rfl,e⟩ | ⟨y,u,rfl,e⟩
  ·exact nomatch e
  ·injection e with d _;subst d;cases v<;>rfl
def Ek(a:Program)(w:World)(i:Int)(t:Tok):(fD a w).is (.inl i) (.int i t)=true:=Ke i t
def mu(a:Program)(w:World)(x:Str)(t:Tok):(fD a w).is (.inr x) (.str x t)=true:=Kf x t
end L2
variable  {xs:List (List L2.Key×PySem.Addr×PySem.Value)}
namespace L2
open PySem PySem.Spec PyProof.Rows
inductive V where
 |lb|bl (b:Bool)|int (i:Int)|str (x:Str)|Ud (b:Array UInt8)|W2 (b:UInt64)|ref (a:Addr)|ty (n:String)
 deriving DecidableEq
def fT:V->Value->Prop
 |.lb,u=>u=Value.none
 |.bl b,u=>u=Value.bool b
 |.int i,u=>∃t,u=Value.int i t
 |.str x,u=>∃t,u=Value.str x t
 |.Ud b,u=>∃t,u=Value.bytes b t
 |.W2 b,u=>∃t,u=Value.float b t
 |.ref a,u=>u=Value.ref a
 |.ty n,u=>u=Value.type n
abbrev fO:List V->List Value->Prop:=Paired fT
theorem fO.length{a:List V}{b:Lw}(r:fO a b):a.length=b.length:=cp r
theorem fO.get:∀{a:List V}{b:Lw}{i:Nat}{x:V},fO a b->a[i]?=Y x->∃u,b[i]?=Y u/\fT x u
 |_,_,_,_,.nil,e=>by simp at e
 |_,_,0,_,.cons r _,e=>by simp at e;subst e;exact⟨_,rfl,r⟩
 |_,_,i+1,x,.cons _ t,e=>by obtain⟨u,d,c⟩:=fO.get (i:=i) (x:=x) t (by simpa using e);exact⟨u,by simpa using d,c⟩
theorem fO.set{x:V}{u:Value}(r:fT x u):∀{a:List V}{b:Lw} (i:Nat),fO a b->fO (a.set i x) (b.set i u)
 |_,_,_,.nil=>.nil
 |_,_,0,.cons _ t=>.cons r t
 |_,_,i+1,.cons q t=>.cons q (fO.set r i t)
theorem fO.append:∀{b a:List V}{d c:Lw},fO b d->fO a c->fO (b++a) (d++c)
 |_,_,_,_,.nil,s=>s
 |_,_,_,_,.cons r t,s=>.cons r (fO.append t s)
theorem fO.take:∀{xs:List V}{a:Lw} (n:Nat),fO xs a->fO (xs.take n) (a.take n)
 |_,_,0,_=>.nil
 |_,_,_+1,.nil=>.nil
 |_,_,n+1,.cons r t=>.cons r (fO.take n t)
theorem fO.drop:∀{a:List V}{b:Lw} (n:Nat),fO a b->fO (a.drop n) (b.drop n)
 |_,_,0,r=>r
 |_,_,_+1,.nil=>.nil
 |_,_,n+1,.cons _ t=>fO.drop n t
def oU:Option V->Ow->Prop
 |some v,Y u=>fT v u
 |none,Z=>True
 |_,_=>False
def KV{κ:Type}:List (κ×V)->List (κ×Value)->Prop:=Paired λ(p:κ×V) (q:κ×Value)=>p.1=q.1/\fT p.2 q.2
noncomputable def kV:Key->V
 |.inl i=>.int i
 |.inr x=>.str x
inductive HO where
 |lst (xs:List V)
 |tup (xs:List V)
 |dK (kvs:List (Key×V))|dT (kvs:List (List Key×V))
 |set (S:Int->Bool) (n:Nat)
 |ins (C dx:Addr) (fs:List (Str×V))
 |own (x:Addr)
 |xd (fs:List (Str×V))
 |met (f x:Addr)
 |Xq (lo hi:Int)
 |tq (o:Obj) (u:HO)
 |Pf (ps:Array Value)
 |ext (φ:Heap->Prop)
abbrev Hp:=Addr->Option HO
def upd(H:Hp)(a:Addr)(o:HO):Hp:=λb=>if b=a then Y o else H b
def eS{H:Hp}{o:HO}:upd H a o a=Y o:=by unfold upd;rw[ag rfl]
def eM{H:Hp}{b:Addr}{o:HO}(h:b≠a):upd H a o b=H b:=by unfold upd;rw[ai h]
def Uy{H:Hp}{b:Addr}{o u:HO}(h:H a=Y o)(c:H b=Y u)(d:o≠u):a≠b:=by intro e;subst e;rw[h] at c;exact d (bq c)
def gm{H:Hp}{b:Addr}{o:HO}(h:H a=Y o)(h':H b=Z):a≠b:=by intro e;subst e;rw[h] at h';cases h'
section
variable (P:Program) (w:World)
def iK(H:Hp)(h:Heap)(a:Addr):HO->Prop
 |.lst xs=>xs.length<=sizeLine/\∃(b:Lw) (n:Nat),fO xs b/\h.get? a=Y (zl b.toArray n)
 |.tup xs=>xs.length<=sizeLine/\∃b:Lw,fO xs b/\IsTup h a b.toArray
 |.dK kvs=>kvs.length<=sizeLine/\(a==sysModules)=false/\∃d,KV kvs d/\h.DictOf (fD P w) a d
 |.dT kvs=>kvs.length<=sizeLine/\(a==sysModules)=false/\∃xs:List (List Key×Addr×Value),
   Paired (λ(p:List Key×V) (q:List Key×Addr×Value)=>p.1=q.1/\H q.2.1=Y (.tup (p.1.map kV))/\fT p.2 q.2.2) kvs xs /\
   ∃o i j,h.get? a=Y o/\o.ExactDict/\o.data=.dict i j/\i.toList=xs.map (entryOfKey (tupleKind (fD P w)))/\(xs.map (·.1)).Nodup
 |.set S n=>h.SetOf (intKind P w) a S n
 |.ins C dx fs=>H dx=Y (.own a)/\fs.length<=1000/\dx≠a/\h.get? a=Y (W.instObj C dx) /\
   ∃c,h.Ns1 dx c/\(∀f,oU (fs.lookup f) (c f))/\PySem.Within c (fs.map (·.1))
 |.own _=>∃o,h.get? a=Y o
 |.xd fs=>∃c,h.Ns1 a c/\∀f,oU (fs.lookup f) (c f)
 |.Xq lo hi=>∃t u v,h.get? a=Y { cls:=.type "range",data:=.fields #[.int lo t,.int hi u,.int 1 v] }
 |.tq o u=>h.get? a=Y o/\iK H h a u
 |.Pf ps=>h.get? a=Y { cls:=.none,data:=.fields ps }
 |.met f x=>h.get? a=Y (W.methodObj (.ref f) (.ref x))
 |.ext φ=>φ h/\(∃o,h.get? a=Y o)/\∀g e:Heap,φ g->(∀o,g.get? a=Y o->e.get? a=Y o)->φ e
def sf(H:Hp)(h:Heap):Prop:=∀a o,H a=Y o->iK P w H h a o
end
section
variable {P:Program}{H H':Hp}{h':Heap}{o:HO}
theorem iK.lt(x:iK P w H h a o):a<h.objs.size:=by
 cases o with
 |lst xs=>obtain⟨_,_,_,_,e⟩:=x;exact aq e
 |tup xs=>obtain⟨_,_,_,p⟩:=x;exact p.lt
 |dK b=>obtain⟨_,_,_,_,o,_,_,e,_⟩:=x;exact aq e
 |dT b=>obtain⟨_,_,_,_,o,_,_,e,_⟩:=x;exact aq e
 |set S n=>obtain⟨o,_,_,_,e,_⟩:=x;exact aq e
 |ins C k c=>obtain⟨_,_,_,e,_⟩:=x;exact aq e
 |own y=>obtain⟨_,e⟩:=x;exact aq e
 |xd c=>obtain⟨_,⟨_,_,_,e,_⟩,_⟩:=x;exact aq e
 |Xq i j=>obtain⟨_,_,_,e⟩:=x;exact aq e
 |tq g u=>obtain⟨e,_⟩:=x;exact aq e
 |Pf d=>exact aq (show h.get? a=Y _ from x)
 |met f y=>exact aq (show h.get? a=Y _ from x)
 |ext φ=>obtain⟨_,⟨_,e⟩,_⟩:=x;exact aq e
theorem Paired.R1{α β:Type}{F G:α->β->Prop}:∀{d:List α}{c:List β},Paired F d c->(∀a b,F a b->G a b)->Paired G d c
 |_,_,.nil,_=>.nil
 |_,_,.cons r t,f=>.cons (f _ _ r) (Paired.R1 t f)
def iK.tw(x:iK P w H h a o) (k:∀b u,(b=a\/H b=Y (.own a))->h.get? b=Y u->h'.get? b=Y u)
  (J:∀b,H b=Y (.own a)->H' b=Y (.own a)) (I:∀b xs,H b=Y (.tup xs)->H' b=Y (.tup xs)):iK P w H' h' a o:=by
 induction o with
 |lst xs=>obtain⟨z,l,n,r,e⟩:=x;exact⟨z,l,n,r,k _ _ (.inl rfl) e⟩
 |tup xs=>obtain⟨z,l,r,g,e,c⟩:=x;exact⟨z,l,r,g,k _ _ (.inl rfl) e,c⟩
 |dK A=>obtain⟨z,y,E,r,g,i,j,e,c⟩:=x;exact⟨z,y,E,r,g,i,j,k _ _ (.inl rfl) e,c⟩
 |dT A=>obtain⟨z,y,xs,r,g,i,j,e,c⟩:=x;exact⟨z,y,xs,Paired.R1 r λp q z=>⟨z.1,I _ _ z.2.1,z.2.2⟩,g,i,j,k _ _ (.inl rfl) e,c⟩
 |set S n=>obtain⟨g,i,j,t,e,c⟩:=x;exact⟨g,i,j,t,k _ _ (.inl rfl) e,c⟩
 |ins C O K=>obtain⟨d,z,F,e,s,⟨m,i,j,L,c⟩,r⟩:=x;exact⟨J _ d,z,F,k _ _ (.inl rfl) e,s,⟨m,i,j,k _ _ (.inr d) L,c⟩,r⟩
 |own y=>obtain⟨g,e⟩:=x;exact⟨g,k _ _ (.inl rfl) e⟩
 |xd K=>obtain⟨s,⟨m,i,j,e,c⟩,r⟩:=x;exact⟨s,⟨m,i,j,k _ _ (.inl rfl) e,c⟩,r⟩
 |Xq M N=>obtain⟨t,u,v,e⟩:=x;exact⟨t,u,v,k _ _ (.inl rfl) e⟩
 |tq g u G=>obtain⟨e,q⟩:=x;exact⟨k _ _ (.inl rfl) e,G q⟩
 |Pf D=>have e:h.get? a=Y { cls:=.none,data:=.fields D }:=x;show h'.get? a=Y { cls:=.none,data:=.fields D };exact k a _ (.inl rfl) e
 |met f y=>have e:h.get? a=Y (W.methodObj (.ref f) (.ref y)):=x;show h'.get? a=Y (W.methodObj (.ref f) (.ref y));exact k a _ (.inl rfl) e
 |ext φ=>obtain⟨p,⟨o,e⟩,B⟩:=x;exact⟨B _ _ p λo q=>k _ _ (.inl rfl) q,⟨o,k _ _ (.inl rfl) e⟩,B⟩
theorem sf.lt(x:sf P w H h)(e:H a=Y o):a<h.objs.size:=(x a o e).lt
def sf.fresh(x:sf P w H h)(e:h.objs.size<=a):H a=Z:=by
 cases q:H a with
 |none=>rfl
 |some u=>exact absurd (aJ (x.lt q) e) (aW _)
def sf.kept(x:sf P w H h)(k:∀b u,h.get? b=Y u->h'.get? b=Y u):sf P w H h':=λa o e=>
 (x a o e).tw (λb u _ q=>k b u q) (λ_ q=>q) λ_ _ q=>q
def sf.laid(x:sf P w H h)(k:∀b u,h.get? b=Y u->h'.get? b=Y u)(i:h.objs.size<=a)(d:iK P w (upd H a o) h' a o):sf P w (upd H a o) h':=λb u e=>by
 have f:=x.fresh i;by_cases g:b=a
 ·subst g;rw[eS] at e;cases e;exact d
 ·rw[eM g] at e;exact(x b u e).tw (λc v _ q=>k c v q) (λc q=>by rw[eM (gm q f)];exact q) λc j q=>by rw[eM (gm q f)];exact q
end
def Rd(H:Hp)(a:Addr)(u:HO):Prop:=H a=Y u\/∃o,H a=Y (.tq o u)
def Rd.ok{P:Program}{H:Hp}{u:HO}(r:Rd H a u)(x:sf P w H h):iK P w H h a u:=by
 rcases r with r | ⟨o,r⟩
 ·exact x a u r
 ·obtain⟨_,q⟩:=x a _ r;exact q
def Uz:Option HO->Prop
 |some (.lst _)=>True
 |some (.dK _)=>True
 |some (.dT _)=>True
 |some (.set _ _)=>True
 |some (.ins _ _ _)=>True
 |some (.ext _)=>True
 |_=>False
section
variable {P:Program}{H:Hp}{h':Heap}{x e:Addr}{o':HO}
def sf.write(p:sf P w H h) (i:Uz (H x)) (o:e=x\/H e=Y (.own x)) (k:∀b u,b≠e->h.get? b=Y u->h'.get? b=Y u) (m:∃u,h'.get? e=Y u)
  (l:iK P w (upd H x o') h' x o'):sf P w (upd H x o') h':=λb u q=>by
 have d:∀c y,H c=Y (.own y)->c≠x:=λc y r z=>by subst z;rw[r] at i;exact i
 have f:∀c g,H c=Y (.tup g)->c≠x:=λc g r z=>by subst z;rw[r] at i;exact i
 by_cases j:b=x
 ·subst j;rw[eS] at q;cases q;exact l
 ·rw[eM j] at q;by_cases a:b=e
  ·have n:H b=Y (.own x):=by
    rcases o with z|z
    ·exact absurd (a.trans z) j
    ·rw[a];exact z
   rw[q] at n;cases n;obtain⟨v,s⟩:=m;exact⟨v,by rw[a];exact s⟩
  ·refine(p b u q).tw (λc v hc r=>k c v ?_ r) (λc r=>by rw[eM (d c b r)];exact r) λc g r=>by rw[eM (f c g r)];exact r
   rcases hc with rfl|hc
   ·exact a
   ·rintro rfl;rcases o with z|z
    ·exact d c b hc z
    ·rw[hc] at z;cases z;exact j rfl
end
structure Un (fs ex:List Addr) (H H':Hp) (h h':Heap):Prop where
 keep:∀b o,h.get? b=Y o->H b=Z->b∉fs->b∉ex->h'.get? b=Y o
 slot:∀b o,h.get? b=Y o->H b=Z->b∈fs->b∉ex->∃sl,h'.get? b=Y { o with slots:=sl }
 free:∀b o,h.get? b=Y o->H b=Z->b∉ex->H' b=Z
 there:∀b o,h.get? b=Y o->b∉ex->∃o',h'.get? b=Y o'
 vd:∀b xs,H b=Y (.tup xs)->H' b=Y (.tup xs)
 sg:∀b o u,H b=Y (.tq o u)->H' b=Y (.tq o u)
 wX:∀b ps,H b=Y (.Pf ps)->∃more,H' b=Y (.Pf (ps++more))
section
variable {fs fs' ex ex':List Addr}{H H1 H2:Hp}{h1 h2 h':Heap}{x e:Addr}{o:HO}
def Un.any(u:Un fs ex H H1 h h1){b:Addr}{a:Obj}(q:h.get? b=Y a)(n:H b=Z)(c:b∉ex):∃e,h1.get? b=Y { a with slots:=e }:=by
 by_cases d:b∈fs
 ·exact u.slot b a q n d c
 ·exact⟨a.slots,u.keep b a q n d c⟩
def Un.kept(k:∀b u,h.get? b=Y u->h'.get? b=Y u):Un fs ex H H h h' :=
 ⟨λb a q _ _ _=>k b a q,λb a q _ _ _=>⟨a.slots,k b a q⟩,λ_ _ _ n _=>n,λb a q _=>⟨a,k b a q⟩,λ_ _ q=>q,λ_ _ _ q=>q,λ_ ps q=>⟨#[],by rw[q];simp⟩⟩
def Un.refl:Un fs ex H H h h:=Un.kept λ_ _ q=>q
def Un.laid(k:∀b u,h.get? b=Y u->h'.get? b=Y u)(e:h.objs.size<=a)(c:H a=Z):Un fs ex H (upd H a o) h h' where
 keep:=λb u q _ _ _=>k b u q
 slot:=λb u q _ _ _=>⟨u.slots,k b u q⟩
 free:=λb u q n _=>by rw[eM (aG (aJ (aq q) e))];exact n
 there:=λb u q _=>⟨u,k b u q⟩
 vd:=λb d q=>by rw[eM (gm q c)];exact q
 sg:=λb u d q=>by rw[eM (gm q c)];exact q
 wX:=λb f q=>⟨#[],by rw[eM (gm q c),q];simp⟩
def Un.write(c:Uz (H x))(m:e=x\/H e=Y (.own x))(k:∀b u,b≠e->h.get? b=Y u->h'.get? b=Y u)(f:∃u,h'.get? e=Y u):Un fs ex H (upd H x o) h h':=by
 have g:∀b,H b=Z->b≠x:=λb n z=>by subst z;rw[n] at c;exact c
 have i:∀b,H b=Z->b≠e:=λb n z=>by
  subst z;rcases m with r|r
  ·exact g b n r
  ·rw[n] at r;cases r
 have d:∀b u,H b=Y u->¬ Uz (Y u)->b≠x:=λb u q l z=>by subst z;rw[q] at c;exact l c
 refine⟨λb u q n _ _=>k b u (i b n) q,λb u q n _ _=>⟨u.slots,k b u (i b n) q⟩,λb u q n _=>by rw[eM (g b n)];exact n,λb u q _=>?_,
  λb j q=>by rw[eM (d b _ q λz=>z)];exact q,λb u j q=>by rw[eM (d b _ q λz=>z)];exact q,λb p q=>⟨#[],by rw[eM (d b _ q λz=>z),q];simp⟩⟩
 by_cases a:b=e
 ·subst a;exact f
 ·exact⟨u,k b u a q⟩
end
def W3(h:Heap)(H:Hp):List Addr:=(List.range h.objs.size).filter λa=>(H a).isSome
def Cd(h:Heap)(H:Hp):Heap:=W.hideAll h (W3 h H)
def Kg(h:Heap)(H:Hp):(Cd h H).objs.size=h.objs.size:=W.hideAll_size _ _
def Mi{H:Hp}{b:Addr}{o:Obj}(e:h.get? b=Y o)(n:H b=Z):(Cd h H).get? b=Y o :=
 W.hideAll_get _ e λa=>by have q:(H b).isSome=true:=(List.mem_filter.mp a).2;rw[n] at q;simp at q
def Pg{H:Hp}{b:Addr}{o:Obj}(e:(Cd h H).get? b=Y o):h.get? b=Y o/\H b=Z:=by
 have a:h.get? b=Y o:=W.of_hideAll (W3 h H) e;refine⟨a,?_⟩;cases q:H b with
 |none=>rfl
 |some x=>have c:b∈W3 h H:=List.mem_filter.mpr ⟨List.mem_range.mpr (aq a),by simp[q]⟩;have z:(Cd h H).get? b=Z:=W.hideAll_none (W3 h H) c;rw[z] at e;cases e
def Ph(g h:Heap)(L:Addr):Ax:=(List.range h.objs.size).filterMap λa=>if a=L\/(g.get? a).isSome=true then Z else (h.get? a).map λo=>(a,o)
def rest(g h:Heap)(L d:Addr):Ax:=(Ph g h L).filter λp=>decide (p.1≠d)
end L2
variable  {H G:L2.Hp}{v:L2.V}{vs:List L2.V}{kv:List (L2.Key×L2.V)}{B:List (PySem.Addr×L2.HO)}
namespace L2
open PySem PySem.Spec PyProof.Rows
structure Mod (K:Fg) (mg:Str->Ow) (base:Heap):Prop where
 R3:K.In base
 glob:base.Ns mainGlobals mg
 blt:∃mb,base.Ns builtinsNs mb/\∀x:Str,x≠"__name__"->mb x=bootBuiltins x
 nolimit:base.NoLimit
structure Cx where
 prog:Program
 w:World
 K:Fg
 mg:Str->Ow
 base:Heap
 A:Around
 N:Lr
 s₀:Shared
 H₀:Hp
 env:Env
 outer:List Env
 stack:List Env
 ex:List Addr
 fn:Str->Bool
 calm:Bool
 pn:Ax
 xe:Px
def Eg(l:List Env):List Addr:=l.filterMap (·.frame)
abbrev Cx.fs(X:Cx):List Addr:=Eg X.outer
def Ma(a:Scope)(x:Str):Prop:=a.names.lookup x=Y .local\/a.names.lookup x=Y .cell\/a.names.lookup x=Y .free
def IQ(a:Scope)(x:Str):Prop:=a.names.lookup x=Y .local\/a.names.lookup x=Y .cell
def Xr(a:Env)(h:Heap)(m:Str->Ow)(x:Str)(u:Value):Prop :=
 (a.kindOf x=Y .local/\m x=Y u)\/((a.kindOf x=Y .cell\/a.kindOf x=Y .free)/\∃c,a.cells.lookup x=Y c/\h.IsCell c (Y u))
structure Cx.Ok (X:Cx):Prop where
 mod:Mod X.K X.mg X.base
 kind:X.env.scope.kind=.function
 glob:X.env.globals=mainGlobals
 blt:X.env.builtins=builtinsNs
 above:(zB X.s₀)<=X.env.locals
 inj:∀x y c,X.env.cells.lookup x=Y c->X.env.cells.lookup y=Y c->x=y
 has:∀x,(X.env.kindOf x=Y .cell\/X.env.kindOf x=Y .free)->∃c,X.env.cells.lookup x=Y c
 UA:∀x c,X.fn x=true->X.env.cells.lookup x=Y c->(zB X.s₀)<=c
 hd:X.calm=true->X.A.handled=Z
 frames:X.A.frames=Y X.stack
 Ue:X.stack=X.outer\/(X.stack=X.env::X.outer/\X.env.frame=Y X.env.locals)
 ZC:∀b∈X.ex,b≠X.env.locals/\∀x c,X.env.cells.lookup x=Y c->c≠b
 bs:∀b o,X.base.get? b=Y o->X.s₀.heap.get? b=Y o/\X.H₀ b=Z
 Rg:X.base.objs.size<=(zB X.s₀)
 Mj:∀b o,X.base.get? b=Y o->b∉X.ex
 GG:∀b∈X.ex,b∉X.fs
 si:X.s₀.heap.FunFrames X.base X.outer
 Ml:∀b∈X.fs,X.H₀ b=Z
structure eX (X:Cx) (pins:Ax) (σ:List (Option V)) (H:Hp) (s:Shared):Prop where
 ok:X.Ok
 os:s.os=X.s₀.os
 bare:AllBare s.gens
 base:Un X.fs X.ex X.H₀ H X.s₀.heap s.heap
 loc:∃m,s.heap.Ns X.env.locals m/\∀(i:Nat) (x:Str) (v:V),X.N[i]?=Y x->σ[i]?=Y (Y v)->Ma X.env.scope x->∃u,fT v u/\Xr X.env s.heap m x u
 cell:∀x c,X.env.cells.lookup x=Y c->∃v,s.heap.IsCell c v
 free:H X.env.locals=Z
 mS:∀x c,X.env.cells.lookup x=Y c->H c=Z
 pin:∀p∈X.pn++pins,s.heap.get? p.1=Y p.2/\H p.1=Z/\p.1≠X.env.locals/\p.1∉X.fs/\∀v,p.2.data≠.cell v
 ij:sf X.prog X.w H s.heap
 len:σ.length=X.N.length
section
variable {X:Cx}{σ:List (Option V)}{H':Hp}{h':Heap}
def Cx.Ok.Xs(a:X.Ok){b:Addr}{o:Obj}(e:X.base.get? b=Y o):b∉X.fs:=λc=>by have:=(a.si.mem c).1;rw[e] at this;cases this
theorem eX.bs(I:eX X pins σ H s):∀b o,X.base.get? b=Y o->s.heap.get? b=Y o/\H b=Z:=λb o e=>
 ⟨I.base.keep b o (I.ok.bs b o e).1 (I.ok.bs b o e).2 (I.ok.Xs e) (I.ok.Mj b o e),I.base.free b o (I.ok.bs b o e).1 (I.ok.bs b o e).2 (I.ok.Mj b o e)⟩
def eX.bk(I:eX X pins σ H s):∀b o,X.base.get? b=Y o->s.heap.get? b=Y o:=λb o e=>(I.bs b o e).1
theorem eX.mod(I:eX X pins σ H s):Mod X.K X.mg X.base:=I.ok.mod
def eX.xR(I:eX X pins σ H s):X.K.In s.heap:=I.ok.mod.R3.keeps I.bk
theorem eX.lt(I:eX X pins σ H s):X.env.locals<(zB s):=by obtain⟨_,a,_⟩:=I.loc;exact a.lt
def eX.sz(I:eX X pins σ H s):(zB X.s₀)<=(zB s):=bj I.ok.above (cM I.lt)
def eX.Xt(I:eX X pins σ H s)(h:(zB s)<=a):a∉X.fs:=λc=>by obtain⟨_,o,b,_⟩:=I.ok.si.mem c;exact absurd (aJ (aq b) (bj I.sz h)) (aW _)
def eX.Xu(I:eX X pins σ H s):∀x c,X.env.cells.lookup x=Y c->c≠X.env.locals:=λx c e z=>by obtain⟨v,o,d,f⟩:=I.cell x c e;obtain⟨m,⟨g,h,i,a,b,_⟩,_⟩:=I.loc;rw[z,a] at d;cases d;rw[b] at f;cases f
theorem eX.si(I:eX X pins σ H s):s.heap.FunFrames X.base X.outer:=by
 have f:∀(l:List Env),(∀b∈Eg l,b∈X.fs)->X.s₀.heap.FunFrames X.base l->s.heap.FunFrames X.base l:=by
  intro l;induction l with
  |nil=>intro _ _;trivial
  |cons q r h=>intro g m;obtain⟨n,⟨L,o,a,k,j,p⟩,i⟩:=m;have d:L∈X.fs:=g L (by unfold Eg;rw[cv,a];exact cb);obtain⟨t,e⟩:=I.base.slot L o j (I.ok.Ml L d) d λz=>I.ok.GG L z d;exact⟨n,⟨L,_,a,k,e,p⟩,h (λb c=>g b (by unfold Eg;rw[cv,a];exact ar _ c)) i⟩
 exact f X.outer (λ_ c=>c) I.ok.si
theorem eX.stack(I:eX X pins σ H s):s.heap.FunFrames X.base X.stack:=by
 rcases I.ok.Ue with e | ⟨e,b⟩
 ·rw[e];exact I.si
 ·rw[e];obtain⟨m,a,_⟩:=I.loc;refine .cons (by rw[I.ok.kind];decide) b a ?_ I.si;exact Heap.get?_none_of_le (bj I.ok.Rg I.ok.above)
def eX.Ce(I:eX X pins σ H s):∀b∈Eg X.stack,b∈X.env.locals::X.fs:=λb a=>by
 rcases I.ok.Ue with e | ⟨e,c⟩
 ·rw[e] at a;exact ar _ a
 ·rw[e] at a;unfold Eg at a;rw[cv,c] at a;exact a
def eX.IS(I:eX X pins σ H s):∀b∈Eg X.stack,H b=Z:=λb a=>by
 rcases av.mp (I.Ce b a) with e|a
 ·rw[e];exact I.free
 ·obtain⟨_,o,c,_⟩:=I.ok.si.mem a;exact I.base.free b o c (I.ok.Ml b a) λz=>I.ok.GG b z a
def eX.step{g':Array GenState}{t':Nat}{d':Drawn}{ch:List Addr} (I:eX X pins σ H s)
  (j:∀b∈ch,(b∈X.ex\/(zB X.s₀)<=b)/\b≠X.env.locals/\(∀x c,X.env.cells.lookup x=Y c->c≠b)/\∀p∈X.pn++pins,p.1≠b)
  (h:∀b o,b≠X.env.locals->b∉X.fs->b∉ch->s.heap.get? b=Y o->H b=Z->h'.get? b=Y o)
  (B:∀b o,b≠X.env.locals->b∈X.fs->b∉ch->s.heap.get? b=Y o->H b=Z->∃sl,h'.get? b=Y { o with slots:=sl }) (f:∀b o,b∉ch->s.heap.get? b=Y o->H b=Z->H' b=Z)
  (C:∀b o,b∉ch->s.heap.get? b=Y o->∃o',h'.get? b=Y o')
  (F:∀b xs,H b=Y (.tup xs)->H' b=Y (.tup xs)) (K:∀b o u,H b=Y (.tq o u)->H' b=Y (.tq o u)) (G:∀b ps,H b=Y (.Pf ps)->∃more,H' b=Y (.Pf (ps++more)))
  (T:∀m,s.heap.Ns X.env.locals m->h'.Ns X.env.locals m) (N:sf X.prog X.w H' h') (hg:AllBare g'):
  eX X pins σ H' { s with heap:=h',gens:=g',drawn:=d',toks:=t' }:=by
 have J:∀b o,X.s₀.heap.get? b=Y o->b≠X.env.locals:=λb o e=>aG (aJ (aq e) I.ok.above);have y:∀b o,X.s₀.heap.get? b=Y o->b∉X.ex->b∉ch:=λb o e a D=>by
  rcases(j b D).1 with z|z
  ·exact a z
  ·exact absurd (aJ (aq e) z) (aW _)
 have t:∀x c,X.env.cells.lookup x=Y c->∀v,s.heap.IsCell c v->h'.IsCell c v:=by
  rintro x c e v ⟨o,E,O⟩;have g:c∉ch:=λz=>(j c z).2.2.1 x c e rfl;by_cases S:c∈X.fs
  ·obtain⟨sl,q⟩:=B c o (I.Xu x c e) S g E (I.mS x c e);exact⟨_,q,O⟩
  ·exact⟨o,h c o (I.Xu x c e) S g E (I.mS x c e),O⟩
 refine⟨I.ok,I.os,hg,⟨λb o e n D a=>?_,λb o e n D a=>?_,λb o e n a=>?_,λb o e a=>?_,λb xs e=>F b xs (I.base.vd b xs e),λb o xs e=>K b o xs (I.base.sg b o xs e),λb ps e=>?_⟩,?_,λx c e=>?_,?_,λx c e=>?_,λp R=>?_,N,I.len⟩
 ·exact h b o (J b o e) D (y b o e a) (I.base.keep b o e n D a) (I.base.free b o e n a)
 ·obtain⟨sl,A⟩:=I.base.slot b o e n D a;obtain⟨M,L⟩:=B b _ (J b o e) D (y b o e a) A (I.base.free b o e n a);exact⟨M,L⟩
 ·obtain⟨o',A⟩:=I.base.there b o e a;exact f b o' (y b o e a) A (I.base.free b o e n a)
 ·obtain⟨o',A⟩:=I.base.there b o e a;exact C b o' (y b o e a) A
 ·obtain⟨V,A⟩:=I.base.wX b ps e;obtain⟨U,L⟩:=G b _ A;exact⟨V++U,by rw[L,Array.append_assoc]⟩
 ·obtain⟨m,W,hl⟩:=I.loc;refine⟨m,T m W,λi x v A L e3=>?_⟩;obtain⟨u,r,l⟩:=hl i x v A L e3;refine⟨u,r,?_⟩;rcases l with l | ⟨k,c,e,z⟩
  ·exact .inl l
  ·exact .inr ⟨k,c,e,t x c e _ z⟩
 ·obtain⟨v,z⟩:=I.cell x c e;exact⟨v,t x c e v z⟩
 ·obtain⟨m,⟨o,_,_,E,_⟩,_⟩:=I.loc;exact f _ o (λz=>(j _ z).2.1 rfl) E I.free
 ·obtain⟨v,o,E,O⟩:=I.cell x c e;exact f c o (λz=>(j c z).2.2.1 x c e rfl) E (I.mS x c e)
 ·obtain⟨e,n,Q,P,d⟩:=I.pin p R;have g:p.1∉ch:=λz=>(j p.1 z).2.2.2 p R rfl;exact⟨h p.1 p.2 Q P g e n,f p.1 p.2 g e n,Q,P,d⟩
def eX.un{t':Nat}(I:eX X pins σ H s)(u:Un X.fs [] H H' s.heap h')(c:sf X.prog X.w H' h'):eX X pins σ H' { s with heap:=h',toks:=t' }:=by obtain⟨m,⟨o,q,t,h,r⟩,_⟩:=id I.loc;obtain⟨k,j⟩:=u.any h I.free (by simp);exact I.step (g':=s.gens) (d':=s.drawn) (ch:=[]) (λ_ z=>nomatch z) (λb o _ d _ e n=>u.keep b o e n d (by simp)) (λb o _ d _ e n=>u.slot b o e n d (by simp)) (λb o _ e n=>u.free b o e n (by simp)) (λb o _ e=>u.there b o e (by simp)) u.vd u.sg u.wX (λp hm=>by obtain⟨l,f,g,a,i⟩:=hm;rw[h] at a;cases a;exact⟨_,f,g,j,i⟩) c I.bare
def eX.call{g':Array GenState}{t':Nat}{d':Drawn}{ch:List Addr} (I:eX X pins σ H s) (u:Un (Eg X.stack) ch H H' s.heap h') (f:sf X.prog X.w H' h') (l:AllBare g')
  (d:∀b∈ch,(b∈X.ex\/(zB X.s₀)<=b)/\b≠X.env.locals/\(∀x c,X.env.cells.lookup x=Y c->c≠b)/\∀p∈X.pn++pins,p.1≠b):
  eX X pins σ H' { s with heap:=h',gens:=g',drawn:=d',toks:=t' }:=by
 obtain⟨m,⟨o,A,B,j,r⟩,_⟩:=id I.loc;obtain⟨t,g⟩:=u.any j I.free λz=>(d _ z).2.1 rfl;exact I.step (ch:=ch) d (λb o g q hc e n=>u.keep b o e n (λz=>(av.mp (I.Ce b z)).elim g q) hc) (λb o _ _ hc e n=>u.any e n hc) (λb o hc e n=>u.free b o e n hc) (λb o hc e=>u.there b o e hc) u.vd u.sg u.wX (λy hm=>by obtain⟨v,h,i,a,k⟩:=hm;rw[j] at a;cases a;exact⟨_,h,i,g,k⟩) f l
def eX.turned{t':Nat}{it:Addr} (I:eX X pins σ H s) (k:∀b o,b≠it->s.heap.get? b=Y o->h'.get? b=Y o) (g:H it=Z) (d:it≠X.env.locals)
  (l:it∈X.ex\/(zB X.s₀)<=it) (j:∀x c,X.env.cells.lookup x=Y c->c≠it) (i:∀p∈X.pn++pins,p.1≠it):eX X pins σ H { s with heap:=h',toks:=t' }:=by
 have a:∀b u,H b=Y u->b≠it:=λb u e z=>by rw[z,g] at e;cases e
 refine I.step (g':=s.gens) (d':=s.drawn) (ch:=[it]) (λb h=>?_) (λb o _ _ hc e _=>k b o (λz=>hc (by simp[z])) e) (λb o _ _ hc e _=>⟨o.slots,k b o (λz=>hc (by simp[z])) e⟩) (λ_ _ _ _ n=>n)
  (λb o hc e=>⟨o,k b o (λz=>hc (by simp[z])) e⟩) (λ_ _ e=>e) (λ_ _ _ e=>e) (λb ps e=>⟨#[],by rw[e];simp⟩) (λm hm=>?_) (λb u e=>?_) I.bare
 ·have e:b=it:=by simpa using h
  subst e;exact⟨l,d,j,i⟩
 ·obtain⟨o,t,ep,f,r⟩:=hm;exact⟨o,t,ep,k _ o (Ne.symm d) f,r⟩
 ·refine(I.ij b u e).tw (λc v hc q=>k c v ?_ q) (λ_ q=>q) λ_ _ q=>q;rcases hc with z|z
  ·rw[z];exact a b u e
  ·exact a c _ z
def eX.tok(I:eX X pins σ H s)(t:Nat):eX X pins σ H { s with toks:=t }:=I.un (h':=s.heap) (t':=t) Un.refl I.ij
theorem eX.kept{t':Nat}(I:eX X pins σ H s)(k:∀b u,s.heap.get? b=Y u->h'.get? b=Y u):eX X pins σ H { s with heap:=h',toks:=t' }:=I.un (Un.kept k) (I.ij.kept k)
theorem eX.laid{a:Addr}{o:HO}{t':Nat}(I:eX X pins σ H s)(k:∀b u,s.heap.get? b=Y u->h'.get? b=Y u)(d:(zB s)<=a)(c:iK X.prog X.w (upd H a o) h' a o):
  eX X pins σ (upd H a o) { s with heap:=h',toks:=t' }:=I.un (Un.laid k d (I.ij.fresh d)) (I.ij.laid k d c)
theorem eX.write{x e:Addr}{o:HO}{g:Nat} (I:eX X pins σ H s) (d:Uz (H x)) (f:e=x\/H e=Y (.own x)) (k:∀b u,b≠e->s.heap.get? b=Y u->h'.get? b=Y u) (a:∃u,h'.get? e=Y u)
  (c:iK X.prog X.w (upd H x o) h' x o):eX X pins σ (upd H x o) { s with heap:=h',toks:=g }:=I.un (Un.write d f k a) (I.ij.write d f k a c)
def eX.pE{a:Ax}(I:eX X pins σ H s)(h:∀p∈a,s.heap.get? p.1=Y p.2/\H p.1=Z/\p.1≠X.env.locals/\p.1∉X.fs/\∀v,p.2.data≠.cell v):eX X a σ H s :=
 ⟨I.ok,I.os,I.bare,I.base,I.loc,I.cell,I.free,I.mS,λp b=>(bc.mp b).elim (λz=>I.pin p (aM _ z)) (h p),I.ij,I.len⟩
def El{N:Lr}(c:N.Nodup)(a:N[i]?=Y x)(b:N[j]?=Y x):i=j:=by obtain⟨g,e⟩:=au.mp a;obtain⟨f,d⟩:=au.mp b;exact(List.getElem_inj c).mp (e.trans d.symm)
def Kh{M:Model}{u:Value}{Q:Unit->Shared->Prop} (I:eX X pins σ H s) (hN:X.N.Nodup) (S:X.N[i]?=Y x) (t:IQ X.env.scope x) (r:fT v u)
  (h:∀s',eX X pins (σ.set i (Y v)) H s'->(∃a,Heap.SameBut a s.heap s'.heap/\(a=X.env.locals\/X.env.cells.lookup x=Y a))->Q () s') (hf:X.fn x=true\/X.env.scope.names.lookup x=Y .local:=by first|exact .inl rfl|exact .inr rfl|assumption):wpAny M A (storeName X.env x u) Q E s:=by
 obtain⟨m,hn,hl⟩:=id I.loc;have T:(X.env.scope.kind==.class||(X.env.scope.kind==.module&&X.env.locals != X.env.globals))=false:=by rw[I.ok.kind];rfl
 have F:i<σ.length:=by rw[I.len];exact(au.mp S).1
 have L:=I.Xu;have g:∀{a:Addr}{O:Heap},(∃o,s.heap.get? a=Y o/\H a=Z)->Heap.SameBut a s.heap O->sf X.prog X.w H O:=λ{a O} ha f b ob e=>by
  obtain⟨_,_,B⟩:=ha;refine(I.ij b ob e).tw (λc V hc q=>(f.2 c ?_).trans q) (λ_ q=>q) λ_ _ q=>q;rintro rfl;rcases hc with rfl|hc
  ·rw[B] at e;cases e
  ·rw[B] at hc;cases hc
 rcases t with D|D
 ·refine wpAny_storeName_local D hn (λO Xv f=>?_) T;obtain⟨oL,_,_,Xw,_⟩:=id hn;refine h _ ⟨I.ok,I.os,I.bare,⟨λb o e n K t=>?_,λb o e n K t=>?_,I.base.free,λb o e t=>?_,I.base.vd,I.base.sg,I.base.wX⟩,⟨_,Xv,λj y v' l C e3=>?_⟩,λy c e=>?_,I.free,I.mS,λp hp=>?_,g ⟨oL,Xw,I.free⟩ f,by simpa using I.len⟩ ⟨_,f,.inl rfl⟩
  ·exact(f.2 b (aG (aJ (aq e) I.ok.above))).trans (I.base.keep b o e n K t)
  ·obtain⟨sl,l⟩:=I.base.slot b o e n K t;exact⟨sl,(f.2 b (aG (aJ (aq e) I.ok.above))).trans l⟩
  ·obtain⟨o',l⟩:=I.base.there b o e t;exact⟨o',(f.2 b (aG (aJ (aq e) I.ok.above))).trans l⟩
  ·by_cases G:j=i
   ·subst G;rw[S] at l;cases l;rw[aH F] at C;cases C;exact⟨u,r,.inl ⟨D,by simp⟩⟩
   ·rw[ay (Ne.symm G)] at C;obtain⟨u',r',q⟩:=hl j y v' l C e3;refine⟨u',r',?_⟩;rcases q with ⟨k,e⟩ | ⟨k,c,e,z⟩
    ·refine .inl ⟨k,?_⟩;have:y≠x:=λe=>G (El hN l (e▸S));simp[this,e]
    ·exact .inr ⟨k,c,e,z.sameBut f (L y c e)⟩
  ·obtain⟨V,z⟩:=I.cell y c e;exact⟨V,z.sameBut f (L y c e)⟩
  ·obtain⟨e,n,W,nf,d⟩:=I.pin p hp;exact⟨(f.2 p.1 W).trans e,n,W,nf,d⟩
 ·have J:X.fn x=true:=by
   rcases hf with z|z
   ·exact z
   ·rw[z] at D;cases D
  obtain⟨c,hc⟩:=I.ok.has x (.inl D);obtain⟨V,z⟩:=I.cell x c hc;refine wpAny_storeName_cell I.ok.kind D hc z (λO UB f=>?_);obtain⟨oc,R,P⟩:=id z;refine h { s with heap:=O } ⟨I.ok,I.os,I.bare,⟨λb o e n K t=>?_,λb o e n K t=>?_,I.base.free,λb o e t=>?_,I.base.vd,I.base.sg,I.base.wX⟩,⟨m,hn.sameBut f (Ne.symm (L x c hc)),λj y v' l C e3=>?_⟩,λy c' e=>?_,I.free,I.mS,λp hp=>?_,g ⟨oc,R,I.mS x c hc⟩ f,by simpa using I.len⟩ ⟨c,f,.inr hc⟩
  ·exact(f.2 b (aG (aJ (aq e) (I.ok.UA x c J hc)))).trans (I.base.keep b o e n K t)
  ·obtain⟨sl,l⟩:=I.base.slot b o e n K t;exact⟨sl,(f.2 b (aG (aJ (aq e) (I.ok.UA x c J hc)))).trans l⟩
  ·obtain⟨o',l⟩:=I.base.there b o e t;exact⟨o',(f.2 b (aG (aJ (aq e) (I.ok.UA x c J hc)))).trans l⟩
  ·by_cases G:j=i
   ·subst G;rw[S] at l;cases l;rw[aH F] at C;cases C;exact⟨u,r,.inr ⟨.inl D,c,hc,UB⟩⟩
   ·rw[ay (Ne.symm G)] at C;obtain⟨u',r',q⟩:=hl j y v' l C e3;refine⟨u',r',?_⟩;rcases q with q | ⟨k,c',e,z'⟩
    ·exact .inl q
    ·refine .inr ⟨k,c',e,z'.sameBut f ?_⟩;rintro rfl;exact G (El hN l (I.ok.inj _ _ _ e hc▸S))
  ·by_cases U:c'=c
   ·subst U;exact⟨_,UB⟩
   ·obtain⟨w2,z2⟩:=I.cell y c' e;exact⟨w2,z2.sameBut f U⟩
  ·obtain⟨e,n,W,nf,d⟩:=I.pin p hp;refine⟨(f.2 p.1 ?_).trans e,n,W,nf,d⟩;intro q;rw[q,R] at e;have q':oc=p.2:=bq e;exact d V (by rw[<-q'];exact P)
def yi{M:Model}{u:Value}{Q:Unit->Shared->Prop} (I:eX X pins σ H s) (d:X.N.Nodup) (b:X.N[i]?=Y x) (a:IQ X.env.scope x) (r:fT v u)
  (h:∀s',eX X pins (σ.set i (Y v)) H s'->Q () s') (c:X.fn x=true\/X.env.scope.names.lookup x=Y .local:=by first|exact .inl rfl|exact .inr rfl|assumption):wpAny M A (storeName X.env x u) Q E s :=
 Kh I d b a r (λs' e _=>h s' e) c
def eX.UC{s':Shared}{ch:List Addr} (I:eX X pins σ H s) (g:s'.os=s.os) (u:Un (Eg X.stack) ch H H' s.heap s'.heap) (a:sf X.prog X.w H' s'.heap) (h:AllBare s'.gens)
  (d:∀b∈ch,(b∈X.ex\/(zB X.s₀)<=b)/\b≠X.env.locals/\(∀x c,X.env.cells.lookup x=Y c->c≠b)/\∀p∈X.pn++pins,p.1≠b):eX X pins σ H' s':=by
 obtain⟨h',g',d',t',f⟩:=s';have e:f=s.os:=g;subst e;exact I.call (g':=g') (t':=t') (d':=d') u a h d
end
abbrev XK:=Value->Option Addr->Hp->Prop
abbrev St:=List (Option V)
abbrev VK:=V->Hp->Prop
abbrev TE:=St->Hp->VK->Prop
abbrev TT:=St->Hp->(Bool->Hp->Prop)->Prop
abbrev TA:=St->Hp->(List V->Hp->Prop)->Prop
structure yj where
 nx:St->Hp->Prop
 rt:VK
 bk:St->Hp->Prop:=λ_ _=>False
 ct:St->Hp->Prop:=λ_ _=>False
abbrev TS:=yj->St->Hp->Prop
def EP(X:Cx)(a:Ax)(σ:St)(Q:VK)(u:Value)(c:Shared):Prop:=∃v b,eX X a σ b c/\fT v u/\Q v b
def TP(X:Cx)(a:Ax)(σ:St)(Q:Bool->Hp->Prop)(b:Bool)(d:Shared):Prop:=∃c,eX X a σ c d/\Q b c
def AP(X:Cx)(a:Ax)(σ:St)(Q:List V->Hp->Prop)(d:Lw)(e:Shared):Prop:=∃b c,eX X a σ c e/\fO b d/\Q b c
def SP(X:Cx)(a:Ax)(D:yj)(f:Flow)(c:Shared):Prop :=
 match f with
 |.next=>∃σ' b,eX X a σ' b c/\D.nx σ' b
 |.brk=>∃σ' b,eX X a σ' b c/\D.bk σ' b
 |.cont=>∃σ' b,eX X a σ' b c/\D.ct σ' b
 |.ret u=>∃v σ' b,eX X a σ' b c/\fT v u/\D.rt v b
def PE(X:Cx)(e:Expr)(t:TE):Prop :=
 ∀⦃a:Ax⦄ (s:Shared) (σ:St) (H:Hp) (Q:VK),eX X a σ H s->t σ H Q->(zw X) (eval e X.env) (EP X a σ Q) X.xe s
def PT(X:Cx)(e:Expr)(t:TT):Prop :=
 ∀⦃a:Ax⦄ (s:Shared) (σ:St) (H:Hp) (Q:Bool->Hp->Prop),eX X a σ H s->t σ H Q->(zw X) (isTrue e X.env (eval e X.env)) (TP X a σ Q) X.xe s
def PW(X:Cx)(e:Expr)(t:TT):Prop :=
 ∀⦃a:Sem Value⦄ (pins:Ax) (s:Shared) (σ:St) (H:Hp) (Q:Bool->Hp->Prop),eX X pins σ H s->t σ H Q->(zw X) (isTrue e X.env a) (TP X pins σ Q) X.xe s
def PW.pt{X:Cx}{t:TT}(h:PW X e t):PT X e t:=@h _
def PA(X:Cx)(b:Lx)(t:TA):Prop :=
 ∀⦃a:Pos⦄ (pins:Ax) (s:Shared) (σ:St) (H:Hp) (Q:List V->Hp->Prop),eX X pins σ H s->t σ H Q->(zw X) (spliced (backTo a (starEach b X.env))) (AP X pins σ Q) X.xe s
def PS(X:Cx)(b:Stmt)(t:TS):Prop :=
 ∀⦃a:Ax⦄ (s:Shared) (σ:St) (H:Hp) (D:yj),eX X a σ H s->t D σ H->(zw X) (exec b X.env) (SP X a D) X.xe s
def we(X:Cx)(b:List Stmt)(t:TS):Prop :=
 ∀⦃a:Ax⦄ (s:Shared) (σ:St) (H:Hp) (D:yj),eX X a σ H s->t D σ H->(zw X) (execs b X.env) (SP X a D) X.xe s
def gO{t:Sem α}{Q b:α->Shared->Prop}{M:Model}(h:wpAny M A t Q E s)(c:∀a s,Q a s->b a s):wpAny M A t b E s:=bK h c λ_ _ x=>x
end L2
variable  {X:L2.Cx}{σ:L2.St}
namespace L2
open PySem PySem.Spec PyProof.Rows
section
def Xx(i:Nat):TE:=λσ H Q=>∃v,σ[i]?=Y (Y v)/\Q v H
def tC(v:V):TE:=λ_ H Q=>Q v H
def qi(t:X.N[i]?=Y x)(n:Ma X.env.scope x)(g:zg x:=by decide)(j:(x==("__classdict__":Str))=false:=by decide):PE X (.Name x pos) (Xx i):=by
 intro f s σ H Q I h;obtain⟨v,e,h⟩:=h;obtain⟨m,o,q⟩:=I.loc;obtain⟨u,r,l⟩:=q i x v t e n;have d:EP X f σ Q u s:=⟨v,H,I,r,h⟩
 rcases l with ⟨b,p⟩ | ⟨b,c,k,a⟩
 ·exact wpAny_Name (wpAny_loadName_local I.ok.kind b o p d) g
 ·rcases b with b|b
  ·exact wpAny_Name (wpAny_loadName_cell I.ok.kind b k a d) g
  ·exact wpAny_Name (wpAny_loadName_free I.ok.kind b k a d j) g
def R4{i j pos}:PE X (.Constant (.int i) j pos) (tC (.int i)):=λ_ _ _ H _ I h=>wpAny_Constant_int ⟨.int i,H,I.tok _,⟨_,rfl⟩,h⟩
def UD{b j pos}:PE X (.Constant (.bool b) j pos) (tC (.bl b)):=λ_ _ _ H _ I h=>Constant_bool ⟨.bl b,H,I,rfl,h⟩
def R5{j pos}:PE X (.Constant .none j pos) (tC .lb):=λ_ _ _ H _ I h=>Constant_none ⟨.lb,H,I,rfl,h⟩
def R6{x j pos}:PE X (.Constant (.str x) j pos) (tC (.str x)):=λ_ _ _ H _ I h=>Calls.Constant_str ⟨.str x,H,I.tok _,⟨_,rfl⟩,h⟩
def Gl(X:Cx)(x:Str):Prop:=X.env.kindOf x=Y .globalImplicit
def oe{u:Value}{Q:Px} (I:eX X pins σ H s) (b:Gl X x) (a:X.mg x=Y u) (h:Q u s)
  (c:zg x:=by decide):(zw X) (eval (.Name x pos) X.env) Q E s :=
 dM I.ok.kind b (Calls.loadGlobal_global (by rw[I.ok.glob];exact I.mod.glob.keeps I.bk) a h) c
def nv{u:Value}{Q:Px} (I:eX X pins σ H s) (d:Gl X x) (c:X.mg x=Z) (a:bootBuiltins x=Y u) (h:Q u s)
  (b:x≠"__name__":=by decide) (e:zg x:=by decide):(zw X) (eval (.Name x pos) X.env) Q E s:=by
 obtain⟨i,g,f⟩:=I.mod.blt;exact dM I.ok.kind d (Calls.loadGlobal_builtin (by rw[I.ok.glob];exact I.mod.glob.keeps I.bk) c (by rw[I.ok.blt];exact g.keeps I.bk) ((f x b).trans a) h) e
def xS{u:Value}(b:Gl X x)(a:X.mg x=Y u)(r:fT v u)(c:zg x:=by decide):PE X (.Name x pos) (tC v) :=
 λ_ _ _ H _ I h=>oe I b a ⟨v,H,I,r,h⟩ c
variable {a:Expr}{ta tb:TE}
variable {tA W4:TT}{rest:Lx}
def Xy(t u:TT):TT:=λσ H Q=>t σ H λc a=>if c=true then u σ a Q else Q false a
def tOr(t u:TT):TT:=λσ H Q=>t σ H λc a=>if c=true then Q true a else u σ a Q
def Xz(t:TT):TT:=λσ H Q=>t σ H λc a=>Q (!c) a
def IT(d:PT X a tA):PW X (.BoolOp .And [a] pos) tA:=by
 intro f b s σ H Q I h;refine isTrue_and (gO (@d b s σ H Q I h) λc g e=>?_);cases c with
 |true=>exact isTrue_and_nil e
 |false=>exact e
def Mm(d:PT X a tA):PW X (.BoolOp .Or [a] pos) tA:=by
 intro f b s σ H Q I h;refine isTrue_or (gO (@d b s σ H Q I h) λc g e=>?_);cases c with
 |false=>exact isTrue_or_nil e
 |true=>exact e
def Mn(l:PT X a tA)(k:PW X (.BoolOp .And (b::rest) pos) W4):PW X (.BoolOp .And (a::b::rest) pos) (Xy tA W4):=by
 intro i d s σ H Q I h;refine isTrue_and (gO (@l d s σ H _ I h) ?_);rintro c j ⟨g,f,e⟩;cases c with
 |true=>exact @k i d j σ g Q f e
 |false=>exact⟨g,f,e⟩
def Rh(l:PT X a tA)(k:PW X (.BoolOp .Or (b::rest) pos) W4):PW X (.BoolOp .Or (a::b::rest) pos) (tOr tA W4):=by
 intro i d s σ H Q I h;refine isTrue_or (gO (@l d s σ H _ I h) ?_);rintro c j ⟨g,f,e⟩;cases c with
 |true=>exact⟨g,f,e⟩
 |false=>exact @k i d j σ g Q f e
def GH(d:PT X a tA):PT X (.UnaryOp .Not a pos) (Xz tA):=by intro b s σ H Q I h;exact isTrue_not (@d b s σ H (λc H1=>Q (!c) H1) I h)
def UE(d b:TE):TE:=λσ H Q=>d σ H λx a=>∃c,x=.bl c/\if c=true then b σ a Q else Q (.bl false) a
def XA(d b:TE):TE:=λσ H Q=>d σ H λx a=>∃c,x=.bl c/\if c=true then Q (.bl true) a else b σ a Q
def UG(a:TE):TE:=λσ H Q=>a σ H λx b=>∃c,x=.bl c/\Q (.bl (!c)) b
def Mo{op}{t:TE}(h:PE X a t):PE X (.BoolOp op [a] pos) t:=λb s σ H Q I hw=>BoolOp_one (@h b s σ H Q I hw)
def Mp(l:PE X a ta)(k:PE X (.BoolOp .And (b::rest) pos) tb):PE X (.BoolOp .And (a::b::rest) pos) (UE ta tb):=by
 intro d s σ H Q I h;refine BoolOp_and (gO (@l d s σ H _ I h) ?_);rintro v i ⟨x,g,f,j,e⟩;obtain⟨c,rfl,e⟩:=e;cases j;refine bM ?_;cases c with
 |true=>exact @k d i σ g Q f e
 |false=>exact⟨.bl false,g,f,rfl,e⟩
def UH(l:PE X a ta)(k:PE X (.BoolOp .Or (b::rest) pos) tb):PE X (.BoolOp .Or (a::b::rest) pos) (XA ta tb):=by
 intro d s σ H Q I h;refine BoolOp_or (gO (@l d s σ H _ I h) ?_);rintro v i ⟨x,g,f,j,e⟩;obtain⟨c,rfl,e⟩:=e;cases j;refine bM ?_;cases c with
 |false=>exact @k d i σ g Q f e
 |true=>exact⟨.bl true,g,f,rfl,e⟩
def R7(f:PE X a ta):PE X (.UnaryOp .Not a pos) (UG ta):=by intro b s σ H Q I h;refine UnaryOp_ (gO (@f b s σ H _ I h) ?_);rintro v j ⟨x,i,g,e,d⟩;obtain⟨c,rfl,d⟩:=d;cases e;exact not_of (bM ⟨.bl (!c),i,g,rfl,d⟩)
def tIf(t:TT)(d b:TE):TE:=λσ H Q=>t σ H λc a=>if c=true then d σ a Q else b σ a Q
def Mq(k:PT X c tA)(m:PE X a ta)(l:PE X b tb):PE X (.IfExp c a b pos) (tIf tA ta tb):=by
 intro e s σ H Q I h;refine wpAny_IfExp (gO (@k e s σ H _ I h) ?_);rintro d f ⟨j,i,g⟩;cases d with
 |true=>exact @m e f σ j Q i g
 |false=>exact @l e f σ j Q i g
end
def j0(K:Fg)(H:Hp)(a:Addr)(b:List V):Prop :=
 Rd H a (.lst b) \/
  ∃(o:Obj) (its:Array Value) (n:Nat),K.lookup a=Y o/\o.cls=.type "list"/\o.dict=Z/\o.data=.seq its n/\its.size<=sizeLine/\fO b its.toList
def pW(K:Fg)(H:Hp)(a:Addr)(b:List V):Prop :=
 Rd H a (.tup b) \/
  ∃(o:Obj) (its:Array Value) (n:Nat),K.lookup a=Y o/\o.cls=.type "tuple"/\o.data=.seq its n/\its.size<=sizeLine/\fO b its.toList
noncomputable def XB:Value->Option V
 |.none=>Y .lb
 |.bool b=>Y (.bl b)
 |.int i _=>Y (.int i)
 |.str x _=>Y (.str x)
 |.bytes b _=>Y (.Ud b)
 |.float b _=>Y (.W2 b)
 |.ref a=>Y (.ref a)
 |.type n=>Y (.ty n)
 |_=>Z
def fT.abs{x:V}{u:Value}(r:fT x u):XB u=Y x:=by
 cases x with
 |lb=>cases r;rfl
 |bl _=>cases r;rfl
 |int _=>obtain⟨t,rfl⟩:=r;rfl
 |str _=>obtain⟨t,rfl⟩:=r;rfl
 |Ud _=>obtain⟨t,rfl⟩:=r;rfl
 |W2 _=>obtain⟨t,rfl⟩:=r;rfl
 |ref _=>cases r;rfl
 |ty _=>cases r;rfl
def fT.inj{x y:V}{u:Value}(r:fT x u)(q:fT y u):x=y:=bq (r.abs.symm.trans q.abs)
theorem fO.inj:∀{b a:List V}{c:Lw},fO b c->fO a c->b=a
 |_,_,_,.nil,.nil=>rfl
 |_,_,_,.cons r t,.cons r' t'=>by rw[r.inj r',fO.inj t t']
section
variable {xs ys:List V}
def j0.of(h:H a=Y (.lst xs)):j0 K H a xs:=.inl (.inl h)
def pW.of(h:H a=Y (.tup xs)):pW K H a xs:=.inl (.inl h)
def eX.list(I:eX X pins σ H s)(h:j0 X.K H a xs):∃its:Lw,fO xs its/\PlainL s.heap a its.toArray/\xs.length<=sizeLine:=by
 rcases h with h | ⟨o,its,n,c,f,d,b,hz,r⟩
 ·obtain⟨z,its,n,r,e⟩:=h.ok I.ij;exact⟨its,r,⟨_,n,e,rfl,rfl,rfl⟩,z⟩
 ·refine⟨its.toList,r,⟨o,n,I.xR a o c,f,d,by simpa using b⟩,?_⟩;have e:=r.length;simp only[cw] at e;omega
def eX.tuple(I:eX X pins σ H s)(h:pW X.K H a xs):∃b:Lw,fO xs b/\IsTup s.heap a b.toArray/\xs.length<=sizeLine:=by
 rcases h with h | ⟨o,b,n,d,f,c,hz,r⟩
 ·obtain⟨z,b,r,p⟩:=h.ok I.ij;exact⟨b,r,p,z⟩
 ·refine⟨b.toList,r,⟨o,I.xR a o d,f,n,by simpa using c⟩,?_⟩;have e:=r.length;simp only[cw] at e;omega
def eX.qj(I:eX X pins σ H s)(h:j0 X.K H a xs)(h':j0 X.K H a ys):xs=ys:=by
 obtain⟨c,r,⟨o,n,e,_,_,d⟩,_⟩:=I.list h;obtain⟨b,i,⟨k,l,f,_,_,g⟩,_⟩:=I.list h';rw[e] at f;cases f;rw[d] at g;injection g with j _
 have:c=b:=by simpa using bx Array.toList j
 subst this;exact r.inj i
def eX.Ki(I:eX X pins σ H s)(h:pW X.K H a xs)(j:pW X.K H a ys):xs=ys:=by
 obtain⟨c,r,⟨o,e,_,n,d⟩,_⟩:=I.tuple h;obtain⟨b,i,⟨l,f,_,m,g⟩,_⟩:=I.tuple j;rw[e] at f;cases f;rw[d] at g;injection g with k _
 have:c=b:=by simpa using bx Array.toList k
 subst this;exact r.inj i
end
abbrev Cx.Al(X:Cx)(E:Value->Shared->Prop):Cx:={ X with xe:=E }
abbrev Cx.Mr(X:Cx):Cx:=X.Al λ_ _=>False
theorem Cx.Ok.Al{X:Cx}(a:X.Ok)(E:Px):(X.Al E).Ok :=
 ⟨a.mod,a.kind,a.glob,a.blt,a.above,a.inj,a.has,a.UA,a.hd,a.frames,a.Ue,a.ZC,a.bs,a.Rg,a.Mj,a.GG,a.si,a.Ml⟩
def Cx.Ok.qk(a:(X.Al E).Ok):X.Ok :=
 ⟨a.mod,a.kind,a.glob,a.blt,a.above,a.inj,a.has,a.UA,a.hd,a.frames,a.Ue,a.ZC,a.bs,a.Rg,a.Mj,a.GG,a.si,a.Ml⟩
section
theorem eX.Al(I:eX X pins σ H s)(E:Px):eX (X.Al E) pins σ H s:=⟨I.ok.Al E,I.os,I.bare,I.base,I.loc,I.cell,I.free,I.mS,I.pin,I.ij,I.len⟩
theorem eX.qk(I:eX (X.Al E) pins σ H s):eX X pins σ H s:=⟨I.ok.qk,I.os,I.bare,I.base,I.loc,I.cell,I.free,I.mS,I.pin,I.ij,I.len⟩
theorem SP.qk{D:yj}{f:Flow}{b:Shared}(h:SP (X.Al E) pins D f b):SP X pins D f b:=by
 cases f with
 |next=>obtain⟨σ',a,I,q⟩:=h;exact⟨σ',a,I.qk,q⟩
 |brk=>obtain⟨σ',a,I,q⟩:=h;exact⟨σ',a,I.qk,q⟩
 |cont=>obtain⟨σ',a,I,q⟩:=h;exact⟨σ',a,I.qk,q⟩
 |ret u=>obtain⟨v,σ',a,I,r,q⟩:=h;exact⟨v,σ',a,I.qk,r,q⟩
theorem we.Mr{b:List Stmt}{t:TS}(h:we X.Mr b t):we X b t:=λa s σ H D I hw=>
 bK (@h a s σ H D (I.Al _) hw) (λ_ _ q=>q.qk) λ_ _ z=>False.elim z
end
section
variable {st:Stmt}{rest:List Stmt}{t u:TS}{te:TE}
def Ri:TS:=λD σ H=>D.nx σ H
def XC(t u:TS):TS:=λD σ H=>t { D with nx:=u D } σ H
def IU:we X [] Ri:=λ_ _ σ H _ I h=>cW ⟨σ,H,I,h⟩
def Em(d:PS X st t)(c:we X rest u):we X (st::rest) (XC t u):=by
 intro a s σ H D I h;refine wpAny_execs_cons (gO (@d a s σ H { D with nx:=u D } I h) λf b q=>?_);cases f with
 |next=>obtain⟨σ',g,e,q⟩:=q;exact @c a b σ' g D e q
 |ret v=>exact q
 |brk=>exact q
 |cont=>exact q
def IV(b:PS X st t):we X [st] t:=by
 intro a s σ H D I h;refine wpAny_execs_cons (gO (@b a s σ H D I h) λf c q=>?_);cases f with
 |next=>exact cW q
 |ret v=>exact q
 |brk=>exact q
 |cont=>exact q
def R8:TS:=λD σ H=>D.bk σ H
def UI:TS:=λD σ H=>D.ct σ H
def Pj:PS X (.Pass pos) Ri:=λ_ _ σ H _ I h=>wpAny_Pass ⟨σ,H,I,h⟩
def Ms:PS X (.Break pos) R8:=λ_ _ σ H _ I h=>wpAny_Break ⟨σ,H,I,h⟩
def En:PS X (.Continue pos) UI:=λ_ _ σ H _ I h=>wpAny_Continue ⟨σ,H,I,h⟩
def eX.quiet(I:eX X pins σ H s):interactive X.env=false:=by simp[interactive,I.ok.kind]
def UJ(a:TE):TS:=λD σ H=>a σ H λ_ b=>D.nx σ b
def q5(d:PE X e te)(c:swapsWith e Z pos.line X.env=pure false:=by rfl):PS X (.Expr e pos) (UJ te):=by intro a s σ H D I h;exact wpAny_Expr_any (gO (@d a s σ H _ I h) <| by rintro v i ⟨x,g,f,j,b⟩;exact⟨σ,g,f,b⟩) I.quiet c
def XD(a:TE):TS:=λD σ H=>a σ H D.rt
def ve(d:PE X e te):PS X (.Return (Y e) pos) (XD te):=by intro a s σ H D I h;exact wpAny_Return_some (gO (@d a s σ H _ I h) <| by rintro v i ⟨x,g,f,b,c⟩;exact⟨x,σ,g,f,b,c⟩)
def UK:TS:=λD _ H=>D.rt .lb H
def IW:PS X (.Return Z pos) UK:=λ_ _ σ H _ I h=>wpAny_Return_none ⟨.lb,σ,H,I,rfl,h⟩
def XE(c:TT)(t u:TS):TS:=λD σ H=>c σ H λb a=>if b=true then t D σ a else u D σ a
def Mt{a b:List Stmt}{f:TT}(l:PT X c f)(n:we X a t)(m:we X b u):PS X (.If c a b pos) (XE f t u):=by
 intro e s σ H D I h;refine wpAny_If (gO (@l e s σ H _ I h) ?_);rintro d g ⟨k,j,i⟩;cases d with
 |true=>exact @n e g σ k D j i
 |false=>exact @m e g σ k D j i
def R9:TS:=λ_ _ _=>False
def Mu:PS X st R9:=λ_ _ _ _ _ _ h=>h.elim
end
abbrev TG:=V->St->Hp->(St->Hp->Prop)->Prop
abbrev Pk:=List V->St->Hp->(St->Hp->Prop)->Prop
def PG(X:Cx)(a:Expr)(t:TG):Prop :=
 ∀⦃b:Ax⦄ (s:Shared) (σ:St) (H:Hp) (v:V) (u:Value) (Q:St->Hp->Prop),eX X b σ H s->fT v u->t v σ H Q ->
  (zw X) (assign a X.env u) (λ_ d=>∃σ' c,eX X b σ' c d/\Q σ' c) X.xe s
def O8(X:Cx)(c:Lx)(t:Pk):Prop :=
 ∀⦃a:Ax⦄ (s:Shared) (σ:St) (H:Hp) (vs:List V) (us:Lw) (Q:St->Hp->Prop),eX X a σ H s->fO vs us->t vs σ H Q ->
  (zw X) (assignInOrder ((assignEach c X.env).map (·.2)) us) (λ_ d=>∃σ' b,eX X a σ' b d/\Q σ' b) X.xe s
abbrev Pm:=V->V->V->Hp->(Hp->Prop)->Prop
def Cg(X:Cx)(t:Pm):Prop :=
 ∀(a:Ax) (s:Shared) (σ:St) (H:Hp) (o i v:V) (b c u:Value) (Q:Hp->Prop),eX X a σ H s->fT o b->fT i c->fT v u->t o i v H Q ->
  (zw X) (setItem b c u) (λ_ e=>∃d,eX X a σ d e/\Q d) X.xe s
abbrev W5:=V->V->Hp->VK->Prop
def Ug(X:Cx)(b:Operator)(t:W5):Prop :=
 ∀(a:Ax) (s:Shared) (σ:St) (H:Hp) (x y:V) (v u:Value) (Q:VK),eX X a σ H s->fT x v->fT y u->t x y H Q ->
  (zw X) (inplaceOp b v u) (EP X a σ Q) X.xe s
section
def IX(i:Nat):TG:=λv σ H Q=>Q (σ.set i (Y v)) H
def tB(e:X.N.Nodup)(c:X.N[i]?=Y x)(b:IQ X.env.scope x)(d:X.fn x=true\/X.env.scope.names.lookup x=Y .local:=by first|exact .inl rfl|exact .inr rfl|assumption):PG X (.Name x pos) (IX i):=by intro a s σ H v u Q I r h;exact wpAny_assign_Name (yi I e c b r (λg f=>⟨_,H,f,h⟩) d)
def XF:Pk:=λa σ H Q=>a=[]/\Q σ H
def UL(t:TG)(u:Pk):Pk:=λa σ H Q=>∃v r,a=v::r/\t v σ H λσ' b=>u r σ' b Q
def IY:O8 X [] XF:=by intro a s σ H b c Q I r h;obtain⟨e,h⟩:=h;subst e;cases r;exact assignInOrder_nil ⟨σ,H,I,h⟩
def yl{t:TG}{u:Pk} (i:PG X e t) (g:O8 X es u)
  (f:(assignEach (e::es) X.env).map (·.2)=assign e X.env::(assignEach es X.env).map (·.2):=by rfl):O8 X (e::es) (UL t u):=by
 intro a s σ H m o Q I r h;obtain⟨v,n,j,h⟩:=h;subst j;cases r with
 |cons r c=>rw[f];refine assignInOrder_cons (gO (@i a s σ H _ _ _ I r h) ?_);rintro _ b ⟨σ1,l,k,d⟩;exact @g a b σ1 l _ _ Q k c d
def XG(K:Fg)(n:Nat)(t:Pk):TG:=λv σ H Q=>∃a b,v=.ref a/\pW K H a b/\b.length=n/\t b σ H Q
def Mv{k:Nat}{t:Pk}{n:Nat} (w:X.calm=true) (h:O8 X es t)
  (p:(assignEach es X.env).length=n:=by rfl) (d:(assignEach es X.env).findIdx? (·.1)=Z:=by rfl):PG X (.Tuple es k pos) (XG X.K n t):=by
 intro c s σ H v u Q I r hw;obtain⟨a,g,y,m,q,hw⟩:=hw;subst y;cases r;obtain⟨i,f,l,A⟩:=I.tuple m;refine assign_Tuple_tuple (I.ok.hd w) l (by simp[p,<-q,f.length]) d λx j=>?_;have z:eX X c σ H { s with heap:=x }:=I.kept (t':=s.toks) λb o e=>j b o (aG (aq e)) e;exact @h c _ σ H g _ Q z (by simpa using f) hw
def XH(a b:TE)(t:Pm):TG:=λv σ H Q=>a σ H λo e=>b σ e λi d=>t o i v d λc=>Q σ c
def Mw{o i:Expr}{b c:TE}{t:Pm} (n:PE X o b) (p:PE X i c) (m:Cg X t)
  (q:∀v,assign (.Subscript o i pos) X.env v=(do
   let ov <-holding [v] (eval o X.env);let iv <-holding [v,ov] (eval i X.env)
   standAt pos
   holding [v,ov,iv] (setItem ov iv v)
   release [v,ov,iv] []):=by intro _;rfl):PG X (.Subscript o i pos) (XH b c t):=by
 intro a s σ H v u Q I r h;rw[q];refine ab (bp (gO (@n a s σ H _ I h) ?_));rintro ov e ⟨x,D,A,g,l⟩;refine ab (bp (gO (@p a e σ D _ A l) ?_));rintro iv d ⟨y,C,z,f,k⟩;refine ab (wpAny_standAt (ab (bp (gO (@m a d σ C x y v ov iv u _ z g f r k) ?_))));rintro _ E ⟨B,w,j⟩;exact wpAny_release ⟨σ,B,w,j⟩
def Sa(a:TE)(g:TG):TS:=λD σ H=>a σ H λx b=>g x σ b D.nx
def Mx{b:TE}{g:TG} (k:PE X e b) (j:PG X tg g) (i:swapsWithSole [tg] e pos.line X.env=pure false:=by rfl) (hw:swappedStores [tg] e X.env=pure Z:=by rfl)
  (l:(assignEach [tg] X.env).map (·.2)=[assign tg X.env]:=by rfl):PS X (.Assign [tg] e pos) (Sa b g):=by
 intro a s σ H D I h;refine wpAny_Assign_stores (gO (@k a s σ H _ I h) ?_) i hw;rintro v c ⟨x,n,m,d,f⟩;rw[l];exact gO (@j a c σ n x v _ m d f) λ_ o q=>q
def GI{c:TE}{a:Pos}(n:X.N.Nodup)(k:X.N[i]?=Y x)(g:IQ X.env.scope x)(m:PE X e c)(j:swapsWith e (Y (.Name x a)) pos.line X.env=pure false:=by rfl)(l:X.fn x=true\/X.env.scope.names.lookup x=Y .local:=by first|exact .inl rfl|exact .inr rfl|assumption):
  PS X (.Assign [.Name x a] e pos) (Sa c (IX i)):=by
 intro b s σ H D I h;refine wpAny_Assign_Name (gO (@m b s σ H _ I h) ?_) j;rintro v r ⟨y,q,p,d,f⟩;exact yi p n k g d (λs2 o=>⟨_,q,o,f⟩) l
def XI(i:Nat)(b:TE)(a:W5):TS:=λD σ H=>∃x,σ[i]?=Y (Y x)/\b σ H λy d=>a x y d λz c=>D.nx (σ.set i (Y z)) c
def My{t:TE}{o:Operator}{q:W5}{j:Pos}(S:X.N.Nodup)(A:X.N[i]?=Y x)(p:IQ X.env.scope x)(Q:PE X e t)(K:Ug X o q)(P:X.fn x=true\/X.env.scope.names.lookup x=Y .local:=by first|exact .inl rfl|exact .inr rfl|assumption):
  PS X (.AugAssign (.Name x j) o e pos) (XI i t q):=by
 intro a s σ H D I h;obtain⟨v,T,h⟩:=h;obtain⟨m,L,O⟩:=I.loc;have n:Ma X.env.scope x:=by rcases p with k|k;exact .inl k;exact .inr (.inl k)
 obtain⟨u,r,l⟩:=O i x v A T n;refine wpAny_AugAssign_Name ?_;have B:(zw X) (eval e X.env) (λw g=>(zw X) (inplaceOp o u w) (λr f=>(zw X) (storeName X.env x r) (λ_=>SP X a D .next) X.xe f) X.xe g) X.xe s:=by refine gO (@Q a s σ H _ I h) ?_;rintro w C ⟨y,H1,W,F,J⟩;refine gO (@K a C σ H1 v y u w _ W r F J) ?_;rintro z s2 ⟨zv,H2,V,E,G⟩;exact yi V S A p E (λs3 U=>⟨_,H2,U,G⟩) P
 rcases l with ⟨b,M⟩ | ⟨b,c,R,d⟩
 ·exact wpAny_loadName_local I.ok.kind b L M B
 ·rcases b with b|b
  ·exact wpAny_loadName_cell I.ok.kind b R d B
  ·rcases p with k|k
   ·have:X.env.scope.names.lookup x=Y .free:=b;rw[k] at this;cases this
   ·have:X.env.scope.names.lookup x=Y .free:=b;rw[k] at this;cases this
def UM(f:Int->Int->Int):W5:=λx y H Q=>∃i j,x=.int i/\y=.int j/\Q (.int (f i j)) H
def Ci:Ug X .Add (UM λi j=>i+j):=by intro a s σ H x y v u Q I c b h;obtain⟨i,j,e,d,q⟩:=h;subst e;subst d;obtain⟨t,rfl⟩:=c;obtain⟨f,rfl⟩:=b;exact iadd_int ⟨.int _,H,I.tok _,⟨_,rfl⟩,q⟩
def GJ:Ug X .Sub (UM λi j=>i - j):=by intro a s σ H x y v u Q I c b h;obtain⟨i,j,e,d,q⟩:=h;subst e;subst d;obtain⟨t,rfl⟩:=c;obtain⟨f,rfl⟩:=b;exact isub_int ⟨.int _,H,I.tok _,⟨_,rfl⟩,q⟩
end
section
def Sb(c:TT)(f:TS):TS:=λD σ H=>∃W:Nat->St->Hp->Prop,(∃m,W m σ H)/\∀m σ H,W m σ H ->
 c σ H λb d=>if b=true then ∃N:St->Hp->Prop,(∀σ' e,N σ' e->∃a,a<m/\W a σ' e)/\f { D with nx:=N,ct:=N,bk:=D.nx } σ d else D.nx σ d
def Eo{p:TT}{q:TS}(r:PassesOwn (model X.prog X.w) X.A X.env X.xe)(K:PT X c p)(L:we X body q):PS X (.While c body [] pos) (Sb p q):=by
 intro a s σ H D I h;obtain⟨W,⟨J,C⟩,d⟩:=h;refine wpAny_While (codeAny_whileLoop (λn G=>∃σ' z,eX X a σ' z G/\W n σ' z) ?_ J ⟨σ,H,I,C⟩);rintro n F ⟨σ1,y,M,B⟩;refine bz r (gO (@K a F σ1 y _ M (d n σ1 y B)) ?_);rintro b E ⟨x,u,i⟩;cases b with
 |true=>
  obtain⟨N,t,i⟩:=i;rw[ag rfl];refine bz r (gO (@L a E σ1 x _ u i) λf O g=>?_);cases f with
  |next=>obtain⟨σ3,e,o,k⟩:=g;obtain⟨l,m,j⟩:=t σ3 e k;exact⟨l,m,σ3,e,o,j⟩
  |cont=>obtain⟨σ3,e,o,k⟩:=g;obtain⟨l,m,j⟩:=t σ3 e k;exact⟨l,m,σ3,e,o,j⟩
  |brk=>exact g
  |ret v=>exact g
 |false=>rw[ai aC];exact cW ⟨σ1,x,u,i⟩
end
structure It where
 go:Nat->Hp->Prop
 Kj:Nat->Hp->V->Hp->Prop
 stop:Nat->Hp->Prop
def mv(X:Cx)(a:Ax)(H:Hp)(b:Addr):Prop :=
 H b=Z/\b≠X.env.locals/\b∉X.fs/\(b∈X.ex\/(zB X.s₀)<=b)/\(∀x c,X.env.cells.lookup x=Y c->c≠b)/\∀p∈X.pn++a,p.1≠b
def eX.ym{d:Hp}{b:Addr}(I:eX X pins σ H s)(a:(zB s)<=b)(g:d b=Z):mv X pins d b:=by
 refine⟨g,cN (aJ I.lt a),I.Xt a,.inr (bj I.sz a),λx c e z=>?_,λp f z=>?_⟩
 ·obtain⟨v,q⟩:=I.cell x c e;exact absurd (aJ q.lt (by rw[z];exact a)) (aW _)
 ·exact absurd (aJ (aq (I.pin p f).1) (by rw[z];exact a)) (aW _)
structure Cj (P:Program) (w:World) (K:Fg) (tg:Expr) (J:It) (fp:List Addr) (it:Addr) (tn:Nat->Heap->Prop):Prop where
 mem:it∈fp
 obj:∀i h,tn i h->∀b∈fp,∃o,h.get? b=Y o/\∀v,o.data≠.cell v
 keep:∀i h h',tn i h->(∀b∈fp,∀o,h.get? b=Y o->h'.get? b=Y o)->tn i h'
 item:∀(X:Cx),X.prog=P->X.w=w->X.K=K->X.calm=true->∀(i:Nat) (pins:Ax) (s:Shared) (σ:St) (H:Hp) (E:Px),eX X pins σ H s->(∀b∈fp,mv X pins H b)->tn i s.heap->J.go i H ->
  wpAny (model P w) X.A (pyNext (.ref it)) (λr s1=>∃u,r=Y u /\
   wpAny (model P w) X.A (letOwnedTupleGo tg (.ref it) u) (λ_ s2=>∃x H',eX X pins σ H' s2/\fT x u/\J.Kj i H x H'/\tn (i+1) s2.heap/\∀b∈fp,H' b=Z) E s1) E s
 done:∀(X:Cx),X.prog=P->X.w=w->X.K=K->X.calm=true->∀(i:Nat) (pins:Ax) (s:Shared) (σ:St) (H:Hp) (E:Px),eX X pins σ H s->(∀b∈fp,mv X pins H b)->tn i s.heap->J.stop i H ->
  wpAny (model P w) X.A (pyNext (.ref it)) (λr s1=>r=Z/\eX X pins σ H s1) E s
 self:∀(A:Around) (i:Nat) (s:Shared) (Q:Px) (E:Px),tn i s.heap->Q (.ref it) s->wpAny (model P w) A (pyIter (.ref it)) Q E s
abbrev TI:=St->Hp->(It->Hp->Prop)->Prop
def XJ(X:Cx)(a:Ax)(σ:St)(f:Expr)(R:It->Hp->Prop)(c:Value)(d:Shared):Prop :=
 ∃(e:Addr) (fp:List Addr) (tn:Nat->Heap->Prop) (J:It) (H':Hp),c=.ref e/\eX X a σ H' d/\Cj X.prog X.w X.K f J fp e tn/\tn 0 d.heap/\(∀b∈fp,mv X a H' b)/\R J H'
def PI(X:Cx)(d b:Expr)(c:TI):Prop :=
 ∀⦃a:Ax⦄ (s:Shared) (σ:St) (H:Hp) (R:It->Hp->Prop),eX X a σ H s->c σ H R ->
  (zw X) (eval b X.env) (λv s1=>(zw X) (pyIter v) (XJ X a σ d R) X.xe s1) X.xe s
def yn{M:Model}{c:Addr}{u:Value}{o:Obj}{n:String}{b:Array Value}{Q:Unit->Shared->Prop} (d:s.heap.get? c=Y o) (g:o.cls=.type n) (f:o.data=.fields b)
    (e:["enumerate","zip","dict_itemiterator","dict_reverseitemiterator","odict_iterator","itertools.zip_longest","itertools.pairwise"].contains n=false) (a:Q () s):wpAny M A (letOwnedTupleGo tg (.ref c) u) Q E s:=by
  unfold letOwnedTupleGo;cases tg<;>first
    |exact ak a
    | (cases u<;>first
        |exact ak a
        | (refine ab (wpAny_load d ?_)
           rw[g,f];show wpAny M A (if (["enumerate","zip","dict_itemiterator","dict_reverseitemiterator","odict_iterator","itertools.zip_longest","itertools.pairwise"].contains n&&b[0]?==Y (rawInt _))=true then _ else _) Q E s;rw[ai (by intro h;rw[e,Bool.false_and] at h;cases h)];exact ak a))
def ZD(K:Fg)(a:Addr):It :=
 ⟨λi H=>∃b x,j0 K H a b/\b[i]?=Y x,λi H x c=>c=H/\∀b,j0 K H a b->b[i]?=Y x,λi H=>∃b,j0 K H a b/\b.length<=i⟩
def ZE(K:Fg)(a:Addr):It :=
 ⟨λi H=>∃b x,pW K H a b/\b[i]?=Y x,λi H x c=>c=H/\∀b,pW K H a b->b[i]?=Y x,λi H=>∃b,pW K H a b/\b.length<=i⟩
def UN(a:Int)(n:Nat):It:=⟨λi _=>i<n,λi H x b=>b=H/\x=.int (a+i),λi _=>n<=i⟩
def Kk{P:Program}(a j:Addr):Cj P w K tg (ZD K a) [j] j (λi h=>h.IsListIter j a i) where
 mem:=by simp
 obj:=λi h f b l=>by
  have e:b=j:=by simpa using l
  subst e;obtain⟨o,e,c,d⟩:=f;exact⟨o,e,λv z=>by rw[d] at z;cases z⟩
 keep:=λi h r f k=>f.at λo e=>k j (by simp) o e
 item:=by intro X C hw D N i g s σ H E I q f B;subst C hw D;obtain⟨O,x,n,A⟩:=B;obtain⟨y,t,p,S⟩:=I.list n;obtain⟨u,U,R⟩:=t.get A;obtain⟨M,L,V,J,G,F⟩:=q j (by simp);refine c7 f p.isList (x:=u) (by simpa using U) λr m Q=>?_;have I1:eX X g σ H { s with heap:=r }:=I.turned (t':=s.toks) (λb o l e=>(Q.2 b l).trans e) M L J G F;obtain⟨o,e,c,d⟩:=id m;exact⟨u,rfl,yn (s:={ s with heap:=r }) e c d (by decide) ⟨x,H,I1,R,⟨rfl,λys T=>by rw[I.qj T n];exact A⟩,m,λb l=>(q b l).1⟩⟩
 done:=by intro X C hw D N i g s σ H E I q f B;subst C hw D;obtain⟨O,n,A⟩:=B;obtain⟨y,t,p,S⟩:=I.list n;obtain⟨M,L,V,J,G,F⟩:=q j (by simp);have hl:=t.length;exact dq (I.ok.hd N) f p.isList (by simp;omega) λr W=>⟨rfl,I.turned (t':=s.toks) (λb o l e=>W b o l e) M L J G F⟩
 self:=λ_ _ _ _ _ f h=>wpAny_pyIter_listiter f h
def GK{P:Program}(a l:Addr):Cj P w K tg (ZE K a) [l] l (λi h=>h.IsTupleIter l a i) where
 mem:=by simp
 obj:=λi h f b m=>by
  have e:b=l:=by simpa using m
  subst e;obtain⟨o,e,c,d⟩:=f;exact⟨o,e,λv z=>by rw[d] at z;cases z⟩
 keep:=λi h t f k=>f.at λo e=>k l (by simp) o e
 item:=by intro X C hw D N i g s σ H E I r f B;subst C hw D;obtain⟨O,x,q,A⟩:=B;obtain⟨j,y,p,S⟩:=I.tuple q;obtain⟨u,U,R⟩:=y.get A;obtain⟨M,L,V,J,G,F⟩:=r l (by simp);refine wpAny_pyNext_tuple_item f (show s.heap.IsTuple a j.toArray from p) (x:=u) (by simpa using U) λt n Q=>?_;have I1:eX X g σ H { s with heap:=t }:=I.turned (t':=s.toks) (λb o m e=>(Q.2 b m).trans e) M L J G F;obtain⟨o,e,c,d⟩:=id n;exact⟨u,rfl,yn (s:={ s with heap:=t }) e c d (by decide) ⟨x,H,I1,R,⟨rfl,λys T=>by rw[I.Ki T q];exact A⟩,n,λb m=>(r b m).1⟩⟩
 done:=by intro X C hw D N i g s σ H E I r f B;subst C hw D;obtain⟨O,q,A⟩:=B;obtain⟨j,y,p,S⟩:=I.tuple q;obtain⟨M,L,V,J,G,F⟩:=r l (by simp);have hl:=y.length;exact wpAny_pyNext_tuple_end (I.ok.hd N) f (show s.heap.IsTuple a j.toArray from p) (by simp;omega) λt W=>⟨rfl,I.turned (t':=s.toks) (λb o m e=>W b o m e) M L J G F⟩
 self:=λ_ _ _ _ _ f h=>wpAny_pyIter_tupleiter f h
def GL{P:Program}(d:Addr)(j:Int)(n:Nat):Cj P w K tg (UN j n) [d] d (λi h=>IsRangeIter h d (j+(i:Nat)*1) ((n:Int) - (i:Nat)) 1) where
 mem:=by simp
 obj:=λi h a b f=>by
  have e:b=d:=by simpa using f
  subst e;exact⟨_,a,λv z=>by have F:Data.fields _=Data.cell v:=z;cases F⟩
 keep:=λi h m a k=>k d (by simp) _ a
 item:=by intro X r hw u q i c s σ H E I l a p;subst r hw u;obtain⟨C,B,L,A,y,x⟩:=l d (by simp);have W:=Walks.range (prog:=X.prog) (w:=X.w) (I.ok.hd q) d j 1 n;refine W.item i s _ _ p a λv m D J g G=>?_;obtain⟨t,rfl⟩:=J;have N:eX X c σ H { s with heap:=m,toks:=D }:=I.turned (λb o f e=>G b o (by simpa using f) e) C B A y x;refine⟨_,rfl,yn (s:={ s with heap:=m,toks:=D }) (n:="range_iterator") g rfl rfl (by decide) ⟨.int (j+i),H,N,⟨t,?_⟩,⟨rfl,rfl⟩,g,λb f=>(l b f).1⟩⟩;rw[Int.mul_one]
 done:=by intro X r hw u q i c s σ H E I l a p;subst r hw u;obtain⟨C,B,L,A,y,x⟩:=l d (by simp);exact wpAny_pyNext_range_end (I.ok.hd q) a (by have:n<=i:=p;omega) λm M=>⟨rfl,I.turned (t':=s.toks) (λb o f e=>M b o f e) C B A y x⟩
 self:=λ_ _ _ _ _ a h=>wpAny_pyIter_rangeiter a h
section
def UO(K:Fg)(d:TE):TI:=λσ H R=>d σ H λx b=>∃a,x=.ref a/\(∃c,j0 K b a c)/\R (ZD K a) b
def XM(K:Fg)(d:TE):TI:=λσ H R=>d σ H λx b=>∃a,x=.ref a/\(∃c,pW K b a c)/\R (ZE K a) b
def Ck{l:Expr}{g:TE}(n:PE X l g):PI X tg l (UO X.K g):=by
 intro c s σ H R I h;refine gO (@n c s σ H _ I h) ?_;rintro v d ⟨x,t,f,i,j⟩;obtain⟨a,e,⟨u,m⟩,q⟩:=j;subst e;cases i;obtain⟨k,w,p,y⟩:=f.list m;refine c8 p.isList ?_;refine⟨(zB d),[(zB d)],_,_,t,rfl,f.kept (t':=d.toks) λb o e=>aj _ e,Kk a _,⟨_,aA _ rfl,rfl,rfl⟩,λb r=>?_,q⟩;have e:b=(zB d):=by simpa using r
 subst e;exact f.ym (ax _) (f.ij.fresh (ax _))
def Mz{l:Expr}{i:TE}(n:PE X l i):PI X tg l (XM X.K i):=by
 intro d s σ H R I h;refine gO (@n d s σ H _ I h) ?_;rintro v c ⟨x,t,f,j,k⟩;obtain⟨a,e,⟨u,m⟩,q⟩:=k;subst e;cases j;obtain⟨g,w,p,y⟩:=f.tuple m;refine wpAny_pyIter_tuple (show c.heap.IsTuple a g.toArray from p) ?_;refine⟨(zB c),[(zB c)],_,_,t,rfl,f.kept (t':=c.toks) λb o e=>aj _ e,GK a _,⟨_,aA _ rfl,rfl,rfl⟩,λb r=>?_,q⟩;have e:b=(zB c):=by simpa using r
 subst e;exact f.ym (ax _) (f.ij.fresh (ax _))
def MA{R:It->Hp->Prop}{a c:Int}{t u v:Tok}{d:Nat} (I:eX X pins σ H s) (k:-(2 ^ 62)<=a) (j:a<2 ^ 62) (i:-(2 ^ 62)<=c) (h:c<2 ^ 62)
  (q:R (UN a (c - a).toNat) H):(zw X) (pyIter (.ref (zB s))) (XJ X pins σ tg R) E { s with heap:=s.heap.push { cls:=.type "range",data:=.fields #[.int a t,.int c u,.int 1 v] },toks:=d }:=by
 refine wpAny_pyIter_range (IsRange.new ..) (small_one k j i h) ?_;have f:eX X pins σ H { s with heap:=s.heap.push { cls:=.type "range",data:=.fields #[.int a t,.int c u,.int 1 v] },toks:=d }:=I.kept λb o e=>aj _ e;refine⟨(s.heap.push { cls:=.type "range",data:=.fields #[.int a t,.int c u,.int 1 v] }).objs.size,[(s.heap.push { cls:=.type "range",data:=.fields #[.int a t,.int c u,.int 1 v] }).objs.size],_,_,H,rfl,
  f.kept (t':=d) λb o e=>aj _ e,GL _ a (c - a).toNat,?_,λb g=>?_,q⟩
 ·have m:a+((0:Nat):Int)*1=a:=by simp
  have l:(((c - a).toNat:Nat):Int) - ((0:Nat):Int)=Builtin.Range.rangeSize a c 1:=by rw[rangeSize_one];split<;>omega
  show IsRangeIter _ _ (a+((0:Nat):Int)*1) ((((c - a).toNat:Nat):Int) - ((0:Nat):Int)) 1;rw[m,l];exact aA _ rfl
 ·have e:b=(s.heap.push { cls:=.type "range",data:=.fields #[.int a t,.int c u,.int 1 v] }).objs.size:=by simpa using g
  subst e;exact f.ym (ax _) (f.ij.fresh (ax _))
def UP(b:TA):TI:=λσ H R=>b σ H λa c=>∃j:Int,a=[.int j]/\-(2 ^ 62)<=j/\j<2 ^ 62/\R (UN 0 j.toNat) c
def Be{a:Expr}{d:TA}(m:Gl X "range")(l:X.mg "range"=Z)(n:PA X [a] d)(k:starEach [a] X.env=[(false,eval a X.env)]:=by rfl):PI X tg (.Call (.Name "range" p) [a] [] pos) (UP d):=by
 intro b s σ H R I h;refine Call_ (nv I m l boot_range (bf (gO (@n pos b s σ H _ I h) ?_) k rfl));rintro v w ⟨u,x,o,g,c⟩;obtain⟨j,e,c,i,q⟩:=c;subst e;cases g with
 |cons r f=>cases f;obtain⟨t,rfl⟩:=r;exact call_range_1 (MA o (by omega) (by omega) c i (by simpa using q))
def XN(c:TI)(g:TG)(d:TS):TS:=λD σ H=>c σ H λJ f=>∃W:Nat->Nat->St->Hp->Prop,(∃m,W 0 m σ f)/\∀i m σ H,W i m σ H ->
 (J.stop i H/\D.nx σ H)\/(J.go i H/\∃N:St->Hp->Prop,(∀σ' a,N σ' a->∃b,b<m/\W (i+1) b σ' a)/\∀x a,J.Kj i H x a->g x σ a λσ2 e=>d { D with nx:=N,ct:=N,bk:=D.nx } σ2 e)
def vf(fp:List Addr)(h:Heap):Ax:=fp.filterMap λb=>(h.get? b).map λo=>(b,o)
def ny{fp:List Addr}{b:Addr}{o:Obj}(a:b∈fp)(e:h.get? b=Y o):(b,o)∈vf fp h:=cf.mpr ⟨b,a,by rw[e];rfl⟩
def Kl{a:List Addr}{p:Addr×Obj}(c:p∈vf a h):p.1∈a/\h.get? p.1=Y p.2:=by
 obtain⟨b,d,e⟩:=cf.mp c;cases q:h.get? b with
 |none=>rw[q] at e;cases e
 |some o=>rw[q] at e;have f:(b,o)=p:=bq e;subst f;exact⟨d,q⟩
def eX.pinned{fp:List Addr}(I:eX X pins σ H s)(h:∀b∈fp,mv X pins H b)(g:∀b∈fp,∃o,s.heap.get? b=Y o/\∀v,o.data≠.cell v):eX X (pins++vf fp s.heap) σ H s :=
 I.pE λp f=>(bc.mp f).elim (λz=>I.pin p (ao _ z)) λz=>by obtain⟨a,e⟩:=Kl z;obtain⟨k,j,i,_⟩:=h p.1 a;obtain⟨o,c,d⟩:=g p.1 a;rw[e] at c;cases c;exact⟨e,k,j,i,d⟩
def eX.nA{pl:Ax}(I:eX X (pins++pl) σ H s):eX X pins σ H s:=I.pE λp a=>I.pin p (ao _ (aM _ a))
def Cm{j:Expr}{U:TI}{g:TG}{tb:TS} (G:PassesOwn (model X.prog X.w) X.A X.env X.xe) (hc:X.calm=true) (hi:PI X tg j U) (hg:PG X tg g) (k:we X body tb)
  (hs:∀x,foldedSetIterable j X.env x=pure x:=by intro _;rfl):PS X (.For tg j body [] pos) (XN U g tb):=by
 intro a s σ H D I h;refine wpAny_For (gO (@hi a s σ H _ I h) λv s1 h1=>gO h1 λitv s2 h2=>?_) hs;obtain⟨it,L,V,J,H2,e,I2,T,O,f2,W,⟨m0,w0⟩,B⟩:=h2;subst e;have c:∀{t:Hp},(∀b∈L,t b=Z)->∀b∈L,mv X a t b:=λhn b k=>⟨hn b k,(f2 b k).2⟩
 refine codeAny_forLoop_any (λn s'=>∃i σ' t,eX X a σ' t s'/\V i s'.heap/\(∀b∈L,t b=Z)/\W i n σ' t) ?_ m0 ⟨0,σ,H2,I2,O,λb k=>(f2 b k).1,w0⟩;rintro n s3 ⟨i,σ3,M,I3,F,K,w3⟩;rcases B i n σ3 M w3 with ⟨C,qn⟩ | ⟨go,N,hN,E⟩
 ·refine bz G (gO (T.done X rfl rfl rfl @hc i a s3 σ3 M X.xe I3 (c K) F C) ?_);rintro r s4 ⟨Q,I4⟩;subst Q;exact cW ⟨σ3,M,I4,qn⟩
 ·refine bz G (gO (T.item X rfl rfl rfl @hc i a s3 σ3 M X.xe I3 (c K) F go) ?_);rintro r s4 ⟨u,Q,h4⟩;subst Q;refine bz G (gO h4 ?_);rintro _ s5 ⟨x,H5,I5,r5,y5,z,R⟩;have S:=I5.pinned (c R) (T.obj _ _ z);refine bz G (gO (@hg _ s5 σ3 H5 x u _ S r5 (E x H5 y5)) ?_);rintro _ s6 ⟨σ6,H6,I6,q6⟩;refine bz G (gO (@k _ s6 σ6 H6 _ I6 q6) λf P y=>?_);have l:∀{σ7:St}{q:Hp},eX X (a++vf L s5.heap) σ7 q P->N σ7 q->∃m,m<n/\∃i σ' t,eX X a σ' t P/\V i P.heap/\(∀b∈L,t b=Z)/\W i m σ' t:=λ{σ7 q} p n7=>by
   obtain⟨m',hm,w7⟩:=hN σ7 q n7;refine⟨m',hm,i+1,σ7,q,p.nA,T.keep _ _ _ z λb k o e=>(p.pin (b,o) (ao _ (ao _ (ny k e)))).1,λb k=>?_,w7⟩;obtain⟨o,e,d⟩:=T.obj _ _ z b k;exact(p.pin (b,o) (ao _ (ao _ (ny k e)))).2.1
  cases f with
  |next=>obtain⟨σ7,q,p,n7⟩:=y;exact l p n7
  |cont=>obtain⟨σ7,q,p,n7⟩:=y;exact l p n7
  |brk=>obtain⟨σ7,q,p,y⟩:=y;exact⟨σ7,q,p.nA,y⟩
  |ret v=>obtain⟨x7,σ7,q,p,r7,y⟩:=y;exact⟨x7,σ7,q,p.nA,r7,y⟩
end
abbrev R2:=V->V->Hp->VK->Prop
def ko(X:Cx)(f:Value->Value->Sem Value)(r:R2):Prop :=
 ∀(a:Ax) (s:Shared) (σ:St) (H:Hp) (x y:V) (v u:Value) (Q:VK),eX X a σ H s->fT x v->fT y u->r x y H Q ->
  (zw X) (f v u) (EP X a σ Q) X.xe s
def XO(X:Cx)(f:Value->Sem Value)(r:V->Hp->VK->Prop):Prop :=
 ∀(a:Ax) (s:Shared) (σ:St) (H:Hp) (x:V) (v:Value) (Q:VK),eX X a σ H s->fT x v->r x H Q ->
  (zw X) (f v) (EP X a σ Q) X.xe s
def jc(X:Cx)(f:Value)(r:List V->Hp->VK->Prop):Prop :=
 ∀(a:Ax) (s:Shared) (σ:St) (H:Hp) (xs:List V) (us:Lw) (Q:VK),eX X a σ H s->fO xs us->r xs H Q ->
  (zw X) (call f us) (EP X a σ Q) X.xe s
def XP(X:Cx)(r:V->Hp->(Bool->Hp->Prop)->Prop):Prop :=
 ∀(a:Ax) (s:Shared) (σ:St) (H:Hp) (x:V) (v:Value) (Q:Bool->Hp->Prop),eX X a σ H s->fT x v->r x H Q ->
  (zw X) (truthy v) (TP X a σ Q) X.xe s
def Uh(r:R2)(b a:TE):TE:=λσ H Q=>b σ H λx d=>a σ d λy c=>r x y c Q
def tUn(r:V->Hp->VK->Prop)(a:TE):TE:=λσ H Q=>a σ H λx b=>r x b Q
def rI(C:Int->Int->Prop)(g:Int->Int->V):R2:=λx y H Q=>∃i j,x=.int i/\y=.int j/\C i j/\Q (g i j) H
def O9(g:Int->Int->V):R2:=λx y H Q=>∃i j,x=.int i/\y=.int j/\Q (g i j) H
def rU(g:Int->V):V->Hp->VK->Prop:=λx H Q=>∃i,x=.int i/\Q (g i) H
section
variable {a:Expr}{ta tb tc:TE}
def Sd(l:PE X a ta) (k:PE X b tb) {R:V->V->Hp->Prop} (I:eX X pins σ H s)
  (h:ta σ H λx H1=>tb σ H1 λy H2=>R x y H2) {Q:Px}
  (j:∀v u s2 x y H2,eX X pins σ H2 s2->fT x v->fT y u->R x y H2->(zw X) (f v u) Q X.xe s2):
  (zw X) (eval a X.env) (λv s₁=>(zw X) (eval b X.env) (λu s₂=>(zw X) (f v u) Q X.xe s₂) X.xe s₁) X.xe s:=by
 refine gO (@l pins s σ H _ I h) ?_;rintro v c ⟨x,H1,n,e,i⟩;refine gO (@k pins c σ H1 _ n i) ?_;rintro u s2 ⟨y,H2,m,d,g⟩;exact j v u s2 x y H2 m e d g
def MB{d:Operator}{r:R2}(g:ko X (binaryOp d) r)(j:PE X a ta)(i:PE X b tb):PE X (.BinOp a d b pos) (Uh r ta tb):=by intro c s σ H Q I h;exact wpAny_BinOp (Sd j i I h λv u s2 x y l k f e q=>@g c s2 σ l x y v u Q k f e q)
def UQ{c:UnaryOp}{r:V->Hp->VK->Prop}(g:XO X (unaryOp c) r)(i:PE X a ta):PE X (.UnaryOp c a pos) (tUn r ta):=by intro b s σ H Q I h;exact UnaryOp_ (gO (@i b s σ H _ I h) <| by rintro v d ⟨x,k,j,e,f⟩;exact @g b d σ k x v Q j e f)
def W6{C:Int->Int->Prop}{g:Int->Int->Int}
  (a:∀(i j:Int) (t u:Tok) (s:Shared) (Q:Px) (E:Px),C i j->Q (.int (g i j) s.toks) { s with toks:=s.toks+1 }->(zw X) (f (.int i t) (.int j u)) Q E s):
  ko X f (rI C λi j=>.int (g i j)):=by
 intro b s σ H x y v u Q I e d h;obtain⟨i,j,rfl,rfl,k,q⟩:=h;obtain⟨t,rfl⟩:=e;obtain⟨c,rfl⟩:=d;exact a i j t c s _ _ k ⟨.int (g i j),H,I.tok _,⟨_,rfl⟩,q⟩
def UR{g:Int->Int->Int}
  (a:∀(i j:Int) (t u:Tok) (s:Shared) (Q:Px) (E:Px),Q (.int (g i j) s.toks) { s with toks:=s.toks+1 }->(zw X) (f (.int i t) (.int j u)) Q E s):
  ko X f (O9 λi j=>.int (g i j)):=by
 intro b s σ H x y v u Q I e d h;obtain⟨i,j,rfl,rfl,q⟩:=h;obtain⟨t,rfl⟩:=e;obtain⟨c,rfl⟩:=d;exact a i j t c s _ _ ⟨.int (g i j),H,I.tok _,⟨_,rfl⟩,q⟩
def Po{g:Int->Int->Bool}
  (a:∀(i j:Int) (t u:Tok) (s:Shared) (Q:Px) (E:Px),Q (.bool (g i j)) s->(zw X) (f (.int i t) (.int j u)) Q E s):
  ko X f (O9 λi j=>.bl (g i j)):=by
 intro b s σ H x y v u Q I e d h;obtain⟨i,j,rfl,rfl,q⟩:=h;obtain⟨t,rfl⟩:=e;obtain⟨c,rfl⟩:=d;exact a i j t c s _ _ ⟨.bl (g i j),H,I,rfl,q⟩
def US(i j:Int):Prop:=0<j/\j<1073741824
def XQ(i j:Int):Prop:=0<=j/\j<=1000000/\i.natAbs<2 ^ 64
def Se:ko X (binaryOp .Add) (O9 λi j=>.int (i+j)):=UR λ_ _ _ _ _ _ _ q=>add_int q
def Sf:ko X (binaryOp .Sub) (O9 λi j=>.int (i - j)):=UR λ_ _ _ _ _ _ _ q=>sub_int q
def Pp:ko X (binaryOp .FloorDiv) (rI US λi j=>.int (i / j)):=W6 λi j _ _ _ _ _ a q=>by have c:(0:Int)<j:=a.1;have b:j<1073741824:=a.2;exact floordiv_int (by omega) (by rw[Int.fdiv_eq_ediv_of_nonneg i (by omega)];exact q) (.inl (PyProof.noPylong_small (by omega)))
def Sg:ko X (binaryOp .Mod) (rI (λ_ j=>0<j) λi j=>.int (i % j)):=W6 λi j _ _ _ _ _ a q=>by have b:(0:Int)<j:=a;exact mod_int' (by omega) (by rw[Int.fmod_eq_emod_of_nonneg i (by omega)];exact q)
def Sh:ko X (binaryOp .Pow) (rI XQ λi j=>.int (i ^ j.toNat)):=W6 λ_ _ _ _ _ _ _ a q=>pow_int_small a.1 a.2.1 a.2.2 q
def unI{f:Value->Sem Value}{g:Int->Int}
  (a:∀(i:Int) (t:Tok) (s:Shared) (Q:Px) (E:Px),Q (.int (g i) s.toks) { s with toks:=s.toks+1 }->(zw X) (f (.int i t)) Q E s):
  XO X f (rU λi=>.int (g i)):=by
 intro b s σ H x v Q I c h;obtain⟨i,rfl,q⟩:=h;obtain⟨t,rfl⟩:=c;exact a i t s _ _ ⟨.int (g i),H,I.tok _,⟨_,rfl⟩,q⟩
def Si:XO X (unaryOp .USub) (rU λi=>.int (-i)):=unI λ_ _ _ _ _ q=>neg_int q
end
section
variable {a:Expr}{ta tb tc:TE}
def yo{Q:VK}{k a:Bool}(I:eX X pins σ H s)(q:Q (.bl k) H)(e:k=a):EP X pins σ Q (.bool a) s:=by subst e;exact⟨.bl k,H,I,rfl,q⟩
def UT:ko X (compareOp .Lt) (O9 λi j=>.bl (decide (i<j))):=Po λ_ _ _ _ _ _ _ q=>lt_int q
def UU:ko X (compareOp .LtE) (O9 λi j=>.bl (decide (i<=j))):=Po λ_ _ _ _ _ _ _ q=>le_int q
def UW:ko X (compareOp .Gt) (O9 λi j=>.bl (decide (j<i))):=Po λ_ _ _ _ _ _ _ q=>gt_int q
def UX:ko X (compareOp .GtE) (O9 λi j=>.bl (decide (j<=i))):=Po λ_ _ _ _ _ _ _ q=>ge_int q
def Km:ko X (compareOp .In) (λx y H Q=>∃i j,x=.str i/\y=.str j/\Q (.bl (!(Builtin.Str.occurrences j i 0 j.length 1).isEmpty)) H):=by intro a s σ H x y v u Q I c b h;obtain⟨i,j,rfl,rfl,q⟩:=h;obtain⟨t,rfl⟩:=c;obtain⟨d,rfl⟩:=b;exact in_str (yo I q rfl)
def Sj:ko X (compareOp .Is) (λx y H Q=>y=.lb/\Q (.bl (decide (x=.lb))) H):=by
 intro b s σ H x y v u Q I a c h;obtain⟨rfl,q⟩:=h;cases c;refine is_none_gen (yo I q ?_);cases x<;>first
  | (cases a;rfl)
  | (obtain⟨t,rfl⟩:=a;rfl)
def Pq:ko X (compareOp .IsNot) (λx y H Q=>y=.lb/\Q (.bl (!decide (x=.lb))) H):=by
 intro b s σ H x y v u Q I a c h;obtain⟨rfl,q⟩:=h;cases c;refine isnot_none_gen (yo I q ?_);cases x<;>first
  | (cases a;rfl)
  | (obtain⟨t,rfl⟩:=a;rfl)
def Co:ko X (compareOp .NotIn) (λx y H Q=>∃i j,x=.str i/\y=.str j/\Q (.bl (!(!(Builtin.Str.occurrences j i 0 j.length 1).isEmpty))) H):=by intro a s σ H x y v u Q I c b h;obtain⟨i,j,rfl,rfl,q⟩:=h;obtain⟨t,rfl⟩:=c;obtain⟨d,rfl⟩:=b;exact notIn_str (yo I q rfl)
def ko.or{r d:R2}(h:ko X f r)(e:ko X f d):ko X f (λx y H Q=>r x y H Q\/d x y H Q):=by
 intro a s σ H x y v u Q I c b q;rcases q with q|q
 ·exact @h a s σ H x y v u Q I c b q
 ·exact @e a s σ H x y v u Q I c b q
def Cp(b:Expr){a:CmpOp}(h:a≠.In:=by decide)(c:a≠.NotIn:=by decide):behindInMarks a b=false:=by
 have e:(a==CmpOp.In)=false:=by cases a<;>first|rfl|exact absurd rfl h
 have d:(a==CmpOp.NotIn)=false:=by cases a<;>first|rfl|exact absurd rfl c
 cases b<;>simp[behindInMarks,e,d]
def IZ{d:CmpOp}{r:R2}(g:ko X (compareOp d) r)(k:PE X a ta)(j:PE X b tb)(i:behindInMarks d b=false):PE X (.Compare a [d] [b] pos) (Uh r ta tb):=by intro c s σ H Q I h;exact wpAny_Compare1 (Sd k j I h λv u s2 x y m l f e q=>@g c s2 σ m x y v u Q l f e q) i
def Rj(t:TE):TT:=λσ H Q=>t σ H λx a=>∃k,x=.bl k/\Q k a
def tE{f:CmpOp}{r:R2}(q:ko X (compareOp f) r)(A:PE X a ta)(w:PE X b tb)(t:behindInMarks f b=false):PT X (.Compare a [f] [b] pos) (Rj (Uh r ta tb)):=by
 intro d s σ H Q I h;refine wpAny_isTrue_Compare1 (gO (@A d s σ H _ I h) λv i ⟨x,G,D,m,p⟩=>gO (@w d i σ G _ D p) λu g ⟨y,F,C,l,o⟩=>
  gO (@q d g σ F x y v u _ C m l o) λc J ⟨z,E,B,j,k,e,n⟩=>?_) t
 subst e;cases j;exact bM ⟨E,B,n⟩
def Sk(r f:R2)(e d c:TE):TE:=λσ H Q=>e σ H λx i=>d σ i λy h=>r x y h λz a=>∃k,z=.bl k /\
 (if k=true then c σ a λb g=>f y b g Q else Q (.bl false) a)
def MC{i g:CmpOp}{r m:R2} (O:ko X (compareOp i) r) (j:ko X (compareOp g) m) (T:PE X a ta) (S:PE X b tb) (R:PE X c tc)
  (P:lastMarks [i,g] [b,c]=false:=by with_unfolding_all rfl):PT X (.Compare a [i,g] [b,c] pos) (Rj (Sk r m ta tb tc)):=by
 intro f s σ H Q I h;refine isTrue_chain (gO (@T f s σ H _ I h) λv C ⟨x,H1,I1,G,M⟩=>test_link (gO (@S f C σ H1 _ I1 M) λu B ⟨y,H2,I2,l,L⟩=>
  gO (@O f B σ H2 x y v u _ I2 G l L) λd A ⟨z,p,o,F,k,e,n⟩=>?_)) P
 subst e;cases F;refine bM ?_;cases k with
 |false=>obtain⟨k',V,N⟩:=n;cases V;exact ite_ff ⟨p,o,N⟩
 |true=>refine ite_tt (test_last (gO (@R f A σ p _ o n) ?_));rintro t w ⟨q,H4,I4,E,K⟩;refine gO (@j f w σ H4 y q u t _ I4 l E K) ?_;rintro d' s5 ⟨z2,H5,W,D,k2,U,J⟩;subst U;cases D;exact bM ⟨H5,W,J⟩
def Sl(K:Fg)(x:V)(H:Hp)(k:Bool):Prop :=
 match x with
 |.lb=>k=false
 |.bl b=>k=b
 |.int i=>k=(i != 0)
 |.str y=>y.length<=sizeLine/\k=((y.length:Int) != 0)
 |.Ud y=>y.size<=sizeLine/\k=((y.size:Int) != 0)
 |.ref p=>(∃a,j0 K H p a/\k=!a.isEmpty)\/(∃a,pW K H p a/\k=!a.isEmpty)\/∃c,Rd H p (.dK c)/\k=!c.isEmpty
 |_=>False
def GN{κ:Type}{a:List (κ×V)}{b:List (κ×Value)}(r:KV a b):(!b.isEmpty)=!a.isEmpty:=by cases r<;>rfl
def yp{b:List V}{a:Lw}(r:fO b a):(!a.toArray.isEmpty)=!b.isEmpty:=by cases r<;>simp
def sj:(sizeLine:Nat)<2 ^ 63:=by rw[sizeLine_eq];decide
def Sm:XP X (λx H Q=>∃k,Sl X.K x H k/\Q k H):=by
 intro u s σ H x v Q I g h;obtain⟨k,e,q⟩:=h;have D:=sj;have C:sizeLine=16777216:=sizeLine_eq;cases x with
 |lb=>cases g;have a:k=false:=e;subst a;exact truthy_none ⟨H,I,q⟩
 |bl b=>cases g;have a:k=b:=e;subst a;exact bM ⟨H,I,q⟩
 |int i=>obtain⟨t,rfl⟩:=g;have a:k=(i != 0):=e;subst a;exact PySem.P.truthy_int ⟨H,I,q⟩
 |str y=>obtain⟨t,rfl⟩:=g;obtain⟨A,a⟩:y.length<=sizeLine/\k=((y.length:Int) != 0):=e;subst a;exact PySem.P.truthy_str (by omega) ⟨H,I.tok _,q⟩
 |Ud y=>obtain⟨t,rfl⟩:=g;obtain⟨A,a⟩:y.size<=sizeLine/\k=((y.size:Int) != 0):=e;subst a;exact W.truthy_bytes (by omega) ⟨H,I.tok _,q⟩
 |ref p=>
  cases g;have a:(∃f,j0 X.K H p f/\k=!f.isEmpty)\/(∃f,pW X.K H p f/\k=!f.isEmpty)\/∃c,Rd H p (.dK c)/\k=!c.isEmpty:=e;rcases a with ⟨f,j,a⟩ | ⟨f,j,a⟩ | ⟨c,j,a⟩
  ·subst a;obtain⟨o,r,n,z⟩:=I.list j;have d:=r.length;exact wpAny_truthy_list n.isList (by simp only[aw];omega) ⟨H,I.tok _,by rw[yp r];exact q⟩
  ·subst a;obtain⟨o,r,n,z⟩:=I.tuple j;have d:=r.length;exact truthy_tuple n (by simp only[aw];omega) ⟨H,I.tok _,by rw[yp r];exact q⟩
  ·subst a;obtain⟨z,B,l,r,m⟩:c.length<=sizeLine/\(p==sysModules)=false/\∃l,KV c l/\s.heap.DictOf (fD X.prog X.w) p l:=j.ok I.ij;have d:c.length=l.length:=cp r;exact wpAny_truthy_dict B m (by omega) ⟨H,I.tok _,by rw[GN r];exact q⟩
 |_=>exact(show False from e).elim
def yq(i:PE X a ta)(g:∀whole,isTrue a X.env whole=(do let v <-whole;standAt a.pos;holding [v] (truthy v))):
  PT X a (λσ H Q=>ta σ H λx c=>∃k,Sl X.K x c k/\Q k c):=by
 intro b s σ H Q I h;exact isTrue_plain (gO (@i b s σ H _ I h) <| by rintro v d ⟨x,l,j,e,f⟩;exact Sm b d σ l x v Q j e f) (g _)
def GO:ko X (binaryOp .Add) (λx y H Q=>∃i j,x=.str i/\y=.str j/\i.length+j.length<=sizeLine/\Q (.str (i++j)) H):=by intro a s σ H x y v u Q I d c h;obtain⟨i,j,rfl,rfl,e,q⟩:=h;obtain⟨t,rfl⟩:=d;obtain⟨b,rfl⟩:=c;exact add_str (λb f=>⟨.str (i++j),H,I.tok _,⟨_,rfl⟩,q⟩) e
def tF{x:V}{a:Lw}(r:fO [x] a):∃u,a=[u]/\fT x u:=by
 cases r with
 |cons c b=>cases b;exact⟨_,rfl,c⟩
def UY{x y:V}{b:Lw}(r:fO [x,y] b):∃u a,b=[u,a]/\fT x u/\fT y a:=by
 cases r with
 |cons f e=>
  cases e with
  |cons d c=>cases c;exact⟨_,_,rfl,f,d⟩
def Kn(c:X.calm=true):jc X (.builtin "min") (λxs H Q=>∃i j,xs=[.int i,.int j]/\Q (.int (if j<i then j else i)) H):=by
 intro b s σ H xs e Q I r h;obtain⟨i,j,rfl,q⟩:=h;obtain⟨u,d,rfl,⟨t,rfl⟩,⟨g,rfl⟩⟩:=UY r;refine min_two_ints (I.ok.hd c) λl f k=>⟨_,H,I.kept k,?_,q⟩
 by_cases a:j<i
 ·rw[ag a,ag a];exact⟨_,rfl⟩
 ·rw[ai a,ai a];exact⟨_,rfl⟩
def Ko:jc X (.type "int") (λxs H Q=>(∃i,xs=[.int i]/\Q (.int i) H)\/∃k,xs=[.bl k]/\Q (.int (if k then 1 else 0)) H):=by
 intro a s σ H xs c Q I r h;rcases h with ⟨i,rfl,q⟩ | ⟨k,rfl,q⟩
 ·obtain⟨u,rfl,t,rfl⟩:=tF r;exact call_int_int ⟨.int i,H,I,⟨_,rfl⟩,q⟩
 ·obtain⟨u,rfl,b⟩:=tF r;cases b;exact call_int_bool ⟨.int (if k then 1 else 0),H,I.tok _,⟨_,rfl⟩,q⟩
end
structure GP (h:Heap) (x dx C:Addr) (mA:Str->Ow):Prop where
 obj:h.get? x=Y (W.instObj C dx)
 ns:h.Ns1 dx mA
 ne:dx≠x
def Kp{i:Addr}{f:Str->Ow}(n:h.Ns1 i f):∃d,h.get? i=Y d/\∀b,W.lookIn b d=Y (f b):=by
 obtain⟨o,g,s,k,p,m,_,l⟩:=n;refine⟨o,k,λb=>?_⟩;have e:=l b;unfold nsFind findBy at e;rw[<-Array.find?_toList] at e;unfold W.lookIn;rw[p];dsimp only;split
 ·rename_i y q;rw[q] at e;exact bx Y e
 ·rename_i q;rw[q] at e;have a:g.toList.any (·.refKey)=false:=by
   rw[List.any_eq_false];intro y j;obtain⟨z,t,c⟩:=m y (Array.mem_toList_iff.mp j);simp[DictEntry.refKey,c]
  have r:¬ g.toList.any (·.refKey)=true:=by rw[a];exact aC
  rw[ai r];exact bx Y e
def GP.look{x d C:Addr}{c:Str->Ow}(I:GP h x d C c):∃b,W.InstAt h x (W.instObj C d) C (Y b)/\∀a,W.lookIn a b=Y (c a) :=
 let ⟨b,e,f⟩:=Kp I.ns
 ⟨b,⟨I.obj,rfl,rfl,e⟩,f⟩
section
variable {x dx C f:Addr}{mA:Str->Ow}{name:Str}{v:Value}
def Pr{a:Bool}{Q:Px} (X:K.In s.heap) (I:GP s.heap x dx C mA) (f:W.plainGet K C name=true) (e:W.hasDictIn K C=true)
  (g:W.findIn K (.ref C) name=Y Z) (c:mA name=Y v) (b:W.handedIn v=true) (h:Q v { s with toks:=s.toks+1 }):
  wpAny (model prog w) A (getAttr (.ref x) name a) Q E s:=by
 obtain⟨i,J,d⟩:=I.look;exact W.get_value X J (W.plainGet_of f).1 (W.findObj_own e g rfl (by rw[d,c])) b h
def MD{b:Sem Bool}{Q:Value×Lw->Shared->Prop} (X:K.In s.heap) (I:GP s.heap x dx C mA) (a:W.plainGet K C name=true)
  (i:W.findIn K (.ref C) name=Y (Y (.ref f))) (e:W.isFn K (.ref f)=true) (d:mA name=Z) (h:Q (.ref f,[.ref x]) s):
  wpAny (model prog w) A (getMethod (.ref x) name b) Q E s:=by
 obtain⟨c,J,g⟩:=I.look;exact W.method_fn X J (W.plainGet_of a).1 (W.plainGet_of a).2 i (bY.mp e) (by show (W.lookIn name c).map (·.isSome)=Y false;rw[g,d];rfl) h
def Pt{j:Lr}{Q:Unit->Shared->Prop} (X:K.In s.heap) (I:GP s.heap x dx C mA)
  (n:W.findIn K (.ref C) "__setattr__"=Y (Y (.builtin "object.__setattr__"))) (o:W.plainOver K C=true) (l:W.takerIn K C name=Y Z) (p:W.hasDictIn K C=true)
  (hw:PySem.Within mA j) (m:j.length<=sizeLine)
  (h:∀h',GP h' x dx C (λy=>if y=name then Y v else mA y)->Heap.SameBut dx s.heap h'->Q () { s with heap:=h',toks:=s.toks+2 }):
  wpAny (model prog w) A (setAttr (.ref x) name v) Q E s:=by
 obtain⟨z,J,D⟩:=I.look;refine W.set_plain X J n (W.osa_open (s:={ s with toks:=s.toks+1 }) (r:=Z) X J o l λb=>?_);obtain⟨F,q,g⟩:=W.any_some p;have k:s.heap.get? x=Y ⟨.ref C,Y dx,.plain,#[]⟩:=I.obj;refine ab (ak (ab (ab (wpAny_loadPart k (ab (W.Looks.here (s:={ s with toks:=s.toks+1 }) (W.looks_clsIn X q) ?_))))));rw[g];refine ak (a:=Y dx) (ab (ak (ab ?_)));refine wpAny_nsSet1 (s:={ s with toks:=s.toks+1 }) I.ns λh' d c=>?_;obtain⟨B,t,u,e,f,i⟩:=d.count (PySem.Within.cons name v hw);refine ab (wpAny_lookBehind e (by rw[f];exact pastItsLine_dict (bj i (by rw[aV];omega))) ?_);exact ak (h _ ⟨(c.2 _ (Ne.symm I.ne)).trans I.obj,d,I.ne⟩ c)
def ME{a:Lw}{b:List (Str×Value)} (X:K.In s.heap) (c:W.makesIn K C=true)
  (e:W.findIn K (.ref C) "__init__"=Y (Y (.ref f))) (i:W.typeIn K (.ref f)=Y (.type "function"))
  (h:codeAny (model prog w) (A.under (.builtin "type.__call__" ⟨.ref C::a,b⟩)) (.call (.ref f) ⟨.ref ((zB s)+1)::a,b⟩) (W.InitBack ((zB s)+1) R)
   { s with heap:=(s.heap.push W.emptyDict).push (W.instObj C (zB s)) }):
  codeAny (model prog w) A (.call (.ref C) ⟨a,b⟩) R s:=by
 obtain⟨k,g,d,t,j⟩:=s;exact W.make_core (W.makes_of X c) (W.looks_findIn X e) (λself=>W.bind_fn X self i) (.inl rfl) h
end
noncomputable def lO(f:Str)(v:V):List (Str×V)->List (Str×V)
 |[]=>[(f,v)]
 | (g,x)::r=>if g=f then (g,v)::r else (g,x)::lO f v r
theorem wg(f g:Str)(v:V):∀c:List (Str×V),(lO f v c).lookup g=if g=f then Y v else c.lookup g
 |[]=>by
  show List.lookup g [(f,v)]=_;by_cases h:g=f
  ·have a:(g==f)=true:=bY.mpr h;simp only[List.lookup,a,ag h]
  ·have a:(g==f)=false:=aZ.mpr h;simp only[List.lookup,a,ai h]
 | (k,x)::r=>by
  have d:=wg f g v r;rw[show lO f v ((k,x)::r)=(if k=f then (k,v)::r else (k,x)::lO f v r) from rfl];by_cases b:k=f
  ·rw[ag b];by_cases h:g=k
   ·have a:(g==k)=true:=bY.mpr h;simp only[List.lookup,a,ag (h.trans b)]
   ·have a:(g==k)=false:=aZ.mpr h;simp only[List.lookup,a,ai (λe:g=f=>h (e.trans b.symm))]
  ·rw[ai b];by_cases h:g=k
   ·have a:(g==k)=true:=bY.mpr h;simp only[List.lookup,a,ai (λe:g=f=>b (h.symm.trans e))]
   ·have a:(g==k)=false:=aZ.mpr h;simp only[List.lookup,a];exact d
theorem vg(f:Str)(v:V):∀b:List (Str×V),f∈(lO f v b).map (·.1)/\∀g,g∈b.map (·.1)->g∈(lO f v b).map (·.1)
 |[]=>⟨by simp[lO],λg h=>by simp at h⟩
 | (k,x)::r=>by
  obtain⟨d,c⟩:=vg f v r;rw[show lO f v ((k,x)::r)=(if k=f then (k,v)::r else (k,x)::lO f v r) from rfl];by_cases a:k=f
  ·rw[ag a];subst a;exact⟨by simp,λg h=>by simpa using h⟩
  ·rw[ai a];refine⟨?_,λg h=>?_⟩
   ·rw[aB];exact ar _ d
   ·rw[aB] at h ⊢;rcases av.mp h with e|e
    ·exact av.mpr (.inl e)
    ·exact ar _ (c g e)
theorem wh(f:Str)(v:V):∀b:List (Str×V),(lO f v b).length<=b.length+1
 |[]=>by simp[lO]
 | (k,x)::r=>by
  have c:=wh f v r;rw[show lO f v ((k,x)::r)=(if k=f then (k,v)::r else (k,x)::lO f v r) from rfl];by_cases a:k=f
  ·rw[ag a,aV,aV];omega
  ·rw[ai a,aV,aV];omega
def oU.some_of{o:Ow}(r:oU (Y v) o):∃u,o=Y u/\fT v u:=by
 cases o with
 |none=>exact(show False from r).elim
 |some u=>exact⟨u,rfl,r⟩
def oU.none_of{o:Ow}(r:oU Z o):o=Z:=by
 cases o with
 |none=>rfl
 |some u=>exact(show False from r).elim
def Kq{u:Value}(r:fT v u):W.handedIn u=true:=by
 cases v with
 |lb=>cases (show u=Value.none from r);rfl
 |bl b=>cases (show u=Value.bool b from r);rfl
 |int i=>obtain⟨t,e⟩:=(show ∃t,u=Value.int i t from r);cases e;rfl
 |str x=>obtain⟨t,e⟩:=(show ∃t,u=Value.str x t from r);cases e;rfl
 |Ud b=>obtain⟨t,e⟩:=(show ∃t,u=Value.bytes b t from r);cases e;rfl
 |W2 b=>obtain⟨t,e⟩:=(show ∃t,u=Value.float b t from r);cases e;rfl
 |ref a=>cases (show u=Value.ref a from r);rfl
 |ty n=>cases (show u=Value.type n from r);rfl
section
variable {P:Program}{H':Hp}{h':Heap}{C dx:Addr}{fs fs':List (Str×V)}
def Cq(c:sf P w H h)(e:H a=Y (.ins C dx fs)):∃b,GP h a dx C b/\(∀f,oU (fs.lookup f) (b f))/\PySem.Within b (fs.map (·.1))/\fs.length<=1000/\H dx=Y (.own a):=by
 obtain⟨d,z,i,g,b,n,r,q⟩:=(show iK P w H h a (.ins C dx fs) from c a _ e)
 exact⟨b,⟨g,n,i⟩,r,q,z,d⟩
end
structure GQ (K:Fg) (C:Addr):Prop where
 pg:W.plainGet K C Str.empty=true
 hd:W.hasDictIn K C=true
 po:W.plainOver K C=true
 sa:W.findIn K (.ref C) "__setattr__"=Y (Y (.builtin "object.__setattr__"))
def GQ.get{C:Addr}(c:GQ K C)(f:Str):W.plainGet K C f=true:=c.pg
def ql(K:Fg)(C:Addr)(f:Str):Prop:=W.findIn K (.ref C) f=Y Z
def ql.UZ{C:Addr}{f:Str}(n:ql K C f):W.takerIn K C f=Y Z:=by unfold W.takerIn;rw[show W.findIn K (.ref C) f=Y Z from n];rfl
structure GR (K:Fg) (C:Addr) (m:Str) (f:Addr):Prop where
 at_:W.findIn K (.ref C) m=Y (Y (.ref f))
 fn:W.isFn K (.ref f)=true
 kp:W.keepIn K (.ref f)=true
section
variable {C dx:Addr}{fs:List (Str×V)}{f:Str}
def yr{b:Bool}{Q:Px} (I:eX X pins σ H s) (e:H a=Y (.ins C dx fs)) (c:GQ X.K C) (n:ql X.K C f) (l:fs.lookup f=Y v)
  (h:∀u s',eX X pins σ H s'->fT v u->Q u s'):wpAny (model X.prog X.w) A (getAttr (.ref a) f b) Q E s:=by
 obtain⟨g,O,r,_,_,_⟩:=Cq I.ij e;obtain⟨u,i,d⟩:=oU.some_of (v:=v) (o:=g f) (by rw[<-l];exact r f);exact Pr I.xR O (c.get f) c.hd n i (Kq d) (h u _ (I.tok _) d)
def yt{m:Str}{g:Addr}{pl:Sem Bool}{Q:Value×Lw->Shared->Prop} (I:eX X pins σ H s) (e:H a=Y (.ins C dx fs)) (c:GQ X.K C) (k:GR X.K C m g) (l:fs.lookup m=Z)
  (h:Q (.ref g,[.ref a]) s):wpAny (model X.prog X.w) A (getMethod (.ref a) m pl) Q E s:=by
 obtain⟨b,O,r,_,_,_⟩:=Cq I.ij e;have d:b m=Z:=oU.none_of (by rw[<-l];exact r m);exact MD I.xR O (c.get m) k.at_ k.fn d h
def yu{y:V}{u:Value}{Q:Unit->Shared->Prop} (I:eX X pins σ H s) (e:H a=Y (.ins C dx fs)) (c:GQ X.K C) (n:ql X.K C f) (G:fs.length<1000) (m:fT y u)
  (h:∀s',eX X pins σ (upd H a (.ins C dx (lO f y fs))) s'->Q () s'):wpAny (model X.prog X.w) A (setAttr (.ref a) f u) Q E s:=by
 obtain⟨j,O,r,i,_,k⟩:=Cq I.ij e;have p:(fs.map (·.1)).length<=sizeLine:=by rw[aF,sizeLine_eq];omega
 refine Pt I.xR O c.sa c.po n.UZ c.hd i p λD d l=>h _ ?_;have v:∃o,D.get? dx=Y o:=by obtain⟨o,_,_,F,_⟩:=d.ns;exact⟨o,F⟩
 refine I.write (x:=a) (e:=dx) (by rw[e];exact aP) (.inr k) (λb q B z=>(l.2 b B).trans z) v ?_;refine⟨by rw[eM O.ne];exact k,?_,O.ne,d.obj,_,d.ns,λg=>?_,λg t=>?_⟩
 ·have:=wh f y fs;omega
 ·show oU ((lO f y fs).lookup g) (if g=f then Y u else j g);rw[wg];by_cases q:g=f
  ·rw[ag q,ag q];exact m
  ·rw[ai q,ai q];exact r g
 ·by_cases q:g=f
  ·rw[q];exact(vg f y fs).1
  ·refine(vg f y fs).2 g (i g λz=>t ?_);show (if g=f then Y u else j g)=Z;rw[ai q];exact z
def eX.made(I:eX X pins σ H s):eX X pins σ (upd (upd H (zB s) (.own ((zB s)+1))) ((zB s)+1) (.ins C (zB s) []))
  { s with heap:=(s.heap.push W.emptyDict).push (W.instObj C (zB s)) }:=by
 have d:(s.heap.push W.emptyDict).get? (zB s)=Y W.emptyDict:=aA s.heap rfl;have h:((s.heap.push W.emptyDict).push (W.instObj C (zB s))).get? ((zB s)+1)=Y (W.instObj C (zB s)):=by have:=aA (s.heap.push W.emptyDict) (o:=W.instObj C (zB s)) rfl;rwa[cy] at this
 have g:(s.heap.push W.emptyDict).Ns (zB s) (λ_=>Z):=⟨W.emptyDict,#[],_,d,rfl,(λe he=>absurd he (by simp)),λ_=>rfl⟩
 have i:=I.laid (a:=(zB s)) (o:=.own ((zB s)+1)) (h':=s.heap.push W.emptyDict) (t':=s.toks) (λb u q=>aj _ q) (ax _) ⟨_,d⟩;refine i.laid (a:=(zB s)+1) (o:=.ins C (zB s) []) (t':=s.toks) (λb u q=>aj _ q) (Nat.le_of_eq (cy _ _)) ?_;have c:(zB s)≠(zB s)+1:=aG (cO _);refine⟨by rw[eM c,eS],bH _,c,h,λ_=>Z,(Heap.Ns1.of_empty g).at λo q=>aj _ q,λ_=>aP,λy f=>absurd rfl f⟩
def Pu{a:Env}{Q:Px} (b:attributeBase e f a (eval e a)=eval e a)
  (h:wpAny (model prog w) A (eval e a) (λo s₁=>wpAny (model prog w) A (getAttr o f true) Q E s₁) E s):wpAny (model prog w) A (eval (.Attribute e f pos) a) Q E s :=
 Attribute_any_ h (by rw[arm_eval_Attribute,b])
end
def XR(K:Fg)(d:TE)(f:Str):TE:=λσ H Q=>d σ H λx c=>∃a C e b v,x=.ref a/\c a=Y (.ins C e b)/\GQ K C/\ql K C f/\b.lookup f=Y v/\Q v c
def XS(K:Fg)(g e:TE)(f:Str):TS:=λD σ H=>e σ H λy h=>g σ h λx d=>∃a C c b,x=.ref a/\d a=Y (.ins C c b)/\GQ K C/\ql K C f/\b.length<1000 /\
 D.nx σ (upd d a (.ins C c (lO f y b)))
def XT(X:Cx)(c:Operator)(b:V->V->Hp->VK->Prop):Prop :=
 ∀(a:Ax) (s:Shared) (σ:St) (H:Hp) (x y:V) (u v:Value) (Q:VK),eX X a σ H s->fT x u->fT y v->b x y H Q->(zw X) (inplaceOp c u v) (EP X a σ Q) X.xe s
def Pw(K:Fg)(i h:TE)(j:V->V->Hp->VK->Prop)(f:Str):TS:=λD σ H=>i σ H λx g=>∃a C k d v,x=.ref a/\g a=Y (.ins C k d)/\GQ K C/\ql K C f/\d.lookup f=Y v /\
 h σ g λy l=>j v y l λz e=>∃c b,e a=Y (.ins C c b)/\b.length<1000/\D.nx σ (upd e a (.ins C c (lO f z b)))
section
variable {o value:Expr}{f:Str}{pos' U0:Pos}{ta tv:TE}
def Cr(i:PE X e ta)(j:attributeBase e f X.env (eval e X.env)=eval e X.env):PE X (.Attribute e f pos) (XR X.K ta f):=by intro b s σ H Q I h;refine Pu j (gO (@i b s σ H _ I h) ?_);rintro u y ⟨x,r,p,d,a,C,A,z,v,k,m,c,n,l,q⟩;subst k;obtain rfl:u=Value.ref a:=d;exact yr p m c n l λt w o g=>⟨v,r,o,g,q⟩
def GS(p:PE X o ta)(k:PE X value tv)(m:swapsWith value (Y (.Attribute o f pos')) pos.line X.env=pure false):PS X (.Assign [.Attribute o f pos'] value pos) (XS X.K ta tv f):=by intro b s σ H D I h;refine plainObj_wpAny_Assign_Attribute (gO (@k b s σ H _ I h) ?_) m;rintro u d ⟨y,A,z,e,q⟩;refine gO (@p b d σ A _ z q) ?_;rintro j E ⟨x,J,w,g,a,C,G,F,r,t,c,n,l,i⟩;subst r;obtain rfl:j=Value.ref a:=g;exact yu w t c n l e λB v=>⟨σ,_,v,i⟩
def Kr{i:Operator}{g:V->V->Hp->VK->Prop}(J:PE X o ta)(G:PE X value tv)(d:XT X i g):PS X (.AugAssign (.Attribute o f U0) i value pos) (Pw X.K ta tv g f):=by intro b s σ H D I h;refine wpAny_AugAssign_AttributeAny (gO (@J b s σ H _ I h) ?_);rintro E s1 ⟨x,W,T,t,a,C,dx,fs,v,M,N,c,n,l,q⟩;subst M;obtain rfl:E=Value.ref a:=t;refine yr T N c n l λu m S w=>gO (@G b m σ W _ S q) ?_;rintro j k ⟨y,U,R,r,B⟩;refine gO (@d b k σ U v y u j _ R w r B) ?_;rintro w4 s4 ⟨z,H3,Q,p,O,L,e,F,A⟩;exact yu Q e c n F p λs5 P=>⟨σ,_,P,A⟩
end
section
variable {Q:Px}{c:Value}{b:Bool}
end
structure iz (k:Nat) (A:Around):Prop where
 hd:A.handled=Z
 dp:A.depth+3*k+5<recursionLimit
 un:A.units+16*k+200<cLine
def iz.mono{k:Nat}(r:iz k A)(h:j<=k):iz j A:=⟨r.hd,by have:=r.dp;omega,by have:=r.un;omega⟩
theorem iz.deeper{k:Nat}{A:Around}(r:iz (k+1) A)(a:Env):iz k (A.deeper a) :=
 ⟨r.hd,by have:=r.dp;show A.depth+1+3*k+5<_;omega,by have:=r.un;show A.units+3+16*k+200<_;omega⟩
def GU{C:Addr}{a:Lw}{b:List (Str×Value)}:(A.under (.builtin "type.__call__" ⟨.ref C::a,b⟩)).depth=A.depth+1:=by
 first|rfl|simp[Around.under,Code.weight,Code.isCreation,Code.isGuard,Code.isCaller,Code.frames,Code.isFrame,guardIds]
def GV{C:Addr}{a:Lw}{b:List (Str×Value)}:(A.under (.builtin "type.__call__" ⟨.ref C::a,b⟩)).units=A.units+1:=by
 first|rfl|simp[Around.under,Code.cUnits,Code.frames,Code.isFrame]
def iz.make{k:Nat}(r:iz (k+1) A)(C:Addr)(a:Lw)(b:List (Str×Value)):iz k (A.under (.builtin "type.__call__" ⟨.ref C::a,b⟩)) :=
 ⟨r.hd,by have:=r.dp;rw[GU];omega,by have:=r.un;rw[GV];omega⟩
theorem iz.depth{k:Nat}{A:Around}(r:iz k A):A.depth<recursionLimit:=by have:=r.dp;omega
theorem iz.units{k:Nat}{A:Around}(r:iz k A):A.units+64<cLine:=by have:=r.un;omega
def Sn:TA:=λ_ H Q=>Q [] H
def U1(c:TE)(b:TA):TA:=λσ H Q=>c σ H λx e=>b σ e λa d=>Q (x::a) d
section
variable {te:TE}{t:TA}
def qm:PA X [] Sn:=λ_ _ _ _ H Q I h=>bu ⟨[],H,I,.nil,h⟩
def mX(m:PE X e te)(l:PA X es t)(k:zE e es X:=by rfl):PA X (e::es) (U1 te t):=by intro b a s σ H Q I h;rw[k];show wpAny _ _ (spliced ((false,eval e X.env)::backTo b (starEach es X.env))) _ _ s;refine aT (gO (@m a s σ H _ I h) ?_);rintro u d ⟨x,q,o,g,j⟩;exact gO (@l b a d σ q _ o j) <| by rintro r v ⟨c,p,n,f,i⟩;exact⟨x::c,p,n,.cons g f,i⟩
def XU(t:TA):TE:=λσ H Q=>t σ H λa b=>a.length<=sizeLine/\∀p,b p=Z->Q (.ref p) (upd b p (.tup a))
def XW(t:TA):TE:=λσ H Q=>t σ H λa b=>a.length<=sizeLine/\∀p,b p=Z->Q (.ref p) (upd b p (.lst a))
def MG{x1}(h:PA X es t):PE X (.Tuple es x1 pos) (XU t):=by intro a s σ H Q I j;refine wpAny_Tuple_spliced (gO (@h pos a s σ H _ I j) ?_);rintro i c ⟨g,f,d,r,z,q⟩;refine⟨by rw[<-r.length];exact z,?_⟩;have k:f (zB c)=Z:=d.ij.fresh (ax _);refine⟨.ref (zB c),upd f (zB c) (.tup g),d.laid (t':=c.toks) (λb u e=>aj _ e) (ax _) ?_,rfl,q _ k⟩;exact⟨z,i,r,⟨_,aA _ rfl,rfl,_,rfl⟩⟩
def GW(h:PA X es t):PE X (.List es pos) (XW t):=by intro a s σ H Q I j;refine wpAny_List_spliced (gO (@h pos a s σ H _ I j) ?_);rintro i c ⟨g,f,d,r,z,q⟩;refine⟨by rw[<-r.length];exact z,?_⟩;have k:f (zB c)=Z:=d.ij.fresh (ax _);refine⟨.ref (zB c),upd f (zB c) (.lst g),d.laid (t':=c.toks) (λb u e=>aj _ e) (ax _) ?_,rfl,q _ k⟩;exact⟨z,i,0,r,aA _ rfl⟩
end
abbrev Sp:=List V->Hp->VK->XK->Prop
abbrev MI:=List Env->Hp->Shared->XK->Value->Shared->Prop
structure GX (P:Program) (w:World) (K:Fg) (mg:Str->Ow) (base:Heap) (A:Around) (outer:List Env) (s:Shared) (H:Hp):Prop where
 frames:A.frames=Y outer
 mod:Mod K mg base
 bs:∀b o,base.get? b=Y o->s.heap.get? b=Y o/\H b=Z
 Rg:base.objs.size<=(zB s)
 si:s.heap.FunFrames base outer
 Ml:∀b∈Eg outer,H b=Z
 ij:sf P w H s.heap
 bare:AllBare s.gens
def CE(a:List Env)(P:Program)(w:World)(H:Hp)(s:Shared)(Q:VK)(u:Value)(b:Shared):Prop :=
 ∃v c,b.os=s.os/\AllBare b.gens/\Un (Eg a) [] H c s.heap b.heap/\sf P w c b.heap/\fT v u/\Q v c
def CR(c:MI)(a:List Env)(P:Program)(w:World)(H:Hp)(s:Shared)(Q:VK)(E:XK)(r:Result)(b:Shared):Prop :=
 match r with
 |.ok (.ret u)=>CE a P w H s Q u b
 |.ok _=>False
 |.error e=>c a H s E e b
structure kR (P:Program) (w:World) (K:Fg) (mg:Str->Ow) (base:Heap) (CX:MI) (k:Nat) (f:Addr) (fd:FuncData) (ps:Lr) (sp:Sp):Prop where
 len:∀vs H Q E,sp vs H Q E->vs.length=ps.length
 run:∀(A:Around) (outer:List Env) (s:Shared) (H:Hp) (args:Args) (us:Lw) (vs:List V) (Q:VK) (E:XK),iz k A->GX P w K mg base A outer s H->BindsTo s fd args (ps.zip us)->fO vs us->sp vs H Q E ->
  codeAny (model P w) A (.call (.ref f) args) (CR CX outer P w H s Q E) s
theorem kR.mono{P:Program}{w:World}{K:Fg}{g:Str->Ow}{a:Heap}{l:MI}{j k:Nat}{f:Addr}{i:FuncData}{e:Lr}{d:Sp}(F:kR P w K g a l j f i e d)(h:j<=k):
  kR P w K g a l k f i e d:=⟨F.len,λA b s H c m vs Q E n=>F.run A b s H c m vs Q E (n.mono h)⟩
def GX.make{P:Program}{b:Heap}{a:List Env}(e:GX P w K mg b A a s H)(C:Addr)(c:Lw)(d:List (Str×Value)):
  GX P w K mg b (A.under (.builtin "type.__call__" ⟨.ref C::c,d⟩)) a s H:=⟨by first|exact e.frames|(simpa [Around.under,Code.envs,Code.isFrame,pushEnvs] using e.frames),e.mod,e.bs,e.Rg,e.si,e.Ml,e.ij,e.bare⟩
section
variable {s':Shared}
def eX.U2(I:eX X pins σ H s):GX X.prog X.w X.K X.mg X.base X.A X.stack s H :=
 ⟨I.ok.frames,I.ok.mod,I.bs,bj I.ok.Rg I.sz,I.stack,I.IS,I.ij,I.bare⟩
def eX.after{Q:VK}{u:Value}(I:eX X pins σ H s)(h:CE X.stack X.prog X.w H s Q u s'):EP X pins σ Q u s':=by obtain⟨v,k,i,a,f,e,r,q⟩:=h;obtain⟨j,g,d,t,c⟩:=s';obtain rfl:c=s.os:=i;exact⟨v,k,I.call (h':=j) (g':=g) (d':=d) (t':=t) (ch:=[]) f e a (λb z=>absurd z (by simp)),r,q⟩
end
def U3(c:Sp)(a:List V)(E:XK)(t:TA):TE:=λσ H Q=>t σ H λb d=>c (b++a) d Q E
def Rk(C:Addr)(m:Str)(f:Sp)(b:List V)(E:XK)(e:TE)(t:TA):TE:=λσ H Q=>e σ H λx d=>∃a g c,x=.ref a/\d a=Y (.ins C g c)/\c.lookup m=Z /\
 t σ d λvs h=>f (x::(vs++b)) h Q E
def Rl(C:Addr)(e:Sp)(b:List V)(E:XK)(t:TA):TE:=λσ H Q=>t σ H λd c=>∀x a,c x=Z->c a=Z->a≠x ->
 e (.ref x::(d++b)) (upd (upd c a (.own x)) x (.ins C a [])) (λv f=>v=.lb/\Q (.ref x) f) E
def kr(K:Fg)(c:FuncData)(a:Lr)(b:Lw):Prop :=
 ∀(s:Shared) (us:Lw),K.In s.heap->(us++b).length=a.length->BindsTo s c ⟨us,[]⟩ (a.zip (us++b))
def kr.all{a:Lr}(h:∀us:Lw,us.length=a.length->bindArgs fd ⟨us,[]⟩=pure (a.zip us)):kr K fd a []:=λs us _ b=>by rw[aR] at b ⊢;exact .of_eq (h us b)
def qo(c:MI)(X:Cx)(E:XK):Prop:=∀(a:Ax) (σ:St) (H:Hp) (s:Shared) (e:Value) (b:Shared),eX X a σ H s->c X.stack H s E e b->X.xe e b
section
variable {CX:MI}{k:Nat}{f C:Addr}{ps:Lr}{sp:Sp}{Ep:List V}{ds:Lw}{E:XK}{m:Str}{o:Expr}{ta:TE}{t:TA}
theorem yw{Q:VK}{us:Lw} (F:kR X.prog X.w X.K X.mg X.base CX k f fd ps sp) (g:iz k X.A) (l:kr X.K fd ps ds) (j:fO Ep ds) (d:qo CX X E)
  (I:eX X pins σ H s) (r:fO vs us) (h:sp (vs++Ep) H Q E):(zw X) (call (.ref f) us) (EP X pins σ Q) X.xe s:=by
 have b:fO (vs++Ep) (us++ds):=r.append j;have i:(us++ds).length=ps.length:=by rw[<-b.length];exact F.len _ _ _ _ h
 refine wpAny_call (c9 (F.run X.A X.stack s H ⟨us,[]⟩ (us++ds) (vs++Ep) Q E g I.U2 (l s us I.xR i) b h) λr c a=>?_);cases r with
 |error e=>exact d pins σ H s e c I a
 |ok m=>
  cases m with
  |ret u=>exact I.after a
  |next=>exact False.elim a
  |brk=>exact False.elim a
  |cont=>exact False.elim a
def xT(F:kR X.prog X.w X.K X.mg X.base CX k f fd ps sp) (i:iz k X.A) (m:Gl X x) (j:X.mg x=Y (.ref f)) (l:W.keepIn X.K (.ref f)=true) (u:kr X.K fd ps ds) (o:fO Ep ds) (g:qo CX X E)
  (v:PA X (e::es) t) (c:zg x:=by decide) (n:zE e es X:=by rfl) (b:(backTo pos (starEach es X.env)).any (·.1)=false:=by rfl):
  PE X (.Call (.Name x p) (e::es) [] pos) (U3 sp Ep E t):=by
 intro a s σ H Q I h;refine aX (oe I m j ?_ c);refine W.callWith_K (h₀:=X.base) I.ok.mod.R3 l (gO (@v pos a s σ H _ I h) ?_) n b;rintro z B ⟨y,C,d,r,q⟩;refine⟨d.xR,?_⟩;exact yw F i u o g d r q
def Cs{pl:Sem Bool} (G:PE X o ta) (c:GQ X.K C) (i:GR X.K C m f) (F:kR X.prog X.w X.K X.mg X.base CX k f fd ps sp) (D:iz k X.A) (L:kr X.K fd ps ds) (J:fO Ep ds) (z:qo CX X E) (M:PA X (e::es) t)
  (d:zE e es X:=by rfl) (g:(backTo pos (starEach es X.env)).any (·.1)=false:=by rfl)
  (B:eval (.Call (.Attribute o m apos) (e::es) [] pos) X.env=(do
   let ov <-eval o X.env
   standAt apos.atName
   let (f,first) <-holding [ov] (getMethod ov m pl)
   callWith pos f first (backTo pos (starEach (e::es) X.env)) (backToKw pos (keywordEach [] X.env))):=by rfl):
  PE X (.Call (.Attribute o m apos) (e::es) [] pos) (Rk C m sp Ep E ta t):=by
 intro b s σ H Q I h;refine W.methodCall_KW (pl:=pl) (gO (@G b s σ H _ I h) ?_) B;rintro u p ⟨x,P,n,v,a,T,S,N,O,l,q⟩;subst N;obtain rfl:u=Value.ref a:=v;refine yt n O c i l ?_;refine W.callWith_K (first:=[.ref a]) (h₀:=X.base) I.ok.mod.R3 i.kp (gO (@M pos b p σ P _ n q) ?_) d g;rintro us R ⟨vs,U,j,r,y⟩;refine⟨j.xR,?_⟩;exact yw (us:=.ref a::us) (vs:=.ref a::vs) F D L J z j (.cons rfl r) y
def Er{pl:Sem Bool} (p:PE X o ta) (c:GQ X.K C) (e:GR X.K C m f) (F:kR X.prog X.w X.K X.mg X.base CX k f fd ps sp) (n:iz k X.A) (t:kr X.K fd ps ds) (r:fO Ep ds) (i:qo CX X E)
  (j:eval (.Call (.Attribute o m apos) [] [] pos) X.env=(do
   let ov <-eval o X.env
   standAt apos.atName
   let (f,first) <-holding [ov] (getMethod ov m pl)
   callWith pos f first (backTo pos (starEach [] X.env)) (backToKw pos (keywordEach [] X.env))):=by rfl):
  PE X (.Call (.Attribute o m apos) [] [] pos) (Rk C m sp Ep E ta Sn):=by
 intro b s σ H Q I h;refine W.methodCall_KW (pl:=pl) (gO (@p b s σ H _ I h) ?_) j;rintro u z ⟨x,G,d,g,a,D,B,v,y,l,q⟩;subst v;obtain rfl:u=Value.ref a:=g;refine yt d y c e l ?_;exact W.callWith_K0 (first:=[.ref a]) d.xR e.kp (yw (us:=[.ref a]) (vs:=[.ref a]) F n t r i d (.cons rfl .nil) q)
structure Mk (K:Fg) (C f:Addr):Prop where
 makes:W.makesIn K C=true
 init:W.findIn K (.ref C) "__init__"=Y (Y (.ref f))
 fn:W.isFn K (.ref f)=true
 kp:W.keepIn K (.ref C)=true
theorem Es{Q:VK}{us:Lw} (M:Mk X.K C f) (F:kR X.prog X.w X.K X.mg X.base CX k f fd ps sp) (m:iz (k+1) X.A) (p:kr X.K fd ps ds) (o:fO Ep ds)
  (l:qo CX X E) (I:eX X pins σ H s) (r:fO vs us)
  (h:∀x dx,H x=Z->H dx=Z->dx≠x->sp (.ref x::(vs++Ep)) (upd (upd H dx (.own x)) x (.ins C dx [])) (λv H2=>v=.lb/\Q (.ref x) H2) E):
  (zw X) (call (.ref C) us) (EP X pins σ Q) X.xe s:=by
 have d:=h ((zB s)+1) (zB s) (I.ij.fresh (dQ _)) (I.ij.fresh (ax _)) (aG (cO _));have b:=eX.made (C:=C) I;have c:fO (V.ref ((zB s)+1)::(vs++Ep)) (Value.ref ((zB s)+1)::(us++ds)):=.cons rfl (r.append o);have n:(Value.ref ((zB s)+1)::us++ds).length=ps.length:=by have e:=c.length;rw[F.len _ _ _ _ d] at e;exact e.symm
 refine wpAny_call (ME (f:=f) I.xR M.makes M.init (bY.mp M.fn) (c9 (F.run _ X.stack _ _ ⟨Value.ref ((zB s)+1)::us,[]⟩ (Value.ref ((zB s)+1)::(us++ds)) _ _ E (m.make C us [])
  (b.U2.make C us []) (p _ (Value.ref ((zB s)+1)::us) b.xR n) c d) λr g a=>?_))
 cases r with
 |error e=>exact l pins σ _ _ e g b a
 |ok q=>
  cases q with
  |ret u=>obtain⟨v,z,y,i,t,j⟩:=b.after a;subst t;exact⟨i,⟨V.ref ((zB s)+1),z,y,rfl,j⟩⟩
  |next=>exact False.elim a
  |brk=>exact False.elim a
  |cont=>exact False.elim a
def Ct(M:Mk X.K C f) (F:kR X.prog X.w X.K X.mg X.base CX k f fd ps sp) (i:iz (k+1) X.A) (l:Gl X x) (j:X.mg x=Y (.ref C)) (o:kr X.K fd ps ds) (n:fO Ep ds) (g:qo CX X E)
  (u:PA X (e::es) t) (c:zg x:=by decide) (m:zE e es X:=by rfl) (b:(backTo pos (starEach es X.env)).any (·.1)=false:=by rfl):
  PE X (.Call (.Name x p) (e::es) [] pos) (Rl C sp Ep E t):=by
 intro a s σ H Q I h;refine aX (oe I l j ?_ c);refine W.callWith_K (h₀:=X.base) I.ok.mod.R3 M.kp (gO (@u pos a s σ H _ I h) ?_) m b;rintro y z ⟨v,B,d,r,q⟩;refine⟨d.xR,?_⟩;exact Es M F i o n g d r q
def MJ(M:Mk X.K C f) (F:kR X.prog X.w X.K X.mg X.base CX k f fd ps sp) (d:iz (k+1) X.A) (g:Gl X x) (e:X.mg x=Y (.ref C)) (j:kr X.K fd ps ds) (i:fO Ep ds) (c:qo CX X E)
  (a:zg x:=by decide):PE X (.Call (.Name x p) [] [] pos) (Rl C sp Ep E Sn):=by
 intro b s σ H Q I h;refine aX (oe I g e ?_ a);exact W.callWith_K0 I.xR M.kp (Es (us:=[]) M F d j i c I .nil h)
end
section
variable {CX:MI}{k:Nat}{f C:Addr}{ps ks:Lr}{sp:Sp}{E:XK}{m:Str}{aab:Pos}{o:Expr}{kws:List Keyword}{te ta:TE}{t tk:TA}{nm:Option Str}
variable {g:Lw->Lw->Lw}{gV:List V->List V->List V}
end
structure il (N P:Lr) (sc:Scope):Prop where
 kind:sc.kind=.function
 co:sc.isCoroutine=false
 gen:sc.isGenerator=false
 nd:N.Nodup
 pre:N.take P.length=P
 par:∀x∈P,sc.names.lookup x=Y .local\/sc.names.lookup x=Y .cell
 So:∀y∈sc.names,y.2≠.free
theorem Bf{b:Str->Option NameKind}{x:Str}:∀{a:List (Str×Value)}{m:Str->Ow},(∀v,(x,v)∉a)->bindL b a m x=m x
 |[],_,_=>rfl
 | (n,v)::r,m,h=>by
  unfold bindL;rw[Bf λw hw=>h w (ar _ hw)];split
  ·have:x≠n:=by rintro rfl;exact h v cb
   simp[this]
  ·rfl
theorem Bg{b:Str->Option NameKind}{x:Str}:∀{a:List (Str×Value)}{m:Str->Ow},(∀v,(x,v)∉a)->bindC b a m x=m x
 |[],_,_=>rfl
 | (n,v)::r,m,h=>by
  unfold bindC;rw[Bg λw hw=>h w (ar _ hw)];split
  ·rfl
  ·have:x≠n:=by rintro rfl;exact h v cb
   simp[this]
theorem Bh{a:Str->Option NameKind}{x:Str}{v:Value}:∀{P:Lr}{b:Lw}{i:Nat}{m:Str->Ow},P.Nodup->P[i]?=Y x->b[i]?=Y v->a x=Y .local ->
  bindL a (P.zip b) m x=Y v
 |[],_,_,_,_,h,_,_=>by simp at h
 |_::_,[],_,_,_,_,h,_=>by simp at h
 |p::P,w::b,0,m,nd,h1,h2,hk=>by simp at h1 h2;subst h1;subst h2;show bindL a ((p,w)::P.zip b) m p=_;unfold bindL;rw[Bf λv c=>(br.mp nd).1 (cX c).1,ag hk];simp
 |p::P,w::b,i+1,m,nd,h1,h2,hk=>by show bindL a ((p,w)::P.zip b) m x=_;unfold bindL;exact Bh (i:=i) (br.mp nd).2 (by simpa using h1) (by simpa using h2) hk
theorem Bi{a:Str->Option NameKind}{x:Str}{v:Value}:∀{P:Lr}{b:Lw}{i:Nat}{m:Str->Ow},P.Nodup->P[i]?=Y x->b[i]?=Y v->a x≠Y .local ->
  bindC a (P.zip b) m x=Y v
 |[],_,_,_,_,h,_,_=>by simp at h
 |_::_,[],_,_,_,_,h,_=>by simp at h
 |p::P,w::b,0,m,nd,h1,h2,hk=>by simp at h1 h2;subst h1;subst h2;show bindC a ((p,w)::P.zip b) m p=_;unfold bindC;rw[Bg λv c=>(br.mp nd).1 (cX c).1,ai hk];simp
 |p::P,w::b,i+1,m,nd,h1,h2,hk=>by show bindC a ((p,w)::P.zip b) m x=_;unfold bindC;exact Bi (i:=i) (br.mp nd).2 (by simpa using h1) (by simpa using h2) hk
def lg(N:Lr)(vs:List V):St:=vs.map Y++List.replicate (N.length - vs.length) Z
noncomputable def vh(j:MI)(P:Program)(w:World)(K:Fg)(i:Str->Ow)(d:Heap)(N:Lr)(c:Str)(a:Scope)(f:Addr)(h:Value)(A:Around)(b:List Env)(s:Shared)(H:Hp)(E:XK):Cx where
 prog:=P
 w:=w
 K:=K
 mg:=i
 base:=d
 A:=A.deeper (envOfC c a (zB s) f h)
 N:=N
 s₀:=s
 H₀:=H
 env:=envOfC c a (zB s) f h
 outer:=b
 stack:=envOfC c a (zB s) f h::b
 ex:=[]
 calm:=true
 fn:=λ_=>true
 pn:=[]
 xe:=λe k=>wpAny (model P w) (A.deeper (envOfC c a (zB s) f h)) (leaving (envOfC c a (zB s) f h) e) (λ_ g=>j b H s E e g) (λl g=>j b H s E l g) k
def Et{a:Scope}{n:Nat}(h:a.names.lookup x=Y .cell):∃c,(cellsFrom n a.names []).lookup x=Y c:=by have q:=W.cellsFrom_some a.names n [] (.inl h);exact Option.isSome_iff_exists.mp q
def Ks{Q:MI}{P:Program}{l:Heap}{N o:Lr}{g:Str}{f:Addr}{I:Value}{d:List Env}{L:Shared}{E:XK}{J:Lw}
  (S:il N o scope) (U:A.handled=Z) (m:GX P w K mg l A d s H) (X:vs.length=o.length) (r:fO vs J)
  (x:InCallC s (zB s) (bindL (envOfC g scope (zB s) f I).kindOf (o.zip J) λ_=>Z) (cellsFrom ((zB s)+1) scope.names []) (bindC (envOfC g scope (zB s) f I).kindOf (o.zip J) λ_=>Z) L):
  eX (vh Q P w K mg l N g scope f I A d s H E) [] (lg N vs) H L:=by
 have T:o.length<=N.length:=by have:=bx List.length S.pre;rw[dW] at this;omega
 obtain⟨G,W,rfl,O⟩:=x.done;have t:∀b:Addr,b∉(vh Q P w K mg l N g scope f I A d s H E).ex:=λb z=>absurd (show b∈([]:List Addr) from z) (by simp);refine⟨⟨m.mod,S.kind,rfl,rfl,ax _,λy z c G j=>?_,λy B=>?_,λy c _ h=>?_,λ_=>U,Around.frames_deeper m.frames,.inr ⟨rfl,rfl⟩,λb z=>absurd z (t b),m.bs,m.Rg,λb _ _=>t b,λb z=>absurd z (t b),m.si,m.Ml⟩,
  rfl,m.bare,Un.kept O,⟨_,x.toInCall.ns,λi y v G j h3=>?_⟩,λy c h=>⟨_,x.cell y c h⟩,m.ij.fresh (ax _),λy c h=>?_,λp D=>absurd (show p∈([]:Ax) from D) (by simp),m.ij.kept O,?_⟩
 ·exact name_of_addr x.apart (bE G) (bE j)
 ·have B:scope.names.lookup y=Y .cell\/scope.names.lookup y=Y .free:=B;rcases B with B|B
  ·exact Et B
  ·exact absurd rfl (S.So _ (bE B))
 ·exact cM (x.above y c (bE h))
 ·have F:i<vs.length:=by
   unfold lg at j;by_cases F:i<vs.length
   ·exact F
   ·rw[aI (by simpa using F)] at j;rw[bB] at j;split at j<;>cases j
  have V:vs[i]?=Y v:=by
   unfold lg at j;rw[aE (by simpa using F),az] at j;cases e:vs[i]? with
   |none=>rw[e] at j;cases j
   |some a=>rw[e] at j;cases j;rfl
  obtain⟨u,M,R⟩:=r.get V;have D:o[i]?=Y y:=by rw[<-S.pre,List.getElem?_take_of_lt (by omega)];exact G
  have C:o.Nodup:=by rw[<-S.pre];exact S.nd.sublist (List.take_sublist _ _)
  refine⟨u,R,?_⟩;rcases S.par y (cK D) with k|k
  ·exact .inl ⟨k,Bh C D M k⟩
  ·obtain⟨c,e⟩:=Et (n:=(zB s)+1) k;refine .inr ⟨.inl k,c,e,?_⟩;have q:=x.cell y c e;rw[Bi C D M (by show scope.names.lookup y≠_;rw[k];decide)] at q;exact q
 ·exact m.ij.fresh (cM (x.above y c (bE h)))
 ·unfold lg;show _=N.length;rw[aQ,aF,List.length_replicate];omega
def U4{F:MI}{P:Program}{g:Heap}{k:Nat}{f:Addr}{h a:Str}{d:Arguments}{dV kV C X c ct oc:Value}{an od:Option Addr}
  {M:Array Ow}{N D:Lr}{G:Sp} (lk:K.lookup f=Y ⟨oc,od,.func (W.fnOf h a d body scope dV kV C X an c ct),M⟩) (T:W.codeIn K c a=true) (S:il N D scope)
  (m:∀vs H Q E,G vs H Q E->vs.length=D.length)
  (j:∀(A:Around) (outer:List Env) (s:Shared) (H:Hp) (vs:List V) (Q:VK) (E:XK),iz k (A.deeper (envOfC a scope (zB s) f c))->G vs H Q E ->
   ∃t,we (vh F P w K mg g N a scope f c A outer s H E) body t/\t { nx:=λ_ H'=>Q .lb H',rt:=Q } (lg N vs) H):
  kR P w K mg g F (k+1) f (W.fnOf h a d body scope dV kV C X an c ct) D G:=by
 refine⟨m,λA outer s H args us vs Q E R B hb r p=>?_⟩;have hl:=m _ _ _ _ p;have KX:K.In s.heap:=B.mod.R3.keeps λb o e=>(B.bs b o e).1;have O:s.heap.NoLimit:=B.mod.nolimit.keeps λb o e=>(B.bs b o e).1;have i:∀y∈D.zip us,scope.names.lookup y.1=Y .local\/(scope.names.lookup y.1=Y .cell/\((cellsFrom ((zB s)+1) scope.names []).lookup y.1).isSome=true):=by
  rintro⟨n,v⟩ hy;rcases S.par n (cX hy).1 with q|q
  ·exact .inl q
  ·exact .inr ⟨q,W.cellsFrom_some _ _ _ (.inl q)⟩
 refine codeAny_call_function R.depth (KX _ _ lk) rfl S.co S.gen rfl (W.codeRec_of KX T) (hb _ _ _ _ ?_);refine wpAny_newFunctionEnv_cells S.kind i λenv he U x=>?_;subst he;refine⟨O.keeps x.toInCall.keep,codeAny_func ?_⟩;obtain⟨t,ht,hq⟩:=j A outer s H vs Q E (R.deeper _) p;have I:eX (vh F P w K mg g N a scope f c A outer s H E) [] (lg N vs) H U:=Ks S R.hd B hl r x;refine bK (@ht [] U (lg N vs) H _ I hq) (λfl L l=>?_) λe L l=>l;have z:∀{σ':St}{H':Hp}{v:V}{u:Value},eX (vh F P w K mg g N a scope f c A outer s H E) [] σ' H' L->fT v u->Q v H'->CE outer P w H s Q u L :=
  λ{σ' H' v u} J rv q=>⟨v,H',J.os,J.bare,J.base,J.ij,rv,q⟩
 cases fl with
 |ret u=>obtain⟨v,σ',H',J,rv,q⟩:=l;exact z J rv q
 |next=>obtain⟨σ',H',J,q⟩:=l;exact z (v:=V.lb) (u:=Value.none) J rfl q
 |brk=>obtain⟨_,_,_,q⟩:=l;exact False.elim q
 |cont=>obtain⟨_,_,_,q⟩:=l;exact False.elim q
section
variable {t:TA}{id T:String}{r:List V->Hp->VK->Prop}
def XX(r:List V->Hp->VK->Prop)(t:TA):TE:=λσ H Q=>t σ H λa b=>r a b Q
def Eu(q:jc X (.builtin id) r) (n:Gl X x) (m:X.mg x=Z) (k:bootBuiltins x=Y (.builtin id)) (u:PA X (e::es) t) (l:x≠"__name__":=by decide) (c:zg x:=by decide)
  (o:zE e es X:=by rfl) (b:(backTo pos (starEach es X.env)).any (·.1)=false:=by rfl):PE X (.Call (.Name x p) (e::es) [] pos) (XX r t):=by
 intro a s σ H Q I h;refine aX (nv I n m k ?_ l c);exact cz (gO (@u pos a s σ H _ I h) <| by rintro f g ⟨d,w,v,i,j⟩;exact @q a g σ w d f Q v i j) o b
def vi(q:jc X (.type T) r) (n:Gl X x) (m:X.mg x=Z) (k:bootBuiltins x=Y (.type T)) (u:PA X (e::es) t) (l:x≠"__name__":=by decide) (c:zg x:=by decide)
  (o:zE e es X:=by rfl) (b:(backTo pos (starEach es X.env)).any (·.1)=false:=by rfl):PE X (.Call (.Name x p) (e::es) [] pos) (XX r t):=by
 intro a s σ H Q I h;refine aX (nv I n m k ?_ l c);exact bf (gO (@u pos a s σ H _ I h) <| by rintro f g ⟨d,w,v,i,j⟩;exact @q a g σ w d f Q v i j) o b
end
end L2
namespace HT
open PySem PyProof.Rows
section
open PySem.SeqAt
open PySem.AutoSeq1 (wpAny_loadPart')
open PySem.MeetsSeq PySem.MeetsSeq2 PySem.MeetsSeq3
end
section
def Py{t b:Addr}{d a:Lw}{Q:Px} (x:IsTup s.heap t d.toArray) (y:IsTup s.heap b a.toArray) (p:d≠[])
  (B:a=[]->Q (.ref t) s) (z:a≠[]->Q (.ref (zB s)) { s with heap:=s.heap.push { cls:=.type "tuple",data:=.seq (d++a).toArray } })
  (k:d.length+a.length<=sizeLine):wpAny (model prog w) A (binaryOp .Add (.ref t) (.ref b)) Q E s:=by
 obtain⟨⟨cls,u,data,m⟩,j,r,n,q⟩:=id x;obtain⟨⟨v,i,l,f⟩,c,h,o,g⟩:=id y;simp only at r q h g;subst r q h g;have e:d.toArray++a.toArray=(d++a).toArray:=by simp
 by_cases hw:a=[]
 ·exact d4 ⟨_,j,rfl⟩ ⟨_,c,rfl⟩ dX seq_tuple_add de cZ (cS _ _)
   (tuple_addW1 t b d.toArray a.toArray n o u i m f (by simpa using p) (by simp[hw])) ⟨j,c,B hw⟩
 ·refine d4 ⟨_,j,rfl⟩ ⟨_,c,rfl⟩ dX seq_tuple_add de cZ (cS _ _)
   (tuple_addW2 t b d.toArray a.toArray n o u i m f (by simpa using p) (by simpa using hw) (by rw[aw,aw];exact k)) ⟨j,c,?_⟩
  rw[e];exact z hw
noncomputable def kq(n d:Nat):Option Int->Nat
 |none=>d
 |some v=>if v<0 then (v+(n:Int)).toNat else min v.toNat n
def Sr(n d:Nat)(b:d<=n)(o:Option Int):kq n d o<=n:=by
 cases o with
 |none=>exact b
 |some v=>
  show (if v<0 then (v+(n:Int)).toNat else min v.toNat n)<=n;by_cases a:v<0
  ·rw[ag a];omega
  ·rw[ai a];exact dY _ _
def I0(v:Int)(n d:Nat):(if v<0 then max (v+(n:Int)) 0 else min v (n:Int))=((kq n d (Y v):Nat):Int):=by
 show (if v<0 then max (v+(n:Int)) 0 else min v (n:Int))=(((if v<0 then (v+(n:Int)).toNat else min v.toNat n):Nat):Int)
 by_cases a:v<0
 ·simp only[ag a];omega
 ·simp only[ai a];omega
def GY(a b:Option Int)(n:Nat):Builtin.Slice.sliceAdjust a b 1 (n:Int)=(((kq n 0 a:Nat):Int),((kq n n b:Nat):Int)):=by
 have c:¬ ((1:Int)<0):=by omega
 unfold Builtin.Slice.sliceAdjust;simp only[c,cT];refine Prod.ext ?_ ?_
 ·cases a with
  |none=>rfl
  |some v=>exact I0 v n 0
 ·cases b with
  |none=>rfl
  |some v=>exact I0 v n n
def GZ(i j:Nat):Builtin.Slice.slicePlaces (i:Int) (j:Int) 1=j - i:=by
 unfold Builtin.Slice.slicePlaces;have a:(1:Int) > 0:=by omega
 simp only[a,cx,Int.ediv_one];split<;>omega
def yx{v:Value}{o:Option Int}{Q:Option Int->Shared->Prop}(p:IsPart v o)(h:Q o s):wpAny (model prog w) A (Builtin.Slice.slicePartIndex v) Q E s:=by
 cases p with
 |none=>exact slicePart_none h
 |int i t=>exact slicePart_int h
def oV{g:Addr}{f e:Value}{a c:Option Int}{n:Nat}{Q:Int×Int×Nat->Shared->Prop} (k:s.heap.IsSliceOf g f e .none) (j:IsPart f a) (i:IsPart e c)
  (h:Q (((kq n 0 a:Nat):Int),1,kq n n c - kq n 0 a) s):wpAny (model prog w) A (Builtin.Slice.sliceApplied (.ref g) (pure (n:Int))) Q E s:=by
 obtain⟨m,b,l,d⟩:=id k;unfold Builtin.Slice.sliceApplied Builtin.Slice.sliceFields;refine ab (ab (cB b d (x:=f) rfl (ab (cB b d (x:=e) rfl (ab (cB b d (x:=.none) rfl (ak ?_)))))));refine ab (slicePart_none ?_);show wpAny _ _ (if ((1:Int)==0)=true then _ else _) _ _ s;rw[ai (by decide)];refine ab (yx j (ab (yx i (ab (ak ?_)))));show wpAny _ _ (match Builtin.Slice.sliceAdjust a c 1 (n:Int) with|(a,c)=>pure (a,(1:Int),Builtin.Slice.slicePlaces a c 1)) _ _ s;rw[GY a c n];show wpAny _ _ (pure (((kq n 0 a:Nat):Int),(1:Int),Builtin.Slice.slicePlaces ((kq n 0 a:Nat):Int) ((kq n n c:Nat):Int) 1)) _ _ s;rw[GZ];exact ak h
def MK(a:Array Value)(i k:Nat):((List.range k).filterMap λ(m:Nat)=>a[((i:Int)+(m:Int)*1).toNat]?).toArray=((a.toList.drop i).take k).toArray:=by
 have e:(λ(m:Nat)=>a[((i:Int)+(m:Int)*1).toNat]?)=λm=>a[i+m]?:=by
  funext m
  have:((i:Int)+(m:Int)*1).toNat=i+m:=by omega
  rw[this]
 rw[e];have:=pick_run a i k;rw[List.filterMap_map] at this;have b:((λx=>a[x]?)∘λx=>i+x)=λm=>a[i+m]?:=rfl;rw[b] at this;rw[this]
def tG{t f:Addr}{a:Array Value}{n l:Value}{c d:Option Int}{Q:Px} (e:IsTup s.heap t a) (o:s.heap.IsSliceOf f n l .none) (r:IsPart n c) (p:IsPart l d)
  (hw:¬ (kq a.size 0 c=0/\kq a.size a.size d=a.size))
  (h:Q (.ref (zB s)) { s with heap:=s.heap.push { cls:=.type "tuple",data:=.seq ((a.toList.drop (kq a.size 0 c)).take (kq a.size a.size d - kq a.size 0 c)).toArray } })
  (v:a.size<=sizeLine):wpAny (model prog w) A (getItem (.ref t) (.ref f)) Q E s:=by
 have b:sizeOk (.seq ((a.toList.drop (kq a.size 0 c)).take (kq a.size a.size d - kq a.size 0 c)).toArray):=by show ((a.toList.drop (kq a.size 0 c)).take (kq a.size a.size d - kq a.size 0 c)).toArray.size<=sizeLine;rw[aw,dW,List.length_drop,cw];omega
 have B:kq a.size a.size d<=a.size:=Sr _ _ (ax _) d;obtain⟨u,g,j,x⟩:=id o;have k:s.TypeIs (.ref f) "slice":=⟨u,g,j⟩
 unfold getItem
 try with_reducible refine bp ?_
 first|refine ab (ak ?_)|skip
 refine ab (wpAny_sequenceKey e.typeIs (by decide) ?_);refine ab (cA (name:=zZ "__getitem__") e.typeIs bw
  (cP bw e.typeIs entry_tuple_getitem ?_ (args_tuple_getitem _ _)))
 show wpAny _ _ (Builtin.Tuple.tupleItemsOf (.ref t)>>=_) _ _ s;refine ab (tupleItemsOf_ e ?_);refine ab (ck k ?_);rw[ag (by decide)];refine ab (oV o r p ?_);have i:¬ ((((kq a.size 0 c:Nat):Int)==0&&(1:Int)==1&&(kq a.size a.size d - kq a.size 0 c)==a.size)=true):=by intro q;rw[bR,bR] at q;have z:((kq a.size 0 c:Nat):Int)=0:=eq_of_beq q.1.1;have y:kq a.size a.size d - kq a.size 0 c=a.size:=eq_of_beq q.2;exact hw ⟨by omega,by omega⟩
 show wpAny _ _ (if (((kq a.size 0 c:Nat):Int)==0&&(1:Int)==1&&(kq a.size a.size d - kq a.size 0 c)==a.size)=true then _ else _) _ _ s;rw[ai i,MK]
 first
  |exact ab (m:=Builtin.Tuple.tupleExact _) (cG (ak ⟨_,rfl,ak h⟩) b)
  |exact ab (m:=Builtin.Tuple.tupleExact _) (cG (ab (ak (ak ⟨_,rfl,ak h⟩))) b)
  |exact ab (ab (m:=Builtin.Tuple.tupleExact _) (cG (ak (ak ⟨_,rfl,ak h⟩)) b))
  |exact ab (ab (m:=Builtin.Tuple.tupleExact _) (cG (ak ⟨_,rfl,ak h⟩) b))
end
end HT
namespace L2
open PySem PySem.Spec PyProof.Rows
abbrev TO:=St->Hp->(Option Int->Hp->Prop)->Prop
def PO(X:Cx)(e:Option Expr)(t:TO):Prop :=
 ∀⦃a:Ax⦄ (s:Shared) (σ:St) (H:Hp) (Q:Option Int->Hp->Prop),eX X a σ H s->t σ H Q ->
  (zw X) (evalPart e X.env) (λu c=>∃o b,eX X a σ b c/\IsPart u o/\Q o b) X.xe s
def Pz:TO:=λ_ H Q=>Q Z H
def U5(t:TE):TO:=λσ H Q=>t σ H λx a=>∃i,x=.int i/\Q (Y i) a
section
variable {te:TE}{lo hi:Option Expr}{tl th:TO}{p2:Pos}
def PC:PO X Z Pz:=by intro a s σ H Q I h;rw[evalPart_none];exact ak ⟨Z,H,I,.none,h⟩
def PH(h:PE X e te):PO X (Y e) (U5 te):=by intro a s σ H Q I hw;rw[evalPart_some];refine gO (@h a s σ H _ I hw) ?_;rintro u g ⟨x,f,d,b,c⟩;obtain⟨i,rfl,q⟩:=c;obtain⟨t,rfl⟩:=b;exact⟨Y i,f,d,.int i t,q⟩
def I7(X:Cx)(r:V->Option Int->Option Int->Hp->VK->Prop):Prop :=
 ∀(a:Ax) (s:Shared) (σ:St) (H:Hp) (x:V) (v c b:Value) (lo hi:Option Int) (sl:Addr) (Q:VK),eX X a σ H s->fT x v->s.heap.IsSliceOf sl c b .none->IsPart c lo->IsPart b hi->r x lo hi H Q ->
  ∃T d,typeLookup (.type T) "__getitem__"=pure (Y (.builtin d))/\s.TypeIs v T/\(zw X) (getItem v (.ref sl)) (EP X a σ Q) X.xe s
def I7.or{r f:V->Option Int->Option Int->Hp->VK->Prop}(h:I7 X r)(k:I7 X f):I7 X (λx lo hi H Q=>r x lo hi H Q\/f x lo hi H Q):=by
 intro a s σ H x v c b lo hi d Q I e j i g q;rcases q with q|q
 ·exact @h a s σ H x v c b lo hi d Q I e j i g q
 ·exact @k a s σ H x v c b lo hi d Q I e j i g q
def tSl(r:V->Option Int->Option Int->Hp->VK->Prop)(c:TE)(a b:TO):TE:=λσ H Q=>c σ H λx f=>a σ f λl e=>b σ e λu d=>r x l u d Q
theorem Ew{r:V->Option Int->Option Int->Hp->VK->Prop}(z:I7 X r)(C:PE X e te)(A:PO X lo tl)(w:PO X hi th):PE X (.Subscript e (.Slice lo hi Z p2) pos) (tSl r te tl th):=by intro a s σ H Q I h;refine Subscript_ (gO (@C a s σ H _ I h) ?_);rintro v j ⟨x,L,J,k,o⟩;refine wpAny_Slice (gO (@A a j σ L _ J o) ?_);rintro f i ⟨l,K,G,t,n⟩;refine gO (@w a i σ K _ G n) ?_;rintro d c ⟨u,g,F,p,m⟩;rw[evalPart_none];refine ak ?_;have E:eX X a σ g { c with heap:=c.heap.push { cls:=.type "slice",data:=.fields #[f,d,.none] } }:=F.kept (t':=c.toks) λb M q=>aj _ q;obtain⟨T,N,D,y,B⟩:=z a { c with heap:=c.heap.push { cls:=.type "slice",data:=.fields #[f,d,.none] } } σ g x v f d l u (zB c) Q E k (Heap.IsSliceOf.new ..) t p m;show (zw X) (subscriptTail e (.Slice lo hi Z p2) v (.ref (zB c))) (EP X a σ Q) X.xe { c with heap:=c.heap.push { cls:=.type "slice",data:=.fields #[f,d,.none] } };exact tail_any (ops:=[.ref (zB c),v]) y D B (by with_unfolding_all rfl)
def Ex(a:List V)(b c:Option Int):List V:=(a.drop (HT.kq a.length 0 b)).take (HT.kq a.length a.length c - HT.kq a.length 0 b)
def wj(a:List V)(b c:Option Int):(Ex a b c).length<=a.length:=by unfold Ex;rw[dW,List.length_drop];omega
def XY(K:Fg):V->Option Int->Option Int->Hp->VK->Prop:=λx c d H Q=>∃a b,x=.ref a/\pW K H a b /\
 ¬ (HT.kq b.length 0 c=0/\HT.kq b.length b.length d=b.length)/\∀p,H p=Z->Q (.ref p) (upd H p (.tup (Ex b c d)))
def Ss:I7 X (XY X.K):=by
 intro i s σ H x v w u e g y Q I l t n m h;obtain⟨a,d,rfl,p,hw,q⟩:=h;cases l;obtain⟨f,r,k,j⟩:=I.tuple p;have c:f.toArray.size=d.length:=by rw[aw];exact r.length.symm
 refine⟨"tuple",_,bw.lookup,k.typeIs,?_⟩;refine HT.tG k t n m (by rw[c];exact hw) ?_ (by rw[c];exact j);rw[c];refine⟨.ref (zB s),_,I.laid (t':=s.toks) (o:=.tup (Ex d e g)) (λb z q=>aj _ q) (ax _) ?_,rfl,q _ (I.ij.fresh (ax _))⟩;exact⟨bj (wj d e g) j,_,(r.drop (HT.kq d.length 0 e)).take (HT.kq d.length d.length g - HT.kq d.length 0 e),IsTup.new _ _⟩
def U6(K:Fg):R2:=λx y H Q=>∃a b d c,x=.ref a/\y=.ref b/\pW K H a d/\pW K H b c/\d≠[]/\d.length+c.length<=sizeLine /\
 (c=[]->Q (.ref a) H)/\(c≠[]->∀p,H p=Z->Q (.ref p) (upd H p (.tup (d++c))))
def fO.eP{a:List V}{b:Lw}(r:fO a b):b=[]↔a=[]:=by
 cases r with
 |nil=>simp
 |cons _ _=>simp
def PK:ko X (binaryOp .Add) (U6 X.K):=by intro e s σ H x y v u Q I l k h;obtain⟨a,b,j,i,rfl,rfl,C,B,A,g,n,m⟩:=h;cases l;cases k;obtain⟨t,d,r,_⟩:=I.tuple C;obtain⟨f,c,p,_⟩:=I.tuple B;refine HT.Py r p (λz=>A (d.eP.mp z)) (λz=>⟨.ref a,H,I,rfl,n (c.eP.mp z)⟩) (λz=>?_) (by rw[<-d.length,<-c.length];exact g);refine⟨.ref (zB s),_,I.laid (t':=s.toks) (o:=.tup (j++i)) (λb D q=>aj _ q) (ax _) ?_,rfl,m (λw=>z (c.eP.mpr w)) _ (I.ij.fresh (ax _))⟩;exact⟨by rw[aQ];exact g,_,d.append c,IsTup.new _ _⟩
end
noncomputable def Ey(n:Nat)(i:Int):Option Nat:=if 0<=i then (if i<n then Y i.toNat else Z) else if -(n:Int)<=i then Y (i+n).toNat else Z
def rj(a:List α)(i:Int):Option α:=(Ey a.length i).bind λj=>a[j]?
def Ja{n:Nat}{i:Int}(h:Ey n i=Y j):seqIndex? i n=Y j/\j<n/\-(n:Int)<=i/\i<n:=by
 unfold Ey at h;by_cases b:0<=i
 ·rw[ag b] at h;by_cases a:i<n
  ·rw[ag a] at h;have e:i.toNat=j:=bq h;exact⟨by rw[seqIndex_of b a,e],by omega,by omega,a⟩
  ·rw[ai a] at h;cases h
 ·rw[ai b] at h;by_cases a:-(n:Int)<=i
  ·rw[ag a] at h;have e:(i+n).toNat=j:=bq h;exact⟨by rw[seqIndex_neg (by omega) a,e],by omega,a,by omega⟩
  ·rw[ai a] at h;cases h
def Cu{a:List α}{i:Int}{v:α}(h:rj a i=Y v):∃j,seqIndex? i a.length=Y j/\a[j]?=Y v/\j<a.length/\-(a.length:Int)<=i/\i<a.length:=by
 unfold rj at h;cases e:Ey a.length i with
 |none=>rw[e] at h;cases h
 |some j=>rw[e] at h;obtain⟨f,d,c,b⟩:=Ja e;exact⟨j,f,h,d,c,b⟩
def Cv{a:List α}{v:α}(h:a[j]?=Y v):rj a (j:Int)=Y v:=by
 have b:j<a.length:=(au.mp h).1;have e:Ey a.length (j:Int)=Y j:=by unfold Ey;rw[ag (by omega),ag (by omega)];simp
 unfold rj;rw[e];exact h
def Ez(a:List α)(v:α):rj (a++[v]) (-1)=Y v:=by
 have b:(a++[v]).length=a.length+1:=by simp
 have e:Ey (a++[v]).length (-1)=Y a.length:=by
  unfold Ey;rw[b,ai (by decide),ag (by omega)]
  congr 1
  omega
 unfold rj;rw[e];show (a++[v])[a.length]?=Y v;simp
def tH(b:Expr):Prop:=∀o i,subscripted b false o i=operate [o,i] (getItem o i)
def Jb(X:Cx)(r:R2):Prop :=
 ∀(b a:Expr) (pins:Ax) (s:Shared) (σ:St) (H:Hp) (x y:V) (v u:Value) (Q:VK),eX X pins σ H s->fT x v->fT y u->r x y H Q ->
  subscripted a false v u=operate [v,u] (getItem v u)->(zw X) (subscriptTail b a v u) (EP X pins σ Q) X.xe s
def PL(X:Cx)(b:String)(r:V->List V->Hp->VK->Prop):Prop :=
 ∀(a:Ax) (s:Shared) (σ:St) (H:Hp) (x:V) (xs:List V) (v:Value) (us:Lw) (Q:VK),eX X a σ H s->fT x v->fO xs us->r x xs H Q ->
  (zw X) (call (.builtin b) (v::us)) (EP X a σ Q) X.xe s
section
variable {a:Expr}{ta tb:TE}
def Jb.or{r f:R2}(h:Jb X r)(i:Jb X f):Jb X (λx y H Q=>r x y H Q\/f x y H Q):=by
 intro a b c s σ H x y v u Q I e d q g;rcases q with q|q
 ·exact h a b c s σ H x y v u Q I e d q g
 ·exact i a b c s σ H x y v u Q I e d q g
def ML{r:R2}(g:Jb X r)(j:PE X a ta)(i:PE X b tb)(f:tH b):PE X (.Subscript a b pos) (Uh r ta tb):=by intro c s σ H Q I h;exact Subscript_ (Sd j i I h λv u s2 x y l k e d q=>g a b c s2 σ l x y v u Q k e d q (f _ _))
def U7(K:Fg):R2:=λx y H Q=>∃p a i v,x=.ref p/\y=.int i/\j0 K H p a/\rj a i=Y v/\Q v H
def U8(K:Fg):R2:=λx y H Q=>∃p a i v,x=.ref p/\y=.int i/\pW K H p a/\rj a i=Y v/\Q v H
def U9:R2:=λx y H Q=>∃z i c,x=.str z/\y=.int i/\z.length<=sizeLine/\rj z.cps.toList i=Y c/\Q (.str ⟨#[c]⟩) H
def Jc:Jb X (U7 X.K):=by
 intro d e a s σ H x y v u Q I C B h m;obtain⟨p,M,i,z,rfl,rfl,D,F,q⟩:=h;cases C;obtain⟨t,rfl⟩:=B;obtain⟨k,r,g,N⟩:=I.list D;obtain⟨j,c,L,P,J,G⟩:=Cu F;obtain⟨w,o,f⟩:=r.get L;have E:=r.length;have O:=sj;have b:EP X a σ Q w s:=⟨z,H,I,f,q⟩
 by_cases n:0<=i
 ·have l:i.toNat=j:=by
   rw[seqIndex_of n G] at c;exact bq c
  exact item_listR g.isList n (by omega) (by rw[l];simpa using o) b m
 ·have l:(i+(k.toArray.size:Int)).toNat=j:=by
   rw[seqIndex_neg (by omega) J] at c;rw[aw,<-E];exact bq c
  exact subscriptTail_builtinR (x:=w) g.isList.typeIs slot_list_getitem.lookup
   (wpAny_getItem_list_neg (Q:=λr A=>r=w/\EP X a σ Q r A) g.isList (by omega) (by rw[aw]<;>omega) (by omega) (by rw[l];simpa using o) ⟨rfl,b⟩) m
def MM:Jb X (U8 X.K):=by
 intro b c a s σ H x y v u Q I l k h n;obtain⟨p,F,i,z,rfl,rfl,o,B,q⟩:=h;cases l;obtain⟨t,rfl⟩:=k;obtain⟨m,r,f,G⟩:=I.tuple o;obtain⟨j,D,C,N,M,L⟩:=Cu B;obtain⟨w,E,d⟩:=r.get C;have A:=r.length;have J:=sj;have e:EP X a σ Q w s:=⟨z,H,I,d,q⟩
 exact subscriptTail_builtinR (x:=w) f.typeIs slot_tuple_getitem.lookup
  (getItem_tuple (j:=j) (Q:=λr g=>r=w/\EP X a σ Q r g) f (by omega) (by omega) (by rw[aw,<-A];exact D) (by simpa using E) ⟨rfl,e⟩) n
def Su:Jb X U9:=by
 intro a b d s σ H x y v u Q I g f h k;obtain⟨z,i,c,rfl,rfl,B,m,q⟩:=h;obtain⟨t,rfl⟩:=g;obtain⟨A,rfl⟩:=f;obtain⟨j,e,p,D,o,n⟩:=Cu m;have l:z.cps.toList.length=z.length:=by simp[Str.length]
 rw[l] at e o n;have C:=sj;exact tail_any (dN s z t) slot_str_getitem.lookup (getItem_str (c:=c) (by have w:decide (i < -(2 ^ 63:Int))=false:=ba (by omega);have r:decide (i >= 2 ^ 63)=false:=ba (by omega);rw[w,r,et]) (by rw[e];simpa using p) ⟨.str ⟨#[c]⟩,H,I.tok _,⟨_,rfl⟩,q⟩) k
def rIx(K:Fg):R2:=λx y H Q=>U7 K x y H Q\/U8 K x y H Q\/U9 x y H Q
def Sv:Jb X (rIx X.K):=Jc.or (MM.or Su)
def G3(a:Lw)(n j:Nat)(u:Value):Obj.mapSeq (·.setIfInBounds j u) (zl a.toArray n)={ cls:=.type "list",data:=.seq (a.set j u).toArray n }:=by simp[Obj.mapSeq]
theorem eX.lst{a:Ax}{σ:St}{H:Hp}{s:Shared}{p:Addr}{b:List V}(I:eX X a σ H s)(h:H p=Y (.lst b)):
  ∃(its:Lw) (n:Nat),fO b its/\s.heap.get? p=Y (zl its.toArray n)/\b.length<=sizeLine:=by
 obtain⟨z,its,n,r,e⟩:=I.ij p _ h;exact⟨its,n,r,e,z⟩
def eX.Sw{p:Addr}{j d:List V}{c a:Lw}{n g:Nat}{f:Obj->Obj} (I:eX X pins σ H s) (h:H p=Y (.lst j))
  (l:s.heap.get? p=Y (zl c.toArray n)) (i:f (zl c.toArray n)=(zl a.toArray g)) (r:fO d a) (k:d.length<=sizeLine) (t:Nat):
  eX X pins σ (upd H p (.lst d)) { s with heap:=s.heap.update p f,toks:=t }:=by
 have e:(s.heap.update p f).get? p=Y (zl a.toArray g):=by rw[bA f l (by rw[i]<;>rfl),i]
 refine I.write (x:=p) (e:=p) (by rw[h];trivial) (.inl rfl) (λb u m q=>(bg _ _ (Ne.symm m)).trans q) ⟨_,e⟩ ?_;exact⟨k,a,g,r,e⟩
def Va:V->V->V->Hp->(Hp->Prop)->Prop:=λo i v H Q=>∃p a k j,o=.ref p/\i=.int k/\H p=Y (.lst a)/\Ey a.length k=Y j/\Q (upd H p (.lst (a.set j v)))
def EA:Cg X Va:=by
 intro a s σ H o i v E F u Q I A B z h;obtain⟨p,y,k,j,rfl,rfl,g,D,q⟩:=h;cases A;obtain⟨t,rfl⟩:=B;obtain⟨b,n,r,d,C⟩:=I.lst g;obtain⟨c,J,m,l⟩:=Ja D;have e:=r.length;have G:=sj;have x:eX X a σ (upd H p (.lst (y.set j v))) { s with heap:=s.heap.update p (Obj.mapSeq (·.setIfInBounds j u)) } :=
  I.Sw g d (G3 b n j u) (r.set z j) (by rw[dB];exact C) s.toks
 by_cases w:0<=k
 ·have f:k.toNat=j:=by
   rw[seqIndex_of w l] at c;exact bq c
  exact W.ki_setAt d w (by omega) (by rw[aw,<-e];exact l) (by rw[f];exact⟨_,x,q⟩)
 ·have f:(k+(b.toArray.size:Int)).toNat=j:=by
   rw[seqIndex_neg (by omega) m] at c;rw[aw,<-e];exact bq c
  exact W.ki_setBack d (by omega) (by rw[aw,<-e];exact m) (by omega) (by rw[f];exact⟨_,x,q⟩)
def Cw(a b:Option Int)(n:Nat):(sliceBounds a b Z n).1=((HT.kq n 0 a:Nat):Int)/\(sliceBounds a b Z n).2.1=((HT.kq n n b:Nat):Int)/\(sliceBounds a b Z n).2.2=1:=by
 refine⟨?_,?_,rfl⟩
 ·cases a with
  |none=>simp[sliceBounds,HT.kq]
  |some i=>
   simp only[sliceBounds,HT.kq,Option.getD_none,show (1:Int) > 0 by decide,cx];by_cases h:i<0
   ·simp only[h,cx]<;>omega
   ·simp only[h,cT]<;>omega
 ·cases b with
  |none=>simp[sliceBounds,HT.kq]
  |some i=>
   simp only[sliceBounds,HT.kq,Option.getD_none,show (1:Int) > 0 by decide,cx];by_cases h:i<0
   ·simp only[h,cx]<;>omega
   ·simp only[h,cT]<;>omega
def Am(a:Lw)(b c:Option Int):slicePick a.toArray b c Z=((a.drop (HT.kq a.length 0 b)).take (HT.kq a.length a.length c - HT.kq a.length 0 b)).toArray:=by obtain⟨f,e,d⟩:=Cw b c a.toArray.size;unfold slicePick;rw[f,e,d];simp only[sliceRange_one,pick_run,aw]<;>rfl
def XZ(K:Fg):V->Option Int->Option Int->Hp->VK->Prop:=λx c d H Q=>∃a b,x=.ref a/\j0 K H a b/\∀p,H p=Z->Q (.ref p) (upd H p (.lst (Ex b c d)))
def Jd:I7 X (XZ X.K):=by intro g s σ H x v w u e f y Q I j t l k h;obtain⟨a,c,rfl,p,q⟩:=h;cases j;obtain⟨m,r,i,n⟩:=I.list p;have d:=r.length;refine⟨"list",_,slot_list_getitem.lookup,i.isList.typeIs,?_⟩;refine wpAny_getItem_list_slice i.isList t l k .none (by simp) ?_ (by rw[aw]<;>omega);rw[Am,<-d];refine⟨.ref (zB s),_,I.laid (t':=s.toks) (o:=.lst (Ex c e f)) (λb z q=>aj _ q) (ax _) ?_,rfl,q _ (I.ij.fresh (ax _))⟩;exact⟨bj (wj c e f) n,_,0,(r.drop (HT.kq c.length 0 e)).take (HT.kq c.length c.length f - HT.kq c.length 0 e),aA _ rfl⟩
def Cy:jc X (.builtin "len") (λxs H Q=>∃p b,xs=[.ref p]/\(j0 X.K H p b\/pW X.K H p b)/\Q (.int b.length) H):=by
 intro g s σ H xs k Q I r h;obtain⟨p,b,rfl,c,q⟩:=h;obtain⟨u,rfl,i⟩:=tF r;cases i;have l:=sj;rcases c with c|c
 ·obtain⟨f,d,e,j⟩:=I.list c;have a:=d.length;exact Calls.call_len_list e.isList (by simp only[aw]<;>omega) ⟨.int b.length,H,I.tok _,⟨s.toks+1,by rw[aw,a]⟩,q⟩
 ·obtain⟨f,d,e,j⟩:=I.tuple c;have a:=d.length;exact len_tuple e (by simp only[aw]<;>omega) ⟨.int b.length,H,I.tok _,⟨s.toks+1,by rw[aw,a]⟩,q⟩
def Cz:jc X (.builtin "len") (λxs H Q=>∃z,xs=[.str z]/\z.length<=sizeLine/\Q (.int z.length) H):=by intro a s σ H xs b Q I r h;obtain⟨z,rfl,c,q⟩:=h;obtain⟨u,rfl,t,rfl⟩:=tF r;have d:=sj;exact len_str (by omega) ⟨.int z.length,H,I.tok _,⟨_,rfl⟩,q⟩
def jc.or{f:Value}{r d:List V->Hp->VK->Prop}(h:jc X f r)(e:jc X f d):jc X f (λxs H Q=>r xs H Q\/d xs H Q):=by
 intro a s σ H xs b Q I c q;rcases q with q|q
 ·exact @h a s σ H xs b Q I c q
 ·exact @e a s σ H xs b Q I c q
def tI:jc X (.type "list") (λxs H Q=>∃p d,xs=[.ref p]/\(j0 X.K H p d\/pW X.K H p d)/\∀l,H l=Z->Q (.ref l) (upd H l (.lst d))):=by
 intro i s σ H xs D Q I r h;obtain⟨p,d,rfl,m,q⟩:=h;obtain⟨u,rfl,C⟩:=tF r;cases C;have v:∀(a:Lw),fO d a->d.length<=sizeLine->∀(c:Heap) (g:Nat),(∀b B,s.heap.get? b=Y B->c.get? b=Y B) ->
   c.get? (zB s)=Y { cls:=.type "list",dict:=Z,data:=.seq a.toArray g,slots:=#[] }->EP X i σ Q (.ref (zB s)) { s with heap:=c }:=λa f k c g j e=>
  ⟨.ref (zB s),_,I.laid (t':=s.toks) j (ax _) (show iK X.prog X.w _ c _ (.lst d) from ⟨k,a,g,f,e⟩),rfl,q _ (I.ij.fresh (ax _))⟩
 rcases m with m|m
 ·obtain⟨a,f,x,k⟩:=I.list m;have t:=f.length;obtain⟨o,y,A,n,z⟩:=x.isList;exact call_list_seq p (.inl rfl) y A z (λc g j e=>v a f k c g j e) (by simp only[aw]<;>omega)
 ·obtain⟨a,f,x,k⟩:=I.tuple m;have t:=f.length;obtain⟨o,y,A,n,z⟩:=x;exact call_list_seq p (.inr rfl) y A z (λc g j e=>v a f k c g j e) (by simp only[aw]<;>omega)
def X0(K:Fg)(T:String)(x:V)(H:Hp):Prop:=match x with
 |.str _=>T="str"
 |.int _=>T="int"
 |.ref p=>(T="list"/\∃b,j0 K H p b)\/(T="tuple"/\∃o,K.lookup p=Y o/\o.cls=.type "tuple"/\o.dict=Z) \/
   (T="dict"/\((∃a,H p=Y (.dK a))\/∃a,H p=Y (.dT a)))\/(T="set"/\∃S n,H p=Y (.set S n))
 |_=>False
def MN{T:String}{x:V}{v:Value}(I:eX X pins σ H s)(r:fT x v)(f:X0 X.K T x H):
  s.TypeIs v T/\∀a,v=.ref a->∃l,s.heap.get? a=Y l/\l.dict=Z:=by
 cases x with
 |str z=>obtain⟨t,rfl⟩:=r;cases (show T="str" from f);exact⟨dN s z t,λ_ e=>nomatch e⟩
 |int i=>obtain⟨t,rfl⟩:=r;cases (show T="int" from f);exact⟨typeIs_int s i t,λ_ e=>nomatch e⟩
 |ref p=>
  cases r;rcases f with ⟨rfl,w,q⟩ | ⟨rfl,o,b,u,h⟩ | ⟨rfl,b⟩ | ⟨rfl,S,n,b⟩
  ·obtain⟨m,_,k,_⟩:=I.list q;refine⟨k.isList.typeIs,λa e=>?_⟩;cases e;obtain⟨o,n,e,c,h,_⟩:=k;exact⟨o,e,h⟩
  ·refine⟨⟨o,I.xR p o b,u⟩,λa e=>?_⟩;cases e;exact⟨o,I.xR _ o b,h⟩
  ·have z:∃o,s.heap.get? p=Y o/\o.ExactDict:=by
    rcases b with ⟨g,b⟩ | ⟨g,b⟩
    ·obtain⟨_,_,_,_,o,_,_,e,d,_⟩:=I.ij p _ b;exact⟨o,e,d⟩
    ·obtain⟨_,_,_,_,o,_,_,e,d,_⟩:=I.ij p _ b;exact⟨o,e,d⟩
   obtain⟨o,e,d⟩:=z;refine⟨⟨o,e,d.1⟩,λa j=>?_⟩;cases j;exact⟨o,e,d.2.1⟩
  ·obtain⟨o,_,_,_,e,d,_⟩:=I.ij p _ b;refine⟨⟨o,e,d.1⟩,λa j=>?_⟩;cases j;exact⟨o,e,d.2.1⟩
 |_=>exact False.elim f
def X1(K:Fg)(T:String)(r:V->List V->Hp->VK->Prop)(b:TE):TE:=λσ H Q=>b σ H λx a=>X0 K T x a/\r x [] a Q
def tBM(K:Fg)(T:String)(r:V->List V->Hp->VK->Prop)(c:TE)(t:TA):TE:=λσ H Q=>c σ H λx a=>X0 K T x a/\t σ a λb d=>r x b d Q
variable {o:Expr}{to:TE}{t:TA}{name:Str}{fJ:Pos}{T id:String}{r:V->List V->Hp->VK->Prop}
def MP(l:PlainAttrs T) (d:Slot T name id) (e:typeOf (.builtin id)=pure (.type "method_descriptor")) (n:PL X id r) (m:PE X o to)
  (c:attributeBase o name X.env (eval o X.env)=eval o X.env:=by rfl) (b:(apos.endLine==fJ.line)=true:=by rfl):PE X (.Call (.Attribute o name apos) [] [] fJ) (X1 X.K T r to):=by
 intro a s σ H Q I h;refine wpAny_Call_method0_late c b (gO (@m a s σ H _ I h) ?_);rintro v j ⟨x,t,g,f,i,k⟩;obtain⟨q,p⟩:=MN g f i;exact⟨T,id,l,d,e,q,p,b6 rfl (PySem.evalArgs_none (@n a j σ t x [] v [] Q g f .nil k))⟩
def Bj(A:PlainAttrs T) (f:Slot T name id) (i:typeOf (.builtin id)=pure (.type "method_descriptor")) (D:PL X id r) (C:PE X o to) (E:PA X (e::es) t)
  (d:attributeBase o name X.env (eval o X.env)=eval o X.env:=by rfl)
  (g:((backTo fJ (starEach (e::es) X.env)).all (λx=>!x.1)&&(backToKw fJ (keywordEach [] X.env)).all (λx=>x.1.isSome)
  &&decide ((e::es).length+([]:List Keyword).length+(if ([]:List Keyword).isEmpty then 0 else 1)<30))=true:=by rfl)
  (c:(apos.endLine==fJ.line)=true:=by rfl) (B:zE e es X:=by rfl) (b:(backTo fJ (starEach es X.env)).any (·.1)=false:=by rfl):
  PE X (.Call (.Attribute o name apos) (e::es) [] fJ) (tBM X.K T r to t):=by
 intro a s σ H Q I h;refine wpAny_Call_method_late d g c rfl (gO (@C a s σ H _ I h) ?_);rintro v u ⟨x,M,l,j,p,z⟩;obtain⟨G,F⟩:=MN l j p;refine⟨T,id,A,f,i,G,F,?_⟩;have k:=@E fJ a u σ M _ l z;rw[B] at k ⊢;refine b6 (by show (false||(backTo fJ (starEach es X.env)).any (·.1))=false;rw[b]<;>rfl) (cL ?_);exact gO k <| by rintro n q ⟨m,L,J,w,y⟩;exact @D a q σ L x m v n Q J j w y
end
def W7(X:Cx)(b:String)(r:V->List V->Hp->VK->Prop):Prop :=
 ∀(a:Ax) (s:Shared) (σ:St) (H:Hp) (x:V) (xs:List V) (v:Value) (us:Lw) (Q:VK),eX X a σ H s->fT x v->fO xs us->r x xs H Q ->
  (zw X) (call (.builtin b) (v::us)) (EP X a σ Q) X.xe s
def fO.one:∀{x:V}{a:Lw},fO [x] a->∃u,a=[u]/\fT x u
 |_,_,.cons r .nil=>⟨_,rfl,r⟩
def fO.zero:∀{a:Lw},fO [] a->a=[]
 |_,.nil=>rfl
theorem fO.dropLast{a:List V}{b:Lw}(h:fO a b):fO a.dropLast b.dropLast:=by
 induction h with
 |nil=>exact .nil
 |cons r t c=>
  cases t with
  |nil=>exact .nil
  |cons q d=>exact .cons r c
theorem fO.rep{a:List V}{b:Lw}(h:fO a b):∀k:Nat,fO (List.replicate k a).flatten (List.replicate k b).flatten
 |0=>.nil
 |k+1=>by rw[bO,bO,cm,cm];exact fO.append h (fO.rep h k)
def G4(l:List α):l.eraseIdx (l.length - 1)=l.dropLast:=by
 induction l with
 |nil=>rfl
 |cons a r c=>
  cases r with
  |nil=>rfl
  |cons b r=>
   have e:(a::b::r).length - 1=((b::r).length - 1)+1:=by have f:(a::b::r).length=r.length+2:=rfl;have d:(b::r).length=r.length+1:=rfl;omega
   rw[e,List.eraseIdx_cons_succ,c]
   all_goals rfl
theorem Bk(a:Lw):∀(k:Nat) (acc:Lw),
  List.foldl (λx1 x2=>x1++x2) acc.toArray (List.replicate k a.toArray)=(acc++(List.replicate k a).flatten).toArray
 |0,acc=>by simp
 |k+1,acc=>by
  have e:acc.toArray++a.toArray=(acc++a).toArray:=by simp
  have b:(acc++a)++(List.replicate k a).flatten=acc++(List.replicate (k+1) a).flatten:=by rw[bO,cm,aN]
  rw[<-b,<-Bk a k (acc++a),<-e,bO,List.foldl_cons]
section
variable {l b:Addr}{xs ys zs:List V}
def eX.PN{a its':Lw}{n:Nat}{f:Array Value->Array Value}{b:Nat} (I:eX X pins σ H s) (j:H l=Y (.lst xs))
  (e:s.heap.get? l=Y (zl a.toArray n)) (h:f a.toArray=its'.toArray) (d:fO ys its') (c:ys.length<=sizeLine):
  eX X pins σ (upd H l (.lst ys)) { s with heap:=s.heap.update l (Obj.mapSeq f),toks:=b }:=by
 have q:=PySem.IsL.update e f;rw[h] at q;refine I.write (x:=l) (e:=l) (by rw[j];exact trivial) (.inl rfl) (λk u i g=>(bg s.heap (Obj.mapSeq f) (Ne.symm i)).trans g) ⟨_,q⟩ ?_;exact⟨c,its',_,d,q⟩
def eX.Sx{a:Lw}{t':Nat}(I:eX X pins σ H s)(c:fO ys a)(b:ys.length<=sizeLine):
  eX X pins σ (upd H (zB s) (.lst ys)) { s with heap:=s.heap.push { cls:=.type "list",data:=.seq a.toArray },toks:=t' } :=
 I.laid (λ_ _ q=>aj _ q) (ax _) ⟨b,a,0,c,aA _ rfl⟩
theorem eX.fresh(I:eX X pins σ H s):H (zB s)=Z:=I.ij.fresh (ax _)
def eX.Kt(I:eX X pins σ H s)(b:H l=Y (.lst xs)):xs.length<=sizeLine/\∃(a:Lw) (n:Nat),fO xs a/\xs.length=a.length/\s.heap.get? l=Y (zl a.toArray n):=by obtain⟨z,a,n,r,e⟩:=I.ij l _ b;exact⟨z,a,n,r,r.length,e⟩
def yy{n:Nat}(h:n<=sizeLine):Builtin.List.listTooLong n=false:=by unfold Builtin.List.listTooLong;exact ba (by omega)
end
section
def PQ:V->List V->Hp->VK->Prop:=λx b H Q=>∃l a y,x=.ref l/\b=[y]/\H l=Y (.lst a)/\a.length<sizeLine/\Q .lb (upd H l (.lst (a++[y])))
theorem Bl:W7 X "list.append" PQ:=by intro b s σ H x j v k Q I d f h;obtain⟨l,i,y,rfl,rfl,c,m,q⟩:=h;cases d;obtain⟨u,rfl,g⟩:=f.one;obtain⟨z,a,n,r,o,e⟩:=I.Kt c;refine cq F.slot_list_append ⟨_,e,rfl⟩ F.entry_list_append (F.args_list_append_2 _ _) (PySem.list_append l a.toArray n u (by rw[aw];omega)) ⟨e,?_⟩;refine⟨.lb,_,I.PN (its':=a++[u]) c e (by simp) (r.append (.cons g .nil)) ?_,rfl,q⟩;rw[aQ,List.length_singleton];omega
def PR:V->List V->Hp->VK->Prop:=λx d H Q=>∃l b c a,x=.ref l/\d=[.ref b]/\H l=Y (.lst c)/\H b=Y (.lst a)/\c.length+a.length<=sizeLine/\Q .lb (upd H l (.lst (c++a)))
theorem Ku:W7 X "list.extend" PR:=by
 intro g s σ H x D v E Q I j k h;obtain⟨l,b,C,A,rfl,rfl,i,w,G,q⟩:=h;cases j;obtain⟨u,rfl,m⟩:=k.one;cases m;obtain⟨z,c,n,r,J,e⟩:=I.Kt i;obtain⟨B,a,p,o,t,y⟩:=I.Kt w;have f:c.toArray.size+a.toArray.size<=sizeLine:=by rw[aw,aw];omega
 have d:¬ (!c.toArray.isEmpty&&Builtin.List.listTooLong (c.toArray.size+a.toArray.size))=true:=by rw[yy f,Bool.and_false];exact aC
 refine cq F.slot_list_extend ⟨_,e,rfl⟩ F.entry_list_extend (F.args_list_extend_2 _ _)
  (AutoSeq1.list_extend_list_list_0 l c.toArray n b a.toArray p d (by rw[aw];omega) (by omega)) ⟨e,y,?_⟩
 refine⟨.lb,_,I.PN (its':=c++a) i e (by simp) (r.append o) ?_,rfl,q⟩;rw[aQ];omega
def X2:V->List V->Hp->VK->Prop:=λx b H Q=>∃l a y,x=.ref l/\b=[]/\H l=Y (.lst a)/\a[a.length - 1]?=Y y/\Q y (upd H l (.lst a.dropLast))
theorem MQ:W7 X "list.pop" X2:=by
 intro d s σ H x t v w Q I g i h;obtain⟨l,p,y,rfl,rfl,f,k,q⟩:=h;cases g;have c:=i.zero;subst c;obtain⟨z,a,n,r,o,e⟩:=I.Kt f;obtain⟨u,m,j⟩:=r.get k;have b:a.toArray[a.toArray.size - 1]?=Y u:=by show a.toArray[a.length - 1]?=Y u;rw[<-Array.getElem?_toList,<-o];exact m
 refine cq F.slot_list_pop ⟨_,e,rfl⟩ F.entry_list_pop (F.args_list_pop_1 _) (MeetsSeq.list_pop_last l a.toArray n u b (by rw[aw];omega)) ⟨e,?_⟩;refine⟨y,_,I.PN (its':=a.dropLast) f e ?_ r.dropLast ?_,j,q⟩
 ·show a.toArray.eraseIdxIfInBounds (a.toArray.size - 1)=a.dropLast.toArray;rw[aw,List.eraseIdxIfInBounds_toArray,G4]
 ·rw[List.length_dropLast];omega
def X3:R2:=λx y H Q=>∃l k a,x=.ref l/\y=.int k/\H l=Y (.lst a)/\-(2 ^ 63)<=k/\k<2 ^ 63/\a.length*k.toNat<=sizeLine /\
 ∀p,H p=Z->Q (.ref p) (upd H p (.lst (List.replicate k.toNat a).flatten))
def PY(a:List α)(k:Nat):(List.replicate k a).flatten.length=k*a.length:=by
 induction k with
 |zero=>simp
 |succ k b=>rw[bO,cm,aQ,b,Nat.succ_mul,Nat.add_comm]
theorem Sy:ko X (binaryOp .Mult) X3:=by
 intro p s σ H x y v u Q I C B h;obtain⟨l,k,L,rfl,rfl,E,J,G,w,q⟩:=h;cases C;obtain⟨t,rfl⟩:=B;obtain⟨z,b,n,r,D,e⟩:=I.Kt E;have f:b.toArray.size*k.toNat<=sizeLine:=by rw[aw,<-D];exact w
 have i:¬ b.toArray.size*k.toNat > (2 ^ 63 - 1) / 8:=by
  have:(sizeLine:Nat)<=(2 ^ 63 - 1) / 8:=by decide
  omega
 have g:¬ (!Builtin.List.listFitsIndex k)=true:=by rw[fitsIndex_both J G];exact aC
 have c:¬ Builtin.List.listTooLong (b.toArray.size*k.toNat)=true:=by rw[yy f];exact aC
 have d:List.foldl (λo j=>o++j) #[] (List.replicate (if b.toArray.isEmpty=true then 0 else k.toNat) b.toArray)=(List.replicate k.toNat b).flatten.toArray:=by
  have K:∀m:Nat,List.foldl (λo j=>o++j) #[] (List.replicate m b.toArray)=(List.replicate m b).flatten.toArray:=λm=>by have:=Bk b m [];rw[List.nil_append] at this;exact this
  rw[K];cases b with
  |nil=>simp
  |cons a M=>rw[ai (by simp)]
 refine wpAny_binaryOp_repeat_ref (T:="list") (U:="int") (by decide) ⟨_,e,rfl⟩ (λA=>typeIs_int A k t) noFill_list_mul F.fills_int_mul F.slot_int_rmul repeat_list F.slot_int_index.lookup
  (cq F.slot_int_rmul (typeIs_int s k t) F.entry_int_rmul (F.args_int_rmul_2 _ _) (int___rmul___int_list k t l b.toArray n)
   ⟨e,rfl,⟨_,e,rfl⟩,cq F.slot_list_mul ⟨_,e,rfl⟩ F.entry_list_mul (F.args_list_mul_2 _ _) (AutoListH.list___mul___list_int_3 l b.toArray n k t g i c) ⟨e,?_⟩⟩)
 rw[d];exact⟨.ref _,_,I.Sx (t':=s.toks) (r.rep k.toNat) (by rw[PY,Nat.mul_comm];exact w),rfl,q _ I.fresh⟩
end
end L2
namespace W8
open PySem PySem.W PySem.Calls PyProof.Rows
def wY{P:Params}:∀(c:List Int) (vs:Lw),WellAll P h vs (c.map WData.int)->IntsAre vs c:=by
 intro c;induction c with
 |nil=>intro vs w;rw[d5] at w;cases w;exact .nil
 |cons n c d=>
  intro vs w;rw[aB] at w;cases w with
  |cons a b=>cases a;exact .cons _ _ (d _ b)
def Kv{l:OpenLaw}{n:Nat} (x:l.most=Y n) {P:Params}{b:List WData}{e:Lw}
  (f:l.row.toRowW.claim.pre b=true) (m:WellAll P h e b):
  ∃a p c,e=[Value.ref a]/\b=[WData.list (c.map WData.int)]/\h.get? a=Y { cls:=.type "list",data:=.seq p.toArray }/\IntsAre p c/\c.length<=n:=by
 have o:WShape.hasAll [] b [.list .int]=true:=(pre_splitW f).1;have s:l.pre.holds [] { args:=b }=true:=(pre_splitW f).2;obtain⟨d,r,rfl,A,z⟩:=hasAllW_cons o;obtain rfl:=hasAllW_nil z;obtain⟨B,rfl,y⟩:=hasW_list A;obtain⟨c,rfl⟩:=items_int y;have g:c.length<=n:=by
  unfold OpenLaw.pre at s;have k:(WTm.not (.lt (.lit (zi n)) (.len (.arg 0)))).holds [] { args:=[.list (c.map .int)] }=true:=by have k:=(holds_andW s).1;rw[x] at k;exact k
  have j:=condW_of k (w_not (w_lt w_lit (w_len_list (w_arg rfl))));rw[aF] at j;refine cQ λq=>?_;have v:(n:Int)<((c.length:Nat):Int):=by omega
  first
   | (rw[bU v] at j;exact absurd j (by decide))
   | (simp at j;omega)
 cases m with
 |cons u t=>
  cases t;cases u with
  |list w i=>exact⟨_,_,c,rfl,rfl,w,wY c _ i,g⟩
def Kw(l:OpenLaw)(a:List WData):l.row.toRowW.claim.post a (.bool true) a=true :=
 postW_of (r:=l.row.toRowW) (X:=(true==true))
  (show WShape.has [] (.bool true) .bool=true by first|rfl|decide|simp[WShape.has,WShape.arms,WShape.armsAll])
  (show (WTm.eq .res (.lit (.bool true))).value [] { args:=a,res:=Y (.bool true),after:=a }=Y (.bool (true==true)) from w_eq_bool (w_res rfl) w_lit) rfl
section
variable {K:Frag}
end
end W8
namespace L2
open PySem PySem.Spec PyProof.Rows
theorem Bm:∀{a:Lw}{b:List Int},IntsAre a b->fO (b.map V.int) a
 |_,_,.nil=>.nil
 |_,_,.cons n t h=>.cons ⟨t,rfl⟩ (Bm h)
def Vb(H:Hp):Prop:=∀b,H b=Z\/∃o a,H b=Y (.tq o (.lst a))
def MU{P:Program}{O:Str->Ow}{CX:MI}{k:Nat}{U:Addr}{sp:Sp}{c:Shared}{l:Lw}{y:List Int}
  (KX:K.In c.heap) (D:c.heap.Ns mainGlobals mg) (g:c.heap.Ns builtinsNs O) (S:∀x:Str,x≠"__name__"->O x=bootBuiltins x) (E:c.heap.NoLimit) (hg:c.gens=#[])
  (M:c.heap.get? a=Y { cls:=.type "list",data:=.seq l.toArray }) (hi:IntsAre l y) (hl:y.length<=sizeLine) (hr:iz k callerA)
  (F:∀base:Heap,K.In base->base.Ns mainGlobals mg->kR P w K mg base CX k U fd [x] sp) (p:∀(s:Shared) (u:Value),BindsTo s fd ⟨[u],[]⟩ [(x,u)])
  (Q:∀H:Hp,Vb H->j0 K H a (y.map V.int)->sp [.ref a] H (λv _=>v=.bl true) λ_ _ _=>False)
  (T:∀H e s',CX [] H c (λ_ _ _=>False) e s'->False):
  codeAny (model P w) callerA (.call (.ref U) ⟨[.ref a],[]⟩) (λr s'=>r=.ok (.ret (.bool true))/\OldK c.heap s'.heap/\s'.os=c.os/\AllBare s'.gens) c:=by
 have rv:=Bm hi;have A:=hi.length;have j:∀H:Hp,Vb H->j0 K H a (y.map V.int)->sf P w H c.heap->(∀b,H b≠Z->b=a)->(H a≠Z->K.lookup a=Z) ->
   codeAny (model P w) callerA (.call (.ref U) ⟨[.ref a],[]⟩) (λr s'=>r=.ok (.ret (.bool true))/\OldK c.heap s'.heap/\s'.os=c.os/\AllBare s'.gens) c:=by
  intro H hO hS C hA hK;have f:∀{b:Addr}{o:Obj},c.heap.get? b=Y o->H b=Z->(Cd c.heap H).get? b=Y o:=λe n=>Mi e n;have N:∀{b:Addr}{o:Obj}{I:Array DictEntry}{J:Nat},c.heap.get? b=Y o->o.data=.dict I J->H b=Z:=λ{b o I J} e d=>by
   cases q:H b with
   |none=>rfl
   |some u=>have W:b=a:=hA b (by rw[q];simp);subst W;rw[M] at e;cases e;have d':Data.seq l.toArray _=Data.dict I J:=d;cases d'
  have i:∀{b:Addr}{m:Str->Ow},c.heap.Ns b m->(Cd c.heap H).Ns b m:=λ{b m} ⟨o,I,J,e,d,r⟩=>⟨o,I,J,f e (N e d),d,r⟩
  have G:K.In (Cd c.heap H):=λb o e=>f (KX b o e) (by
   cases q:H b with
   |none=>rfl
   |some u=>have W:b=a:=hA b (by rw[q];simp);subst W;rw[hK (by rw[q];simp)] at e;cases e)
  have hM:Mod K mg (Cd c.heap H):=⟨G,i D,⟨O,i g,S⟩,by obtain⟨mc,h1,h2⟩:=E;exact⟨mc,i h1,h2⟩⟩
  have e0:GX P w K mg (Cd c.heap H) callerA [] c H:=⟨rfl,hM,λb o e=>Pg e,Nat.le_of_eq (Kg _ _),trivial,λb g=>absurd (show b∈([]:List Addr) from g) (by simp),C,.of_eq hg⟩
  refine c9 ((F _ G (i D)).run callerA [] c H ⟨[.ref a],[]⟩ [.ref a] [.ref a] _ _ hr e0 (p c (.ref a)) (.cons rfl .nil) (Q H hO hS)) λr s' h=>?_;cases r with
  |error e=>exact(T H e s' h).elim
  |ok fl=>
   cases fl with
   |next=>exact False.elim h
   |brk=>exact False.elim h
   |cont=>exact False.elim h
   |ret u=>
    obtain⟨v,H',os,L,X,B,r',q⟩:=h;have q':v=.bl true:=q;subst q';obtain rfl:u=Value.bool true:=r';refine⟨rfl,OldK.of_keep λb o e=>?_,os,L⟩;cases q:H b with
    |none=>exact X.keep b o e q (by intro z;exact absurd (show b∈([]:List Addr) from z) (by simp)) (by simp)
    |some u=>
     rcases hO b with z | ⟨ob,xs,z⟩
     ·rw[q] at z;cases z
     ·have z2:=X.sg b ob _ z;obtain⟨e1,_⟩:=C b _ z;obtain⟨e2,_⟩:=B b _ z2;rw[e] at e1;cases e1;exact e2
 cases R:K.lookup a with
 |some o=>have e:=KX a o R;rw[M] at e;cases e;refine j (λ_=>Z) (λ_=>.inl rfl) (.inr ⟨_,l.toArray,_,R,rfl,rfl,rfl,by rw[aw,A];exact hl,by simpa using rv⟩) (λb u z=>by have t:(Z:Option HO)=Y u:=z;cases t) (λb z=>absurd rfl z) λz=>absurd rfl z
 |none=>
  refine j (λb=>if b=a then Y (.tq { cls:=.type "list",data:=.seq l.toArray } (.lst (y.map V.int))) else Z) (λb=>?_) (.inl (.inr ⟨{ cls:=.type "list",data:=.seq l.toArray },ag rfl⟩)) (λb u z=>?_) (λb z=>?_) λ_=>R
  ·by_cases g:b=a
   ·exact .inr ⟨_,_,ag g⟩
   ·exact .inl (ai g)
  ·by_cases g:b=a
   ·have t:=(ag g).symm.trans z;cases t;subst g;exact⟨M,by rw[aF];exact hl,l,_,rv,M⟩
   ·have t:=(ai g).symm.trans z;cases t
  ·by_cases g:b=a
   ·exact g
   ·exact absurd (ai g) z
noncomputable def gd(s:Stmt)(j:Nat):Stmt:=match s with
 |.ClassDef _ _ _ body _ _ _ _ _ _ _=>body.getD j (.Pass ⟨0,0,0,0⟩)
 |_=>.Pass ⟨0,0,0,0⟩
def og(s:Stmt):Arguments:=match s with
 |.FunctionDef _ a _ _ _ _ _ _ _ _=>a
 |_=>{ posonlyargs:=[],args:=[],vararg:=Z,kwonlyargs:=[],kw_defaults:=[],kwarg:=Z,defaults:=[] }
def i9(s:Stmt):List Stmt:=match s with
 |.FunctionDef _ _ b _ _ _ _ _ _ _=>b
 |_=>[]
def fg(s:Stmt):Scope:=match s with
 |.FunctionDef _ _ _ _ _ _ sc _ _ _=>sc
 |_=>{ kind:=.function,names:=[],isGenerator:=false,isCoroutine:=false }
abbrev vb:MI:=λ_ _ _ _ _ _=>False
abbrev E0:XK:=λ_ _ _=>False
def nC:qo vb X E0:=λ_ _ _ _ _ _ _ h=>h.elim
structure Je (K:Fg) (x qual:Str) (st:Stmt) (f:Addr) (fd:FuncData):Prop where
 ex:∃(oc:Value) (od:Option Addr) (kV doc pm:Value) (an:Option Addr) (pX ct:Value) (osl:Array Ow),
  fd=W.fnOf x qual (og st) (i9 st) (fg st) .none kV doc pm an pX ct/\K.lookup f=Y ⟨oc,od,.func fd,osl⟩/\W.codeIn K pX qual=true
 kp:W.keepIn K (.ref f)=true
section
variable {P:Program}{base:Heap}
theorem Je.ok{a:Str}{c:Stmt}{f:Addr}{N ps:Lr}{k:Nat}{d:Sp} (F:Je K x a c f fd) (S:il N ps (fg c)) (e:∀vs H Q E,d vs H Q E->vs.length=ps.length)
  (b:∀(pX:Value) (A:Around) (outer:List Env) (s:Shared) (H:Hp) (vs:List V) (Q:VK) (E:XK),iz k (A.deeper (envOfC a (fg c) (zB s) f pX))->d vs H Q E ->
   ∃t,we (vh vb P w K mg base N a (fg c) f pX A outer s H E).Mr (i9 c) t/\t { nx:=λ_ H'=>Q .lb H',rt:=Q } (lg N vs) H):kR P w K mg base vb (k+1) f fd ps d:=by
 obtain⟨r,p,u,n,o,y,pX,v,j,rfl,l,i⟩:=F.ex;refine U4 l i S e λA outer s H vs Q E m g=>?_;obtain⟨t,h,q⟩:=b pX A outer s H vs Q E m g;exact⟨t,h.Mr,q⟩
theorem Je.binds{a:Str}{b:Stmt}{f:Addr}{c:Lr} (F:Je K x a b f fd)
  (h:∀(kV doc pm:Value) (an:Option Addr) (pX ct:Value) (us:Lw),us.length=c.length->bindArgs (W.fnOf x a (og b) (i9 b) (fg b) .none kV doc pm an pX ct) ⟨us,[]⟩=pure (c.zip us)):kr K fd c []:=by
 obtain⟨i,g,kV,doc,pm,an,pX,ct,d,rfl,j,e⟩:=F.ex;exact .all (h kV doc pm an pX ct)
def G5{a:Str}{d:Stmt}{f:Addr}{o:Value}{n m:Option Addr}{g:Array Ow}{i e h b j:Value} (l:K.lookup f=Y ⟨o,n,.func (W.fnOf x a (og d) (i9 d) (fg d) .none i e h m b j),g⟩)
  (c:W.codeIn K b a=true) (k:W.keepIn K (.ref f)=true):Je K x a d f (W.fnOf x a (og d) (i9 d) (fg d) .none i e h m b j):=⟨⟨o,n,i,e,h,m,b,j,g,rfl,l,c⟩,k⟩
end
def eN(H a:Hp):Prop:=∀b o,H b=Y o->a b=Y o
def eN.refl(H:Hp):eN H H:=λ_ _ h=>h
def eN.trans{e d:Hp}(a:eN H e)(b:eN e d):eN H d:=λc o h=>b c o (a c o h)
def eN.seq{c:Hp}{b:List V}(e:eN H c)(h:j0 K H a b):j0 K c a b:=by
 rcases h with (h | ⟨o,h⟩)|h
 ·exact .inl (.inl (e _ _ h))
 ·exact .inl (.inr ⟨o,e _ _ h⟩)
 ·exact .inr h
section
variable {κ:Type} [DecidableEq κ]
def mw(a:List (κ×V))(k:κ):Option V:=(a.find? λb=>decide (b.1=k)).map (·.2)
def putK(a:List (κ×V))(k:κ)(v:V):List (κ×V) :=
 if (a.any λb=>decide (b.1=k))=true then a.map (λb=>if b.1=k then (b.1,v) else b) else a++[(k,v)]
def yz(a:List (κ×V))(k:κ):List (κ×V):=a.filter λb=>decide (b.1≠k)
def tJ{p:κ×V}{r:List (κ×V)}{k:κ}(e:p.1=k):mw (p::r) k=Y p.2:=by simp[mw,bP,e]
def qp{p:κ×V}{r:List (κ×V)}{k:κ}(e:¬ p.1=k):mw (p::r) k=mw r k:=by simp[mw,bP,e]
theorem EB(k:κ):∀a:List (κ×V),(a.any λb=>decide (b.1=k))=(mw a k).isSome
 |[]=>rfl
 |p::r=>by
  rw[cu];by_cases e:p.1=k
  ·simp only[tJ e,bU e,Bool.true_or,Option.isSome_some]
  ·rw[qp e,ba e,Bool.false_or];exact EB k r
def qq(a:List (κ×V))(k:κ)(v:V):(putK a k v).length<=a.length+1:=by
 unfold putK;split
 ·rw[aF];omega
 ·rw[aQ,aV,List.length_nil];omega
def oU.oW{o:Option V}{u:Ow}(r:oU o u):o.isSome=u.isSome:=by
 cases o with
 |none=>cases u with
  |none=>rfl
  |some _=>exact(show False from r).elim
 |some _=>cases u with
  |none=>exact(show False from r).elim
  |some _=>rfl
theorem oU.getD{o:Option V}{u:Ow}{d:V}{a:Value}(r:oU o u)(b:fT d a):fT (o.getD d) (u.getD a):=by
 cases o with
 |none=>cases u with
  |none=>exact b
  |some _=>exact(show False from r).elim
 |some _=>cases u with
  |none=>exact(show False from r).elim
  |some _=>exact r
def KV.val{a:List (κ×V)}{f:List (κ×Value)}(r:KV a f)(k:κ):oU (mw a k) (valueAt f k):=by
 unfold KV at r;induction r with
 |nil=>exact aP
 |@cons p q l c h t i=>
  obtain⟨g,j⟩:=h;by_cases e:p.1=k
  ·have d:q.1=k:=g.symm.trans e;have b:valueAt (q::c) k=Y q.2:=by simp[valueAt,bP,d]
   rw[tJ e,b];exact j
  ·have d:¬ q.1=k:=λz=>e (g.trans z);have b:valueAt (q::c) k=valueAt c k:=by simp[valueAt,bP,d]
   rw[qp e,b];exact i
theorem KV.any{a:List (κ×V)}{vs:List (κ×Value)}(r:KV a vs)(k:κ):(a.any λb=>decide (b.1=k))=vs.any λb=>decide (b.1=k):=by
 unfold KV at r;induction r with
 |nil=>rfl
 |cons h t c=>rw[cu,cu,c,h.1]
def KV.Ha{b:List (κ×V)}{d:List (κ×Value)}(r:KV b d)(k:κ){y:V}{u:Value}(f:fT y u):
  KV (b.map λa=>if a.1=k then (a.1,y) else a) (d.map λa=>if a.1=k then (a.1,u) else a):=by
 unfold KV at r ⊢;induction r with
 |nil=>exact .nil
 |@cons p q l j h t g=>
  rw[aB,aB];refine .cons ?_ g;obtain⟨c,i⟩:=h;by_cases e:p.1=k
  ·rw[ag e,ag (c.symm.trans e)];exact⟨c,f⟩
  ·rw[ai e,ai (λz=>e (c.trans z))];exact⟨c,i⟩
def KV.put{a:List (κ×V)}{b:List (κ×Value)}(r:KV a b)(k:κ){y:V}{u:Value}(c:fT y u):KV (putK a k y) (stored b k u):=by
 unfold putK stored;rw[r.any k];by_cases e:(b.any λd=>decide (d.1=k))=true
 ·rw[ag e,ag e];exact r.Ha k c
 ·rw[ai e,ai e];exact Paired.snoc r ⟨rfl,c⟩
def KV.drop{c:List (κ×V)}{f:List (κ×Value)}(r:KV c f)(k:κ):KV (yz c k) (without f k):=by
 unfold KV at r ⊢;unfold yz without;induction r with
 |nil=>exact .nil
 |@cons p q m l h t g=>
  obtain⟨d,i⟩:=h;rw[dw,dw];by_cases e:p.1=k
  ·have a:¬ decide (p.1≠k)=true:=by simp[e]
   have b:¬ decide (q.1≠k)=true:=by simp[d.symm.trans e]
   rw[ai a,ai b];exact g
  ·have j:¬ q.1=k:=λz=>e (d.trans z);have a:decide (p.1≠k)=true:=by simp[e]
   have b:decide (q.1≠k)=true:=by simp[j]
   rw[ag a,ag b];exact .cons ⟨d,i⟩ g
theorem KV.length{kvs:List (κ×V)}{vs:List (κ×Value)}(r:KV kvs vs):kvs.length=vs.length:=cp r
def MW(a:List (κ×V))(k:κ):(yz a k).length<=a.length:=List.length_filter_le _ _
end
def mT{P:Program}{k:Key}{u:Value}(r:fT (kV k) u):(fD P w).is k u=true:=by
 cases k with
 |inl i=>obtain⟨t,e⟩:=(show ∃t,u=Value.int i t from r);subst e;exact Ek P w i t
 |inr x=>obtain⟨t,e⟩:=(show ∃t,u=Value.str x t from r);subst e;exact mu P w x t
theorem Bn{P:Program}{w:World}:∀{a:List Key}{b:Lw},fO (a.map kV) b->ItemsAre (fD P w) a b
 |[],_,r=>by rw[d5] at r;cases r;exact .nil
 |k::a,_,r=>by
  rw[aB] at r;cases r with
  |cons h t=>exact .cons (mT h) (Bn t)
abbrev KT(H:Hp):List (List Key×V)->List (List Key×Addr×Value)->Prop:=Paired λp q=>p.1=q.1/\H q.2.1=Y (.tup (p.1.map kV))/\fT p.2 q.2.2
def KT.val{a:List (List Key×V)}(r:KT H a xs)(k:List Key):oU (mw a k) ((atKey xs k).map (·.2)):=by
 induction r with
 |nil=>exact aP
 |@cons p q j c h t g=>
  obtain⟨f,_,i⟩:=h;by_cases e:p.1=k
  ·have d:q.1=k:=f.symm.trans e;have b:atKey (q::c) k=Y q.2:=by simp[atKey,bP,d]
   rw[tJ e,b];exact i
  ·have d:¬ q.1=k:=λz=>e (f.trans z);have b:atKey (q::c) k=atKey c k:=by simp[atKey,bP,d]
   rw[qp e,b];exact g
def KT.Ha{a:List (List Key×V)}(r:KT H a xs)(k:List Key){y:V}{u:Value}(f:fT y u):
  KT H (a.map λc=>if c.1=k then (c.1,y) else c) (xs.map (putAt k u)):=by
 induction r with
 |nil=>exact .nil
 |@cons p q l j h t g=>
  rw[aB,aB];refine .cons ?_ g;obtain⟨b,d,i⟩:=h;unfold putAt;by_cases e:p.1=k
  ·rw[ag e,ag (b.symm.trans e)];exact⟨b,d,f⟩
  ·rw[ai e,ai (λz=>e (b.trans z))];exact⟨b,d,i⟩
def KT.put{a:List (List Key×V)}(r:KT H a xs)(k:List Key){b:Addr}{y:V}{u:Value}(f:H b=Y (.tup (k.map kV)))(c:fT y u):
  KT H (putK a k y) (storedH xs k b u):=by
 have e:(a.any λd=>decide (d.1=k))=(atKey xs k).isSome:=by rw[EB,(r.val k).oW,dR]
 unfold putK storedH;rw[e];by_cases q:(atKey xs k).isSome=true
 ·rw[ag q,ag q];exact r.Ha k c
 ·rw[ai q,ai q];exact Paired.snoc r ⟨rfl,f,c⟩
def KT.keeps{c:Hp}{a:List (List Key×V)}(r:KT H a xs)(d:∀b ys,H b=Y (.tup ys)->c b=Y (.tup ys)):KT c a xs :=
 Paired.R1 r λ_ _ z=>⟨z.1,d _ _ z.2.1,z.2.2⟩
section
variable {P:Program}
def Rm{u:HO}(b:sf P w H h)(e:Rd H a u):iK P w H h a u:=e.ok b
def rO{b:List (Key×V)}(d:sf P w H h)(e:Rd H a (.dK b)):b.length<=sizeLine/\(a==sysModules)=false/\∃c,KV b c/\h.DictOf (fD P w) a c :=
 show iK P w H h a (.dK b) from Rm d e
def nE{kvs:List (Key×V)}(c:sf P w H h)(e:H a=Y (.dK kvs)):kvs.length<=sizeLine/\(a==sysModules)=false/\∃b,KV kvs b/\h.DictOf (fD P w) a b:=rO c (.inl e)
def vj{b:List Key}(d:sf P w H h)(e:H a=Y (.tup (b.map kV))):(tupleKind (fD P w)).is h b a:=by
 obtain⟨_,c,r,o,i,g,n,f⟩:=(show iK P w H h a (.tup (b.map kV)) from d a _ e)
 exact⟨o,c.toArray,n,i,g,f,by simpa using Bn r⟩
def yA{b:List (List Key×V)}(g:sf P w H h)(e:Rd H a (.dT b)):b.length<=sizeLine/\(a==sysModules)=false /\
  ∃d,KT H b d/\h.DictOfH (tupleKind (fD P w)) a d:=by
 obtain⟨z,y,d,r,o,A,B,v,u,s,n,k⟩:=(show iK P w H h a (.dT b) from Rm g e)
 refine⟨z,y,d,r,o,A,B,v,u,s,n,λx c=>?_,k⟩;have f:∀{l:List (List Key×V)}{m:List (List Key×Addr×Value)},KT H l m->∀x∈m,(tupleKind (fD P w)).is h x.1 x.2.1:=by
  intro l m q;induction q with
  |nil=>intro x c;exact nomatch c
  |@cons p q D C i t j=>
   intro x c;rcases av.mp c with e|c
   ·subst e;exact vj g (by rw[<-i.1];exact i.2.1)
   ·exact j x c
 exact f r x c
def Vc{b:List (List Key×V)}(d:sf P w H h)(e:H a=Y (.dT b)):b.length<=sizeLine/\(a==sysModules)=false /\
  ∃c,KT H b c/\h.DictOfH (tupleKind (fD P w)) a c:=yA d (.inl e)
end
def qr(H:Hp)(a:Addr)(y:V)(r:Option V):Prop :=
 (∃c k,Rd H a (.dK c)/\y=kV k/\r=mw c k)\/∃c k b,Rd H a (.dT c)/\y=.ref b/\H b=Y (.tup (k.map kV))/\r=mw c k
def PZ(H:Hp)(a:Addr)(y v:V)(d:Hp):Prop :=
 (∃c k,H a=Y (.dK c)/\y=kV k/\c.length<sizeLine/\d=upd H a (.dK (putK c k v))) \/
 ∃c k b,H a=Y (.dT c)/\y=.ref b/\H b=Y (.tup (k.map kV))/\c.length<sizeLine/\d=upd H a (.dT (putK c k v))
theorem qr.k{H:Hp}{a:Addr}{kvs:List (Key×V)}{k:Key}(e:H a=Y (.dK kvs)):qr H a (kV k) (mw kvs k):=.inl ⟨kvs,k,.inl e,rfl,rfl⟩
theorem PZ.k{H:Hp}{a:Addr}{kvs:List (Key×V)}{k:Key}{v:V}(e:H a=Y (.dK kvs))(b:kvs.length<sizeLine):PZ H a (kV k) v (upd H a (.dK (putK kvs k v))):=.inl ⟨kvs,k,e,rfl,b,rfl⟩
section
variable {y:V}{u r:Value}{o:Option V}
def eX.big(I:eX X pins σ H s):sysModules<(zB s):=by have h:mainGlobals<(zB s):=(I.mod.glob.keeps I.bk).lt;exact d6 (by decide) h
def Kx{Q:Px}(t:A.units+1<cLine)(I:eX X pins σ H s)(g:qr H a y (Y v))(n:fT y u)(h:∀w' s',eX X pins σ H s'->fT v w'->Q w' s'):
  wpAny (model X.prog X.w) A (getItem (.ref a) u) Q E s:=by
 rcases g with ⟨f,k,e,j,l⟩ | ⟨f,k,b,e,j,C,l⟩
 ·subst j;obtain⟨z,B,r,d,m⟩:=rO I.ij e;obtain⟨w',hw,c⟩:=oU.some_of (v:=v) (o:=valueAt r k) (by rw[l];exact d.val k);exact dZ (mT n) m.mapOf hw (h w' _ (I.tok _) c)
 ·subst j;cases (show u=Value.ref b from n);obtain⟨z,B,q,d,m⟩:=yA I.ij e;obtain⟨w',hw,c⟩:=oU.some_of (v:=v) (o:=(atKey q k).map (·.2)) (by rw[l];exact d.val k);obtain⟨p,x,i⟩:=aa.mp hw;refine wpAny_getItem_heap (cC t) (vj I.ij C) m x ?_;rw[i];exact h w' _ (I.tok _) c
def X4{Q:Px}(n:A.units+1<cLine)(I:eX X pins σ H s)(g:qr H a y o)(m:fT y u)(h:∀s',eX X pins σ H s'->Q (.bool o.isSome) s'):
  wpAny (model X.prog X.w) A (compareOp .In u (.ref a)) Q E s:=by
 rcases g with ⟨d,k,e,i,l⟩ | ⟨d,k,b,e,i,p,l⟩
 ·subst i;obtain⟨z,f,t,c,j⟩:=rO I.ij e;refine wpAny_in_of (mT m) f j.mapOf ?_;rw[<-(c.val k).oW,<-l];exact h _ (I.tok _)
 ·subst i;cases (show u=Value.ref b from m);obtain⟨z,f,r,c,j⟩:=yA I.ij e;refine wpAny_in_heap (cC n) (vj I.ij p) f j ?_;have q:=(c.val k).oW;rw[dR] at q;rw[<-q,<-l];exact h _ (I.tok _)
def P0{Q:Px}(n:A.units+1<cLine)(I:eX X pins σ H s)(g:qr H a y o)(m:fT y u)(h:∀s',eX X pins σ H s'->Q (.bool (!o.isSome)) s'):
  wpAny (model X.prog X.w) A (compareOp .NotIn u (.ref a)) Q E s:=by
 rcases g with ⟨d,k,e,i,l⟩ | ⟨d,k,b,e,i,p,l⟩
 ·subst i;obtain⟨z,f,t,c,j⟩:=rO I.ij e;refine wpAny_notIn_of (mT m) f j.mapOf ?_;rw[<-(c.val k).oW,<-l];exact h _ (I.tok _)
 ·subst i;cases (show u=Value.ref b from m);obtain⟨z,f,r,c,j⟩:=yA I.ij e;refine wpAny_notIn_heap (cC n) (vj I.ij p) f j ?_;have q:=(c.val k).oW;rw[dR] at q;rw[<-q,<-l];exact h _ (I.tok _)
def CA{c:Heap}{g:Nat}{d:HO}(I:eX X pins σ H s)(h:Uz (H a))(i:Heap.SameBut a s.heap c)(j:∃q,c.get? a=Y q)(f:iK X.prog X.w (upd H a d) c a d):
  eX X pins σ (upd H a d) { s with heap:=c,toks:=g } :=
 I.write (x:=a) (e:=a) h (.inl rfl) (λb q k z=>(i.2 b k).trans z) j f
def Hb{P:Program}{h:Hp}{e:Heap}{b:List (Key×V)}{c:List (Key×Value)}(z:b.length<=sizeLine)(f:(a==sysModules)=false)(d:KV b c)(g:e.DictOf (fD P w) a c):
  iK P w h e a (.dK b):=⟨z,f,c,d,g⟩
theorem Ky{K:Hp}{Q:Unit->Shared->Prop}(N:A.units+1<cLine)(I:eX X pins σ H s)(g:PZ H a y v K)(C:fT y u)(D:fT v r)(h:∀s',eX X pins σ K s'->Q () s'):
  wpAny (model X.prog X.w) A (setItem (.ref a) u r) Q E s:=by
 rcases g with ⟨f,k,e,t,l,x⟩ | ⟨f,k,b,e,t,J,l,x⟩
 ·subst t x;obtain⟨z,p,M,d,B⟩:=nE I.ij e;have m:M.length<=sizeLine:=by rw[<-d.length];exact z
  have o:(putK f k v).length<=sizeLine:=by have:=qq f k v;omega
  refine wpAny_setItem_pairs (hsz:=m) (mT C) B λF i n=>h _ ?_;have O:∃q,F.get? a=Y q:=by obtain⟨q,_,_,j,_⟩:=i;exact⟨q,j⟩
  exact CA I (by rw[e];exact aP) n O (Hb o p (d.put k D) i)
 ·subst t x;cases (show u=Value.ref b from C);obtain⟨z,p,L,d,B⟩:=Vc I.ij e;have m:L.length<=sizeLine:=by rw[<-cp d];exact z
  have o:(putK f k v).length<=sizeLine:=by have:=qq f k v;omega
  refine wpAny_setItem_heap (hsz:=m) (cC N) (vj I.ij J) B λF i n=>h _ ?_;obtain⟨q,U,V,j,T,S,R,_,P⟩:=i;refine CA I (by rw[e];exact aP) n ⟨q,j⟩ ⟨o,p,_,(d.put k J D).keeps λc W G=>?_,q,U,V,j,T,S,R,P⟩;rw[eM (Uy G e (λz=>nomatch z))];exact G
end
section
variable {kvs:List (Key×V)}{k:Key}{u:Value}
def Vd{b:Lw}{Q:Px} (I:eX X pins σ H s) (e:H a=Y (.dK kvs)) (f:fT (kV k) u) (l:mw kvs k=Y v) (m:b=[]\/∃x,b=[x])
  (h:∀w' s',eX X pins σ (upd H a (.dK (yz kvs k))) s'->fT v w'->Q w' s'):wpAny (model X.prog X.w) A (call (.builtin "dict.pop") (.ref a::u::b)) Q E s:=by
 obtain⟨z,C,j,c,n⟩:=nE I.ij e;obtain⟨w',hw,g⟩:=oU.some_of (v:=v) (o:=valueAt j k) (by rw[<-l];exact c.val k);have y:(keyPart u).isSome=true:=by
  cases k with
  |inl i=>obtain⟨t,q⟩:=(show ∃t,u=Value.int i t from f);subst q;rfl
  |inr x=>obtain⟨t,q⟩:=(show ∃t,u=Value.str x t from f);subst q;rfl
 have D:argsOk "dict.pop" ⟨.ref a::u::b,[]⟩:=by
  rcases m with q | ⟨x,q⟩
  ·subst q;exact PySem.F.args_dict_pop_2 _ _
  ·subst q;exact PySem.F.args_dict_pop_3 _ _ _
 refine dJ du n.typeIs PySem.F.entry_dict_pop D (meets_dict_pop_there (fD X.prog X.w) a (mT f) b m y)
  ⟨j,w',n,by rw[<-c.length];exact z,hw,λG d p=>h w' _ ?_ g⟩
 have B:∃q,G.get? a=Y q:=by obtain⟨q,_,_,r,_⟩:=d;exact⟨q,r⟩
 exact CA I (by rw[e];exact aP) p B (Hb (bj (MW kvs k) z) C (c.drop k) d)
def Sz{r:Value}{Q:Px}(I:eX X pins σ H s)(e:H a=Y (.dK kvs))(b:fT (kV k) u)(l:mw kvs k=Z)(h:∀s',eX X pins σ H s'->Q r s'):
  wpAny (model X.prog X.w) A (call (.builtin "dict.pop") [.ref a,u,r]) Q E s:=by
 obtain⟨z,m,d,c,f⟩:=nE I.ij e;have j:valueAt d k=Z:=oU.none_of (by rw[<-l];exact c.val k);have g:(keyPart u).isSome=true:=by
  cases k with
  |inl i=>obtain⟨t,q⟩:=(show ∃t,u=Value.int i t from b);subst q;rfl
  |inr x=>obtain⟨t,q⟩:=(show ∃t,u=Value.str x t from b);subst q;rfl
 exact dJ du f.typeIs PySem.F.entry_dict_pop (PySem.F.args_dict_pop_3 _ _ _) (meets_dict_pop_default (fD X.prog X.w) a (mT b) m g r) ⟨d,f,j,h _ (I.tok _)⟩
def Ve{Q:Px}(I:eX X pins σ H s)(e:Rd H a (.dK kvs))(h:∀t s',eX X pins σ H s'->Q (.int kvs.length t) s'):wpAny (model X.prog X.w) A (call (.builtin "len") [.ref a]) Q E s:=by obtain⟨z,c,f,b,d⟩:=rO I.ij e;refine call_len_dict c d (by rw[<-b.length];rw[sizeLine_eq] at z;omega) ?_;rw[<-b.length];exact h _ _ (I.tok _)
end
def EC(i:Expr):Prop:=∀a b,subscripted i false a b=operate [a,b] (getItem a b)
def CB{f:Env}{b a:Expr}{T l:String}{Q:Px}
  (n:typeLookup (.type T) "__getitem__"=pure (Y (.builtin l))) (m:EC a)
  (h:wpAny (model prog w) A (eval b f) (λo s₁=>wpAny (model prog w) A (eval a f) (λi s₂=>s₂.TypeIs o T/\wpAny (model prog w) A (getItem o i) Q E s₂) E s₁) E s):
  wpAny (model prog w) A (eval (.Subscript b a pos) f) Q E s:=by
 refine Subscript_ (bK h (λo s₁ j=>bK j (λi s₂ c=>?_) λ_ _ x=>x) λ_ _ x=>x);obtain⟨k,c⟩:=c;unfold subscriptTail;refine ab ?_;rw[getitemInPython_of_ne k.not_modules];refine ab (dD k n ?_);have e:wpAny (model prog w) A (subscripted a false o i) (λr d=>wpAny (model prog w) A (letTemporaryGo b o r>>=λ_=>pure r) Q E d) E s₂:=by rw[m o i];exact wpAny_operating (bK c (λr d g=>ab (wpAny_letTemporaryGo (ak g))) λ_ _ x=>x)
 first
  |exact ak (ab e)
  |exact ab (ak (ab e))
  |exact ab e
def ED{y:V}{o:Option V}(I:eX X pins σ H s)(g:qr H a y o):s.TypeIs (.ref a) "dict":=by
 rcases g with ⟨c,k,e,_,_⟩ | ⟨c,k,b,e,_,_,_⟩
 ·obtain⟨_,_,h,_,d⟩:=rO I.ij e;exact d.typeIs
 ·obtain⟨_,_,f,_,d⟩:=yA I.ij e;exact d.typeIs
def Vf(d c:TE):TE:=λσ H Q=>d σ H λx e=>c σ e λy b=>∃a v,x=.ref a/\qr b a y (Y v)/\Q v b
section
variable {o i value:Expr}{pos' U0:Pos}{td ty tv:TE}
def Jf(m:X.A.units+1<cLine)(p:PE X o td)(q:PE X i ty)(n:EC i):PE X (.Subscript o i pos) (Vf td ty):=by intro b s σ H Q I h;refine CB PySem.F.slot_dict_getitem.lookup n (gO (@p b s σ H _ I h) ?_);rintro u e ⟨x,B,w,j,l⟩;refine gO (@q b e σ B _ w l) ?_;rintro G E ⟨y,z,d,f,a,v,r,g,k⟩;subst r;obtain rfl:u=Value.ref a:=j;exact⟨ED d g,Kx m d g f λC D t c=>⟨v,z,t,c,k⟩⟩
end
def MX{P:Program}(h:Heap)(a:sysModules<h.objs.size):iK P w H (h.push { cls:=.type "dict",data:=.dict #[] }) h.objs.size (.dK []) :=
 ⟨bH _,aZ.mpr (Ne.symm (aG a)),[],.nil,Heap.DictOf.new h⟩
def SA:TE:=λ_ H Q=>∀p,H p=Z->Q (.ref p) (upd H p (.dK []))
section
def EE:PE X (.Dict [] [] pos) SA:=λb s σ H Q I h=>
 wpAny_Dict_empty ⟨.ref (zB s),_,I.laid (a:=(zB s)) (o:=.dK []) (t':=s.toks) (λ_ _ q=>aj _ q) (ax _) (MX s.heap I.big),rfl,h _ (I.ij.fresh (ax _))⟩
end
structure M1 (X:Cx) (o:Expr) (m:Str) (apos:Pos) (e:Expr) (fJ:Pos):Prop where
 base:attributeBase o m X.env (eval o X.env)=eval o X.env
 W9:((backTo fJ (starEach [e] X.env)).all (λx=>!x.1)&&(backToKw fJ (keywordEach [] X.env)).all (λx=>x.1.isSome)
 &&decide (([e]:Lx).length+([]:List Keyword).length+(if ([]:List Keyword).isEmpty then 0 else 1)<30))=true
 line:(apos.endLine==fJ.line)=true
 trees:backTo fJ (starEach [e] X.env)=[(false,eval e X.env)]
structure M2 (X:Cx) (o:Expr) (m:Str) (apos:Pos) (e f:Expr) (fJ:Pos):Prop where
 base:attributeBase o m X.env (eval o X.env)=eval o X.env
 W9:((backTo fJ (starEach [e,f] X.env)).all (λx=>!x.1)&&(backToKw fJ (keywordEach [] X.env)).all (λx=>x.1.isSome)
 &&decide (([e,f]:Lx).length+([]:List Keyword).length+(if ([]:List Keyword).isEmpty then 0 else 1)<30))=true
 line:(apos.endLine==fJ.line)=true
 trees:backTo fJ (starEach [e,f] X.env)=[(false,eval e X.env),(false,eval f X.env)]
def Jg(H:Hp)(a:Addr):Prop:=(∃b,Rd H a (.dK b))\/∃b,Rd H a (.dT b)
def EF(I:eX X pins σ H s)(d:Jg H a):
  s.TypeIs (.ref a) "dict"/\(∀b,Value.ref a=.ref b->∃c,s.heap.get? b=Y c/\c.dict=Z)/\(a==sysModules)=false:=by
 rcases d with ⟨g,e⟩ | ⟨g,e⟩
 ·obtain⟨_,h,l,_,f⟩:=rO I.ij e;refine⟨f.typeIs,λb q=>?_,h⟩;cases q;obtain⟨c,_,_,j,i,_⟩:=f;exact⟨c,j,i.2.1⟩
 ·obtain⟨_,h,k,_,f⟩:=yA I.ij e;refine⟨f.typeIs,λb q=>?_,h⟩;cases q;obtain⟨c,_,_,j,i,_⟩:=f;exact⟨c,j,i.2.1⟩
section
variable {y d:V}{u r:Value}{o:Option V}
def SD{Q:Px}(p:A.units+1<cLine)(I:eX X pins σ H s)(g:qr H a y o)(m:fT y u)(h:∀w' s',eX X pins σ H s'->fT (o.getD .lb) w'->Q w' s'):
  wpAny (model X.prog X.w) A (call (.builtin "dict.get") [.ref a,u]) Q E s:=by
 rcases g with ⟨f,k,e,j,l⟩ | ⟨f,k,b,e,j,q,l⟩
 ·subst j;obtain⟨z,i,r,c,d⟩:=rO I.ij e;refine dJ cg d.typeIs df (c5 _ _) (meets_dict_get (fD X.prog X.w) a (mT m) i) ⟨_,d.mapOf,h _ _ (I.tok _) ?_⟩;rw[l];exact(c.val k).getD rfl
 ·subst j;cases (show u=Value.ref b from m);obtain⟨z,i,n,c,d⟩:=yA I.ij e;refine dJ cg d.typeIs df (c5 _ _) (meetsH_dict_get (tupleKind (fD X.prog X.w)) a b i) ⟨cC p,k,n,vj I.ij q,d,h _ _ (I.tok _) ?_⟩;rw[l];exact(c.val k).getD rfl
end
def SE(e d:TE):TE:=λσ H Q=>e σ H λx c=>∃a,x=.ref a/\Jg c a/\d σ c λy b=>∃o,qr b a y o/\Q (o.getD .lb) b
def SF(g e f:TE):TE:=λσ H Q=>g σ H λx d=>∃a,x=.ref a/\Jg d a/\e σ d λy h=>f σ h λz c=>∃b k,c a=Y (.dK b)/\y=kV k /\
 (∀v,mw b k=Y v->Q v (upd c a (.dK (yz b k))))/\(mw b k=Z->Q z c)
section
variable {o f:Expr}{fJ:Pos}{td ty tx:TE}
def MY(r:X.A.units+1<cLine)(t:PE X o td)(v:PE X e ty)(m:M1 X o "get" apos e fJ):PE X (.Call (.Attribute o "get" apos) [e] [] fJ) (SE td ty):=by intro b s σ H Q I h;refine cH m.base m.W9 m.line bX cg d8 (gO (@t b s σ H _ I h) ?_);rintro u k ⟨x,D,f,n,a,w,d,q⟩;subst w;obtain rfl:u=Value.ref a:=n;obtain⟨j,i,_⟩:=EF f d;refine⟨j,i,?_⟩;rw[m.trees];refine b6 rfl (cL (aT (gO (@v b k σ D _ f q) ?_)));rintro K G ⟨y,C,B,l,J,g,p⟩;refine bu ?_;exact SD r B g l λE F z c=>⟨_,C,z,c,p⟩
def MZ(L:PE X o td)(N:PE X e ty)(M:PE X f tx)(m:M2 X o "pop" apos e f fJ):PE X (.Call (.Attribute o "pop" apos) [e,f] [] fJ) (SF td ty tx):=by
 intro b s σ H Q I h;refine cH m.base m.W9 m.line bX du PySem.F.type_dict_pop (gO (@L b s σ H _ I h) ?_);rintro u B ⟨x,V,q,D,a,R,d,K⟩;subst R;obtain rfl:u=Value.ref a:=D;obtain⟨t,r,_⟩:=EF q d;refine⟨t,r,?_⟩;rw[m.trees];refine b6 rfl (cL (aT (gO (@N b B σ V _ q K) λiv A ⟨y,U,S,j,J⟩=>
  aT (gO (@M b A σ U _ S J) λO s3 ⟨z,T,p,C,g,k,n,P,G,E⟩=>bu ?_))))
 subst P;cases l:mw g k with
 |some v=>exact Vd p n j l (.inr ⟨O,rfl⟩) λW w i c=>⟨v,_,i,c,G v l⟩
 |none=>exact Sz p n j l λw i=>⟨z,T,i,C,E l⟩
end
section
variable {kvs:List (Key×V)}
end
section
variable {y:V}{u:Value}
end
section
def Kz:jc X (.builtin "len") (λxs H Q=>∃a b,xs=[V.ref a]/\Rd H a (.dK b)/\Q (.int b.length) H):=by intro c s σ H xs g Q I r h;obtain⟨a,b,rfl,e,q⟩:=h;obtain⟨u,rfl,d⟩:=tF r;cases d;exact Ve I e λt i f=>⟨.int b.length,H,f,⟨t,rfl⟩,q⟩
end
section
variable {κ:Type} [DecidableEq κ]
end
noncomputable def kh:Key->eA
 |.inl i=>.int i
 |.inr x=>.str x
def jB(K:Fg)(c:Str)(C:Addr):Prop:=W.nsIn K mainGlobals c=Y (Y (.ref C))
def jB.uniq{c:Str}{C b:Addr}(h:jB K c C)(a:jB K c b):C=b:=by unfold jB at h a;rw[h] at a;cases a;rfl
mutual
def eI (K:Fg) (H:Hp):eA->V->Prop
  |.none,v=>v=.lb
  |.bool b,v=>v=.bl b
  |.int i,v=>v=.int i
  |.str x,v=>v=.str x
  |.list xs,v=>∃p vs,v=.ref p/\j0 K H p vs/\dn K H xs vs
  |.tuple xs,v=>∃p vs,v=.ref p/\pW K H p vs/\dn K H xs vs
  |.dict kvs,v=>∃p,v=.ref p/\((∃kv,Rd H p (.dK kv)/\fZ K H kvs kv)\/∃c C dx fs,jB K c C/\H p=Y (.ins C dx fs)/\oX K H c kvs fs)
def dn (K:Fg) (H:Hp):Lp->List V->Prop
  |[],vs=>vs=[]
  |d::ds,vs=>∃v r,vs=v::r/\eI K H d v/\dn K H ds r
def fZ (K:Fg) (H:Hp):List (eA×eA)->List (Key×V)->Prop
  |[],kv=>kv=[]
  | (k,d)::r,kv=>∃y v r',kv=(y,v)::r'/\k=kh y/\eI K H d v/\fZ K H r r'
def oX (K:Fg) (H:Hp) (c:Str):List (eA×eA)->List (Str×V)->Prop
  |[],_=>False
  | (k,d)::r,fs=>k=.none/\d=.str c/\j3 K H r fs
def j3 (K:Fg) (H:Hp):List (eA×eA)->List (Str×V)->Prop
  |[],fs=>fs=[]
  | (k,d)::r,fs=>∃y v r',fs=(y,v)::r'/\k=.str y/\eI K H d v/\j3 K H r r'
end
def eN.rd{b:Hp}{u:HO}(e:eN H b)(h:Rd H a u):Rd b a u:=h.imp (e _ _) λ⟨o,z⟩=>⟨o,e _ _ z⟩
def eN.rk{c:Hp}{b:List V}(e:eN H c)(h:pW K H a b):pW K c a b:=by
 rcases h with (h | ⟨o,h⟩)|h
 ·exact .inl (.inl (e _ _ h))
 ·exact .inl (.inr ⟨o,e _ _ h⟩)
 ·exact .inr h
structure An (K:Fg) (H H':Hp):Prop where
 seq:∀{a xs},j0 K H a xs->j0 K H' a xs
 rk:∀{a xs},pW K H a xs->pW K H' a xs
 rd:∀{a kv},Rd H a (.dK kv)->Rd H' a (.dK kv)
 ins:∀{a C dx fs},H a=Y (.ins C dx fs)->H' a=Y (.ins C dx fs)
def eN.sim{a:Hp}(e:eN H a):An K H a:=⟨e.seq,e.rk,e.rd,e _ _⟩
mutual
theorem eI.sim {K:Fg}{H H':Hp} (e:An K H H'):∀{d:eA}{v:V},eI K H d v->eI K H' d v
  |.none,_,h=>by unfold eI at h ⊢;exact h
  |.bool _,_,h=>by unfold eI at h ⊢;exact h
  |.int _,_,h=>by unfold eI at h ⊢;exact h
  |.str _,_,h=>by unfold eI at h ⊢;exact h
  |.list _,_,h=>by
    unfold eI at h ⊢
    obtain⟨p,vs,e1,e2,e3⟩:=h
    exact⟨p,vs,e1,e.seq e2,dn.sim e e3⟩
  |.tuple _,_,h=>by
    unfold eI at h ⊢
    obtain⟨p,vs,e1,e2,e3⟩:=h
    exact⟨p,vs,e1,e.rk e2,dn.sim e e3⟩
  |.dict _,_,h=>by
    unfold eI at h ⊢
    obtain⟨p,e1,⟨kv,e2,e3⟩ | ⟨c,C,dx,fs,e2,e3,e4⟩⟩:=h
    · exact⟨p,e1,.inl ⟨kv,e.rd e2,fZ.sim e e3⟩⟩
    · exact⟨p,e1,.inr ⟨c,C,dx,fs,e2,e.ins e3,oX.sim e e4⟩⟩
theorem dn.sim {K:Fg}{H H':Hp} (e:An K H H'):∀{ds:Lp}{vs:List V},dn K H ds vs->dn K H' ds vs
  |[],_,h=>by unfold dn at h ⊢;exact h
  |_::_,_,h=>by
    unfold dn at h ⊢
    obtain⟨v,r,e1,e2,e3⟩:=h
    exact⟨v,r,e1,eI.sim e e2,dn.sim e e3⟩
theorem fZ.sim {K:Fg}{H H':Hp} (e:An K H H'):∀{ds:List (eA×eA)}{kv:List (Key×V)},fZ K H ds kv->fZ K H' ds kv
  |[],_,h=>by unfold fZ at h ⊢;exact h
  | (_,_)::_,_,h=>by
    unfold fZ at h ⊢
    obtain⟨y,v,r,e1,e2,e3,e4⟩:=h
    exact⟨y,v,r,e1,e2,eI.sim e e3,fZ.sim e e4⟩
theorem oX.sim {K:Fg}{H H':Hp}{c:Str} (e:An K H H'):∀{ds:List (eA×eA)}{fs:List (Str×V)},oX K H c ds fs->oX K H' c ds fs
  |[],_,h=>by unfold oX at h ⊢;exact h
  | (_,_)::_,_,h=>by
    unfold oX at h ⊢
    exact⟨h.1,h.2.1,j3.sim e h.2.2⟩
theorem j3.sim {K:Fg}{H H':Hp} (e:An K H H'):∀{ds:List (eA×eA)}{fs:List (Str×V)},j3 K H ds fs->j3 K H' ds fs
  |[],_,h=>by unfold j3 at h ⊢;exact h
  | (_,_)::_,_,h=>by
    unfold j3 at h ⊢
    obtain⟨y,v,r,e1,e2,e3,e4⟩:=h
    exact⟨y,v,r,e1,e2,eI.sim e e3,j3.sim e e4⟩
end
section
variable {H':Hp}
def eI.same(e:eN H H')(h:eI K H d v):eI K H' d v:=h.sim e.sim
def dn.same(e:eN H H')(h:dn K H ds vs):dn K H' ds vs:=h.sim e.sim
def fZ.same(e:eN H H'){ds:List (eA×eA)}(h:fZ K H ds kv):fZ K H' ds kv:=h.sim e.sim
end
section
def eI.gP:eI K H .none v↔v=.lb:=by unfold eI;exact cI
def eI.fh{b:Bool}:eI K H (.bool b) v↔v=.bl b:=by unfold eI;exact cI
def eI.eR{i:Int}:eI K H (.int i) v↔v=.int i:=by unfold eI;exact cI
def eI.fq:eI K H (.str x) v↔v=.str x:=by unfold eI;exact cI
def eI.eZ{a:Lp}:eI K H (.list a) v↔∃p b,v=.ref p/\j0 K H p b/\dn K H a b:=by unfold eI;exact cI
def eI.iX{a:Lp}:eI K H (.tuple a) v↔∃p b,v=.ref p/\pW K H p b/\dn K H a b:=by unfold eI;exact cI
def eI.gI{a:Lp}(h:eI K H (.tuple a) v):∃p b,v=.ref p/\pW K H p b/\dn K H a b:=eI.iX.mp h
def eI.lh:eI K H (.dict kvs) v↔∃p,v=.ref p/\((∃a,Rd H p (.dK a)/\fZ K H kvs a)\/∃c C d b,jB K c C/\H p=Y (.ins C d b)/\oX K H c kvs b):=by unfold eI;exact cI
def fZ.eP:fZ K H [] kv↔kv=[]:=by unfold fZ;exact cI
def fZ.eE{k:eA}{r:List (eA×eA)}:fZ K H ((k,d)::r) kv↔∃y v a,kv=(y,v)::a/\k=kh y/\eI K H d v/\fZ K H r a:=by
 constructor
 ·intro h;unfold fZ at h;exact h
 ·intro h;unfold fZ;exact h
def j3.eP{a:List (Str×V)}:j3 K H [] a↔a=[]:=by unfold j3;exact cI
def j3.eE{k:eA}{r:List (eA×eA)}{b:List (Str×V)}:j3 K H ((k,d)::r) b↔∃y v a,b=(y,v)::a/\k=.str y/\eI K H d v/\j3 K H r a:=by
 constructor
 ·intro h;unfold j3 at h;exact h
 ·intro h;unfold j3;exact h
def oX.eE{c:Str}{k:eA}{r:List (eA×eA)}{a:List (Str×V)}:oX K H c ((k,d)::r) a↔k=.none/\d=.str c/\j3 K H r a:=by
 constructor
 ·intro h;unfold oX at h;exact h
 ·intro h;unfold oX;exact h
def oX.eP{c:Str}{a:List (Str×V)}:oX K H c [] a↔False:=by unfold oX;exact cI
def dn.eP:dn K H [] vs↔vs=[]:=by unfold dn;exact cI
def dn.eE:dn K H (d::ds) vs↔∃v r,vs=v::r/\eI K H d v/\dn K H ds r:=by
 constructor
 ·intro h;unfold dn at h;exact h
 ·intro h;unfold dn;exact h
def dn.nil:dn K H [] []:=dn.eP.mpr rfl
def dn.cons{d:eA}{ds:Lp}(h:eI K H d v)(t:dn K H ds vs):dn K H (d::ds) (v::vs):=dn.eE.mpr ⟨v,vs,rfl,h,t⟩
theorem dn.length{ds:Lp}(h:dn K H ds vs):ds.length=vs.length:=by
 induction ds generalizing vs with
 |nil=>rw[dn.eP.mp h];rfl
 |cons d ds a=>obtain⟨v,r,rfl,_,t⟩:=dn.eE.mp h;simp[a t]
def dn.get(h:dn K H ds vs)(e:ds[i]?=Y d):∃v,vs[i]?=Y v/\eI K H d v:=by
 induction ds generalizing vs i with
 |nil=>simp at e
 |cons g ds a=>
  obtain⟨v,r,rfl,b,t⟩:=dn.eE.mp h;cases i with
  |zero=>simp at e;subst e;exact⟨v,rfl,b⟩
  |succ i=>obtain⟨u,f,c⟩:=a t (by simpa using e);exact⟨u,by simpa using f,c⟩
def dn.get'(h:dn K H ds vs)(e:vs[i]?=Y v):∃d,ds[i]?=Y d/\eI K H d v:=by have f:=h.length;have g:i<vs.length:=(au.mp e).1;have a:ds[i]?=Y ds[i]:=aL (by omega);obtain⟨u,b,c⟩:=h.get a;rw[e] at b;cases b;exact⟨_,a,c⟩
def dn.append{b:Lp}{a:List V}(h:dn K H ds vs)(t:dn K H b a):dn K H (ds++b) (vs++a):=by
 induction ds generalizing vs with
 |nil=>rw[dn.eP.mp h];exact t
 |cons d ds e=>obtain⟨v,r,rfl,f,c⟩:=dn.eE.mp h;exact dn.cons f (e c)
theorem dn.take{a:Lp}(n:Nat)(h:dn K H a vs):dn K H (a.take n) (vs.take n):=by
 induction a generalizing vs n with
 |nil=>rw[dn.eP.mp h];simp;exact dn.nil
 |cons d a c=>
  obtain⟨v,r,rfl,e,b⟩:=dn.eE.mp h;cases n with
  |zero=>simp;exact dn.nil
  |succ n=>simp only[List.take_succ_cons];exact dn.cons e (c n b)
theorem dn.drop{a:Lp}(n:Nat)(h:dn K H a vs):dn K H (a.drop n) (vs.drop n):=by
 induction a generalizing vs n with
 |nil=>rw[dn.eP.mp h];simp;exact dn.nil
 |cons d a c=>
  obtain⟨v,r,rfl,e,b⟩:=dn.eE.mp h;cases n with
  |zero=>exact h
  |succ n=>simp only[List.drop_succ_cons];exact c n b
end
section
mutual
theorem eX.pF (I:eX X pins σ H s):∀{d:eA}{v:V}{u:Value},d.canLay0=true->eI X.K H d v->fT v u->∃as,Reads s.heap u d as
  |.none,_,_,_,h,r=>by rw[eI.gP.mp h] at r;cases r;exact⟨_,.none⟩
  |.bool b,_,_,_,h,r=>by rw[eI.fh.mp h] at r;cases r;exact⟨_,.bool b⟩
  |.int i,_,_,_,h,r=>by rw[eI.eR.mp h] at r;obtain⟨t,rfl⟩:=r;exact⟨_,.int i t⟩
  |.str x,_,_,_,h,r=>by rw[eI.fq.mp h] at r;obtain⟨t,rfl⟩:=r;exact⟨_,.str x t⟩
  |.list xs,_,_,hc,h,r=>by
    obtain⟨p,vs,rfl,e2,e3⟩:=eI.eZ.mp h
    cases r
    obtain⟨its,rv,⟨o,n,e,c,_,dd⟩,_⟩:=I.list e2
    obtain⟨as,ra⟩:=eX.CC I (by simpa [eA.canLay0] using hc) e3 rv
    exact⟨_,.list e c dd (by simpa using ra)⟩
  |.tuple xs,_,_,hc,h,r=>by
    obtain⟨p,vs,rfl,e2,e3⟩:=h.gI
    cases r
    obtain⟨its,rv,⟨o,e,c,n,dd⟩,_⟩:=I.tuple e2
    obtain⟨as,ra⟩:=eX.CC I (by simpa [eA.canLay0] using hc) e3 rv
    exact⟨_,.tuple e c dd (by simpa using ra)⟩
  |.dict _,_,_,hc,_,_=>by simp[eA.canLay0] at hc
theorem eX.CC (I:eX X pins σ H s):∀{ds:Lp}{vs:List V}{us:Lw},eA.canLayAll0 ds=true->dn X.K H ds vs->fO vs us->∃as,ReadsAll s.heap us ds as
  |[],_,_,_,h,r=>by rw[dn.eP.mp h] at r;cases r;exact⟨_,.nil⟩
  |d::ds,_,_,hc,h,r=>by
    have UB:d.canLay0=true/\eA.canLayAll0 ds=true:=by simpa [eA.canLayAll0] using hc
    obtain⟨v,rr,rfl,h1,t⟩:=dn.eE.mp h
    cases r with
    |cons r1 r2=>
      obtain⟨as,ra⟩:=eX.pF I UB.1 h1 r1
      obtain⟨bs,rb⟩:=eX.CC I UB.2 t r2
      exact⟨_,.cons ra rb⟩
end
end
abbrev ee:=List (Option eA)
def ju(K:Fg)(H:Hp)(σ:St)(ρ:ee):Prop:=σ.length=ρ.length/\∀(i:Nat) (d:eA),ρ[i]?=Y (Y d)->∃v,σ[i]?=Y (Y v)/\eI K H d v
theorem ju.same{K:Fg}{H c:Hp}{σ:St}{ρ:ee}(h:ju K H σ ρ)(e:eN H c):ju K c σ ρ :=
 ⟨h.1,λi d q=>by obtain⟨v,a,b⟩:=h.2 i d q;exact⟨v,a,b.same e⟩⟩
theorem ju.set{K:Fg}{H:Hp}{σ:St}{ρ:ee}{i:Nat}{d:eA}{v:V}(h:ju K H σ ρ)(e:eI K H d v):ju K H (σ.set i (Y v)) (ρ.set i (Y d)):=by
 refine⟨by simpa using h.1,λj g q=>?_⟩;by_cases c:j=i
 ·subst c;have f:j<ρ.length:=by
   have:=(au.mp q).1;simpa using this
  rw[aH f] at q;cases q;exact⟨v,by rw[aH (by rw[h.1];exact f)],e⟩
 ·rw[ay (Ne.symm c)] at q;obtain⟨u,a,b⟩:=h.2 j g q;exact⟨u,by rw[ay (Ne.symm c)];exact a,b⟩
def KD(K:Fg)(H:Hp)(d:eA)(Q:VK):Prop:=∀v a,eN H a->eI K a d v->Q v a
def KD.here{Q:VK}(k:KD K H d Q)(h:eI K H d v):Q v H:=k v H (.refl H) h
def KD.later{a:Hp}{Q:VK}(k:KD K H d Q)(e:eN H a):KD K a d Q:=λv c b i=>k v c (e.trans b) i
def tD(K:Fg)(f:ee->Od):TE:=λσ H Q=>∃ρ d,ju K H σ ρ/\f ρ=Y d/\KD K H d Q
def PD(X:Cx)(e:Expr)(f:ee->Od):Prop:=PE X e (tD X.K f)
def X5(K:Fg)(f:ee->Option Bool):TT:=λσ H Q=>∃ρ b,ju K H σ ρ/\f ρ=Y b/\∀a,eN H a->Q b a
def Bo(X:Cx)(e:Expr)(f:ee->Option Bool):Prop:=PT X e (X5 X.K f)
def ZF(K:Fg)(f:ee->Option Lp):TA:=λσ H Q=>∃ρ c,ju K H σ ρ/\f ρ=Y c/\∀b a,eN H a->dn K a c b->Q b a
def Bp(X:Cx)(a:Lx)(f:ee->Option Lp):Prop:=PA X a (ZF X.K f)
inductive gQ where
 |nx (ρ:ee)|rt (d:eA)|bk (ρ:ee)|ct (ρ:ee)
def PE.imp{t u:TE}(h:PE X e t)(k:∀σ H Q,u σ H Q->t σ H Q):PE X e u:=λa s σ H Q I q=>@h a s σ H Q I (k σ H Q q)
def PT.imp{t u:TT}(h:PT X e t)(k:∀σ H Q,u σ H Q->t σ H Q):PT X e u:=λa s σ H Q I q=>@h a s σ H Q I (k σ H Q q)
def PA.imp{e:Lx}{t u:TA}(h:PA X e t)(k:∀σ H Q,u σ H Q->t σ H Q):PA X e u:=λp a s σ H Q I q=>@h p a s σ H Q I (k σ H Q q)
def PS.imp{e:Stmt}{t u:TS}(h:PS X e t)(k:∀D σ H,u D σ H->t D σ H):PS X e u:=λa s σ H D I q=>@h a s σ H D I (k D σ H q)
def we.imp{e:List Stmt}{t u:TS}(h:we X e t)(k:∀D σ H,u D σ H->t D σ H):we X e u:=λa s σ H D I q=>@h a s σ H D I (k D σ H q)
def ko.imp{r b:R2}(h:ko X f r)(k:∀x y H Q,b x y H Q->r x y H Q):ko X f b:=λa s σ H x y v u Q I d c q=>@h a s σ H x y v u Q I d c (k _ _ _ _ q)
def Jb.imp{r d:R2}(h:Jb X r)(k:∀x y H Q,d x y H Q->r x y H Q):Jb X d:=λa b c s σ H x y v u Q I g f q e=>h a b c s σ H x y v u Q I g f (k _ _ _ _ q) e
def jc.imp{f:Value}{r b:List V->Hp->VK->Prop}(h:jc X f r)(k:∀xs H Q,b xs H Q->r xs H Q):jc X f b:=λa s σ H xs c Q I d q=>@h a s σ H xs c Q I d (k _ _ _ q)
end L2
variable  {g:L2.ee->Option Bool}{fa:L2.ee->Od}{ff q:L2.ee->Option Lp}
namespace L2
open PySem PySem.Spec PyProof.Rows
section
variable {a:Expr}{fb fc f:ee->Od}
noncomputable def a6(i:Nat):ee->Od:=λρ=>(ρ[i]?).join
def a0(i:Nat) (g:X.N[i]?=Y x:=by rfl) (b:Ma X.env.scope x:=by first|exact b7 rfl|exact bF (b7 rfl)|exact bF (bF rfl)) (f:zg x:=by decide)
  (a:(x==("__classdict__":Str))=false:=by decide):PD X (.Name x pos) (a6 i):=by
 refine PE.imp (qi g b f a) ?_;rintro σ H Q ⟨ρ,d,c,e,k⟩;have l:ρ[i]?=Y (Y d):=by
  unfold a6 at e;cases q:ρ[i]? with
  |none=>rw[q] at e;cases e
  |some o=>rw[q] at e;cases o with
   |none=>cases e
   |some m=>cases e;rfl
 obtain⟨v,j,h⟩:=c.2 i d l;exact⟨v,j,k.here h⟩
noncomputable def dC(d:eA):ee->Od:=λ_=>Y d
def c4{i j}:PD X (.Constant (.int i) j pos) (dC (.int i)):=PE.imp R4 <| by rintro σ H Q ⟨_,d,_,e,k⟩;cases e;exact k.here (eI.eR.mpr rfl)
def jC{i j}:PD X (.Constant (.bool i) j pos) (dC (.bool i)):=PE.imp UD <| by rintro σ H Q ⟨_,d,_,e,k⟩;cases e;exact k.here (eI.fh.mpr rfl)
def fw{j}:PD X (.Constant .none j pos) (dC .none):=PE.imp R5 <| by rintro σ H Q ⟨_,d,_,e,k⟩;cases e;exact k.here (eI.gP.mpr rfl)
def dr{x j}:PD X (.Constant (.str x) j pos) (dC (.str x)):=PE.imp R6 <| by rintro σ H Q ⟨_,d,_,e,k⟩;cases e;exact k.here (eI.fq.mpr rfl)
def Xa(K:Fg)(g:eA->eA->Od):R2:=λx y H Q=>∃a b c,eI K H a x/\eI K H b y/\g a b=Y c/\KD K H c Q
def rP(X:Cx)(f:Value->Value->Sem Value)(g:eA->eA->Od):Prop:=ko X f (Xa X.K g)
noncomputable def d2(g:eA->eA->Od)(b a:ee->Od):ee->Od:=λρ=>(b ρ).bind λx=>(a ρ).bind λy=>g x y
def bind_some{β:Type}{o:Option α}{k:α->Option β}{b:β}(h:o.bind k=Y b):∃a,o=Y a/\k a=Y b:=by
 cases o with
 |none=>cases h
 |some a=>exact⟨a,rfl,h⟩
def Xb{g:eA->eA->Od}{Q:VK}(h:tD K (d2 g fa fb) σ H Q):Uh (Xa K g) (tD K fa) (tD K fb) σ H Q:=by obtain⟨ρ,d,c,e,k⟩:=h;obtain⟨x,l,e⟩:=bind_some e;obtain⟨y,j,e⟩:=bind_some e;exact⟨ρ,x,c,l,λv n b i=>⟨ρ,y,c.same b,j,λu m a f=>⟨x,y,d,i.same a,f,e,k.later (b.trans a)⟩⟩⟩
def gD{c:Operator}{g:eA->eA->Od}(d:rP X (binaryOp c) g)(f:PD X a fa)(e:PD X b fb):PD X (.BinOp a c b pos) (d2 g fa fb) :=
 PE.imp (MB d f e) λ_ _ _ h=>Xb h
def SG{c:CmpOp}{g:eA->eA->Od}(d:rP X (compareOp c) g)(i:PD X a fa)(f:PD X b fb)(e:behindInMarks c b=false):PD X (.Compare a [c] [b] pos) (d2 g fa fb) :=
 PE.imp (IZ d i f e) λ_ _ _ h=>Xb h
def ZG(X:Cx)(g:eA->eA->Od):Prop:=Jb X (Xa X.K g)
def Vg{g:eA->eA->Od}(d:ZG X g)(f:PD X a fa)(e:PD X b fb)(c:tH b):PD X (.Subscript a b pos) (d2 g fa fb) :=
 PE.imp (ML d f e c) λ_ _ _ h=>Xb h
noncomputable def dI(C:Int->Int->Bool)(g:Int->Int->eA):eA->eA->Od
 |.int i,.int j=>if C i j then Y (g i j) else Z
 |_,_=>Z
def CD{C:Int->Int->Bool}{g:Int->Int->eA}{x y:eA}(h:dI C g x y=Y d):∃i j,x=.int i/\y=.int j/\C i j=true/\d=g i j:=by
 cases x<;>cases y<;>try (simp[dI] at h;done)
 rename_i i j;dsimp only[dI] at h;by_cases a:C i j=true
 ·rw[ag a] at h;cases h;exact⟨i,j,rfl,rfl,a,rfl⟩
 ·rw[ai a] at h;cases h
def Jh{f:Value->Value->Sem Value}{P:Int->Int->Prop}{C:Int->Int->Bool}{g:Int->Int->Int}(h:ko X f (rI P λi j=>.int (g i j)))(n:∀i j,C i j=true->P i j):rP X f (dI C λi j=>.int (g i j)) :=
 ko.imp h <| by rintro x y H Q ⟨a,b,d,m,l,e,k⟩;obtain⟨i,j,rfl,rfl,c,rfl⟩:=CD e;exact⟨i,j,eI.eR.mp m,eI.eR.mp l,n i j c,k.here (eI.eR.mpr rfl)⟩
def SH{f:Value->Value->Sem Value}{g:Int->Int->Int}(h:ko X f (O9 λi j=>.int (g i j))):rP X f (dI (λ_ _=>true) λi j=>.int (g i j)) :=
 ko.imp h <| by rintro x y H Q ⟨a,b,d,m,l,e,k⟩;obtain⟨i,j,rfl,rfl,c,rfl⟩:=CD e;exact⟨i,j,eI.eR.mp m,eI.eR.mp l,k.here (eI.eR.mpr rfl)⟩
def CF{f:Value->Value->Sem Value}{g:Int->Int->Bool}(h:ko X f (O9 λi j=>.bl (g i j))):rP X f (dI (λ_ _=>true) λi j=>.bool (g i j)) :=
 ko.imp h <| by rintro x y H Q ⟨a,b,d,m,l,e,k⟩;obtain⟨i,j,rfl,rfl,c,rfl⟩:=CD e;exact⟨i,j,eI.eR.mp m,eI.eR.mp l,k.here (eI.fh.mpr rfl)⟩
def qs(i:Int):Bool:=decide (Builtin.Int.intBits i<=2 ^ 20)
def P1:ko X (binaryOp .Mult) (rI (λi j=>qs i=true/\qs j=true) λi j=>.int (i*j)):=W6 λ_ _ _ _ _ _ _ a q=>mul_int q (.of_bits (of_decide_eq_true a.1) (of_decide_eq_true a.2))
noncomputable def Ao:=dI (λ_ _=>true) λi j=>.int (i - j)
noncomputable def Vh:=dI (λi j=>qs i&&qs j) λi j=>.int (i*j)
noncomputable def KA:=dI (λ_ j=>decide (0<j)&&decide (j<1073741824)) λi j=>.int (i / j)
noncomputable def wZ:=dI (λ_ j=>decide (0<j)) λi j=>.int (i % j)
def P2:=dI (λi j=>decide (0<=j)&&decide (j<=1000000)&&decide (i.natAbs<2 ^ 64)) λi j=>.int (i ^ j.toNat)
def yB:rP X (binaryOp .Sub) Ao:=SH Sf
def SI:rP X (binaryOp .Mult) Vh:=Jh P1 λi j h=>by simpa using h
def Hc:rP X (binaryOp .FloorDiv) KA:=Jh Pp λi j h=>by simpa [US] using h
def sk:rP X (binaryOp .Mod) wZ:=Jh Sg λi j h=>by simpa using h
def SJ:rP X (binaryOp .Pow) P2:=Jh Sh λi j h=>by simp only[bR,dS] at h;exact⟨h.1.1,h.1.2,h.2⟩
def Ro:=dI (λ_ _=>true) λi j=>.bool (decide (i<j))
def ZH:=dI (λ_ _=>true) λi j=>.bool (decide (i<=j))
def vc:=dI (λ_ _=>true) λi j=>.bool (decide (j<i))
def Vi:=dI (λ_ _=>true) λi j=>.bool (decide (j<=i))
def Bq:rP X (compareOp .Lt) Ro:=CF UT
def Vj:rP X (compareOp .LtE) ZH:=CF UU
def oh:rP X (compareOp .Gt) vc:=CF UW
def M0:rP X (compareOp .GtE) Vi:=CF UX
def Vk(K:Fg):R2:=λx y H Q=>∃l b c a,x=.ref l/\y=.ref b/\j0 K H l c/\j0 K H b a/\c.length+a.length<=sizeLine/\∀p,H p=Z->Q (.ref p) (upd H p (.lst (c++a)))
def Ji:ko X (binaryOp .Add) (Vk X.K):=by
 intro p s σ H x y v u Q I E D h;obtain⟨l,b,R,P,rfl,rfl,L,M,S,q⟩:=h;cases E;cases D;obtain⟨c,r,G,_⟩:=I.list L;obtain⟨a,o,j,_⟩:=I.list M;have U:=r.length;have T:=o.length;obtain⟨⟨O,N,A,C⟩,n,t,z,_,w⟩:=G;obtain⟨⟨B,k,m,i⟩,J,d,g,_,f⟩:=j;simp only at z w g f;subst z w g f;have e:c.toArray++a.toArray=(c++a).toArray:=by simp
 refine d4 ⟨_,t,rfl⟩ ⟨_,d,rfl⟩ noFill_list_add seq_list_add PySem.F.slot_list_add PySem.F.entry_list_add (PySem.F.args_list_add_2 _ _) (list_addW l b c.toArray a.toArray n J N k C i (by simp;omega)) ⟨t,d,?_⟩;rw[e];exact⟨.ref _,_,I.Sx (t':=s.toks) (r.append o) (by rw[aQ];omega),rfl,q _ I.fresh⟩
def P4:ko X (binaryOp .Add) (λx y H Q=>∃l b o,x=.ref l/\y=.ref b/\pW X.K H l []/\pW X.K H b o/\Q (.ref b) H):=by
 intro p s σ H x y v u Q I E D h;obtain⟨l,b,o,rfl,rfl,J,L,q⟩:=h;cases E;cases D;obtain⟨d,r,F,_⟩:=I.tuple J;obtain⟨c,R,j,_⟩:=I.tuple L;have M:=r.length;obtain⟨⟨P,O,A,C⟩,t,z,n,w⟩:=F;obtain⟨⟨B,k,m,i⟩,e,g,G,f⟩:=j;simp only at z w g f;subst z w g f;have N:d=[]:=by cases d with
  |nil=>rfl
  |cons a r=>simp at M
 subst N;exact d4 ⟨_,t,rfl⟩ ⟨_,e,rfl⟩ dX seq_tuple_add de cZ (cS _ _) (tuple_addW0 l b #[] c.toArray n G O k C i rfl) ⟨t,e,⟨.ref b,H,I,rfl,q⟩⟩
def hE{p:Addr}{o:HO}(h:H p=Z):eN H (upd H p o):=λb u e=>by rw[eM (gm e h)];exact e
def EG{p:Addr}(h:H p=Z)(e:dn K H ds vs):eI K (upd H p (.lst vs)) (.list ds) (.ref p) :=
 eI.eZ.mpr ⟨p,vs,rfl,j0.of eS,e.same (hE h)⟩
def M3{p:Addr}(h:H p=Z)(e:dn K H ds vs):eI K (upd H p (.tup vs)) (.tuple ds) (.ref p) :=
 eI.iX.mpr ⟨p,vs,rfl,pW.of eS,e.same (hE h)⟩
def KD.yC{Q:VK}(k:KD K H (.list ds) Q)(e:dn K H ds vs):∀p,H p=Z->Q (.ref p) (upd H p (.lst vs)):=λp h=>k _ _ (hE h) (EG h e)
def KD.SK{Q:VK}(k:KD K H (.tuple ds) Q)(e:dn K H ds vs):∀p,H p=Z->Q (.ref p) (upd H p (.tup vs)):=λp h=>k _ _ (hE h) (M3 h e)
noncomputable def hU:eA->eA->Od
 |.int i,.int j=>Y (.int (i+j))
 |.str x,.str y=>if x.length+y.length<=sizeLine then Y (.str (x++y)) else Z
 |.list xs,.list ys=>if xs.length+ys.length<=sizeLine then Y (.list (xs++ys)) else Z
 |.tuple xs,.tuple ys=>if xs.length+ys.length<=sizeLine then Y (.tuple (xs++ys)) else Z
 |_,_=>Z
def ip:rP X (binaryOp .Add) hU:=by
 refine ko.imp (Se.or (GO.or (Ji.or (PK.or P4)))) ?_;rintro x y H Q ⟨a,b,d,l,h,e,k⟩;cases a<;>cases b<;>try (simp[hU] at e;done)
 ·rename_i i j;cases e;exact .inl ⟨i,j,eI.eR.mp l,eI.eR.mp h,k.here (eI.eR.mpr rfl)⟩
 ·rename_i i j;dsimp only[hU] at e;by_cases c:i.length+j.length<=sizeLine
  ·rw[ag c] at e;cases e;exact .inr (.inl ⟨i,j,eI.fq.mp l,eI.fq.mp h,c,k.here (eI.fq.mpr rfl)⟩)
  ·rw[ai c] at e;cases e
 ·rename_i i j;dsimp only[hU] at e;by_cases c:i.length+j.length<=sizeLine
  ·rw[ag c] at e;cases e;obtain⟨p,r,rfl,m,f⟩:=eI.eZ.mp l;obtain⟨q,n,rfl,o,g⟩:=eI.eZ.mp h;exact .inr (.inr (.inl ⟨p,q,r,n,rfl,rfl,m,o,by rw[<-f.length,<-g.length];exact c,k.yC (f.append g)⟩))
  ·rw[ai c] at e;cases e
 ·rename_i i j;dsimp only[hU] at e;by_cases c:i.length+j.length<=sizeLine
  ·rw[ag c] at e;cases e;obtain⟨p,r,rfl,m,f⟩:=l.gI;obtain⟨q,n,rfl,o,g⟩:=h.gI;cases i with
   |nil=>rw[dn.eP.mp f] at m;exact .inr (.inr (.inr (.inr ⟨p,q,n,rfl,rfl,m,o,k.here h⟩)))
   |cons t s=>
    refine .inr (.inr (.inr (.inl ⟨p,q,r,n,rfl,rfl,m,o,?_,by rw[<-f.length,<-g.length];exact c,λz=>?_,λz=>k.SK (f.append g)⟩)))
    ·intro z;subst z;have:=f.length;simp at this
    ·subst z;have:j=[]:=by have:=g.length;cases j with
      |nil=>rfl
      |cons _ _=>simp at this
     subst this;rw[aR] at k;exact k.here l
  ·rw[ai c] at e;cases e
noncomputable def kZ:eA->eA->Od:=λa b=>if SeqAt.shaped a=true/\SeqAt.shaped b=true then Y (.bool (eA.eqv a b)) else Z
noncomputable def rR:eA->eA->Od:=λa b=>if SeqAt.shaped a=true/\SeqAt.shaped b=true then Y (.bool (!eA.eqv a b)) else Z
def gn(n:X.A.units+64<cLine):rP X (compareOp .Eq) kZ:=by
 intro f s σ H x y v u Q I h g ⟨a,b,d,m,l,e,k⟩;unfold kZ at e;by_cases c:SeqAt.shaped a=true/\SeqAt.shaped b=true
 ·rw[ag c] at e;cases e;obtain⟨p,j⟩:=I.pF (aS c.1) m h;obtain⟨o,i⟩:=I.pF (aS c.2) l g;exact eq_dataH j i c.1 c.2 n ⟨.bl _,H,I,rfl,k.here (eI.fh.mpr rfl)⟩
 ·rw[ai c] at e;cases e
def mx(n:X.A.units+64<cLine):rP X (compareOp .NotEq) rR:=by
 intro f s σ H x y v u Q I h g ⟨a,b,d,m,l,e,k⟩;unfold rR at e;by_cases c:SeqAt.shaped a=true/\SeqAt.shaped b=true
 ·rw[ag c] at e;cases e;obtain⟨p,j⟩:=I.pF (aS c.1) m h;obtain⟨o,i⟩:=I.pF (aS c.2) l g;exact ne_dataH j i c.1 c.2 n ⟨.bl _,H,I,rfl,k.here (eI.fh.mpr rfl)⟩
 ·rw[ai c] at e;cases e
noncomputable def Xc:eA->eA->Od
 |.list xs,.int i=>rj xs i
 |.tuple xs,.int i=>rj xs i
 |.str z,.int i=>if z.length<=sizeLine then (rj z.cps.toList i).map λc=>.str ⟨#[c]⟩ else Z
 |_,_=>Z
def Rp{i:Int}(h:dn K H ds vs)(e:rj ds i=Y d):∃v,rj vs i=Y v/\eI K H d v:=by
 unfold rj at e ⊢;rw[<-h.length];cases q:Ey ds.length i with
 |none=>rw[q] at e;cases e
 |some j=>rw[q] at e;exact h.get e
def ixD:ZG X Xc:=by
 refine Jb.imp Sv ?_;rintro x y H Q ⟨a,b,d,j,h,e,k⟩;cases a<;>cases b<;>try (simp[Xc] at e;done)
 ·rename_i z i;dsimp only[Xc] at e;by_cases l:z.length<=sizeLine
  ·rw[ag l] at e;obtain⟨c,r,f⟩:=aa.mp e;subst f;exact .inr (.inr ⟨z,i,c,eI.fq.mp j,eI.eR.mp h,l,r,k.here (eI.fq.mpr rfl)⟩)
  ·rw[ai l] at e;cases e
 ·rename_i q i;obtain⟨p,g,rfl,f,o⟩:=eI.eZ.mp j;obtain⟨v,n,m⟩:=Rp o e;exact .inl ⟨p,g,i,v,rfl,eI.eR.mp h,f,n,k.here m⟩
 ·rename_i q i;obtain⟨p,g,rfl,f,o⟩:=j.gI;obtain⟨v,n,m⟩:=Rp o e;exact .inr (.inl ⟨p,g,i,v,rfl,eI.eR.mp h,f,n,k.here m⟩)
noncomputable def Hd:eA->Option Bool
 |.none=>Y false
 |.bool b=>Y b
 |.int i=>Y (i != 0)
 |.str y=>if y.length<=sizeLine then Y ((y.length:Int) != 0) else Z
 |.list xs=>Y (!xs.isEmpty)
 |.tuple xs=>Y (!xs.isEmpty)
 |.dict _=>Z
def yD(h:dn K H ds vs):ds.isEmpty=vs.isEmpty:=by have:=h.length;cases ds<;>cases vs<;>first|rfl|(simp at this)
def M4{k:Bool}(h:eI K H d v)(e:Hd d=Y k):Sl K v H k:=by
 cases d with
 |none=>rw[eI.gP.mp h];cases e;rfl
 |bool b=>rw[eI.fh.mp h];cases e;rfl
 |int i=>rw[eI.eR.mp h];cases e;rfl
 |str y=>
  rw[eI.fq.mp h];dsimp only[Hd] at e;by_cases c:y.length<=sizeLine
  ·rw[ag c] at e;cases e;exact⟨c,rfl⟩
  ·rw[ai c] at e;cases e
 |list j=>obtain⟨p,a,rfl,g,f⟩:=eI.eZ.mp h;cases e;exact .inl ⟨a,g,by rw[yD f]⟩
 |tuple j=>obtain⟨p,a,rfl,g,f⟩:=h.gI;cases e;exact .inr (.inl ⟨a,g,by rw[yD f]⟩)
 |dict _=>cases e
noncomputable def fB(f:ee->Od):ee->Option Bool:=λρ=>(f ρ).bind λd=>match d with | .bool b=>Y b|_=>Z
def xU{ρ:ee}{b:Bool}(h:fB f ρ=Y b):f ρ=Y (.bool b):=by obtain⟨d,c,a⟩:=bind_some h;cases d<;>first|(cases a;exact c)|cases a
def P5{c:CmpOp}{g:eA->eA->Od}(i:rP X (compareOp c) g)(m:PD X a fa)(l:PD X b fb)(j:behindInMarks c b=false):Bo X (.Compare a [c] [b] pos) (fB (d2 g fa fb)) :=
 PT.imp (tE i m l j) λσ H Q ⟨ρ,b,h,e,k⟩=>
  Xb ⟨ρ,.bool b,h,xU e,λv n d f=>⟨b,eI.fh.mp f,k n d⟩⟩
def p7(f g:ee->Option Bool):ee->Option Bool:=λρ=>(f ρ).bind λx=>if x then g ρ else Y false
def GF(f g:ee->Option Bool):ee->Option Bool:=λρ=>(f ρ).bind λx=>if x then Y true else g ρ
noncomputable def p8(f:ee->Option Bool):ee->Option Bool:=λρ=>(f ρ).map (!·)
variable {ga gb gc:ee->Option Bool}{rest:Lx}
def SM(X:Cx)(e:Expr)(f:ee->Option Bool):Prop:=PW X e (X5 X.K f)
def PW.imp{t u:TT}(h:PW X e t)(k:∀σ H Q,u σ H Q->t σ H Q):PW X e u:=λb a s σ H Q I q=>@h b a s σ H Q I (k σ H Q q)
def jd(h:Bo X a ga):SM X (.BoolOp .And [a] pos) ga:=IT h
def kI(h:Bo X a ga):SM X (.BoolOp .Or [a] pos) ga:=Mm h
def jM(i:Bo X a ga)(h:SM X (.BoolOp .And (b::rest) pos) gb):SM X (.BoolOp .And (a::b::rest) pos) (p7 ga gb) :=
 PW.imp (Mn i h) <| by
  rintro σ H Q ⟨ρ,x,d,e,k⟩;obtain⟨y,j,f⟩:=bind_some e;refine⟨ρ,y,d,j,λm c=>?_⟩;cases y with
  |true=>rw[ag rfl];exact⟨ρ,x,d.same c,f,λl g=>k l (c.trans g)⟩
  |false=>rw[ai aC];cases f;exact k m c
def lP(i:Bo X a ga)(h:SM X (.BoolOp .Or (b::rest) pos) gb):SM X (.BoolOp .Or (a::b::rest) pos) (GF ga gb) :=
 PW.imp (Rh i h) <| by
  rintro σ H Q ⟨ρ,x,d,e,k⟩;obtain⟨y,j,f⟩:=bind_some e;refine⟨ρ,y,d,j,λm c=>?_⟩;cases y with
  |false=>rw[ai aC];exact⟨ρ,x,d.same c,f,λl g=>k l (c.trans g)⟩
  |true=>rw[ag rfl];cases f;exact k m c
def jD(h:SM X e ga):Bo X e ga:=h.pt
def jN(f:Bo X a ga):Bo X (.UnaryOp .Not a pos) (p8 ga) :=
 PT.imp (GH f) <| by rintro σ H Q ⟨ρ,x,d,e,k⟩;obtain⟨y,h,g⟩:=aa.mp e;exact⟨ρ,y,d,h,λb c=>by show Q (!y) b;rw[g];exact k b c⟩
noncomputable def ZI(g:ee->Option Bool)(b a:ee->Od):ee->Od:=λρ=>(g ρ).bind λx=>if x then b ρ else a ρ
def Vl(i:Bo X c gc)(l:PD X a fa)(j:PD X b fb):PD X (.IfExp c a b pos) (ZI gc fa fb) :=
 PE.imp (Mq i l j) <| by
  rintro σ H Q ⟨ρ,d,g,e,k⟩;obtain⟨y,m,h⟩:=bind_some e;refine⟨ρ,y,g,m,λn f=>?_⟩;cases y with
  |true=>rw[ag rfl];exact⟨ρ,d,g.same f,h,k.later f⟩
  |false=>rw[ai aC];exact⟨ρ,d,g.same f,h,k.later f⟩
noncomputable def f9:ee->Option Lp:=λ_=>Y []
noncomputable def fK(f:ee->Od)(g:ee->Option Lp):ee->Option Lp:=λρ=>(f ρ).bind λx=>(g ρ).bind λa=>Y (x::a)
def j4:Bp X [] f9:=PA.imp qm <| by rintro σ H Q ⟨ρ,b,a,e,k⟩;cases e;exact k [] H (.refl H) dn.nil
def eG(j:PD X e f)(i:Bp X es ff)(a:zE e es X:=by rfl):Bp X (e::es) (fK f ff) :=
 PA.imp (mX j i a) <| by rintro σ H Q ⟨ρ,p,a,e,k⟩;obtain⟨x,m,e⟩:=bind_some e;obtain⟨d,l,e⟩:=bind_some e;cases e;exact⟨ρ,x,a,m,λv q c h=>⟨ρ,d,a.same c,l,λo n b g=>k _ n (c.trans b) (dn.cons (h.same b) g)⟩⟩
noncomputable def jT(a:ee->Option Lp):ee->Od:=λρ=>(a ρ).bind λxs=>if xs.length<=sizeLine then Y (.tuple xs) else Z
noncomputable def je(a:ee->Option Lp):ee->Od:=λρ=>(a ρ).bind λxs=>if xs.length<=sizeLine then Y (.list xs) else Z
def hW{x1}(h:Bp X es ff):PD X (.Tuple es x1 pos) (jT ff) :=
 PE.imp (MG h) <| by
  rintro σ H Q ⟨ρ,d,g,e,k⟩;obtain⟨b,i,e⟩:=bind_some e;by_cases a:b.length<=sizeLine
  ·rw[ag a] at e;cases e;exact⟨ρ,b,g,i,λj l f c=>⟨by rw[<-c.length];exact a,(k.later f).SK c⟩⟩
  ·rw[ai a] at e;cases e
def kS(h:Bp X es ff):PD X (.List es pos) (je ff) :=
 PE.imp (GW h) <| by
  rintro σ H Q ⟨ρ,d,g,e,k⟩;obtain⟨b,i,e⟩:=bind_some e;by_cases a:b.length<=sizeLine
  ·rw[ag a] at e;cases e;exact⟨ρ,b,g,i,λj l f c=>⟨by rw[<-c.length];exact a,(k.later f).yC c⟩⟩
  ·rw[ai a] at e;cases e
abbrev FO:=ee->Option (Option Int)
def tDO(K:Fg)(g:FO):TO:=λσ H Q=>∃ρ o,ju K H σ ρ/\g ρ=Y o/\∀a,eN H a->Q o a
def Ui(X:Cx)(e:Option Expr)(g:FO):Prop:=PO X e (tDO X.K g)
def PO.imp{e:Option Expr}{t u:TO}(h:PO X e t)(k:∀σ H Q,u σ H Q->t σ H Q):PO X e u:=λa s σ H Q I q=>@h a s σ H Q I (k σ H Q q)
def ku:FO:=λ_=>Y Z
noncomputable def kx(f:ee->Od):FO:=λρ=>(f ρ).bind λd=>match d with | .int i=>Y (Y i)|_=>Z
def hG:Ui X Z ku:=PO.imp PC <| by rintro σ H Q ⟨ρ,o,a,e,k⟩;cases e;exact k H (.refl H)
def hI(h:PD X e f):Ui X (Y e) (kx f):=PO.imp (PH h) <| by
 rintro σ H Q ⟨ρ,o,g,e,k⟩;obtain⟨d,i,a⟩:=bind_some e;cases d<;>first
  | (cases a;exact⟨ρ,_,g,i,λv j b c=>⟨_,eI.eR.mp c,k j b⟩⟩)
  |cases a
noncomputable def He(a:List α)(b c:Option Int):List α:=(a.drop (HT.kq a.length 0 b)).take (HT.kq a.length a.length c - HT.kq a.length 0 b)
def dn.cut(h:dn K H ds vs)(a b:Option Int):dn K H (He ds a b) (Ex vs a b):=by unfold He Ex;rw[<-h.length];exact(h.drop _).take _
def Vm(K:Fg):V->Option Int->Option Int->Hp->VK->Prop:=λx c d H Q=>∃a b,x=.ref a/\pW K H a b/\(HT.kq b.length 0 c=0/\HT.kq b.length b.length d=b.length)/\Q (.ref a) H
end
end L2
local macro_rules
| `(zO $a) => `(L2.eG $a L2.j4)
| `(zC $s $a) => `(L2.fK (L2.dC (.str $s)) $a)
| `(zQ $a) => `(L2.fK $a L2.f9)
| `(zA $s) => `(L2.dC (.str $s))
| `(zI $n) => `(L2.dC (.int $n))
namespace HT
open PySem PyProof.Rows
section
def rm{t f:Addr}{a:Array Value}{l k:Value}{b e:Option Int}{Q:Px} (d:IsTup s.heap t a) (m:s.heap.IsSliceOf f l k .none) (o:IsPart l b) (n:IsPart k e)
  (hw:kq a.size 0 b=0/\kq a.size a.size e=a.size) (h:Q (.ref t) s):wpAny (model prog w) A (getItem (.ref t) (.ref f)) Q E s:=by
 obtain⟨p,g,i,q⟩:=id m;have j:s.TypeIs (.ref f) "slice":=⟨p,g,i⟩
 unfold getItem
 try with_reducible refine bp ?_
 first|refine ab (ak ?_)|skip
 refine ab (wpAny_sequenceKey d.typeIs (by decide) ?_);refine ab (cA (name:=zZ "__getitem__") d.typeIs bw
  (cP bw d.typeIs entry_tuple_getitem ?_ (args_tuple_getitem _ _)))
 show wpAny _ _ (Builtin.Tuple.tupleItemsOf (.ref t)>>=_) _ _ s;refine ab (tupleItemsOf_ d ?_);refine ab (ck j ?_);rw[ag (by decide)];refine ab (oV m o n ?_);have c:((((kq a.size 0 b:Nat):Int)==0&&(1:Int)==1&&(kq a.size a.size e - kq a.size 0 b)==a.size)=true):=by rw[hw.1,hw.2];simp
 show wpAny _ _ (if (((kq a.size 0 b:Nat):Int)==0&&(1:Int)==1&&(kq a.size a.size e - kq a.size 0 b)==a.size)=true then _ else _) _ _ s;rw[ag c];unfold Builtin.Tuple.tupleIsExact;refine ab (ab (ck d.typeIs (ak ?_)));rw[ag (by decide)];refine ab (dz ?_);exact ak ⟨_,rfl,ak h⟩
end
end HT
namespace L2
open PySem PySem.Spec PyProof.Rows
section
variable {a:Expr}{fb fc f:ee->Od}{p2:Pos}
def P6:I7 X (Vm X.K):=by
 intro d s σ H x v n m p u o Q I g l j i h;obtain⟨a,f,rfl,k,hw,q⟩:=h;cases g;obtain⟨c,r,e,t⟩:=I.tuple k;have b:c.toArray.size=f.length:=by rw[aw];exact r.length.symm
 refine⟨"tuple",_,bw.lookup,e.typeIs,?_⟩;exact HT.rm e l j i (by rw[b];exact hw) ⟨.ref a,H,I,rfl,q⟩
def X6:V->Option Int->Option Int->Hp->VK->Prop:=λx a b H Q=>∃z,x=.str z/\z.length<=sizeLine/\Q (.str (Txt.slice z a b)) H
noncomputable def q7:Value->Option (Int×Tok)
 |.int i t=>Y (i,t)
 |_=>Z
def wk{v:Value}{o:Option Int}(p:IsPart v o):partValue (q7 v)=v/\(q7 v).map (·.1)=o:=by cases p<;>exact⟨rfl,rfl⟩
theorem SN:I7 X X6:=by
 intro f s σ H x v d c a b E Q I j y n m h;obtain⟨z,rfl,w,q⟩:=h;obtain⟨t,rfl⟩:=j;refine⟨"str",_,F.slot_str_getitem.lookup,dN _ _ _,?_⟩;obtain⟨r,p⟩:=wk n;obtain⟨i,g⟩:=wk m;obtain⟨o,A,C,B⟩:=y;refine wpAny_getItem_str_slice (l:=q7 d) (u:=q7 c) (st:=Z) ⟨o,A,C,by rw[r,i];exact B⟩ rfl ?_;have e:sliceMade z t (q7 d) (q7 c) Z=(if ((1:Int)==1&&(Builtin.Str.strSliceIndices a b 1 z.length).length==z.length)=true then .val (.str z t) else .str ⟨((Builtin.Str.strSliceIndices a b 1 z.length).filterMap (z.cps[·]?)).toArray⟩):=by unfold sliceMade slicePicked;rw[p,g];rfl
 rw[e];exact post_val_or_str ⟨bj (Txt.slice_le z a b) w,λD k=>⟨.str (Txt.slice z a b),H,I.tok _,⟨_,rfl⟩,q⟩⟩
noncomputable def Xd:eA->Option Int->Option Int->Od
 |.list xs,lo,hi=>Y (.list (He xs lo hi))
 |.tuple xs,lo,hi=>Y (.tuple (He xs lo hi))
 |.str z,lo,hi=>if z.length<=sizeLine then Y (.str (Txt.slice z lo hi)) else Z
 |_,_,_=>Z
noncomputable def jL(f:ee->Od)(l h:FO):ee->Od:=λρ=>(f ρ).bind λx=>(l ρ).bind λa=>(h ρ).bind λb=>Xd x a b
def I7.imp{r b:V->Option Int->Option Int->Hp->VK->Prop}(h:I7 X r)(k:∀x lo hi H Q,b x lo hi H Q->r x lo hi H Q):I7 X b :=
 λa s σ H x v d c lo hi e Q I f i pl g q=>@h a s σ H x v d c lo hi e Q I f i pl g (k _ _ _ _ _ q)
def slD:I7 X (λx lo hi H Q=>∃d c,eI X.K H d x/\Xd d lo hi=Y c/\KD X.K H c Q):=by
 refine I7.imp (Jd.or (SN.or (Ss.or P6))) ?_;rintro x lo hi H Q ⟨d,c,i,e,k⟩;cases d<;>try (simp[Xd] at e;done)
 ·rename_i z;dsimp only[Xd] at e;by_cases h:z.length<=sizeLine
  ·rw[ag h] at e;cases e;exact .inr (.inl ⟨z,eI.fq.mp i,h,k.here (eI.fq.mpr rfl)⟩)
  ·rw[ai h] at e;cases e
 ·rename_i g;cases e;obtain⟨p,a,rfl,f,b⟩:=eI.eZ.mp i;exact .inl ⟨p,a,rfl,f,k.yC (b.cut lo hi)⟩
 ·rename_i g;cases e;obtain⟨p,a,rfl,f,b⟩:=i.gI;by_cases hw:HT.kq a.length 0 lo=0/\HT.kq a.length a.length hi=a.length
  ·refine .inr (.inr (.inr ⟨p,a,rfl,f,hw,?_⟩));have:He g lo hi=g:=by
    unfold He;rw[b.length,hw.1,hw.2];simp only[List.drop_zero,Nat.sub_zero];rw[<-b.length];exact List.take_length
   rw[this] at k;exact k.here i
  ·exact .inr (.inr (.inl ⟨p,a,rfl,f,hw,k.SK (b.cut lo hi)⟩))
def iP{m n:Option Expr}{l h:FO}(r:PD X e f)(q:Ui X m l)(p:Ui X n h):PD X (.Subscript e (.Slice m n Z p2) pos) (jL f l h) :=
 PE.imp (Ew slD r q p) <| by rintro σ H Q ⟨ρ,d,g,e,k⟩;obtain⟨x,u,e⟩:=bind_some e;obtain⟨c,t,e⟩:=bind_some e;obtain⟨i,s,e⟩:=bind_some e;exact⟨ρ,x,g,u,λv z b o=>⟨ρ,c,g.same b,t,λy a=>⟨ρ,i,g.same (b.trans a),s,λw j=>⟨x,d,o.same (a.trans j),e,k.later (b.trans (a.trans j))⟩⟩⟩⟩
def ZJ(K:Fg)(g:Lp->Od):List V->Hp->VK->Prop:=λb H Q=>∃a c,dn K H a b/\g a=Y c/\KD K H c Q
def tK(X:Cx)(v:Value)(g:Lp->Od):Prop:=jc X v (ZJ X.K g)
noncomputable def iC(g:Lp->Od)(a:ee->Option Lp):ee->Od:=λρ=>(a ρ).bind g
def ZK{g:Lp->Od}{Q:VK}(h:tD K (iC g ff) σ H Q):XX (ZJ K g) (ZF K ff) σ H Q:=by obtain⟨ρ,d,f,e,k⟩:=h;obtain⟨a,j,i⟩:=bind_some e;exact⟨ρ,a,f,j,λl m b c=>⟨a,d,c,i,k.later b⟩⟩
def tL{c:String}{g:Lp->Od} (l:tK X (.builtin c) g) (j:Gl X x) (i:X.mg x=Z) (d:bootBuiltins x=Y (.builtin c)) (m:Bp X (e::es) ff) (f:x≠"__name__":=by decide) (b:zg x:=by decide)
  (k:zE e es X:=by rfl) (a:(backTo pos (starEach es X.env)).any (·.1)=false:=by rfl):PD X (.Call (.Name x p) (e::es) [] pos) (iC g ff) :=
 PE.imp (Eu l j i d m f b k a) λ_ _ _ h=>ZK h
def lQ{T:String}{g:Lp->Od} (k:tK X (.type T) g) (i:Gl X x) (f:X.mg x=Z) (c:bootBuiltins x=Y (.type T)) (l:Bp X (e::es) ff) (d:x≠"__name__":=by decide) (b:zg x:=by decide)
  (j:zE e es X:=by rfl) (a:(backTo pos (starEach es X.env)).any (·.1)=false:=by rfl):PD X (.Call (.Name x p) (e::es) [] pos) (iC g ff) :=
 PE.imp (vi k i f c l d b j a) λ_ _ _ h=>ZK h
def iD(h:dn K H [d] vs):∃v,vs=[v]/\eI K H d v:=by obtain⟨v,r,rfl,a,t⟩:=dn.eE.mp h;rw[dn.eP.mp t];exact⟨v,rfl,a⟩
def EH{b:eA}(h:dn K H [d,b] vs):∃v a,vs=[v,a]/\eI K H d v/\eI K H b a:=by obtain⟨v,r,rfl,e,t⟩:=dn.eE.mp h;obtain⟨a,rfl,c⟩:=iD t;exact⟨v,a,rfl,e,c⟩
noncomputable def Vn:Lp->Od
 |[.list xs]=>Y (.tuple xs)
 |[.tuple xs]=>Y (.tuple xs)
 |_=>Z
noncomputable def Jj:Lp->Od
 |[.list xs]=>Y (.list xs)
 |[.tuple xs]=>Y (.list xs)
 |_=>Z
noncomputable def SO:Lp->Od
 |[.list xs]=>Y (.int xs.length)
 |[.tuple xs]=>Y (.int xs.length)
 |[.str z]=>if z.length<=sizeLine then Y (.int z.length) else Z
 |_=>Z
def SQ:tK X (.builtin "len") SO:=by
 refine jc.imp (Cy.or Cz) ?_;rintro j H Q ⟨h,c,i,e,k⟩
 match h,e with
 |[.list ys],e=>cases e;obtain⟨v,rfl,a⟩:=iD i;obtain⟨p,b,rfl,g,f⟩:=eI.eZ.mp a;exact .inl ⟨p,b,rfl,.inl g,k.here (by rw[f.length];exact eI.eR.mpr rfl)⟩
 |[.tuple ys],e=>cases e;obtain⟨v,rfl,a⟩:=iD i;obtain⟨p,b,rfl,g,f⟩:=a.gI;exact .inl ⟨p,b,rfl,.inr g,k.here (by rw[f.length];exact eI.eR.mpr rfl)⟩
 |[.str z],e=>
  dsimp only[SO] at e;by_cases d:z.length<=sizeLine
  ·rw[ag d] at e;cases e;obtain⟨v,rfl,a⟩:=iD i;exact .inr ⟨z,by rw[eI.fq.mp a],d,k.here (eI.eR.mpr rfl)⟩
  ·rw[ai d] at e;cases e
noncomputable def P7:Lp->Od
 |[.int i,.int j]=>Y (.int (if j<i then j else i))
 |_=>Z
def SR(a:X.calm=true):tK X (.builtin "min") P7:=by
 refine jc.imp (Kn a) ?_;rintro g H Q ⟨f,c,i,e,k⟩
 match f,e with
 |[.int x,.int y],e=>cases e;obtain⟨v,h,rfl,d,b⟩:=EH i;exact⟨x,y,by rw[eI.eR.mp d,eI.eR.mp b],k.here (eI.eR.mpr rfl)⟩
end
section
variable {a:Expr}{fb fc f:ee->Od}{p2:Pos}{st:Stmt}{rest:List Stmt}{g h:ee->Option gQ}{gc:ee->Option Bool}
def gp:ee->Option gQ:=λρ=>Y (.nx ρ)
noncomputable def eY(g h:ee->Option gQ):ee->Option gQ:=λρ=>(g ρ).bind λo=>match o with
 |.nx ρ'=>h ρ'
 |o=>Y o
noncomputable def fP(f:ee->Od):ee->Option gQ:=λρ=>(f ρ).map .rt
noncomputable def jS(c:ee->Option Bool)(g h:ee->Option gQ):ee->Option gQ:=λρ=>(c ρ).bind λx=>if x then g ρ else h ρ
abbrev BD:=eA->ee->Option ee
def tDG(K:Fg)(b:BD):TG:=λv σ H Q=>∃ρ d ρ',ju K H σ ρ/\eI K H d v/\b d ρ=Y ρ'/\∀σ' a,eN H a->ju K a σ' ρ'->Q σ' a
def Xe(X:Cx)(a:Expr)(b:BD):Prop:=PG X a (tDG X.K b)
def PG.imp{t u:TG}(h:PG X tg t)(k:∀v σ H Q,u v σ H Q->t v σ H Q):PG X tg u:=λa s σ H v b Q I r q=>@h a s σ H v b Q I r (k _ _ _ _ q)
def O8.imp{b:Lx}{t u:Pk}(h:O8 X b t)(k:∀v σ H Q,u v σ H Q->t v σ H Q):O8 X b u:=λa s σ H v c Q I r q=>@h a s σ H v c Q I r (k _ _ _ _ q)
def Jk(i:Nat):BD:=λd ρ=>Y (ρ.set i (Y d))
def yE(i:Nat)(h:X.N.Nodup)(f:X.N[i]?=Y x:=by rfl)(b:IQ X.env.scope x:=by first|exact b7 rfl|exact bF rfl)(g:X.fn x=true\/X.env.scope.names.lookup x=Y .local:=by first|exact .inl rfl|exact .inr rfl|assumption):Xe X (.Name x pos) (Jk i) :=
 PG.imp (tB h f b g) <| by rintro v σ H Q ⟨ρ,d,ρ',c,a,e,k⟩;cases e;exact k _ H (.refl H) (c.set a)
abbrev Rq:=List eA->ee->Option ee
def X7(K:Fg)(d:Rq):Pk:=λc σ H Q=>∃ρ b ρ',ju K H σ ρ/\dn K H b c/\d b ρ=Y ρ'/\∀σ' a,eN H a->ju K a σ' ρ'->Q σ' a
def P8(X:Cx)(a:Lx)(b:Rq):Prop:=O8 X a (X7 X.K b)
def Vo:Rq:=λa ρ=>match a with | []=>Y ρ|_=>Z
noncomputable def M5(b:BD)(c:Rq):Rq:=λa ρ=>match a with | []=>Z|d::r=>(b d ρ).bind λρ'=>c r ρ'
def M6:P8 X [] Vo:=O8.imp IY <| by
 rintro d σ H Q ⟨ρ,c,ρ',b,a,e,k⟩;cases c with
 |nil=>cases e;exact⟨dn.eP.mp a,k σ H (.refl H) b⟩
 |cons _ _=>cases e
def Br{bd:BD}{g:Rq}(o:Xe X e bd)(n:P8 X es g)(c:(assignEach (e::es) X.env).map (·.2)=assign e X.env::(assignEach es X.env).map (·.2):=by rfl):P8 X (e::es) (M5 bd g) :=
 O8.imp (yl o n c) <| by
  rintro u σ H Q ⟨ρ,s,ρ',c,m,e,k⟩;cases s with
  |nil=>cases e
  |cons d r=>obtain⟨ρ1,q,p⟩:=bind_some e;obtain⟨v,h,rfl,l,j⟩:=dn.eE.mp m;exact⟨v,h,rfl,ρ,d,ρ1,c,l,q,λσ1 w f b=>⟨ρ1,r,ρ',b,j.same f,p,λσ2 t i a=>k σ2 t (f.trans i) a⟩⟩
noncomputable def P9(n:Nat)(a:Rq):BD:=λd ρ=>match d with | .tuple ds=>if ds.length=n then a ds ρ else Z|_=>Z
def Qa{k n:Nat}{g:Rq}(o:X.calm=true)(h:P8 X es g)(m:(assignEach es X.env).length=n:=by rfl)(a:(assignEach es X.env).findIdx? (·.1)=Z:=by rfl):Xe X (.Tuple es k pos) (P9 n g) :=
 PG.imp (Mv o h m a) <| by
  rintro v σ H Q ⟨ρ,d,ρ',l,j,e,k⟩;cases d<;>try (simp[P9] at e;done)
  rename_i f;dsimp only[P9] at e;by_cases b:f.length=n
  ·rw[ag b] at e;obtain⟨p,i,rfl,q,c⟩:=j.gI;exact⟨p,i,rfl,q,by rw[<-c.length];exact b,ρ,f,ρ',l,c,e,k⟩
  ·rw[ai b] at e;cases e
def Hf(K:Fg)(J:It)(c:Lp)(H:Hp):Prop :=
 ∀a,eN H a->(J.stop c.length a)/\∀(i:Nat) (d:eA),c[i]?=Y d->J.go i a/\∀x b,J.Kj i a x b->eN a b/\eI K b d x
def tDI(K:Fg)(q:ee->Option Lp):TI:=λσ H R=>∃ρ b,ju K H σ ρ/\q ρ=Y b/\∀J a,eN H a->Hf K J b a->R J a
def Mb(X:Cx)(b a:Expr)(q:ee->Option Lp):Prop:=PI X b a (tDI X.K q)
def PI.imp{a:Expr}{t u:TI}(h:PI X tg a t)(k:∀σ H R,u σ H R->t σ H R):PI X tg a u:=λb s σ H R I q=>@h b s σ H R I (k _ _ _ q)
def PI.or{a:Expr}{t u:TI}(h:PI X tg a t)(c:PI X tg a u):PI X tg a (λσ H R=>t σ H R\/u σ H R):=λb s σ H R I q=>q.elim (@h b s σ H R I) (@c b s σ H R I)
noncomputable def oJ(f:ee->Od):ee->Option Lp:=λρ=>(f ρ).bind λd=>match d with | .list ds=>Y ds | .tuple ds=>Y ds|_=>Z
def lj(h:PD X e f):Mb X tg e (oJ f) :=
 PI.imp (PI.or (Ck h) (Mz h)) <| by
  rintro σ H R ⟨ρ,A,t,e,k⟩;obtain⟨d,u,a⟩:=bind_some e;cases d<;>try (simp at a;done)
  ·cases a;refine .inl ⟨ρ,_,t,u,λv s l o=>?_⟩;obtain⟨p,b,rfl,a,j⟩:=eI.eZ.mp o;refine⟨p,rfl,⟨b,a⟩,k _ s l λz c=>⟨⟨b,c.seq a,by rw[j.length];exact ax _⟩,λi d q=>?_⟩⟩;obtain⟨x,g,r⟩:=j.get q;refine⟨⟨b,x,c.seq a,g⟩,?_⟩;rintro y w ⟨n,m⟩;subst n;have:=m b (c.seq a);rw[g] at this;cases this;exact⟨.refl _,r.same c⟩
  ·cases a;refine .inr ⟨ρ,_,t,u,λv s l o=>?_⟩;obtain⟨p,b,rfl,a,j⟩:=o.gI;refine⟨p,rfl,⟨b,a⟩,k _ s l λz c=>⟨⟨b,c.rk a,by rw[j.length];exact ax _⟩,λi d q=>?_⟩⟩;obtain⟨x,g,r⟩:=j.get q;refine⟨⟨b,x,c.rk a,g⟩,?_⟩;rintro y w ⟨n,m⟩;subst n;have:=m b (c.rk a);rw[g] at this;cases this;exact⟨.refl _,r.same c⟩
noncomputable def oY(a:Int)(n:Nat):Lp:=(List.range n).map λk=>.int (a+(k:Nat))
def EI(a:Int)(n:Nat)(H:Hp):Hf K (UN a n) (oY a n) H:=λh f=>by
 refine⟨by show n<=(oY a n).length;simp[oY],λi d q=>?_⟩;have b:i<n:=by have:=(au.mp q).1;simpa [oY] using this
 refine⟨b,?_⟩;rintro x g ⟨e,c⟩;subst e c;have:d=.int (a+(i:Nat)):=by unfold oY at q;rw[az,eh b] at q;cases q;rfl
 subst this;exact⟨.refl _,eI.eR.mpr rfl⟩
noncomputable def j5(f:ee->Od):ee->Option Lp:=λρ=>(f ρ).bind λd=>match d with | .int j=>if -(2 ^ 62)<=j/\j<2 ^ 62 then Y (oY 0 j.toNat) else Z|_=>Z
def sm(n:Gl X "range")(m:X.mg "range"=Z)(h:PD X e f)(b:starEach [e] X.env=[(false,eval e X.env)]:=by rfl):Mb X tg (.Call (.Name "range" p) [e] [] pos) (j5 f) :=
 PI.imp (Be n m (mX h qm (by rw[b];rfl)) b) <| by
  rintro σ H R ⟨ρ,q,b,e,k⟩;obtain⟨d,o,a⟩:=bind_some e;cases d<;>try (simp at a;done)
  rename_i j;dsimp only at a;by_cases c:-(2 ^ 62)<=j/\j<2 ^ 62
  ·rw[ag c] at a;cases a;exact⟨ρ,_,b,o,λv g i l=>⟨j,by rw[eI.eR.mp l],c.1,c.2,k _ g i (EI 0 _ g)⟩⟩
  ·rw[ai c] at a;cases a
noncomputable def KC(a:BD)(g:ee->Option gQ):Lp->ee->Option gQ
 |[],ρ=>Y (.nx ρ)
 |d::ds,ρ=>((a d ρ).bind g).bind λo=>match o with
  |.nx ρ'=>KC a g ds ρ'
  |.ct ρ'=>KC a g ds ρ'
  |.bk ρ'=>Y (.nx ρ')
  |.rt d=>Y (.rt d)
end
def Rr(K:Fg)(n:Nat)(f:Lp->Od):Sp:=λb H Q _=>∃a d,dn K H a b/\a.length=n/\f a=Y d/\KD K H d Q
section
variable {k:Nat}{fa:Addr}{ps:Lr}{f:Lp->Od}
noncomputable def k0(n:Nat)(f:Lp->Od)(b:ee->Option Lp):ee->Od:=λρ=>(b ρ).bind λa=>if a.length=n then f a else Z
def Qb{n:Nat} (F:kR X.prog X.w X.K X.mg X.base vb k fa fd ps (Rr X.K n f)) (m:iz k X.A) (r:Gl X x) (o:X.mg x=Y (.ref fa)) (q:W.keepIn X.K (.ref fa)=true) (t:kr X.K fd ps [])
  (u:Bp X (e::es) ff) (g:zg x:=by decide) (s:zE e es X:=by rfl) (b:(backTo pos (starEach es X.env)).any (·.1)=false:=by rfl):
  PD X (.Call (.Name x p) (e::es) [] pos) (k0 n f ff) :=
 PE.imp (xT F m r o q t .nil nC u g s b) <| by
  rintro σ H Q ⟨ρ,d,l,e,k⟩;obtain⟨h,v,a⟩:=bind_some e;by_cases c:h.length=n
  ·rw[ag c] at a;exact⟨ρ,h,l,v,λy z i j=>⟨h,d,by rw[aR];exact j,c,a,k.later i⟩⟩
  ·rw[ai c] at a;cases a
def iY(N:Lr)(ds:Lp):ee:=ds.map Y++List.replicate (N.length - ds.length) Z
def pG{N:Lr}(h:dn K H ds vs):ju K H (lg N vs) (iY N ds):=by
 have b:=h.length;refine⟨by simp[lg,iY,b],λi d q=>?_⟩;unfold iY at q;by_cases a:i<ds.length
 ·rw[aE (by simpa using a),az] at q;obtain⟨j,g,f⟩:=aa.mp q;cases f;obtain⟨v,e,c⟩:=h.get g;refine⟨v,?_,c⟩;unfold lg;rw[aE (by simpa using (by omega:i<vs.length)),az,e];rfl
 ·rw[aI (by simpa using a),bB] at q;split at q<;>cases q
noncomputable def iQ(N:Lr)(g:ee->Option gQ):Lp->Od:=λa=>(g (iY N a)).bind λo=>match o with
 |.rt d=>Y d
 |.nx _=>Y .none
 |_=>Z
end
end L2
namespace W8
open PySem PySem.W PySem.Calls PyProof.Rows
def CG{l:OpenLaw}{n:Nat}{q:Program}{b:Lr}{B:(Str->Ow)->Heap->Prop}{A:World->Heap->Prop}{d:DefRec}
  (I:l.most=Y n) (s:d.params.defaults=[])
  (k:∀(w:World) (s₀ s₁:Shared) (mg mb:Str->Ow) (fa:Addr) (o:Obj) (pm cd doc:Value) (a:Addr) (vs:Lw) (ns:List Int),
   Ground q b [] B w s₀ mg mb s₁.heap->A w s₁.heap ->
   s₁.heap.get? fa=Y o->o.data=.func (docDef d.name d.params d.body d.scope pm cd doc)->s₁.heap.CodeRec cd d.name->mg d.name=Y (.ref fa) ->
   s₁.heap.get? a=Y { cls:=.type "list",data:=.seq vs.toArray }->IntsAre vs ns->ns.length<=n->(∀x∈ns,L2.qs x=true)->s₁.gens=#[] ->
   codeAny (model l.prog w) callerA (.call (.ref fa) ⟨[.ref a],[]⟩) (λr s'=>r=.ok (.ret (.bool true))/\OldK s₁.heap s'.heap/\s'.os=s₁.os/\AllBare s'.gens) s₁):
  WalkO q b B A l.row.toRowW d [] (λf vs=>PySem.call f vs):=by
 intro w s₀ s₁ mg mb G Y fa o pm cd doc P C H M t y hmg L z v Q g j E p K;obtain rfl:P=.none:=Dflts.none y s;obtain rfl:C=.none:=Dflts.noKw y;obtain⟨a,vs,ns,rfl,rfl,h,c,i⟩:=Kv I g p;have e:∀x∈ns,L2.qs x=true:=λx D=>by
  have O:=layableW_arg j (WData.list (ns.map WData.int)) (by simp);have m:=layable_int (layableW_item O (.int x) (aU.mpr ⟨x,D,rfl⟩));have u:(eA.int x).layable=decide (Builtin.Int.intBits x<=1048576):=by simp[eA.layable,eA.canLay,eA.depth,eA.weight,Builtin.Int.intBits]
  rw[u] at m;exact m
 refine enter_call (c9 (k w s₀ s₁ mg mb fa o pm cd doc a vs ns G Y H (fd_plain M) t hmg h c i e L) λr s' F=>?_);obtain⟨rfl,m,u,N⟩:=F;exact⟨.inl ⟨.bool true,.bool true,[],rfl,λ_=>rfl,.bool true,Kw l _,λ_=>⟨List.Pairwise.nil,λ_ J=>(nomatch J)⟩⟩,m,u,N⟩
end W8
namespace L2
open PySem PySem.Spec PyProof.Rows
theorem Bs{K:Fg}{H:Hp}:∀a:List Int,dn K H (a.map eA.int) (a.map V.int)
 |[]=>dn.nil
 |n::a=>dn.cons (eI.eR.mpr rfl) (Bs a)
structure su (P:Program) (w:World) (K:Fg) (mg:Str->Ow) (base:Heap) (x:Str) (k n:Nat) (f:Lp->Od):Prop where
 ex:∃a fd ps,kR P w K mg base vb k a fd ps (Rr K n f)/\mg x=Y (.ref a)/\W.keepIn K (.ref a)=true/\kr K fd ps []
section
variable {f:Lp->Od}{k n:Nat}
theorem fC(O:su X.prog X.w X.K X.mg X.base x j n f) (h:iz k X.A) (l:Gl X x) (q:Bp X (e::es) ff) (i:j<=k:=by decide) (d:zg x:=by decide)
  (o:zE e es X:=by rfl) (c:(backTo pos (starEach es X.env)).any (·.1)=false:=by rfl):PD X (.Call (.Name x p) (e::es) [] pos) (k0 n f ff):=by
 obtain⟨a,s,r,F,m,g,b⟩:=O.ex;exact Qb (F.mono i) h l m g b q d o c
end
def KG{l:W.OpenLaw}{n k:Nat}{q:Program}{j:Lr}{R:(Str->Ow)->Heap->Prop}{C:World->Heap->Prop}{d:DefRec}{K:Params->Fg}{f:Lp->Od}
  (E:l.most=Y n) (t:n<=sizeLine) (y:d.params.defaults=[]) (D:iz k callerA)
  (N:∀(w:World) (h:Heap),C w h->(K w.params).In h)
  (F:∀(w:World) (mg:Str->Ow) (fa:Addr) (h:Heap),(K w.params).In h->h.Ns mainGlobals mg->mg d.name=Y (.ref fa) ->
   ∃fd:FuncData,(∀(s:Shared) (u:Value),BindsTo s fd ⟨[u],[]⟩ [(x,u)]) /\
    ∀base:Heap,(K w.params).In base->base.Ns mainGlobals mg->kR l.prog w (K w.params) mg base vb k fa fd [x] (Rr (K w.params) 1 f))
  (J:∀ns:List Int,ns.length<=n->(∀x∈ns,qs x=true)->f [.list (ns.map .int)]=Y (.bool true)):
  W.WalkO q j R C l.row.toRowW d [] (λf vs=>PySem.call f vs):=by
 refine W8.CG E y λw B A mg V fa o U cd Q a vs ns G Y X hd L hmg r m c p I=>?_;have KX:=N w _ Y;obtain⟨fd,M,P⟩:=F w mg fa _ KX G.T.g hmg;refine MU KX G.T.g G.T.b G.T.builtins G.T.nolimit I r m (bj c t) D P M (λH hO O=>?_) λH e S z=>z;exact⟨[.list (ns.map .int)],.bool true,dn.cons (eI.eZ.mpr ⟨a,_,rfl,O,Bs ns⟩) dn.nil,rfl,J ns c p,λv H' _ i=>eI.fh.mp i⟩
end L2
namespace L2
open PySem
end L2
namespace L2
open PySem PySem.Spec PyProof.Rows
def yF(c:Env)(b:Scope):List (Str×Addr):=(b.names.filterMap λp=>if p.2==NameKind.free then (c.cells.lookup p.1).map λa=>(p.1,a) else Z).reverse
theorem tM(d:Env):∀(b:List (Str×NameKind)) (acc:List (Str×Addr)),(∀p∈b,p.2=.free->∃c,d.cells.lookup p.1=Y c) ->
  (forIn b acc λp cs=>(if (p.2==NameKind.free)=true then do let c <-cellOf d p.1;pure (ForInStep.yield ((p.1,c)::cs)) else pure (ForInStep.yield cs):Sem (ForInStep (List (Str×Addr))))) =
   pure ((b.filterMap λp=>if p.2==NameKind.free then (d.cells.lookup p.1).map λa=>(p.1,a) else Z).reverse++acc)
 |[],acc,_=>rfl
 |p::r,acc,h=>by
  have g:=λacc=>tM d r acc λq j=>h q (ar _ j);rw[cY];by_cases f:p.2=.free
  ·obtain⟨c,i⟩:=h p cb f;have e:(p.2==NameKind.free)=true:=by rw[f];rfl
   rw[ag e];have k:cellOf d p.1=pure c:=by unfold cellOf;rw[i]
   rw[k];simp only[pure_bind];rw[g,cv,ag e,i];simp
  ·have e:(p.2==NameKind.free)=false:=by simpa using f
   rw[ai (by rw[e];exact aC)];simp only[pure_bind];rw[g,cv,ai (by rw[e];exact aC)]
def oK{a:Env}(h:∀p∈scope.names,p.2=.free->∃c,a.cells.lookup p.1=Y c):closureFor scope a=pure (yF a scope):=by
  have e:=tM a scope.names [] h;unfold closureFor yF;rw[aR] at e;have f:(forIn scope.names ([]:List (Str×Addr)) λx d=>(match x with|(name,b)=>do if (b==NameKind.free)=true then do let c <-cellOf a name;pure (ForInStep.yield ((name,c)::d)) else pure (ForInStep.yield d):Sem (ForInStep (List (Str×Addr)))))=_:=e
  first
    | (simp only[bind_pure] ;exact f)
    | (show (forIn scope.names ([]:List (Str×Addr)) _>>=λd=>pure d)=_
       rw[bind_pure];exact f)
def M7{b:Env}{c:Addr}(h:(x,c)∈yF b scope):b.cells.lookup x=Y c/\(x,NameKind.free)∈scope.names:=by
 unfold yF at h;rw[List.mem_reverse,cf] at h;obtain⟨⟨n,k⟩,f,e⟩:=h;by_cases d:(k==NameKind.free)=true
 ·rw[ag d] at e;obtain⟨a,i,g⟩:=aa.mp e;cases g;have:k=.free:=eq_of_beq d;subst this;exact⟨i,f⟩
 ·rw[ai d] at e;cases e
def jU{a:Env}{c:Addr}(h:(yF a scope).lookup x=Y c):a.cells.lookup x=Y c:=(M7 (bE h)).1
theorem rT{α:Type}{x:Str}{c:α}:∀{l:List (Str×α)},(x,c)∈l->∃d,l.lookup x=Y d
 |[],h=>by cases h
 | (n,a)::r,h=>by
  by_cases e:x=n
  ·subst e;exact⟨a,by simp⟩
  ·rcases av.mp h with h|h
   ·cases h;exact absurd rfl e
   ·obtain⟨d,b⟩:=rT h;exact⟨d,by rw[aY,aZ.mpr e];exact b⟩
def EJ{a:Env}{c:Addr}(g:(x,NameKind.free)∈scope.names)(f:a.cells.lookup x=Y c):(yF a scope).lookup x=Y c:=by
 have:(x,c)∈yF a scope:=by unfold yF;rw[List.mem_reverse,cf];exact⟨(x,.free),g,by rw[ag (by rfl),f];rfl⟩
 obtain⟨d,b⟩:=rT this;have e:=jU b;rw[f] at e;cases e;exact b
def wm{b:Env}{k:NameKind}(h:(relabel scope b).names.lookup x=Y k):(x,k)∈scope.names\/(k=.cell/\(x,NameKind.free)∈scope.names):=by
 have c:=bE h;unfold relabel at c;obtain⟨⟨n,f⟩,e,a⟩:=aU.mp c;dsimp only at a;split at a
 ·rename_i d;cases a;simp only[bR,bY] at d;obtain⟨⟨rfl,_⟩,_⟩:=d;exact .inr ⟨rfl,e⟩
 ·cases a;exact .inl e
theorem tN{b:Env}:∀{a:List (Str×NameKind)}{x:Str},a.lookup x=Y .free ->
  (a.map λ(n,k)=>if (k==NameKind.free&&b.scope.kind==.function&&b.kindOf n==Y .cell) then (n,NameKind.cell) else (n,k)).lookup x=Y .cell \/
  (a.map λ(n,k)=>if (k==NameKind.free&&b.scope.kind==.function&&b.kindOf n==Y .cell) then (n,NameKind.cell) else (n,k)).lookup x=Y .free
 |[],_,h=>by simp at h
 | (n,k)::r,x,h=>by
  have d:=@tN b r x;rw[aB];dsimp only;cases c:x==n with
  |true=>
   simp only[aY,c] at h;cases h;split
   ·exact .inl (by simp[aY,c])
   ·exact .inr (by simp[aY,c])
  |false=>
   simp only[aY,c] at h;split
   ·simp only[aY,c];exact d h
   ·simp only[aY,c];exact d h
noncomputable def lM(X:Cx)(a:Scope)(C:Addr)(N:Lr)(s:Shared)(H:Hp)(b:List Addr):Cx where
 prog:=X.prog
 w:=X.w
 K:=X.K
 mg:=X.mg
 base:=X.base
 A:=X.A
 N:=N
 s₀:=s
 H₀:=H
 env:=compEnvC a (yF X.env a) C X.env
 outer:=X.stack
 stack:=X.stack
 ex:=b
 fn:=λ_=>false
 calm:=true
 pn:=[]
 xe:=λ_ _=>False
def kT(X:Cx)(a:Scope):List (Nat×Str)->Prop
 |[]=>True
 | (j,y)::r=>(X.N[j]?=Y y/\(X.env.kindOf y=Y .cell\/X.env.kindOf y=Y .free)/\a.names.lookup y=Y .free)/\kT X a r
theorem kT.at{X:Cx}{a:Scope}:∀{b:List (Nat×Str)},kT X a b->∀{i:Nat}{j:Nat}{y:Str},b[i]?=Y (j,y)->X.N[j]?=Y y/\(X.env.kindOf y=Y .cell\/X.env.kindOf y=Y .free)/\a.names.lookup y=Y .free
 |[],_,_,_,_,h=>by simp at h
 | (_,_)::_,hc,0,_,_,h=>by simp at h;obtain⟨rfl,rfl⟩:=h;exact hc.1
 | (_,_)::_,hc,i+1,_,_,h=>kT.at hc.2 (i:=i) (by simpa using h)
noncomputable def Ap(a:List (Nat×Str))(σ:St):St:=a.map λp=>(σ[p.1]?).join
noncomputable def yG(a:List (Nat×Str))(ρ:ee):ee:=a.map λp=>(ρ[p.1]?).join
structure jO (scope:Scope) (x:Str):Prop where
 kind:scope.kind=.function
 M8:∀y∈scope.names,y.2≠.cell
 loc:∀y∈scope.names,y.2=.local->scope.names.lookup y.1=Y .local
 var:scope.names.lookup x=Y .local
 has:True:=aP
section
def SU(d:Lr) {G:List Addr}{C:Addr}{s':Shared} (I:eX X pins σ H s) (D:X.calm=true) (S:jO scope x) (P:∀p∈scope.names,p.2=.free->∃c,X.env.cells.lookup p.1=Y c) (B:kT X scope iL)
  (N:∀b∈G,mv X pins H b) (M:∀b∈G,∃o,s.heap.get? b=Y o) (R:(zB s)<=C) (k:∀b o,s.heap.get? b=Y o->s'.heap.get? b=Y o) (L:s'.heap.Ns C λ_=>Z) (K:s'.os=s.os) (hg:AllBare s'.gens):
  eX (lM X scope C (d++iL.map (·.2)) s H G) [] (d.map (λ_=>Z)++Ap iL σ) H s':=by
 have t:∀b,b∈(lM X scope C (d++iL.map (·.2)) s H G).fs->b∈X.env.locals::X.fs:=λb f=>I.Ce b f;refine⟨⟨I.ok.mod,S.kind,I.ok.glob,I.ok.blt,R,λy z c e1 a=>I.ok.inj y z c (jU e1) (jU a),λy hy=>?_,λy c h=>(by cases h),λ_=>I.ok.hd D,I.ok.frames,.inl rfl,λb f=>?_,I.bs,bj I.ok.Rg I.sz,λb o e f=>?_,λb f Q=>?_,I.stack,I.IS⟩,
  K,hg,Un.kept k,⟨_,L,λi y v e1 a e3=>?_⟩,λy c e=>?_,I.ij.fresh R,λy c e=>I.mS y c (jU e),λp hp=>?_,I.ij.kept k,?_⟩
 ·have J:(relabel scope X.env).names.lookup y=Y .cell\/(relabel scope X.env).names.lookup y=Y .free:=hy;have hm:(y,NameKind.free)∈scope.names:=by
   rcases J with h|h
   ·rcases wm h with h | ⟨_,h⟩
    ·exact absurd rfl (S.M8 _ h)
    ·exact h
   ·rcases wm h with h | ⟨h,_⟩
    ·exact h
    ·cases h
  obtain⟨c,D⟩:=P _ hm rfl;exact⟨c,EJ hm D⟩
 ·obtain⟨f0,W,V,U,T,f5⟩:=N b f;obtain⟨o,w⟩:=M b f;refine⟨?_,λy c e=>T y c (jU e)⟩;show b≠C;exact aG (aJ (aq w) R)
 ·obtain⟨f0,W,V,U,T,f5⟩:=N b f;have hb1:=I.bs b o e;rcases U with h|h
  ·exact I.ok.Mj b o e h
  ·have:=(I.ok.bs b o e).1;exact absurd (aJ (aq this) h) (aW _)
 ·obtain⟨f0,W,V,U,T,f5⟩:=N b f;rcases av.mp (t b Q) with h|h
  ·exact W h
  ·exact V h
 ·by_cases A:i<d.length
  ·rw[aE (by simpa using A),az] at a;cases h:d[i]? with
   |none=>rw[h] at a;cases a
   |some z=>rw[h] at a;cases a
  have A:=cQ A;have F:(iL.map (·.2))[i - d.length]?=Y y:=by rw[<-aI A];exact e1
  have n:(Ap iL σ)[i - d.length]?=Y (Y v):=by rw[aI (by simpa using A)] at a;simpa using a
  rw[az] at F;obtain⟨⟨j,y'⟩,e4,e5⟩:=aa.mp F;dsimp only at e5;subst e5;unfold Ap at n;rw[az,e4] at n;have E:(σ[j]?).join=Y v:=by simpa using n
  have e7:σ[j]?=Y (Y v):=by
   cases q:σ[j]? with
   |none=>rw[q] at E;cases E
   |some o=>rw[q] at E;cases o with
    |none=>cases E
    |some v'=>cases E;rfl
  obtain⟨c1,c2,c3⟩:=B.at e4;obtain⟨m,hn,hl⟩:=I.loc;have hv:Ma X.env.scope y':=by
   rcases c2 with h|h
   ·exact .inr (.inl h)
   ·exact .inr (.inr h)
  obtain⟨u,r,l⟩:=hl j y' v c1 e7 hv;refine⟨u,r,.inr ⟨?_,?_⟩⟩
  ·exact tN c3
  ·rcases l with ⟨hk,_⟩ | ⟨_,c,D,g⟩
   ·rcases c2 with h|h
    ·rw[hk] at h;cases h
    ·rw[hk] at h;cases h
   ·refine⟨c,EJ (bE c3) D,?_⟩;obtain⟨o,w,O⟩:=g;exact⟨o,k _ _ w,O⟩
 ·obtain⟨v,o,w,O⟩:=I.cell y c (jU e);exact⟨v,o,k _ _ w,O⟩
 ·exact absurd (show p∈([]:Ax) from hp) (by simp)
 ·show (d.map (λ_=>Z)++Ap iL σ).length=(d++iL.map (·.2)).length;simp[Ap]
def PTs(X:Cx)(b:Lx)(t:TT):Prop :=
 ∀⦃a:Ax⦄ (s:Shared) (σ:St) (H:Hp) (Q:Bool->Hp->Prop),eX X a σ H s->t σ H Q ->
  (zw X) (forIn b true λc r=>if r=true then do let d <-isTrue c X.env (eval c X.env);pure (ForInStep.yield d) else pure (ForInStep.yield r)) (TP X a σ Q) X.xe s
def w8(X:Cx)(a:Lx)(g:ee->Option Bool):Prop:=PTs X a (X5 X.K g)
def kz:w8 X [] (λ_=>Y true):=by rintro a s σ H Q I ⟨ρ,b,c,e,k⟩;cases e;rw[dg];exact ak ⟨H,I,k H (.refl H)⟩
def tP(h:Bo X c g):w8 X [c] g:=λa s σ H Q I q=>by rw[cY];rw[ag rfl];refine ab (ab (gO (@h a s σ H Q I q) λb d e=>ak ?_));show wpAny _ _ (forIn ([]:Lx) b _) _ _ d;rw[dg];exact ak e
noncomputable def oZ(g:ee->Option Bool)(f:ee->Od)(ρc:ee):Lp->Option Lp
 |[]=>Y []
 |d::ds=>(g (Y d::ρc)).bind λb=>if b then (f (Y d::ρc)).bind λy=>(oZ g f ρc ds).bind λa=>Y (y::a) else oZ g f ρc ds
def ir(q:ee->Option Lp)(a:List (Nat×Str))(g:ee->Option Bool)(f:ee->Od):ee->Od:=λρ=>
 (q ρ).bind λb=>if b.length<=sizeLine then (oZ g f (yG a ρ) b).map .list else Z
def ju.cap{ρ:ee}(h:ju K H σ ρ)(e:Lr)(a:List (Nat×Str)):ju K H (e.map (λ_=>Z)++Ap a σ) (e.map (λ_=>Z)++yG a ρ):=by
 refine⟨by simp[Ap,yG],λi d q=>?_⟩;by_cases c:i<e.length
 ·rw[aE (by simpa using c),az] at q;cases h:e[i]? with
  |none=>rw[h] at q;cases q
  |some z=>rw[h] at q;cases q
 have c:=cQ c;rw[aI (by simpa using c),aF] at q ⊢;unfold yG at q;rw[az] at q;obtain⟨⟨j,y⟩,l,b⟩:=aa.mp q;dsimp only at b;have k:ρ[j]?=Y (Y d):=by
  cases q:ρ[j]? with
  |none=>rw[q] at b;cases b
  |some o=>rw[q] at b;cases o with
   |none=>cases b
   |some m=>cases b;rfl
 obtain⟨v,g,f⟩:=h.2 j d k;refine⟨v,?_,f⟩;unfold Ap;rw[az,l];simp[g]
def ju.less{p c:ee}{b:Lr}(h:ju K H σ (p++c))(e:p.length=b.length):ju K H σ (b.map (λ_=>Z)++c):=by
 refine⟨by rw[h.1];simp[e],λi d q=>?_⟩;by_cases a:i<b.length
 ·rw[aE (by simpa using a),az] at q;cases h:b[i]? with
  |none=>rw[h] at q;cases q
  |some z=>rw[h] at q;cases q
 have a:=cQ a;rw[aI (by simpa using a),aF] at q;exact h.2 i d (by rw[aI (by omega),e];exact q)
def CH{i a e:Expr}{g:Lx}{it j:Value}{b:Env} (I:Nat->Shared->Prop)
  (k:∀n s,I n s->wpAny (model prog w) A (pyNext it) (λr s₁=>match r with
   |none=>R (.ok .next) s₁
   |some v=>wpAny (model prog w) A (letOwnedTupleGo a it v) (λ_ s₁=>wpAny (model prog w) A (assign a b v) (λ_ s₂=>
     wpAny (model prog w) A (forIn g true λc r=>if r=true then do let ok <-isTrue c b (eval c b);pure (ForInStep.yield ok) else pure (ForInStep.yield r)) (λok s₃=>
      if ok=true then wpAny (model prog w) A (eval i b) (λx s₄=>
       wpAny (model prog w) A (call (.builtin "list.append") [j,x]) (λ_ s₅=>∃m,m<n/\I m s₅) (λ_ _=>False) s₄) (λ_ _=>False) s₃
      else ∃m,m<n/\I m s₃) (λ_ _=>False) s₂) (λ_ _=>False) s₁) (λ_ _=>False) s₁) (λ_ _=>False) s)
  (n:Nat) (h:I n s):
  codeAny (model prog w) A (.compLoop (.ListComp i [⟨a,e,g,0⟩] scope pos) 0 it j b) R s:=by
 refine codeAny_loop rfl I (λn s q=>?_) n h;show wpAny _ A ((compTurn (.ListComp i [⟨a,e,g,0⟩] scope pos) 0 it j b).onRaise (λx=>do noteFrame x b;theTreesLotGoes x)) _ _ s;refine wpAny_noted ?_;rw[compTurn_list];refine ab (wpAny_standAt (ab (bK (k n s q) (λr s₁ d=>?_) λ_ _ z=>False.elim z)));cases r with
 |none=>exact ak d
 |some v=>
  refine ab (bK d (λ_ s₁ d=>?_) λ_ _ z=>False.elim z);refine ab (bK d (λ_ s₂ p=>ab (bK p (λok s₃ f=>?_) λ_ _ z=>False.elim z)) λ_ _ z=>False.elim z);cases ok with
  |false=>exact ak ⟨rfl,f⟩
  |true=>exact ab (ab (bK f (λx s₄ o=>ab (bK o (λ_ s₅ l=>ak (ak ⟨rfl,l⟩)) λ_ _ z=>False.elim z)) λ_ _ z=>False.elim z))
def qt(a:Lw)(n:Nat):Obj:=(zl a.toArray n)
def KH(X:Cx)(e:Expr)(a:Scope)(i:Expr)(t:TE):Prop :=
 ∀(b:Ax) (s:Shared) (σ:St) (H:Hp) (Q:VK) (R:Value->Addr->Result->Shared->Prop),eX X b σ H s->t σ H Q ->
  (∀(D C:Addr) (j:Shared) (k:Hp) (n:Obj) (m:Str->Ow),eX X ((C,n)::b) σ k j->j.heap.Ns C m->(∀p∈X.pn++b,p.1≠C)->(zB X.s₀)<=C->Q (.ref D) k->R (.ref D) C (.ok .next) j) ->
  (zw X) (eval i X.env) (λl h=>(zw X) (pyIter l) (λit g=>(zw X) (newList []) (λacc f=>
   (zw X) (newFunctionEnv a X.env.globals (yF X.env a) [] X.env.qual Z .none (Y X.env)) (λc d=>
    codeAny (model X.prog X.w) X.A (.compStart e 0 it acc { c with scope:=relabel a X.env }) (R acc c.locals) d) X.xe f) X.xe g) X.xe h) X.xe s
def eX.yH{C:Addr}{d:Obj}{g:Heap}(I:eX X ((C,d)::pins) σ H s)(k:∀p∈X.pn++pins,p.1≠C)(h:(zB X.s₀)<=C)(i:Heap.SameBut C s.heap g):eX X pins σ H { s with heap:=g }:=by have a:=I.pin (C,d) (by simp);have J:eX X pins σ H s:=I.pE λp j=>I.pin p (ao _ (ar _ j));refine J.turned (t':=s.toks) (it:=C) (λb o m e=>(i.2 b m).trans e) a.2.1 a.2.2.1 (.inr h) (λy c e z=>?_) k;obtain⟨v,o,f,l⟩:=J.cell y c e;rw[z,a.1] at f;cases f;exact a.2.2.2.2 v l
def Bt{r:ee->Lp->Option Lp}(ρ:ee)(d:eA)(h:((q ρ).bind λds=>if ds.length<=sizeLine then (r ρ ds).map eA.list else Z)=Y d):∃ds a,q ρ=Y ds/\ds.length<=sizeLine/\r ρ ds=Y a/\d=.list a:=by
 obtain⟨ds,g,b⟩:=bind_some h;by_cases c:ds.length<=sizeLine
 ·rw[ag c] at b;obtain⟨a,f,e⟩:=aa.mp b;exact⟨ds,a,g,c,f,e.symm⟩
 ·rw[ai c] at b;cases b
def Jl{b:Bool}{o:Od}{r:Option Lp}{a:Lp}(h:(if b then o.bind λy=>r.bind λa=>Y (y::a) else r)=Y a):if b=true then ∃y c,o=Y y/\r=Y c/\a=y::c else r=Y a:=by
 cases b with
 |false=>exact h
 |true=>obtain⟨y,g,f⟩:=bind_some h;obtain⟨c,e,d⟩:=bind_some f;cases d;exact⟨y,c,g,e,rfl⟩
def Hg{f:ee->Od}(c:ee)(d:eA)(i a:Lp)(h:oZ g f c (d::i)=Y a):∃p b,p.length=1/\Jk 0 d ([Z]++c)=Y (p++c)/\g (p++c)=Y b/\if b=true then ∃y j,f (p++c)=Y y/\oZ g f c i=Y j/\a=y::j else oZ g f c i=Y a:=by obtain⟨b,k,e⟩:=bind_some h;exact⟨[Y d],b,rfl,rfl,k,Jl e⟩
def EK(A:Hp->Hp->Lp->List V->Prop) (Vp:∀{b G:Hp}{ds:Lp}{vs:List V},A b G ds vs->ds.length=vs.length) (AS:∀{b G G':Hp}{ds:Lp}{vs:List V},A b G ds vs->eN G G'->A b G' ds vs) {elt iter:Expr}  (N0:Lr)  {ifs:Lx}     {f dd:ee->Od}{bd:BD} (cmp:ee->Lp->Option Lp)
  (hc:X.calm=true) (S:jO scope x) (hcl:∀p∈scope.names,p.2=.free->∃c,X.env.cells.lookup p.1=Y c) (X8:kT X scope iL)
  (hi:Mb X tg iter q)
  (hg:∀C s H fp,Xe (lM X scope C (N0++iL.map (·.2)) s H fp) tg bd)
  (ht:∀C s H fp,w8 (lM X scope C (N0++iL.map (·.2)) s H fp) ifs g)
  (he:∀C s H fp,PE (lM X scope C (N0++iL.map (·.2)) s H fp) elt (λσ G Q=>∃ρ yd,ju X.K G σ ρ/\f ρ=Y yd/\∀v G',eN G G'->(∀b ds vs,A b G ds vs->A b G' (ds++[yd]) (vs++[v]))->Q v G'))
  (ZL:∀ρ d,dd ρ=Y d->∃ds ys,q ρ=Y ds/\ds.length<=sizeLine/\cmp (yG iL ρ) ds=Y ys/\d=.list ys) (h0:∀c ys,cmp c []=Y ys->ys=[])
  (h1:∀c d ds ys,cmp c (d::ds)=Y ys->∃p b,p.length=N0.length/\bd d (N0.map (λ_=>Z)++c)=Y (p++c)/\g (p++c)=Y b/\if b=true then ∃y zs,f (p++c)=Y y/\cmp c ds=Y zs/\ys=y::zs else cmp c ds=Y ys):
  KH X (.ListComp elt [⟨tg,iter,ifs,0⟩] scope pos) scope iter (λσ H Q=>∃ρ d,ju X.K H σ ρ/\dd ρ=Y d/\A H H [] []/\∀ys G D vs,d=.list ys->eN H G->G D=Z->A H G ys vs->Q (.ref D) (upd G D (.lst vs))):=by
 intro pins s σ H Q R I ⟨ρ,d,ZM,e,hA0,k⟩ fin;obtain⟨ds,ys,e1,hz,e3,rfl⟩:=ZL ρ d e;refine gO (@hi pins s σ H (λJ H'=>eN H H'/\Hf X.K J ds H') I ⟨ρ,ds,ZM,e1,λJ H' s' w=>⟨s',w⟩⟩) λv sA hA=>gO hA ?_;rintro itv L ⟨it,fp,tn,J,H2,eit,I2,T,ZN,f2,U,wd⟩;subst eit;have X9:=ZM.same U;refine cG (wpAny_newFunctionEnv S.M8 (by intro y hy;simp at hy) (λM F E=>?_) S.kind);dsimp only at F E ⊢;generalize Ya:L.heap.push { cls:=.type "list",dict:=Z,data:=.seq ([]:Lw).toArray }=Xf at F E ⊢;have ZO:Xf.objs.size=(zB L)+1:=by rw[<-Ya,cy]
 generalize hC:Xf.objs.size=C at F E ZO ⊢;generalize hD:(zB L)=D at ZO ⊢;have Yb:D≠C:=by omega
 have P:(zB L)<=C:=by omega
 have old:∀b o,L.heap.get? b=Y o->M.get? b=Y o:=λb o e=>by have j:=aq e;exact E.extBut b o (aG (aJ j P)) (aj _ (Ya▸aj _ e))
 have hD1:M.get? D=Y (qt [] 0):=by refine E.extBut _ _ Yb (aj _ (Ya▸?_));rw[<-hD];exact aA _ rfl
 have ZP:∀b∈fp,∃o,L.heap.get? b=Y o:=λb j=>by obtain⟨o,ho,_⟩:=T.obj 0 _ ZN b j;exact⟨o,ho⟩
 have I3:eX (lM X scope C (N0++iL.map (·.2)) L H2 fp) [] (N0.map (λ_=>Z)++Ap iL σ) H2 { L with heap:=M,toks:=L.toks+([]:List (Str×Value)).length } :=
  SU N0 I2 hc S hcl X8 f2 ZP P old F rfl I2.bare
 have Yc:∀b∈fp,b≠D/\b≠C:=λb j=>by obtain⟨o,ho⟩:=ZP b j;have:=aq ho;exact⟨aG (hD▸this),aG (aJ this P)⟩
 have Yd:∀(W:Cx),W=lM X scope C (N0++iL.map (·.2)) L H2 fp->∀{G:Hp}{σ':St}{s':Shared}{l:Lw}{n:Nat},eX W [(D,qt l n)] σ' G s' ->
   ∀{t':Nat}{h':Heap}{its':Lw}{n':Nat},(∀b o,b≠D->s'.heap.get? b=Y o->h'.get? b=Y o)->h'.get? D=Y (qt its' n')->eX W [(D,qt its' n')] σ' G { s' with heap:=h',toks:=t' }:=by
  intro W hX G σ' s' l n J1 t' h' its' n' kk hD';have O:=J1.pin (D,qt l n) (by simp);have J2:eX W [] σ' G s':=J1.pE λp O=>by cases O
  have J3:eX W [] σ' G { s' with heap:=h',toks:=t' }:=by
   refine J2.turned (it:=D) (λb o j e=>kk b o j e) O.2.1 O.2.2.1 (.inr ?_) (λy c e z=>?_) (λp O=>?_)
   ·subst hX;show (zB L)<=D;omega
   ·obtain⟨v,o,ho,hd⟩:=J2.cell y c e;rw[z,O.1] at ho;cases ho;have Ye:(qt l n).data=.cell v:=hd;cases Ye
   ·subst hX;exact absurd (show p∈([]:Ax)++[] from O) (by simp)
  refine J3.pE λp Xf=>?_;have:p=(D,qt its' n'):=by simpa using Xf
  subst this;exact⟨hD',O.2.1,O.2.2.1,O.2.2.2.1,λv z=>by have z':(qt its' n').data=.cell v:=z;cases z'⟩
 have Yf:D∉Eg X.stack:=λj=>by obtain⟨_,o,ho,_⟩:=I2.stack.mem j;have:=aq ho;exact absurd this (by rw[hD];exact aW _)
 have I4:eX (lM X scope C (N0++iL.map (·.2)) L H2 fp) [(D,qt [] 0)] (N0.map (λ_=>Z)++Ap iL σ) H2 { L with heap:=M,toks:=L.toks+([]:List (Str×Value)).length }:=by
  refine I3.pE λp O=>?_;have:p=(D,qt [] 0):=by simpa using O
  subst this;exact⟨hD1,I2.ij.fresh (by omega),Yb,Yf,λv z=>by have z':(qt [] 0).data=.cell v:=z;cases z'⟩
 have ZQ:tn 0 M:=T.keep 0 _ _ ZN λb j o e=>old b o e;let W:=lM X scope C (N0++iL.map (·.2)) L H2 fp;have stat:∀{G:Hp}{pl:Ax},(∀p∈pl,p.1=D)->(∀b∈fp,G b=Z)->∀b∈fp,mv W pl G b:=λ{G pl} hpl hn b j=>by
  obtain⟨f0,f1,ZR,f3,f4,f5⟩:=f2 b j;refine⟨hn b j,(Yc b j).2,λz=>?_,.inl j,λy c e=>f4 y c (jU e),λp O z=>?_⟩
  ·rcases av.mp (I2.Ce b z) with h|h
   ·exact f1 h
   ·exact ZR h
  ·have Vq:p∈pl:=by simpa [W,lM] using O
   exact(Yc b j).1 (by rw[<-z];exact hpl p Vq)
 have loop:∀s₃:Shared,s₃={ L with heap:=M,toks:=L.toks+([]:List (Str×Value)).length } ->
   codeAny (model X.prog X.w) X.A (.compLoop (.ListComp elt [⟨tg,iter,ifs,0⟩] scope pos) 0 (.ref it) (.ref D) (compEnvC scope (yF X.env scope) C X.env))
    (R (.ref D) C) s₃:=by
  rintro s₃ rfl;refine CH (λn s'=>∃(i:Nat) (σ':St) (G:Hp) (l:Lw) (vs:List V) (m:Nat) (done:Lp) (Xg:Lp),eX W [(D,qt l m)] σ' G s'/\tn i s'.heap/\(∀b∈fp,G b=Z)/\eN H2 G/\ju X.K G σ' (N0.map (λ_=>Z)++yG iL ρ) /\
    fO vs l/\A H G done vs/\done.length<=i/\i<=ds.length/\cmp (yG iL ρ) (ds.drop i)=Y Xg/\ys=done++Xg/\n=ds.length - i) ?_ ds.length
   ⟨0,_,H2,[],[],0,[],ys,I4,ZQ,λb j=>(f2 b j).1,.refl _,X9.cap N0 iL,.nil,AS hA0 U,ax _,bH _,by simpa using e3,rfl,by simp⟩
  rintro n s' ⟨i,σ',G,l,vs,m,done,Xg,JJ,st,fr,sG,Yg,rv,SV,hdi,hil,e5,e6,rfl⟩;obtain⟨w1,w2⟩:=wd G sG;by_cases Rt:i<ds.length
  ·
   have hd:ds[i]?=Y ds[i]:=aL Rt;obtain⟨w3,w4⟩:=w2 i _ hd;rw[bD Rt] at e5;obtain⟨pr,b,ZS,ebd,eb,e7⟩:=h1 _ _ _ _ e5;refine gO (T.item W rfl rfl rfl rfl i _ s' σ' G (λ_ _=>False) JJ (stat (by simp) fr) st w3) ?_;rintro r s5 ⟨u,hr,h5⟩;subst hr;refine gO h5 ?_;rintro _ s6 ⟨y,G6,J6,r6,y6,Yh,fr6⟩;obtain⟨s7,i7⟩:=w4 y G6 y6;have Yi:=stat (G:=G6) (pl:=[(D,qt l m)]) (by simp) fr6;have J6':=J6.pinned Yi (T.obj _ _ Yh);have Vr:ju X.K G6 σ' (N0.map (λ_=>Z)++yG iL ρ):=Yg.same s7;refine gO (hg C L H2 fp s6 σ' G6 y u (λσ8 H8=>eN G6 H8/\ju X.K H8 σ8 (pr++yG iL ρ)) J6' r6 ⟨_,ds[i],pr++yG iL ρ,Vr,i7,ebd,λσ8 H8 s8 h8=>⟨s8,h8⟩⟩) ?_;rintro _ s8 ⟨σ8,G8,J8,N,Qc⟩;refine gO (ht C L H2 fp s8 σ8 G8 (λc H9=>c=b/\eN G8 H9) J8 ⟨_,b,Qc,eb,λH9 s9=>⟨rfl,s9⟩⟩) ?_;rintro ok s9 ⟨G9,J9,⟨ij,t⟩⟩;subst ij;have Ru:∀{σ7:St}{G7:Hp}{s7:Shared}{pl:Ax},eX W (pl++vf fp s6.heap) σ7 G7 s7->tn (i+1) s7.heap/\∀b∈fp,G7 b=Z:=λ{σ7 G7 s7 pl} J7=>by refine⟨T.keep _ _ _ Yh λb j o e=>(J7.pin (b,o) (ao _ (ao _ (ny j e)))).1,λb j=>?_⟩;obtain⟨o,e,d⟩:=T.obj _ _ Yh b j;exact(J7.pin (b,o) (ao _ (ao _ (ny j e)))).2.1
   cases ok with
   |false=>rw[ai aC] at e7 ⊢;obtain⟨k1,k2⟩:=Ru J9;exact⟨ds.length - (i+1),by omega,i+1,σ8,G9,l,vs,m,done,Xg,J9.nA,k1,k2,sG.trans (s7.trans (N.trans t)),(Qc.less ZS).same t,rv,AS SV (s7.trans (N.trans t)),by omega,Rt,e7,e6,rfl⟩
   |true=>
    rw[ag rfl] at e7 ⊢;obtain⟨yd,ys2,e8,e10,rfl⟩:=e7;refine gO (he C L H2 fp s9 σ8 G9 (λv Yj=>eN G9 Yj/\∀b ds vs,A b G9 ds vs->A b Yj (ds++[yd]) (vs++[v])) J9 ⟨_,yd,Qc.same t,e8,λv Yj Xh Yk=>⟨Xh,Yk⟩⟩) ?_;rintro ZT Xh ⟨v10,ZU,ZV,r10,M9,Yk⟩;obtain⟨k1,k2⟩:=Ru ZV;have ZW:eX W [(D,qt l m)] σ8 ZU Xh:=ZV.nA;have Xi:=ZW.pin (D,qt l m) (by simp);have hlen:l.length<=sizeLine:=by have h1:=rv.length;have h2:=Vp SV;omega
    refine wpAny_list_append_plain (hsz:=by rw[aw];exact hlen) ⟨m,Xi.1⟩ ?_;rintro h12 ⟨ZX,Yl⟩ Vs;have J12:=Yd W rfl ZW (t':=Xh.toks) (h':=h12) (its':=l++[ZT]) (n':=ZX) (λb o j e=>(Vs.2 b j).trans e) (by rw[Yl];simp[qt]);refine⟨ds.length - (i+1),by omega,i+1,σ8,ZU,l++[ZT],vs++[v10],ZX,done++[yd],ys2,J12,?_,k2,sG.trans (s7.trans (N.trans (t.trans M9))),(Qc.less ZS).same (t.trans M9),rv.append (.cons r10 .nil),Yk _ _ _ (AS SV (s7.trans (N.trans t))),by simp;omega,Rt,e10,by simp[e6],rfl⟩;exact T.keep _ _ _ k1 λb j o e=>(Vs.2 b (Yc b j).1).trans e
  ·
   have hiL:i=ds.length:=by omega
   subst hiL;rw[dA] at e5;cases h0 _ _ e5;rw[aR] at e6;subst e6;refine gO (T.done W rfl rfl rfl rfl _ _ s' σ' G (λ_ _=>False) JJ (stat (by simp) fr) st w1) ?_;rintro r s9 ⟨hr,J9⟩;subst hr;have Xi:=J9.pin (D,qt l m) (by simp);obtain⟨mC,hnC,_⟩:=J9.loc;have Uj:G D=Z:=Xi.2.1;have hGC:G C=Z:=J9.free;have Ym:sf X.prog X.w (upd G D (.lst vs)) s9.heap:=λa o e=>by
    by_cases ha:a=D
    ·subst ha;rw[eS] at e;cases e;have h1:=rv.length;have h2:=Vp SV;exact⟨by omega,l,m,rv,Xi.1⟩
    ·rw[eM ha] at e;exact(J9.ij a o e).tw (λc w' hcc q=>q) (λc q=>by rw[eM (gm q Uj)];exact q) λc xs q=>by rw[eM (gm q Uj)];exact q
   have ne2:∀b o,L.heap.get? b=Y o->b≠C/\b≠D:=λb o e=>by have:=aq e;exact⟨aG (aJ this P),aG (hD▸this)⟩
   have un:Un (Eg X.stack) fp H2 (upd G D (.lst vs)) L.heap s9.heap:=by
    have B:=J9.base;refine⟨λb o e n j hx=>B.keep b o e n j hx,λb o e n j hx=>B.slot b o e n j hx,λb o e n hx=>by rw[eM (ne2 b o e).2];exact B.free b o e n hx,λb o e hx=>B.there b o e hx,λb xs e=>by rw[eM (gm (B.vd b xs e) Uj)];exact B.vd b xs e,
     λb o u e=>by rw[eM (gm (B.sg b o u e) Uj)];exact B.sg b o u e,λb ps e=>?_⟩
    obtain⟨mm,e1⟩:=B.wX b ps e;exact⟨mm,by rw[eM (gm e1 Uj)];exact e1⟩
   have I9:eX X pins σ (upd G D (.lst vs)) s9:=I2.UC (s':=s9) (ch:=fp) J9.os un Ym J9.bare (λb j=>by obtain⟨f0,f1,ZR,f3,f4,f5⟩:=f2 b j;exact⟨f3,f1,f4,f5⟩);have hpn:∀p∈X.pn++pins,p.1≠C:=λp O=>(ne2 p.1 p.2 (I2.pin p O).1).1;have hCz:(zB X.s₀)<=C:=bj I2.sz P;obtain⟨oC,es,ep,ZY,rC⟩:=hnC;have Yn:C∉X.fs:=λj=>by
    have h1:=J9.ok.Ml;have:C∈Eg X.stack:=by
     rcases I2.ok.Ue with z | ⟨z,_⟩
     ·rw[z];exact j
     ·rw[z];obtain⟨a,h1,h2⟩:=cf.mp j;exact cf.mpr ⟨a,ar _ h1,h2⟩
    obtain⟨_,o,ho,_⟩:=I2.stack.mem this;exact(ne2 C o ho).1 rfl
   have hCL:C≠X.env.locals:=λz=>by obtain⟨mL,hnL,_⟩:=I2.loc;obtain⟨oL,_,_,Xw,_⟩:=hnL;exact(ne2 _ oL Xw).1 z.symm
   refine fin D C s9 _ oC mC (I9.pE λp O=>?_) ⟨oC,es,ep,ZY,rC⟩ hpn hCz (k _ _ D _ rfl (U.trans sG) Uj SV);rcases av.mp O with z|z
   ·subst z;refine⟨ZY,by rw[eM (Ne.symm Yb)];exact hGC,hCL,Yn,λv z=>?_⟩;rw[rC.1] at z;cases z
   ·exact I9.pin p (ao _ z)
 exact codeAny_compStart_list (loop _ rfl) (T.self X.A 0 _ _ _ ZQ (loop _ rfl))
def EL(A:Hp->Hp->Lp->List V->Prop) (k:∀{b G:Hp}{ds:Lp}{vs:List V},A b G ds vs->ds.length=vs.length) (y:∀{b G G':Hp}{ds:Lp}{vs:List V},A b G ds vs->eN G G'->A b G' ds vs) {j a:Expr}{o:Pos}{h:Lx}{f:ee->Od}
  (w:X.calm=true) (S:jO scope x) (m:∀p∈scope.names,p.2=.free->∃c,X.env.cells.lookup p.1=Y c) (i:kT X scope iL) (l:(x::iL.map (·.2)).Nodup)
  (t:Mb X (.Name x o) a q)
  (r:∀C s H fp,w8 (lM X scope C (x::iL.map (·.2)) s H fp) h g)
  (u:∀C s H fp,PE (lM X scope C (x::iL.map (·.2)) s H fp) j (λσ G Q=>∃ρ yd,ju X.K G σ ρ/\f ρ=Y yd/\∀v G',eN G G'->(∀b ds vs,A b G ds vs->A b G' (ds++[yd]) (vs++[v]))->Q v G')):
  KH X (.ListComp j [⟨.Name x o,a,h,0⟩] scope pos) scope a (λσ H Q=>∃ρ d,ju X.K H σ ρ/\ir q iL g f ρ=Y d/\A H H [] []/\∀n G D vs,d=.list n->eN H G->G D=Z->A H G n vs->Q (.ref D) (upd G D (.lst vs))):=
 EK A k y [x] (oZ g f) w S m i t (λC s H fp=>yE 0 l rfl (.inl (bV S.var)) (.inr (bV S.var))) r u Bt (λ_ _ e=>by cases e;rfl) Hg
def CI{a:Expr}{f:ee->Od}{g:Cx}(h:PD g a f)(l:g.K=X.K):PE g a (λσ G Q=>∃ρ d,ju X.K G σ ρ/\f ρ=Y d/\∀v c,eN G c->(∀(b:Hp) ds vs,dn X.K G ds vs->dn X.K c (ds++[d]) (vs++[v]))->Q v c) :=
 PE.imp h <| by rintro σ G Q ⟨ρ,d,m,e,k⟩;exact⟨ρ,d,by rw[l];exact m,e,λv c s i=>k v c s λ_ _ _ j=>(j.same s).append (dn.cons (by rw[l] at i;exact i) dn.nil)⟩
def KH.data{a:Expr}{i:ee->Od}(h:KH X e scope a (λσ H Q=>∃ρ d,ju X.K H σ ρ/\i ρ=Y d/\dn X.K H [] []/\∀ys G D vs,d=.list ys->eN H G->G D=Z->dn X.K G ys vs->Q (.ref D) (upd G D (.lst vs)))):KH X e scope a (tD X.K i) :=
 λb s σ H Q R I ⟨ρ,d,c,e,k⟩ f=>h b s σ H Q R I ⟨ρ,d,c,e,dn.nil,λys G D vs l j g id=>k _ _ (j.trans (hE g)) (by rw[l];exact EG g id)⟩ f
def CJ{e a:Expr}{k:Pos}{b:Lx}{f:ee->Od}
  (o:X.calm=true) (S:jO scope x) (j:∀p∈scope.names,p.2=.free->∃c,X.env.cells.lookup p.1=Y c) (d:kT X scope iL) (i:(x::iL.map (·.2)).Nodup)
  (m:Mb X (.Name x k) a q)
  (l:∀C s H fp,w8 (lM X scope C (x::iL.map (·.2)) s H fp) b g)
  (n:∀C s H fp,PD (lM X scope C (x::iL.map (·.2)) s H fp) e f):KH X (.ListComp e [⟨.Name x k,a,b,0⟩] scope pos) scope a (tD X.K (ir q iL g f)):=
 (EL (λ_ G ds vs=>dn X.K G ds vs) dn.length (λh s=>h.same s) o S j d i m l λC s H fp=>CI (n C s H fp) rfl).data
def KH.pe{e a:Expr}{i:Pos}{d:Lx}{t:TE} (h:KH X (.ListComp e [⟨.Name x i,a,d,0⟩] scope pos) scope a t) (S:jO scope x) (g:∀p∈scope.names,p.2=.free->∃c,X.env.cells.lookup p.1=Y c)
  (k:∀x,foldedSetIterable a X.env x=pure x:=by intro _;rfl):PE X (.ListComp e [⟨.Name x i,a,d,0⟩] scope pos) t:=by
 intro b s σ H Q I o;rw[eval_ListComp];refine cU (use:=Z) rfl k (oK g) S.kind S.loc (@h b s σ H Q (compPost (model X.prog X.w) X.A X.xe Z (EP X b σ Q)) I o ?_);intro D C v u y m r n l j q;exact⟨m,n,λz f=>⟨.ref D,u,r.yH l j f,rfl,q⟩⟩
def Qd{h a:Expr}{j:Pos}{b:Lx}{f:ee->Od}
  (o:X.calm=true) (S:jO scope x) (d:∀p∈scope.names,p.2=.free->∃c,X.env.cells.lookup p.1=Y c) (e:kT X scope iL) (i:(x::iL.map (·.2)).Nodup)
  (m:Mb X (.Name x j) a q)
  (k:∀C s H fp,w8 (lM X scope C (x::iL.map (·.2)) s H fp) b g)
  (n:∀C s H fp,PD (lM X scope C (x::iL.map (·.2)) s H fp) h f)
  (l:∀x,foldedSetIterable a X.env x=pure x:=by intro _;rfl):PD X (.ListComp h [⟨.Name x j,a,b,0⟩] scope pos) (ir q iL g f) :=
 (CJ o S d e i m k n).pe S d l
def CK{y:Str}{j g:Pos}{f a:Expr}{l:Pos}{d:Lx}{t:TE} (h:KH X (.ListComp f [⟨.Name x l,a,d,0⟩] scope pos) scope a t) (S:jO scope x) (u:∀p∈scope.names,p.2=.free->∃c,X.env.cells.lookup p.1=Y c)
  (W:X.N.Nodup) (U:X.N[i]?=Y y) (F:X.env.scope.names.lookup y=Y .local) (n:swapsWith (.ListComp f [⟨.Name x l,a,d,0⟩] scope pos) (Y (.Name y j)) g.line X.env=pure true)
  (O:∀x,foldedSetIterable a X.env x=pure x:=by intro _;rfl):PS X (.Assign [.Name y j] (.ListComp f [⟨.Name x l,a,d,0⟩] scope pos) g) (Sa t (IX i)):=by
 intro b s σ H D I V;rw[exec_Assign_Name_used _ _ _ _ n];refine ab (wpAny_standAt (ab ?_));show wpAny _ X.A (do let _ <-comprehension (.ListComp f [⟨.Name x l,a,d,0⟩] scope pos) scope X.env _ (newList []) false (eval a X.env) (Y (assign (.Name y j) X.env))) _ _ s;refine ab (bK (cU (use:=Y (assign (.Name y j) X.env)) (Q:=λ_ k=>SP X b D .next k) rfl O (oK u) S.kind S.loc
  (@h b s σ H _ (compPost (model X.prog X.w) X.A X.xe (Y (assign (.Name y j) X.env)) (λ_ k=>SP X b D .next k)) I V ?_)) (λ_ k P=>ak (ak P)) λ_ _ e=>e)
 intro B C K H9 E m G T R M q;show wpAny _ X.A (assign (.Name y j) X.env (.ref B)) _ _ _;refine bK (tB W U (.inl F) (.inr F) K σ H9 (.ref B) (.ref B) (λσ' H'=>D.nx σ' H') G rfl q) (?_) λ_ _ e=>e;rintro _ k ⟨σ',H',J,L⟩;have z:=J.pin (C,E) (by simp);have v:=G.pin (C,E) (by simp);refine⟨m,T.at' λo e=>?_,λh' r=>⟨σ',H',J.yH R M r,L⟩⟩;rw[v.1] at e;cases e;exact z.1
end
def Na:HO->Prop
 |.lst _=>True
 |.dK _=>True
 |_=>False
def eW(G:Hp):List (Addr×HO)->Hp
 |[]=>G
 | (p,o)::r=>upd (eW G r) p o
inductive pH:List (Addr×HO)->Prop
 |nil:pH []
 |one {p:Addr}{o:HO}{r:List (Addr×HO)}:Na o->pH r->pH ((p,o)::r)
 |ins {p C dx:Addr}{fs:List (Str×V)}{r:List (Addr×HO)}:pH r->pH ((p,.ins C dx fs)::(dx,.own p)::r)
def pH.append{A:List (Addr×HO)}(h:pH A)(h':pH B):pH (A++B):=by
 induction h with
 |nil=>exact h'
 |one f _ a=>exact .one f a
 |ins _ a=>exact .ins a
structure jQ (G:Hp) (B:List (Addr×HO)):Prop where
 nd:(B.map (·.1)).Nodup
 free:∀x∈B,G x.1=Z
 ok:pH B
theorem jQ.nil{G:Hp}:jQ G []:=⟨List.nodup_nil,(λx a=>by cases a),.nil⟩
theorem fX{G:Hp}{a:Addr}:∀{B:List (Addr×HO)},(∀x∈B,x.1≠a)->eW G B a=G a
 |[],_=>rfl
 | (p,o)::r,h=>by show upd (eW G r) p o a=G a;rw[eM (Ne.symm (h (p,o) (by simp)))];exact fX λx b=>h x (ar _ b)
theorem fL{G:Hp}:∀{B:List (Addr×HO)},(B.map (·.1)).Nodup->∀x∈B,eW G B x.1=Y x.2
 |[],_,_,h=>by cases h
 | (p,o)::r,nd,x,hx=>by
  rw[aB,br] at nd;rcases av.mp hx with e|hx
  ·subst e;exact eS
  ·show upd (eW G r) p o x.1=Y x.2;have a:x.1≠p:=λe=>nd.1 (by rw[<-e];exact aU.mpr ⟨x,hx,rfl⟩);rw[eM a];exact fL nd.2 x hx
def oj(B:List (Addr×HO)):(∃x∈B,x.1=a)\/(∀x∈B,x.1≠a):=by
 by_cases h:∃x∈B,x.1=a
 ·exact .inl h
 ·exact .inr λx b e=>h ⟨x,b,e⟩
def q8(c:(B.map (·.1)).Nodup)(e:∀x∈B,H x.1=Y x.2)(d:∀a,(∀x∈B,x.1≠a)->H a=G a):H=eW G B:=by
 funext a
 rcases oj (a:=a) B with ⟨x,b,rfl⟩|h
 ·rw[e x b,fL c x b]
 ·rw[d a h,fX h]
theorem jf(G:Hp):∀(A B:List (Addr×HO)),eW G (A++B)=eW (eW G B) A
 |[],_=>rfl
 | (p,o)::r,B=>by show upd (eW G (r++B)) p o=upd (eW (eW G B) r) p o;rw[jf G r B]
def hY{A:List (Addr×HO)}(d:(A.map (·.1)).Nodup)(h:A.Perm B):eW G A=eW G B:=by have b:(B.map (·.1)).Nodup:=(h.map (·.1)).nodup_iff.mp d;refine q8 b (λx c=>fL d x (h.mem_iff.mpr c)) λa e=>fX λx c=>e x (h.mem_iff.mp c)
def jQ.same(f:jQ G B):eN G (eW G B):=λa o e=>by
 rw[fX λx b z=>?_]
 ·exact e
 ·have:=f.free x b;rw[z,e] at this;cases this
def jQ.KI{A:List (Addr×HO)}(f:jQ G (A++B))(d:pH A):jQ (eW G B) A:=by have a:=f.nd;rw[bt,cJ] at a;refine⟨a.1,λx b=>?_,d⟩;rw[fX λy c z=>a.2.2 _ (aU.mpr ⟨x,b,rfl⟩) _ (aU.mpr ⟨y,c,rfl⟩) z.symm];exact f.free x (aM _ b)
def jQ.KJ{A:List (Addr×HO)}(f:jQ G (A++B))(c:pH B):jQ G B:=by have a:=f.nd;rw[bt,cJ] at a;exact⟨a.2.1,λx b=>f.free x (ao _ b),c⟩
def jQ.join{A:List (Addr×HO)}(f:jQ G B)(g:jQ (eW G B) A):jQ G (A++B):=by
 have d:∀x∈A,∀y∈B,x.1≠y.1:=λx e y c z=>by have i:=g.free x e;rw[z,fL f.nd y c] at i;cases i
 refine⟨?_,λx e=>?_,g.ok.append f.ok⟩
 ·rw[bt,cJ];refine⟨g.nd,f.nd,λa k b j z=>?_⟩;obtain⟨x,e,rfl⟩:=aU.mp k;obtain⟨y,c,rfl⟩:=aU.mp j;exact d x e y c z
 ·rcases bc.mp e with h|h
  ·have i:=g.free x h;rw[fX λy c z=>d x h y c z.symm] at i;exact i
  ·exact f.free x h
def jQ.perm{A:List (Addr×HO)}(f:jQ G A)(h:A.Perm B)(a:pH B):jQ G B :=
 ⟨(h.map (·.1)).nodup_iff.mp f.nd,λx b=>f.free x (h.mem_iff.mpr b),a⟩
section
variable {p:Addr}{o:HO}
def Qe(I:eX X pins σ (upd H p o) s)(g:Na o):∃a,s.heap.get? p=Y a/\∀v,a.data≠.cell v:=by
 have h:=I.ij p o eS;cases o with
 |lst d=>obtain⟨_,b,n,_,e⟩:=h;exact⟨_,e,λv z=>by have c:Data.seq b.toArray n=.cell v:=z;cases c⟩
 |dK f=>obtain⟨_,_,d,_,a,j,k,e,_,i,_⟩:=h;exact⟨a,e,λv z=>by rw[i] at z;cases z⟩
 |_=>exact g.elim
def Nb{P:Program}{s:Hp}{f:Heap}{a:Obj}(k:Na o)(x:iK P w H h p o)(e:h.get? p=Y a)(g:f.get? p=Y a):iK P w s f p o:=by
 cases o with
 |lst d=>obtain⟨z,b,n,r,q⟩:=x;rw[e] at q;cases q;exact⟨z,b,n,r,g⟩
 |dK j=>obtain⟨z,y,d,r,i,l,m,q,c⟩:=x;rw[e] at q;cases q;exact⟨z,y,d,r,a,l,m,g,c⟩
 |_=>exact k.elim
def Rv(I:eX X pins σ (upd H p o) s)(W:H p=Z)(j:Na o):∃k,eX X (pins++[(p,k)]) σ H s /\
  ∀(G:Hp) (N:Shared) (σ':St),eX X (pins++[(p,k)]) σ' G N->G p=Z/\eX X pins σ' (upd G p o) N:=by
 obtain⟨k,D,f⟩:=Qe I j;have nt:∀b u,H b=Y u->b≠p:=λb u e=>gm e W;have t:∀b,upd H p o b=Z->b≠p/\H b=Z:=λb e=>by
  have g:b≠p:=λz=>by rw[z,eS] at e;cases e
  rw[eM g] at e;exact⟨g,e⟩
 have F:∀b u,upd H p o b=Y u->u≠o->H b=Y u:=λb u e hu=>by
  by_cases g:b=p
  ·rw[g,eS] at e;cases e;exact absurd rfl hu
  ·rw[eM g] at e;exact e
 have l:∀i,(HO.tup i)≠o:=λi e=>by rw[<-e] at j;exact j
 have B:∀q u,(HO.tq q u)≠o:=λq u e=>by rw[<-e] at j;exact j
 have y:∀w,(HO.Pf w)≠o:=λw e=>by rw[<-e] at j;exact j
 have A:∀a,(HO.own a)≠o:=λa e=>by rw[<-e] at j;exact j
 have hL:p≠X.env.locals:=λz=>by have:=I.free;rw[<-z,eS] at this;cases this
 have U:p∉X.fs:=λg=>by obtain⟨_,q,d,_⟩:=I.ok.si.mem g;have:=I.base.free p q d (I.ok.Ml p g) λz=>I.ok.GG p z g;rw[eS] at this;cases this
 have Q:∀q∈X.pn++pins,q.1≠p:=λq d=>(t q.1 (I.pin q d).2.1).1;have h0:∀q,X.s₀.heap.get? p=Y q->X.H₀ p=Z->p∈X.ex:=λq d T=>by
  by_cases r:p∈X.ex
  ·exact r
  ·have:=I.base.free p q d T r;rw[eS] at this;cases this
 refine⟨k,?_,?_⟩
 ·refine⟨I.ok,I.os,I.bare,⟨I.base.keep,I.base.slot,λb q e n r=>(t b (I.base.free b q e n r)).2,I.base.there,λb i e=>F b _ (I.base.vd b i e) (l i),λb q u e=>F b _ (I.base.sg b q u e) (B q u),λb w e=>?_⟩,I.loc,I.cell,(t _ I.free).2,λx c e=>(t c (I.mS x c e)).2,λq d=>?_,λa u e=>?_,I.len⟩
  ·obtain⟨m,V⟩:=I.base.wX b w e;exact⟨m,F b _ V (y _)⟩
  ·rcases bc.mp d with h|h
   ·obtain⟨M,L,K⟩:=I.pin q (aM _ h);exact⟨M,(t _ L).2,K⟩
   ·rcases bc.mp h with h|h
    ·obtain⟨M,L,K⟩:=I.pin q (ao _ h);exact⟨M,(t _ L).2,K⟩
    ·have:q=(p,k):=by simpa using h
     subst this;exact⟨D,W,hL,U,f⟩
  ·have O:=nt a u e;exact(I.ij a u (by rw[eM O];exact e)).tw (λ_ _ _ q=>q) (λb q=>F b _ q (A a)) λb i q=>F b _ q (l i)
 ·intro G N σ' J;have S:=J.pin (p,k) (ao _ (ao _ (by simp)));have E:G p=Z:=S.2.1;have C:∀b u,G b=Y u->upd G p o b=Y u:=λb u e=>by rw[eM (gm e E)];exact e
  refine⟨E,⟨J.ok,J.os,J.bare,⟨J.base.keep,J.base.slot,λb q e n r=>?_,J.base.there,λb i e=>C b _ (J.base.vd b i e),λb q u e=>C b _ (J.base.sg b q u e),λb w e=>?_⟩,J.loc,J.cell,?_,λx c e=>?_,λq d=>?_,λa u e=>?_,J.len⟩⟩
  ·have g:b≠p:=λz=>by subst z;exact r (h0 q e n)
   rw[eM g];exact J.base.free b q e n r
  ·obtain⟨m,V⟩:=J.base.wX b w e;exact⟨m,C b _ V⟩
  ·rw[eM (Ne.symm hL)];exact J.free
  ·have hc:c≠p:=λz=>by
    obtain⟨v,q,d,hd⟩:=J.cell x c e;rw[z] at d;have R:N.heap.get? p=Y k:=S.1;rw[R] at d;cases d;exact f v hd
   rw[eM hc];exact J.mS x c e
  ·have P:q∈X.pn++(pins++[(p,k)]):=by
    rcases bc.mp d with h|h
    ·exact aM _ h
    ·exact ao _ (aM _ h)
   obtain⟨M,L,K⟩:=J.pin q P;exact⟨M,by rw[eM (Q q d)];exact L,K⟩
  ·by_cases O:a=p
   ·subst O;rw[eS] at e;cases e;exact Nb j (I.ij a o eS) D S.1
   ·rw[eM O] at e;exact(J.ij a u e).tw (λ_ _ _ q=>q) (λb q=>C b _ q) λb i q=>C b _ q
def Vt{C d:Addr}{y:List (Str×V)}(I:eX X pins σ (upd (upd H d (.own p)) p (.ins C d y)) s)(hn:H p=Z)(R:H d=Z)(hne:d≠p):∃ob t,eX X (pins++[(p,ob),(d,t)]) σ H s /\
  ∀(G:Hp) (M:Shared) (σ':St),eX X (pins++[(p,ob),(d,t)]) σ' G M->G p=Z/\G d=Z/\eX X pins σ' (upd (upd G d (.own p)) p (.ins C d y)) M:=by
 obtain⟨z1,z2,z3,Yo,mA,ns,rl,wi⟩:=(show iK X.prog X.w (upd (upd H d (.own p)) p (.ins C d y)) s.heap p (.ins C d y) from I.ij p _ eS)
 obtain⟨t,es,ep,Q,T,D⟩:=id ns;have r:∀v,(W.instObj C d).data≠.cell v:=λv z=>by cases z
 have j:∀v,t.data≠.cell v:=λv z=>by
  first
  | (rw[T] at z;cases z)
  | (rw[T.2.2] at z;cases z)
  | (rw[D.1] at z;cases z)
 have A:∀(F:Hp),upd (upd F d (.own p)) p (.ins C d y) d=Y (.own p):=λF=>by rw[eM hne,eS]
 have K:∀b,upd (upd H d (.own p)) p (.ins C d y) b=Z->b≠p/\b≠d/\H b=Z:=λb e=>by
  have i:b≠p:=λz=>by rw[z,eS] at e;cases e
  rw[eM i] at e;have g:b≠d:=λz=>by rw[z,eS] at e;cases e
  rw[eM g] at e;exact⟨i,g,e⟩
 have nG:∀(G:Hp),G p=Z->G d=Z->∀b u,G b=Y u->upd (upd G d (.own p)) p (.ins C d y) b=Y u:=λG g1 g2 b u e=>by rw[eM (gm e g1),eM (gm e g2)];exact e
 have bk:∀(G:Hp) b u,upd (upd G d (.own p)) p (.ins C d y) b=Y u->u≠.ins C d y->u≠.own p->G b=Y u:=λG b u e hu hu2=>by
  by_cases i:b=p
  ·rw[i,eS] at e;cases e;exact absurd rfl hu
  ·rw[eM i] at e;by_cases g:b=d
   ·rw[g,eS] at e;cases e;exact absurd rfl hu2
   ·rw[eM g] at e;exact e
 have hL:p≠X.env.locals:=λz=>by have:=I.free;rw[<-z,eS] at this;cases this
 have ZZ:d≠X.env.locals:=λz=>by have:=I.free;rw[<-z,A] at this;cases this
 have hfs:p∉X.fs:=λi=>by obtain⟨_,q,f,_⟩:=I.ok.si.mem i;have:=I.base.free p q f (I.ok.Ml p i) λz=>I.ok.GG p z i;rw[eS] at this;cases this
 have S:d∉X.fs:=λi=>by obtain⟨_,q,f,_⟩:=I.ok.si.mem i;have:=I.base.free d q f (I.ok.Ml d i) λz=>I.ok.GG d z i;rw[A] at this;cases this
 have O:∀q∈X.pn++pins,q.1≠p/\q.1≠d:=λq f=>let z:=K q.1 (I.pin q f).2.1;⟨z.1,z.2.1⟩;have h0:∀q,X.s₀.heap.get? p=Y q->X.H₀ p=Z->p∈X.ex:=λq f E=>by
  by_cases k:p∈X.ex
  ·exact k
  ·have:=I.base.free p q f E k;rw[eS] at this;cases this
 have h02:∀q,X.s₀.heap.get? d=Y q->X.H₀ d=Z->d∈X.ex:=λq f E=>by
  by_cases k:d∈X.ex
  ·exact k
  ·have:=I.base.free d q f E k;rw[A] at this;cases this
 refine⟨W.instObj C d,t,?_,?_⟩
 ·refine⟨I.ok,I.os,I.bare,⟨I.base.keep,I.base.slot,λb q e n k=>(K b (I.base.free b q e n k)).2.2,I.base.there,λb L e=>bk H b _ (I.base.vd b L e) (λz=>nomatch z) (λz=>nomatch z),λb q u e=>bk H b _ (I.base.sg b q u e) (λz=>nomatch z) (λz=>nomatch z),λb ps e=>?_⟩,I.loc,I.cell,(K _ I.free).2.2,λx c e=>(K c (I.mS x c e)).2.2,λq f=>?_,λa u e=>?_,I.len⟩
  ·obtain⟨m,e1⟩:=I.base.wX b ps e;exact⟨m,bk H b _ e1 (λz=>nomatch z) (λz=>nomatch z)⟩
  ·rcases bc.mp f with h|h
   ·obtain⟨a1,a2,a3⟩:=I.pin q (aM _ h);exact⟨a1,(K _ a2).2.2,a3⟩
   ·rcases bc.mp h with h|h
    ·obtain⟨a1,a2,a3⟩:=I.pin q (ao _ h);exact⟨a1,(K _ a2).2.2,a3⟩
    ·rcases av.mp h with h|h
     ·subst h;exact⟨Yo,hn,hL,hfs,r⟩
     ·have:q=(d,t):=by simpa using h
      subst this;exact⟨Q,R,ZZ,S,j⟩
  ·have ha:a≠p:=gm e hn;refine(I.ij a u (nG H hn R a u e)).tw (λ_ _ _ q=>q) (λb q=>bk H b _ q (λz=>nomatch z) (λz=>ha (by cases z;rfl))) λb L q=>bk H b _ q (λz=>nomatch z) (λz=>nomatch z)
 ·intro G M σ' J;have hp:=J.pin (p,W.instObj C d) (ao _ (ao _ (by simp)));have P:=J.pin (d,t) (ao _ (ao _ (by simp)));have Z0:G p=Z:=hp.2.1;have Z1:G d=Z:=P.2.1;have l:M.heap.get? d=Y t:=P.1;have B:M.heap.get? p=Y (W.instObj C d):=hp.1;have N:=nG G Z0 Z1;refine⟨Z0,Z1,⟨J.ok,J.os,J.bare,⟨J.base.keep,J.base.slot,λb q e n k=>?_,J.base.there,λb L e=>N b _ (J.base.vd b L e),λb q u e=>N b _ (J.base.sg b q u e),λb ps e=>?_⟩,J.loc,J.cell,?_,λx c e=>?_,λq f=>?_,λa u e=>?_,J.len⟩⟩
  ·have i:b≠p:=λz=>by subst z;exact k (h0 q e n)
   have g:b≠d:=λz=>by subst z;exact k (h02 q e n)
   rw[eM i,eM g];exact J.base.free b q e n k
  ·obtain⟨m,e1⟩:=J.base.wX b ps e;exact⟨m,N b _ e1⟩
  ·rw[eM (Ne.symm hL),eM (Ne.symm ZZ)];exact J.free
  ·have hc:c≠p:=λz=>by
    obtain⟨v,q,f,hd⟩:=J.cell x c e;rw[z,B] at f;cases f;exact r v hd
   have hc2:c≠d:=λz=>by obtain⟨v,q,f,hd⟩:=J.cell x c e;rw[z,l] at f;cases f;exact j v hd
   rw[eM hc,eM hc2];exact J.mS x c e
  ·have hq':q∈X.pn++(pins++[(p,W.instObj C d),(d,t)]):=by
    rcases bc.mp f with h|h
    ·exact aM _ h
    ·exact ao _ (aM _ h)
   obtain⟨a1,a2,a3⟩:=J.pin q hq';exact⟨a1,by rw[eM (O q f).1,eM (O q f).2];exact a2,a3⟩
  ·by_cases ha:a=p
   ·subst ha;rw[eS] at e;cases e;exact⟨A G,z2,z3,B,mA,ns.at λo q=>by rw[Q] at q;cases q;exact l,rl,wi⟩
   ·rw[eM ha] at e;by_cases U:a=d
    ·subst U;rw[eS] at e;cases e;exact⟨t,l⟩
    ·rw[eM U] at e;exact(J.ij a u e).tw (λ_ _ _ q=>q) (λb q=>N b _ q) λb L q=>N b _ q
def Bu(ok:pH B):∀{a:Ax}{G:Hp}{σ:St}{s:Shared},eX X a σ (eW G B) s->jQ G B->∃t,eX X (a++t) σ G s/\(∀q∈t,∃x∈B,q.1=x.1)/\(∀x∈B,∃q∈t,q.1=x.1) /\
  ∀(d:Hp) (m:Shared) (σ':St),eX X (a++t) σ' d m->jQ d B/\eX X a σ' (eW d B) m:=by
 induction ok with
 |nil=>exact λI f=>⟨[],by rw[aR];exact I,(λq n=>by cases n),(λx b=>by cases b),λd m σ' J=>⟨jQ.nil,by rw[aR] at J;exact J⟩⟩
 |@one p o r hf u N=>
  intro a G σ s I f;have w:=br.mp (show (p::r.map (·.1)).Nodup from f.nd);have R:jQ G r:=⟨w.2,λy O=>f.free y (ar _ O),u⟩
  have g:∀x∈r,x.1≠p:=λx b e=>w.1 (aU.mpr ⟨x,b,e⟩);have v:eW G r p=Z:=by rw[fX g];exact f.free (p,o) (by simp)
  obtain⟨A,W,l⟩:=Rv (H:=eW G r) I v hf;obtain⟨t,V,M,L,c⟩:=N W R;refine⟨(p,A)::t,by simpa using V,λq n=>?_,λx b=>?_,λd m σ' J=>?_⟩
  ·rcases av.mp n with e|h
   ·exact⟨(p,o),by simp,by rw[e]⟩
   ·obtain⟨x,b,e⟩:=M q h;exact⟨x,ar _ b,e⟩
  ·rcases av.mp b with e|h
   ·exact⟨(p,A),by simp,by rw[e]⟩
   ·obtain⟨q,n,e⟩:=L x h;exact⟨q,ar _ n,e⟩
  ·obtain⟨S,U⟩:=c d m σ' (by simpa using J);obtain⟨i,T⟩:=l (eW d r) m σ' U;have j:d p=Z:=by rw[fX g] at i;exact i
   refine⟨⟨f.nd,λx b=>?_,f.ok⟩,T⟩;rcases av.mp b with e|h
   ·rw[e];exact j
   ·exact S.free x h
 |@ins p C k fs r u N=>
  intro a G σ s I f;have w:=br.mp (show (p::k::r.map (·.1)).Nodup from f.nd);have D:=br.mp w.2;have R:jQ G r:=⟨D.2,λy O=>f.free y (ar _ (ar _ O)),u⟩
  have P:k≠p:=λz=>w.1 (by rw[<-z];simp);have g:∀x∈r,x.1≠p:=λx b e=>w.1 (ar _ (aU.mpr ⟨x,b,e⟩));have E:∀x∈r,x.1≠k:=λx b e=>D.1 (aU.mpr ⟨x,b,e⟩);have v:eW G r p=Z:=by rw[fX g];exact f.free (p,.ins C k fs) (by simp)
  have Q:eW G r k=Z:=by rw[fX E];exact f.free (k,.own p) (by simp)
  obtain⟨A,od,W,l⟩:=Vt (H:=eW G r) I v Q P;obtain⟨t,V,M,L,c⟩:=N W R;refine⟨(p,A)::(k,od)::t,by simpa using V,λq n=>?_,λx b=>?_,λd m σ' J=>?_⟩
  ·rcases av.mp n with e|h
   ·exact⟨(p,.ins C k fs),by simp,by rw[e]⟩
   ·rcases av.mp h with e|h
    ·exact⟨(k,.own p),by simp,by rw[e]⟩
    ·obtain⟨x,b,e⟩:=M q h;exact⟨x,ar _ (ar _ b),e⟩
  ·rcases av.mp b with e|h
   ·exact⟨(p,A),by simp,by rw[e]⟩
   ·rcases av.mp h with e|h
    ·exact⟨(k,od),by simp,by rw[e]⟩
    ·obtain⟨q,n,e⟩:=L x h;exact⟨q,ar _ (ar _ n),e⟩
  ·obtain⟨S,U⟩:=c d m σ' (by simpa using J);obtain⟨i,F,T⟩:=l (eW d r) m σ' U;have j:d p=Z:=by rw[fX g] at i;exact i
   have K:d k=Z:=by rw[fX E] at F;exact F
   refine⟨⟨f.nd,λx b=>?_,f.ok⟩,T⟩;rcases av.mp b with e|h
   ·rw[e];exact j
   ·rcases av.mp h with e|h
    ·rw[e];exact K
    ·exact S.free x h
def PE.frame{t:TE}(h:PE X e t):PE X e (λσ H Q=>∃G B,H=eW G B/\jQ G B/\t σ G λv b=>jQ b B->Q v (eW b B)):=by intro c s σ H Q I ⟨G,B,j,f,g⟩;subst j;obtain⟨m,l,_,_,a⟩:=Bu f.ok I f;refine gO (@h _ s σ G _ l g) ?_;rintro v d ⟨x,b,J,r,q⟩;obtain⟨i,k⟩:=a b d σ J;exact⟨x,eW b B,k,r,q i⟩
def PI.frame{a:Expr}{t:TI}(h:PI X tg a t):PI X tg a (λσ H R=>∃G B,H=eW G B/\jQ G B/\t σ G λJ d=>jQ d B->R J (eW d B)):=by
 intro i s σ H R I ⟨G,B,Q,f,y⟩;subst Q;obtain⟨PB,W,m1,o,c⟩:=Bu f.ok I f;refine gO (@h _ s σ G _ W y) λv s1 E=>gO E ?_;rintro r m ⟨u,F,k,J,d,e,V,T,l,C,q⟩;obtain⟨P,U⟩:=c d m σ V;refine⟨u,F,k,J,eW d B,e,U,T,l,λb D=>?_,q P⟩;obtain⟨O,N,M,L,K,j⟩:=C b D;refine⟨?_,N,M,L,K,λp A=>j p ?_⟩
 ·rw[fX λx w z=>?_]
  ·exact O
  ·obtain⟨n,g,S⟩:=o x w;exact j n (ao _ (ao _ g)) (S.trans z)
 ·rcases bc.mp A with h|h
  ·exact aM _ h
  ·exact ao _ (aM _ h)
def PA.frame{t:TA}(h:PA X es t):PA X es (λσ H Q=>∃G B,H=eW G B/\jQ G B/\t σ G λg b=>jQ b B->Q g (eW b B)):=by intro c d s σ H Q I ⟨G,B,l,f,j⟩;subst l;obtain⟨p,n,_,_,a⟩:=Bu f.ok I f;refine gO (@h c _ s σ G _ n j) ?_;rintro o i ⟨e,b,J,r,q⟩;obtain⟨k,m⟩:=a b i σ J;exact⟨e,eW b B,m,r,q k⟩
end
noncomputable def o2(f:Str):List (eA×eA)->Od
 |[]=>Z
 | (.str g,d)::r=>if g=f then Y d else o2 f r
 |_::r=>o2 f r
noncomputable def p9(f:Str)(y:eA):List (eA×eA)->List (eA×eA)
 |[]=>[(.str f,y)]
 | (.str g,d)::r=>if g=f then (.str g,y)::r else (.str g,d)::p9 f y r
 |x::r=>x::p9 f y r
section
theorem j3.get{f:Str}{d:eA}:∀{r:List (eA×eA)}{c:List (Str×V)},j3 K H r c->o2 f r=Y d->∃v,c.lookup f=Y v/\eI K H d v
 |[],_,_,e=>by cases e
 | (k,x)::r,_,h,e=>by
  obtain⟨y,v,g,rfl,rfl,i,t⟩:=j3.eE.mp h;by_cases q:y=f
  ·simp only[o2,ag q] at e;cases e;exact⟨v,by rw[aY,bY.mpr q.symm],i⟩
  ·simp only[o2,ai q] at e;obtain⟨u,a,b⟩:=j3.get t e;exact⟨u,by rw[aY,aZ.mpr (λz=>q z.symm)];exact a,b⟩
theorem j3.none{f:Str}:∀{r:List (eA×eA)}{fs:List (Str×V)},j3 K H r fs->o2 f r=.none->fs.lookup f=.none
 |[],_,h,e=>by rw[j3.eP.mp h];rfl
 | (k,x)::r,_,h,e=>by
  obtain⟨y,v,r',rfl,rfl,i,t⟩:=j3.eE.mp h;by_cases q:y=f
  ·simp only[o2,ag q] at e;cases e
  ·simp only[o2,ai q] at e;rw[aY,aZ.mpr (λz=>q z.symm)];exact j3.none t e
noncomputable def mJ(c f:Str):Bool:=(c=="Reading"&&(f=="fields"||f=="heads"||f=="blocks"||f=="later"))||(c=="Outline"&&(f=="params"||f=="kept"||f=="own_rows"||f=="fields"))
def pI(c f:Str):Bool:=c=="Outline"&&f=="own_rows"
def qa(K:Fg)(G:Hp)(d:eA)(q:Addr)(o:HO):Prop :=
 (∃e b,d=.list e/\o=.lst b/\dn K G e b)\/∃a c,d=.dict a/\o=.dK c/\fZ K G a c
def isL:eA->Bool
 |.list _=>true
 |_=>false
def Qf(K:Fg)(G:Hp)(d:eA)(v:V)(B:List (Addr×HO)):Prop:=(isL d=false/\eI K G d v/\B=[])\/∃b p a,d=.list b/\v=.ref p/\B=[(p,.lst a)]/\dn K G b a
def Pa(K:Fg)(G:Hp):Lp->List V->List (Addr×HO)->Prop
 |[],vs,B=>vs=[]/\B=[]
 |d::ds,vs,B=>∃v a c b,vs=v::a/\B=c++b/\Qf K G d v c/\Pa K G ds a b
def Pb(K:Fg)(G:Hp):List (eA×eA)->List (Key×V)->List (Addr×HO)->Prop
 |[],kv,B=>kv=[]/\B=[]
 | (k,d)::r,kv,B=>∃y v a c b,kv=(y,v)::a/\k=kh y/\B=c++b/\Qf K G d v c/\Pb K G r a b
def Yp(K:Fg)(G:Hp)(d:eA)(o:HO)(B:List (Addr×HO)):Prop :=
 (∃e b,d=.list e/\o=.lst b/\Pa K G e b B)\/∃a c,d=.dict a/\o=.dK c/\Pb K G a c B
def oM(a:Bool)(K:Fg)(G:Hp)(d:eA)(q:Addr)(o:HO)(B:List (Addr×HO)):Prop:=match a with
 |false=>qa K G d q o/\B=[]
 |true=>Yp K G d o B
def js(K:Fg)(G:Hp)(c:Str):List (eA×eA)->List (Str×V)->List (Addr×HO)->Prop
 |[],fs,B=>fs=[]/\B=[]
 | (k,d)::r,fs,B=>∃y v a,fs=(y,v)::a/\k=.str y/\((mJ c y=false/\eI K G d v/\js K G c r a B)\/(mJ c y=true/\∃q o b e,v=.ref q/\B=(q,o)::(b++e)/\oM (pI c y) K G d q o b/\js K G c r a e))
def jv(g:Bool)(K:Fg)(G:Hp)(d:eA)(v:V)(B:List (Addr×HO)):Prop :=
 (∃q o e,v=.ref q/\B=(q,o)::e/\oM g K G d q o e) \/
 ∃c C p b a r f,d=.dict ((.none,.str c)::r)/\v=.ref p/\B=(p,.ins C b a)::(b,.own p)::f/\jB K c C/\js K G c r a f
theorem Qf.sim{f:Hp}{d:eA}{v:V}{B:List (Addr×HO)}(e:An K G f)(h:Qf K G d v B):Qf K f d v B:=by
 rcases h with ⟨a,b,c⟩ | ⟨i,p,g,a,b,c,t⟩
 ·exact .inl ⟨a,b.sim e,c⟩
 ·exact .inr ⟨i,p,g,a,b,c,t.sim e⟩
def Qf.mI(h:Qf K G d v B):pH B:=by
 rcases h with ⟨a,b,c⟩ | ⟨f,p,e,a,b,c,t⟩
 ·rw[c];exact .nil
 ·rw[c];exact .one aP .nil
def Qf.Mc(h:Qf K G d v B)(e:eN G H)(f:∀x∈B,H x.1=Y x.2):eI K H d v:=by
 rcases h with ⟨a,b,c⟩ | ⟨g,p,vs,rfl,rfl,rfl,t⟩
 ·exact b.same e
 ·exact eI.eZ.mpr ⟨p,vs,rfl,j0.of (f (p,.lst vs) (by simp)),t.same e⟩
theorem Pa.sim{g:Hp}(e:An K G g):∀{f:Lp}{d:List V}{B:List (Addr×HO)},Pa K G f d B->Pa K g f d B
 |[],_,_,h=>h
 |_::_,_,_,⟨v,Rw,B1,B2,a,b,c,t⟩=>⟨v,Rw,B1,B2,a,b,c.sim e,Pa.sim e t⟩
theorem Pa.mI:∀{e:Lp}{d:List V}{B:List (Addr×HO)},Pa K G e d B->pH B
 |[],_,_,h=>by rw[h.2];exact .nil
 |_::_,_,_,⟨v,Rw,B1,B2,a,b,c,t⟩=>by rw[b];exact c.mI.append t.mI
theorem Pa.Vu(e:eN G H):∀{g:Lp}{f:List V}{B:List (Addr×HO)},Pa K G g f B->(∀x∈B,H x.1=Y x.2)->dn K H g f
 |[],_,_,h,_=>by rw[h.1];exact dn.nil
 |_::_,_,_,⟨v,Rw,B1,B2,a,b,c,t⟩,hB=>by subst a b;exact dn.cons (c.Mc e λx d=>hB x (aM _ d)) (t.Vu e λx d=>hB x (ao _ d))
theorem Pb.sim{g:Hp}(e:An K G g):∀{f:List (eA×eA)}{d:List (Key×V)}{B:List (Addr×HO)},Pb K G f d B->Pb K g f d B
 |[],_,_,h=>h
 | (_,_)::_,_,_,⟨y,v,Rw,B1,B2,a,a2,b,c,t⟩=>⟨y,v,Rw,B1,B2,a,a2,b,c.sim e,Pb.sim e t⟩
theorem Pb.mI:∀{e:List (eA×eA)}{d:List (Key×V)}{B:List (Addr×HO)},Pb K G e d B->pH B
 |[],_,_,h=>by rw[h.2];exact .nil
 | (_,_)::_,_,_,⟨y,v,Rw,B1,B2,a,a2,b,c,t⟩=>by rw[b];exact c.mI.append t.mI
theorem Pb.Vv(e:eN G H):∀{g:List (eA×eA)}{f:List (Key×V)}{B:List (Addr×HO)},Pb K G g f B->(∀x∈B,H x.1=Y x.2)->fZ K H g f
 |[],_,_,h,_=>by rw[h.1];exact fZ.eP.mpr rfl
 | (_,_)::_,_,_,⟨y,v,Rw,B1,B2,a,a2,b,c,t⟩,hB=>by subst a a2 b;exact fZ.eE.mpr ⟨y,v,Rw,rfl,rfl,c.Mc e λx d=>hB x (aM _ d),t.Vv e λx d=>hB x (ao _ d)⟩
theorem qa.sim{g:Hp}{d:eA}{q:Addr}{o:HO}(h:qa K G d q o)(e:An K G g):qa K g d q o:=by
 rcases h with ⟨k,i,a,b,c⟩ | ⟨f,j,a,b,c⟩
 ·exact .inl ⟨k,i,a,b,c.sim e⟩
 ·exact .inr ⟨f,j,a,b,c.sim e⟩
def qa.Yq{q:Addr}{o:HO}(h:qa K G d q o):Na o:=by rcases h with ⟨i,f,a,b,c⟩ | ⟨e,g,a,b,c⟩<;>subst b<;>exact aP
def qa.Mc{o:HO}{p:Addr}(h:qa K G d p o)(e:eN G H)(a:H p=Y o):eI K H d (.ref p):=by
 rcases h with ⟨ds,vs,rfl,rfl,c⟩ | ⟨b,f,rfl,rfl,c⟩
 ·exact eI.eZ.mpr ⟨p,vs,rfl,j0.of a,c.same e⟩
 ·exact eI.lh.mpr ⟨p,rfl,.inl ⟨f,.inl a,c.same e⟩⟩
theorem oM.sim{g:Bool}{i:Hp}{d:eA}{q:Addr}{o:HO}{B:List (Addr×HO)}(e:An K G i)(h:oM g K G d q o B):oM g K i d q o B:=by
 cases g with
 |false=>exact⟨h.1.sim e,h.2⟩
 |true=>
  rcases h with ⟨l,j,a,b,c⟩ | ⟨f,k,a,b,c⟩
  ·exact .inl ⟨l,j,a,b,c.sim e⟩
  ·exact .inr ⟨f,k,a,b,c.sim e⟩
def oM.same{a:Hp}{q:Addr}{o:HO}(e:eN G a)(h:oM dp K G d q o B):oM dp K a d q o B:=oM.sim e.sim h
theorem oM.mI{e:Bool}{d:eA}{q:Addr}{o:HO}{B:List (Addr×HO)}(h:oM e K G d q o B):pH ((q,o)::B):=by
 cases e with
 |false=>rw[h.2];exact .one h.1.Yq .nil
 |true=>
  rcases h with ⟨j,g,a,b,c⟩ | ⟨f,i,a,b,c⟩
  ·subst b;exact .one aP c.mI
  ·subst b;exact .one aP c.mI
theorem oM.Mc{f:Bool}{d:eA}{o:HO}{p:Addr}{B:List (Addr×HO)}(h:oM f K G d p o B)(e:eN G H)(a:H p=Y o)(b:∀x∈B,H x.1=Y x.2):eI K H d (.ref p):=by
 cases f with
 |false=>exact h.1.Mc e a
 |true=>
  rcases h with ⟨ds,vs,rfl,rfl,c⟩ | ⟨g,i,rfl,rfl,c⟩
  ·exact eI.eZ.mpr ⟨p,vs,rfl,j0.of a,c.Vu e b⟩
  ·exact eI.lh.mpr ⟨p,rfl,.inl ⟨i,.inl a,c.Vv e b⟩⟩
theorem js.sim{c:Str}{m:Hp}(e:An K G m):∀{r:List (eA×eA)}{i:List (Str×V)}{B:List (Addr×HO)},js K G c r i B->js K m c r i B
 |[],_,_,h=>h
 | (k,d)::r,_,_,h=>by
  obtain⟨y,v,a,l,j,⟨g,f,b⟩ | ⟨g,q,o,s,B',f,b,p,n⟩⟩:=h
  ·exact⟨y,v,a,l,j,.inl ⟨g,f.sim e,js.sim e b⟩⟩
  ·exact⟨y,v,a,l,j,.inr ⟨g,q,o,s,B',f,b,p.sim e,js.sim e n⟩⟩
def js.same{c:Str}{b:Hp}(e:eN G b):∀{r:List (eA×eA)}{a:List (Str×V)}{B:List (Addr×HO)},js K G c r a B->js K b c r a B:=λh=>js.sim e.sim h
theorem js.mI{c:Str}:∀{r:List (eA×eA)}{e:List (Str×V)}{B:List (Addr×HO)},js K G c r e B->pH B
 |[],_,_,h=>by rw[h.2];exact .nil
 | (k,d)::r,_,_,h=>by
  obtain⟨y,v,b,m,l,⟨j,i,a⟩ | ⟨j,q,o,n,p,i,a,g,f⟩⟩:=h
  ·exact js.mI a
  ·rw[a];exact pH.append g.mI (js.mI f)
theorem js.SW{c:Str}(e:eN G H):∀{r:List (eA×eA)}{i:List (Str×V)}{B:List (Addr×HO)},js K G c r i B->(∀x∈B,H x.1=Y x.2)->j3 K H r i
 |[],_,_,h,_=>by rw[h.1];exact j3.eP.mpr rfl
 | (k,d)::r,_,_,h,hB=>by
  obtain⟨y,v,a,l,j,⟨p,g,f⟩ | ⟨p,q,o,s,t,g,f,n,m⟩⟩:=h
  ·exact j3.eE.mpr ⟨y,v,a,l,j,g.same e,js.SW e f hB⟩
  ·subst f g;exact j3.eE.mpr ⟨y,_,a,l,j,n.Mc e (hB (q,o) (by simp)) (λx b=>hB x (by simp[b])),js.SW e m λx b=>hB x (by simp[b])⟩
theorem jv.sim{f:Bool}{g:Hp}{d:eA}{v:V}{B:List (Addr×HO)}(h:jv f K G d v B)(e:An K G g):jv f K g d v B:=by
 rcases h with ⟨q,o,t,a,b,c⟩ | ⟨c,C,p,j,i,r,B',s,n,m,l,k⟩
 ·exact .inl ⟨q,o,t,a,b,c.sim e⟩
 ·exact .inr ⟨c,C,p,j,i,r,B',s,n,m,l,k.sim e⟩
def jv.same{a:Hp}(h:jv dp K G d v B)(e:eN G a):jv dp K a d v B:=jv.sim h e.sim
theorem jv.mI{e:Bool}{d:eA}{v:V}{B:List (Addr×HO)}(h:jv e K G d v B):pH B:=by
 rcases h with ⟨q,o,n,a,b,c⟩ | ⟨c,C,p,j,i,r,s,m,l,g,k,f⟩
 ·rw[b];exact c.mI
 ·rw[g];exact .ins f.mI
theorem jv.Mc{i:Bool}{d:eA}{v:V}{B:List (Addr×HO)}(h:jv i K G d v B)(e:eN G H)(a:∀x∈B,H x.1=Y x.2):eI K H d v:=by
 rcases h with ⟨q,o,l,rfl,rfl,c⟩ | ⟨c,C,p,g,f,r,m,rfl,rfl,rfl,k,j⟩
 ·exact c.Mc e (a (q,o) (by simp)) λx b=>a x (by simp[b])
 ·exact eI.lh.mpr ⟨p,rfl,.inr ⟨c,C,g,f,k,a (p,.ins C g f) (by simp),oX.eE.mpr ⟨rfl,rfl,j.SW e λx b=>a x (by simp[b])⟩⟩⟩
theorem js.split{c y:Str}{d:eA}(F:mJ c y=true):∀{r:List (eA×eA)}{H:List (Str×V)}{B:List (Addr×HO)},js K G c r H B->o2 y r=Y d ->
  ∃q o l j i,H.lookup y=Y (.ref q)/\B=j++((q,o)::(l++i))/\pH j/\pH i/\oM (pI c y) K G d q o l/\∀g s b a,eN G g->oM (pI c y) K g s q b a->js K g c (p9 y s r) H (j++((q,b)::(a++i)))
 |[],_,_,_,e=>by cases e
 | (k,x)::r,_,B,h,e=>by
  obtain⟨z,v,n,S,R,h⟩:=h;subst S R;by_cases q:z=y
  ·subst q;simp only[o2,cx] at e;cases e;rcases h with ⟨f,_⟩ | ⟨f,q,o,l,N,w,u,C,A⟩
   ·rw[F] at f;cases f
   ·subst w u;refine⟨q,o,l,[],N,by rw[aY,bY.mpr rfl],rfl,.nil,A.mI,C,λg s b a m t=>?_⟩;simp only[p9,cx];exact⟨z,_,n,rfl,rfl,.inr ⟨f,q,b,a,N,rfl,rfl,t,A.same m⟩⟩
  ·simp only[o2,ai q] at e;rcases h with ⟨f,w,u⟩ | ⟨f,O,o,P,N,w,u,C,A⟩
   ·obtain⟨p,o,l,j,i,M,L,E,D,J,I⟩:=js.split F u e;refine⟨p,o,l,j,i,by rw[aY,aZ.mpr (λz=>q z.symm)];exact M,L,E,D,J,λg s b a m t=>?_⟩;simp only[p9,ai q];exact⟨z,v,n,rfl,rfl,.inl ⟨f,w.same m,I g s b a m t⟩⟩
   ·subst w u;obtain⟨p,Q,l,j,i,M,L,E,D,J,I⟩:=js.split F A e;refine⟨p,Q,l,(O,o)::(P++j),i,by rw[aY,aZ.mpr (λz=>q z.symm)];exact M,by rw[L];simp,pH.append C.mI E,D,J,λg s b a m t=>?_⟩;simp only[p9,ai q];exact⟨z,_,n,rfl,rfl,.inr ⟨f,O,o,P,j++((p,b)::(a++i)),rfl,by simp,C.same m,I g s b a m t⟩⟩
theorem js.put{c y:Str}{d:eA}{v:V}(b:mJ c y=false)(i:eI K G d v):∀{r:List (eA×eA)}{j:List (Str×V)}{B:List (Addr×HO)},js K G c r j B->js K G c (p9 y d r) (lO y v j) B
 |[],_,_,h=>by obtain⟨rfl,rfl⟩:=h;exact⟨y,v,[],rfl,rfl,.inl ⟨b,i,rfl,rfl⟩⟩
 | (k,x)::r,_,_,h=>by
  obtain⟨z,u,g,s,p,h⟩:=h;subst s p;by_cases q:z=y
  ·subst q;simp only[p9,lO,cx];rcases h with ⟨a,f,e⟩ | ⟨a,_⟩
   ·exact⟨z,v,g,rfl,rfl,.inl ⟨b,i,e⟩⟩
   ·rw[b] at a;cases a
  ·simp only[p9,lO,ai q];rcases h with ⟨a,f,e⟩ | ⟨a,l,o,t,w,f,e,n,m⟩
   ·exact⟨z,u,_,rfl,rfl,.inl ⟨a,f,js.put b i e⟩⟩
   ·exact⟨z,u,_,rfl,rfl,.inr ⟨a,l,o,t,w,f,e,n,js.put b i m⟩⟩
theorem js.add{c y:Str}{d:eA}{q:Addr}{o:HO}{a:List (Addr×HO)}(b:mJ c y=true)(i:oM (pI c y) K G d q o a):∀{r:List (eA×eA)}{m:List (Str×V)}{B:List (Addr×HO)},js K G c r m B->o2 y r=Z ->
  js K G c (p9 y d r) (lO y (.ref q) m) (B++(q,o)::a)
 |[],_,_,h,_=>by obtain⟨rfl,rfl⟩:=h;exact⟨y,_,[],rfl,rfl,.inr ⟨b,q,o,a,[],rfl,by simp,i,rfl,rfl⟩⟩
 | (k,x)::r,_,_,h,e=>by
  obtain⟨z,u,s,A,w,h⟩:=h;subst A w;by_cases f:z=y
  ·simp only[o2,ag f] at e;cases e
  ·simp only[o2,ai f] at e;simp only[p9,lO,ai f];rcases h with ⟨l,j,g⟩ | ⟨l,n,p,C,D,j,g,v,t⟩
   ·exact⟨z,u,_,rfl,rfl,.inl ⟨l,j,js.add b i g e⟩⟩
   ·subst g;exact⟨z,u,_,rfl,rfl,.inr ⟨l,n,p,C,D++(q,o)::a,j,by simp,v,js.add b i t e⟩⟩
theorem js.len{c:Str}:∀{r:List (eA×eA)}{a:List (Str×V)}{B:List (Addr×HO)},js K G c r a B->a.length=r.length
 |[],_,_,h=>by rw[h.1];rfl
 | (k,d)::r,_,_,h=>by
  obtain⟨y,v,f,e,m,⟨j,i,b⟩ | ⟨j,q,o,n,B',i,b,l,g⟩⟩:=h
  ·rw[e,aV,aV,js.len b]
  ·rw[e,aV,aV,js.len g]
end
def kA(O:List Nat):Bool:=O.contains 99
def ig(a:Bool)(K:Fg)(σ:St)(ρ:ee)(G:Hp):List Nat->List (Addr×HO)->Prop
 |[],B=>B=[]
 |i::O,B=>((ρ[i]?).join=Z/\ig a K σ ρ G O B)\/∃d v c b,ρ[i]?=Y (Y d)/\σ[i]?=Y (Y v)/\B=c++b/\jv a K G d v c/\ig a K σ ρ G O b
structure hZ (O:List Nat) (K:Fg) (σ:St) (ρ:ee) (H G:Hp):Prop where
 len:σ.length=ρ.length
 ex:∃B,H=eW G B/\jQ G B/\ig (kA O) K σ ρ G O B
 lb:∀(i:Nat) (d:eA),ρ[i]?=Y (Y d)->i∉O->∃v,σ[i]?=Y (Y v)/\eI K G d v
def iA{l:List (Option α)}{d:α}(h:(l[i]?).join=Y d):l[i]?=Y (Y d):=by
 cases q:l[i]? with
 |none=>rw[q] at h;cases h
 |some o=>rw[q] at h;cases o with
  |none=>cases h
  |some a=>cases h;rfl
section
variable {ρ:ee}
theorem ig.sim{f:Hp}(e:An K G f):∀{O:List Nat}{B:List (Addr×HO)},ig dp K σ ρ G O B->ig dp K σ ρ f O B
 |[],_,h=>h
 |_::_,_,h=>by
  rcases h with ⟨a,b⟩ | ⟨d,v,i,g,a,b,c,q,t⟩
  ·exact .inl ⟨a,ig.sim e b⟩
  ·exact .inr ⟨d,v,i,g,a,b,c,q.sim e,ig.sim e t⟩
def ig.same{a:Hp}(e:eN G a):∀{O:List Nat}{B:List (Addr×HO)},ig dp K σ ρ G O B->ig dp K σ ρ a O B:=λh=>ig.sim e.sim h
theorem ig.mI:∀{O:List Nat}{B:List (Addr×HO)},ig dp K σ ρ G O B->pH B
 |[],_,h=>by rw[show _=[] from h];exact .nil
 |_::_,_,h=>by
  rcases h with ⟨a,b⟩ | ⟨d,v,e,c,a,b,rfl,q,t⟩
  ·exact ig.mI b
  ·exact q.mI.append (ig.mI t)
theorem ig.other{σ':St}{ρ':ee}:∀{O:List Nat}{B:List (Addr×HO)},ig dp K σ ρ G O B->(∀i∈O,ρ'[i]?=ρ[i]?/\σ'[i]?=σ[i]?)->ig dp K σ' ρ' G O B
 |[],_,h,_=>h
 |j::O,_,h,k=>by
  obtain⟨e,g⟩:=k j (by simp);have f:∀i∈O,ρ'[i]?=ρ[i]?/\σ'[i]?=σ[i]?:=λi l=>k i (ar _ l);rcases h with ⟨a,b⟩ | ⟨d,v,n,m,a,b,c,q,t⟩
  ·exact .inl ⟨by rw[e];exact a,b.other f⟩
  ·exact .inr ⟨d,v,n,m,by rw[e];exact a,by rw[g];exact b,c,q,t.other f⟩
theorem ig.split{i:Nat}{d:eA}:∀{O:List Nat}{B:List (Addr×HO)},O.Nodup->ig dp K σ ρ G O B->i∈O->ρ[i]?=Y (Y d) ->
  ∃v p l o,σ[i]?=Y (Y v)/\B=p++(l++o)/\jv dp K G d v l/\pH p/\pH o /\
   (∀n g e,eN G n->jv dp K n g v e->ig dp K σ (ρ.set i (Y g)) n O (p++(e++o)))/\ig dp K σ (ρ.set i Z) G O (p++o)
 |[],_,_,_,hi,_=>by cases hi
 |j::O,B,Yr,h,hi,hd=>by
  have f:=br.mp Yr;have L:i<ρ.length:=(au.mp hd).1;by_cases r:j=i
  ·subst r;have u:∀x:Od,∀k∈O,(ρ.set j x)[k]?=ρ[k]?/\σ[k]?=σ[k]?:=λx k N=>by
    have:j≠k:=λz=>f.1 (z▸N);exact⟨ay this,rfl⟩
   rcases h with ⟨a,b⟩ | ⟨g,v,l,J,a,b,c,q,t⟩
   ·rw[hd] at a;cases a
   ·rw[hd] at a;cases a;refine⟨v,[],l,J,b,c,q,.nil,t.mI,λn g e s w=>.inr ⟨g,v,e,J,aH L,b,rfl,w,(t.same s).other (u _)⟩,.inl ⟨by rw[aH L];rfl,t.other (u _)⟩⟩
  ·have y:=(av.mp hi).resolve_left (Ne.symm r);have m:∀x:Od,(ρ.set i x)[j]?=ρ[j]?:=λx=>ay (Ne.symm r);rcases h with ⟨a,b⟩ | ⟨g,v,l,J,a,b,c,q,t⟩
   ·obtain⟨v,p,l,o,I,H,F,E,D,C,A⟩:=ig.split f.2 b y hd;exact⟨v,p,l,o,I,H,F,E,D,λn g e s w=>.inl ⟨by rw[m];exact a,C n g e s w⟩,.inl ⟨by rw[m];exact a,A⟩⟩
   ·obtain⟨M,p,e,o,I,H,F,E,D,C,A⟩:=ig.split f.2 t y hd;refine⟨M,l++p,e,o,I,by rw[c,H];simp,F,q.mI.append E,D,λn g e s w=>.inr ⟨_,v,l,_,by rw[m];exact a,b,by simp,q.same s,C n g e s w⟩,.inr ⟨_,v,l,_,by rw[m];exact a,b,by simp,q,A⟩⟩
def hZ.sub(h:hZ O K σ ρ H G):eN G H:=by obtain⟨B,rfl,f,a⟩:=h.ex;exact f.same
theorem ig.at:∀{O:List Nat}{B:List (Addr×HO)},ig dp K σ ρ G O B->∀{i:Nat}{d:eA},i∈O->ρ[i]?=Y (Y d)->∃v f,(∀x∈f,x∈B)/\σ[i]?=Y (Y v)/\jv dp K G d v f
 |[],_,_,_,_,hi,_=>by cases hi
 |j::O,_,h,i,d,hi,hd=>by
  rcases h with ⟨a,b⟩ | ⟨d',v,f,n,a,b,c,q,t⟩
  ·rcases av.mp hi with e|hi
   ·subst e;rw[hd] at a;cases a
   ·exact ig.at b hi hd
  ·rcases av.mp hi with e|hi
   ·subst e;rw[hd] at a;cases a;exact⟨v,f,λx g=>by rw[c];exact aM _ g,b,q⟩
   ·obtain⟨l,k,m,r⟩:=ig.at t hi hd;exact⟨l,k,λx g=>by rw[c];exact ao _ (m x g),r⟩
def hZ.full(h:hZ O K σ ρ H G):ju K H σ ρ:=by
 obtain⟨B,rfl,f,a⟩:=h.ex;refine⟨h.len,λi d q=>?_⟩;by_cases b:i∈O
 ·obtain⟨v,l,m,e,c⟩:=a.at b q;exact⟨v,e,c.Mc f.same λx g=>fL f.nd x (m x g)⟩
 ·obtain⟨v,k,j⟩:=h.lb i d q b;exact⟨v,k,j.same f.same⟩
noncomputable def kU:List Nat->ee->ee
 |[],ρ=>ρ
 |i::O,ρ=>(kU O ρ).set i Z
theorem yI:∀(O:List Nat) (ρ:ee),(kU O ρ).length=ρ.length
 |[],_=>rfl
 |i::O,ρ=>by rw[kU,dB];exact yI O ρ
theorem yJ:∀{O:List Nat}{ρ:ee}{j:Nat}{d:eA},(kU O ρ)[j]?=Y (Y d)->j∉O/\ρ[j]?=Y (Y d)
 |[],_,_,_,h=>⟨by simp,h⟩
 |i::O,ρ,j,d,h=>by
  unfold kU at h;by_cases c:j=i
  ·subst c;by_cases e:j<(kU O ρ).length
   ·rw[aH e] at h;cases h
   ·rw[bQ (by simpa using e)] at h;cases h
  ·rw[ay (Ne.symm c)] at h;obtain⟨a,b⟩:=yJ h;exact⟨by simp[c,a],b⟩
def hZ.rest(h:hZ O K σ ρ H G):ju K G σ (kU O ρ):=by refine⟨by rw[yI];exact h.len,λi d q=>?_⟩;obtain⟨a,b⟩:=yJ q;exact h.lb i d b a
def hZ.grow{j:Hp}(h:hZ O K σ ρ H G)(e:eN H j):∃g,eN G g/\(∀a,H a=Z->g a=j a)/\hZ O K σ ρ j g:=by
 obtain⟨B,rfl,f,l⟩:=h.ex;have p:∀x∈B,j x.1=Y x.2:=λx b=>e _ _ (fL f.nd x b);let g:Hp:=λa=>if (∃x∈B,x.1=a) then Z else j a
 have m:∀a,(∀x∈B,x.1≠a)->g a=j a:=λa c=>ai λ⟨x,b,z⟩=>c x b z;have r:∀x∈B,g x.1=Z:=λx b=>ag ⟨x,b,rfl⟩;have k:eN G g:=λa o q=>by
  have c:∀x∈B,x.1≠a:=λx b z=>by have:=f.free x b;rw[z,q] at this;cases this
  rw[m a c];exact e _ _ (by rw[fX c];exact q)
 refine⟨g,k,λa c=>m a λx b z=>?_,h.len,⟨B,q8 f.nd p λa c=>(m a c).symm,⟨f.nd,r,f.ok⟩,l.same k⟩,λi d q n=>?_⟩
 ·have:=fL (G:=G) f.nd x b;rw[z,c] at this;cases this
 obtain⟨v,t,s⟩:=h.lb i d q n;exact⟨v,t,s.same k⟩
def hZ.CL{c:Hp} (j:σ.length=ρ.length) (e:ig (kA O) K σ ρ G O B) (g:∀(i:Nat) (d:eA),ρ[i]?=Y (Y d)->i∉O->∃v,σ[i]?=Y (Y v)/\eI K G d v)
  (h:eN G c) (f:jQ c B):hZ O K σ ρ (eW c B) c :=
 ⟨j,⟨B,rfl,f,e.same h⟩,λi d q k=>by obtain⟨v,a,b⟩:=g i d q k;exact⟨v,a,b.same h⟩⟩
theorem hZ.set{O:List Nat}{i:Nat}{d:eA}{v:V}(h:hZ O K σ ρ H G)(m:i∉O)(e:eI K G d v):hZ O K (σ.set i (Y v)) (ρ.set i (Y d)) H G:=by
 obtain⟨B,n,f,g⟩:=h.ex;refine⟨by simpa using h.len,⟨B,n,f,g.other λj k=>?_⟩,λj o q k=>?_⟩
 ·have c:i≠j:=λz=>m (z▸k);exact⟨ay c,ay c⟩
 ·by_cases c:j=i
  ·subst c;have l:j<ρ.length:=by
    have:=(au.mp q).1;simpa using this
   rw[aH l] at q;cases q;exact⟨v,by rw[aH (by rw[h.len];exact l)],e⟩
  ·rw[ay (Ne.symm c)] at q;obtain⟨u,a,b⟩:=h.lb j o q k;exact⟨u,by rw[ay (Ne.symm c)];exact a,b⟩
theorem hZ.own{O:List Nat}(p:O.Nodup)(h:hZ O K σ ρ H G){i:Nat}{d:eA}(u:i∈O)(y:ρ[i]?=Y (Y d)):
  ∃v k n g,σ[i]?=Y (Y v)/\H=eW G (k++(n++g))/\jQ G (k++(n++g))/\jv (kA O) K G d v n/\pH k/\pH g /\
   (∀c o e,eN G c->jv (kA O) K c o v e->jQ c (k++(e++g))->hZ O K σ (ρ.set i (Y o)) (eW c (k++(e++g))) c) /\
   (∀c,eN G c->jQ c (k++g)->hZ O K σ (ρ.set i Z) (eW c (k++g)) c):=by
 obtain⟨B,rfl,f,own⟩:=h.ex;obtain⟨v,k,n,g,I,rfl,F,E,D,C,A⟩:=own.split p u y;have m:∀(x:Od) (c:Hp),eN G c->∀(j:Nat) (d2:eA),(ρ.set i x)[j]?=Y (Y d2)->j∉O->∃v,σ[j]?=Y (Y v)/\eI K c d2 v:=λx c l j d2 q t=>by have r:j≠i:=λz=>t (z▸u);rw[ay (Ne.symm r)] at q;obtain⟨v,a,b⟩:=h.lb j d2 q t;exact⟨v,a,b.same l⟩
 exact⟨v,k,n,g,I,rfl,f,F,E,D,λc o e l w s=>⟨by simpa using h.len,⟨_,rfl,s,C c o e l w⟩,m _ c l⟩,
  λc l s=>⟨by simpa using h.len,⟨_,rfl,s,A.same l⟩,m _ c l⟩⟩
def nu{q:Addr}{o d:HO}{i g:List (Addr×HO)}(k:((i++(q,o)::g).map (·.1)).Nodup):L2.upd (eW G (i++(q,o)::g)) q d=eW G (i++(q,d)::g):=by
 have c:((i++(q,d)::g).map (·.1)).Nodup:=by simpa using k
 refine q8 c (λx f=>?_) λa j=>?_
 ·by_cases b:x.1=q
  ·have m:=fL (G:=G) c x f;have n:=fL (G:=G) c (q,d) (by simp);rw[b] at m;rw[b,eS,<-m,n]
  ·rw[eM b];refine fL k x ?_;rcases bc.mp f with h|h
   ·exact aM _ h
   ·rcases av.mp h with e|h
    ·rw[e] at b;exact absurd rfl b
    ·exact ao _ (ar _ h)
 ·have l:a≠q:=λz=>j (q,d) (by simp) z.symm;rw[eM l];refine fX λx f=>?_;rcases bc.mp f with h|h
  ·exact j x (aM _ h)
  ·rcases av.mp h with e|h
   ·rw[e];exact Ne.symm l
   ·exact j x (ao _ (ar _ h))
def jQ.put{q:Addr}{o c:HO}{b a:List (Addr×HO)}(f:jQ G (b++(q,o)::a))(d:pH (b++(q,c)::a)):jQ G (b++(q,c)::a):=by
 refine⟨by simpa using f.nd,λx g=>?_,d⟩;rcases bc.mp g with h|h
 ·exact f.free x (aM _ h)
 ·rcases av.mp h with e|h
  ·rw[e];exact f.free (q,o) (by simp)
  ·exact f.free x (ao _ (ar _ h))
def hZ.drop(r:O.Nodup)(h:hZ O K σ ρ H G)(J:i∈O):∃F,eN G F/\hZ O K σ (ρ.set i Z) H F:=by
 cases hd:(ρ[i]?).join with
 |none=>
  refine⟨G,.refl G,?_⟩;obtain⟨B,u,f,p⟩:=h.ex;have l:∀(j:Nat) (d:eA),(ρ.set i Z)[j]?=Y (Y d)->ρ[j]?=Y (Y d):=λj d q=>by
   by_cases e:j=i
   ·subst e;by_cases D:j<ρ.length
    ·rw[aH D] at q;cases q
    ·rw[bQ (by simpa using D)] at q;cases q
   ·rw[ay (Ne.symm e)] at q;exact q
  refine⟨by simpa using h.len,⟨B,u,f,?_⟩,λj d q I=>h.lb j d (l j d q) I⟩;have s:∀{m:List Nat}{B:List (Addr×HO)},ig (kA O) K σ ρ G m B->ig (kA O) K σ (ρ.set i Z) G m B:=by
   intro m;induction m with
   |nil=>exact λh=>h
   |cons j m C=>
    intro B h;rcases h with ⟨a,b⟩ | ⟨d,v,k,N,a,b,c,q,t⟩
    ·refine .inl ⟨?_,C b⟩;cases q:((ρ.set i Z)[j]?).join with
     |none=>rfl
     |some d=>rw[l j d (iA q)] at a;cases a
    ·refine .inr ⟨d,v,k,N,?_,b,c,q,C t⟩;have e:j≠i:=λz=>by subst z;rw[a] at hd;cases hd
     rw[ay (Ne.symm e)];exact a
  exact s p
 |some d=>
  obtain⟨v,o,k,n,P,L,f,x,A,y,_,M⟩:=h.own r J (iA hd);have g:(o++(k++n)).Perm ((o++n)++k):=by rw[aN];exact cF _ bo
  have E:jQ G ((o++n)++k):=f.perm g ((A.append y).append x.mI);have u:H=eW (eW G k) (o++n):=by rw[L,hY f.nd g,jf]
  have w:eN G (eW G k):=(E.KJ x.mI).same;refine⟨eW G k,w,?_⟩;rw[u];exact M _ w (E.KI (A.append y))
theorem ig.ins{i:Nat}{m:eA}{v:V}{n:List (Addr×HO)}:∀{O:List Nat}{B:List (Addr×HO)},O.Nodup->ig dp K σ ρ G O B->i∈O->i<ρ.length->i<σ.length->(ρ[i]?).join=Z->jv dp K G m v n ->
  ∃B',ig dp K (σ.set i (Y v)) (ρ.set i (Y m)) G O B'/\B'.Perm (n++B)
 |[],_,_,_,hi,_,_,_,_=>by cases hi
 |j::O,B,Yr,h,hi,hl,Vw,hn,ob=>by
  have e:=br.mp Yr;by_cases f:j=i
  ·subst f;have o:∀k∈O,(ρ.set j (Y m))[k]?=ρ[k]?/\(σ.set j (Y v))[k]?=σ[k]?:=λk s=>by
    have:j≠k:=λz=>e.1 (z▸s);exact⟨ay this,ay this⟩
   rcases h with ⟨a,b⟩ | ⟨d,u,r,w,a,c,rfl,g,t⟩
   ·exact⟨n++B,.inr ⟨m,v,n,B,aH hl,aH Vw,rfl,ob,b.other o⟩,List.Perm.refl _⟩
   ·rw[a] at hn;cases hn
  ·have l:=(av.mp hi).resolve_left (Ne.symm f);rcases h with ⟨a,b⟩ | ⟨d,u,r,w,a,c,rfl,g,t⟩
   ·obtain⟨B',q,p⟩:=ig.ins e.2 b l hl Vw hn ob;exact⟨B',.inl ⟨by rw[ay (Ne.symm f)];exact a,q⟩,p⟩
   ·obtain⟨B',q,p⟩:=ig.ins e.2 t l hl Vw hn ob;refine⟨r++B',.inr ⟨d,u,r,B',by rw[ay (Ne.symm f)];exact a,by rw[ay (Ne.symm f)];exact c,rfl,g,q⟩,(p.append_left _).trans ?_⟩;rw[<-aN,<-aN];exact dh _ bo
def hZ.new(e:O.Nodup)(h:hZ O K σ ρ H G){d':eA}{k:List (Addr×HO)}(m:i∈O)(s:i<ρ.length)(y:jv (kA O) K G d' v k)(C:jQ H k):
  ∃x,eN G x/\hZ O K (σ.set i (Y v)) (ρ.set i (Y d')) (eW H k) x:=by
 obtain⟨p,r,n⟩:=h.drop e m;obtain⟨B,D,f,l⟩:=n.ex;have g:i<(ρ.set i Z).length:=by simpa using s
 obtain⟨B',o,w⟩:=l.ins e m g (by rw[n.len];exact g) (by rw[aH s];rfl) (y.same r);rw[List.set_set] at o;subst D;have A:jQ p (k++B):=f.join C;have u:jQ p B':=A.perm w.symm o.mI;refine⟨p,r,by simpa using h.len,⟨B',?_,u,o⟩,λj d q t=>?_⟩
 ·rw[hY u.nd w,jf]
 ·have c:j≠i:=λz=>t (z▸m);rw[ay (Ne.symm c)] at q;obtain⟨v,a,b⟩:=n.lb j d (by rw[ay (Ne.symm c)];exact q) t;exact⟨v,by rw[ay (Ne.symm c)];exact a,b⟩
end
noncomputable def rV:eA->eA->Bool
 |.int a,.int b=>decide (a=b)
 |.str a,.str b=>decide (a=b)
 |_,_=>false
def kW(a b:Key):rV (kh a) (kh b)=decide (a=b):=by cases a<;>cases b<;>simp[kh,rV]
noncomputable def qb:eA->Option Key
 |.int i=>Y (.inl i)
 |.str x=>Y (.inr x)
 |_=>Z
def gR{k:Key}(h:qb d=Y k):d=kh k:=by cases d<;>simp[qb] at h<;>subst h<;>rfl
def iE{k:Key}(h:eI K H (kh k) v):v=kV k:=by
 cases k with
 |inl i=>exact eI.eR.mp h
 |inr x=>exact eI.fq.mp h
def oN(k:eA):List (eA×eA)->Od
 |[]=>Z
 | (y,d)::r=>if rV y k=true then Y d else oN k r
noncomputable def Qg(k v:eA)(a:List (eA×eA)):List (eA×eA) :=
 if (a.any λx=>rV x.1 k)=true then a.map (λx=>if rV x.1 k=true then (x.1,v) else x) else a++[(k,v)]
def iq:List (eA×eA)->Bool
 | (.none,_)::_=>true
 |_=>false
section
def qr.r{b:List (Key×V)}{k:Key}(e:Rd H a (.dK b)):qr H a (kV k) (mw b k):=.inl ⟨b,k,e,rfl,rfl⟩
def eI.nE(h:eI K H (.dict kvs) v)(g:iq kvs=false):∃p a,v=.ref p/\Rd H p (.dK a)/\fZ K H kvs a:=by
 obtain⟨p,i,⟨a,f,e⟩ | ⟨c,C,l,j,f,e,b⟩⟩:=eI.lh.mp h
 ·exact⟨p,a,i,f,e⟩
 ·cases kvs with
  |nil=>exact(oX.eP.mp b).elim
  |cons x r=>obtain⟨k,d⟩:=x;obtain⟨rfl,_,_⟩:=oX.eE.mp b;cases g
def eI.Hh{c:Str}{r:List (eA×eA)}(h:eI K H (.dict ((.none,.str c)::r)) v):∃p C d a,v=.ref p/\jB K c C/\H p=Y (.ins C d a)/\j3 K H r a:=by
 obtain⟨p,k,⟨l,f,b⟩ | ⟨m,C,d,a,f,b,j⟩⟩:=eI.lh.mp h
 ·obtain⟨y,_,_,_,e,_⟩:=fZ.eE.mp b;cases y<;>cases e
 ·obtain⟨_,i,g⟩:=oX.eE.mp j;cases i;exact⟨p,C,d,a,k,f,b,g⟩
theorem fZ.val{y:Key}:∀{f:List (eA×eA)}{g:List (Key×V)},fZ K H f g ->
  (oN (kh y) f=Z/\mw g y=Z)\/∃d v,oN (kh y) f=Y d/\mw g y=Y v/\eI K H d v
 |[],_,h=>by rw[fZ.eP.mp h];exact .inl ⟨rfl,rfl⟩
 | (k,d)::r,_,h=>by
  obtain⟨z,v,m,rfl,rfl,i,t⟩:=fZ.eE.mp h;by_cases e:z=y
  ·right;exact⟨d,v,by simp[oN,kW,e],tJ e,i⟩
  ·rcases fZ.val (y:=y) t with ⟨a,b⟩ | ⟨l,j,a,b,c⟩
   ·exact .inl ⟨by simp[oN,kW,e,a],by rw[qp (p:=(z,v)) e];exact b⟩
   ·exact .inr ⟨l,j,by simp[oN,kW,e,a],by rw[qp (p:=(z,v)) e];exact b,c⟩
theorem fZ.any{y:Key}:∀{a:List (eA×eA)}{b:List (Key×V)},fZ K H a b->(b.any λx=>decide (x.1=y))=a.any λx=>rV x.1 (kh y)
 |[],_,h=>by rw[fZ.eP.mp h];rfl
 | (k,d)::r,_,h=>by obtain⟨z,v,c,rfl,rfl,i,t⟩:=fZ.eE.mp h;rw[cu,cu,fZ.any t,kW]
theorem fZ.Ha{y:Key}{d:eA}{v:V}(i:eI K H d v):∀{a:List (eA×eA)}{b:List (Key×V)},fZ K H a b ->
  fZ K H (a.map λx=>if rV x.1 (kh y)=true then (x.1,d) else x) (b.map λx=>if x.1=y then (x.1,v) else x)
 |[],_,h=>by rw[fZ.eP.mp h];exact fZ.eP.mpr rfl
 | (k',j)::r,_,h=>by
  obtain⟨z,f,g,rfl,rfl,c,t⟩:=fZ.eE.mp h;rw[aB,aB,kW];by_cases e:z=y
  ·rw[ag e,ag (bU e)];exact fZ.eE.mpr ⟨_,_,_,rfl,rfl,i,fZ.Ha i t⟩
  ·rw[ai e,ai (by simp[e])];exact fZ.eE.mpr ⟨_,_,_,rfl,rfl,c,fZ.Ha i t⟩
theorem fZ.snoc{y:Key}{d:eA}{v:V}(i:eI K H d v):∀{a:List (eA×eA)}{b:List (Key×V)},fZ K H a b->fZ K H (a++[(kh y,d)]) (b++[(y,v)])
 |[],_,h=>by rw[fZ.eP.mp h];exact fZ.eE.mpr ⟨_,_,_,rfl,rfl,i,fZ.eP.mpr rfl⟩
 | (k',g)::r,_,h=>by obtain⟨z,e,f,rfl,rfl,c,t⟩:=fZ.eE.mp h;exact fZ.eE.mpr ⟨_,_,_,rfl,rfl,c,fZ.snoc i t⟩
def fZ.put{y:Key}(h:fZ K H kvs kv)(i:eI K H d v):fZ K H (Qg (kh y) d kvs) (putK kv y v):=by
 unfold Qg putK;rw[h.any];by_cases e:(kvs.any λx=>rV x.1 (kh y))=true
 ·rw[ag e,ag e];exact h.Ha i
 ·rw[ai e,ai e];exact h.snoc i
theorem fZ.length:∀{kvs:List (eA×eA)}{a:List (Key×V)},fZ K H kvs a->kvs.length=a.length
 |[],_,h=>by rw[fZ.eP.mp h];rfl
 | (k,d)::r,_,h=>by obtain⟨z,v,r',rfl,rfl,i,t⟩:=fZ.eE.mp h;simp[fZ.length t]
end
section
variable {a o i:Expr}{fb f:ee->Od}{fJ:Pos}
def PE.or{t u:TE}(h:PE X e t)(b:PE X e u):PE X e (λσ H Q=>t σ H Q\/u σ H Q):=λa s σ H Q I q=>q.elim (@h a s σ H Q I) (@b a s σ H Q I)
def Jm(x k:eA):Od:=match x with
 |.dict kvs=>if iq kvs=true then Z else (qb k).bind λ_=>oN k kvs
 |_=>Z
def Qh(J:X.A.units+64<cLine)(B:PD X a fa)(z:PD X b fb)(f:EC b):PD X (.Subscript a b pos) (d2 Jm fa fb) :=
 PE.imp (Jf (by omega) B z f) λσ H Q h=>by
  obtain⟨ρ,d,f,e,k⟩:=h;obtain⟨x,G,e⟩:=bind_some e;obtain⟨y,F,e⟩:=bind_some e;refine⟨ρ,x,f,G,λv M m w=>⟨ρ,y,f.same m,F,λu L l t=>?_⟩⟩;obtain⟨c,rfl⟩:∃c,x=.dict c:=by cases x<;>first|exact⟨_,rfl⟩|(simp[Jm] at e)
  unfold Jm at e;by_cases j:iq c=true
  ·dsimp only at e;rw[ag j] at e;cases e
  ·dsimp only at e;rw[ai j] at e;obtain⟨s,E,g⟩:=bind_some e;obtain⟨p,I,rfl,D,C⟩:=(w.same l).nE (by simpa using j);have:=gR E;subst this;rw[iE t];rcases C.val (y:=s) with ⟨i,_⟩ | ⟨K,n,i,q,o⟩
   ·rw[i] at g;cases g
   ·rw[i] at g;cases g;exact⟨p,n,rfl,by rw[<-q];exact qr.r D,k.later (m.trans l) |>.here o⟩
def Vx(x k:eA):Od:=match x with
 |.dict kvs=>Jm (.dict kvs) k
 |x=>Xc x k
def SX(o:X.A.units+64<cLine)(i:PD X a fa)(g:PD X b fb)(c:tH b)(f:EC b):PD X (.Subscript a b pos) (d2 Vx fa fb) :=
 PE.imp (PE.or (Vg ixD i g c) (Qh o i g f)) λσ H Q h=>by
  obtain⟨ρ,d,c,e,k⟩:=h;obtain⟨x,m,p⟩:=bind_some e;obtain⟨y,l,j⟩:=bind_some p;cases x with
  |dict n=>exact .inr ⟨ρ,d,c,by show (fa ρ).bind _=_;rw[m];show (fb ρ).bind _=_;rw[l];exact j,k⟩
  |_=>exact .inl ⟨ρ,d,c,by show (fa ρ).bind _=_;rw[m];show (fb ρ).bind _=_;rw[l];exact j,k⟩
noncomputable def nF(x k:eA):Od:=match x with
 |.dict kvs=>if iq kvs=true then Z else (qb k).bind λ_=>Y ((oN k kvs).getD .none)
 |_=>Z
theorem my(L:X.A.units+64<cLine)(E:PD X o fa)(D:PD X e fb)(m:M1 X o "get" apos e fJ):PD X (.Call (.Attribute o "get" apos) [e] [] fJ) (d2 nF fa fb) :=
 PE.imp (MY (by omega) E D m) λσ H Q h=>by
  obtain⟨ρ,d,q,e,k⟩:=h;obtain⟨x,J,e⟩:=bind_some e;obtain⟨y,I,e⟩:=bind_some e;refine⟨ρ,x,q,J,λv O l C=>?_⟩;obtain⟨a,rfl⟩:∃a,x=.dict a:=by cases x<;>first|exact⟨_,rfl⟩|(simp[nF] at e)
  unfold nF at e;by_cases i:iq a=true
  ·dsimp only at e;rw[ag i] at e;cases e
  ·dsimp only at e;rw[ai i] at e;obtain⟨w,G,b⟩:=bind_some e;obtain⟨p,z,rfl,s,F⟩:=C.nE (by simpa using i);refine⟨p,rfl,.inl ⟨z,s⟩,ρ,y,q.same l,I,λu N c B=>?_⟩;have:=gR G;subst this;rw[iE B];refine⟨_,qr.r (c.rd s),?_⟩;have j:=F.same c;have n:=k.later (l.trans c);rcases j.val (y:=w) with ⟨g,f⟩ | ⟨M,K,g,f,t⟩
   ·rw[g] at b;cases b;rw[f];exact n.here (eI.gP.mpr rfl)
   ·rw[g] at b;cases b;rw[f];exact n.here t
def Nc(i:X.A.units+64<cLine):ko X (compareOp .In) (λx y H Q=>∃p a k,x=kV k/\y=.ref p/\Rd H p (.dK a)/\Q (.bl (mw a k).isSome) H):=by intro b s σ H x y v u Q I d c h;obtain⟨p,a,k,rfl,rfl,e,q⟩:=h;cases c;exact X4 (by omega) I (qr.r e) d λg f=>⟨.bl _,H,f,rfl,q⟩
def EM(i:X.A.units+64<cLine):ko X (compareOp .NotIn) (λx y H Q=>∃p a k,x=kV k/\y=.ref p/\Rd H p (.dK a)/\Q (.bl (!(mw a k).isSome)) H):=by intro b s σ H x y v u Q I d c h;obtain⟨p,a,k,rfl,rfl,e,q⟩:=h;cases c;exact P0 (by omega) I (qr.r e) d λg f=>⟨.bl _,H,f,rfl,q⟩
def tQ(I:eX X pins σ H s){x:eA}{u:Value}(n:SeqAt.shaped x=true)(C:eI X.K H x v)(w:fT v u)(U:A.units+x.depth<cLine):
  ∀{a:Lp}{c:List V}{b:Lw},(∀d∈a,SeqAt.shaped d=true)->dn X.K H a c->fO c b->∃e:Value->Bool,(∀y∈b,SeqAt.EqAt A s y u (e y))/\b.any e=a.any λd=>eA.eqv d x:=by
 obtain⟨Q,t⟩:=I.pF (aS n) C w;let e:Value->Bool:=λy=>@decide (∃d g,Reads s.heap y d g/\SeqAt.shaped d=true/\eA.eqv d x=true) (Classical.propDecidable _);have G:∀(d:eA) (g:List Addr) (y:Value),Reads s.heap y d g->SeqAt.shaped d=true->e y=eA.eqv d x:=λd g y r f=>by
  cases q:eA.eqv d x with
  |true=>exact @decide_eq_true _ (Classical.propDecidable _) ⟨d,g,r,f,q⟩
  |false=>refine @decide_eq_false _ (Classical.propDecidable _) ?_;rintro⟨O,P,l,J,m⟩;have:=SeqAt.Reads.unique d O y _ _ (aS f) r l;subst this;rw[q] at m;cases m
 intro a;have h:∀{a:Lp}{c:List V}{b:Lw},(∀d∈a,SeqAt.shaped d=true)->dn X.K H a c->fO c b->(∀y∈b,SeqAt.EqAt A s y u (e y))/\b.any e=a.any λd=>eA.eqv d x:=by
  intro a;induction a with
  |nil=>intro c b _ i r;rw[dn.eP.mp i] at r;cases r;exact⟨(λy j=>by cases j),rfl⟩
  |cons d a D=>
   intro c b o i r;obtain⟨T,l,rfl,F,E⟩:=dn.eE.mp i;cases r with
   |cons B z=>
    obtain⟨S,R⟩:=D (λd f=>o d (ar _ f)) E z;have f:=o d (by simp);obtain⟨g,k⟩:=I.pF (aS f) F B;have p:=G d g _ k f;refine⟨λy j=>?_,by rw[cu,cu,p,R]⟩;rcases av.mp j with q|q
    ·subst q;rw[p];refine SeqAt.eqAt_reads d x A s _ _ g Q k t (aS f) (aS n) ?_;have:min d.depth x.depth<=x.depth:=dY _ _;omega
    ·exact S y q
 intro c b N M L;exact⟨e,h N M L⟩
noncomputable def qc:eA->eA->Option Bool
 |x,.list xs=>if SeqAt.shaped x=true/\xs.all SeqAt.shaped=true/\x.depth<=60 then Y (xs.any λy=>eA.eqv y x) else Z
 |x,.tuple xs=>if SeqAt.shaped x=true/\xs.all SeqAt.shaped=true/\x.depth<=60 then Y (xs.any λy=>eA.eqv y x) else Z
 |x,.dict kvs=>if iq kvs=true then Z else (qb x).map λ_=>(oN x kvs).isSome
 |.str x,.str y=>Y (!(Builtin.Str.occurrences y x 0 y.length 1).isEmpty)
 |_,_=>Z
def wo(x y:eA):Od:=(qc x y).map .bool
def qu(x y:eA):Od:=(qc x y).map λb=>.bool (!b)
def Qi(E:X.A.units+64<cLine):ko X (compareOp .In) (λx y H Q=>∃p d g i,y=.ref p/\(j0 X.K H p i\/pW X.K H p i)/\eI X.K H d x/\dn X.K H g i/\SeqAt.shaped d=true/\g.all SeqAt.shaped=true/\d.depth<=60 /\
  Q (.bl (g.any λy=>eA.eqv y d)) H):=by
 intro t s σ H x y v u Q I o B h;obtain⟨p,d,g,i,rfl,f,w,is,z,l,D,q⟩:=h;cases B;have b:∀d∈g,SeqAt.shaped d=true:=bJ.mp l;have c:X.A.in1.units+d.depth<cLine:=by show X.A.units+1+d.depth<cLine;omega
 rcases f with f|f
 ·obtain⟨a,r,j,C⟩:=I.list f;obtain⟨e,n,m⟩:=tQ I (A:=X.A.in1) z w o c b is r;refine SeqAt.in_listAt e j.isList (λy k=>n y (by simpa using k)) ⟨.bl _,H,I,rfl,?_⟩;rw[show a.toArray.any e=a.any e by simp,m];exact q
 ·obtain⟨a,r,j,C⟩:=I.tuple f;obtain⟨e,n,m⟩:=tQ I (A:=X.A.in1) z w o c b is r;refine SeqAt.in_tupleAt e j (λy k=>n y (by simpa using k)) ⟨.bl _,H,I,rfl,?_⟩;rw[show a.toArray.any e=a.any e by simp,m];exact q
def Hi(E:X.A.units+64<cLine):ko X (compareOp .NotIn) (λx y H Q=>∃p d g i,y=.ref p/\(j0 X.K H p i\/pW X.K H p i)/\eI X.K H d x/\dn X.K H g i/\SeqAt.shaped d=true/\g.all SeqAt.shaped=true/\d.depth<=60 /\
  Q (.bl (!(g.any λy=>eA.eqv y d))) H):=by
 intro t s σ H x y v u Q I o B h;obtain⟨p,d,g,i,rfl,f,w,is,z,l,D,q⟩:=h;cases B;have b:∀d∈g,SeqAt.shaped d=true:=bJ.mp l;have c:X.A.in1.units+d.depth<cLine:=by show X.A.units+1+d.depth<cLine;omega
 rcases f with f|f
 ·obtain⟨a,r,j,C⟩:=I.list f;obtain⟨e,n,m⟩:=tQ I (A:=X.A.in1) z w o c b is r;refine SeqAt.notIn_listAt e j.isList (λy k=>n y (by simpa using k)) ⟨.bl _,H,I,rfl,?_⟩;rw[show a.toArray.any e=a.any e by simp,m];exact q
 ·obtain⟨a,r,j,C⟩:=I.tuple f;obtain⟨e,n,m⟩:=tQ I (A:=X.A.in1) z w o c b is r;refine SeqAt.notIn_tupleAt e j (λy k=>n y (by simpa using k)) ⟨.bl _,H,I,rfl,?_⟩;rw[show a.toArray.any e=a.any e by simp,m];exact q
def kB(s:X.A.units+64<cLine):rP X (compareOp .In) wo:=by
 refine ko.imp ((Qi s).or ((Nc s).or Km)) ?_;rintro x y H Q ⟨a,b,c,l,j,e,k⟩;obtain⟨t,d,i⟩:=aa.mp e;subst i;cases b with
 |list g=>
  dsimp only[qc] at d;by_cases f:SeqAt.shaped a=true/\g.all SeqAt.shaped=true/\a.depth<=60
  ·rw[ag f] at d;cases d;obtain⟨p,m,rfl,i,h⟩:=eI.eZ.mp j;exact .inl ⟨p,a,g,m,rfl,.inl i,l,h,f.1,f.2.1,f.2.2,k.here (eI.fh.mpr rfl)⟩
  ·rw[ai f] at d;cases d
 |tuple g=>
  dsimp only[qc] at d;by_cases f:SeqAt.shaped a=true/\g.all SeqAt.shaped=true/\a.depth<=60
  ·rw[ag f] at d;cases d;obtain⟨p,m,rfl,i,h⟩:=j.gI;exact .inl ⟨p,a,g,m,rfl,.inr i,l,h,f.1,f.2.1,f.2.2,k.here (eI.fh.mpr rfl)⟩
  ·rw[ai f] at d;cases d
 |dict q=>
  dsimp only[qc] at d;by_cases f:iq q=true
  ·rw[ag f] at d;cases d
  ·rw[ai f] at d;obtain⟨r,h,C⟩:=aa.mp d;subst C;obtain⟨p,v,rfl,B,w⟩:=j.nE (by simpa using f);have:=gR h;subst this;refine .inr (.inl ⟨p,v,r,iE l,rfl,B,?_⟩);rcases w.val (y:=r) with ⟨o,n⟩ | ⟨E,D,o,n,_⟩
   ·rw[n];rw[o] at k;exact k.here (eI.fh.mpr rfl)
   ·rw[n];rw[o] at k;exact k.here (eI.fh.mpr rfl)
 |str z=>
  cases a<;>try (simp[qc] at d;done)
  rename_i u;simp only[qc] at d;cases d;exact .inr (.inr ⟨u,z,eI.fq.mp l,eI.fq.mp j,k.here (eI.fh.mpr rfl)⟩)
 |none=>simp[qc] at d
 |bool _=>simp[qc] at d
 |int _=>simp[qc] at d
def nH(s:X.A.units+64<cLine):rP X (compareOp .NotIn) qu:=by
 refine ko.imp ((Hi s).or ((EM s).or Co)) ?_;rintro x y H Q ⟨a,b,c,l,j,e,k⟩;obtain⟨t,d,i⟩:=aa.mp e;subst i;cases b with
 |list g=>
  dsimp only[qc] at d;by_cases f:SeqAt.shaped a=true/\g.all SeqAt.shaped=true/\a.depth<=60
  ·rw[ag f] at d;cases d;obtain⟨p,m,rfl,i,h⟩:=eI.eZ.mp j;exact .inl ⟨p,a,g,m,rfl,.inl i,l,h,f.1,f.2.1,f.2.2,k.here (eI.fh.mpr rfl)⟩
  ·rw[ai f] at d;cases d
 |tuple g=>
  dsimp only[qc] at d;by_cases f:SeqAt.shaped a=true/\g.all SeqAt.shaped=true/\a.depth<=60
  ·rw[ag f] at d;cases d;obtain⟨p,m,rfl,i,h⟩:=j.gI;exact .inl ⟨p,a,g,m,rfl,.inr i,l,h,f.1,f.2.1,f.2.2,k.here (eI.fh.mpr rfl)⟩
  ·rw[ai f] at d;cases d
 |dict q=>
  dsimp only[qc] at d;by_cases f:iq q=true
  ·rw[ag f] at d;cases d
  ·rw[ai f] at d;obtain⟨r,h,C⟩:=aa.mp d;subst C;obtain⟨p,v,rfl,B,w⟩:=j.nE (by simpa using f);have:=gR h;subst this;refine .inr (.inl ⟨p,v,r,iE l,rfl,B,?_⟩);rcases w.val (y:=r) with ⟨o,n⟩ | ⟨E,D,o,n,_⟩
   ·rw[n];rw[o] at k;exact k.here (eI.fh.mpr rfl)
   ·rw[n];rw[o] at k;exact k.here (eI.fh.mpr rfl)
 |str z=>
  cases a<;>try (simp[qc] at d;done)
  rename_i u;simp only[qc] at d;cases d;exact .inr (.inr ⟨u,z,eI.fq.mp l,eI.fq.mp j,k.here (eI.fh.mpr rfl)⟩)
 |none=>simp[qc] at d
 |bool _=>simp[qc] at d
 |int _=>simp[qc] at d
def yK:Lp->Od
 |[.dict kvs]=>if iq kvs=true then Z else Y (.int kvs.length)
 |ds=>SO ds
def Jn:tK X (.builtin "len") yK:=by
 refine jc.imp (jc.or SQ Kz) ?_;rintro l H Q ⟨j,c,i,e,k⟩;unfold yK at e;split at e
 ·rename_i a;by_cases b:iq a=true
  ·rw[ag b] at e;cases e
  ·rw[ai b] at e;cases e;obtain⟨v,rfl,f⟩:=iD i;obtain⟨p,d,rfl,h,g⟩:=f.nE (by simpa using b);refine .inr ⟨p,d,rfl,h,?_⟩;rw[<-g.length];exact k.here (eI.eR.mpr rfl)
 ·exact .inl ⟨j,c,i,e,k⟩
def fU(K:Fg)(c f:Str):Prop:=∃C,jB K c C/\GQ K C/\ql K C f
noncomputable def mU(a:Lr)(f:Str)(d:eA):Od:=match d with
 |.dict ((.none,.str c)::r)=>if c∈a then o2 f r else Z
 |_=>Z
def eJ(a:Lr)(n:Str)(f:ee->Od):ee->Od:=λρ=>(f ρ).bind (mU a n)
def Hj{cs:Lr}{n:Str}(q:∀c∈cs,fU X.K c n)(m:PD X e f)(o:attributeBase e n X.env (eval e X.env)=eval e X.env:=by rfl):PD X (.Attribute e n pos) (eJ cs n f) :=
 PE.imp (Cr m o) <| by
  rintro σ H Q ⟨ρ,d,j,e,k⟩;obtain⟨x,D,a⟩:=bind_some e;refine⟨ρ,x,j,D,λv F g i=>?_⟩;unfold mU at a;split at a
  ·rename_i c r;by_cases b:c∈cs
   ·rw[ag b] at a;obtain⟨p,C,E,B,rfl,w,t,s⟩:=i.Hh;obtain⟨G,A,z,y⟩:=q c b;have:=w.uniq A;subst this;obtain⟨u,l,h⟩:=s.get a;exact⟨p,C,E,B,u,rfl,t,z,y,l,(k.later g).here h⟩
   ·rw[ai b] at a;cases a
  ·cases a
end
end L2
local macro_rules
| `(zP $s $m $a) => `(L2.Hj (cs := [$s]) (fun c hc => (List.mem_singleton.mp hc) ▸ $m) $a)
| `(zL $m $a) => `(L2.tL L2.Jn rfl $m (by rfl) (L2.eG $a L2.j4))
| `(zN $a) => `(L2.iC L2.yK (L2.fK $a L2.f9))
| `(zX $a $b) => `(L2.d2 L2.Vx $a $b)
namespace L2
open PySem PySem.Spec PyProof.Rows
inductive Pl where
 |sl (i:Nat)
 |fl (i:Nat) (c f:Str)
def Pl.ix:Pl->Nat
 |.sl i=>i
 |.fl i _ _=>i
def Nd(c f:Str)(d:eA):Od:=match d with
 |.dict ((.none,.str a)::r)=>if a=c/\mJ c f=true then o2 f r else Z
 |_=>Z
def Nf(f:Str)(y d:eA):eA:=match d with
 |.dict ((.none,.str c)::r)=>.dict ((.none,.str c)::p9 f y r)
 |d=>d
def KL:Pl->ee->Od
 |.sl i,ρ=>(ρ[i]?).join
 |.fl i c f,ρ=>(ρ[i]?).join.bind (Nd c f)
def Hk:Pl->eA->ee->ee
 |.sl i,d,ρ=>ρ.set i (Y d)
 |.fl i _ f,d,ρ=>ρ.set i ((ρ[i]?).join.map (Nf f d))
def Aq(K:Fg)(σ:St)(H:Hp):Pl->Addr->Prop
 |.sl i,q=>σ[i]?=Y (Y (.ref q))
 |.fl i c f,q=>∃C p b a,σ[i]?=Y (Y (.ref p))/\jB K c C/\H p=Y (.ins C b a)/\a.lookup f=Y (.ref q)
def vk:eA->Bool
 |.list _=>true
 |.dict kvs=>!iq kvs
 |_=>false
section
variable {ρ:ee}
def jv.cont(h:jv false K G d v B)(e:vk d=true):∃q o,v=.ref q/\B=[(q,o)]/\qa K G d q o:=by
 rcases h with ⟨q,o,i,a,b,c⟩ | ⟨c,C,p,g,f,r,j,rfl,_⟩
 ·exact⟨q,o,a,by rw[b,c.2],c.1⟩
 ·cases e
def jv.Vy{q:Addr}{o:HO}(h:qa K G d q o):jv false K G d (.ref q) [(q,o)]:=.inl ⟨q,o,[],rfl,rfl,h,rfl⟩
def Hl:eA->Bool
 |.list []=>true
 |.dict []=>true
 |_=>false
def qa.gen{q:Addr}{o:HO}(h:qa K G d q o)(b:dp=false\/Hl d=true):oM dp K G d q o []:=by
 cases dp with
 |false=>exact⟨h,rfl⟩
 |true=>
  have b:=b.resolve_left (by simp);rcases h with ⟨i,f,rfl,rfl,c⟩ | ⟨e,g,rfl,rfl,c⟩
  ·cases i with
   |nil=>exact .inl ⟨[],f,rfl,rfl,dn.eP.mp c,rfl⟩
   |cons a l=>cases b
  ·cases e with
   |nil=>exact .inr ⟨[],g,rfl,rfl,fZ.eP.mp c,rfl⟩
   |cons a l=>cases b
def oM.SY{q:Addr}{o:HO}{g:List (Addr×HO)}{c:Str}{r:List (eA×eA)}(h:oM dp K G (.dict ((.none,.str c)::r)) q o g):False:=by
 cases dp with
 |false=>
  rcases h with ⟨⟨_,_,e,_⟩ | ⟨b,d,e,_,i⟩,_⟩
  ·cases e
  ·cases e;obtain⟨y,_,_,_,e,_⟩:=fZ.eE.mp i;cases y<;>cases e
 |true=>
  rcases h with ⟨_,_,e,_⟩ | ⟨b,d,e,_,i⟩
  ·cases e
  ·cases e;obtain⟨y,v,j,l,k,a,f,_⟩:=i;cases y<;>cases f
def jv.inst{c:Str}{r:List (eA×eA)}(h:jv dp K G (.dict ((.none,.str c)::r)) v B):∃C p b a d,v=.ref p/\B=(p,.ins C b a)::(b,.own p)::d/\jB K c C/\js K G c r a d:=by
 rcases h with ⟨q,o,k,rfl,rfl,h⟩ | ⟨j,C,p,b,a,i,d,e,rfl,rfl,g,f⟩
 ·exact h.SY.elim
 ·cases e;exact⟨C,p,b,a,d,rfl,rfl,g,f⟩
def Hm{c f:Str}{x:eA}(h:Nd c f x=Y d):∃r,x=.dict ((.none,.str c)::r)/\mJ c f=true/\o2 f r=Y d:=by
 unfold Nd at h;split at h
 ·rename_i e r;by_cases a:e=c/\mJ c f=true
  ·rw[ag a] at h;obtain⟨rfl,b⟩:=a;exact⟨r,rfl,b,h⟩
  ·rw[ai a] at h;cases h
 ·cases h
def wq(O:List Nat):Pl->Bool
 |.sl _=>kA O
 |.fl _ c f=>pI c f
theorem hZ.S0(s:O.Nodup)(h:hZ O K σ ρ H G){π:Pl}(S:π.ix∈O)(T:KL π ρ=Y d)(hc:vk d=true):
  ∃q o n l k,Aq K σ H π q/\H=eW G (l++((q,o)::(n++k)))/\jQ G (l++((q,o)::(n++k)))/\pH l/\pH k/\oM (wq O π) K G d q o n /\
   ∀e j b a,eN G e->oM (wq O π) K e j q b a->jQ e (l++((q,b)::(a++k)))->hZ O K σ (Hk π j ρ) (eW e (l++((q,b)::(a++k)))) e:=by
 cases π with
 |sl i=>
  obtain⟨v,l,B1,k,M,u,f,z,F,E,P,_⟩:=h.own s S (iA T);rcases z with ⟨q,o,n,rfl,rfl,W⟩ | ⟨c,C,p,g,m,r,B',rfl,_⟩
  ·exact⟨q,o,n,l,k,M,u,f,F,E,W,λe j b a w A t=>P e j ((q,b)::a) w (.inl ⟨q,b,a,rfl,rfl,A⟩) t⟩
  ·cases hc
 |fl i c f=>
  obtain⟨x,U,e0⟩:=bind_some T;obtain⟨r,rfl,I,hg⟩:=Hm e0;obtain⟨v,l,B1,k,M,u,t,z,F,E,P,_⟩:=h.own s S (iA U);obtain⟨C,p,g,m,B',rfl,rfl,V,a5⟩:=z.inst;obtain⟨q,o,n,R,Q,l1,rfl,m1,m2,X,N⟩:=a5.split I hg;have L:∀(b:HO) (a:List (Addr×HO)),l++(((p,HO.ins C g m)::(g,HO.own p)::(R++((q,b)::(a++Q))))++k)=(l++(p,HO.ins C g m)::(g,HO.own p)::R)++((q,b)::(a++(Q++k))):=λb a=>by simp
  rw[L] at u t;refine⟨q,o,n,_,_,⟨C,p,g,m,M,V,?_,l1⟩,u,t,F.append (.ins m1),m2.append E,X,λe j b a w D J=>?_⟩
  ·rw[u];exact fL t.nd (p,.ins C g m) (by simp)
  ·have B:=N e j b a w D;have y:jv (kA O) K e (.dict ((.none,.str c)::p9 f j r)) (.ref p) ((p,HO.ins C g m)::(g,HO.own p)::(R++((q,b)::(a++Q)))):=.inr ⟨c,C,p,g,m,_,_,rfl,rfl,rfl,V,B⟩;have:=P e _ _ w y (by rw[L];exact J);rw[L] at this;have es:Hk (.fl i c f) j ρ=ρ.set i (Y (.dict ((.none,.str c)::p9 f j r))):=by
    show ρ.set i ((ρ[i]?).join.map (Nf f j))=_;rw[U];rfl
   rw[es];exact this
def hZ.place(f:O.Nodup)(h:hZ O K σ ρ H G){π:Pl}(p:π.ix∈O)(s:KL π ρ=Y d)(t:vk d=true)(g:wq O π=false):
  ∃q o,Aq K σ H π q/\H q=Y o/\qa K G d q o/\∀e b,qa K G e q b->hZ O K σ (Hk π e ρ) (upd H q b) G:=by
 obtain⟨q,o,w,v,u,r,i,c,n,m,j,k⟩:=h.S0 f p s t;rw[g] at j k;obtain⟨l,rfl⟩:=j;refine⟨q,o,r,by rw[i];exact fL c.nd (q,o) (by simp),l,λe b a=>?_⟩;rw[List.nil_append] at i c;rw[i,nu c.nd];exact k G e b [] (.refl G) ⟨a,rfl⟩ (c.put (n.append (.one a.Yq m)))
end
inductive Md where
 |dat|own|io (dp:Bool) (v0:V)|exc (W:Int->Hp->Prop)
def KO(K:Fg)(H:Hp)(d:eA)(Q:VK):Prop:=∀v a b,eN H a->jQ a b->jv false K a d v b->Q v (eW a b)
def KO.later{a:Hp}{Q:VK}(k:KO K H d Q)(e:eN H a):KO K a d Q:=λv b c s f o=>k v b c (e.trans s) f o
structure k8 (m:Md) (O:List Nat) (K:Fg) (σ:St) (ρ:ee) (H G:Hp):Prop where
 o:hZ O K σ ρ H G
 z:∀dp v0,m=.io dp v0->0∈O/\σ[0]?=Y (Y v0)/\kA O=dp
def Rx(m:Md)(K:Fg)(G:Hp)(d:eA)(Q:VK):Prop:=match m with
 |.dat=>KD K G d Q
 |.own=>KO K G d Q
 |.io dp v0=>∃x c,d=.tuple [x,c]/\∀v a b,eN G a->jQ a b->jv dp K a c v0 b->eI K a x v->Q v (eW a b)
 |.exc W=>(∃n,d=.int n/\∀a,eN G a->W n a)\/((∀n,d≠.int n)/\KD K G d Q)
theorem Rx.later{m:Md}{K:Fg}{G g:Hp}{d:eA}{Q:VK}(e:eN G g)(h:Rx m K G d Q):Rx m K g d Q:=by
 cases m with
 |dat=>exact KD.later h e
 |own=>exact KO.later h e
 |io l k=>obtain⟨x,j,a,b⟩:=h;exact⟨x,j,a,λv c B s f o i=>b v c B (e.trans s) f o i⟩
 |exc W=>
  rcases h with ⟨n,a,b⟩ | ⟨a,b⟩
  ·exact .inl ⟨n,a,λc s=>b c (e.trans s)⟩
  ·exact .inr ⟨a,KD.later b e⟩
def Qj(m:Md)(O:List Nat)(K:Fg)(G:Hp)(D:yj):gQ->Prop
 |.nx ρ=>∀σ a b,eN G b->k8 m O K σ ρ a b->D.nx σ a
 |.bk ρ=>∀σ a b,eN G b->k8 m O K σ ρ a b->D.bk σ a
 |.ct ρ=>∀σ a b,eN G b->k8 m O K σ ρ a b->D.ct σ a
 |.rt d=>Rx m K G d D.rt
theorem Qj.later{m:Md}{O:List Nat}{K:Fg}{G d:Hp}{D:yj}(e:eN G d):∀{o:gQ},Qj m O K G D o->Qj m O K d D o
 |.nx _,h=>λσ b c a q=>h σ b c (e.trans a) q
 |.bk _,h=>λσ b c a q=>h σ b c (e.trans a) q
 |.ct _,h=>λσ b c a q=>h σ b c (e.trans a) q
 |.rt _,h=>Rx.later e h
def tO(m:Md)(O:List Nat)(K:Fg)(g:ee->Option gQ):TS:=λD σ H=>∃ρ o G,k8 m O K σ ρ H G/\g ρ=Y o/\Qj m O K G D o
def wt(X:Cx)(m:Md)(O:List Nat)(a:Stmt)(g:ee->Option gQ):Prop:=PS X a (tO m O X.K g)
def rn(X:Cx)(m:Md)(O:List Nat)(a:List Stmt)(g:ee->Option gQ):Prop:=we X a (tO m O X.K g)
def qw:eA->Bool
 |.list _=>false
 |.tuple _=>false
 |.dict _=>false
 |_=>true
def eI.jG{a:Hp}(h:qw d=true)(i:eI K H d v):eI K a d v:=by cases d<;>first|(cases h;done)|(unfold eI at i ⊢;exact i)
theorem dn.jG{K:Fg}{H f:Hp}:∀{c:Lp}{e:List V},c.all qw=true->dn K H c e->dn K f c e
 |[],_,_,i=>by rw[dn.eP.mp i];exact dn.nil
 |d::c,_,h,i=>by obtain⟨v,r,rfl,a,b⟩:=dn.eE.mp i;simp only[List.all_cons,bR] at h;exact dn.cons (eI.jG h.1 a) (dn.jG h.2 b)
section
variable {m:Md}{a:Expr}{fb fc f:ee->Od}{p2:Pos}{st:Stmt}{rest:List Stmt}{g h:ee->Option gQ}{gc:ee->Option Bool}
def PV(X:Cx)(O:List Nat)(e:Expr)(h:ee->Od):Prop:=PE X e (λσ H Q=>∃ρ d G,hZ O X.K σ ρ H G/\h ρ=Y d/\∀v a b,eN H a->eN G b->hZ O X.K σ ρ a b->eI X.K b d v->Q v a)
def ja(O:List Nat)(f:ee->Od):ee->Od:=λρ=>f (kU O ρ)
def Uk(f:ee->Od):ee->Od:=λρ=>(f ρ).bind λd=>if qw d=true then Y d else Z
def sv{b:Hp}(c:(B.map (·.1)).Nodup)(e:eN G b):eN (eW G B) (eW b B):=λa o h=>by
 rcases oj (a:=a) B with ⟨x,d,rfl⟩|h'
 ·rw[fL c x d] at h ⊢;exact h
 ·rw[fX h'] at h ⊢;exact e a o h
def fE(l:PD X e f):PV X O e (ja O f) :=
 PE.imp (PE.frame l) <| by rintro σ H Q ⟨ρ,d,G,a,m,k⟩;obtain⟨B,j,h,c⟩:=a.ex;refine⟨G,B,j,h,kU O ρ,d,a.rest,m,λv n b i g=>?_⟩;subst j;exact k v _ n (sv h.nd b) b (hZ.CL a.len c a.lb b g) i
def EN{ρ:ee}(h:Uk f ρ=Y d):f ρ=Y d/\qw d=true:=by
 obtain⟨x,c,a⟩:=bind_some h;by_cases b:qw x=true
 ·rw[ag b] at a;cases a;exact⟨c,b⟩
 ·rw[ai b] at a;cases a
def Ng(h:PD X e f):PV X O e (Uk f) :=
 PE.imp h <| by rintro σ H Q ⟨ρ,d,G,c,m,k⟩;obtain⟨l,j⟩:=EN m;refine⟨ρ,d,c.full,l,λv n b i=>?_⟩;obtain⟨o,g,_,a⟩:=c.grow b;exact k v n o b g a (i.jG j)
def PF(X:Cx)(e:Expr)(f:ee->Od):Prop:=PE X e (λσ H Q=>∃ρ d,ju X.K H σ ρ/\f ρ=Y d/\KO X.K H d Q)
def Vz(X:Cx)(O:List Nat)(e:Expr)(h:ee->Od):Prop:=PE X e (λσ H Q=>∃ρ d G,hZ O X.K σ ρ H G/\h ρ=Y d/\∀v a b c,eN H a->eN G b->hZ O X.K σ ρ a b->jQ a c->jv false X.K b d v c->Q v (eW a c))
def ki(p:PF X e f):Vz X O e (ja O f) :=
 PE.imp (PE.frame p) <| by
  rintro σ H Q ⟨ρ,d,G,c,s,k⟩;obtain⟨B,o,g,i⟩:=c.ex;refine⟨G,B,o,g,kU O ρ,d,c.rest,s,λv a b h q j l=>?_⟩;have n:jQ a (B++b):=q.join l;have m:jQ a (b++B):=n.perm bo (j.mI.append g.ok);have r:eW (eW a b) B=eW (eW a B) b:=by rw[<-jf,<-jf];exact hY n.nd bo
  rw[r];subst o;exact k v _ a b (sv g.nd h) h (hZ.CL c.len i c.lb h (m.KJ g.ok)) (m.KI j.mI) j
def Nh:eA->Bool
 |.list ds=>ds.all qw
 |_=>false
def Ul(f:ee->Od):ee->Od:=λρ=>(f ρ).bind λd=>if Nh d=true then Y d else Z
def Hn(r:PF X e f):Vz X O e (Ul f) :=
 PE.imp r <| by
  rintro σ H Q ⟨ρ,d,G,l,u,k⟩;obtain⟨x,t,b⟩:=bind_some u;by_cases a:Nh x=true
  ·rw[ag a] at b;cases b;refine⟨ρ,d,l.full,t,λv z A j s n=>?_⟩;obtain⟨y,c,_,g⟩:=l.grow j;refine k v z y A j c g s ?_;cases d<;>try (simp[Nh] at a;done)
   rename_i B;obtain⟨q,o,rfl,rfl,p⟩:=n.cont rfl;rcases p with ⟨w,m,h,rfl,i⟩ | ⟨_,_,h,_⟩
   ·cases h;exact jv.Vy (.inl ⟨_,m,rfl,rfl,i.jG a⟩)
   ·cases h
  ·rw[ai a] at b;cases b
def lR(m:Bp X es ff):PF X (.List es pos) (je ff) :=
 PE.imp (GW m) <| by
  rintro σ H Q ⟨ρ,d,j,e,k⟩;obtain⟨h,n,a⟩:=bind_some e;refine⟨ρ,h,j,n,λc o i f=>?_⟩;by_cases b:h.length<=sizeLine
  ·first
   | (rw[ag b] at a;cases a)
   | (cases a)
   refine⟨by rw[<-f.length];exact b,λp l=>?_⟩;exact k (.ref p) o [(p,.lst c)] i ⟨by simp,(λx g=>by simp at g;subst g;exact l),.one aP .nil⟩ (jv.Vy (.inl ⟨_,c,rfl,rfl,f⟩))
  ·rw[ai b] at a;cases a
def yL:PF X (.Dict [] [] pos) (dC (.dict [])) :=
 PE.imp EE <| by rintro σ H Q ⟨ρ,d,c,e,k⟩;cases e;intro p b;exact k (.ref p) H [(p,.dK [])] (.refl H) ⟨by simp,(λx a=>by simp at a;subst a;exact b),.one aP .nil⟩ (jv.Vy (.inr ⟨[],[],rfl,rfl,fZ.eP.mpr rfl⟩))
def eC:rn X m O [] gp:=we.imp IU <| by rintro D σ H ⟨ρ,o,G,a,e,k⟩;cases e;exact k σ H G (.refl G) a
def a7(l:wt X m O st g)(j:rn X m O rest h):rn X m O (st::rest) (eY g h) :=
 we.imp (Em l j) <| by
  rintro D σ H ⟨ρ,o,G,i,e,k⟩;obtain⟨c,n,a⟩:=bind_some e;refine⟨ρ,c,G,i,n,?_⟩;cases c with
  |nx ρ'=>exact λσ' q p f b=>⟨ρ',o,p,b,a,k.later f⟩
  |rt d=>cases a;exact k
  |bk ρ'=>cases a;exact k
  |ct ρ'=>cases a;exact k
def a9(a:wt X m O st g):rn X m O [st] g:=we.imp (IV a) λD σ H h=>h
def eF(h:PD X e f):wt X .dat O (.Return (Y e) pos) (fP f) :=
 PS.imp (ve h) <| by rintro D σ H ⟨ρ,o,G,a,e,k⟩;obtain⟨d,c,rfl⟩:=aa.mp e;exact⟨ρ,d,a.o.full,c,λv g b i=>KD.later k (a.o.sub.trans b) |>.here i⟩
def qx(h:PF X e f):wt X .own O (.Return (Y e) pos) (fP f) :=
 PS.imp (ve h) <| by rintro D σ H ⟨ρ,o,G,a,e,k⟩;obtain⟨d,b,rfl⟩:=aa.mp e;exact⟨ρ,d,a.o.full,b,KO.later k a.o.sub⟩
def EO(i:Nat) {z:Pos} (g:O.Nodup) (w:i∈O:=by decide) (h:kA O=false:=by rfl) (y:X.N[i]?=Y x:=by rfl) (s:Ma X.env.scope x:=by first|exact b7 rfl|exact bF (b7 rfl)|exact bF (bF rfl)) (u:zg x:=by decide)
  (j:(x==("__classdict__":Str))=false:=by decide):wt X .own O (.Return (Y (.Name x z)) pos) (fP (a6 i)) :=
 PS.imp (ve (qi y s u j)) <| by
  rintro D σ H ⟨ρ,o,G,t,e,k⟩;obtain⟨d,C,rfl⟩:=aa.mp e;obtain⟨v,m,c,l,B,A,f,b,p,n,_,_⟩:=t.o.own g w (iA C);rw[h] at b;refine⟨v,B,?_⟩;have a:(m++(c++l)).Perm (c++(m++l)):=by rw[<-aN,<-aN];exact dh _ bo
  have r:jQ G (c++(m++l)):=f.perm a (b.mI.append (p.append n));rw[A,hY f.nd a,jf];have q:=r.KJ (p.append n);exact(show KO X.K G d D.rt from k) v _ c q.same (r.KI b.mI) (b.same q.same)
def eU{f d:List Stmt}(p:Bo X c gc)(r:rn X m O f g)(q:rn X m O d h):wt X m O (.If c f d pos) (jS gc g h) :=
 PS.imp (Mt p r q) <| by
  rintro D σ H ⟨ρ,o,G,b,e,k⟩;obtain⟨y,s,j⟩:=bind_some e;refine⟨ρ,y,b.o.full,s,λt n=>?_⟩;obtain⟨l,i,_,a⟩:=b.o.grow n;cases y with
  |true=>rw[ag rfl];exact⟨ρ,o,l,⟨a,b.z⟩,j,k.later i⟩
  |false=>rw[ai aC];exact⟨ρ,o,l,⟨a,b.z⟩,j,k.later i⟩
def KN:wt X m O (.Break pos) (λρ=>Y (.bk ρ)):=PS.imp Ms <| by rintro D σ H ⟨ρ,o,G,a,e,k⟩;cases e;exact k σ H G (.refl G) a
def CM:ee->Option gQ:=λ_=>Z
def vl:wt X m O st CM:=PS.imp Mu <| by rintro D σ H ⟨ρ,o,G,a,e,k⟩;cases e
theorem k8.set{K:Fg}{σ:St}{ρ:ee}{H G:Hp}{i:Nat}{d:eA}{v:V}(h:k8 m O K σ ρ H G)(b:i∉O)(e:eI K G d v):k8 m O K (σ.set i (Y v)) (ρ.set i (Y d)) H G :=
 ⟨h.o.set b e,λk g z=>by obtain⟨a,f,c⟩:=h.z k g z;have j:i≠0:=λq=>b (q▸a);exact⟨a,by rw[ay j];exact f,c⟩⟩
noncomputable def iR(f:ee->Od)(i:Nat):ee->Option gQ:=λρ=>(f ρ).map λd=>.nx (ρ.set i (Y d))
def gr(i:Nat) {a:Pos} (r:X.N.Nodup) (p:PV X O e f) (q:i∉O:=by decide) (l:X.N[i]?=Y x:=by rfl) (j:IQ X.env.scope x:=by first|exact b7 rfl|exact bF rfl) (b:swapsWith e (Y (.Name x a)) pos.line X.env=pure false:=by rfl)
  (n:X.fn x=true\/X.env.scope.names.lookup x=Y .local:=by first|exact .inl rfl|exact .inr rfl|assumption):wt X m O (.Assign [.Name x a] e pos) (iR f i) :=
 PS.imp (GI r l j p b n) <| by rintro D σ H ⟨ρ,o,G,b,e,k⟩;obtain⟨d,s,rfl⟩:=aa.mp e;exact⟨ρ,d,G,b.o,s,λv t u _ g c h=>k _ t u g (k8.set ⟨c,b.z⟩ q h)⟩
noncomputable def nJ(f:ee->Od)(i:Nat):ee->Option gQ:=λρ=>(f ρ).bind λd=>if i<ρ.length then Y (.nx (ρ.set i (Y d))) else Z
def jP(i:Nat) {a:Pos} (A:X.N.Nodup) (g:O.Nodup) (w:Vz X O e f) (y:i∈O:=by decide) (l:kA O=false:=by rfl) (h0:i≠0\/m=.dat\/m=.own:=by first|exact .inl (by decide)|exact .inr (.inl rfl)|exact .inr (.inr rfl)) (t:X.N[i]?=Y x:=by rfl) (s:IQ X.env.scope x:=by first|exact b7 rfl|exact bF rfl) (b:swapsWith e (Y (.Name x a)) pos.line X.env=pure false:=by rfl)
  (u:X.fn x=true\/X.env.scope.names.lookup x=Y .local:=by first|exact .inl rfl|exact .inr rfl|assumption):wt X m O (.Assign [.Name x a] e pos) (nJ f i) :=
 PS.imp (GI A t s w b u) <| by
  rintro D σ H ⟨ρ,o,G,b,e,k⟩;obtain⟨d,E,c⟩:=bind_some e;by_cases h:i<ρ.length
  ·rw[ag h] at c;cases c;refine⟨ρ,d,G,b.o,E,λv J K L _ q j C n=>?_⟩;rw[<-l] at n;obtain⟨I,r,B⟩:=j.new g y h n C;refine k _ _ I (q.trans r) ⟨B,λF p z=>?_⟩;rcases h0 with h0|h0|h0
   ·rw[ay h0];exact b.z F p z
   ·rw[h0] at z;cases z
   ·rw[h0] at z;cases z
  ·rw[ai h] at c;cases c
def PP(X:Cx)(e:Expr)(π:Pl):Prop:=PE X e (λσ H Q=>∃q,Aq X.K σ H π q/\Q (.ref q) H)
def rW(i:Nat) (d:X.N[i]?=Y x:=by rfl) (b:Ma X.env.scope x:=by first|exact b7 rfl|exact bF (b7 rfl)|exact bF (bF rfl)) (c:zg x:=by decide)
  (a:(x==("__classdict__":Str))=false:=by decide):PP X (.Name x pos) (.sl i):=PE.imp (qi d b c a) λσ H Q ⟨q,r,k⟩=>⟨_,r,k⟩
def Bv(i:Nat) {c n:Str}{a:Pos} (h:fU X.K c n) (g:X.N[i]?=Y x:=by rfl) (d:Ma X.env.scope x:=by first|exact b7 rfl|exact bF (b7 rfl)|exact bF (bF rfl)) (e:zg x:=by decide)
  (b:(x==("__classdict__":Str))=false:=by decide) (f:attributeBase (.Name x a) n X.env (eval (.Name x a) X.env)=eval (.Name x a) X.env:=by rfl):PP X (.Attribute (.Name x a) n pos) (.fl i c n) :=
 PE.imp (Cr (qi g d e b) f) <| by rintro σ H Q ⟨q,⟨C,p,v,o,u,t,s,r⟩,k⟩;obtain⟨w,m,l,j⟩:=h;have:=t.uniq m;subst this;exact⟨_,u,p,C,v,o,_,rfl,s,l,j,r,k⟩
theorem qa.lst{K:Fg}{G:Hp}{b:Lp}{q:Addr}{o:HO}(h:qa K G (.list b) q o):∃a,o=.lst a/\dn K G b a:=by
 rcases h with ⟨d,a,e,c,i⟩ | ⟨_,_,e,_⟩
 ·cases e;exact⟨a,c,i⟩
 ·cases e
def qa.lS{q:Addr}{o:HO}(h:qa K G (.dict kvs) q o):∃a,o=.dK a/\fZ K G kvs a:=by
 rcases h with ⟨c,d,e,b,i⟩ | ⟨_,a,e,b,i⟩
 ·cases e
 ·cases e;exact⟨a,b,i⟩
def Aq.eq{l:Hp}{π:Pl}{q a:Addr}(h:Aq K σ H π q)(b:Aq K σ l π a)(e:eN H l):q=a:=by
 cases π with
 |sl i=>have n:σ[i]?=Y (Y (.ref q)):=h;have d:σ[i]?=Y (Y (.ref a)):=b;rw[n] at d;cases d;rfl
 |fl i c f=>obtain⟨C,p,w,v,t,y,s,r⟩:=h;obtain⟨z,u,o,m,k,x,j,g⟩:=b;rw[t] at k;cases k;rw[e _ _ s] at j;cases j;rw[r] at g;cases g;rfl
noncomputable def om(π:Pl)(f:ee->Od):ee->Option gQ:=λρ=>(KL π ρ).bind λl=>(f ρ).bind λd=>match l with
 |.list ds=>if ds.length<sizeLine then Y (.nx (Hk π (.list (ds++[d])) ρ)) else Z
 |_=>Z
def kX{π:Pl}{o:Expr}{a:Pos} (i:O.Nodup) (S:PP X o π) (T:PV X O e f) (E:π.ix∈O:=by decide) (t:wq O π=false:=by rfl) (n:starEach [e] X.env=(false,eval e X.env)::starEach [] X.env:=by rfl)
  (g:attributeBase o "append" X.env (eval o X.env)=eval o X.env:=by rfl)
  (s:((backTo a (starEach [e] X.env)).all (λx=>!x.1)&&(backToKw a (keywordEach [] X.env)).all (λx=>x.1.isSome)&&decide (([e]:Lx).length+([]:List Keyword).length+(if ([]:List Keyword).isEmpty then 0 else 1)<30))=true:=by rfl)
  (c:(apos.endLine==a.line)=true:=by rfl) (b:(backTo a (starEach [] X.env)).any (·.1)=false:=by rfl)
  (p:swapsWith (.Call (.Attribute o "append" apos) [e] [] a) Z pos.line X.env=pure false:=by rfl):
  wt X m O (.Expr (.Call (.Attribute o "append" apos) [e] [] a) pos) (om π f) :=
 PS.imp (q5 (Bj bC PySem.F.slot_list_append PySem.F.type_list_append Bl S (mX T qm n) g s c n b) p) <| by
  rintro D σ H ⟨ρ,o,G,p,e,k⟩;obtain⟨l,I,U⟩:=bind_some e;obtain⟨d,V,h⟩:=bind_some U;obtain⟨C,rfl⟩:∃C,l=.list C:=by cases l<;>first|exact⟨_,rfl⟩|cases h
  dsimp only at h;by_cases y:C.length<sizeLine
  ·rw[ag y] at h;cases h;obtain⟨q,ob,r,R,N,_⟩:=p.o.place i E I rfl t;obtain⟨J,rfl,i4⟩:=N.lst;refine⟨q,r,.inl ⟨rfl,J,j0.of R⟩,ρ,d,G,p.o,V,λv H' G' K L A Q=>?_⟩;obtain⟨q',P,M,B,w,W⟩:=A.place i E I rfl t;have:=Aq.eq r M K;subst this;obtain⟨u,rfl,j⟩:=w.lst;refine⟨q,u,v,rfl,rfl,B,by rw[<-j.length];exact y,?_⟩;exact k _ _ G' L ⟨W _ _ (.inl ⟨_,_,rfl,rfl,j.append (dn.cons Q dn.nil)⟩),p.z⟩
  ·rw[ai y] at h;cases h
end
section
variable {m:Md}{a:Expr}{fb fc f:ee->Od}{p2:Pos}{st:Stmt}{rest:List Stmt}{g h:ee->Option gQ}{gc:ee->Option Bool}
def VA(π:Pl):ee->Option gQ:=λρ=>(KL π ρ).bind λl=>match l with
 |.list ds=>if ds.isEmpty=true then Z else Y (.nx (Hk π (.list ds.dropLast) ρ))
 |_=>Z
theorem dn.dropLast{K:Fg}{H:Hp}{b:Lp}{a:List V}(h:dn K H b a):dn K H b.dropLast a.dropLast:=by rw[List.dropLast_eq_take,List.dropLast_eq_take,h.length];exact h.take _
def Qk{π:Pl}{o:Expr}{a:Pos} (i:O.Nodup) (u:PP X o π) (w:π.ix∈O:=by decide) (n:wq O π=false:=by rfl)
  (c:attributeBase o "pop" X.env (eval o X.env)=eval o X.env:=by rfl) (b:(apos.endLine==a.line)=true:=by rfl)
  (g:swapsWith (.Call (.Attribute o "pop" apos) [] [] a) Z pos.line X.env=pure false:=by rfl):
  wt X m O (.Expr (.Call (.Attribute o "pop" apos) [] [] a) pos) (VA π) :=
 PS.imp (q5 (MP bC PySem.F.slot_list_pop PySem.F.type_list_pop MQ u c b) g) <| by
  rintro D σ H ⟨ρ,o,G,g,e,k⟩;obtain⟨l,x,d⟩:=bind_some e;obtain⟨h,rfl⟩:∃h,l=.list h:=by cases l<;>first|exact⟨_,rfl⟩|cases d
  dsimp only at d;by_cases j:h.isEmpty=true
  ·rw[ag j] at d;cases d
  ·rw[ai j] at d;cases d;obtain⟨q,A,r,s,t,y⟩:=g.o.place i w x rfl n;obtain⟨f,rfl,p⟩:=t.lst;have v:f.length - 1<f.length:=by
    have:=p.length;have:h≠[]:=λz=>j (by rw[z];rfl);have:=List.length_pos_iff.mpr this;omega
   exact⟨q,r,.inl ⟨rfl,f,j0.of s⟩,q,f,_,rfl,rfl,s,aL v,k _ _ G (.refl G) ⟨y _ _ (.inl ⟨_,_,rfl,rfl,p.dropLast⟩),g.z⟩⟩
def VB:V->V->V->Hp->(Hp->Prop)->Prop:=λo i v H Q=>∃p a k,o=.ref p/\i=kV k/\H p=Y (.dK a)/\a.length<sizeLine/\Q (upd H p (.dK (putK a k v)))
def Ni(r:X.A.units+64<cLine):Cg X VB:=by intro a s σ H o i v l n u Q I c d b h;obtain⟨p,m,k,rfl,rfl,e,f,q⟩:=h;cases c;exact Ky (by omega) I (PZ.k e f) d b λj g=>⟨_,g,q⟩
def Cg.or{t u:Pm}(h:Cg X t)(j:Cg X u):Cg X (λo i v H Q=>t o i v H Q\/u o i v H Q):=λa s σ H o i v f g b Q I e d c q=>q.elim (@h a s σ H o i v f g b Q I e d c) (@j a s σ H o i v f g b Q I e d c)
noncomputable def KP(k d l:eA):Od:=match l with
 |.list ds=>match k with
  |.int i=>(Ey ds.length i).map λj=>.list (ds.set j d)
  |_=>Z
 |.dict kvs=>if kvs.length<sizeLine/\iq kvs=false then (qb k).map λ_=>.dict (Qg k d kvs) else Z
 |_=>Z
def Ho(π:Pl)(e c:ee->Od):ee->Option gQ:=λρ=>(KL π ρ).bind λl=>(c ρ).bind λd=>(e ρ).bind λb=>(KP b d l).map λa=>.nx (Hk π a ρ)
theorem dn.set{K:Fg}{H:Hp}{d:eA}{v:V}(i:eI K H d v):∀{c:Lp}{e:List V} (j:Nat),dn K H c e->dn K H (c.set j d) (e.set j v)
 |[],_,_,h=>by rw[dn.eP.mp h];exact dn.nil
 |x::c,_,j,h=>by
  obtain⟨u,r,rfl,a,b⟩:=dn.eE.mp h;cases j with
  |zero=>exact dn.cons i b
  |succ j=>exact dn.cons a (dn.set i j b)
def q9(hu:X.A.units+64<cLine) {π:Pl}{o:Expr}{b:Pos} (n:O.Nodup) (ho:PP X o π) (hk:PV X O a fa) (he:PV X O e f) (M:π.ix∈O:=by decide) (x:wq O π=false:=by rfl)
  (ha:∀v,assign (.Subscript o a b) X.env v=(do
   let ov <-holding [v] (eval o X.env);let iv <-holding [v,ov] (eval a X.env)
   standAt b
   holding [v,ov,iv] (setItem ov iv v)
   release [v,ov,iv] []):=by intro _;rfl)
  (u:swapsWithSole [.Subscript o a b] e pos.line X.env=pure false:=by rfl) (hw:swappedStores [.Subscript o a b] e X.env=pure Z:=by rfl)
  (h1:(assignEach [.Subscript o a b] X.env).map (·.2)=[assign (.Subscript o a b) X.env]:=by rfl):
  wt X m O (.Assign [.Subscript o a b] e pos) (Ho π fa f) :=
 PS.imp (Mx he (Mw ho hk (Cg.or EA (Ni hu)) ha) u hw h1) <| by
  rintro D σ H ⟨ρ,o,G,u,e,k⟩;obtain⟨l,N,ea⟩:=bind_some e;obtain⟨d,e2,eb⟩:=bind_some ea;obtain⟨J,e3,ec⟩:=bind_some eb;obtain⟨l',g,rfl⟩:=aa.mp ec;have E:vk l=true:=by
   cases l<;>try (simp[KP] at g;done)
   ·rfl
   ·rename_i c;simp only[KP] at g;by_cases h:c.length<sizeLine/\iq c=false
    ·show (!iq c)=true;rw[h.2];rfl
    ·rw[ai h] at g;cases g
  refine⟨ρ,d,G,u.o,e2,λv H1 G1 _ I t W=>?_⟩;obtain⟨q,ob,r,hq,oc,_⟩:=t.place n M N E x;refine⟨q,r,ρ,J,G1,t,e3,λkv H2 Q S y C L=>?_⟩;obtain⟨q',U,T,w,i,P⟩:=C.place n M N E x;have:=Aq.eq r T S;subst this;have s:=W.same y;cases l with
  |list ds=>
   obtain⟨R,rfl,p⟩:=i.lst;cases J<;>try (simp[KP] at g;done)
   rename_i j;simp only[KP] at g;obtain⟨K,F,rfl⟩:=aa.mp g;refine .inl ⟨q,R,j,K,rfl,eI.eR.mp L,w,by rw[<-p.length];exact F,?_⟩;exact k _ _ Q (I.trans y) ⟨P _ _ (.inl ⟨_,_,rfl,rfl,p.set s K⟩),u.z⟩
  |dict c=>
   obtain⟨B,rfl,p⟩:=i.lS;simp only[KP] at g;by_cases h:c.length<sizeLine/\iq c=false
   ·rw[ag h] at g;obtain⟨V,F,rfl⟩:=aa.mp g;have:=gR F;subst this;refine .inr ⟨q,B,V,rfl,iE L,w,by rw[<-p.length];exact h.1,?_⟩;exact k _ _ Q (I.trans y) ⟨P _ _ (.inr ⟨_,_,rfl,rfl,p.put s⟩),u.z⟩
   ·rw[ai h] at g;cases g
  |_=>cases E
noncomputable def xV(π:Pl)(f:ee->Od):ee->Option gQ:=λρ=>(KL π ρ).bind λl=>(f ρ).bind λd=>match l,d with
 |.list ds,.list a=>if ds.length+a.length<=sizeLine then Y (.nx (Hk π (.list (ds++a)) ρ)) else Z
 |_,_=>Z
def Hq{π:Pl}{o:Expr}{a:Pos} (j:O.Nodup) (ho:PP X o π) (he:Vz X O e f) (Q:π.ix∈O:=by decide) (u:wq O π=false:=by rfl) (p:starEach [e] X.env=(false,eval e X.env)::starEach [] X.env:=by rfl)
  (h:attributeBase o "extend" X.env (eval o X.env)=eval o X.env:=by rfl)
  (t:((backTo a (starEach [e] X.env)).all (λx=>!x.1)&&(backToKw a (keywordEach [] X.env)).all (λx=>x.1.isSome)&&decide (([e]:Lx).length+([]:List Keyword).length+(if ([]:List Keyword).isEmpty then 0 else 1)<30))=true:=by rfl)
  (g:(apos.endLine==a.line)=true:=by rfl) (c:(backTo a (starEach [] X.env)).any (·.1)=false:=by rfl)
  (s:swapsWith (.Call (.Attribute o "extend" apos) [e] [] a) Z pos.line X.env=pure false:=by rfl):
  wt X m O (.Expr (.Call (.Attribute o "extend" apos) [e] [] a) pos) (xV π f) :=
 PS.imp (q5 (Bj bC cV PySem.F.type_list_extend Ku ho (mX he qm p) h t g p c) s) <| by
  rintro D σ H ⟨ρ,o,G,s,e,k⟩;obtain⟨l,R,ea⟩:=bind_some e;obtain⟨d,e2,i⟩:=bind_some ea;obtain⟨L,rfl⟩:∃L,l=.list L:=by cases l<;>first|exact⟨_,rfl⟩|(cases d<;>cases i)
  obtain⟨K,rfl⟩:∃K,d=.list K:=by cases d<;>first|exact⟨_,rfl⟩|cases i
  dsimp only at i;by_cases B:L.length+K.length<=sizeLine
  ·rw[ag B] at i;cases i;obtain⟨q,ob,r,hq,oc,_⟩:=s.o.place j Q R rfl u;obtain⟨S,rfl,i4⟩:=oc.lst;refine⟨q,r,.inl ⟨rfl,S,j0.of hq⟩,ρ,_,G,s.o,e2,λv H' G' B' T U E J W=>?_⟩;obtain⟨b,ob,rfl,rfl,y⟩:=W.cont rfl;obtain⟨M,rfl,P⟩:=y.lst;obtain⟨G2,N,g2,C⟩:=E.grow J.same;obtain⟨q',ob',V,I,A,cl⟩:=C.place j Q R rfl u;have:=Aq.eq r V (T.trans J.same);subst this;obtain⟨w,rfl,n⟩:=A.lst;refine⟨q,b,w,M,rfl,rfl,I,fL J.nd (b,.lst M) (by simp),by rw[<-n.length,<-P.length];exact B,?_⟩;exact k _ _ G2 (U.trans N) ⟨cl _ _ (.inl ⟨_,_,rfl,rfl,n.append (P.same N)⟩),s.z⟩
  ·rw[ai B] at i;cases i
noncomputable def lp(i:Nat)(c n:Str)(f:ee->Od):ee->Option gQ:=λρ=>(ρ[i]?).join.bind λx=>(f ρ).bind λd=>match x with
 |.dict ((.none,.str a)::r)=>if a=c/\mJ c n=false/\r.length<1000 then Y (.nx (ρ.set i (Y (.dict ((.none,.str c)::p9 n d r))))) else Z
 |_=>Z
theorem iJ(i:Nat) {c n:Str}{a P:Pos} (w:O.Nodup) (hC:fU X.K c n) (he:PV X O e f) (hO:i∈O:=by decide) (hN:X.N[i]?=Y x:=by rfl) (hv:Ma X.env.scope x:=by first|exact b7 rfl|exact bF (b7 rfl)|exact bF (bF rfl)) (hd:zg x:=by decide)
  (I:(x==("__classdict__":Str))=false:=by decide) (j:swapsWith e (Y (.Attribute (.Name x P) n a)) pos.line X.env=pure false:=by rfl):
  wt X m O (.Assign [.Attribute (.Name x P) n a] e pos) (lp i c n f) :=
 PS.imp (GS (qi hN hv hd I) he j) <| by
  rintro D σ H ⟨ρ,o,G,j,e,k⟩;obtain⟨y,e1,ea⟩:=bind_some e;obtain⟨d,e2,g⟩:=bind_some ea;obtain⟨C',g1,g2,g3⟩:=hC;split at g
  ·rename_i M r;by_cases E:M=c/\mJ c n=false/\r.length<1000
   ·rw[ag E] at g;cases g;obtain⟨rfl,B,A⟩:=E;refine⟨ρ,d,G,j.o,e2,λv H' s _ U F i'=>?_⟩;obtain⟨v0,T,B1,S,e3,L,l,V,k1,W,cl,_⟩:=F.own w hO (iA e1);obtain⟨C,p,b,J,t,rfl,rfl,R,Q⟩:=V.inst;have:=R.uniq g1;subst this;have q:∀u:HO,T++(((p,u)::(b,HO.own p)::t)++S)=T++(p,u)::((b,HO.own p)::t++S):=λu=>by simp
    rw[q] at L l;refine⟨_,e3,p,C,b,J,rfl,by rw[L];exact fL l.nd (p,.ins C b J) (by simp),g2,g3,by rw[Q.len];exact A,?_⟩;have h:jv (kA O) X.K s (.dict ((.none,.str M)::p9 n d r)) (.ref p) ((p,.ins C b (lO n v J))::(b,.own p)::t):=.inr ⟨M,C,p,b,_,_,t,rfl,rfl,rfl,R,Q.put B i'⟩;rw[L,nu l.nd,<-q];exact k _ _ s U ⟨cl s _ _ (.refl s) h (by rw[q];exact l.put (by rw[<-q];exact k1.append (h.mI.append W))),j.z⟩
   ·rw[ai E] at g;cases g
  ·cases g
noncomputable def ER(i:Nat)(c n:Str)(f:ee->Od):ee->Option gQ:=λρ=>(ρ[i]?).join.bind λx=>(f ρ).bind λd=>match x with
 |.dict ((.none,.str a)::r)=>if a=c/\mJ c n=true/\r.length<1000/\o2 n r=Z/\vk d=true/\(pI c n=false\/Hl d=true) then Y (.nx (ρ.set i (Y (.dict ((.none,.str c)::p9 n d r))))) else Z
 |_=>Z
theorem tR(i:Nat) {c n:Str}{t ep:Pos} (R:O.Nodup) (hC:fU X.K c n) (he:Vz X O e f) (hO:i∈O:=by decide) (hN:X.N[i]?=Y x:=by rfl) (hv:Ma X.env.scope x:=by first|exact b7 rfl|exact bF (b7 rfl)|exact bF (bF rfl)) (hd:zg x:=by decide)
  (hcd:(x==("__classdict__":Str))=false:=by decide) (J:swapsWith e (Y (.Attribute (.Name x ep) n t)) pos.line X.env=pure false:=by rfl):
  wt X m O (.Assign [.Attribute (.Name x ep) n t] e pos) (ER i c n f) :=
 PS.imp (GS (qi hN hv hd hcd) he J) <| by
  rintro D σ H ⟨ρ,o,G,J,e,k⟩;obtain⟨y,e1,ea⟩:=bind_some e;obtain⟨d,e2,w⟩:=bind_some ea;obtain⟨C',g1,g2,g3⟩:=hC;split at w
  ·rename_i c' r;by_cases hz:c'=c/\mJ c n=true/\r.length<1000/\o2 n r=Z/\vk d=true/\(pI c n=false\/Hl d=true)
   ·rw[ag hz] at w;cases w;obtain⟨rfl,W,V,U,T,S⟩:=hz;refine⟨ρ,d,G,J.o,e2,λv H' B B2 _ sG hs' fB M=>?_⟩;obtain⟨q,b,rfl,rfl,oc⟩:=M.cont T;obtain⟨v0,l,B1,j,e3,eH,fm,ot,k1,k2,cl,_⟩:=hs'.own R hO (iA e1);obtain⟨C,p,a,g,h,rfl,rfl,a4,a5⟩:=ot.inst;have:=a4.uniq g1;subst this;have L:∀Q:HO,l++(((p,Q)::(a,HO.own p)::(h++[(q,b)]))++j)=l++(p,Q)::((a,HO.own p)::(h++[(q,b)])++j):=λQ=>by simp
    have u:((q,b)::(l++(((p,HO.ins C a g)::(a,HO.own p)::h)++j))).Perm (l++(((p,HO.ins C a g)::(a,HO.own p)::(h++[(q,b)]))++j)):=by
     have h1:l++(((p,HO.ins C a g)::(a,HO.own p)::(h++[(q,b)]))++j)=(l++((p,HO.ins C a g)::(a,HO.own p)::h))++((q,b)::j):=by simp
     have h2:(q,b)::(l++(((p,HO.ins C a g)::(a,HO.own p)::h)++j))=(q,b)::((l++((p,HO.ins C a g)::(a,HO.own p)::h))++j):=by simp
     rw[h1,h2];exact List.perm_middle.symm
    have P:pH (l++(((p,HO.ins C a g)::(a,HO.own p)::(h++[(q,b)]))++j)):=k1.append ((pH.ins (a5.mI.append (.one oc.Yq .nil))).append k2);have F:jQ B ((q,b)::(l++(((p,HO.ins C a g)::(a,HO.own p)::h)++j))):=by have:=fm.join (A:=[(q,b)]) (by rw[<-eH];exact fB);exact this
    have s:=F.perm u P;have I:eW H' [(q,b)]=eW B (l++(((p,HO.ins C a g)::(a,HO.own p)::(h++[(q,b)]))++j)):=by rw[<-hY F.nd u,eH];rfl
    rw[L] at I s;rw[I];refine⟨_,e3,p,C,a,g,rfl,fL s.nd (p,.ins C a g) (by simp),g2,g3,by rw[a5.len];exact V,?_⟩;have E:jv (kA O) X.K B (.dict ((.none,.str c')::p9 n d r)) (.ref p) ((p,.ins C a (lO n (.ref q) g))::(a,.own p)::(h++[(q,b)])):=.inr ⟨c',C,p,a,_,_,_,rfl,rfl,rfl,a4,a5.add W (oc.gen S) U⟩;rw[nu s.nd,<-L];exact k _ _ B sG ⟨cl B _ _ (.refl B) E (by rw[L];exact s.put (by rw[<-L];exact k1.append (E.mI.append k2))),J.z⟩
   ·rw[ai hz] at w;cases w
  ·cases w
noncomputable def Nj(i:Nat)(c:Int->Int->Int)(f:ee->Od):ee->Option gQ:=λρ=>(ρ[i]?).join.bind λx=>(f ρ).bind λd=>match x,d with
 |.int a,.int b=>Y (.nx (ρ.set i (Y (.int (c a b)))))
 |_,_=>Z
def xW(i:Nat) {a:Pos}{h:Operator}{o:Int->Int->Int} (B:X.N.Nodup) (s:Ug X h (UM o)) (A:PV X O e f) (n:i∉O:=by decide) (t:X.N[i]?=Y x:=by rfl) (r:IQ X.env.scope x:=by first|exact b7 rfl|exact bF rfl)
  (w:X.fn x=true\/X.env.scope.names.lookup x=Y .local:=by first|exact .inl rfl|exact .inr rfl|assumption):wt X m O (.AugAssign (.Name x a) h e pos) (Nj i o f) :=
 PS.imp (My B t r A s w) <| by
  rintro D σ H ⟨ρ,L,G,c,e,k⟩;obtain⟨y,J,C⟩:=bind_some e;obtain⟨d,I,g⟩:=bind_some C;obtain⟨j,rfl⟩:∃j,y=.int j:=by cases y<;>first|exact⟨_,rfl⟩|(cases d<;>cases g)
  obtain⟨l,rfl⟩:∃l,d=.int l:=by cases d<;>first|exact⟨_,rfl⟩|cases g
  cases g;obtain⟨v,F,E⟩:=c.o.lb i _ (iA J) n;refine⟨v,F,ρ,_,G,c.o,I,λu M K _ p b q=>⟨j,l,eI.eR.mp E,eI.eR.mp q,?_⟩⟩;exact k _ _ K p (k8.set ⟨b,c.z⟩ n (eI.eR.mpr rfl))
inductive Tg where
 |one (i:Nat)|many (is:List Nat)
def Tg.free(O:List Nat):Tg->Prop
 |.one i=>i∉O
 |.many is=>∀i∈is,i∉O
instance {O:List Nat}:(t:Tg)->Decidable (t.free O)
 |.one i=>inferInstanceAs (Decidable (i∉O))
 |.many is=>inferInstanceAs (Decidable (∀i∈is,i∉O))
noncomputable def CN:ee->List Nat->Lp->ee
 |ρ,i::is,d::ds=>CN (ρ.set i (Y d)) is ds
 |ρ,_,_=>ρ
noncomputable def Um:Tg->eA->ee->Option ee
 |.one i,d,ρ=>Y (ρ.set i (Y d))
 |.many is,.tuple ds,ρ=>if ds.length=is.length then Y (CN ρ is ds) else Z
 |_,_,_=>Z
noncomputable def xX:St->List Nat->List V->St
 |σ,i::is,v::vs=>xX (σ.set i (Y v)) is vs
 |σ,_,_=>σ
def gT(K:Fg):Tg->TG
 |.one i=>IX i
 |.many is=>λv σ H Q=>∃p a,v=.ref p/\pW K H p a/\a.length=is.length/\Q (xX σ is a) H
theorem k8.vm{K:Fg}{H G:Hp}:∀{is:List Nat}{σ:St}{ρ:ee}{b:Lp}{a:List V},k8 m O K σ ρ H G->(∀i∈is,i∉O)->dn K G b a->k8 m O K (xX σ is a) (CN ρ is b) H G
 |[],σ,ρ,b,a,h,_,_=>by cases b<;>cases a<;>exact h
 |i::is,σ,ρ,[],a,h,_,d=>by rw[dn.eP.mp d];exact h
 |i::is,σ,ρ,d::b,a,h,hi,ds'=>by obtain⟨v,r,rfl,e,c⟩:=dn.eE.mp ds';exact k8.vm (is:=is) (σ:=σ.set i (Y v)) (ρ:=ρ.set i (Y d)) (h.set (hi i (by simp)) e) (λj f=>hi j (ar _ f)) c
def k8.bind{ρ ρ':ee}{a:Tg}{Q:St->Hp->Prop}(h:k8 m O K σ ρ H G)(c:a.free O)(i:eI K G d v)(e:Um a d ρ=Y ρ')(k:∀σ',k8 m O K σ' ρ' H G->Q σ' H):gT K a v σ H Q:=by
 cases a with
 |one j=>cases e;exact k _ (h.set c i)
 |many is=>
  cases d<;>try (simp[Um] at e;done)
  rename_i n;dsimp only[Um] at e;by_cases b:n.length=is.length
  ·rw[ag b] at e;cases e;obtain⟨p,g,rfl,l,f⟩:=i.gI;exact⟨p,g,rfl,h.o.sub.rk l,by rw[<-f.length];exact b,k _ (h.vm c f)⟩
  ·rw[ai b] at e;cases e
def kJ(i:Nat)(d:X.N.Nodup)(b:X.N[i]?=Y x:=by rfl)(a:IQ X.env.scope x:=by first|exact b7 rfl|exact bF rfl)(c:X.fn x=true\/X.env.scope.names.lookup x=Y .local:=by first|exact .inl rfl|exact .inr rfl|assumption):PG X (.Name x pos) (gT X.K (.one i)):=tB d b a c
def lZ(i j:Nat) {y:Str}{b a:Pos}{h:Nat} (s:X.calm=true) (f:X.N.Nodup) (o:X.N[i]?=Y x:=by rfl) (n:X.N[j]?=Y y:=by rfl) (l:IQ X.env.scope x:=by first|exact b7 rfl|exact bF rfl) (k:IQ X.env.scope y:=by first|exact b7 rfl|exact bF rfl)
  (r:X.fn x=true\/X.env.scope.names.lookup x=Y .local:=by first|exact .inl rfl|exact .inr rfl|assumption) (d:X.fn y=true\/X.env.scope.names.lookup y=Y .local:=by first|exact .inl rfl|exact .inr rfl|assumption)
  (m:(assignEach [.Name x b,.Name y a] X.env).length=2:=by rfl) (c:(assignEach [.Name x b,.Name y a] X.env).findIdx? (·.1)=Z:=by rfl):PG X (.Tuple [.Name x b,.Name y a] h pos) (gT X.K (.many [i,j])) :=
 PG.imp (Mv s (yl (tB f o l r) (yl (tB f n k d) IY)) m c) <| by
  rintro v σ H Q ⟨p,e,u,t,g,q⟩;refine⟨p,e,u,t,g,?_⟩
  match e,g with
  |[v1,v2],_=>exact⟨v1,[v2],rfl,v2,[],rfl,rfl,q⟩
end
section
variable {m:Md}{a:Expr}{fb fc f:ee->Od}{p2:Pos}{st:Stmt}{rest:List Stmt}{g h:ee->Option gQ}{gc:ee->Option Bool}
def nK(K:Fg)(J:It)(e:Lp)(G:Hp):Prop :=
 ∀H',eN G H'->(J.stop e.length H')/\∀(i:Nat) (d:eA),e[i]?=Y d->J.go i H'/\∀x b,J.Kj i H' x b->eN H' b/\∀c,eN G c->(∀a,H' a=Z->c a=b a)->eI K c d x
def tOI(K:Fg)(q:ee->Option Lp):TI:=λσ G R=>∃ρ b,ju K G σ ρ/\q ρ=Y b/\∀J a,eN G a->nK K J b a->R J a
def S1(X:Cx)(b a:Expr)(q:ee->Option Lp):Prop:=PI X b a (tOI X.K q)
def Ql(h:PD X e f):S1 X tg e (oJ f) :=
 PI.imp (PI.or (Ck h) (Mz h)) <| by
  rintro σ H R ⟨ρ,C,u,e,k⟩;obtain⟨d,w,a⟩:=bind_some e;cases d<;>try (simp at a;done)
  ·cases a;refine .inl ⟨ρ,_,u,w,λv t m r=>?_⟩;obtain⟨p,b,rfl,a,j⟩:=eI.eZ.mp r;refine⟨p,rfl,⟨b,a⟩,k _ t m λA c=>⟨⟨b,c.seq a,by rw[j.length];exact ax _⟩,λi d q=>?_⟩⟩;obtain⟨x,g,s⟩:=j.get q;refine⟨⟨b,x,c.seq a,g⟩,?_⟩;rintro y z ⟨o,n⟩;have:=n b (c.seq a);rw[g] at this;cases this;subst o;exact⟨.refl _,λB l _=>s.same l⟩
  ·cases a;refine .inr ⟨ρ,_,u,w,λv t m r=>?_⟩;obtain⟨p,b,rfl,a,j⟩:=r.gI;refine⟨p,rfl,⟨b,a⟩,k _ t m λA c=>⟨⟨b,c.rk a,by rw[j.length];exact ax _⟩,λi d q=>?_⟩⟩;obtain⟨x,g,s⟩:=j.get q;refine⟨⟨b,x,c.rk a,g⟩,?_⟩;rintro y z ⟨o,n⟩;have:=n b (c.rk a);rw[g] at this;cases this;subst o;exact⟨.refl _,λB l _=>s.same l⟩
def CO(a:Int)(n:Nat)(G:Hp):nK K (UN a n) (oY a n) G:=λh f=>by
 refine⟨by show n<=(oY a n).length;simp[oY],λi d q=>?_⟩;have b:i<n:=by have:=(au.mp q).1;simpa [oY] using this
 refine⟨b,?_⟩;rintro x g ⟨e,c⟩;have:d=.int (a+(i:Nat)):=by unfold oY at q;rw[az,eh b] at q;cases q;rfl
 subst this c e;exact⟨.refl _,λj _ _=>eI.eR.mpr rfl⟩
def yM(n:Gl X "range")(m:X.mg "range"=Z)(h:PD X e f)(b:starEach [e] X.env=[(false,eval e X.env)]:=by rfl):S1 X tg (.Call (.Name "range" p) [e] [] pos) (j5 f) :=
 PI.imp (Be n m (mX h qm (by rw[b];rfl)) b) <| by
  rintro σ H R ⟨ρ,q,b,e,k⟩;obtain⟨d,o,a⟩:=bind_some e;cases d<;>try (simp at a;done)
  rename_i j;dsimp only at a;by_cases c:-(2 ^ 62)<=j/\j<2 ^ 62
  ·rw[ag c] at a;cases a;exact⟨ρ,_,b,o,λv g i l=>⟨j,by rw[eI.eR.mp l],c.1,c.2,k _ g i (CO 0 _ g)⟩⟩
  ·rw[ai c] at a;cases a
def Z2(X:Cx)(O:List Nat)(e a:Expr)(q:ee->Option Lp):Prop:=PI X e a (λσ H R=>∃ρ d G,hZ O X.K σ ρ H G/\q ρ=Y d/\∀J b c,eN H b->eN G c->hZ O X.K σ ρ b c->nK X.K J d c->R J b)
def Qm(O:List Nat)(q:ee->Option Lp):ee->Option Lp:=λρ=>q (kU O ρ)
def qy{a:Expr}(h:S1 X tg a q):Z2 X O tg a (Qm O q) :=
 PI.imp (PI.frame h) <| by rintro σ H R ⟨ρ,j,G,b,i,k⟩;obtain⟨B,g,f,d⟩:=b.ex;refine⟨G,B,g,f,kU O ρ,j,b.rest,i,λJ l c w e=>?_⟩;subst g;exact k J _ l (sv f.nd c) c (hZ.CL b.len d b.lb c e) w
def tS(q:ee->Option Lp)(a:Tg)(g:ee->Option gQ):ee->Option gQ:=λρ=>(q ρ).bind λb=>KC (Um a) g b ρ
def oq{a:Expr}{t:Tg} (hp:PassesOwn (model X.prog X.w) X.A X.env X.xe) (hc:X.calm=true) (Q:Z2 X O tg a q) (hg:PG X tg (gT X.K t)) (hO:t.free O) (hb:rn X m O body g)
  (s:∀x,foldedSetIterable a X.env x=pure x:=by intro _;rfl):wt X m O (.For tg a body [] pos) (tS q t g) :=
 PS.imp (Cm hp hc Q hg hb s) <| by
  rintro D σ H ⟨ρ,o,G0,s,e,k⟩;obtain⟨b,e1,e2⟩:=bind_some e;refine⟨ρ,b,G0,s.o,e1,λJ H1 L _ E h1 w=>?_⟩;refine⟨λi P σ' v=>P=b.length - i/\i<=b.length/\∃ρ' C,eN L C/\k8 m O X.K σ' ρ' v C/\KC (Um t) g (b.drop i) ρ'=Y o,⟨b.length,by simp,bH _,ρ,L,.refl _,⟨h1,s.z⟩,by simpa using e2⟩,?_⟩;rintro i P σ' v ⟨rfl,Q,ρ',C,r,f,n⟩;obtain⟨W,V⟩:=w v (r.trans f.o.sub);by_cases h:i<b.length
  ·right;have hd:b[i]?=Y b[i]:=aL h;obtain⟨U,T⟩:=V i _ hd;rw[bD h] at n;unfold KC at n;obtain⟨N,e4,u⟩:=bind_some n;obtain⟨ρ1,e6,e7⟩:=bind_some e4;refine⟨U,λσ3 R=>∃ρ3 B,eN L B/\k8 m O X.K σ3 ρ3 R B/\KC (Um t) g (b.drop (i+1)) ρ3=Y o,by rintro σ3 R ⟨ρ3,B,s3,h3,G⟩;exact⟨b.length - (i+1),by omega,rfl,h,ρ3,B,s3,h3,G⟩,λx H2 y=>?_⟩;obtain⟨r1,r2⟩:=T x H2 y;obtain⟨S,M,g2,F⟩:=f.o.grow r1;have i4:=r2 S (r.trans M) g2;refine k8.bind (m:=m) ⟨F,f.z⟩ hO i4 e6 λσ5 h5=>⟨ρ1,N,S,h5,e7,?_⟩
   have c:=r.trans M;cases N with
   |nx ρ3=>exact λσ6 I p j l=>⟨ρ3,p,c.trans j,l,u⟩
   |ct ρ3=>exact λσ6 I p j l=>⟨ρ3,p,c.trans j,l,u⟩
   |bk ρ3=>cases u;exact λσ6 I p j l=>k σ6 I p (E.trans (c.trans j)) l
   |rt d=>cases u;exact Rx.later (E.trans c) k
  ·have G:i=b.length:=by omega
   subst G;rw[dA] at n;cases n;exact .inl ⟨W,k σ' v C (E.trans r) f⟩
noncomputable def vn(c:ee->Option Bool)(g:ee->Option gQ):Nat->ee->Option gQ
 |0,_=>Z
 |n+1,ρ=>(c ρ).bind λb=>if b=true then (g ρ).bind λo=>match o with
  |.nx ρ'=>vn c g n ρ'
  |.ct ρ'=>vn c g n ρ'
  |.bk ρ'=>Y (.nx ρ')
  |.rt d=>Y (.rt d)
  else Y (.nx ρ)
def Jo:Nat:=1000000
def Hr(c:ee->Option Bool)(g:ee->Option gQ):ee->Option gQ:=λρ=>vn c g Jo ρ
def Bw(L:PassesOwn (model X.prog X.w) X.A X.env X.xe)(M:Bo X c gc)(N:rn X m O body g):wt X m O (.While c body [] pos) (Hr gc g) :=
 PS.imp (Eo L M N) <| by
  rintro D σ H ⟨ρ,o,v,J,e,k⟩;refine⟨λn σ' E=>∃ρ' x,eN v x/\k8 m O X.K σ' ρ' E x/\vn gc g n ρ'=Y o,⟨Jo,ρ,v,.refl _,J,e⟩,?_⟩;rintro n σ' E ⟨ρ',x,y,f,t⟩;cases n with
  |zero=>cases t
  |succ n=>
   unfold vn at t;obtain⟨b,Q,s⟩:=bind_some t;refine⟨ρ',b,f.o.full,Q,λR I=>?_⟩;obtain⟨G,h,_,j⟩:=f.o.grow I;cases b with
   |false=>rw[ai aC] at s ⊢;cases s;exact k σ' R G (y.trans h) ⟨j,f.z⟩
   |true=>
    rw[ag rfl] at s ⊢;obtain⟨B,P,r⟩:=bind_some s;refine⟨λσ3 C=>∃ρ3 F,eN v F/\k8 m O X.K σ3 ρ3 C F/\vn gc g n ρ3=Y o,λσ3 C q=>⟨n,cO n,q⟩,ρ',B,G,⟨j,f.z⟩,P,?_⟩;have a:=y.trans h;cases B with
    |nx ρ3=>exact λσ6 u p i l=>⟨ρ3,p,a.trans i,l,r⟩
    |ct ρ3=>exact λσ6 u p i l=>⟨ρ3,p,a.trans i,l,r⟩
    |bk ρ3=>cases r;exact λσ6 u p i l=>k σ6 u p (a.trans i) l
    |rt d=>cases r;exact Rx.later a k
def Nk(h:Bool)(K:Fg)(n:Nat)(f:Lp->Option (eA×eA)):Sp:=λvs H Q _=>∃e a i ds d b G B,vs=e::a/\H=eW G B/\jQ G B/\jv h K G i e B/\dn K G ds a/\ds.length+1=n/\f (i::ds)=Y (d,b) /\
 ∀v c g,eN G c->jQ c g->jv h K c b e g->eI K c d v->Q v (eW c g)
abbrev VC(K:W.Frag)(n:Nat)(f:List eA->Option (eA×eA)):Sp:=Nk false K n f
noncomputable def qz(N:Lr)(g:ee->Option gQ):Lp->Option (eA×eA):=λds=>(g (iY N ds)).bind λo=>match o with
 |.rt (.tuple [d,a])=>Y (d,a)
 |.nx ρ=>(ρ[0]?).join.map λa=>(.none,a)
 |_=>Z
noncomputable def ou(f:ee->Od):ee->Option gQ:=λρ=>(Uk f ρ).bind λd=>(ρ[0]?).join.map λa=>.rt (.tuple [d,a])
def k8.out{i:V}{ρ:ee}{r:eA}(j:O.Nodup)(m:k8 (.io dp i) O K σ ρ H G)(e:(ρ[0]?).join=Y r):∃c B,eN G c/\H=eW c B/\jQ c B/\jv dp K c r i B:=by
 obtain⟨u,t,s⟩:=m.z dp i rfl;obtain⟨v,g,h,d,q,w,f,b,l,k,_,_⟩:=m.o.own j u (iA e);rw[s] at b;rw[t] at q;cases q;have a:(g++(h++d)).Perm (h++(g++d)):=by rw[<-aN,<-aN];exact dh _ bo
 have p:jQ G (h++(g++d)):=f.perm a (b.mI.append (l.append k));have n:=p.KJ (l.append k);exact⟨eW G (g++d),h,n.same,by rw[w,hY f.nd a,jf],p.KI b.mI,b.same n.same⟩
def jg{g:V}(a:O.Nodup)(h:PD X e f):wt X (.io dp g) O (.Return (Y e) pos) (ou f) :=
 PS.imp (ve h) <| by rintro D σ H ⟨ρ,o,G,c,e,k⟩;obtain⟨d,A,y⟩:=bind_some e;obtain⟨F,w,rfl⟩:=aa.mp y;obtain⟨u,t⟩:=EN A;refine⟨ρ,d,c.o.full,u,λv I m i=>?_⟩;obtain⟨J,j,_,b⟩:=c.o.grow m;obtain⟨E,B,l,s,q,n⟩:=k8.out (σ:=σ) (ρ:=ρ) a ⟨b,c.z⟩ w;obtain⟨x,C,r,p⟩:=k;cases r;rw[s];exact p v E B (j.trans l) q n (i.jG t)
noncomputable def Nl:ee->Option gQ:=λρ=>(ρ[0]?).join.map λa=>.rt (.tuple [.none,a])
def KQ{b:V}(a:O.Nodup):wt X (.io dp b) O (.Return Z pos) Nl :=
 PS.imp IW <| by rintro D σ H ⟨ρ,o,G,g,e,k⟩;obtain⟨p,l,rfl⟩:=aa.mp e;obtain⟨n,B,c,j,h,d⟩:=k8.out a g l;obtain⟨x,m,i,f⟩:=k;cases i;rw[j];exact f .lb n B c h d (eI.gP.mpr rfl)
theorem Ry{P:Program}{m:Heap}{b:Str}{R:Addr}{N T:Lr}{k n:Nat} (F:Je K x b st R fd) (S:il N T (fg st)) (hn:n=T.length) (h1:n≠0) (X:(0::O).Nodup) (hO:∀i∈O,n<=i)
  (r:∀(v0:V) (pX:Value) (A:Around) (outer:List Env) (s:Shared) (H:Hp) (E:XK),iz k (A.deeper (envOfC b (fg st) (zB s) R pX)) ->
   rn (vh vb P w K mg m N b (fg st) R pX A outer s H E).Mr (.io (kA (0::O)) v0) (0::O) (i9 st) g):kR P w K mg m vb (k+1) R fd T (Nk (kA (0::O)) K n (qz N g)):=by
 refine F.ok S (by rintro vs H Q E ⟨v0,a,f,ds,d,J,G,B,I,_,_,_,i,l,_⟩;rw[I,<-hn,<-l,aV,<-i.length]) ?_;rintro pX A outer s H vs Q E hr ⟨v0,a,f,ds,d,J,G,B,I,eH,M,ot,i,l,e,k⟩;refine⟨_,r v0 pX A outer s H E hr,?_⟩;subst I eH;obtain⟨o,I,t⟩:=bind_some e;have p:dn K (eW G B) (f::ds) (v0::a):=dn.cons (ot.Mc M.same λx hx=>fL M.nd x hx) (i.same M.same);have hd:=pG (N:=N) p;have D:(iY N (f::ds))[0]?=Y (Y f):=rfl;have c:∀j∈O,((iY N (f::ds))[j]?).join=Z:=λj hj=>by
  have:¬ j<(f::ds).length:=by have:=hO j hj;rw[aV];omega
  unfold iY;rw[aI (by simpa using this),bB];split<;>rfl
 have U:∀L:List Nat,(∀j∈L,j∈O)->ig (kA (0::O)) K (lg N (v0::a)) (iY N (f::ds)) G L []:=by
  intro L;induction L with
  |nil=>intro _;rfl
  |cons j L ih=>exact λh=>.inl ⟨c j (h j (by simp)),ih λi hi=>h i (ar _ hi)⟩
 obtain⟨u0,hu0,aac⟩:=hd.2 0 f D;have v:(lg N (v0::a))[0]?=Y (Y v0):=rfl;refine⟨iY N (f::ds),o,G,⟨⟨hd.1,⟨B,rfl,M,.inr ⟨f,v0,B,[],D,v,by simp,ot,U O λ_ h=>h⟩⟩,λj dj q hj=>?_⟩,λdp1 v1 z=>⟨by simp,by cases z;exact v,by cases z;rfl⟩⟩,I,?_⟩
 ·
  have hj0:j≠0:=λz=>hj (by rw[z];simp);have hd2:=pG (K:=K) (H:=G) (N:=N) (vs:=v0::a) (ds:=.none::ds);have hh:dn K G ds a:=i;cases j with
  |zero=>exact absurd rfl hj0
  |succ j=>
   by_cases C:j<ds.length
   ·have q':ds[j]?=Y dj:=by
     unfold iY at q;rw[aB,cR,c6,aE (by simpa using C),az] at q;cases z:ds[j]? with
     |none=>rw[z] at q;cases q
     |some y=>rw[z] at q;cases q;rfl
    obtain⟨u,a1,a2⟩:=hh.get q';refine⟨u,?_,a2⟩;have Vw:j<a.length:=(au.mp a1).1;unfold lg;rw[aB,cR,c6,aE (by simpa using Vw),az,a1];rfl
   ·unfold iY at q;rw[aB,cR,c6,aI (by simpa using C),bB] at q;split at q<;>cases q
 ·cases o with
  |rt x=>
   split at t
   ·rename_i d1 d2 he;cases he;cases t;exact⟨d,J,rfl,k⟩
   ·rename_i ρ he;cases he
   ·cases t
  |nx ρ'=>obtain⟨d1,e3,e4⟩:=aa.mp t;cases e4;intro σ H' G' sG hs;obtain⟨G2,B2,s2,eH,fm2,W⟩:=k8.out X hs e3;rw[eH];exact k .lb G2 B2 (sG.trans s2) fm2 W (eI.gP.mpr rfl)
  |bk _=>cases t
  |ct _=>cases t
theorem Nm{P:Program}{c:Heap}{a:Str}{r:Addr}{N u:Lr}{k n:Nat} (F:Je K x a st r fd) (S:il N u (fg st)) (G:n=u.length) (L:∀i∈O,n<=i)
  (f:∀(pX:Value) (A:Around) (outer:List Env) (s:Shared) (H:Hp) (E:XK),iz k (A.deeper (envOfC a (fg st) (zB s) r pX)) ->
   rn (vh vb P w K mg c N a (fg st) r pX A outer s H E).Mr .dat O (i9 st) g):kR P w K mg c vb (k+1) r fd u (Rr K n (iQ N g)):=by
 refine F.ok S (by rintro vs H Q E ⟨m,d,i,l,_⟩;rw[<-i.length,l,G]) ?_;rintro pX A outer s H vs Q E D ⟨m,d,i,l,e,k⟩;refine⟨_,f pX A outer s H E D,?_⟩;obtain⟨o,R,t⟩:=bind_some e;have y:=pG (N:=N) i;have b:∀i∈O,((iY N m)[i]?).join=Z:=λj I=>by
  have:¬ j<m.length:=by have:=L j I;omega
  unfold iY;rw[aI (by simpa using this),bB];split<;>rfl
 have v:∀p:List Nat,(∀i∈p,i∈O)->ig (kA O) K (lg N vs) (iY N m) H p []:=by
  intro p;induction p with
  |nil=>intro _;rfl
  |cons j p C=>exact λh=>.inl ⟨b j (h j (by simp)),C λi J=>h i (ar _ J)⟩
 refine⟨iY N m,o,H,⟨⟨y.1,⟨[],rfl,jQ.nil,v O λ_ h=>h⟩,λi d q _=>y.2 i d q⟩,λU v0 z=>nomatch z⟩,R,?_⟩;cases o with
 |rt V=>cases t;exact k
 |nx ρ'=>cases t;exact λσ T W B M=>k .lb T (B.trans M.o.sub) (eI.gP.mpr rfl)
 |bk _=>cases t
 |ct _=>cases t
def Ys(K:Fg)(n:Nat)(f:Lp->Od):Sp:=λb H Q _=>∃a d,dn K H a b/\a.length=n/\f a=Y d/\KO K H d Q
noncomputable def Hs(N:Lr)(g:ee->Option gQ):Lp->Od:=λa=>(g (iY N a)).bind λo=>match o with
 |.rt d=>Y d
 |_=>Z
theorem Nn{P:Program}{c:Heap}{a:Str}{r:Addr}{N u:Lr}{k n:Nat} (F:Je K x a st r fd) (S:il N u (fg st)) (D:n=u.length) (J:∀i∈O,n<=i)
  (f:∀(pX:Value) (A:Around) (outer:List Env) (s:Shared) (H:Hp) (E:XK),iz k (A.deeper (envOfC a (fg st) (zB s) r pX)) ->
   rn (vh vb P w K mg c N a (fg st) r pX A outer s H E).Mr .own O (i9 st) g):kR P w K mg c vb (k+1) r fd u (Ys K n (Hs N g)):=by
 refine F.ok S (by rintro vs H Q E ⟨m,d,i,l,_⟩;rw[<-i.length,l,D]) ?_;rintro pX A outer s H vs Q E C ⟨m,d,i,l,e,k⟩;refine⟨_,f pX A outer s H E C,?_⟩;obtain⟨o,L,t⟩:=bind_some e;have y:=pG (N:=N) i;have b:∀i∈O,((iY N m)[i]?).join=Z:=λj G=>by
  have:¬ j<m.length:=by have:=J j G;omega
  unfold iY;rw[aI (by simpa using this),bB];split<;>rfl
 have v:∀p:List Nat,(∀i∈p,i∈O)->ig (kA O) K (lg N vs) (iY N m) H p []:=by
  intro p;induction p with
  |nil=>intro _;rfl
  |cons j p B=>exact λh=>.inl ⟨b j (h j (by simp)),B λi I=>h i (ar _ I)⟩
 refine⟨iY N m,o,H,⟨⟨y.1,⟨[],rfl,jQ.nil,v O λ_ h=>h⟩,λi d q _=>y.2 i d q⟩,λM v0 z=>nomatch z⟩,L,?_⟩;cases o with
 |rt R=>cases t;exact k
 |nx _=>cases t
 |bk _=>cases t
 |ct _=>cases t
end
structure vo (P:Program) (w:World) (K:Fg) (mg:Str->Ow) (base:Heap) (x:Str) (k n:Nat) (f:Lp->Od):Prop where
 ex:∃a fd ps,kR P w K mg base vb k a fd ps (Ys K n f)/\mg x=Y (.ref a)/\W.keepIn K (.ref a)=true/\kr K fd ps []
structure Ht (dp:Bool) (P:Program) (w:World) (K:Fg) (mg:Str->Ow) (base:Heap) (x:Str) (k n:Nat) (f:Lp->Option (eA×eA)):Prop where
 ex:∃a fd ps,kR P w K mg base vb k a fd ps (Nk dp K n f)/\mg x=Y (.ref a)/\W.keepIn K (.ref a)=true/\kr K fd ps []
abbrev ES:=Ht false
structure vp (P:Program) (w:World) (K:Fg) (mg:Str->Ow) (base:Heap) (c:Str) (k n:Nat) (f:Lp->Option (eA×eA)):Prop where
 ex:∃C a fd ps,jB K c C/\mg c=Y (.ref C)/\Mk K C a/\kR P w K mg base vb k a fd ps (VC K n f)/\kr K fd ps []
structure jb (P:Program) (w:World) (K:Fg) (mg:Str->Ow) (base:Heap) (c m:Str) (k n:Nat) (f:Lp->Od):Prop where
 ex:∃C a fd ps,jB K c C/\GQ K C/\GR K C m a/\kR P w K mg base vb k a fd ps (Rr K n f)/\kr K fd ps []
section
variable {m:Md}{a o:Expr}{fb fc f:ee->Od}{p2:Pos}{st:Stmt}{rest:List Stmt}{g h:ee->Option gQ}{ga gc:ee->Option Bool}{k n:Nat}
def KO.kd{Q:VK}(h:KD K H d Q):KO K H d Q:=λv e f s a b=>h v _ (s.trans a.same) (b.Mc a.same λx c=>fL a.nd x c)
def PF.pd(h:PF X e f):PD X e f:=PE.imp h <| by rintro σ H Q ⟨ρ,d,a,e,k⟩;exact⟨ρ,d,a,e,KO.kd k⟩
def CP{F:Lp->Od} (N:vo X.prog X.w X.K X.mg X.base x j n F) (s:iz k X.A) (u:Gl X x) (y:Bp X (e::es) ff) (t:j<=k:=by decide) (h:zg x:=by decide)
  (v:zE e es X:=by rfl) (f:(backTo pos (starEach es X.env)).any (·.1)=false:=by rfl):PF X (.Call (.Name x p) (e::es) [] pos) (k0 n F ff):=by
 obtain⟨a,E,D,B,m,o,b⟩:=N.ex;refine PE.imp (xT (B.mono t) s u m o b .nil nC y h v f) ?_;rintro σ H Q ⟨ρ,d,r,e,k⟩;obtain⟨i,z,c⟩:=bind_some e;by_cases g:i.length=n
 ·rw[ag g] at c;exact⟨ρ,i,r,z,λC G l q=>⟨i,d,by rw[aR];exact q,g,c,k.later l⟩⟩
 ·rw[ai g] at c;cases c
def KO.yC{Q:VK}(k:KO K H (.list ds) Q)(e:dn K H ds vs):∀p,H p=Z->Q (.ref p) (upd H p (.lst vs)):=λp h=>
 k (.ref p) H [(p,.lst vs)] (.refl H) ⟨by simp,(λx a=>by simp at a;subst a;exact h),.one aP .nil⟩ (jv.Vy (.inl ⟨_,vs,rfl,rfl,e⟩))
noncomputable def xY(f:ee->Od)(l h:FO):ee->Od:=λρ=>(f ρ).bind λx=>(l ρ).bind λa=>(h ρ).bind λb=>match x with | .list xs=>Y (.list (He xs a b))|_=>Z
def yN{n o:Option Expr}{l h:FO}(z:PD X e f)(y:Ui X n l)(w:Ui X o h):PF X (.Subscript e (.Slice n o Z p2) pos) (xY f l h) :=
 PE.imp (Ew Jd z y w) <| by
  rintro σ H Q ⟨ρ,d,i,e,k⟩;obtain⟨x,E,D⟩:=bind_some e;obtain⟨a,C,B⟩:=bind_some D;obtain⟨b,A,q⟩:=bind_some B;obtain⟨j,rfl⟩:∃j,x=.list j:=by cases x<;>first|exact⟨_,rfl⟩|cases q
  cases q;refine⟨ρ,_,i,E,λv I g u=>⟨ρ,a,i.same g,C,λG c=>⟨ρ,b,i.same (g.trans c),A,λF m=>?_⟩⟩⟩;obtain⟨p,r,rfl,t,s⟩:=eI.eZ.mp (u.same (c.trans m));exact⟨p,r,rfl,t,(k.later (g.trans (c.trans m))).yC (s.cut a b)⟩
def Qn:jc X (.type "list") (λxs H Q=>∃a c,dn X.K H a xs/\Jj a=Y c/\KO X.K H c Q):=by
 refine jc.imp tI ?_;rintro xs H Q ⟨a,c,i,e,k⟩
 match a,e with
 |[.list ys],e=>cases e;obtain⟨v,rfl,d⟩:=iD i;obtain⟨p,b,rfl,g,f⟩:=eI.eZ.mp d;exact⟨p,b,rfl,.inl g,k.yC f⟩
 |[.tuple ys],e=>cases e;obtain⟨v,rfl,d⟩:=iD i;obtain⟨p,b,rfl,g,f⟩:=d.gI;exact⟨p,b,rfl,.inr g,k.yC f⟩
noncomputable def Bx(c:Str)(n:Nat)(F:Lp->Option (eA×eA))(b:ee->Option Lp):ee->Od:=λρ=>(b ρ).bind λa=>if a.length+1=n then (F (.dict [(.none,.str c)]::a)).bind λr=>match r with|(.none,d)=>Y d|_=>Z else Z
def Jp{c:Str}{C:Addr}(t:jB K c C){Q:VK}{E:XK}(p:dn K H ds vs)(s:ds.length+1=n)(A:(F (.dict [(.none,.str c)]::ds)).bind (λr=>match r with|(.none,d)=>Y d|_=>Z)=Y d)(k:KO K H d Q):
  ∀x a,H x=Z->H a=Z->a≠x->VC K n F (.ref x::(vs++[])) (upd (upd H a (.own x)) x (.ins C a [])) (λv H2=>v=.lb/\Q (.ref x) H2) E:=by
 intro x a q g f;obtain⟨r,z,j⟩:=bind_some A;obtain⟨i,h⟩:=r;have w:i=.none/\h=d:=by cases i<;>first|(cases j;exact⟨rfl,rfl⟩)|cases j
 obtain⟨rfl,rfl⟩:=w;refine⟨.ref x,vs++[],.dict [(.none,.str c)],ds,.none,h,H,[(x,.ins C a []),(a,.own x)],rfl,rfl,⟨?_,λy b=>?_,.ins .nil⟩,.inr ⟨c,C,x,a,[],[],[],rfl,rfl,rfl,t,rfl,rfl⟩,by rw[aR];exact p,s,z,λv B D l u m o=>⟨eI.gP.mp o,k _ B D l u m⟩⟩
 ·simp[Ne.symm f]
 ·rcases av.mp b with e|b
  ·rw[e];exact q
  ·have:y=(a,HO.own x):=by simpa using b
   rw[this];exact g
def CQ{c:Str} (N:vp X.prog X.w X.K X.mg X.base c j n F) (s:iz (k+1) X.A) (u:Gl X c) (x:Bp X (e::es) ff) (t:j<=k:=by decide) (i:zg c:=by decide)
  (v:zE e es X:=by rfl) (g:(backTo pos (starEach es X.env)).any (·.1)=false:=by rfl):PF X (.Call (.Name c p) (e::es) [] pos) (Bx c n F ff):=by
 obtain⟨C,a,G,E,y,o,M,B,b⟩:=N.ex;refine PE.imp (Ct M (B.mono t) s u o b .nil nC x i v g) ?_;rintro σ H Q ⟨ρ,d,r,e,k⟩;obtain⟨l,z,f⟩:=bind_some e;by_cases h:l.length+1=n
 ·rw[ag h] at f;exact⟨ρ,l,r,z,λD I m q=>Jp y q h f (k.later m)⟩
 ·rw[ai h] at f;cases f
def Np{c:Str}(N:vp X.prog X.w X.K X.mg X.base c j n F)(l:iz (k+1) X.A)(o:Gl X c)(m:j<=k:=by decide)(h:zg c:=by decide):PF X (.Call (.Name c p) [] [] pos) (Bx c n F f9):=by
 obtain⟨C,a,v,t,q,i,M,s,b⟩:=N.ex;refine PE.imp (MJ M (s.mono m) l o i b .nil nC h) ?_;rintro σ H Q ⟨ρ,d,u,e,k⟩;obtain⟨x,r,f⟩:=bind_some e;cases r;by_cases g:([]:Lp).length+1=n
 ·rw[ag g] at f;exact Jp q dn.nil g f k
 ·rw[ai g] at f;cases f
noncomputable def vq(c a:Str)(d:eA):Bool:=match d with
 |.dict ((.none,.str b)::r)=>decide (b=c)&&(o2 a r).isNone
 |_=>false
noncomputable def fV(c b:Str)(n:Nat)(F:Lp->Od)(f:ee->Od)(e:ee->Option Lp):ee->Od:=λρ=>(f ρ).bind λd=>if vq c b d=true then (e ρ).bind λa=>if a.length+1=n then F (d::a) else Z else Z
def yO{c e:Str}(h:vq c e d=true)(i:eI K H d v):∃p C b a,v=.ref p/\jB K c C/\H p=Y (.ins C b a)/\a.lookup e=Z:=by
 unfold vq at h;split at h
 ·rename_i m r;simp only[bR,dS,dP] at h;obtain⟨rfl,f⟩:=h;obtain⟨p,C,b,a,l,k,j,g⟩:=i.Hh;exact⟨p,C,b,a,l,k,j,g.none f⟩
 ·cases h
def f7{t c:Str}{F:Lp->Od}{pl:Sem Bool} (N:jb X.prog X.w X.K X.mg X.base t c j n F) (I:PD X o f) (G:iz k X.A) (M:Bp X (e::es) ff) (L:j<=k:=by decide)
  (l:zE e es X:=by rfl) (m:(backTo pos (starEach es X.env)).any (·.1)=false:=by rfl)
  (E:eval (.Call (.Attribute o c apos) (e::es) [] pos) X.env=(do
   let ov <-eval o X.env
   standAt apos.atName
   let (f,first) <-holding [ov] (getMethod ov c pl)
   callWith pos f first (backTo pos (starEach (e::es) X.env)) (backToKw pos (keywordEach [] X.env))):=by rfl):PD X (.Call (.Attribute o c apos) (e::es) [] pos) (fV t c n F f ff):=by
 obtain⟨C,a,fd,ps,O,r,J,Fn,b⟩:=N.ex;refine PE.imp (Cs (pl:=pl) I r J (Fn.mono L) G b .nil nC M l m E) ?_;rintro σ H Q ⟨ρ,d,B,e,k⟩;obtain⟨x,V,h⟩:=bind_some e;by_cases i:vq t c x=true
 ·rw[ag i] at h;obtain⟨s,U,g⟩:=bind_some h;by_cases q:s.length+1=n
  ·rw[ag q] at g;refine⟨ρ,x,B,V,λv H1 y z=>?_⟩;obtain⟨p,C',W,T,rfl,S,R,P⟩:=yO i z;have:=S.uniq O;subst this;exact⟨p,W,T,rfl,R,P,ρ,s,B.same y,U,λvs H2 u D=>⟨x::s,d,by rw[aR];exact dn.cons (z.same u) D,by simpa using q,g,k.later (y.trans u)⟩⟩
  ·rw[ai q] at g;cases g
 ·rw[ai i] at h;cases h
def mz{q c:Str}{F:Lp->Od}{pl:Sem Bool} (N:jb X.prog X.w X.K X.mg X.base q c j n F) (z:PD X o f) (y:iz k X.A) (D:j<=k:=by decide)
  (t:eval (.Call (.Attribute o c apos) [] [] pos) X.env=(do
   let ov <-eval o X.env
   standAt apos.atName
   let (f,first) <-holding [ov] (getMethod ov c pl)
   callWith pos f first (backTo pos (starEach [] X.env)) (backToKw pos (keywordEach [] X.env))):=by rfl):PD X (.Call (.Attribute o c apos) [] [] pos) (fV q c n F f f9):=by
 obtain⟨C,a,T,S,E,m,B,R,b⟩:=N.ex;refine PE.imp (Er (pl:=pl) z m B (R.mono D) y b .nil nC t) ?_;rintro σ H Q ⟨ρ,d,u,e,k⟩;obtain⟨x,O,h⟩:=bind_some e;by_cases i:vq q c x=true
 ·rw[ag i] at h;obtain⟨U,M,g⟩:=bind_some h;cases M;by_cases l:([]:Lp).length+1=n
  ·rw[ag l] at g;refine⟨ρ,x,u,O,λv V s r=>?_⟩;obtain⟨p,W,P,L,rfl,J,I,G⟩:=yO i r;have:=J.uniq E;subst this;exact⟨p,P,L,rfl,I,G,[x],d,dn.cons r dn.nil,by simpa using l,g,k.later s⟩
  ·rw[ai l] at g;cases g
 ·rw[ai i] at h;cases h
def PX(X:Cx)(O:List Nat)(e:Expr)(h:ee->Option (eA×ee)):Prop:=PE X e (λσ H Q=>∃ρ d ρ' G,hZ O X.K σ ρ H G/\h ρ=Y (d,ρ')/\∀v a b,eN G b->hZ O X.K σ ρ' a b->(∀F,eI X.K F d v)->Q v a)
noncomputable def By(O:List Nat)(i n:Nat)(F:Lp->Option (eA×eA))(b:ee->Option Lp):ee->Option (eA×ee):=λρ=>(ρ[i]?).join.bind λc=>(b (kU O ρ)).bind λa=>if a.length+1=n then (F (c::a)).bind λr=>if qw r.1=true then Y (r.1,ρ.set i (Y r.2)) else Z else Z
def tT(i:Nat) {y:Str}{T:Pos} (N:Ht dp X.prog X.w X.K X.mg X.base x j n F) (C:O.Nodup) (hr:iz k X.A) (hg:Gl X x) (ha:Bp X es ff) (hO:i∈O:=by decide) (hj:j<=k:=by decide) (L:kA O=dp:=by rfl)
  (hN:X.N[i]?=Y y:=by rfl) (hv:Ma X.env.scope y:=by first|exact b7 rfl|exact bF (b7 rfl)|exact bF (bF rfl)) (hd:zg y:=by decide) (P:(y==("__classdict__":Str))=false:=by decide) (M:zg x:=by decide)
  (he:starEach (.Name y T::es) X.env=(false,eval (.Name y T) X.env)::starEach es X.env:=by rfl) (I:(backTo pos (starEach es X.env)).any (·.1)=false:=by rfl):PX X O (.Call (.Name x p) (.Name y T::es) [] pos) (By O i n F ff):=by
 obtain⟨a,fd,ps,Fn,mm,kp,b⟩:=N.ex;refine PE.imp (PE.frame (xT (Fn.mono hj) hr hg mm kp b .nil nC (mX (qi hN hv hd P) (PA.frame ha) he) M he I)) ?_;rintro σ H Q ⟨ρ,d,ρ',G,hs,e,k⟩;obtain⟨d0,e1,e2⟩:=bind_some e;obtain⟨V,e3,B⟩:=bind_some e2;by_cases J:V.length+1=n
 ·rw[ag J] at B;obtain⟨r,e5,z⟩:=bind_some B;obtain⟨r1,r2⟩:=r;by_cases l:qw r1=true
  ·rw[ag l] at z;cases z;obtain⟨W,g,q,f,e7,eH,fm,u,E,D,cl,_⟩:=hs.own C hO (iA e1);rw[L] at u cl;have h:(g++(q++f)).Perm ((g++f)++q):=by
    rw[aN];exact cF _ bo
   have f2:jQ G ((g++f)++q):=fm.perm h ((E.append D).append u.mI);have S:=f2.KJ u.mI;refine⟨eW G q,g++f,by rw[eH,hY fm.nd h,jf],f2.KI (E.append D),W,e7,G,q,rfl,S,kU O ρ,V,hs.rest,e3,λvs G1 s1 i1 t=>?_⟩;refine⟨W,vs++[],d0,V,r1,r2,G1,q,rfl,rfl,t,u.same s1,by rw[aR];exact i1,J,e5,λv m o s2 R s iv fR=>?_⟩;have sG:eN G m:=s1.trans s2;have f3:jQ m ((g++f)++o):=R.join fR;have c:((g++f)++o).Perm (g++(o++f)):=by rw[aN];exact cF _ bo
   have f4:jQ m (g++(o++f)):=f3.perm c (E.append (s.mI.append D));have U:eW (eW m o) (g++f)=eW m (g++(o++f)):=by rw[<-jf,hY f3.nd c]
   rw[U];exact k v _ m sG (cl m r2 o sG s f4) λF=>iv.jG l
  ·rw[ai l] at z;cases z
 ·rw[ai J] at B;cases B
noncomputable def Nq(h:ee->Option (eA×ee)):ee->Option gQ:=λρ=>(h ρ).map λr=>.nx r.2
def KR{h:ee->Option (eA×ee)}(d:PX X O e h)(a:swapsWith e Z pos.line X.env=pure false:=by rfl):wt X m O (.Expr e pos) (Nq h) :=
 PS.imp (q5 d a) <| by rintro D σ H ⟨ρ,o,G,a,e,k⟩;obtain⟨r,f,rfl⟩:=aa.mp e;exact⟨ρ,r.1,r.2,G,a.o,f,λv g i c b _=>k σ g i c ⟨b,a.z⟩⟩
noncomputable def Jq(h:ee->Option (eA×ee)):ee->Option gQ:=λρ=>(h ρ).bind λr=>(r.2[0]?).join.map λa=>.rt (.tuple [r.1,a])
def yP{f:V}{h:ee->Option (eA×ee)}(a:O.Nodup)(n:PX X O e h):wt X (.io dp f) O (.Return (Y e) pos) (Jq h) :=
 PS.imp (ve n) <| by rintro D σ H ⟨ρ,o,G,c,e,k⟩;obtain⟨r,w,u⟩:=bind_some e;obtain⟨A,t,rfl⟩:=aa.mp u;refine⟨ρ,r.1,r.2,G,c.o,w,λv C E g b m=>?_⟩;obtain⟨d,B,i,s,p,j⟩:=k8.out (σ:=σ) (ρ:=r.2) a ⟨b,c.z⟩ t;obtain⟨x,y,q,l⟩:=k;cases q;rw[s];exact l v d B (g.trans i) p j (m d)
def Z3(O:List Nat)(K:Fg)(h:ee->Option (Bool×ee)):TT:=λσ H Q=>∃ρ b ρ' G,hZ O K σ ρ H G/\h ρ=Y (b,ρ')/\∀a c,eN G c->hZ O K σ ρ' a c->Q b a
def Uo(X:Cx)(O:List Nat)(e:Expr)(h:ee->Option (Bool×ee)):Prop:=PT X e (Z3 O X.K h)
def Xj(X:Cx)(O:List Nat)(e:Expr)(h:ee->Option (Bool×ee)):Prop:=PW X e (Z3 O X.K h)
noncomputable def hT(h:ee->Option (eA×ee)):ee->Option (Bool×ee):=λρ=>(h ρ).bind λr=>match r with|(.bool b,ρ')=>Y (b,ρ')|_=>Z
def Qo{h:ee->Option (eA×ee)}(m:PX X O e h)(j:∀whole,isTrue e X.env whole=(do let v <-whole;standAt e.pos;holding [v] (truthy v)):=by intro _;rfl):Uo X O e (hT h) :=
 PT.imp (yq m j) <| by
  rintro σ H Q ⟨ρ,b,ρ',G,l,e,k⟩;obtain⟨r,o,c⟩:=bind_some e;obtain⟨d,ρ2⟩:=r;have n:d=.bool b/\ρ2=ρ':=by cases d<;>first|(cases c;exact⟨rfl,rfl⟩)|cases c
  obtain⟨rfl,rfl⟩:=n;exact⟨ρ,_,_,G,l,o,λv f p g a i=>⟨b,M4 (i f) rfl,k f p g a⟩⟩
noncomputable def VD(h:ee->Option (Bool×ee)):ee->Option (Bool×ee):=λρ=>(h ρ).map λr=>(!r.1,r.2)
def Qp{h:ee->Option (Bool×ee)}(g:Uo X O a h):Uo X O (.UnaryOp .Not a pos) (VD h) :=
 PT.imp (GH g) <| by rintro σ H Q ⟨ρ,b,ρ',G,f,e,k⟩;obtain⟨r,j,i⟩:=aa.mp e;cases i;exact⟨ρ,r.1,r.2,G,f,j,λl m d c=>k l m d c⟩
noncomputable def Z4(g:ee->Option Bool)(h:ee->Option (Bool×ee)):ee->Option (Bool×ee):=λρ=>(g ρ).bind λb=>if b=true then Y (true,ρ) else h ρ
def Qq{h:ee->Option (Bool×ee)}(b:Uo X O a h):Xj X O (.BoolOp .Or [a] pos) h:=Mm b
def S2{i:Lx}{h:ee->Option (Bool×ee)}(p:Bo X a ga)(o:Xj X O (.BoolOp .Or (b::i) pos) h):Xj X O (.BoolOp .Or (a::b::i) pos) (Z4 ga h) :=
 PW.imp (Rh p o) <| by
  rintro σ H Q ⟨ρ,b,ρ',G,j,e,k⟩;obtain⟨y,q,d⟩:=bind_some e;refine⟨ρ,y,j.full,q,λs n=>?_⟩;obtain⟨l,g,_,c⟩:=j.grow n;cases y with
  |false=>rw[ai aC] at d ⊢;exact⟨ρ,b,ρ',l,c,d,λr t m f=>k r t (g.trans m) f⟩
  |true=>rw[ag rfl] at d ⊢;cases d;exact k s l g c
def VE{h:ee->Option (Bool×ee)}(a:Xj X O e h):Uo X O e h:=a.pt
noncomputable def VF(c:ee->Option (Bool×ee))(g h:ee->Option gQ):ee->Option gQ:=λρ=>(c ρ).bind λr=>if r.1=true then g r.2 else h r.2
def Qr{j i:List Stmt}{n:ee->Option (Bool×ee)}(q:Uo X O c n)(t:rn X m O j g)(s:rn X m O i h):wt X m O (.If c j i pos) (VF n g h) :=
 PS.imp (Mt q t s) <| by
  rintro D σ H ⟨ρ,o,G,f,e,k⟩;obtain⟨r,u,d⟩:=bind_some e;obtain⟨b,ρ'⟩:=r;refine⟨ρ,b,ρ',G,f.o,u,λv p l a=>?_⟩;cases b with
  |true=>rw[ag rfl] at d ⊢;exact⟨ρ',o,p,⟨a,f.z⟩,d,k.later l⟩
  |false=>rw[ai aC] at d ⊢;exact⟨ρ',o,p,⟨a,f.z⟩,d,k.later l⟩
end
end L2
namespace L2
open PySem PySem.Spec PyProof.Rows PySem.Builtin PySem.Builtin.Str
theorem Bz:∀(l:List (Str×Tok)),fO ((l.map (·.1)).map V.str) (strValues l)
 |[]=>.nil
 | (x,t)::l=>.cons ⟨t,rfl⟩ (Bz l)
theorem BA:∀{b:Lr}{a:Lw},fO (b.map V.str) a->∃l:List (Str×Tok),a=strValues l/\l.map (·.1)=b
 |[],_,r=>by cases r;exact⟨[],rfl,rfl⟩
 |x::b,_,r=>by
  rw[aB] at r;cases r with
  |cons h t=>obtain⟨c,rfl⟩:=h;obtain⟨l,rfl,e⟩:=BA t;exact⟨(x,c)::l,rfl,by simp[e]⟩
noncomputable def sx:Lp->Option Lr
 |[]=>Y []
 |.str x::r=>(sx r).map (x::·)
 |_::_=>Z
theorem wu:∀{b:Lp}{a:Lr},sx b=Y a->b=a.map .str
 |[],_,h=>by cases h;rfl
 |d::r,a,h=>by
  cases d<;>try (simp[sx] at h;done)
  obtain⟨c,e,rfl⟩:=aa.mp (show (sx r).map _=Y a from h);rw[wu e];rfl
theorem BB{K:Fg}{H:Hp}:∀{c:Lr}{d:List V},dn K H (c.map .str) d->d=c.map .str
 |[],_,h=>dn.eP.mp h
 |x::c,_,h=>by obtain⟨v,r,rfl,a,b⟩:=dn.eE.mp h;rw[eI.fq.mp a,BB b];rfl
theorem pJ{K:Fg}{H:Hp}:∀(a:Lr),dn K H (a.map .str) (a.map .str)
 |[]=>dn.nil
 |x::a=>dn.cons (eI.fq.mpr rfl) (pJ a)
section
variable {a o:Expr}{fb fc f:ee->Od}{p2 fJ:Pos}{ga gc:ee->Option Bool}
noncomputable def KS(g:eA->Lp->Od)(f:ee->Od)(a:ee->Option Lp):ee->Od:=λρ=>(f ρ).bind λd=>(a ρ).bind λb=>match d with | .str z=>g (.str z) b|_=>Z
def nL{a:Str}{n:String}{g:eA->Lp->Od} (j:Slot "str" a n) (p:typeOf (.builtin n)=pure (.type "method_descriptor")) (y:PL X n (λx vs H Q=>∃d ds c,eI X.K H d x/\dn X.K H ds vs/\g d ds=Y c/\KD X.K H c Q)) (w:PD X o f) (A:Bp X (e::es) ff)
  (i:attributeBase o a X.env (eval o X.env)=eval o X.env:=by rfl)
  (l:((backTo fJ (starEach (e::es) X.env)).all (λx=>!x.1)&&(backToKw fJ (keywordEach [] X.env)).all (λx=>x.1.isSome)
  &&decide ((e::es).length+([]:List Keyword).length+(if ([]:List Keyword).isEmpty then 0 else 1)<30))=true:=by rfl)
  (h:(apos.endLine==fJ.line)=true:=by rfl) (m:zE e es X:=by rfl) (b:(backTo fJ (starEach es X.env)).any (·.1)=false:=by rfl):
  PD X (.Call (.Attribute o a apos) (e::es) [] fJ) (KS g f ff) :=
 PE.imp (Bj PySem.F.plainAttrs_str j p y w A i l h m b) <| by
  rintro σ H Q ⟨ρ,d,m,e,k⟩;obtain⟨x,D,C⟩:=bind_some e;obtain⟨ds,B,t⟩:=bind_some C;obtain⟨z,rfl⟩:∃z,x=.str z:=by cases x<;>first|exact⟨_,rfl⟩|cases t
  refine⟨ρ,_,m,D,λv G r s=>⟨?_,ρ,ds,m.same r,B,λvs E q u=>⟨_,ds,d,s.same q,u,t,k.later (r.trans q)⟩⟩⟩;rw[eI.fq.mp s];rfl
noncomputable def CS(d:eA)(a:Lp):Od:=match d,a with
 |.str x,[.str y]=>if (y.length==0)=false/\x.length<=sizeLine/\(partsBetween x (occurrences x y 0 x.length (x.length+1)) y.length).length<=sizeLine then Y (.list ((Txt.split x y).map .str)) else Z
 |_,_=>Z
def Nr:PL X "str.split" (λx vs H Q=>∃d n c,eI X.K H d x/\dn X.K H n vs/\CS d n=Y c/\KD X.K H c Q):=by
 intro a s σ H v vs u D Q I o p h;obtain⟨d,n,F,z,w,e,k⟩:=h;unfold CS at e;split at e
 ·rename_i x y;by_cases j:(y.length==0)=false/\x.length<=sizeLine/\(partsBetween x (occurrences x y 0 x.length (x.length+1)) y.length).length<=sizeLine
  ·rw[ag j] at e;cases e;obtain⟨q,m,b⟩:=j;rw[eI.fq.mp z] at o;obtain⟨t,rfl⟩:=o;obtain⟨C,rfl,r⟩:=iD w;rw[eI.fq.mp r] at p;obtain⟨E,rfl,t',rfl⟩:=p.one;have f:∀(l:List (Str×Tok)) (i:Nat),l.map (·.1)=Txt.split x y->l.length<=sizeLine->EP X a σ Q (.ref (zB s)) { s with heap:=s.heap.push { cls:=.type "list",data:=.seq (strValues l).toArray },toks:=i }:=λl i A g=>by
    have B:=I.Sx (t':=i) (ys:=(l.map (·.1)).map V.str) (Bz l) (by simpa using g);refine⟨.ref (zB s),_,B,rfl,k.yC ?_ _ I.fresh⟩;rw[A];exact pJ _
   cases h1:(decide (x.length<y.length)||decide (strKind x<strKind y))
   ·cases hf:(occurrences x y 0 x.length (x.length+1)).isEmpty
    ·refine cq d3 (dN _ _ _) dU (dO _ _) (meets_str_split_sep x y t t' h1 q hf m b) ?_;show EP X a σ Q _ { s with toks:=_,heap:=s.heap.push { cls:=.type "list",data:=.seq (strsFrom s.toks (partsBetween x (occurrences x y 0 x.length (x.length+1)) y.length)).toArray } };rw[strsFrom_eq];refine f _ _ ((numbered_texts _ _).trans ((ai (dG h1)).trans (ai (dG hf))).symm) ?_;have:=bx List.length (numbered_texts s.toks (partsBetween x (occurrences x y 0 x.length (x.length+1)) y.length));rw[aF] at this;rw[this];exact b
    ·exact cq d3 (dN _ _ _) dU (dO _ _) (meets_str_split_not_found x y t t' h1 q hf)
      (f [(x,t)] s.toks ((ai (dG h1)).trans (ag hf)).symm (by show 1<=sizeLine;decide))
   ·exact cq d3 (dN _ _ _) dU (dO _ _) (meets_str_split_cannot_occur x y t t' h1)
     (f [(x,t)] s.toks (ag h1).symm (by show 1<=sizeLine;decide))
  ·rw[ai j] at e;cases e
 ·cases e
noncomputable def Nt(d:eA)(c:Lp):Od:=match d,c with
 |.str x,[.list b]=>(sx b).bind λa=>if JoinOk x a=true then Y (.str (Txt.join x a)) else Z
 |_,_=>Z
def Qs:PL X "str.join" (λx vs H Q=>∃d g c,eI X.K H d x/\dn X.K H g vs/\Nt d g=Y c/\KD X.K H c Q):=by
 intro m s σ H v vs u L Q I j q h;obtain⟨d,g,O,D,C,e,k⟩:=h;unfold Nt at e;split at e
 ·rename_i x N;obtain⟨a,F,b⟩:=bind_some e;by_cases f:JoinOk x a=true
  ·rw[ag f] at b;cases b;have:=wu F;subst this;rw[eI.fq.mp D] at j;obtain⟨t,rfl⟩:=j;obtain⟨J,rfl,B⟩:=iD C;obtain⟨p,G,rfl,i,z⟩:=eI.eZ.mp B;obtain⟨M,rfl,w⟩:=q.one;cases w;rw[BB z] at i;obtain⟨A,r,y,_⟩:=I.list i;obtain⟨l,rfl,E⟩:=BA r;exact SC.join y.isList E f λo n=>⟨.str _,H,I.tok n,⟨o,rfl⟩,k.here (eI.fq.mpr rfl)⟩
  ·rw[ai f] at b;cases b
 ·cases e
noncomputable def ET(x y:eA):Od:=match x,y with
 |.str z,.int n=>if 0<=n/\n<=64/\z.length<=64 then Y (.str (Txt.mul z n)) else Z
 |x,y=>Vh x y
def EU{z:Str}{n:Int}(h:0<=n/\n<=64/\z.length<=64):MulOk z n:=mulOk_of 64 64 (by omega) (by omega) (by omega) (by decide) (by decide)
def Qt:ko X (binaryOp .Mult) (λx y H Q=>∃z n,x=.str z/\y=.int n/\(0<=n/\n<=64/\z.length<=64)/\Q (.str (Txt.mul z n)) H):=by intro a s σ H x y v u Q I d c h;obtain⟨z,n,rfl,rfl,e,q⟩:=h;obtain⟨t,rfl⟩:=d;obtain⟨f,rfl⟩:=c;exact SB.mul (EU e) λb k=>⟨.str _,H,I.tok _,⟨b,rfl⟩,q⟩
def Qu:rP X (binaryOp .Mult) ET:=by
 refine ko.imp (ko.or SI Qt) ?_;rintro x y H Q ⟨a,b,d,g,f,e,k⟩;unfold ET at e;split at e
 ·rename_i z n;by_cases c:0<=n/\n<=64/\z.length<=64
  ·rw[ag c] at e;cases e;exact .inr ⟨z,n,eI.fq.mp g,eI.eR.mp f,c,k.here (eI.fq.mpr rfl)⟩
  ·rw[ai c] at e;cases e
 ·exact .inl ⟨a,b,d,g,f,e,k⟩
noncomputable def CT(x y:eA):Od:=match x,y with
 |.str a,.str b=>Y (.bool (!decide (b.cps.toList<a.cps.toList)))
 |x,y=>ZH x y
def KU:ko X (compareOp .LtE) (λx y H Q=>∃i j,x=.str i/\y=.str j/\Q (.bl (!decide (j.cps.toList<i.cps.toList))) H):=by intro a s σ H x y v u Q I c b h;obtain⟨i,j,rfl,rfl,q⟩:=h;obtain⟨t,rfl⟩:=c;obtain⟨d,rfl⟩:=b;exact PySem.P.le_str (yo I q rfl)
def vr:rP X (compareOp .LtE) CT:=by
 refine ko.imp (ko.or Vj KU) ?_;rintro x y H Q ⟨a,b,d,f,c,e,k⟩;unfold CT at e;split at e
 ·rename_i z n;cases e;exact .inr ⟨z,n,eI.fq.mp f,eI.fq.mp c,k.here (eI.fh.mpr rfl)⟩
 ·exact .inl ⟨a,b,d,f,c,e,k⟩
noncomputable def CU(g a:eA->eA->Od)(e d c:ee->Od):ee->Option Bool:=λρ=>(e ρ).bind λx=>(d ρ).bind λy=>(g x y).bind λr=>(S3 r).bind λk=>if k=true then (c ρ).bind λz=>(a y z).bind S3 else Y false
where S3:eA->Option Bool | .bool b=>Y b|_=>Z
def BC{b:Bool}(h:CU.S3 d=Y b):d=.bool b:=by cases d<;>first|(cases h;rfl)|cases h
def BE{l d:CmpOp}{g B:eA->eA->Od} (J:rP X (compareOp l) g) (o:rP X (compareOp d) B) (N:PD X a fa) (M:PD X b fb) (L:PD X c fc)
  (K:lastMarks [l,d] [b,c]=false:=by with_unfolding_all rfl):Bo X (.Compare a [l,d] [b,c] pos) (CU g B fa fb fc) :=
 PT.imp (MC J o N M L K) <| by
  rintro σ H Q ⟨ρ,b,n,e,k⟩;obtain⟨x,V,t⟩:=bind_some e;obtain⟨y,U,s⟩:=bind_some t;obtain⟨r,T,q⟩:=bind_some s;obtain⟨m,S,j⟩:=bind_some q;have:=BC S;subst this;clear e t s q;refine⟨ρ,x,n,V,λv H1 i I=>⟨ρ,y,n.same i,U,λu H2 h A=>⟨x,y,.bool m,I.same h,A,T,λw H3 f G=>⟨m,eI.fh.mp G,?_⟩⟩⟩⟩;cases m with
  |false=>rw[ai aC] at j ⊢;cases j;exact⟨false,rfl,k H3 (i.trans (h.trans f))⟩
  |true=>rw[ag rfl] at j ⊢;obtain⟨z,R,D⟩:=bind_some j;obtain⟨r2,P,O⟩:=bind_some D;have:=BC O;subst this;exact⟨ρ,z,n.same (i.trans (h.trans f)),R,λw2 H4 p F=>⟨y,z,.bool b,A.same (f.trans p),F,P,λw3 W C E=>⟨b,eI.fh.mp E,k W (i.trans (h.trans (f.trans (p.trans C))))⟩⟩⟩
noncomputable def Uq(f:ee->Od):ee->Od:=λρ=>(f ρ).bind λd=>match d with | .str x=>if x.length<=sizeLine then Y (.str x) else Z|_=>Z
def Nu{ρ:ee}(h:Uq f ρ=Y d):∃x,f ρ=Y (.str x)/\d=.str x/\x.length<=sizeLine:=by
 obtain⟨x,c,a⟩:=bind_some h;obtain⟨y,rfl⟩:∃y,x=.str y:=by cases x<;>first|exact⟨_,rfl⟩|cases a
 dsimp only at a;by_cases b:y.length<=sizeLine
 ·rw[ag b] at a;cases a;exact⟨y,c,rfl,b⟩
 ·rw[ai b] at a;cases a
def Jr(q:PD X e f):PD X (.FormattedValue e (-1) Z pos) (Uq f):=by
 intro a s σ H Q I ⟨ρ,d,p,u,k⟩;obtain⟨x,r,rfl,o⟩:=Nu u;refine wpAny_FormattedValue_plain (gO (@q a s σ H (λv H'=>v=.str x/\eN H H') I ⟨ρ,_,p,r,λv H' j i=>⟨eI.fq.mp i,j⟩⟩) ?_);rintro v h ⟨y,z,w,l,n,m⟩;subst n;obtain⟨t,rfl⟩:=l;have b:∀g c,EP X a σ Q (.str x g) { h with toks:=c }:=λg c=>⟨.str x,z,w.tok c,⟨g,rfl⟩,(k.later m).here (eI.fq.mpr rfl)⟩
 exact wpAny_formatField_str (b t h.toks) (b _ _) o
def PJ(X:Cx)(e:Lx)(d:ee->Option Str):Prop :=
 ∀(a:Str) (pins:Ax) (s:Shared) (σ:St) (H:Hp) (Q:Str->Shared->Prop),eX X pins σ H s->(∃ρ z,ju X.K H σ ρ/\d ρ=Y z/\(a++z).length<=sizeLine/\∀c b,eN H c->eX X pins σ c b->Q (a++z) b) ->
  Joins (model X.prog X.w) X.A X.xe (evalEach e X.env) a Q s
def yQ(a:Str):a++Str.empty=a:=by cases a with|mk c=>show Str.mk (c++#[])=Str.mk c;rw[Array.append_empty]
def o3(a b c:Str):a++b++c=a++(b++c):=by cases a with|mk x=>cases b with|mk y=>cases c with|mk z=>show Str.mk (x++y++z)=Str.mk (x++(y++z));rw[Array.append_assoc]
def ox(a b:Str):(a++b).length=a.length+b.length:=strLen_append ..
def Nv:PJ X [] (λ_=>Y Str.empty):=by intro b a s σ H Q I ⟨ρ,z,d,e,c,k⟩;cases e;have:=k H s (.refl H) I;rw[yQ] at this;exact this
noncomputable def yR(f:ee->Od)(g:ee->Option Str):ee->Option Str:=λρ=>(f ρ).bind λd=>(g ρ).bind λz=>match d with | .str y=>Y (y++z)|_=>Z
def rf(B:PD X e f){m:ee->Option Str}(w:PJ X es m)(h:evalEach (e::es) X.env=eval e X.env::evalEach es X.env:=by rfl):PJ X (e::es) (yR f m):=by
 intro b a s σ H Q I ⟨ρ,z,l,F,g,k⟩;obtain⟨d,E,D⟩:=bind_some F;obtain⟨o,C,n⟩:=bind_some D;obtain⟨y,rfl⟩:∃y,d=.str y:=by cases d<;>first|exact⟨_,rfl⟩|cases n
 cases n;rw[h];refine gO (@B a s σ H (λv H'=>v=.str y/\eN H H') I ⟨ρ,_,l,E,λv H' c i=>⟨eI.fq.mp i,c⟩⟩) ?_;rintro v q ⟨x,K,G,r,u,j⟩;subst u;obtain⟨t,rfl⟩:=r;have A:(b++y).length<=sizeLine:=by rw[ox] at g ⊢;rw[ox] at g;omega
 refine⟨y,t,rfl,A,w (b++y) a q σ K Q G ⟨ρ,o,l.same j,C,by rw[o3];exact g,λH' c p J=>?_⟩⟩;rw[o3];exact k H' c (j.trans p) J
noncomputable def Yt(a:ee->Option Str):ee->Od:=λρ=>(a ρ).bind λz=>if z.length<=sizeLine then Y (.str z) else Z
def Js{h g:Expr}{a:Lx}{i:ee->Option Str}(n:PJ X (h::g::a) i):PD X (.JoinedStr (h::g::a) pos) (Yt i):=by
 intro b s σ H Q I ⟨ρ,d,m,p,k⟩;obtain⟨z,o,f⟩:=bind_some p;by_cases e:z.length<=sizeLine
 ·rw[ag e] at f;cases f;have j:Str.empty++z=z:=by cases z with|mk c=>show Str.mk (#[]++c)=Str.mk c;rw[Array.empty_append]
  refine wpAny_JoinedStr (n Str.empty b s σ H _ I ⟨ρ,z,m,o,by rw[j];exact e,λr t l q=>?_⟩);rw[j];exact⟨e,.str z,r,q.tok _,⟨_,rfl⟩,(k.later l).here (eI.fq.mpr rfl)⟩
 ·rw[ai e] at f;cases f
noncomputable def xZ(p:eA->Bool):Lp->Nat->Option Nat
 |[],_=>Z
 |d::ds,k=>if p d=true then Y k else xZ p ds (k+1)
noncomputable def CV(l:eA)(a:Lp):Od:=match l,a with
 |.list xs,[x]=>if SeqAt.shaped x=true/\xs.all SeqAt.shaped=true/\x.depth<=60/\xs.length<=sizeLine then (xZ (λy=>eA.eqv y x) xs 0).map λ(j:Nat)=>eA.int (j:Int) else Z
 |_,_=>Z
theorem tV{p:eA->Bool}:∀{a:Lp}{k j:Nat},xZ p a k=Y j->k<=j/\j - k<a.length/\(∃d,a[j - k]?=Y d/\p d=true)/\∀i d,i<j - k->a[i]?=Y d->p d=false
 |[],_,_,h=>by cases h
 |x::a,k,j,h=>by
  unfold xZ at h;by_cases b:p x=true
  ·rw[ag b] at h;cases h;refine⟨ax _,by simp,⟨x,by simp,b⟩,λi d f=>by omega⟩
  ·rw[ai b] at h;obtain⟨o,n,⟨d,m,l⟩,g⟩:=tV h;have e:j - k=(j - (k+1))+1:=by omega
   refine⟨by omega,by rw[e];simpa using n,⟨d,by rw[e];simpa using m,l⟩,λi y f c=>?_⟩;cases i with
   |zero=>simp at c;subst c;simpa using b
   |succ i=>exact g i y (by omega) (by simpa using c)
end
end L2
namespace PySem
open Builtin
def vt:typeLookup (.type "list") "keys"=pure Z:=by rw[d7,dv];kernel_rfl
theorem CW{i:Heap}{m:Array GenState}{o:Drawn}{s:Nat}{l:OsState}{q:Array Ow}{g:Array Value}{n:Nat}{e:Str}{Q:Ow->Shared->Prop}
    (r:i.get? a=Y { cls:=.type "list",dict:=Z,data:=.seq g n,slots:=q }) (d:typeLookup (.type "list") e=pure Z) (c:(["__module__","__name__","__qualname__","__doc__","__annotations__"]:Lr).contains e=false) (h:A.handled=Z) (b:e.length+100<=sizeLine)
    (k:∀Vq Z5 x,Heap.NewExcOf i Vq x "AttributeError"->Q Z ⟨Vq,m,o,Z5,l⟩):wpAny (model prog w) A (getAttr? (.ref a) e) Q E ⟨i,m,o,s,l⟩:=by
  have p:∀t,Shared.TypeIs ⟨i,m,o,t,l⟩ (.ref a) "list":=λt=>⟨_,r,rfl⟩
  have z:=sub_AttributeError;have y:=F.slot_list_getattribute.lookup;have v:=F.slot_list_getattribute.bind (.ref a);have u:=am_list_getattr_none;unfold getAttr? getAttrBy? getAttrBy
  repeat (any_goals (first
    |assumption
    |exact p _
    | ((with_reducible show wpAny _ _ (call (Value.builtin "list.__getattribute__") _ _) _ _ _)
       refine cq F.slot_list_getattribute (p _) am_entry_list_getattribute (F.args_list_getattribute_2 _ _) (meets_getattribute_miss_list a g n q e _ d c b) ⟨r,h,λVq Z5 x f=>?_⟩)
    |wp_step))
  obtain⟨_,_,j⟩:=f.there;show wpAny _ _ (getattributeRaised _ _ _ _ _ _ _) _ _ _;unfold getattributeRaised
  repeat (any_goals (first|assumption|wp_step))
  exact k _ _ _ f.of
namespace F
def kC:entryFor table "dict.update.loop"=Y Builtin.«dict.update.loop»:=entryFor_of_tree (zK 0)
def gY:plainId "dict.update.loop"=true:=by decide +kernel
end F
section
variable {K:Type} [DecidableEq K] {knd:KeyKind prog w K}
inductive me (knd:KeyKind prog w K) (h:Heap):Lw->List (K×Value)->Prop
 |nil:me knd h [] []
 |cons {T:Addr}{key v:Value}{k:K}{vs:Lw}{ps:List (K×Value)}:h.IsTuple T #[key,v]->knd.is k key=true->me knd h vs ps->me knd h (.ref T::vs) ((k,v)::ps)
def me.keep{h':Heap}{d:Lw}{e:List (K×Value)}(x:me knd h d e)(k:∀b o xs n,h.get? b=Y o->o.data=.seq xs n->h'.get? b=Y o):me knd h' d e:=by
 induction x with
 |nil=>exact .nil
 |cons a b c g=>obtain⟨o,j,i,n,f⟩:=a;exact .cons ⟨o,k _ _ _ _ j f,i,n,f⟩ b g
def EV(b c:List (K×Value)):List (K×Value):=c.foldl (λa p=>stored a p.1 p.2) b
def Hu(a:List (K×Value))(k:K)(v:Value):(stored a k v).length<=a.length+1:=by unfold stored;split<;>simp
theorem Nw{D I l:Addr}{a:Array Value}{R:Result->Shared->Prop}(hh:A.in1.handled=Z)(j:D≠I)(c:Heap)(L:c.get? D=Z)(t:c.get? I=Z):
  ∀(B:Lw) (ps:List (K×Value)) (i:Nat) (s:Shared) (acc:List (K×Value)),a.toList.drop i=B->me knd s.heap B ps->(∀b o,c.get? b=Y o->s.heap.get? b=Y o)->s.heap.IsListIter I l i->s.heap.IsList l a->s.heap.DictOf knd D acc->acc.length+ps.length<=sizeLine ->
  (∀p S,p.DictOf knd D (EV acc ps)->(∀b o,c.get? b=Y o->p.get? b=Y o)->R (.ok (.ret .none)) { s with heap:=p,toks:=S }) ->
  codeAny (model prog w) A (.builtin "dict.update.loop" ⟨[.ref D,.ref I,rawInt i,.none],[]⟩) R s
 |[],_,i,s,acc,E,G,h0,J,O,hd,U,hR=>by
  cases G;refine cj F.kC ?_;rw[bW F.gY _];show wpAny _ A.in1 (pyNext (.ref I)>>=_) _ _ s;have hn:a[i]?=Z:=by have:=List.drop_eq_nil_iff.mp E;simp at this ⊢;omega
  refine ab (dq hh J O hn λp eb=>?_);show wpAny _ A.in1 (Builtin.Dict.addKeywords D []>>=_) _ _ _;refine ab (ak (ak ?_));obtain⟨o,P,Q,x,r⟩:=hd;exact hR p s.toks ⟨o,P,Q,eb _ _ j x,r⟩ λb o e=>eb b o (λz=>by rw[z,t] at e;cases e) (h0 b o e)
 |v::B,_,i,s,acc,E,G,h0,J,O,hd,U,hR=>by
  cases G with
  |@cons T q g k _ ps ht hk G=>
   refine cj F.kC ?_;rw[bW F.gY _];show wpAny _ A.in1 (pyNext (.ref I)>>=_) _ _ s;have W:i<a.size:=by have:=bx List.length E;simp at this;omega
   have hx:a[i]?=Y (.ref T):=by have:=bx (·[0]?) E;simpa using this
   have V:a.toList.drop (i+1)=B:=by
    have e:=bD (l:=a.toList) (i:=i) (by simpa using W);rw[E] at e;injection e with _ f
    exact f.symm
   refine ab (c7 J O hx λp Yu C=>?_);have Yv:p.IsTuple T #[q,g]:=by obtain⟨o,d,f,n,y⟩:=ht;refine⟨o,(C.2 _ λz=>?_).trans d,f,n,y⟩;subst z;obtain⟨oi,u,ci,N⟩:=J;rw[d] at u;cases u;rw[y] at N;cases N
   obtain⟨ot,M,et2,nt,et3⟩:=id Yv;show wpAny _ A.in1 (holding [.ref T] _>>=_) _ _ _;refine ab (bp ?_);refine ab (wpAny_tryCatch ?_);unfold Builtin.Dict.pairItems;refine ab (ck (T:="tuple") ⟨ot,M,et2⟩ ?_);have hc1:((Value.type "tuple"==Value.type "list")||(Value.type "tuple"==Value.type "tuple"))=true:=by decide
   simp only[hc1,cx];refine ab ?_;unfold seqItems?;refine ab (wpAny_load M ?_);rw[et3];refine ak (ak ?_);show wpAny _ _ (holding [q,g] (dictSet D q g)) _ _ _;have Ye:p.DictOf knd D acc:=by obtain⟨o,P,Q,x,r⟩:=id hd;exact⟨o,P,Q,(C.2 _ j).trans x,r⟩
   have nI:∀b o m n,s.heap.get? b=Y o->o.data=.seq m n->b≠I:=λb o m n d f z=>by subst z;obtain⟨oi,u,ci,N⟩:=J;rw[d] at u;cases u;rw[f] at N;cases N
   have nD:∀b o m n,s.heap.get? b=Y o->o.data=.seq m n->b≠D:=λb o m n d f z=>by subst z;obtain⟨o',P,Q,x,hx2,H,_⟩:=hd;rw[d] at x;cases x;rw[f] at H;cases H
   refine bp (wpAny_dictSet_pairs hk Ye (λh2 hd2 h=>?_) (hsz:=by simp at U;omega));refine ak ⟨cE F.gY _,?_⟩;have u:((i:Int)+1)=((i+1:Nat):Int):=by omega
   rw[u];have X:h2.IsList l a:=by obtain⟨o,d,f,n,y⟩:=O;exact⟨o,(h.2 _ (nD _ _ _ _ d y)).trans ((C.2 _ (nI _ _ _ _ d y)).trans d),f,n,y⟩
   have Yw:h2.IsListIter I l (i+1):=Yu.at λo e=>(h.2 _ (Ne.symm j)).trans e;refine Nw hh j c L t B ps (i+1) { s with heap:=h2,toks:=s.toks+1 } (stored acc k g) V (G.keep λb o m n d f=>(h.2 _ (nD b o m n d f)).trans ((C.2 _ (nI b o m n d f)).trans d)) (λb o e=>?_) Yw X hd2 ?_ λh3 S hd3 k3=>hR h3 S hd3 k3
   ·have b1:b≠I:=λz=>by rw[z,t] at e;cases e
    have b2:b≠D:=λz=>by rw[z,L] at e;cases e
    exact(h.2 b b2).trans ((C.2 b b1).trans (h0 b o e))
   ·have:=Hu acc k g;simp at U ⊢;omega
theorem w9{l:Addr}{o:Obj}{a:Array Value}{n:Nat}{v:List (K×Value)}{Q:Px} (J:A.handled=Z) (R:s.heap.get? l=Y o) (L:o.cls=.type "list") (i:o.data=.seq a n) (u:o.dict=Z)
  (S:me knd s.heap a.toList v) (B:v.length<=sizeLine)
  (h:∀h' tk,h'.DictOf knd (zB s) (EV [] v)->(∀b o,s.heap.get? b=Y o->h'.get? b=Y o)->Q (.ref (zB s)) { s with heap:=h',toks:=tk }):
  wpAny (model prog w) A (call (.type "dict") [.ref l]) Q E s:=by
 refine callType_codes (Q₁:=λk f=>k=.ref (zB s)/\f={ s with heap:=s.heap.push { cls:=.type "dict",data:=.dict #[] } }) F.kt_called_dict (F.kt_typeCall_dict_1 _) F.entry_dict_init (kt_code_dict_new _ ⟨rfl,rfl⟩) ?_;rintro k f ⟨rfl,rfl⟩;have c:(s.heap.push { cls:=.type "dict",data:=.dict #[] }).DictOf knd (zB s) []:=Heap.DictOf.new s.heap;obtain⟨oc,od,N,M⟩:=o;simp only at L i u;subst L i u;have d:=aj { cls:=.type "dict",data:=.dict #[] } R;refine⟨c.typeIs,F.args_dict_init_2 _ _,?_⟩;unfold Builtin.«dict.__init__»;refine ab ?_;unfold Builtin.Dict.selfAndRest;refine ab (wpAny_notOrdered_dict c.typeIs ?_);show wpAny _ _ (pure ((zB s),[Value.ref l])) _ _ _;refine ak ?_;show wpAny _ _ (Builtin.Dict.updateFrom "dict.__init__" (zB s) (.ref l) [] .none) _ _ _;unfold Builtin.Dict.updateFrom;refine ab (ck (T:="list") ⟨_,d,rfl⟩ ?_);rw[ag (by decide)];refine ab (CW d vt (by decide +kernel) (show A.in1.in1.handled=Z from J) (by decide) λj y e1 t=>?_);rw[ag (show (Z:Ow).isNone=true from rfl)];refine ab (dz ?_);have D:j.IsList l a:=⟨_,t.keeps _ _ d,rfl,n,rfl⟩
 refine ab (c8 D ?_);refine ak ⟨cE F.gY _,?_⟩;have g:(zB s)<j.objs.size:=aq (t.keeps _ _ (aA s.heap (o:={ cls:=.type "dict",data:=.dict #[] }) rfl));have I:∀b p,s.heap.get? b=Y p->(j.push { cls:=.type "list_iterator",data:=.fields #[.ref l,.int 0 0] }).get? b=Y p:=λb p e=>aj _ (t.keeps _ _ (aj _ e));have H:(j.push { cls:=.type "list_iterator",data:=.fields #[.ref l,.int 0 0] }).DictOf knd (zB s) []:=by obtain⟨O,W,X,U,r⟩:=c;exact⟨O,W,X,aj _ (t.keeps _ _ U),r⟩
 have C:(j.push { cls:=.type "list_iterator",data:=.fields #[.ref l,.int 0 0] }).IsList l a:=⟨_,aj _ (t.keeps _ _ d),rfl,n,rfl⟩
 exact Nw (knd:=knd) (s:={ s with heap:=j.push { cls:=.type "list_iterator",data:=.fields #[.ref l,.int 0 0] },toks:=y }) (show A.in1.in1.handled=Z from J) (aG g) s.heap (by
   cases q:s.heap.get? (zB s) with
   |none=>rfl
   |some z=>exact absurd (aq q) (aW _)) (by
   cases q:s.heap.get? j.objs.size with
   |none=>rfl
   |some z=>exact absurd (d6 (aq q) g) (aW _)) a.toList v 0 [] rfl (S.keep λb p xs m e _=>I b p e) I ⟨_,aA _ rfl,rfl,rfl⟩ C H (by simpa using B)
  λV x G P=>⟨rfl,h V x G P⟩
end
end PySem
namespace L2
open PySem PySem.Spec PyProof.Rows
noncomputable def pairsOf:Lp->Option (List (Key×eA))
 |[]=>Y []
 |.tuple [k,d]::r=>(qb k).bind λy=>(pairsOf r).map ((y,d)::·)
 |_::_=>Z
def Rz(b:List (Key×eA))(a:List (eA×eA)):List (eA×eA):=b.foldl (λa p=>Qg (kh p.1) p.2 a) a
noncomputable def rX(b:List (Key×V))(a:List (Key×V)):List (Key×V):=b.foldl (λa p=>putK a p.1 p.2) a
noncomputable def CY:Lp->Od
 |[.list ds]=>(pairsOf ds).bind λa=>if a.length<=sizeLine then Y (.dict (Rz a [])) else Z
 |_=>Z
section
theorem EW(I:eX X pins σ H s):∀{j:Lp}{g:List (Key×eA)}{l:List V}{m:Lw},pairsOf j=Y g->dn X.K H j l->fO l m ->
  ∃(c:List (Key×V)) (ws:List (Key×Value)),me (fD X.prog X.w) s.heap m ws/\KV c ws/\c.length=g.length/\∀a b,fZ X.K H a b->fZ X.K H (Rz g a) (rX c b)
 |[],_,_,_,e,i,r=>by cases e;rw[dn.eP.mp i] at r;cases r;exact⟨[],[],.nil,.nil,rfl,λa b h=>h⟩
 |d::j,_,_,_,e,i,r=>by
  obtain⟨v,l,rfl,N,M⟩:=dn.eE.mp i;obtain⟨k,f,rfl⟩:∃k f,d=.tuple [k,f]:=by
   unfold pairsOf at e;split at e
   ·rename_i z;cases z
   ·rename_i k f r z;injection z with o z2;exact⟨k,f,o⟩
   ·cases e
  obtain⟨y,Q,P⟩:=bind_some (show (qb k).bind (λy=>(pairsOf j).map ((y,f)::·))=Y _ from e);obtain⟨g,O,rfl⟩:=aa.mp P;cases r with
  |cons B A=>
   obtain⟨c,ws,W,U,S,R⟩:=EW I O M A;obtain⟨T,ts,rfl,x,L⟩:=N.gI;cases B;obtain⟨v1,q,rfl,G,F⟩:=EH L;obtain⟨J,n,E,_⟩:=I.tuple x;have:=gR Q;subst this;rw[iE G] at n;cases n with
   |@cons _ w1 _ _ D u=>
    cases u with
    |@cons _ p _ _ C t=>cases t;exact⟨(y,q)::c,(y,p)::ws,me.cons E (mT D) W,Paired.cons ⟨rfl,C⟩ U,by rw[aV,aV,S],λa b h=>R _ _ (h.put F)⟩
def KV.Yx{c:List (Key×V)}{e:List (Key×Value)}(r:KV c e):∀{a:List (Key×V)}{b:List (Key×Value)},KV a b->KV (rX c a) (EV b e):=by
 induction r with
 |nil=>exact λh=>h
 |@cons p q c f h t g=>intro a b d;obtain⟨j,i⟩:=h;have:=d.put p.1 i;rw[show rX (p::c) a=rX c (putK a p.1 p.2) from rfl,show EV b (q::f)=EV (stored b q.1 q.2) f from rfl,<-j];exact g this
theorem BF:∀(b:List (Key×V)) (a:List (Key×V)),(rX b a).length<=a.length+b.length
 |[],a=>by simp[rX]
 |p::b,a=>by have d:=BF b (putK a p.1 p.2);have c:=qq a p.1 p.2;rw[show rX (p::b) a=rX b (putK a p.1 p.2) from rfl,aV];omega
def Qv(K:X.calm=true):tK X (.type "dict") CY:=by
 intro q s σ H S U Q I r h;obtain⟨ds,c,i,e,k⟩:=h;unfold CY at e;split at e
 ·rename_i V;obtain⟨m,M,f⟩:=bind_some e;by_cases g:m.length<=sizeLine
  ·rw[ag g] at f;cases f;obtain⟨v,rfl,L⟩:=iD i;obtain⟨u,rfl,B⟩:=tF r;obtain⟨p,T,rfl,z,D⟩:=eI.eZ.mp L;cases B;obtain⟨E,A,⟨o,n,F,l,j,d⟩,_⟩:=I.list z;obtain⟨b,x,P,t,O,N⟩:=EW I M D A;have hw:x.length=m.length:=by rw[<-t.length,O]
   refine w9 (knd:=fD X.prog X.w) (I.ok.hd K) F l d j (by simpa using P) (by rw[hw];exact g) λW y J C=>?_;have G:(rX b []).length<=sizeLine:=by have:=BF b [];simp at this;omega
   have R:=I.laid (a:=(zB s)) (o:=.dK (rX b [])) (t':=y) C (ax _) (Hb G (aZ.mpr (Ne.symm (aG I.big))) (KV.Yx t .nil) J);refine⟨.ref (zB s),_,R,rfl,k _ _ (hE I.fresh) (eI.lh.mpr ⟨_,rfl,.inl ⟨_,.inl eS,?_⟩⟩)⟩;exact(N [] [] (fZ.eP.mpr rfl)).same (hE I.fresh)
  ·rw[ai g] at f;cases f
 ·cases e
end
end L2
namespace PySem
open Builtin
section
abbrev Yy(a:Program)(w:World)(A:Around)(R:Result->Shared->Prop):Fin->Shared->Prop:=λb c=>match b with
 |.done f=>R (.ok f) c
 |.again d=>d.quiet=true/\codeAny (model a w) A d R c
theorem wx{x:Value}{Q:Px}
  (j:∀h2 c,h2.get? (zB s)=Y (zl #[] c)->(∀b o,s.heap.get? b=Y o->h2.get? b=Y o) ->
   wpAny (model prog w) A.in1.in1 (Builtin.List.listExtendWith (.ref (zB s)) x .none) (Yy prog w A.in1 (wants (λr s₂=>r=.none/\Q (.ref (zB s)) s₂) E)) (λe s'=>wants (λr s₂=>r=.none/\Q (.ref (zB s)) s₂) E (.error e) s') { s with heap:=h2 }):
  wpAny (model prog w) A (call (.type "list") [x]) Q E s:=by
 refine callType_codes (Q₁:=λf d=>f=.ref (zB s)/\d={ s with heap:=s.heap.push { cls:=.type "list",data:=.seq #[] } }) F.called_list (F.typeCall_list_1 _) F.entry_list_init (code_list_new _ ⟨rfl,rfl⟩) λf d g=>?_;obtain⟨rfl,rfl⟩:=g;have a:(s.heap.push { cls:=.type "list",data:=.seq #[] }).get? (zB s)=Y { cls:=.type "list",data:=.seq #[] }:=aA _ rfl;refine⟨⟨_,a,rfl⟩,F.args_list_init_2 _ _,?_⟩;show wpAny _ A.in1.in1 (do
  let h <-Builtin.List.listItems (.ref (zB s))
  Builtin.List.listUpdate (.ref (zB s)) (λ_=>#[])
  letGo h.toList.reverse
  Builtin.List.listExtendWith (.ref (zB s)) x .none) _ _ _
 refine ab ?_;unfold Builtin.List.listItems;refine ab (d9 a rfl (ak ?_));show wpAny _ A.in1.in1 (updateSeq (zB s) (λ_=>#[])>>=_) _ _ _;refine ab (bZ a rfl (ab (wpAny_letGo ?_)));refine j _ _ (bA (Obj.mapSeq λ_=>(#[]:Array Value)) a rfl) λb o e=>?_;have i:(zB s)≠b:=λz=>aW _ (by have:=aq e;rw[<-z] at this;exact this);exact(bg _ _ i).trans (aj _ e)
variable {K:Type} [DecidableEq K] {knd:KeyKind prog w K}
theorem yS{d:Addr}{a:List (K×Value)}{Q:Px} (X:A.handled=Z) (hS:(d==sysModules)=false) (hd:s.heap.DictOf knd d a) (W:a.length<=sizeLine)
  (h:∀h' tk its c,its.size=a.length->(∀(j:Nat) v,its[j]?=Y v->∃k x,a[j]?=Y (k,x)/\knd.is k v=true)->h'.get? (zB s)=Y (zl its c)->(∀b o,s.heap.get? b=Y o->h'.get? b=Y o)->Q (.ref (zB s)) { s with heap:=h',toks:=tk }):
  wpAny (model prog w) A (call (.type "list") [.ref d]) Q E s:=by
 obtain⟨r,t⟩:=hd.dictAt;have i:d<(zB s):=t.lt_size;refine wx λg c B M=>?_;have f:g.DictAt knd d a r:=t.at' λo e=>M _ _ e;have P:Shared.TypeIs { s with heap:=g } (.ref d) "dict":=f.dictOf.typeIs;have l:(zB s)<g.objs.size:=aq B;unfold Builtin.List.listExtendWith;refine ab (ck P ?_);have V:Builtin.List.listSameRef (.ref (zB s)) (.ref d)=false:=by simp[Builtin.List.listSameRef,cN i]
 have U:(Value.type "dict"==Value.type "list")=false:=by decide
 have T:(Value.type "dict"==Value.type "tuple")=false:=by decide
 simp only[V,U,T,et,bG,cT];refine ab (wpAny_pyIter_dict hS f ?_);refine ab (bp ?_);have p:Shared.TypeIs { s with heap:=g.push { cls:=.type "dict_keyiterator",data:=.fields #[.ref d,.int 0 0,.int a.length 0,.int r 0] } } (.ref d) "dict":=(f.push _).dictOf.typeIs;unfold Builtin.List.listLengthHint;refine ab (dD p F.slot_dict_len.lookup ?_);have R:splitId "dict.__len__"=Y ("dict","__len__"):=by kernel_rfl
 dsimp only;rw[R];dsimp only;refine ab (wpAny_isInstance p isSubtype_dict_dict ?_);rw[ai (by decide),ag (by decide)];refine ab (ck p ?_);show wpAny _ _ (pure false) _ _ _;refine ak ?_;rw[ag (by decide)];refine ab (dz (ab ?_));show wpAny _ _ (updateSeq (zB s) (·.push .none)>>=λ_=>updateSeq (zB s) (·.pop)) _ _ _;have y:(g.push { cls:=.type "dict_keyiterator",data:=.fields #[.ref d,.int 0 0,.int a.length 0,.int r 0] }).get? (zB s)=Y (zl #[] c):=aj _ B;refine ab (bZ y rfl ?_);have u:=bA (Obj.mapSeq (·.push Value.none)) y rfl;refine bZ (hz:=by seq_fits) u rfl ?_;have J:=bA (Obj.mapSeq (·.pop)) u rfl;have q:∀b o,b≠(zB s)->(g.push { cls:=.type "dict_keyiterator",data:=.fields #[.ref d,.int 0 0,.int a.length 0,.int r 0] }).get? b=Y o->(((g.push { cls:=.type "dict_keyiterator",data:=.fields #[.ref d,.int 0 0,.int a.length 0,.int r 0] }).update (zB s) (Obj.mapSeq (·.push Value.none))).update (zB s) (Obj.mapSeq (·.pop))).get? b=Y o :=
  λb o N e=>(bg _ _ (Ne.symm N)).trans ((bg _ _ (Ne.symm N)).trans e)
 have H:(zB s)∉[g.objs.size,d]:=by
  intro m;rcases av.mp m with e|m
  ·exact absurd e (aG l)
  ·exact absurd (by simpa using m) (cN i)
 have dI:d≠g.objs.size:=aG (d6 i l);refine ak ⟨cE b0 _,codeAny_extend_loopS (Walks.dictKeys (knd:=knd) (show A.in1.in1.handled=Z from X) g.objs.size d dI a r).toS W _ H _ a.length 0 _ _ _ rfl (bH _) ⟨?_,?_⟩ J (ItemsOf.nil _) λS L c' C I n=>?_⟩
 ·exact Heap.IsKeyIter.at ⟨_,aA _ rfl,rfl,rfl⟩ λo e=>q _ _ (Ne.symm (aG l)) e
 ·exact(f.push _).at' λo e=>q _ _ (aG i) e
 ·obtain⟨h',g',d',D,G⟩:=S;have eg:g'=s.gens:=C.gens;have ed:d'=s.drawn:=C.drawn;have eo:G=s.os:=C.os;subst eg ed eo;refine⟨rfl,h h' D L c' n.1 (λj v e=>n.2 j v e) I λb o e=>?_⟩;have O:b≠(zB s):=λz=>aW _ (by have:=aq e;rw[z] at this;exact this);have bI:b≠g.objs.size:=λz=>aW g.objs.size (d6 (by have:=aq e;rw[z] at this;exact this) l);refine C.heap b o (by simp[O,bI]) (q b o O (aj _ (M b o e)))
end
end PySem
namespace PySem
open Builtin
section
def Qw{M:Model}{Q:Option Obj->Shared->Prop}(h:Q (s.heap.get? a) s):wpAny M A (loadIfAlive a) Q E s:=λΓ p b=>by show Sem.wp M Γ (Sem.loadIfAlive a _) _ _ p s;rw[Sem.wp_loadIfAlive];exact h
abbrev vu(h:Heap)(z c a T:Addr)(b:Bool):Prop:=h.get? z=Y { cls:=.type "zip",dict:=Z,data:=.fields #[rawInt T,.bool b,.bool false,.ref c,.ref a],slots:=#[] }
def wy{z e d T:Addr}{b:Bool}{g:Obj}{Q:Bool->Shared->Prop} (a:vu s.heap z e d T b) (h:s.heap.get? T=Y g)
  (k:∀h',vu h' z e d T true->Heap.SameBut z s.heap h'->Q false { s with heap:=h' }):wpAny (model prog w) A (Builtin.SmallTypes.ownedTupleIsFree (.ref z)) Q E s:=by
 unfold Builtin.SmallTypes.ownedTupleIsFree;refine ab (cB a rfl (x:=rawInt T) rfl ?_);show wpAny _ _ (loadIfAlive ((T:Int)).toNat>>=_) _ _ _;refine ab (Qw ?_);rw[show ((T:Int)).toNat=T from Int.toNat_natCast T,h];rw[ai (by simp)];refine ab (cB a rfl (x:=.bool b) rfl ?_);cases b with
 |true=>rw[ai (by decide)];exact ak (k _ a (Heap.SameBut.refl _ _))
 |false=>rw[ag (by decide)];refine ab (wpAny_setField_rec a (by simp) λh' c f=>ak (k h' c f))
def Hv{z j I T h g n m:Addr}{b:Bool}{M:Obj}{q p:Nat}{K J:Array Value}{x y:Value}{Q:Px} (D:ZipApart z j I h g n m) (B:vu s.heap z j I T b) (W:s.heap.get? T=Y M) (C:IsPair s.heap j (.ref h) (.ref g))
  (S:s.heap.IsListIter h n q) (R:s.heap.IsListIter g m p) (O:s.heap.IsList n K) (N:s.heap.IsList m J) (V:K[q]?=Y x) (U:J[p]?=Y y)
  (k:∀h',vu h' z j I T true->h'.IsListIter h n (q+1)->h'.IsListIter g m (p+1)->IsPair h' (zB s) x y->(∀c o,c≠z->c≠h->c≠g->s.heap.get? c=Y o->h'.get? c=Y o)->Q (.ref (zB s)) { s with heap:=h' }):
  wpAny (model prog w) A (Builtin.«zip.__next__» ⟨[.ref z],[]⟩) (λfin s'=>∃v,fin=.done (.ret v)/\Q v s') E s:=by
 show wpAny _ _ (field (.ref z) 2>>=_) _ _ _;refine ab (cB B rfl (x:=.bool false) rfl ?_);show wpAny _ _ (field (.ref z) 3>>=_) _ _ _;refine ab (cB B rfl (x:=.ref j) rfl (ab (d9 C rfl ?_)));show wpAny _ _ (Builtin.SmallTypes.ownedTupleIsFree (.ref z)>>=_) _ _ _;refine ab (wy B W λh1 u a=>?_);rw[ai aC];refine ab ?_;rw[<-Array.forIn_toList];simp only[cY,dg];refine ab (ab (bp ?_));show wpAny _ _ (Builtin.SmallTypes.nextOf (.ref h)>>=_) _ _ _;refine ab (dm (S.extBut a.extBut D.i1z) (O.extBut a.extBut D.l1z) V λX t d=>ak (ak ?_));dsimp only;refine ab (ab (bp ?_));show wpAny _ _ (Builtin.SmallTypes.nextOf (.ref g)>>=_) _ _ _;refine ab (dm ((R.extBut a.extBut D.i2z).extBut d.extBut D.i12.symm) ((N.extBut a.extBut D.l2z).extBut d.extBut D.l2i1) U λi r f=>ak (ak (ak ?_)));have L:i.objs.size=(zB s):=by rw[f.1,d.1,a.1]
 have P:∀c o,c≠z->c≠h->c≠g->s.heap.get? c=Y o->i.get? c=Y o:=λc o H G F e=>f.extBut _ _ F (d.extBut _ _ G (a.extBut _ _ H e));refine ab (wpAny_newTuple (ak ⟨_,rfl,?_⟩) (by show 2<=sizeLine;decide));show Q (.ref i.objs.size) _;rw[L];have l:∀c o,i.get? c=Y o->(i.push { cls:=.type "tuple",data:=.seq #[x,y] }).get? c=Y o:=λc o e=>aj _ e;refine k _ (l _ _ (f.extBut _ _ D.i2z.symm (d.extBut _ _ D.i1z.symm u))) ((t.extBut f.extBut D.i12).at λo e=>l _ _ e) (r.at λo e=>l _ _ e) (by rw[<-L];exact aA _ rfl) λc o H G F e=>l _ _ (P c o H G F e)
def Hw{z i K T h g p n:Addr}{b:Bool}{L:Obj}{t r:Nat}{l j:Array Value}{Q:Fin->Shared->Prop} (I:A.handled=Z) (D:ZipApart z i K h g p n) (u:vu s.heap z i K T b) (S:s.heap.get? T=Y L) (B:IsPair s.heap i (.ref h) (.ref g))
  (H:s.heap.IsListIter h p t) (N:s.heap.IsListIter g n r) (G:s.heap.IsList p l) (M:s.heap.IsList n j) (f:l[t]?=Z\/j[r]?=Z)
  (k:∀h' e,(∀c o,c≠z->c≠h->c≠g->s.heap.get? c=Y o->h'.get? c=Y o)->(∃o,h'.get? e=Y o/\o.cls=.type "StopIteration")->E (.ref e) { s with heap:=h' }):
  wpAny (model prog w) A (Builtin.«zip.__next__» ⟨[.ref z],[]⟩) Q E s:=by
 show wpAny _ _ (field (.ref z) 2>>=_) _ _ _;refine ab (cB u rfl (x:=.bool false) rfl ?_);show wpAny _ _ (field (.ref z) 3>>=_) _ _ _;refine ab (cB u rfl (x:=.ref i) rfl (ab (d9 B rfl ?_)));show wpAny _ _ (Builtin.SmallTypes.ownedTupleIsFree (.ref z)>>=_) _ _ _;refine ab (wy u S λh1 P a=>?_);rw[ai aC];refine ab ?_;rw[<-Array.forIn_toList];simp only[cY,dg];refine ab (ab (bp ?_));show wpAny _ _ (Builtin.SmallTypes.nextOf (.ref h)>>=_) _ _ _;cases v:l[t]? with
 |none=>exact ab (wpAny_nextOf_list_end I (H.extBut a.extBut D.i1z) (G.extBut a.extBut D.l1z) v λJ e d y=>k J e (λc o F C _ q=>d _ _ C (a.extBut _ _ F q)) y)
 |some x=>have R:j[r]?=Z:=f.resolve_left (by rw[v];exact λq=>nomatch q);refine ab (dm (H.extBut a.extBut D.i1z) (G.extBut a.extBut D.l1z) v λJ O d=>ak (ak ?_));dsimp only;refine ab (ab (bp ?_));show wpAny _ _ (Builtin.SmallTypes.nextOf (.ref g)>>=_) _ _ _;exact ab (wpAny_nextOf_list_end I ((N.extBut a.extBut D.i2z).extBut d.extBut D.i12.symm) ((M.extBut a.extBut D.l2z).extBut d.extBut D.l2i1) R λU e m y=>k U e (λc o F C V q=>m _ _ V (d.extBut _ _ C (a.extBut _ _ F q))) y)
def CZ(S:Addr)(h:Heap)(c b a:Array Value):Prop:=∀(j:Nat) v,a[j]?=Y v->∃T x y,v=.ref T/\c[j]?=Y x/\b[j]?=Y y/\IsPair h T x y/\S<T
theorem C0{S z TI TO T E C P O:Addr}{l r:Array Value}(g:Heap)(hh:A.in1.handled=Z)(D:ZipApart z TI TO E C P O)(B:g.get? S=Z/\g.get? z=Z/\g.get? E=Z/\g.get? C=Z)(X:(∃o,g.get? P=Y o)/\∃o,g.get? O=Y o)(hn:min l.size r.size<=sizeLine):
    ∀(m i:Nat) (s:Shared) (acc:Array Value) (c:Nat) (b:Bool),min l.size r.size - i=m->i<=min l.size r.size->acc.size=i->(∃K,s.heap.get? T=Y K/\∃v n,K.cls=.type "tuple"/\K.data=.seq v n)->vu s.heap z TI TO T b->IsPair s.heap TI (.ref E) (.ref C)->s.heap.IsListIter E P i->s.heap.IsListIter C O i->s.heap.IsList P l->s.heap.IsList O r ->
      s.heap.get? S=Y (zl acc c)->CZ S s.heap l r acc->(∀b o,g.get? b=Y o->s.heap.get? b=Y o) ->
      (∀u t c',t.size=min l.size r.size->CZ S u l r t->u.get? S=Y (zl t c')->(∀b o,g.get? b=Y o->u.get? b=Y o)->R (.ok (.ret .none)) { s with heap:=u }) ->
      codeAny (model prog w) A (.builtin "list.extend.loop" ⟨[.ref S,.ref z,.none],[]⟩) R s
:=by
  intro m;induction m using Nat.strongRecOn with
  |_ m ih=>
    rintro i s acc c b hm hi ha ⟨K,ht,tv,tn,tc,td⟩ V G j1 j2 m1 m2 hS W Q hR;have tz:s.TypeIs (.ref z) "zip":=⟨_,V,rfl⟩
    refine cj F.entry_extend_loop ?_;rw[bW b0 _];show wpAny _ A.in1 (pyNext (.ref z)>>=_) _ _ s;refine ab ?_;unfold pyNext;have nz:∀a o v n,s.heap.get? a=Y o->o.data=.seq v n->a≠z:=λa o v n f h q=>by subst q;rw[V] at f;cases f;cases h
    have M:∀a o v n,s.heap.get? a=Y o->o.data=.seq v n->a≠E:=λa o v n f h q=>by subst q;obtain⟨o',p,_,e4⟩:=j1;rw[f] at p;cases p;rw[h] at e4;cases e4
    have L:∀a o v n,s.heap.get? a=Y o->o.data=.seq v n->a≠C:=λa o v n f h q=>by subst q;obtain⟨o',p,_,e4⟩:=j2;rw[f] at p;cases p;rw[h] at e4;cases e4
    by_cases Rt:i<min l.size r.size
    · obtain⟨x,hx⟩:∃x,l[i]?=Y x:=⟨l[i]'(by omega),by simp⟩
      obtain⟨y,hy⟩:∃y,r[i]?=Y y:=⟨r[i]'(by omega),by simp⟩
      refine ab (wpAny_attempt (cA (name:=zZ "__next__") tz dE
        (cP dE tz F.entry_zip_next (Hv D V ht G j1 j2 m1 m2 hx hy λu Yz YA YB Yv U=>ak ?_) (F.args_zip_next_1 _))))
      have d:∀a o v n,s.heap.get? a=Y o->o.data=.seq v n->u.get? a=Y o:=λa o v n f h=>U a o (nz a o v n f h) (M a o v n f h) (L a o v n f h) f;have Z6:=d _ _ _ _ hS rfl;show wpAny _ A.in1 (updateSeq S (·.push (.ref (zB s)))>>=_) _ _ _;refine ab (bZ Z6 rfl ?_ (by rw[ha];omega));have I:=bA (Obj.mapSeq (·.push (Value.ref (zB s)))) Z6 rfl;have k:∀a o,a≠S->u.get? a=Y o->(u.update S (Obj.mapSeq (·.push (Value.ref (zB s))))).get? a=Y o:=λa o q e=>(bg _ _ (Ne.symm q)).trans e;refine ak ⟨cE b0 _,?_⟩;have H:∀a o,s.heap.get? a=Y o->o.cls≠.type "list"->a≠S:=λa o f h q=>by subst q;rw[hS] at f;cases f;exact h rfl
      have YC:P≠S:=λq=>by obtain⟨o,e⟩:=X.1;rw[q,B.1] at e;cases e
      have YD:O≠S:=λq=>by obtain⟨o,e⟩:=X.2;rw[q,B.1] at e;cases e
      have zS:z≠S:=H z _ V (by intro q;injection q with q;revert q;decide);have TS:T≠S:=H T _ ht (by rw[tc];intro q;injection q with q;revert q;decide);have YE:TI≠S:=H TI _ G (by intro q;injection q with q;revert q;decide);have i1S:E≠S:=by obtain⟨o,f,h,p⟩:=id j1;exact H E o f (by rw[h];intro q;injection q with q;revert q;decide)
      have i2S:C≠S:=by obtain⟨o,f,h,p⟩:=id j2;exact H C o f (by rw[h];intro q;injection q with q;revert q;decide)
      have N:(zB s)≠S:=λq=>by have:=aq hS;rw[<-q] at this;exact aW _ this
      refine ih (min l.size r.size - (i+1)) (by omega) (i+1) _ (acc.push (.ref (zB s))) _ true rfl Rt (by rw[Array.size_push,ha]) ⟨K,k _ _ TS (d _ _ _ _ ht td),tv,tn,tc,td⟩ (k _ _ zS Yz) (k _ _ YE (d _ _ _ _ G rfl)) (YA.at λo e=>k _ _ i1S e) (YB.at λo e=>k _ _ i2S e)
        ?_ ?_ I ?_ (λa o e=>?_) λh2 t c' q1 q2 q3 q4=>hR h2 t c' q1 q2 q3 q4
      · obtain⟨o,f,h,n,p⟩:=m1
        exact⟨o,k _ _ YC (d _ _ _ _ f p),h,n,p⟩
      · obtain⟨o,f,h,n,p⟩:=m2
        exact⟨o,k _ _ YD (d _ _ _ _ f p),h,n,p⟩
      · intro j v e
        by_cases hj:j<acc.size
        · have e':acc[j]?=Y v:=by rw[dH] at e;rw[ai (aG hj)] at e;exact e
          obtain⟨T',x',y',r1,r2,r3,r4,r5⟩:=W j v e';exact⟨T',x',y',r1,r2,r3,k _ _ (H _ _ r4 (by intro q;injection q with q;revert q;decide)) (d _ _ _ _ r4 rfl),r5⟩
        · have hj2:j=acc.size:=by
            by_cases q:j=acc.size
            · exact q
            · rw[dH,ai q] at e
              have:acc[j]?=Z:=by simp;omega
              rw[this] at e;cases e
          subst hj2;rw[dH,ag rfl] at e;cases e;rw[ha];exact⟨_,x,y,rfl,hx,hy,k _ _ N Yv,aq hS⟩
      · have a1:a≠S:=λq=>by rw[q,B.1] at e;cases e
        have a2:a≠z:=λq=>by rw[q,B.2.1] at e;cases e
        have a3:a≠E:=λq=>by rw[q,B.2.2.1] at e;cases e
        have a4:a≠C:=λq=>by rw[q,B.2.2.2] at e;cases e
        exact k a o a1 (U a o a2 a3 a4 (Q a o e))
    · have J:l[i]?=Z\/r[i]?=Z:=by
        by_cases q:l.size<=i
        · exact .inl (by simp;omega)
        · exact .inr (by simp;omega)
      refine ab (wpAny_attempt (cA (name:=zZ "__next__") tz dE
        (cP dE tz F.entry_zip_next (Hw hh D V ht G j1 j2 m1 m2 J λu e U he=>?_) (F.args_zip_next_1 _))))
      obtain⟨o,ho,hc⟩:=he;refine ab (wpAny_isInstance (T:="StopIteration") (b:=true) ⟨o,ho,hc⟩ isSubtype_stop (ak ?_));have d:∀a o v n,s.heap.get? a=Y o->o.data=.seq v n->u.get? a=Y o:=λa o v n f h=>U a o (nz a o v n f h) (M a o v n f h) (L a o v n f h) f;show wpAny _ A.in1 (ret Value.none) _ _ _;refine ak (hR u acc c (by omega) (λj v e=>?_) (d _ _ _ _ hS rfl) λa o e=>?_)
      · obtain⟨T',x',y',r1,r2,r3,r4,r5⟩:=W j v e
        exact⟨T',x',y',r1,r2,r3,d _ _ _ _ r4 rfl,r5⟩
      · have a2:a≠z:=λq=>by rw[q,B.2.1] at e;cases e
        have a3:a≠E:=λq=>by rw[q,B.2.2.1] at e;cases e
        have a4:a≠C:=λq=>by rw[q,B.2.2.2] at e;cases e
        exact U a o a2 a3 a4 (Q a o e)
theorem Ar{S z J I E B O N:Addr}{g k:Array Value}{a b:Value}{c:Nat} (d:Heap) (hh:A.in1.handled=Z) (D:ZipApart z J I E B O N) (t:d.get? S=Z/\d.get? z=Z/\d.get? E=Z/\d.get? B=Z) (nTO:d.get? I=Z) (G:(∃o,d.get? O=Y o)/\∃o,d.get? N=Y o) (hn:min g.size k.size<=sizeLine)
  (hz:IsZip s.heap z J I .none) (l:IsPair s.heap J (.ref E) (.ref B)) (H:IsPair s.heap I a b) (j1:s.heap.IsListIter E O 0) (j2:s.heap.IsListIter B N 0) (m1:s.heap.IsList O g) (m2:s.heap.IsList N k)
  (U:s.heap.get? S=Y (zl #[] c)) (kp0:∀b o,d.get? b=Y o->s.heap.get? b=Y o)
  (hR:∀h' its c',its.size=min g.size k.size->CZ S h' g k its->h'.get? S=Y (zl its c')->(∀b o,d.get? b=Y o->h'.get? b=Y o)->R (.ok (.ret .none)) { s with heap:=h' }):
  codeAny (model prog w) A (.builtin "list.extend.loop" ⟨[.ref S,.ref z,.none],[]⟩) R s:=by
 refine cj F.entry_extend_loop ?_;rw[bW b0 _];show wpAny _ A.in1 (pyNext (.ref z)>>=_) _ _ s;have M:∀a o,s.heap.get? a=Y o->o.cls≠.type "list"->a≠S:=λa o i m q=>by subst q;rw[U] at i;cases i;exact m rfl
 have YC:O≠S:=λq=>by obtain⟨o,e⟩:=G.1;rw[q,t.1] at e;cases e
 have YD:N≠S:=λq=>by obtain⟨o,e⟩:=G.2;rw[q,t.1] at e;cases e
 have X:z≠S:=M z _ hz (by intro q;injection q with q;revert q;decide);have YE:J≠S:=M J _ l (by intro q;injection q with q;revert q;decide);have W:I≠S:=M I _ H (by intro q;injection q with q;revert q;decide);have C:E≠S:=by obtain⟨o,i,m,V⟩:=id j1;exact M E o i (by rw[m];intro q;injection q with q;revert q;decide)
 have u:B≠S:=by obtain⟨o,i,m,V⟩:=id j2;exact M B o i (by rw[m];intro q;injection q with q;revert q;decide)
 have r:∀h':Heap,(∀c o,c≠z->c≠I->c≠E->c≠B->s.heap.get? c=Y o->h'.get? c=Y o)->∀a o,d.get? a=Y o->h'.get? a=Y o:=λh' h a o e=>
  h a o (λq=>by rw[q,t.2.1] at e;cases e) (λq=>by rw[q,nTO] at e;cases e) (λq=>by rw[q,t.2.2.1] at e;cases e) (λq=>by rw[q,t.2.2.2] at e;cases e) (kp0 a o e)
 by_cases Rt:0<min g.size k.size
 ·obtain⟨x,hx⟩:∃x,g[0]?=Y x:=⟨g[0]'(by omega),by simp⟩
  obtain⟨y,hy⟩:∃y,k[0]?=Y y:=⟨k[0]'(by omega),by simp⟩
  refine ab (wpAny_pyNext_zip_item D hz l H j1 j2 m1 m2 hx hy λh' Yz aad YA YB P sz h=>?_);have Q:h'.get? S=Y (zl #[] c):=h S _ (Ne.symm X) (Ne.symm W) (Ne.symm C) (Ne.symm u) U;show wpAny _ A.in1 (updateSeq S (·.push (.ref (zB s)))>>=_) _ _ _;refine ab (bZ Q rfl ?_);have K:=bA (Obj.mapSeq (·.push (Value.ref (zB s)))) Q rfl;have f:∀a o,a≠S->h'.get? a=Y o->(h'.update S (Obj.mapSeq (·.push (Value.ref (zB s))))).get? a=Y o:=λa o q e=>(bg _ _ (Ne.symm q)).trans e;have p:(zB s)≠S:=λq=>by have:=aq U;rw[<-q] at this;exact aW _ this
  refine ak ⟨cE b0 _,C0 (T:=(zB s)) d hh D t G hn (min g.size k.size - 1) 1 _ #[.ref (zB s)] _ false rfl Rt rfl ⟨_,f _ _ p P,_,_,rfl,rfl⟩ (f _ _ X Yz) (f _ _ YE (h J _ D.TIz D.TITO D.TIi1 D.TIi2 l)) (YA.at λo e=>f _ _ C e) (YB.at λo e=>f _ _ u e) ?_ ?_ K ?_ (λa o e=>?_) λh2 its c' q1 q2 q3 q4=>hR h2 its c' q1 q2 q3 q4⟩
  ·obtain⟨o,i,m,n,V⟩:=m1;exact⟨o,f _ _ YC (h _ _ D.l1z D.l1TO D.l1i1 D.l1i2 i),m,n,V⟩
  ·obtain⟨o,i,m,n,V⟩:=m2;exact⟨o,f _ _ YD (h _ _ D.l2z D.l2TO D.l2i1 D.l2i2 i),m,n,V⟩
  ·intro j v e;cases j with
   |zero=>cases e;exact⟨_,x,y,rfl,hx,hy,f _ _ p P,aq U⟩
   |succ j=>simp at e
  ·exact f a o (λq=>by rw[q,t.1] at e;cases e) (r h' h a o e)
 ·have L:g[0]?=Z\/k[0]?=Z:=by
   by_cases q:g.size<=0
   ·exact .inl (cD (by omega))
   ·exact .inr (cD (by omega))
  refine ab (wpAny_pyNext_zip_end hh D hz l H j1 j2 m1 m2 L λh' h=>?_);show wpAny _ A.in1 (ret Value.none) _ _ _;exact ak (hR h' #[] c (by show 0=_;omega) (λj v e=>by simp at e) (h S _ (Ne.symm X) (Ne.symm W) (Ne.symm C) (Ne.symm u) U) (r h' h))
def C1:typeLookup (.type "zip") "__len__"=pure Z:=by rw[d7,dv];kernel_rfl
def As:typeLookup (.type "zip") "__length_hint__"=pure Z:=by rw[d7,dv];kernel_rfl
def Au{z u k t r p n:Addr}{m l:Array Value}{a b:Value}{Q:Px} (d:Heap) (hh:A.handled=Z) (D:ZipApart z u k t r p n) (V:d.get? z=Z/\d.get? t=Z/\d.get? r=Z) (y:d.get? k=Z) (C:(∃o,d.get? p=Y o)/\∃o,d.get? n=Y o) (hn:min m.size l.size<=sizeLine) (I:d.objs.size<=(zB s))
  (hz:IsZip s.heap z u k .none) (G:IsPair s.heap u (.ref t) (.ref r)) (F:IsPair s.heap k a b) (j1:s.heap.IsListIter t p 0) (j2:s.heap.IsListIter r n 0) (X:s.heap.IsList p m) (W:s.heap.IsList n l) (B:∀b o,d.get? b=Y o->s.heap.get? b=Y o)
  (h:∀h' its c,its.size=min m.size l.size->CZ (zB s) h' m l its->h'.get? (zB s)=Y (zl its c)->(∀b o,d.get? b=Y o->h'.get? b=Y o)->Q (.ref (zB s)) { s with heap:=h' }):
  wpAny (model prog w) A (call (.type "list") [.ref z]) Q E s:=by
 have v:z<(zB s):=aq hz;refine wx λH c j K=>?_;have g:IsZip H z u k .none:=K _ _ hz;have x:Shared.TypeIs { s with heap:=H } (.ref z) "zip":=⟨_,g,rfl⟩
 unfold Builtin.List.listExtendWith;refine ab (ck x ?_);have U:Builtin.List.listSameRef (.ref (zB s)) (.ref z)=false:=by simp[Builtin.List.listSameRef,cN v]
 have T:(Value.type "zip"==Value.type "list")=false:=by decide
 have S:(Value.type "zip"==Value.type "tuple")=false:=by decide
 simp only[U,T,S,et,bG,cT];refine ab (wpAny_pyIter_zip g (ab (bp ?_)));unfold Builtin.List.listLengthHint;refine ab (dD x C1 ?_);dsimp only;rw[ai (by decide),ai (by decide)];refine ab (dD x As ?_);show wpAny _ _ (pure true) _ _ _;refine ak ?_;rw[ag (by decide)];refine ab (dz (ab ?_));show wpAny _ _ (updateSeq (zB s) (·.push .none)>>=λ_=>updateSeq (zB s) (·.pop)) _ _ _;refine ab (bZ j rfl ?_);have i:=bA (Obj.mapSeq (·.push Value.none)) j rfl;refine bZ (hz:=by seq_fits) i rfl ?_;have J:=bA (Obj.mapSeq (·.pop)) i rfl;have f:∀b o,s.heap.get? b=Y o->((H.update (zB s) (Obj.mapSeq (·.push Value.none))).update (zB s) (Obj.mapSeq (·.pop))).get? b=Y o :=
  λb o e=>by
   have L:(zB s)≠b:=λq=>by have:=aq e;rw[<-q] at this;exact aW _ this
   exact(bg _ _ L).trans ((bg _ _ L).trans (K b o e))
 have R:d.get? (zB s)=Z:=by
  cases q:d.get? (zB s) with
  |none=>rfl
  |some o=>have:=aq q;exact absurd (aJ this I) (aW _)
 refine ak ⟨cE b0 _,Ar d (show A.in1.in1.handled=Z from hh) D ⟨R,V⟩ y C hn (f _ _ hz) (f _ _ G) (f _ _ F) (j1.at λo e=>f _ _ e) (j2.at λo e=>f _ _ e) (X.at λo e=>f _ _ e) (W.at λo e=>f _ _ e) J (λb o e=>f b o (B b o e)) λh' its c' P O N M=>⟨rfl,h h' its c' P O N M⟩⟩
end
end PySem
namespace L2
open PySem PySem.Spec PyProof.Rows PySem.Builtin PySem.Builtin.Str
section
variable {h':Heap}
def eX.Qx{t':Nat}{i1 i2:Addr}(I:eX X pins σ H s)(k:∀b o,b≠i1->b≠i2->s.heap.get? b=Y o->h'.get? b=Y o)(A:mv X pins H i1)(y:mv X pins H i2):eX X pins σ H { s with heap:=h',toks:=t' }:=by
 obtain⟨w,h,_,j,E,p⟩:=A;obtain⟨t,g,_,i,D,l⟩:=y;have d:∀b u,H b=Y u->b≠i1/\b≠i2:=λb u e=>⟨(λz=>by rw[z,w] at e;cases e),(λz=>by rw[z,t] at e;cases e)⟩
 have a:∀b,b∉[i1,i2]->b≠i1/\b≠i2:=λb f=>⟨λz=>f (by simp[z]),λz=>f (by simp[z])⟩
 refine I.step (g':=s.gens) (d':=s.drawn) (ch:=[i1,i2]) ?_ (λb o _ _ hc e _=>k b o (a b hc).1 (a b hc).2 e) (λb o _ _ hc e _=>⟨o.slots,k b o (a b hc).1 (a b hc).2 e⟩) (λ_ _ _ _ n=>n)
  (λb o hc e=>⟨o,k b o (a b hc).1 (a b hc).2 e⟩) (λ_ _ e=>e) (λ_ _ _ e=>e) (λb ps e=>⟨#[],by rw[e];simp⟩) ?_ ?_ I.bare
 ·intro b f;rcases av.mp f with e|f
  ·subst e;exact⟨j,h,E,p⟩
  ·have e:b=i2:=by simpa using f
   subst e;exact⟨i,g,D,l⟩
 ·rintro m ⟨o,B,C,x,r⟩;exact⟨o,B,C,k _ o (Ne.symm h) (Ne.symm g) x,r⟩
 ·intro b u e;refine(I.ij b u e).tw (λc v hc q=>?_) (λ_ q=>q) λ_ _ q=>q;rcases hc with z|z
  ·rw[z] at q ⊢;exact k _ _ (d b u e).1 (d b u e).2 q
  ·exact k _ _ (d c _ z).1 (d c _ z).2 q
end
def YF(K:Fg)(l:Addr):It where
 go:=λi H=>∃a x,j0 K H l a/\a[i]?=Y x
 Kj:=λi H y c=>∃T x,y=.ref T/\H T=Z/\(∀b,j0 K H l b->b[i]?=Y x)/\c=upd H T (.tup [.int (i:Nat),x])
 stop:=λi H=>∃a,j0 K H l a/\a.length<=i
def KW{P:Program}{J:Lx}{kt:Nat}{tp:Pos}(l r j:Addr)(D:r≠j):Cj P w K (.Tuple J kt tp) (YF K l) [r,j] r (λi h=>(∃g,IsEnum h r j (i:Nat) g)/\h.IsListIter j l i) where
 mem:=by simp
 obj:=λi h m b f=>by
  obtain⟨⟨g,n⟩,A⟩:=m;rcases av.mp f with e|f
  ·subst e;exact⟨_,n,λv z=>by cases z⟩
  ·have e:b=j:=by simpa using f
   subst e;obtain⟨o,e,c,d⟩:=A;exact⟨o,e,λv z=>by rw[d] at z;cases z⟩
 keep:=λi h h' m k=>⟨by obtain⟨g,n⟩:=m.1;exact⟨g,k r (by simp) _ n⟩,m.2.at λo e=>k j (by simp) o e⟩
 item:=by
  intro X V hw W hc i t s σ H E I S m R;subst V hw W;obtain⟨⟨g,n⟩,A⟩:=m;obtain⟨xs,x,L,O⟩:=R;obtain⟨N,M,p,hz⟩:=I.list L;obtain⟨u,hu,ru⟩:=M.get O;refine wpAny_pyNext_enum_item n A p.isList (x:=u) (by simpa using hu) D λh1 T Q C hsz kp=>⟨_,rfl,?_⟩
  refine wpAny_letOwnedTupleGo_enum T λh2 U sb=>?_;have G:r<(zB s):=aq n;have B:j<(zB s):=by obtain⟨o,e,_⟩:=A;exact aq e
  have I1:=I.laid (a:=(zB s)) (o:=.tup [.int (i:Nat),x]) (t':=s.toks+1) (h':=s.heap.push { cls:=.type "tuple",data:=.seq #[.int i s.toks,u] }) (λ_ _ q=>aj _ q) (ax _) ⟨by show 2<=sizeLine;decide,[.int i s.toks,u],.cons ⟨_,rfl⟩ (.cons ru .nil),_,aA _ rfl,rfl,0,rfl⟩;have y:∀b∈[r,j],mv X t (upd H (zB s) (.tup [.int (i:Nat),x])) b:=λb f=>by
   obtain⟨g1,g2⟩:=S b f;refine⟨?_,g2⟩;have:b≠(zB s):=by
    rcases av.mp f with e|f
    ·rw[e];exact aG G
    ·rw[show b=j by simpa using f];exact aG B
   rw[eM this];exact g1
  have I2:=I1.Qx (h':=h2) (t':=s.toks+1) (i1:=r) (i2:=j) (λb o b1 b2 e=>(sb.2 b b1).trans (by
   by_cases f:b=(zB s)
   ·subst f;have e':Y o=Y { cls:=.type "tuple",data:=.seq #[.int i s.toks,u] }:=e.symm.trans (aA _ rfl);cases e';exact C
   ·have F:=aq e;rw[cy] at F;have aae:b<(zB s):=Nat.lt_of_le_of_ne (Nat.le_of_lt_succ F) f;have q:s.heap.get? b=Y o:=(Heap.get?_push_ne _ _ _ f).symm.trans e;exact kp b o b1 b2 q)) (y r (by simp)) (y j (by simp))
  exact⟨.ref (zB s),_,I2,rfl,⟨_,x,rfl,I.fresh,λys hy=>by rw[I.qj hy L];exact O,rfl⟩,⟨⟨u,U⟩,Q.at λo e=>(sb.2 _ (Ne.symm D)).trans e⟩,λb f=>(y b f).1⟩
 done:=by intro X V hw W hc i t s σ H E I S m R;subst V hw W;obtain⟨⟨g,n⟩,A⟩:=m;obtain⟨xs,L,O⟩:=R;obtain⟨N,M,p,hz⟩:=I.list L;obtain⟨f0,f1,f2,f3,f4,f5⟩:=S j (by simp);have hl:=M.length;exact wpAny_pyNext_enum_end (I.ok.hd hc) n A p.isList (by simp;omega) λh' eb=>⟨rfl,I.turned (t':=s.toks) (λb o f e=>eb b o f e) f0 f1 f3 f4 f5⟩
 self:=λ_ _ _ _ _ m h=>by obtain⟨g,n⟩:=m.1;exact wpAny_pyIter_enum n h
section
variable {a o:Expr}{fb fc f:ee->Od}{p2 fJ:Pos}
def VG(K:Fg)(c:TE):TI:=λσ H R=>c σ H λv a=>∃l b,v=.ref l/\j0 K a l b/\R (YF K l) a
def Jt{g:Lx}{u:Nat}{o:Pos}{m:TE}(C:Gl X "enumerate")(B:X.mg "enumerate"=Z)(D:PE X e m)(n:starEach [e] X.env=[(false,eval e X.env)]:=by rfl):PI X (.Tuple g u o) (.Call (.Name "enumerate" p) [e] [] pos) (VG X.K m):=by
 intro a s σ H R I h;refine aX (nv I C B (by rfl) ?_);refine bf ?_ (by rw[n];rfl) (by rfl);rw[n];refine aT (gO (@D a s σ H _ I h) ?_);rintro v c ⟨x,k,i,r,l,L,G,A,q⟩;refine bu ?_;subst G;cases r;obtain⟨y,N,t,O⟩:=i.list A;refine call_enumerate_list t.isList λE f j M w=>?_;refine wpAny_pyIter_enum f ?_;have J:eX X a σ k { c with heap:=E }:=i.kept (t':=c.toks) w;have F:∀b,(zB c)<=b->mv X a k b:=λb d=>i.ym d (i.ij.fresh d);exact⟨_,[(zB c)+1,(zB c)],_,_,k,rfl,J,KW l _ _ (cN (cO _)),⟨⟨_,f⟩,j⟩,λb d=>F b (by
  rcases av.mp d with z|d
  ·rw[z];exact dQ _
  ·rw[show b=(zB c) by simpa using d];exact ax _),q⟩
noncomputable def yT(a:Lp):Lp:=a.zipIdx.map λx=>.tuple [.int x.2,x.1]
noncomputable def Nx(f:ee->Od):ee->Option Lp:=λρ=>(f ρ).bind λd=>match d with | .list ds=>Y (yT ds)|_=>Z
def KY(h:(yT ds)[i]?=Y d):∃x,ds[i]?=Y x/\d=.tuple [.int (i:Nat),x]:=by
 unfold yT at h;rw[az,List.getElem?_zipIdx] at h;cases q:ds[i]? with
 |none=>rw[q] at h;cases h
 |some x=>rw[q] at h;simp at h;exact⟨x,rfl,h.symm⟩
def wz{c:Hp}{l:Addr}(b:j0 K c l vs)(j:dn K c ds vs):nK K (YF K l) (yT ds) c:=λu a=>by
 have p:(yT ds).length=ds.length:=by simp[yT]
 refine⟨⟨vs,a.seq b,by rw[p,j.length];exact ax _⟩,λi d q=>?_⟩;obtain⟨x,r,rfl⟩:=KY q;obtain⟨v,h,s⟩:=j.get r;refine⟨⟨vs,v,a.seq b,h⟩,?_⟩;rintro y t ⟨T,z,o,f,n,m⟩;have e:=n vs (a.seq b);rw[h] at e;cases e;subst o m;refine⟨hE f,λw k g=>eI.iX.mpr ⟨T,_,rfl,pW.of (by rw[g T f];exact eS),dn.cons (eI.eR.mpr rfl) (dn.cons (s.same k) dn.nil)⟩⟩
end
end L2
namespace L2
open PySem PySem.Spec PyProof.Rows PySem.Builtin PySem.Builtin.Str
def YG(x:Str):It where
 go:=λi _=>i<x.cps.size
 Kj:=λi H y a=>a=H/\∃c,x.cps[i]?=Y c/\y=.str ⟨#[c]⟩
 stop:=λi _=>x.cps.size<=i
def EX{P:Program}{D:String}(p:D="str_ascii_iterator"\/D="str_iterator")(x:Str)(t:Tok)(m:Addr):Cj P w K tg (YG x) [m] m (λi h=>h.IsStrIter m D x t i) where
 mem:=by simp
 obj:=λi h f b a=>by
  have e:b=m:=by simpa using a
  subst e;obtain⟨o,e,c,d⟩:=f;exact⟨o,e,λv z=>by rw[d] at z;cases z⟩
 keep:=λi h l f k=>by obtain⟨o,e,r⟩:=f;exact⟨o,k m (by simp) o e,r⟩
 item:=by
  intro X J hw L G i j s σ H E I q f hg;subst J hw L;obtain⟨C,B,O,A,y,u⟩:=q m (by simp);have n:x.cps[i]?=Y (x.cps[i]'hg):=Array.getElem?_eq_getElem hg;rcases p with rfl|rfl
  ·refine wpAny_pyNext_ascii_item f n λl g F=>?_;have N:eX X j σ H { s with heap:=l,toks:=s.toks+1 }:=I.turned (t':=s.toks+1) (λb o a e=>(F.2 b a).trans e) C B A y u;obtain⟨o,e,c,d⟩:=id g;exact⟨_,rfl,yn (s:={ s with heap:=l,toks:=s.toks+1 }) e c d (by decide) ⟨.str _,H,N,⟨_,rfl⟩,⟨rfl,_,n,rfl⟩,g,λb a=>(q b a).1⟩⟩
  ·refine wpAny_pyNext_wide_item f n λl g F=>?_;have N:eX X j σ H { s with heap:=l,toks:=s.toks+1 }:=I.turned (t':=s.toks+1) (λb o a e=>(F.2 b a).trans e) C B A y u;obtain⟨o,e,c,d⟩:=id g;exact⟨_,rfl,yn (s:={ s with heap:=l,toks:=s.toks+1 }) e c d (by decide) ⟨.str _,H,N,⟨_,rfl⟩,⟨rfl,_,n,rfl⟩,g,λb a=>(q b a).1⟩⟩
 done:=by
  intro X J hw L G i j s σ H E I q f hg;subst J hw L;obtain⟨C,B,O,A,y,u⟩:=q m (by simp);have n:x.cps[i]?=Z:=cD hg;rcases p with rfl|rfl
  ·exact wpAny_pyNext_ascii_end (I.ok.hd G) f n λl M=>⟨rfl,I.turned (t':=s.toks) (λb o a e=>M b o a e) C B A y u⟩
  ·exact wpAny_pyNext_wide_end (I.ok.hd G) f n λl M=>⟨rfl,I.turned (t':=s.toks) (λb o a e=>M b o a e) C B A y u⟩
 self:=λ_ _ _ _ _ f h=>by
  rcases p with rfl|rfl
  ·exact wpAny_pyIter_striter_ascii f h
  ·exact wpAny_pyIter_striter_wide f h
section
variable {a o:Expr}{fb fc f:ee->Od}{p2 fJ:Pos}
def S4{g:TE}(l:PE X e g):PI X tg e (λσ H R=>g σ H λv d=>∃x,v=.str x/\R (YG x) d):=by
 intro a s σ H R I h;refine gO (@l a s σ H _ I h) ?_;rintro v c ⟨y,d,f,k,x,n,q⟩;subst n;obtain⟨t,rfl⟩:=k;have j:∀b∈[(zB c)],mv X a d b:=λb m=>by rw[show b=(zB c) by simpa using m];exact f.ym (ax _) (f.ij.fresh (ax _))
 cases i:x.cps.all (·<128)
 ·exact wpAny_pyIter_wide i ⟨_,[(zB c)],_,_,d,rfl,f.kept (t':=c.toks) λb o e=>aj _ e,EX (.inr rfl) x t _,⟨_,aA _ rfl,rfl,rfl⟩,j,q⟩
 ·exact wpAny_pyIter_ascii i ⟨_,[(zB c)],_,_,d,rfl,f.kept (t':=c.toks) λb o e=>aj _ e,EX (.inl rfl) x t _,⟨_,aA _ rfl,rfl,rfl⟩,j,q⟩
def yU(x:Str):Lp:=x.cps.toList.map λc=>.str ⟨#[c]⟩
noncomputable def wA(f:ee->Od):ee->Option Lp:=λρ=>(f ρ).bind λd=>match d with | .list ds=>Y ds | .tuple ds=>Y ds | .str x=>Y (yU x)|_=>Z
def Hx(x:Str)(G:Hp):nK K (YG x) (yU x) G:=λk h=>by
 have f:(yU x).length=x.cps.size:=by simp[yU]
 refine⟨by show x.cps.size<=_;rw[f];exact ax _,λi d q=>?_⟩;have g:i<x.cps.size:=by have:=(au.mp q).1;omega
 refine⟨g,?_⟩;rintro y j ⟨e,c,b,a⟩;subst e a;have:d=.str ⟨#[c]⟩:=by unfold yU at q;rw[az,Array.getElem?_toList,b] at q;cases q;rfl
 subst this;exact⟨.refl _,λl _ _=>eI.fq.mpr rfl⟩
def nM(h:PD X e f):S1 X tg e (wA f) :=
 PI.imp (PI.or (Ql h) (S4 h)) <| by
  rintro σ H R ⟨ρ,g,b,e,k⟩;obtain⟨d,c,a⟩:=bind_some e;cases d with
  |list j=>exact .inl ⟨ρ,g,b,by show (f ρ).bind _=_;rw[c];exact a,k⟩
  |tuple j=>exact .inl ⟨ρ,g,b,by show (f ρ).bind _=_;rw[c];exact a,k⟩
  |str x=>cases a;exact .inr ⟨ρ,_,b,c,λv i l m=>⟨x,eI.fq.mp m,k _ i l (Hx x i)⟩⟩
  |_=>cases a
def EY{a:Lx}{o:Nat}{m:Pos}(s:Gl X "enumerate")(r:X.mg "enumerate"=Z)(h:PD X e f)(b:starEach [e] X.env=[(false,eval e X.env)]:=by rfl):S1 X (.Tuple a o m) (.Call (.Name "enumerate" p) [e] [] pos) (Nx f) :=
 PI.imp (Jt s r h b) <| by
  rintro σ H R ⟨ρ,x,b,e,k⟩;obtain⟨d,u,i⟩:=bind_some e;obtain⟨c,rfl⟩:∃c,d=.list c:=by cases d<;>first|exact⟨_,rfl⟩|cases i
  cases i;refine⟨ρ,_,b,u,λv w n q=>?_⟩;obtain⟨l,j,rfl,g,t⟩:=eI.eZ.mp q;exact⟨l,j,rfl,g,k _ w n (wz g t)⟩
noncomputable def nN:Lp->Od
 |[.dict kvs]=>if iq kvs=true then Z else Y (.list (kvs.map (·.1)))
 |ds=>Jj ds
def vw{P:Program}{k:Key}{v:Value}(h:(fD P w).is k v=true):fT (kV k) v:=by
 rcases g9 h with ⟨i,t,rfl,rfl⟩ | ⟨x,t,rfl,rfl⟩
 ·exact⟨t,rfl⟩
 ·exact⟨t,rfl⟩
theorem vy{K:Fg}{H H':Hp}:∀{a:List (eA×eA)}{b:List (Key×V)},fZ K H a b->dn K H' (a.map (·.1)) (b.map λx=>kV x.1)
 |[],_,h=>by rw[fZ.eP.mp h];exact dn.nil
 | (k,d)::r,_,h=>by
  obtain⟨y,v,c,rfl,rfl,i,t⟩:=fZ.eE.mp h;refine dn.cons ?_ (vy t);cases y with
  |inl i=>exact eI.eR.mpr rfl
  |inr x=>exact eI.fq.mpr rfl
theorem BG{P:Program}{w:World}:∀{d:List (Key×V)}{c:List (Key×Value)}{its:Lw},KV d c->its.length=c.length->(∀(j:Nat) v,its[j]?=Y v->∃k x,c[j]?=Y (k,x)/\(fD P w).is k v=true)->fO (d.map λx=>kV x.1) its
 |_,_,its,.nil,hl,_=>by
  cases its with
  |nil=>exact .nil
  |cons _ _=>simp at hl
 |_,_,its,.cons (a:=p) (b:=q) h t,hl,hi=>by
  cases its with
  |nil=>simp at hl
  |cons u l=>
   obtain⟨k,x,i,g⟩:=hi 0 u rfl;have f:q=(k,x):=by simpa using i
   refine .cons ?_ (BG t (by simpa using hl) λj v e=>hi (j+1) v (by simpa using e));show fT (kV p.1) u;rw[h.1,f];exact vw g
def Ny(F:X.calm=true):jc X (.type "list") (λxs H Q=>∃l c,dn X.K H l xs/\nN l=Y c/\KO X.K H c Q):=by
 have E:jc X (.type "list") (λxs H Q=>∃b d p,xs=[V.ref p]/\Rd H p (.dK d)/\fZ X.K H b d/\KO X.K H (.list (b.map (·.1))) Q):=by intro n s σ H xs T Q I r h;obtain⟨b,d,p,rfl,C,A,k⟩:=h;obtain⟨u,rfl,t⟩:=tF r;cases t;obtain⟨z,G,S,f,N⟩:=rO I.ij C;refine yS (knd:=fD X.prog X.w) (I.ok.hd F) G N (by rw[<-f.length];exact z) λU q its O D g m y=>?_;have B:=BG (P:=X.prog) (w:=X.w) (its:=its.toList) f (by simpa using D) (λj v e=>g j v (by simpa using e));have R:=I.laid (a:=(zB s)) (o:=.lst (d.map λx=>kV x.1)) (t':=q) y (ax _) ⟨by rw[aF];exact z,its.toList,O,B,by simpa using m⟩;exact⟨.ref (zB s),_,R,rfl,k.yC (vy A) _ I.fresh⟩
 refine jc.imp (jc.or Qn E) ?_;rintro xs H Q ⟨l,c,i,e,k⟩;unfold nN at e;split at e
 ·rename_i b;by_cases g:iq b=true
  ·rw[ag g] at e;cases e
  ·rw[ai g] at e;cases e;obtain⟨v,rfl,J⟩:=iD i;obtain⟨p,d,rfl,M,L⟩:=J.nE (by simpa using g);exact .inr ⟨b,d,p,rfl,M,L,k⟩
 ·exact .inl ⟨l,c,i,e,k⟩
def oy(l:X.calm=true)(i:Gl X "list")(h:X.mg "list"=Z)(m:Bp X (e::es) ff)(j:zE e es X:=by rfl)(a:(backTo pos (starEach es X.env)).any (·.1)=false:=by rfl):
  PF X (.Call (.Name "list" p) (e::es) [] pos) (iC nN ff) :=
 PE.imp (vi (Ny l) i h (by rfl) m (by decide) (by decide) j a) <| by rintro σ H Q ⟨ρ,d,g,e,k⟩;obtain⟨b,o,n⟩:=bind_some e;exact⟨ρ,b,g,o,λq r c f=>⟨b,d,f,n,k.later c⟩⟩
noncomputable def KZ(b a:Lp):Lp:=(b.zip a).map λp=>.tuple [p.1,p.2]
noncomputable def VH(x y:eA):Od:=match x,y with
 |.list xs,.list ys=>Y (.list (KZ xs ys))
 |_,_=>Z
def eX.Nz{a:Addr}{u:HO}(I:eX X pins σ H s)(f:mv X pins H a)(h:iK X.prog X.w (upd H a u) s.heap a u):eX X pins σ (upd H a u) s:=by
 obtain⟨k,l,_,i,p,j⟩:=f;have d:∀b v,H b=Y v->upd H a u b=Y v:=λb v e=>by rw[eM (gm e k)];exact e
 have:=I.step (g':=s.gens) (d':=s.drawn) (t':=s.toks) (h':=s.heap) (H':=upd H a u) (ch:=[a]) (λb g=>by rw[show b=a by simpa using g];exact⟨i,l,p,j⟩) (λb o _ _ _ e _=>e) (λb o _ _ _ e _=>⟨o.slots,e⟩) (λb o hc _ n=>by rw[eM (λz=>hc (by simp[z]))];exact n)
  (λb o _ e=>⟨o,e⟩) (λb xs e=>d b _ e) (λb o v e=>d b _ e) (λb ps e=>⟨#[],by rw[d b _ e];simp⟩) (λm hm=>hm) ?_ I.bare
 ·exact this
 ·intro b v e;by_cases g:b=a
  ·subst g;rw[eS] at e;cases e;exact h
  ·rw[eM g] at e;exact(I.ij b v e).tw (λ_ _ _ q=>q) (λc q=>d c _ q) λc xs q=>d c _ q
def fT.uniq{x y:V}{u:Value}(a:fT x u)(b:fT y u):x=y:=by have c:=a.abs;rw[b.abs] at c;exact(bq c).symm
theorem C3{b:Ax}{σ:St}:∀(ps:List (V×V)) (us:Lw) {H:Hp}{s:Shared},eX X b σ H s->us.length=ps.length ->
  (∀(j:Nat) (v:Value) (p:V×V),us[j]?=Y v->ps[j]?=Y p->∃T x y,v=.ref T/\IsPair s.heap T x y/\fT p.1 x/\fT p.2 y/\(mv X b H T\/∃d c l k,IsPair s.heap T d c/\fT l d/\fT k c/\H T=Y (.tup [l,k]))) ->
  ∃z w,eN H z/\eX X b σ z s/\fO w us/\(∀a,H a=Z->z a=Z\/.ref a∈us)/\∀(j:Nat) (p:V×V),ps[j]?=Y p->∃T,w[j]?=Y (.ref T)/\z T=Y (.tup [p.1,p.2])
 |[],us,H,s,I,hl,_=>by
  cases us with
  |nil=>exact⟨H,[],.refl H,I,.nil,(λa h=>.inl h),λj p e=>by simp at e⟩
  |cons _ _=>simp at hl
 |p::ps,us,H,s,I,hl,hi=>by
  cases us with
  |nil=>simp at hl
  |cons v us=>
   obtain⟨T,x,y,rfl,D,B,A,L⟩:=hi 0 v p rfl rfl;have first:∃i,eN H i/\eX X b σ i s/\i T=Y (.tup [p.1,p.2])/\∀a,a≠T->i a=H a:=by
    rcases L with f | ⟨d,c,l,k,C,S,R,hT⟩
    ·refine⟨upd H T (.tup [p.1,p.2]),hE f.1,I.Nz f ⟨by show 2<=sizeLine;decide,[x,y],.cons B (.cons A .nil),_,D,rfl,0,rfl⟩,eS,λa E=>eM E⟩
    ·have e:(#[d,c]:Array Value)=#[x,y]:=by
      have U:s.heap.get? T=Y { cls:=.type "tuple",data:=.seq #[d,c] }:=C;have g:s.heap.get? T=Y { cls:=.type "tuple",data:=.seq #[x,y] }:=D;rw[U] at g;injection g with g
      injection g with _ _ g _;injection g
     have e':[d,c]=[x,y]:=by simpa using bx Array.toList e
     injection e' with F r;injection r with r _;subst F r;rw[S.uniq B,R.uniq A] at hT;exact⟨H,.refl H,I,hT,λa _=>rfl⟩
   obtain⟨i,N,I1,hT,m⟩:=first
   obtain⟨H2,w,M,I2,Q,W,K⟩:=C3 ps us (H:=i) I1 (by simpa using hl) λj v q F r=>by
    obtain⟨u,d,c,a1,a2,a3,a4,t⟩:=hi (j+1) v q (by simpa using F) (by simpa using r);refine⟨u,d,c,a1,a2,a3,a4,?_⟩;by_cases o:u=T
    ·subst o;exact .inr ⟨x,y,p.1,p.2,D,B,A,hT⟩
    ·rcases t with f | ⟨P,O,l,k,J,G,b3,b4⟩
     ·exact .inl ⟨by rw[m u o];exact f.1,f.2⟩
     ·exact .inr ⟨P,O,l,k,J,G,b3,N _ _ b4⟩
   refine⟨H2,.ref T::w,N.trans M,I2,.cons rfl Q,λa E=>?_,λj q e=>?_⟩
   ·by_cases n:a=T
    ·exact .inr (by simp[n])
    ·rcases W a (by rw[m a n];exact E) with h|h
     ·exact .inl h
     ·exact .inr (ar _ h)
   ·cases j with
    |zero=>simp at e;subst e;exact⟨T,rfl,M _ _ hT⟩
    |succ j=>obtain⟨u,J,G⟩:=K j q (by simpa using e);exact⟨u,by simpa using J,G⟩
theorem Hy{m pz:Pos} (hc:X.calm=true) (hgl:Gl X "list") (hml:X.mg "list"=Z) (hgz:Gl X "zip") (hmz:X.mg "zip"=Z) (ha:PD X a fa) (hb:PD X b fb)
  (s1:starEach [.Call (.Name "zip" pz) [a,b] [] m] X.env=[(false,eval (.Call (.Name "zip" pz) [a,b] [] m) X.env)]:=by rfl) (s2:starEach [a,b] X.env=[(false,eval a X.env),(false,eval b X.env)]:=by rfl) (s3:starEach [b] X.env=[(false,eval b X.env)]:=by rfl):
  PF X (.Call (.Name "list" p) [.Call (.Name "zip" pz) [a,b] [] m] [] pos) (d2 VH fa fb):=by
 intro c s σ H Q I ⟨ρ,d,hs,e,k⟩;obtain⟨x,e1,q1⟩:=bind_some e;obtain⟨y,e2,q2⟩:=bind_some q1;obtain⟨xs,rfl⟩:∃xs,x=.list xs:=by cases x<;>first|exact⟨_,rfl⟩|(cases y<;>cases q2)
 obtain⟨ys,rfl⟩:∃ys,y=.list ys:=by cases y<;>first|exact⟨_,rfl⟩|cases q2
 cases q2;refine aX (nv I hgl hml (by rfl) ?_);refine bf ?_ (by rw[s1];rfl) (by rfl);rw[s1];refine aT ?_;refine aX (nv I hgz hmz (by rfl) ?_);refine bf ?_ (by rw[s2,s3]) (by rw[s3];rfl);rw[s2];refine aT (gO (@ha c s σ H (λv H1=>eN H H1/\eI X.K H1 (.list xs) v) I ⟨ρ,_,hs,e1,λv H1 sH i=>⟨sH,i⟩⟩) ?_);rintro u1 t1 ⟨v1,H1,I1,r1,VI,i1⟩;refine aT (gO (@hb c t1 σ H1 (λv J=>eN H1 J/\eI X.K J (.list ys) v) I1 ⟨ρ,_,hs.same VI,e2,λv J sH i=>⟨sH,i⟩⟩) ?_);rintro u2 l ⟨v2,J,W,r2,Z7,i2⟩;refine bu ?_;obtain⟨l1,M,rfl,sq1,SV⟩:=eI.eZ.mp (i1.same Z7);obtain⟨l2,L,rfl,sq2,id2⟩:=eI.eZ.mp i2;cases r1;cases r2;obtain⟨G,S,B,z1⟩:=W.list sq1;obtain⟨F,Z8,A,z2⟩:=W.list sq2;have b1:l1<(zB l):=by obtain⟨o,n,e,_⟩:=B;exact aq e
 have b2:l2<(zB l):=by obtain⟨o,n,e,_⟩:=A;exact aq e
 have fr:∀j,(zB l)<=j->l.heap.get? j=Z:=λj hj=>by
  cases q:l.heap.get? j with
  |none=>rfl
  |some o=>exact absurd (aJ (aq q) hj) (aW _)
 have hn:min G.toArray.size F.toArray.size<=sizeLine:=by rw[aw,aw,<-S.length];omega
 refine call_zip_2 B.isList A.isList λh' hz hTI hTO j1 j2 sz kp=>bu ?_;refine Au l.heap (W.ok.hd hc) (zipApart_new b1 b2) ⟨fr _ (b8 _ _),fr _ (ax _),fr _ (b8 _ _)⟩ (fr _ (b8 _ _)) ⟨by obtain⟨o,_,e,_⟩:=B;exact⟨o,e⟩,by obtain⟨o,_,e,_⟩:=A;exact⟨o,e⟩⟩ hn (by show _<=h'.objs.size;rw[sz];exact b8 _ _) hz hTI hTO j1 j2 (Heap.IsList.at B.isList λo e=>kp _ _ e) (Heap.IsList.at A.isList λo e=>kp _ _ e) kp λh2 U cc z D C kp2=>?_;have I3:eX X c σ J { l with heap:=h2 }:=W.kept (t':=l.toks) kp2;have E:U.toList.length=(M.zip L).length:=by rw[List.length_zip,S.length,Z8.length,cw,z,aw,aw]
 have h:∀b,(zB l)<=b->mv X c J b:=λb hb=>W.ym hb (W.ij.fresh hb);obtain⟨H3,rs,P,I4,R,Eg,YH⟩:=C3 (M.zip L) U.toList I3 E λj v q g1 g2=>by
  obtain⟨T,x,y,O,YI,t3',t4',N⟩:=D j v (by simpa using g1);obtain⟨w1,w2⟩:=q;obtain⟨g3,g4⟩:=List.getElem?_zip_eq_some.mp g2;obtain⟨x',gx,rx⟩:=S.get g3;obtain⟨y',gy,ry⟩:=Z8.get g4;have ex:x'=x:=by have:G.toArray[j]?=Y x:=YI;rw[List.getElem?_toArray,gx] at this;cases this;rfl
  have ey:y'=y:=by have:F.toArray[j]?=Y y:=t3';rw[List.getElem?_toArray,gy] at this;cases this;rfl
  subst ex ey;exact⟨T,x',y',O,t4',rx,ry,.inl (h T (by have:h'.objs.size<T:=N;rw[sz] at this;exact bj (b8 _ _) (cM this)))⟩
 have w:H3 h'.objs.size=Z:=by
  rcases Eg h'.objs.size (W.ij.fresh (by rw[sz];exact b8 _ _)) with g|g
  ·exact g
  ·obtain⟨j,gj⟩:=List.mem_iff_getElem?.mp g;obtain⟨T,x,y,O,_,_,_,N⟩:=D j _ (by simpa using gj);cases O;exact absurd N (aW _)
 have fS:mv X c H3 h'.objs.size:=⟨w,(h _ (by rw[sz];exact b8 _ _)).2⟩
 have rl:rs.length<=sizeLine:=by rw[R.length,cw,z];exact hn
 have I5:=I4.Nz fS (u:=.lst rs) ⟨rl,U.toList,cc,R,by simpa using C⟩;refine⟨.ref h'.objs.size,_,I5,rfl,?_⟩;refine(k.later (VI.trans (Z7.trans P))).yC ?_ _ w;have go:∀(t f:Lp) (a1 a2:List V) (rr:List V),dn X.K J t a1->dn X.K J f a2->rr.length=(a1.zip a2).length->(∀(j:Nat) (q:V×V),(a1.zip a2)[j]?=Y q->∃T,rr[j]?=Y (.ref T)/\H3 T=Y (.tup [q.1,q.2]))->dn X.K H3 (KZ t f) rr:=by
  intro t;induction t with
  |nil=>
   intro f a1 a2 rr h1 h2 z _;rw[dn.eP.mp h1] at z;have:rr=[]:=by simpa using z
   subst this;exact dn.nil
  |cons d1 t ih=>
   intro f a1 a2 rr h1 h2 z C;obtain⟨w1,a1',rfl,g1,g2⟩:=dn.eE.mp h1;cases f with
   |nil=>
    rw[dn.eP.mp h2] at z;have:rr=[]:=by simpa using z
    subst this;exact dn.nil
   |cons d2 f=>
    obtain⟨w2,a2',rfl,g3,g4⟩:=dn.eE.mp h2;cases rr with
    |nil=>simp at z
    |cons r rr=>
     obtain⟨T,t1,l⟩:=C 0 (w1,w2) rfl;have er:r=.ref T:=by simpa using t1
     subst er;refine dn.cons (eI.iX.mpr ⟨T,_,rfl,pW.of l,dn.cons (g1.same P) (dn.cons (g3.same P) dn.nil)⟩) (ih f a1' a2' rr g2 g4 (by simpa using z) λj q e=>?_);obtain⟨T',u1,u2⟩:=C (j+1) q (by simpa using e);exact⟨T',by simpa using u1,u2⟩
 exact go xs ys M L rs SV id2 (by rw[R.length];exact E) YH
end
end L2
namespace PySem
open Builtin
def o4:entryFor table "set.update.loop"=Y Builtin.«set.update.loop»:=entryFor_of_tree (zK 0)
def lU:plainId "set.update.loop"=true:=by decide +kernel
section
variable {K:Type} [DecidableEq K] {knd:KeyKind prog w K}
def xa(a:List K)(k:K):List K:=if k∈a then a else a++[k]
def o5(a b:List K):List K:=b.foldl xa a
def EZ(a:List K)(k:K):(xa a k).length<=a.length+1:=by unfold xa;split<;>simp
inductive vz (knd:KeyKind prog w K):Lw->List K->Prop
 |nil:vz knd [] []
 |cons {v:Value}{k:K}{vs:Lw}{ks:List K}:knd.is k v=true->v.scannable=true->vz knd vs ks->vz knd (v::vs) (k::ks)
theorem yV{D I l:Addr}{a:Array Value}{R:Result->Shared->Prop}(hh:A.in1.handled=Z)(d:D≠I)(c:Heap)(G:c.get? D=Z)(u:c.get? I=Z):
  ∀(B:Lw) (ks:List K) (i:Nat) (s:Shared) (acc:List K),a.toList.drop i=B->vz knd B ks->(∀b o,c.get? b=Y o->s.heap.get? b=Y o)->s.heap.IsListIter I l i->s.heap.IsList l a->s.heap.SetOf knd D (λk=>decide (k∈acc)) acc.length->acc.length+ks.length+1<scanBound ->
  (∀j O,j.SetOf knd D (λk=>decide (k∈o5 acc ks)) (o5 acc ks).length->(∀b o,c.get? b=Y o->j.get? b=Y o)->R (.ok (.ret .none)) { s with heap:=j,toks:=O }) ->
  codeAny (model prog w) A (.builtin "set.update.loop" ⟨[.ref D,.ref I],[]⟩) R s
 |[],_,i,s,acc,C,E,h0,J,H,hd,hz,X=>by
  cases E;refine cj o4 ?_;rw[bW lU _];show wpAny _ A.in1 (pyNext (.ref I)>>=_) _ _ s;have hn:a[i]?=Z:=by have:=List.drop_eq_nil_iff.mp C;exact cD (by simpa using this)
  refine ab (dq hh J H hn λj eb=>?_);show wpAny _ A.in1 (ret Value.none) _ _ _;refine ak ?_;obtain⟨o,M,N,t,x,r⟩:=hd;exact X j s.toks ⟨o,M,N,t,eb _ _ d x,r⟩ λb o e=>eb b o (λz=>by rw[z,u] at e;cases e) (h0 b o e)
 |v::B,_,i,s,acc,C,E,h0,J,H,hd,hz,X=>by
  cases E with
  |@cons _ k _ ks hk S E=>
   refine cj o4 ?_;rw[bW lU _];show wpAny _ A.in1 (pyNext (.ref I)>>=_) _ _ s;have T:i<a.size:=by have:=bx List.length C;simp at this;omega
   have hx:a[i]?=Y v:=by have:=bx (·[0]?) C;simpa using this
   have Q:a.toList.drop (i+1)=B:=by
    have e:=bD (l:=a.toList) (i:=i) (by simpa using T);rw[C] at e;injection e with _ f
    exact f.symm
   refine ab (c7 J H hx λj Yu P=>?_);have W:j.SetOf knd D (λk=>decide (k∈acc)) acc.length:=by obtain⟨o,M,N,t,x,r⟩:=id hd;exact⟨o,M,N,t,(P.2 _ d).trans x,r⟩
   have nI:∀b o y n,s.heap.get? b=Y o->o.data=.seq y n->b≠I:=λb o y n g f z=>by subst z;obtain⟨oi,ei,ci,di⟩:=J;rw[g] at ei;cases ei;rw[f] at di;cases di
   have nD:∀b o y n,s.heap.get? b=Y o->o.data=.seq y n->b≠D:=λb o y n g f z=>by subst z;obtain⟨o',M,N,t,x,_,F,_⟩:=hd;rw[g] at x;cases x;rw[f] at F;cases F
   show wpAny _ A.in1 (holding [v] (setAdd D v)>>=_) _ _ _;refine ab (bp ?_);unfold setAdd;refine bp (ab (knd.pyHash hk ?_));simp only[aV] at hz;refine wpAny_setAddHashed_of (knd:=knd) (s:={ s with heap:=j,toks:=s.toks+1 }) hk S W (by omega) λL m V=>?_;have p:L.SetOf knd D (λh=>decide (h∈xa acc k)) (xa acc k).length:=by
    have g:(λh=>decide (h∈acc)||decide (h=k))=λh=>decide (h∈xa acc k):=by
     funext h
     unfold xa;by_cases q:k∈acc
     ·rw[ag q];by_cases q2:h=k
      ·subst q2;simp[q]
      ·simp[q2]
     ·rw[ai q];simp
    have f:(if decide (k∈acc)=true then acc.length else acc.length+1)=(xa acc k).length:=by
     unfold xa;by_cases q:k∈acc
     ·simp[q]
     ·simp[q]
    rw[<-g,<-f];exact V
   refine ak ⟨cE lU _,?_⟩;have U:L.IsList l a:=by obtain⟨o,g,f,n,e3⟩:=H;exact⟨o,(m.2 _ (nD _ _ _ _ g e3)).trans ((P.2 _ (nI _ _ _ _ g e3)).trans g),f,n,e3⟩
   have Yw:L.IsListIter I l (i+1):=Yu.at λo e=>(m.2 _ (Ne.symm d)).trans e;refine yV hh d c G u B ks (i+1) { s with heap:=L,toks:=s.toks+1 } (xa acc k) Q E (λb o e=>?_) Yw U p ?_ λh3 O p k3=>X h3 O p k3
   ·have b1:b≠I:=λz=>by rw[z,u] at e;cases e
    have b2:b≠D:=λz=>by rw[z,G] at e;cases e
    exact(m.2 b b2).trans ((P.2 b b1).trans (h0 b o e))
   ·have:=EZ acc k;omega
theorem Av{l:Addr}{o:Obj}{c:Array Value}{n:Nat}{u:List K}{Q:Px} (W:A.handled=Z) (T:s.heap.get? l=Y o) (J:o.cls=.type "list") (i:o.data=.seq c n)
  (U:vz knd c.toList u) (D:u.length+1<scanBound)
  (h:∀h' tk,h'.SetOf knd (zB s) (λk=>decide (k∈o5 [] u)) (o5 [] u).length->(∀b o,s.heap.get? b=Y o->h'.get? b=Y o)->Q (.ref (zB s)) { s with heap:=h',toks:=tk }):
  wpAny (model prog w) A (call (.type "set") [.ref l]) Q E s:=by
 obtain⟨oc,P,O,B⟩:=o;simp only at J i;subst J i;have w1:=F.called_set.made;have w2:=F.called_set.sub;have w3:=F.called_set.notType;have w4:=F.called_set.canCreate;have w5:=F.typeCall_set_1 (.ref l);obtain⟨mc,mt,w6⟩:=F.called_set.mro;refine wpAny_call (codeAny_of_tree ?_);show wpAny _ _ (callAny (.type "set") _) _ _ _;refine ak ⟨Code.quiet_builtin _ (by decide +kernel),cj F.entry_type_call ?_⟩;rw[Around.under_plain (weight_type_call_type "set" [.ref l] []) rfl]
 repeat (any_goals (first|assumption|wp_step))
 refine c9 (code_set_new_1 (.ref l) (E:=E) (Q₁:=λv t=>∃a:Bool,v=.ref (zB s)/\t={ s with heap:=s.heap.push { cls:=.type "set",dict:=Z,data:=.set #[] 0 (.fresh 0 0 a) } }) λa=>⟨a,rfl,rfl⟩) λN t1 f=>?_
 match N,f with
 |.error e,f=>exact f
 |.ok .next,f=>exact f.elim
 |.ok .brk,f=>exact f.elim
 |.ok .cont,f=>exact f.elim
 |.ok (.ret v),⟨a,e1,e2⟩=>
  subst e1 e2;have x:(s.heap.push { cls:=.type "set",dict:=Z,data:=.set #[] 0 (.fresh 0 0 a) }).get? (zB s)=Y { cls:=.type "set",dict:=Z,data:=.set #[] 0 (.fresh 0 0 a) }:=aA _ rfl;have H:(s.heap.push { cls:=.type "set",dict:=Z,data:=.set #[] 0 (.fresh 0 0 a) }).get? l=Y { cls:=.type "list",dict:=P,data:=.seq c n,slots:=B }:=aj _ T;have L:Shared.TypeIs { s with heap:=s.heap.push { cls:=.type "set",dict:=Z,data:=.set #[] 0 (.fresh 0 0 a) } } (.ref (zB s)) "set":=⟨_,x,rfl⟩
  have w7:=F.called_set.init.lookup;have X:=F.called_set.init.bind (.ref (zB s))
  repeat (any_goals (first|assumption|wp_step))
  refine c9 (codeAny_call_builtin (R:=wants (λr t=>r=.none/\∃h' tk,t={ s with heap:=h',toks:=tk }/\h'.SetOf knd (zB s) (λk=>decide (k∈o5 [] u)) (o5 [] u).length/\∀b o,s.heap.get? b=Y o->h'.get? b=Y o) E) F.called_set.init.plain F.entry_set_init (check_set_init_1 L ?_)) λM t2 d=>?_
  ·have v1:=F.sub_list_set;have v2:=F.sub_list_frozenset;have v3:(Value.type "list"==Value.type "dict")=false:=by decide
   have I:(s.heap.push { cls:=.type "set",dict:=Z,data:=.set #[] 0 (.fresh 0 0 a) }).IsList l c:=⟨_,H,rfl,n,rfl⟩
   unfold Builtin.«set.__init__» noKeywords Builtin.Frozenset.updateFrom;generalize p:pyIter=walk
   wp_walk
   subst p;refine c8 I (ab (wpAny_runValue ?_));have y:(zB s)<(s.heap.push { cls:=.type "set",dict:=Z,data:=.set #[] 0 (.fresh 0 0 a) }).objs.size:=aq x;have m:∀j,(zB s)<=j->s.heap.get? j=Z:=λj V=>by
    cases q:s.heap.get? j with
    |none=>rfl
    |some z=>exact absurd (aJ (aq q) V) (aW _)
   have C:∀b o,s.heap.get? b=Y o->((s.heap.push { cls:=.type "set",dict:=Z,data:=.set #[] 0 (.fresh 0 0 a) }).push { cls:=.type "list_iterator",data:=.fields #[.ref l,.int 0 0] }).get? b=Y o:=λb o e=>aj _ (aj _ e);have g:((s.heap.push { cls:=.type "set",dict:=Z,data:=.set #[] 0 (.fresh 0 0 a) }).push { cls:=.type "list_iterator",data:=.fields #[.ref l,.int 0 0] }).SetOf knd (zB s) (λk=>decide (k∈([]:List K))) ([]:List K).length :=
    (funext λk=>by simp:(λ_:K=>false)=λk=>decide (k∈([]:List K)))▸(PyProof.Rows.setObjOf_fresh (knd:=knd) a).setOf (aj _ x) (by unfold scanBound;omega)
   refine yV (knd:=knd) (show A.in1.in1.in1.handled=Z from W) (aG y) s.heap (m _ (ax _)) (m _ (cM y)) c.toList u 0 _ [] rfl U C ⟨_,aA _ rfl,rfl,rfl⟩ (I.push _) g (by simpa using D) λh' tk G S=>?_;show wpAny _ _ _ _ _ _;refine ak ?_;show wpAny _ _ (ret Value.none) _ _ _;exact ak ⟨rfl,h',tk,rfl,G,S⟩
  ·match M,d with
   |.error e,d=>exact d
   |.ok .next,d=>exact d.elim
   |.ok .brk,d=>exact d.elim
   |.ok .cont,d=>exact d.elim
   |.ok (.ret v),⟨e3,h',tk,e4,G,C⟩=>
    subst e3 e4
    repeat (any_goals (first|assumption|wp_step))
    exact h _ _ G C
end
end PySem
namespace L2
open PySem PySem.Spec PyProof.Rows PySem.Builtin PySem.Builtin.Str
def C4:Lp->Option (List Key)
 |[]=>Y []
 |d::r=>(qb d).bind λk=>(C4 r).map (k::·)
theorem Ju{P:Program}{w:World}{K:Fg}{H:Hp}:∀{f:Lp}{c:List Key}{b:List V}{g:Lw},C4 f=Y c->dn K H f b->fO b g->vz (fD P w) g c
 |[],_,_,_,e,i,r=>by cases e;rw[dn.eP.mp i] at r;cases r;exact .nil
 |d::f,_,_,_,e,i,r=>by
  obtain⟨k,o,n⟩:=bind_some e;obtain⟨c,m,rfl⟩:=aa.mp n;obtain⟨v,b,rfl,l,j⟩:=dn.eE.mp i;cases r with
  |cons a h=>
   have:=gR o;subst this;rw[iE l] at a;refine .cons (mT a) ?_ (Ju m j h);cases k with
   |inl i=>obtain⟨t,rfl⟩:=a;rfl
   |inr x=>obtain⟨t,rfl⟩:=a;rfl
section
variable {a o:Expr}{fb fc f:ee->Od}{p2 fJ:Pos}
noncomputable def Jv(f:ee->Od):ee->Od:=λρ=>(f ρ).bind λd=>match d with
 |.list ds=>(C4 ds).bind λa=>if a.length+1<4096 then Y (.int (o5 [] a).length) else Z
 |_=>Z
theorem BH{K:Type}[DecidableEq K]:∀(b a:List K),(o5 a b).length<=a.length+b.length
 |[],a=>by simp[o5]
 |k::b,a=>by have d:=BH b (xa a k);have c:=EZ a k;rw[show o5 a (k::b)=o5 (xa a k) b from rfl,aV];omega
theorem K0{a r:Pos} (hc:X.calm=true) (D:Gl X "len") (A:X.mg "len"=Z) (C:Gl X "set") (z:X.mg "set"=Z) (ha:PD X e f)
  (L:starEach [.Call (.Name "set" r) [e] [] a] X.env=[(false,eval (.Call (.Name "set" r) [e] [] a) X.env)]:=by rfl) (J:starEach [e] X.env=[(false,eval e X.env)]:=by rfl):
  PD X (.Call (.Name "len" p) [.Call (.Name "set" r) [e] [] a] [] pos) (Jv f):=by
 intro g s σ H Q I ⟨ρ,d,W,e,k⟩;obtain⟨x,e1,M⟩:=bind_some e;obtain⟨j,rfl⟩:∃j,x=.list j:=by cases x<;>first|exact⟨_,rfl⟩|cases M
 obtain⟨c,e2,m⟩:=bind_some (show (C4 j).bind (λc=>if c.length+1<4096 then Y (eA.int (o5 [] c).length) else Z)=Y d from M);by_cases y:c.length+1<4096
 ·rw[ag y] at m;cases m;refine aX (nv I D A PySem.boot_len ?_);refine cz ?_ (by rw[L];rfl) (by rfl);rw[L];refine aT ?_;refine aX (nv I C z (by rfl) ?_);refine bf ?_ (by rw[J];rfl) (by rfl);rw[J];refine aT (gO (@ha g s σ H (λv H1=>eN H H1/\eI X.K H1 (.list j) v) I ⟨ρ,_,W,e1,λv H1 P i=>⟨P,i⟩⟩) ?_);rintro u1 t1 ⟨v1,H1,G,S,q,V⟩;refine bu ?_;obtain⟨l,ws,rfl,O,u⟩:=eI.eZ.mp V;cases S;obtain⟨U,R,⟨o,n,ho,E,_,h⟩,z1⟩:=G.list O;refine Av (knd:=fD X.prog X.w) (G.ok.hd hc) ho E h (by simpa using Ju e2 u R) (by unfold scanBound;exact y) λh' N hd T=>bu ?_;obtain⟨o',F,ep,t,g1,g2,g3,g4,g5,g6,g7,g8⟩:=hd;have b:F.size=(o5 [] c).length:=g8;have B:=BH c ([]:List Key);refine call_len_set g1 g2 g3 g7 (by rw[b];simp at B;omega) ?_;rw[b];exact⟨.int _,H1,(G.kept (t':=N) T).tok _,⟨_,rfl⟩,(k.later q).here (eI.eR.mpr rfl)⟩
 ·rw[ai y] at m;cases m
def NA(I:eX X pins σ H s){x:eA}{u:Value}(h:SeqAt.shaped x=true)(m:eI X.K H x v)(k:fT v u)(z:A.units+x.depth<cLine):
  ∃e:Value->Bool,∀(d:eA) (w:V) (y:Value),SeqAt.shaped d=true->eI X.K H d w->fT w y->SeqAt.EqAt A s y u (e y)/\e y=eA.eqv d x:=by
 obtain⟨t,j⟩:=I.pF (aS h) m k;refine⟨λy=>@decide (∃d a,Reads s.heap y d a/\SeqAt.shaped d=true/\eA.eqv d x=true) (Classical.propDecidable _),λd w y b n c=>?_⟩;obtain⟨a,f⟩:=I.pF (aS b) n c;have i:@decide (∃d a,Reads s.heap y d a/\SeqAt.shaped d=true/\eA.eqv d x=true) (Classical.propDecidable _)=eA.eqv d x:=by
  cases q:eA.eqv d x with
  |true=>exact @decide_eq_true _ (Classical.propDecidable _) ⟨d,a,f,b,q⟩
  |false=>refine @decide_eq_false _ (Classical.propDecidable _) ?_;rintro⟨p,r,l,o,g⟩;have:=SeqAt.Reads.unique d p y _ _ (aS b) f l;subst this;rw[q] at g;cases g
 refine⟨?_,i⟩;show SeqAt.EqAt A s y u (@decide _ (Classical.propDecidable _));rw[i];refine SeqAt.eqAt_reads d x A s _ _ a t f j (aS b) (aS h) ?_;have:min d.depth x.depth<=x.depth:=dY _ _;omega
theorem E1(hu:X.A.units+64<cLine):PL X "list.index" (λx vs H Q=>∃d J c,eI X.K H d x/\dn X.K H J vs/\CV d J=Y c/\KD X.K H c Q):=by
 intro O s σ H v vs u us Q I rx rv h;obtain⟨d,J,cc,i1,i2,e,k⟩:=h;unfold CV at e;split at e
 ·rename_i r x;by_cases l:SeqAt.shaped x=true/\r.all SeqAt.shaped=true/\x.depth<=60/\r.length<=sizeLine
  ·rw[ag l] at e;obtain⟨j,e1,rfl⟩:=aa.mp e;obtain⟨h1,V,⟨dj,U,h4⟩,T⟩:=tV e1;simp only[Nat.sub_zero] at V U T;obtain⟨p,w,rfl,sq,P⟩:=eI.eZ.mp i1;cases rx;obtain⟨v2,rfl,i3⟩:=iD i2;obtain⟨N,rfl,B⟩:=rv.one;obtain⟨a,f,⟨⟨cls,dd,W,sl⟩,n,R,S,ZL,q⟩,z1⟩:=I.list sq;simp only at S q;subst S q;obtain⟨G,he⟩:=NA I (A:=X.A.in1) l.1 i3 B (by show X.A.units+1+x.depth<cLine;omega);have sh:∀d∈r,SeqAt.shaped d=true:=bJ.mp l.2.1;have b:∀(i:Nat) (y:Value),a[i]?=Y y->∃d,r[i]?=Y d/\SeqAt.EqAt X.A.in1 s y N (G y)/\G y=eA.eqv d x:=λi y t=>by
    have E:i<w.length:=by rw[f.length];exact(au.mp t).1
    have hw:w[i]?=Y w[i]:=aL E;obtain⟨y',o,z⟩:=f.get hw;rw[t] at o;cases o;obtain⟨d,q,C⟩:=P.get' hw;obtain⟨g,M⟩:=he d _ y (sh d (cK q)) C z;exact⟨d,q,g,M⟩
   have hj:j<a.toArray.size:=by rw[aw,<-f.length,<-P.length];exact V
   refine cq F.slot_list_index ⟨_,R,rfl⟩ F.entry_list_index (F.args_list_index_2 _ _) (SeqAt.list_indexAt p a.toArray n dd sl N G j hj ?_ ?_ ?_) ⟨R,λy t=>?_,?_⟩
   ·have h6:=l.2.2.2;have h7:sizeLine<2 ^ 62:=by decide
    omega
   ·obtain⟨d,g,_,L⟩:=b j (a.toArray[j]) (by simp);rw[U] at g;cases g;rw[L];exact h4
   ·intro m hm D;obtain⟨d,g,_,L⟩:=b m (a.toArray[m]) (by simp);rw[L];exact T m d D g
   ·obtain⟨i,hi⟩:=List.mem_iff_getElem?.mp (show y∈a by simpa using t);obtain⟨d,_,M,_⟩:=b i y hi;exact M
   ·exact⟨.int _,H,I.tok _,⟨_,rfl⟩,k.here (eI.eR.mpr rfl)⟩
  ·rw[ai l] at e;cases e
 ·cases e
noncomputable def S5(g:eA->Lp->Od)(f:ee->Od)(a:ee->Option Lp):ee->Od:=λρ=>(f ρ).bind λd=>(a ρ).bind λb=>match d with | .list z=>g (.list z) b|_=>Z
def NB{a:Str}{n:String}{g:eA->Lp->Od} (j:Slot "list" a n) (q:typeOf (.builtin n)=pure (.type "method_descriptor")) (C:PL X n (λx vs H Q=>∃d ds c,eI X.K H d x/\dn X.K H ds vs/\g d ds=Y c/\KD X.K H c Q)) (B:PD X o f) (D:Bp X (e::es) ff)
  (i:attributeBase o a X.env (eval o X.env)=eval o X.env:=by rfl)
  (l:((backTo fJ (starEach (e::es) X.env)).all (λx=>!x.1)&&(backToKw fJ (keywordEach [] X.env)).all (λx=>x.1.isSome)
  &&decide ((e::es).length+([]:List Keyword).length+(if ([]:List Keyword).isEmpty then 0 else 1)<30))=true:=by rfl)
  (h:(apos.endLine==fJ.line)=true:=by rfl) (m:zE e es X:=by rfl) (b:(backTo fJ (starEach es X.env)).any (·.1)=false:=by rfl):
  PD X (.Call (.Attribute o a apos) (e::es) [] fJ) (S5 g f ff) :=
 PE.imp (Bj bC j q C B D i l h m b) <| by
  rintro σ H Q ⟨ρ,d,m,e,k⟩;obtain⟨x,G,F⟩:=bind_some e;obtain⟨ds,E,u⟩:=bind_some F;obtain⟨z,rfl⟩:∃z,x=.list z:=by cases x<;>first|exact⟨_,rfl⟩|cases u
  refine⟨ρ,_,m,G,λv L s t=>?_⟩;obtain⟨p,vs,rfl,y,I⟩:=eI.eZ.mp t;exact⟨.inl ⟨rfl,vs,y⟩,ρ,ds,m.same s,E,λw J r A=>⟨_,ds,d,t.same r,A,u,k.later (s.trans r)⟩⟩
end
end L2
namespace L2
open PySem PySem.Spec PyProof.Rows
section
noncomputable def yW(g:ee->Option Bool)(f:ee->Od)(ρc:ee):Lp->Option Lp
 |[]=>Y []
 |d::ds=>match d with
  |.tuple [a,b]=>(g (Y a::Y b::ρc)).bind λc=>if c then (f (Y a::Y b::ρc)).bind λy=>(yW g f ρc ds).bind λe=>Y (y::e) else yW g f ρc ds
  |_=>Z
def C5(q:ee->Option Lp)(a:List (Nat×Str))(g:ee->Option Bool)(f:ee->Od):ee->Od:=λρ=>
 (q ρ).bind λb=>if b.length<=sizeLine then (yW g f (yG a ρ) b).map .list else Z
def NC{m a:Expr}{b:Str}{o i r:Pos}{t:Nat}{j:Lx}{f:ee->Od}
  (A:X.calm=true) (S:jO scope x) (u:scope.names.lookup b=Y .local) (n:∀p∈scope.names,p.2=.free->∃c,X.env.cells.lookup p.1=Y c) (l:kT X scope iL) (k:(x::b::iL.map (·.2)).Nodup)
  (w:Mb X (.Tuple [.Name x o,.Name b i] t r) a q)
  (v:∀C s H fp,w8 (lM X scope C (x::b::iL.map (·.2)) s H fp) j g)
  (y:∀C s H fp,PD (lM X scope C (x::b::iL.map (·.2)) s H fp) m f):KH X (.ListComp m [⟨.Tuple [.Name x o,.Name b i] t r,a,j,0⟩] scope pos) scope a (tD X.K (C5 q iL g f)):=
 (EK (bd:=P9 2 (M5 (Jk 0) (M5 (Jk 1) Vo))) (λ_ G ds vs=>dn X.K G ds vs) dn.length (λh s=>h.same s) [x,b] (yW g f) A S n l w (λC s H fp=>Qa rfl (Br (yE 0 k rfl (.inl (bV S.var)) (.inr (bV S.var))) (Br (yE 1 k rfl (.inl (bV u)) (.inr (bV u))) M6))) v (λC s H fp=>CI (y C s H fp) rfl) Bt (λ_ _ e=>by cases e;rfl) λc d ds D h=>by
  unfold yW at h;split at h
  ·obtain⟨z,B,e⟩:=bind_some h;exact⟨[Y _,Y _],z,rfl,rfl,B,Jl e⟩
  ·cases h).data
def KH.pe2{f a:Expr}{j:Str}{k d l:Pos}{n:Nat}{e:Lx}{t:TE} (h:KH X (.ListComp f [⟨.Tuple [.Name x k,.Name j d] n l,a,e,0⟩] scope pos) scope a t) (S:jO scope x) (i:∀p∈scope.names,p.2=.free->∃c,X.env.cells.lookup p.1=Y c)
  (r:∀x,foldedSetIterable a X.env x=pure x:=by intro _;rfl):PE X (.ListComp f [⟨.Tuple [.Name x k,.Name j d] n l,a,e,0⟩] scope pos) t:=by
 intro b s σ H Q I y;rw[eval_ListComp];refine cU (use:=Z) rfl r (oK i) S.kind S.loc (@h b s σ H Q (compPost (model X.prog X.w) X.A X.xe Z (EP X b σ Q)) I y ?_);intro D C E B F m z v u o q;exact⟨m,v,λG g=>⟨.ref D,B,z.yH u o g,rfl,q⟩⟩
end
section
variable {a:Expr}{rest:Lx}{fb fc f:ee->Od}{p2:Pos}
def Xk(d:eA):Option Bool:=match d with | .bool b=>Y b|_=>Z
def ND(f:ee->Od):ee->Od:=λρ=>(f ρ).bind λd=>(Xk d).map λb=>.bool (!b)
noncomputable def rY(f g:ee->Od):ee->Od:=λρ=>(f ρ).bind λd=>(Xk d).bind λb=>if b then g ρ else Y (.bool false)
def Qy(f g:ee->Od):ee->Od:=λρ=>(f ρ).bind λd=>(Xk d).bind λb=>if b then Y (.bool true) else g ρ
def yX{b:Bool}(h:Xk d=Y b):d=.bool b:=by cases d<;>first|(cases h;rfl)|cases h
def Qz(h:PD X a f):PD X (.UnaryOp .Not a pos) (ND f) :=
 PE.imp (R7 h) <| by rintro σ H Q ⟨ρ,d,g,e,k⟩;obtain⟨x,l,j⟩:=bind_some e;obtain⟨y,i,rfl⟩:=aa.mp j;cases yX i;exact⟨ρ,_,g,l,λv m b c=>⟨y,eI.fh.mp c,k _ m b (eI.fh.mpr rfl)⟩⟩
def oz{b:BoolOp}(h:PD X a f):PD X (.BoolOp b [a] pos) f:=Mo h
def mY(j:PD X a fa)(i:PD X (.BoolOp .And (b::rest) pos) fb):PD X (.BoolOp .And (a::b::rest) pos) (rY fa fb) :=
 PE.imp (Mp j i) <| by
  rintro σ H Q ⟨ρ,d,g,e,k⟩;obtain⟨x,n,m⟩:=bind_some e;obtain⟨y,l,c⟩:=bind_some m;cases yX l;refine⟨ρ,_,g,n,λv o f h=>⟨y,eI.fh.mp h,?_⟩⟩;cases y with
  |true=>rw[ag rfl] at c ⊢;exact⟨ρ,d,g.same f,c,k.later f⟩
  |false=>rw[ai aC] at c ⊢;cases c;exact k _ o f (eI.fh.mpr rfl)
def S6(j:PD X a fa)(i:PD X (.BoolOp .Or (b::rest) pos) fb):PD X (.BoolOp .Or (a::b::rest) pos) (Qy fa fb) :=
 PE.imp (UH j i) <| by
  rintro σ H Q ⟨ρ,d,g,e,k⟩;obtain⟨x,n,m⟩:=bind_some e;obtain⟨y,l,c⟩:=bind_some m;cases yX l;refine⟨ρ,_,g,n,λv o f h=>⟨y,eI.fh.mp h,?_⟩⟩;cases y with
  |true=>rw[ag rfl] at c ⊢;cases c;exact k _ o f (eI.fh.mpr rfl)
  |false=>rw[ai aC] at c ⊢;exact⟨ρ,d,g.same f,c,k.later f⟩
noncomputable def YJ(x y:eA):Od:=match x,y with | .bool a,.bool b=>Y (.bool (a==b))|_,_=>Z
noncomputable def Hz(x y:eA):Od:=match x,y with | .bool a,.bool b=>Y (.bool (a != b))|_,_=>Z
def VJ:rP X (compareOp .Is) YJ:=by
 intro f s σ H x y v u Q I b a ⟨d,i,c,h,g,e,k⟩;cases d<;>cases i<;>try (simp[YJ] at e;done)
 cases e;rw[eI.fh.mp h] at b;rw[eI.fh.mp g] at a;cases b;cases a;exact is_bool ⟨.bl _,H,I,rfl,k.here (eI.fh.mpr rfl)⟩
def NF:rP X (compareOp .IsNot) Hz:=by
 intro f s σ H x y v u Q I b a ⟨d,i,c,h,g,e,k⟩;cases d<;>cases i<;>try (simp[Hz] at e;done)
 cases e;rw[eI.fh.mp h] at b;rw[eI.fh.mp g] at a;cases b;cases a;exact isnot_bool ⟨.bl _,H,I,rfl,k.here (eI.fh.mpr rfl)⟩
noncomputable def tW:Lp->Option (List Bool)
 |[]=>Y []
 |.bool b::r=>(tW r).map (b::·)
 |_::_=>Z
theorem tX:∀{b:Lp}{a:List Bool},tW b=Y a->b=a.map .bool
 |[],a,h=>by cases h;rfl
 |d::r,a,h=>by
  cases d<;>try (simp[tW] at h;done)
  obtain⟨c,e,rfl⟩:=aa.mp h;rw[tX e];rfl
noncomputable def aaf:Lp->Od | [.list ds]=>(tW ds).map λa=>.bool (a.any id)|_=>Z
noncomputable def S7:Lp->Od | [.list ds]=>(tW ds).map λa=>.bool (a.all id)|_=>Z
def HA{c:List Bool}{a:Lw}(i:dn K H (c.map .bool) vs)(r:fO vs a){v:Value}(e:a[j]?=Y v):∃b,c[j]?=Y b/\v=.bool b:=by
 have n:j<a.length:=(au.mp e).1;have k:=r.length;have d:=i.length;have f:j<c.length:=by simpa [k,d] using (by rw[aF] at d;omega:j<c.length)
 have q:(c.map eA.bool)[j]?=Y (.bool c[j]):=by rw[az,aL f];rfl
 obtain⟨x,m,l⟩:=i.get q;obtain⟨u,h,g⟩:=r.get m;rw[e] at h;cases h;rw[eI.fh.mp l] at g;exact⟨_,aL f,g⟩
def NG(w:X.calm=true):tK X (.builtin "all") S7:=by
 intro j s σ H E G Q I r ⟨D,c,i,e,k⟩
 match D,e with
 |[.list ys],e=>
  obtain⟨d,C,rfl⟩:=aa.mp e;cases tX C;obtain⟨v,rfl,z⟩:=iD i;obtain⟨p,F,rfl,B,m⟩:=eI.eZ.mp z;obtain⟨u,rfl,n⟩:=tF r;cases n;obtain⟨a,h,o,M⟩:=I.list B;have g:=o.isList;have f:p<(zB s):=by obtain⟨_,e,_⟩:=g;exact aq e
  refine call_all_walk (c8 g ?_);refine⟨(zB s),[(zB s),p],[(zB s)],a.toArray.size,_,_,λi=>(d[i]?).getD true,rfl,Walks.list (A:=X.A.in1) (I.ok.hd w) _ p (aG f) a.toArray,
   ⟨⟨_,aA _ rfl,rfl,rfl⟩,g.push _⟩,λi v K O P y l=>?_,λN J t=>?_⟩
  ·obtain⟨b,e,rfl⟩:=HA m h (by simpa using y);simp only[e,Option.getD_some] at l;exact bM l
  ·have e:((List.range a.toArray.size).all λi=>(d[i]?).getD true)=d.all id:=by
    have L:=h.length;have q:=m.length;rw[aF] at q;rw[aw,show a.length=d.length by omega];exact LSm.range_all d
   rw[e];refine⟨.bl _,H,I.kept λb x e=>?_,rfl,k.here (eI.fh.mpr rfl)⟩;exact t b x (λhm=>by rw[List.mem_singleton.mp hm] at e;exact aW _ (aq e)) (aj _ e)
def vA(X:Cx)(a:Scope):Bool:=a.names.all λp=>p.2 != .free||(X.env.kindOf p.1==Y .cell||X.env.kindOf p.1==Y .free)
def nO{i b:Expr}{l:Pos}{c:Lx} (a:List (Nat×Str))
  (t:Mb X (.Name x l) b q)
  (n:∀C s H fp,w8 (lM X scope C (x::a.map (·.2)) s H fp) c g)
  (u:∀C s H fp,PD (lM X scope C (x::a.map (·.2)) s H fp) i f)
  (v:X.calm=true:=by rfl) (S:jO scope x:=by exact⟨rfl,by decide +kernel,by decide +kernel,rfl,aP⟩) (k:vA X scope=true:=by rfl) (d:kT X scope a:=by repeat' (first|exact aP|refine⟨⟨rfl,.inl rfl,rfl⟩,?_⟩|refine⟨⟨rfl,.inr rfl,rfl⟩,?_⟩)) (j:(x::a.map (·.2)).Nodup:=by decide +kernel)
  (o:∀x,foldedSetIterable b X.env x=pure x:=by intro _;rfl):PD X (.ListComp i [⟨.Name x l,b,c,0⟩] scope pos) (ir q a g f):=by
 intro m s σ H Q I w;refine Qd v S (λp r e=>I.ok.has p.1 ?_) d j t n u o s σ H Q I w;have:=bJ.mp k p r;simp only[Bool.or_eq_true,bne_iff_ne,ne_eq,bY] at this;rcases this with h|h
 ·exact absurd e h
 ·exact h
def jV(I:eX X pins σ H s)(a:vA X scope=true):∀p∈scope.names,p.2=.free->∃c,X.env.cells.lookup p.1=Y c:=λp b e=>I.ok.has p.1 (by
 have:=bJ.mp a p b;simp only[Bool.or_eq_true,bne_iff_ne,ne_eq,bY] at this;rcases this with h|h
 ·exact absurd e h
 ·exact h)
end
section
variable {m:Md}{a o i:Expr}{fb fc f:ee->Od}{p2 fJ:Pos}
def Jw(d:eA):Option Bool:=match d with
 |.dict kvs=>if iq kvs=true then Z else Y (!kvs.isEmpty)
 |d=>Hd d
def rg(f:ee->Od):ee->Option Bool:=λρ=>(f ρ).bind Jw
def fY(h:PD X e f)(q:∀whole,isTrue e X.env whole=(do let v <-whole;standAt e.pos;holding [v] (truthy v)):=by intro _;rfl):Bo X e (rg f) :=
 PT.imp (yq h q) <| by
  rintro σ H Q ⟨ρ,b,o,e,k⟩;obtain⟨d,r,a⟩:=bind_some e;refine⟨ρ,d,o,r,λv s l j=>⟨b,?_,k s l⟩⟩;cases d with
  |dict c=>
   unfold Jw at a;by_cases g:iq c=true
   ·dsimp only at a;rw[ag g] at a;cases a
   ·dsimp only at a;rw[ai g] at a;cases a;obtain⟨p,i,rfl,n,m⟩:=j.nE (by simpa using g);refine .inr (.inr ⟨i,n,?_⟩);have:=m.length;cases c<;>cases i<;>first|rfl|(simp at this)
  |_=>exact M4 j a
def C6:eA->Bool
 |.none=>true
 |_=>false
def nP(x y:eA):Od:=match y with
 |.none=>Y (.bool (C6 x))
 |y=>YJ x y
def kK(x y:eA):Od:=match y with
 |.none=>Y (.bool (!C6 x))
 |y=>Hz x y
def RA(i:eI K H d v):decide (v=.lb)=C6 d:=by
 cases d with
 |none=>rw[eI.gP.mp i];rfl
 |bool b=>rw[eI.fh.mp i];rfl
 |int j=>rw[eI.eR.mp i];rfl
 |str x=>rw[eI.fq.mp i];rfl
 |list a=>obtain⟨p,c,rfl,_⟩:=eI.eZ.mp i;rfl
 |tuple a=>obtain⟨p,c,rfl,_⟩:=i.gI;rfl
 |dict e=>obtain⟨p,rfl,_⟩:=eI.lh.mp i;rfl
def jW:rP X (compareOp .Is) nP:=by
 refine ko.imp (ko.or VJ Sj) ?_;rintro x y H Q ⟨a,b,d,f,c,e,k⟩;cases b with
 |none=>cases e;exact .inr ⟨eI.gP.mp c,k.here (eI.fh.mpr (by rw[RA f]))⟩
 |_=>exact .inl ⟨a,_,d,f,c,e,k⟩
def j6:rP X (compareOp .IsNot) kK:=by
 refine ko.imp (ko.or NF Pq) ?_;rintro x y H Q ⟨a,b,d,f,c,e,k⟩;cases b with
 |none=>cases e;exact .inr ⟨eI.gP.mp c,k.here (eI.fh.mpr (by rw[RA f]))⟩
 |_=>exact .inl ⟨a,_,d,f,c,e,k⟩
structure C7 (K:Fg) (mg:Str->Ow) (x:Str) (d:eA):Prop where
 ex:∃u v,mg x=Y u/\fT v u/\∀H:Hp,eI K H d v
def nQ(c:C7 X.K X.mg x d)(a:Gl X x)(b:zg x:=by decide):PD X (.Name x pos) (dC d):=by obtain⟨u,v,h,g,f⟩:=c.ex;exact PE.imp (xS a h g b) <| by rintro σ H Q ⟨ρ,j,i,e,k⟩;cases e;exact k.here (f H)
structure lq (P:Program) (w:World) (K:Fg) (mg:Str->Ow) (x:Str) (kvs:List (eA×eA)):Prop where
 ex:∃(a:Addr) (vs:List (Key×Value)),mg x=Y (.ref a)/\(a==sysModules)=false/\(∀h:Heap,K.In h->h.DictOf (fD P w) a vs) /\
  ∀k:Key,(oN (kh k) kvs=Z/\valueAt vs k=Z)\/∃d v u,oN (kh k) kvs=Y d/\valueAt vs k=Y u/\fT v u/\∀H:Hp,eI K H d v
def RB(a:List (eA×eA))(k:eA):Od:=(qb k).map λ_=>(oN k a).getD .none
def QA(L:lq X.prog X.w X.K X.mg x kvs)(G:Gl X x)(J:PD X e fb)(j:M1 X (.Name x p) "get" apos e fJ)(o:zg x:=by decide):PD X (.Call (.Attribute (.Name x p) "get" apos) [e] [] fJ) (λρ=>(fb ρ).bind (RB kvs)):=by
 obtain⟨a,W,O,N,B,M⟩:=L.ex;intro c s σ H Q I ⟨ρ,d,F,V,k⟩;obtain⟨y,U,T⟩:=bind_some V;obtain⟨z,S,l⟩:=aa.mp T;have:=gR S;subst this;have C:=B s.heap I.xR;refine cH j.base j.W9 j.line bX cg d8 (oe I G O ?_ o);refine⟨C.typeIs,λb q=>?_,?_⟩
 ·cases q;obtain⟨E,_,_,g,f,_⟩:=C;exact⟨E,g,f.2.1⟩
 rw[j.trees];refine b6 rfl (cL (aT (gO (@J c s σ H (λv H1=>eN H H1/\eI X.K H1 (kh z) v) I ⟨ρ,_,F,U,λv H1 m i=>⟨m,i⟩⟩) ?_)));rintro iv t ⟨v,H1,r,u,m,n⟩;refine bu ?_;rw[iE n] at u;have h:=B t.heap r.xR;refine dJ cg h.typeIs df (c5 _ _) (meets_dict_get (fD X.prog X.w) a (mT u) N) ⟨_,h.mapOf,?_⟩;have A:=k.later m;rcases M z with ⟨g,f⟩ | ⟨d',D,u',g,f,R,P⟩
 ·rw[g] at l;subst l;rw[f];exact⟨.lb,H1,r.tok _,rfl,A.here (eI.gP.mpr rfl)⟩
 ·rw[g] at l;subst l;rw[f];exact⟨D,H1,r.tok _,R,A.here (P H1)⟩
noncomputable def NH(a:List (eA×eA))(k:eA):Od:=(qb k).map λ_=>.bool (oN k a).isSome
def HB(a:List (eA×eA))(k:eA):Od:=(qb k).bind λ_=>oN k a
def NI(z:lq X.prog X.w X.K X.mg x kvs)(r:Gl X x)(u:PD X i fb)(g:EC i)(h:zg x:=by decide):PD X (.Subscript (.Name x p) i pos) (λρ=>(fb ρ).bind (HB kvs)):=by
 obtain⟨U,O,C,S,B,A⟩:=z.ex;intro a s σ H Q I ⟨ρ,d,q,N,k⟩;obtain⟨y,M,L⟩:=bind_some N;obtain⟨m,J,c⟩:=bind_some L;have:=gR J;subst this;refine CB PySem.F.slot_dict_getitem.lookup g (oe I r C (gO (@u a s σ H (λv H1=>eN H H1/\eI X.K H1 (kh m) v) I ⟨ρ,_,q,M,λv H1 e i=>⟨e,i⟩⟩) ?_) h);rintro R t ⟨v,H1,n,l,e,f⟩;rw[iE f] at l;have b:=B t.heap n.xR;refine⟨b.typeIs,?_⟩;rcases A m with ⟨j,_⟩ | ⟨T,o,P,j,G,E,D⟩
 ·rw[j] at c;cases c
 ·rw[j] at c;cases c;exact dZ (mT l) b.mapOf G ⟨o,H1,n.tok _,E,(k.later e).here (D H1)⟩
end
def YK{n:Int}{t:Tok}(h:mg x=Y (.int n t)):C7 K mg x (.int n):=⟨_,.int n,h,⟨t,rfl⟩,λH=>eI.eR.mpr rfl⟩
def VL{b:Array Value}{n:Nat}{c:List V}(h:K.lookup a=Y (zy b n))(d:b.size<=sizeLine)(e:fO c b.toList)(H:Hp):pW K H a c:=.inr ⟨_,b,n,h,rfl,rfl,d,e⟩
def nR{b:Array Value}{n:Nat}{xs:Lr}(h:K.lookup a=Y (zy b n))(c:b.size<=sizeLine)(d:fO (xs.map V.str) b.toList)(H:Hp):eI K H (.tuple (xs.map .str)) (.ref a) :=
 eI.iX.mpr ⟨a,_,rfl,VL h c d H,pJ xs⟩
def K1(P:Params)(x:Str)(t:Tok)(v:Value):DictEntry:={ hash:=eA.keyHash P x,key:=.str x t,val:=v }
def wB(w:World)(x:Str):eA.keyHash w.params x=RW w (.inr x):=by
 first
 |rfl
 | (unfold eA.keyHash RW hashStr;rfl)
theorem BI{P:Program}{w:World}:∀(l:List (Str×Tok×Value×eA)),Pairs (fD P w) (l.map λq=>K1 w.params q.1 q.2.1 q.2.2.1) (l.map λq=>((.inr q.1:Key),q.2.2.1))
 |[]=>.nil
 |q::l=>.cons (mu P w q.1 q.2.1) rfl (BI l)
theorem E2{K:Fg}(k:Key):∀(l:List (Str×Tok×Value×eA)),(∀q∈l,∃v,fT v q.2.2.1/\∀H:Hp,eI K H q.2.2.2 v) ->
  (oN (kh k) (l.map λq=>(.str q.1,q.2.2.2))=Z/\valueAt (l.map λq=>((.inr q.1:Key),q.2.2.1)) k=Z)\/∃d v u,oN (kh k) (l.map λq=>(.str q.1,q.2.2.2))=Y d/\valueAt (l.map λq=>((.inr q.1:Key),q.2.2.1)) k=Y u/\fT v u/\∀H:Hp,eI K H d v
 |[],_=>.inl ⟨rfl,rfl⟩
 |q::l,hv=>by
  by_cases e:(.inr q.1:Key)=k
  ·right;obtain⟨v,g,f⟩:=hv q (by simp);have a:rV (.str q.1) (kh k)=true:=by rw[show eA.str q.1=kh (.inr q.1) from rfl,kW];exact bU e
   exact⟨q.2.2.2,v,q.2.2.1,by simp[oN,a],by simp[valueAt,bP,e],g,f⟩
  ·have a:¬ rV (.str q.1) (kh k)=true:=by rw[show eA.str q.1=kh (.inr q.1) from rfl,kW];simp[e]
   rcases E2 k l (λz h=>hv z (ar _ h)) with ⟨c,b⟩ | ⟨d,v,u,c,b,i⟩
   ·exact .inl ⟨by rw[aB];unfold oN;rw[ai a];exact c,by simp only[valueAt,aB,bP,ba e];exact b⟩
   ·exact .inr ⟨d,v,u,by rw[aB];unfold oN;rw[ai a];exact c,by simp only[valueAt,aB,bP,ba e];exact b,i⟩
def C8{P:Program}{l:List (Str×Tok×Value×eA)}{n:Nat} (g:mg x=Y (.ref a)) (m:(a==sysModules)=false)
  (i:K.lookup a=Y { cls:=.type "dict",data:=.dict (l.map λq=>K1 w.params q.1 q.2.1 q.2.2.1).toArray n }) (d:(l.map (·.1)).Nodup) (f:∀q∈l,∃v,fT v q.2.2.1/\∀H:Hp,eI K H q.2.2.2 v):
  lq P w K mg x (l.map λq=>(.str q.1,q.2.2.2)):=by
 refine⟨a,l.map λq=>(.inr q.1,q.2.2.1),g,m,λh o=>?_,λk=>E2 k l f⟩;refine⟨_,_,n,o a _ i,⟨rfl,rfl,rfl⟩,rfl,λe j=>?_,by simpa using BI l,?_⟩
 ·have c:e∈l.map λq=>K1 w.params q.1 q.2.1 q.2.2.1:=by simpa using j
  obtain⟨q,_,rfl⟩:=aU.mp c;exact⟨.inr q.1,mu P w q.1 q.2.1,wB w q.1⟩
 ·rw[bT];have:((λx:Key×Value=>x.1)∘λq:Str×Tok×Value×eA=>((.inr q.1:Key),q.2.2.1))=(λz:Str=>(.inr z:Key))∘(·.1):=rfl;rw[this,<-bT];exact List.Pairwise.map _ (λa b h z=>h (by injection z)) d
section
variable {m:Md}{a o i:Expr}{fb fc f:ee->Od}{p2 fJ:Pos}{st:Stmt}{rest:List Stmt}{g h:ee->Option gQ}
def PS.frame{t:TS}(h:PS X st t):PS X st (λD σ H=>∃G B,H=eW G B/\jQ G B/\t { nx:=λσ' a=>jQ a B->D.nx σ' (eW a B),rt:=λv a=>jQ a B->D.rt v (eW a B),bk:=λσ' a=>jQ a B->D.bk σ' (eW a B),ct:=λσ' a=>jQ a B->D.ct σ' (eW a B) } σ G):=by
 intro g s σ H D I ⟨G,B,k,f,i⟩;subst k;obtain⟨m,l,_,_,b⟩:=Bu f.ok I f;refine gO (@h _ s σ G _ l i) λj e q=>?_;cases j with
 |next=>obtain⟨σ',a,J,q⟩:=q;obtain⟨c,d⟩:=b a e σ' J;exact⟨σ',_,d,q c⟩
 |brk=>obtain⟨σ',a,J,q⟩:=q;obtain⟨c,d⟩:=b a e σ' J;exact⟨σ',_,d,q c⟩
 |cont=>obtain⟨σ',a,J,q⟩:=q;obtain⟨c,d⟩:=b a e σ' J;exact⟨σ',_,d,q c⟩
 |ret u=>obtain⟨v,σ',a,J,r,q⟩:=q;obtain⟨c,d⟩:=b a e σ' J;exact⟨v,σ',_,d,r,q c⟩
def NJ(i:Nat) {y:Str}{J c:Pos}{l b:Expr}{r:Pos}{h:Lx} (a:List (Nat×Str)) {g:ee->Option Bool} (W:X.N.Nodup)
  (Q:Mb X (.Name x r) b q)
  (P:∀C s H fp,w8 (lM X scope C (x::a.map (·.2)) s H fp) h g)
  (R:∀C s H fp,PD (lM X scope C (x::a.map (·.2)) s H fp) l f) (V:i∉O:=by decide)
  (T:X.calm=true:=by rfl) (S:jO scope x:=by exact⟨rfl,by decide +kernel,by decide +kernel,rfl,aP⟩) (n:vA X scope=true:=by rfl) (p:kT X scope a:=by repeat' (first|exact aP|refine⟨⟨rfl,.inl rfl,rfl⟩,?_⟩|refine⟨⟨rfl,.inr rfl,rfl⟩,?_⟩)) (w:(x::a.map (·.2)).Nodup:=by decide +kernel)
  (A:X.N[i]?=Y y:=by rfl) (M:X.env.scope.names.lookup y=Y .local:=by rfl) (u:swapsWith (.ListComp l [⟨.Name x r,b,h,0⟩] scope pos) (Y (.Name y J)) c.line X.env=pure true:=by rfl)
  (j:∀x,foldedSetIterable b X.env x=pure x:=by intro _;rfl):wt X m O (.Assign [.Name y J] (.ListComp l [⟨.Name x r,b,h,0⟩] scope pos) c) (iR (ja O (ir q a g f)) i):=by
 intro K s σ H D I U;refine PS.imp (PS.frame (CK (CJ T S (jV I n) p w Q P R) S (jV I n) W A M u j)) (?_) s σ H D I U;rintro D σ H ⟨ρ,o,G,j,e,k⟩;obtain⟨d,e1,rfl⟩:=aa.mp e;obtain⟨B,eH,fm,t⟩:=j.o.ex;refine⟨G,B,eH,fm,kU O ρ,d,j.o.rest,e1,λv G' F L E=>?_⟩;exact k _ _ G' F (k8.set ⟨hZ.CL j.o.len t j.o.lb F E,j.z⟩ V L)
def BJ{j b:Expr}{c:Str}{l d m:Pos}{o:Nat}{e:Lx} (a:List (Nat×Str)) {g:ee->Option Bool}
  (t:Mb X (.Tuple [.Name x l,.Name c d] o m) b q)
  (p:∀C s H fp,w8 (lM X scope C (x::c::a.map (·.2)) s H fp) e g)
  (u:∀C s H fp,PD (lM X scope C (x::c::a.map (·.2)) s H fp) j f)
  (v:X.calm=true:=by rfl) (S:jO scope x:=by exact⟨rfl,by decide +kernel,by decide +kernel,rfl,aP⟩) (y:scope.names.lookup c=Y .local:=by rfl) (h:vA X scope=true:=by rfl) (i:kT X scope a:=by repeat' (first|exact aP|refine⟨⟨rfl,.inl rfl,rfl⟩,?_⟩|refine⟨⟨rfl,.inr rfl,rfl⟩,?_⟩)) (k:(x::c::a.map (·.2)).Nodup:=by decide +kernel)
  (r:∀x,foldedSetIterable b X.env x=pure x:=by intro _;rfl):PD X (.ListComp j [⟨.Tuple [.Name x l,.Name c d] o m,b,e,0⟩] scope pos) (C5 q a g f):=by
 intro n s σ H Q I w;exact KH.pe2 (NC v S y (jV I h) i k t p u) S (jV I h) r s σ H Q I w
section
variable {ρ:ee}{O':List Nat}
theorem ig.snoc{l:Bool}(e:(ρ[j]?).join=Z):∀{k:List Nat}{B:List (Addr×HO)},ig l K σ ρ G k B↔ig l K σ ρ G (k++[j]) B
 |[],B=>⟨λh=>.inl ⟨e,h⟩,λh=>by
   rcases h with ⟨_,h⟩ | ⟨d,v,g,f,a,_⟩
   ·exact h
   ·rw[a] at e;cases e⟩
 |i::k,B=>by
  constructor
  ·rintro(⟨a,b⟩ | ⟨d,v,g,f,a,b,c,q,t⟩)
   ·exact .inl ⟨a,(ig.snoc e).mp b⟩
   ·exact .inr ⟨d,v,g,f,a,b,c,q,(ig.snoc e).mp t⟩
  ·rintro(⟨a,b⟩ | ⟨d,v,g,f,a,b,c,q,t⟩)
   ·exact .inl ⟨a,(ig.snoc e).mpr b⟩
   ·exact .inr ⟨d,v,g,f,a,b,c,q,(ig.snoc e).mpr t⟩
def hZ.freeze(r:(O'++[j]).Nodup)(l:kA (O'++[j])=kA O')(h:hZ (O'++[j]) K σ ρ H G):∃D,eN G D/\hZ O' K σ ρ H D:=by
 have I:j∉O':=by rw[cJ] at r;exact λz=>r.2.2 j z j (by simp) rfl
 cases hd:(ρ[j]?).join with
 |none=>
  obtain⟨B,w,f,b⟩:=h.ex;rw[l] at b;refine⟨G,.refl G,h.len,⟨B,w,f,(ig.snoc hd).mpr b⟩,λi d q k=>?_⟩;by_cases a:i=j
  ·subst a;rw[q] at hd;cases hd
  ·exact h.lb i d q (by simp[k,a])
 |some d=>
  have e:=iA hd;obtain⟨v,o,g,n,M,L,f,p,A,y,_,O⟩:=h.own r (by simp) e;have c:(o++(g++n)).Perm ((o++n)++g):=by rw[aN];exact cF _ bo
  have C:jQ G ((o++n)++g):=f.perm c ((A.append y).append p.mI);have m:=C.KJ p.mI;have t:=O (eW G g) m.same (C.KI (A.append y));have w:H=eW (eW G g) (o++n):=by rw[L,hY f.nd c,jf]
  rw[<-w] at t;have F:j<ρ.length:=(au.mp e).1;obtain⟨B,J,u,b⟩:=t.ex;rw[l] at b;have s:((ρ.set j Z)[j]?).join=Z:=by rw[aH F];rfl
  refine⟨eW G g,m.same,h.len,⟨B,J,u,((ig.snoc s).mpr b).other λi k=>?_⟩,λi N q k=>?_⟩
  ·have:j≠i:=λz=>I (z▸k);exact⟨(ay this).symm,rfl⟩
  ·by_cases a:i=j
   ·subst a;rw[e] at q;cases q;exact⟨v,M,p.Mc m.same λx E=>fL m.nd x E⟩
   ·exact t.lb i N (by rw[ay (Ne.symm a)];exact q) (by simp[k,a])
def hZ.NK(m:j∉O')(k:kA (O'++[j])=kA O')(h:hZ O' K σ ρ H G):hZ (O'++[j]) K σ (ρ.set j Z) H G:=by
 obtain⟨B,n,f,a⟩:=h.ex;rw[<-k] at a;have c:((ρ.set j Z)[j]?).join=Z:=by
  by_cases l:j<ρ.length
  ·rw[aH l];rfl
  ·rw[bQ (by simpa using l)];rfl
 refine⟨by simpa using h.len,⟨B,n,f,(ig.snoc c).mp (a.other λi b=>?_)⟩,λi d q b=>?_⟩
 ·have:j≠i:=λz=>m (z▸b);exact⟨ay this,rfl⟩
 ·have g:i∉O':=λz=>b (by simp[z]);have e:j≠i:=λz=>b (by simp[z]);rw[ay e] at q;exact h.lb i d q g
end
noncomputable def S8(j:Nat):gQ->gQ
 |.nx ρ=>.nx (ρ.set j Z)
 |.bk ρ=>.bk (ρ.set j Z)
 |.ct ρ=>.ct (ρ.set j Z)
 |.rt d=>.rt d
def S9(j:Nat)(g:ee->Option gQ):ee->Option gQ:=λρ=>(g ρ).map (S8 j)
def wC{O':List Nat}(j:Nat){i:List Stmt}(r:(O'++[j]).Nodup)(y:j≠0)(h:rn X m O' i g)(c:kA (O'++[j])=kA O':=by rfl):rn X m (O'++[j]) i (S9 j g) :=
 we.imp h <| by
  rintro D σ H ⟨ρ,o,G,u,e,k⟩;have x:j∉O':=by rw[cJ] at r;exact λz=>r.2.2 j z j (by simp) rfl
  obtain⟨t,A,rfl⟩:=aa.mp e;obtain⟨F,n,s⟩:=u.o.freeze r c;have v:∀(σ':St),(∀b a,m=.io b a->0∈O'++[j]/\σ'[0]?=Y (Y a)/\kA (O'++[j])=b)->∀b a,m=.io b a->0∈O'/\σ'[0]?=Y (Y a)/\kA O'=b:=λσ' w b a q=>by
   obtain⟨E,C,B⟩:=w b a q;refine⟨?_,C,c▸B⟩;rcases bc.mp E with z|z
   ·exact z
   ·exact absurd (by simpa using z:0=j).symm y
  have p:∀(σ':St) (ρ':ee) (H' f:Hp),k8 m O' X.K σ' ρ' H' f->k8 m (O'++[j]) X.K σ' (ρ'.set j Z) H' f:=λσ' ρ' H' f q=>⟨q.o.NK x c,λb a z=>⟨by simp[(q.z b a z).1],(q.z b a z).2.1,c▸(q.z b a z).2.2⟩⟩
  refine⟨ρ,t,F,⟨s,v σ u.z⟩,A,?_⟩;cases t with
  |nx ρ'=>exact λσ' H' f l q=>k σ' H' f (n.trans l) (p _ _ _ _ q)
  |bk ρ'=>exact λσ' H' f l q=>k σ' H' f (n.trans l) (p _ _ _ _ q)
  |ct ρ'=>exact λσ' H' f l q=>k σ' H' f (n.trans l) (p _ _ _ _ q)
  |rt d=>exact Rx.later n k
end
section
variable {m:Md}{a o i:Expr}{fb fc f:ee->Od}{p2 fJ:Pos}
def j7{n:Int}{q:Pos}:PD X (.UnaryOp .USub (.Constant (.int n) j q) pos) (zI (-n)) :=
 PE.imp (UQ Si c4) <| by rintro σ H Q ⟨ρ,d,c,e,k⟩;cases e;exact⟨ρ,_,c,rfl,λv f a b=>⟨_,eI.eR.mp b,k _ f a (eI.eR.mpr rfl)⟩⟩
theorem QB(F:lq X.prog X.w X.K X.mg x kvs)(D:Gl X x)(E:PD X a fa)(C:behindInMarks .In (.Name x p)=false:=by with_unfolding_all rfl)(c:zg x:=by decide):Bo X (.Compare a [.In] [.Name x p] pos) (fB (λρ=>(fa ρ).bind (NH kvs))):=by
 obtain⟨m,n,M,L,J,G⟩:=F.ex;have A:ko X (compareOp .In) (λy z H Q=>∃k:Key,y=kV k/\z=.ref m/\Q (.bl (valueAt n k).isSome) H):=by intro j s σ H y z v u Q I t r ⟨k,h,g,q⟩;subst h g;cases r;exact wpAny_in_of (mT t) L (J s.heap I.xR).mapOf ⟨.bl _,H,I.tok _,rfl,q⟩
 refine PT.imp (tE A E (xS (v:=.ref m) D M rfl c) C) ?_;rintro σ H Q ⟨ρ,d,B,h,k⟩;obtain⟨y,g,P⟩:=bind_some (xU h);obtain⟨l,O,N⟩:=aa.mp P;have:=gR O;subst this;refine⟨ρ,_,B,g,λv R o i=>⟨l,iE i,rfl,?_⟩⟩;have b:=k R o;cases N;rcases G l with ⟨f,e⟩ | ⟨W,S,T,f,e,V,U⟩
 ·rw[f] at b;rw[e];exact⟨_,rfl,b⟩
 ·rw[f] at b;rw[e];exact⟨_,rfl,b⟩
def VM(w:PF X e f):PV X O e (Ul f) :=
 PE.imp w <| by
  rintro σ H Q ⟨ρ,d,G,p,B,k⟩;obtain⟨x,A,b⟩:=bind_some B;by_cases a:Nh x=true
  ·rw[ag a] at b;cases b;refine⟨ρ,d,p.full,A,λv E F n j r=>?_⟩;have m:eN H (eW E F):=n.trans j.same;obtain⟨D,g,y,h⟩:=p.grow m;refine k v _ D m g h ?_;cases d<;>try (simp[Nh] at a;done)
   rename_i I;obtain⟨q,o,rfl,rfl,s⟩:=r.cont rfl;rcases s with ⟨C,c,l,rfl,i⟩ | ⟨_,_,l,_⟩
   ·cases l;have t:H q=Z:=by
     cases u:H q with
     |none=>rfl
     |some z=>have:=n _ _ u;rw[j.free (q,.lst c) (by simp)] at this;cases this
    exact eI.eZ.mpr ⟨q,c,rfl,.inl (.inl (by rw[y q t];exact fL j.nd (q,.lst c) (by simp))),i.jG a⟩
   ·cases l
  ·rw[ai a] at b;cases b
end
section
open PySem.AutoSeq1 Builtin
def QC(p:Addr)(a:Array Value)(j:Nat)(q:Addr)(b:Array Value)(k:Nat)(i:Array Ow)(u:¬(!a.isEmpty&&Builtin.List.listTooLong (a.size+b.size))=true)(n:a.size<=sizeLine)(m:a.size+b.size<=sizeLine+1):
  Meets (Builtin.«list.extend» ⟨[.ref p,.ref q],[]⟩) (λ_ R s=>
   s.heap.get? p=Y ⟨.type "list",Z,.seq a j,#[]⟩/\s.heap.get? q=Y ⟨.type "list",Z,.seq b k,i⟩ /\
   R (.ok (.ret Value.none)) { s with heap:=s.heap.update p (Obj.mapSeq λz=>z++b),toks:=s.toks }) :=
 .of_wp λe w A R s h=>by
  obtain⟨t,g,d,o,r⟩:=s;obtain⟨f,l,h⟩:=h;have C:=PySem.AutoSeq1.idx_int;have B:=PySem.AutoSeq1.sub_tuple_tuple;have y:=PySem.AutoSeq1.sub_list_list;have x:=PySem.AutoSeq1.sub_tuple_list;have v:=PySem.AutoSeq1.sub_list_tuple;have c:(a++b).size<=sizeLine+1:=by rw[Array.size_append];exact m
  wp_walk using (bZ f rfl (hz:=n) (_hz':=c)),wpAny_loadPart' f,wpAny_loadPart' l
  exact⟨_,rfl,h⟩
end
section
variable {m:Md}{a o i:Expr}{fb fc f:ee->Od}{p2 fJ:Pos}
noncomputable def lV:Lp->Od
 |[.int i]=>Y (.int i)
 |[.bool b]=>Y (.int (if b then 1 else 0))
 |_=>Z
def vB:tK X (.type "int") lV:=by
 refine jc.imp Ko ?_;rintro f H Q ⟨d,c,i,e,k⟩
 match d,e with
 |[.int j],e=>cases e;obtain⟨v,rfl,a⟩:=iD i;exact .inl ⟨j,by rw[eI.eR.mp a],k.here (eI.eR.mpr rfl)⟩
 |[.bool b],e=>cases e;obtain⟨v,rfl,a⟩:=iD i;exact .inr ⟨b,by rw[eI.fh.mp a],k.here (eI.eR.mpr rfl)⟩
def BK(x y:eA):Od:=match x,y with
 |.list xs,.list ys=>if xs.length+ys.length<=sizeLine then Y (.list (xs++ys)) else Z
 |_,_=>Z
def HC(z:PD X a fa)(y:PD X b fb):PF X (.BinOp a .Add b pos) (d2 BK fa fb) :=
 PE.imp (MB Ji z y) <| by
  rintro σ H Q ⟨ρ,d,m,e,k⟩;obtain⟨u,D,C⟩:=bind_some e;obtain⟨v,B,c⟩:=bind_some C;obtain⟨g,rfl⟩:∃g,u=.list g:=by cases u<;>first|exact⟨_,rfl⟩|(cases v<;>cases c)
  obtain⟨f,rfl⟩:∃f,v=.list f:=by cases v<;>first|exact⟨_,rfl⟩|cases c
  dsimp only[BK] at c;by_cases h:g.length+f.length<=sizeLine
  ·rw[ag h] at c;cases c;refine⟨ρ,_,m,D,λv F j x=>⟨ρ,_,m.same j,B,λw E i t=>?_⟩⟩;obtain⟨p,r,rfl,s,l⟩:=eI.eZ.mp (x.same i);obtain⟨q,o,rfl,A,n⟩:=eI.eZ.mp t;exact⟨p,q,r,o,rfl,rfl,s,A,by rw[<-l.length,<-n.length];exact h,(k.later (j.trans i)).yC (l.append n)⟩
  ·rw[ai h] at c;cases c
def VN(K:Fg):V->List V->Hp->VK->Prop:=λx d H Q=>∃l b c a,x=.ref l/\d=[.ref b]/\H l=Y (.lst c)/\j0 K H b a/\c.length+a.length<=sizeLine/\Q .lb (upd H l (.lst (c++a)))
def QD:W7 X "list.extend" (VN X.K):=by
 intro h s σ H x O v P Q I p t ⟨l,b,N,M,E,G,k,D,R,q⟩;subst E G;cases p;obtain⟨u,rfl,w⟩:=t.one;cases w;obtain⟨z,c,n,r,S,e⟩:=I.Kt k;obtain⟨a,g,⟨⟨L,T,m,o⟩,B,J,j,d,i⟩,C⟩:=I.list D;simp only at j d i;subst j d i;have A:=r.length;have y:=g.length;have f:c.toArray.size+a.toArray.size<=sizeLine:=by rw[aw,aw];omega
 refine cq cV ⟨_,e,rfl⟩ PySem.F.entry_list_extend (PySem.F.args_list_extend_2 _ _) (QC l c.toArray n b a.toArray B o (by rw[yy f,Bool.and_false];exact aC) (by rw[aw];omega) (by omega)) ⟨e,J,?_⟩;refine⟨.lb,_,I.PN (its':=c++a) k e (by simp) (r.append g) ?_,rfl,q⟩;rw[aQ];omega
def E3{π:Pl} (i:O.Nodup) (W:PP X o π) (he:PV X O e f) (J:π.ix∈O:=by decide) (u:wq O π=false:=by rfl) (n:starEach [e] X.env=(false,eval e X.env)::starEach [] X.env:=by rfl)
  (g:attributeBase o "extend" X.env (eval o X.env)=eval o X.env:=by rfl)
  (t:((backTo fJ (starEach [e] X.env)).all (λx=>!x.1)&&(backToKw fJ (keywordEach [] X.env)).all (λx=>x.1.isSome)&&decide (([e]:Lx).length+([]:List Keyword).length+(if ([]:List Keyword).isEmpty then 0 else 1)<30))=true:=by rfl)
  (c:(apos.endLine==fJ.line)=true:=by rfl) (a:(backTo fJ (starEach [] X.env)).any (·.1)=false:=by rfl)
  (s:swapsWith (.Call (.Attribute o "extend" apos) [e] [] fJ) Z pos.line X.env=pure false:=by rfl):
  wt X m O (.Expr (.Call (.Attribute o "extend" apos) [e] [] fJ) pos) (xV π f) :=
 PS.imp (q5 (Bj bC cV PySem.F.type_list_extend QD W (mX he qm n) g t c n a) s) <| by
  rintro D σ H ⟨ρ,o,G,s,e,k⟩;obtain⟨l,K,ea⟩:=bind_some e;obtain⟨d,e2,h⟩:=bind_some ea;obtain⟨E,rfl⟩:∃E,l=.list E:=by cases l<;>first|exact⟨_,rfl⟩|(cases d<;>cases h)
  obtain⟨C,rfl⟩:∃C,d=.list C:=by cases d<;>first|exact⟨_,rfl⟩|cases h
  dsimp only at h;by_cases A:E.length+C.length<=sizeLine
  ·rw[ag A] at h;cases h;obtain⟨q,ob,r,V,S,_⟩:=s.o.place i J K rfl u;obtain⟨M,rfl,i4⟩:=S.lst;refine⟨q,r,.inl ⟨rfl,M,j0.of V⟩,ρ,_,G,s.o,e2,λv H' G' P Q p U=>?_⟩;obtain⟨b,L,rfl,N,I⟩:=eI.eZ.mp U;obtain⟨q',T,R,B,y,cl⟩:=p.place i J K rfl u;have:=Aq.eq r R P;subst this;obtain⟨w,rfl,j⟩:=y.lst;refine⟨q,b,w,L,rfl,rfl,B,p.sub.seq N,by rw[<-j.length,<-I.length];exact A,?_⟩;exact k _ _ G' Q ⟨cl _ _ (.inl ⟨_,_,rfl,rfl,j.append I⟩),s.z⟩
  ·rw[ai A] at h;cases h
end
def YL(K:Fg)(l:Addr)(n:Nat):It where
 go:=λi H=>i<n/\∃a,j0 K H l a/\a.length=n
 Kj:=λi H y b=>b=H/\i<n/\∀a,j0 K H l a->a[n - 1 - i]?=Y y
 stop:=λi _=>n<=i
def NL{P:Program}(l m:Addr)(n:Nat):Cj P w K tg (YL K l n) [m] m (λi h=>i<=n/\h.IsRevIter m l ((n:Int) - 1 - (i:Int))) where
 mem:=by simp
 obj:=λi h f b p=>by
  have e:b=m:=by simpa using p
  subst e;obtain⟨_,o,e,c,d⟩:=f;exact⟨o,e,λv z=>by rw[d] at z;cases z⟩
 keep:=λi h r f k=>⟨f.1,f.2.at λo e=>k m (by simp) o e⟩
 item:=by
  intro X A hw B N i g s σ H E I q f y;subst A hw B;obtain⟨hi,t,M,hl⟩:=y;obtain⟨J,G,f2,F,D,C⟩:=q m (by simp);obtain⟨T,Q,S,hz⟩:=I.list M;have W:n - 1 - i<t.length:=by omega
  have L:t[n - 1 - i]?=Y t[n - 1 - i]:=aL W;obtain⟨u,V,R⟩:=Q.get L;have ei:(n:Int) - 1 - (i:Int)=((n - 1 - i:Nat):Int):=by omega
  have a:=f.2;rw[ei] at a;refine wpAny_pyNext_rev_item a S.isList (x:=u) (by simpa using V) λr j O=>?_;have I1:eX X g σ H { s with heap:=r,toks:=s.toks }:=I.turned (t':=s.toks) (λb o p e=>(O.2 b p).trans e) J G F D C;obtain⟨o,e,c,d⟩:=id j;have ej:((n - 1 - i:Nat):Int) - 1=(n:Int) - 1 - ((i+1:Nat):Int):=by omega
  rw[ej] at j;exact⟨_,rfl,yn (s:={ s with heap:=r,toks:=s.toks }) e c d (by decide) ⟨_,H,I1,R,⟨rfl,hi,λys U=>by rw[I.qj U M];exact L⟩,⟨by omega,j⟩,λb p=>(q b p).1⟩⟩
 done:=by
  intro X A hw B N i g s σ H E I q f y;subst A hw B;obtain⟨J,G,f2,F,D,C⟩:=q m (by simp);have hg':n<=i:=y;have:(n:Int) - 1 - (i:Int)=-1:=by have:=f.1;omega
  have a:=f.2;rw[this] at a;exact wpAny_pyNext_rev_end (I.ok.hd N) a λr eb=>⟨rfl,I.turned (t':=s.toks) (λb o p e=>eb b o p e) J G F D C⟩
 self:=λ_ _ _ _ _ f h=>wpAny_pyIter_revIter f.2 h
section
variable {m:Md}{a o:Expr}{fb fc f:ee->Od}{p2 fJ:Pos}
def Ta{j:TE}(z:Gl X "reversed")(w:X.mg "reversed"=Z)(A:PE X e j)(m:starEach [e] X.env=[(false,eval e X.env)]:=by rfl):PI X tg (.Call (.Name "reversed" p) [e] [] pos) (λσ H R=>j σ H λv f=>∃l g,v=.ref l/\j0 X.K f l g/\R (YL X.K l g.length) f):=by
 intro c s σ H R I h;refine aX (nv I z w (by rfl) ?_);refine bf ?_ (by rw[m];rfl) (by rfl);rw[m];refine aT (gO (@A c s σ H _ I h) ?_);rintro v a ⟨x,f,i,r,l,g,C,u,q⟩;refine bu ?_;subst C;cases r;obtain⟨d,n,t,E⟩:=i.list u;have y:=n.length;refine call_reversed_list t.isList ?_;have k:({ a with heap:=a.heap.push (revObj l ((d.toArray.size:Int) - 1)) }:Shared).heap.IsRevIter (zB a) l ((g.length:Int) - 1 - ((0:Nat):Int)):=⟨_,aA _ rfl,rfl,by simp[revObj,y]⟩
 refine wpAny_pyIter_revIter k ?_;have D:eX X c σ f { a with heap:=a.heap.push (revObj l ((d.toArray.size:Int) - 1)) }:=i.kept (t':=a.toks) λb o e=>aj _ e;exact⟨_,[(zB a)],_,_,f,rfl,D,NL l _ _,⟨bH _,k⟩,λb B=>(by rw[show b=(zB a) by simpa using B];exact i.ym (ax _) (i.ij.fresh (ax _))),q⟩
noncomputable def Tb(f:ee->Od):ee->Option Lp:=λρ=>(f ρ).bind λd=>match d with | .list ds=>Y ds.reverse|_=>Z
def HD{a:Hp}{l:Addr}(j:j0 K a l vs)(h:dn K a ds vs):nK K (YL K l vs.length) ds.reverse a:=λs b=>by have e:=h.length;refine⟨by show vs.length<=_;simp[e],λi d q=>?_⟩;have f:i<ds.reverse.length:=(au.mp q).1;rw[List.length_reverse] at f;refine⟨⟨by omega,vs,b.seq j,rfl⟩,?_⟩;rintro y r ⟨n,p,m⟩;subst n;refine⟨.refl _,λt k _=>?_⟩;have c:=m vs (b.seq j);rw[List.getElem?_reverse f] at q;obtain⟨v,g,o⟩:=h.get q;rw[e] at g;rw[g] at c;cases c;exact o.same k
def Jx(q:Gl X "reversed")(o:X.mg "reversed"=Z)(h:PD X e f)(a:starEach [e] X.env=[(false,eval e X.env)]:=by rfl):S1 X tg (.Call (.Name "reversed" p) [e] [] pos) (Tb f) :=
 PI.imp (Ta q o h a) <| by
  rintro σ H R ⟨ρ,t,a,e,k⟩;obtain⟨d,r,g⟩:=bind_some e;obtain⟨b,rfl⟩:∃b,d=.list b:=by cases d<;>first|exact⟨_,rfl⟩|cases g
  cases g;refine⟨ρ,_,a,r,λv s j n=>?_⟩;obtain⟨l,i,rfl,c,m⟩:=eI.eZ.mp n;exact⟨l,i,rfl,c,k _ s j (HD c m)⟩
end
end L2
namespace L2
open PySem PySem.Spec PyProof.Rows PySem.Builtin PySem.Builtin.Str
section
variable {m:Md}{a:Expr}{f:ee->Od}{p2:Pos}{sts:List Stmt}
end
end L2
namespace L2
open PySem PySem.Spec PyProof.Rows
section
variable {ρ:ee}
end
section
variable {m:Md}{a o:Expr}{fb fc f fk:ee->Od}{p2 fJ:Pos}
def VO(e:(B.map (·.1)).Nodup)(f:∀x∈B,H x.1=Y x.2):∃G,H=eW G B/\(∀x∈B,G x.1=Z)/\∀a,(∀x∈B,x.1≠a)->G a=H a:=by
 let G:Hp:=λa=>if (∃x∈B,x.1=a) then Z else H a
 have d:∀a,(∀x∈B,x.1≠a)->G a=H a:=λa c=>ai λ⟨x,b,z⟩=>c x b z;have g:∀x∈B,G x.1=Z:=λx b=>ag ⟨x,b,rfl⟩;exact⟨G,q8 e f λa c=>(d a c).symm,g,d⟩
end
section
variable {m:Md}{a o:Expr}{fb fc f:ee->Od}{p2 fJ:Pos}
end
section
variable {m:Md}{a o:Expr}{fb fc f:ee->Od}{p2 fJ:Pos}
end
structure yY (P:Program) (w:World) (K:Fg) (mg:Str->Ow) (base:Heap) (c m:Str) (k n:Nat) (f:Lp->Od):Prop where
 ex:∃C a fd ps,jB K c C/\GQ K C/\GR K C m a/\kR P w K mg base vb k a fd ps (Ys K n f)/\kr K fd ps []
section
variable {m:Md}{a o:Expr}{fb fc f:ee->Od}{p2 fJ:Pos}{k n:Nat}
def QE{t c:Str}{F:Lp->Od}{pl:Sem Bool} (N:yY X.prog X.w X.K X.mg X.base t c j n F) (I:PD X o f) (G:iz k X.A) (M:Bp X (e::es) ff) (L:j<=k:=by decide)
  (l:zE e es X:=by rfl) (m:(backTo pos (starEach es X.env)).any (·.1)=false:=by rfl)
  (E:eval (.Call (.Attribute o c apos) (e::es) [] pos) X.env=(do
   let ov <-eval o X.env
   standAt apos.atName
   let (f,first) <-holding [ov] (getMethod ov c pl)
   callWith pos f first (backTo pos (starEach (e::es) X.env)) (backToKw pos (keywordEach [] X.env))):=by rfl):PF X (.Call (.Attribute o c apos) (e::es) [] pos) (fV t c n F f ff):=by
 obtain⟨C,a,fd,ps,O,r,J,Fn,b⟩:=N.ex;refine PE.imp (Cs (pl:=pl) I r J (Fn.mono L) G b .nil nC M l m E) ?_;rintro σ H Q ⟨ρ,d,B,e,k⟩;obtain⟨x,V,h⟩:=bind_some e;by_cases i:vq t c x=true
 ·rw[ag i] at h;obtain⟨s,U,g⟩:=bind_some h;by_cases q:s.length+1=n
  ·rw[ag q] at g;refine⟨ρ,x,B,V,λv H1 y z=>?_⟩;obtain⟨p,C',W,T,rfl,S,R,P⟩:=yO i z;have:=S.uniq O;subst this;exact⟨p,W,T,rfl,R,P,ρ,s,B.same y,U,λvs H2 u D=>⟨x::s,d,by rw[aR];exact dn.cons (z.same u) D,by simpa using q,g,k.later (y.trans u)⟩⟩
  ·rw[ai q] at g;cases g
 ·rw[ai i] at h;cases h
noncomputable def vC(x y:eA):Od:=match x,y with
 |.list xs,.int k=>if 0<=k/\k<=1000/\xs.length<=1000 then Y (.list (List.replicate k.toNat xs).flatten) else Z
 |_,_=>Z
theorem dn.rep{K:Fg}{H:Hp}{b:Lp}{a:List V}(h:dn K H b a):∀k:Nat,dn K H (List.replicate k b).flatten (List.replicate k a).flatten
 |0=>dn.nil
 |k+1=>by rw[bO,bO,cm,cm];exact h.append (dn.rep h k)
def yZ(G:PF X a fa)(F:PD X b fb):PF X (.BinOp a .Mult b pos) (d2 vC fa fb) :=
 PE.imp (MB Sy G F) <| by
  rintro σ H Q ⟨ρ,d,w,e,k⟩;obtain⟨x,L,e⟩:=bind_some e;obtain⟨y,K,c⟩:=bind_some e;obtain⟨i,rfl⟩:∃i,x=.list i:=by cases x<;>first|exact⟨_,rfl⟩|(cases y<;>cases c)
  obtain⟨n,rfl⟩:∃n,y=.int n:=by cases y<;>first|exact⟨_,rfl⟩|cases c
  dsimp only[vC] at c;by_cases s:0<=n/\n<=1000/\i.length<=1000
  ·rw[ag s] at c;cases c;refine⟨ρ,_,w,L,λv O P o h A=>?_⟩;obtain⟨q,M,rfl,rfl,B⟩:=A.cont rfl;obtain⟨f,rfl,r⟩:=B.lst;refine⟨ρ,_,w.same (o.trans h.same),K,λu z j C=>?_⟩;have D:z q=Y (.lst f):=j _ _ (fL h.nd (q,.lst f) (by simp));have N:=r.length;have g:(2:Int) ^ 63=9223372036854775808:=by decide
   have m:f.length*n.toNat<=sizeLine:=by
    have J:f.length<=1000:=by omega
    have I:n.toNat<=1000:=by omega
    exact bj (Nat.mul_le_mul J I) (by decide)
   have l:=(r.same (h.same.trans j)).rep n.toNat;refine⟨q,n,f,rfl,eI.eR.mp C,D,by rw[g];omega,by rw[g];omega,m,λp E=>?_⟩;exact k (.ref p) z [(p,.lst (List.replicate n.toNat f).flatten)] (o.trans (h.same.trans j)) ⟨by simp,(λx t=>by simp at t;subst t;exact E),.one aP .nil⟩ (jv.Vy (.inl ⟨_,_,rfl,rfl,l⟩))
  ·rw[ai s] at c;cases c
end
section
variable {a:Expr}{fb:ee->Od}
end
def QF:Nat->(Lw->Prop)->Prop
 |0,p=>p []
 |n+1,p=>∀v,QF n λa=>p (v::a)
theorem QF.all:∀{n:Nat}{p:Lw->Prop},QF n p->∀a:Lw,a.length=n->p a
 |0,_,h,[],_=>h
 |_+1,_,h,v::a,e=>(h v).all a (Nat.succ.inj e)
def K2(x q:Str)(a:Stmt)(d:Lr):Prop:=∀(f b e:Value) (an:Option Addr) (pX ct:Value),QF d.length λc=>bindArgs (W.fnOf x q (og a) (i9 a) (fg a) .none f b e an pX ct) ⟨c,[]⟩=pure (d.zip c)
theorem K2.to{q:Str}{d:Stmt}{f:Lr}(h:K2 x q d f)(F:Je K x q d a fd):kr K fd f []:=F.binds λj b i l c k g e=>(h j b i l c k).all g e
def gw(K:Fg)(c:Str->Ow)(x:Str)(b:Stmt):Prop:=∃a d,c x=Y (.ref a)/\Je K x x b a d
def mK(K:Fg)(c m q:Str)(b:Stmt):Prop:=∃C a d,jB K c C/\GQ K C/\GR K C m a/\Je K m q b a d
def xb(K:Fg)(d:Str->Ow)(c q:Str)(b:Stmt):Prop:=∃C a e,jB K c C/\d c=Y (.ref C)/\Mk K C a/\Je K "__init__" q b a e
section
variable {c m q:Str}{st:Stmt}{C f:Addr}{od an:Option Addr}{sl:Array Ow}{oc kV dc pm cd ct:Value}
def fnAt(X:K.In h)(G:h.Ns mainGlobals mg)(a:W.nsIn K mainGlobals x=Y (Y (.ref f)))(l:K.lookup f=Y ⟨oc,od,.func (W.fnOf x x (og st) (i9 st) (fg st) .none kV dc pm an cd ct),sl⟩)(c:W.codeIn K cd x=true)(k:W.keepIn K (.ref f)=true):gw K mg x st :=
 ⟨f,_,W.mg_of X G a,G5 l c k⟩
def intAt{n:Int}{t:Tok}(X:K.In h)(G:h.Ns mainGlobals mg)(a:W.nsIn K mainGlobals x=Y (Y (.int n t))):C7 K mg x (.int n):=YK (W.mg_of X G a)
def VP(a:W.nsIn K mainGlobals c=Y (Y (.ref C))) (p:W.plainGet K C Str.empty=true) (d:W.hasDictIn K C=true) (o:W.plainOver K C=true) (s:W.findIn K (.ref C) "__setattr__"=Y (Y (.builtin "object.__setattr__")))
  (n:W.findIn K (.ref C) x=Y Z):fU K c x:=⟨C,a,⟨p,d,o,s⟩,n⟩
def YM(a:W.nsIn K mainGlobals c=Y (Y (.ref C))) (p:W.plainGet K C Str.empty=true) (d:W.hasDictIn K C=true) (o:W.plainOver K C=true) (s:W.findIn K (.ref C) "__setattr__"=Y (Y (.builtin "object.__setattr__")))
  (n:W.findIn K (.ref C) m=Y (Y (.ref f))) (i:W.isFn K (.ref f)=true) (l:K.lookup f=Y ⟨oc,od,.func (W.fnOf m q (og st) (i9 st) (fg st) .none kV dc pm an cd ct),sl⟩) (e:W.codeIn K cd q=true) (k:W.keepIn K (.ref f)=true):mK K c m q st :=
 ⟨C,f,_,a,⟨p,d,o,s⟩,⟨n,i,k⟩,G5 l e k⟩
def Tc(X:K.In h) (G:h.Ns mainGlobals mg) (a:W.nsIn K mainGlobals c=Y (Y (.ref C))) (m:W.makesIn K C=true) (b:W.keepIn K (.ref C)=true)
  (n:W.findIn K (.ref C) "__init__"=Y (Y (.ref f))) (i:W.isFn K (.ref f)=true) (l:K.lookup f=Y ⟨oc,od,.func (W.fnOf "__init__" q (og st) (i9 st) (fg st) .none kV dc pm an cd ct),sl⟩) (e:W.codeIn K cd q=true) (k:W.keepIn K (.ref f)=true):xb K mg c q st :=
 ⟨C,f,_,a,W.mg_of X G a,⟨m,n,i,b⟩,G5 l e k⟩
end
section
variable {P:Program}{base:Heap}{c m q:Str}{st:Stmt}{N:Lr}{k n:Nat}{g:ee->Option gQ}{fa:Addr}
abbrev BL(P:Program)(w:World)(K:W.Frag)(f:Str->Option Value)(c:Heap)(q:Str)(d:Stmt)(N:List Str)(k:Nat)(h:V->Md)(O:List Nat)(g:ee->Option gQ):Prop :=
 ∀{v0:V}{e:Addr}{b:Value}{A:Around}{a:List Env}{s:Shared}{H:Hp}{E:XK},iz k (A.deeper (envOfC q (fg d) (zB s) e b))->(A.deeper (envOfC q (fg d) (zB s) e b)).units+64<cLine->N.Nodup->O.Nodup ->
  rn (vh vb P w K f c N q (fg d) e b A a s H E).Mr (h v0) O (i9 d) g
theorem gS(O:List Nat) (F:gw K mg x st) (f:BL P w K mg base x st N k (λ_=>.dat) O g) (S:il N (N.take n) (fg st):=by exact⟨rfl,rfl,rfl,by decide +kernel,rfl,by decide +kernel,by decide +kernel⟩) (e:n=(N.take n).length:=by rfl) (h:∀i∈O,n<=i:=by decide) (c:O.Nodup:=by decide)
  (o:K2 x x st (N.take n):=by intro _ _ _ _ _ _;(repeat' intro _);exact rfl):su P w K mg base x (k+1) n (iQ N g):=by
 obtain⟨a,l,j,F⟩:=F;exact⟨a,l,N.take n,Nm F S e h λm A b s H E d=>f (v0:=.lb) d d.units S.nd c,j,F.kp,o.to F⟩
theorem HE(O:List Nat) (F:gw K mg x st) (f:BL P w K mg base x st N k (λ_=>.own) O g) (S:il N (N.take n) (fg st):=by exact⟨rfl,rfl,rfl,by decide +kernel,rfl,by decide +kernel,by decide +kernel⟩) (e:n=(N.take n).length:=by rfl) (h:∀i∈O,n<=i:=by decide) (c:O.Nodup:=by decide)
  (o:K2 x x st (N.take n):=by intro _ _ _ _ _ _;(repeat' intro _);exact rfl):vo P w K mg base x (k+1) n (Hs N g):=by
 obtain⟨a,l,j,F⟩:=F;exact⟨a,l,N.take n,Nn F S e h λm A b s H E d=>f (v0:=.lb) d d.units S.nd c,j,F.kp,o.to F⟩
theorem E4(O:List Nat) (F:gw K mg x st) (f:BL P w K mg base x st N k (.io (kA (0::O))) (0::O) g) (S:il N (N.take n) (fg st):=by exact⟨rfl,rfl,rfl,by decide +kernel,rfl,by decide +kernel,by decide +kernel⟩) (e:n=(N.take n).length:=by rfl) (h:∀i∈O,n<=i:=by decide) (b:(0::O).Nodup:=by decide) (j:n≠0:=by decide)
  (p:K2 x x st (N.take n):=by intro _ _ _ _ _ _;(repeat' intro _);exact rfl):Ht (kA (0::O)) P w K mg base x (k+1) n (qz N g):=by
 obtain⟨a,l,m,F⟩:=F;exact⟨a,l,N.take n,Ry F S e j b h λq o A c s H E d=>f d d.units S.nd b,m,F.kp,p.to F⟩
def C9(O:List Nat) (F:xb K mg c q st) (l:BL P w K mg base q st N k (.io (kA (0::O))) (0::O) g) (S:il N (N.take n) (fg st):=by exact⟨rfl,rfl,rfl,by decide +kernel,rfl,by decide +kernel,by decide +kernel⟩) (h:n=(N.take n).length:=by rfl) (m:∀i∈O,n<=i:=by decide) (b:(0::O).Nodup:=by decide) (o:n≠0:=by decide) (j:kA (0::O)=false:=by rfl)
  (v:K2 "__init__" q st (N.take n):=by intro _ _ _ _ _ _;(repeat' intro _);exact rfl):vp P w K mg base c (k+1) n (qz N g):=by
 obtain⟨C,a,p,t,r,M,F⟩:=F;have f:=Ry F S h o b m λx u A d s H E e=>l e e.units S.nd b;rw[j] at f;exact⟨C,a,p,N.take n,t,r,M,f,v.to F⟩
def o6(O:List Nat) (F:mK K c m q st) (h:BL P w K mg base q st N k (λ_=>.dat) O g) (S:il N (N.take n) (fg st):=by exact⟨rfl,rfl,rfl,by decide +kernel,rfl,by decide +kernel,by decide +kernel⟩) (f:n=(N.take n).length:=by rfl) (j:∀i∈O,n<=i:=by decide) (d:O.Nodup:=by decide)
  (t:K2 m q st (N.take n):=by intro _ _ _ _ _ _;(repeat' intro _);exact rfl):jb P w K mg base c m (k+1) n (iQ N g):=by
 obtain⟨C,a,l,p,o,M,F⟩:=F;exact⟨C,a,l,N.take n,p,o,M,Nm F S f j λr A b s H E e=>h (v0:=.lb) e e.units S.nd d,t.to F⟩
def Td(O:List Nat) (F:mK K c m q st) (h:BL P w K mg base q st N k (λ_=>.own) O g) (S:il N (N.take n) (fg st):=by exact⟨rfl,rfl,rfl,by decide +kernel,rfl,by decide +kernel,by decide +kernel⟩) (f:n=(N.take n).length:=by rfl) (j:∀i∈O,n<=i:=by decide) (d:O.Nodup:=by decide)
  (t:K2 m q st (N.take n):=by intro _ _ _ _ _ _;(repeat' intro _);exact rfl):yY P w K mg base c m (k+1) n (Hs N g):=by
 obtain⟨C,a,l,p,o,M,F⟩:=F;exact⟨C,a,l,N.take n,p,o,M,Nn F S f j λr A b s H E e=>h (v0:=.lb) e e.units S.nd d,t.to F⟩
variable {a:Expr}{fa fb:ee->Od}
def jH(d:X.A.units+64<cLine)(g:PD X a fa)(f:PD X b fb)(e:tH b:=by exact λ_ _=>rfl)(c:EC b:=by exact λ_ _=>rfl):PD X (.Subscript a b pos) (zX fa fb):=SX d g f e c
def fz{c:CmpOp}{g:eA->eA->Od}(d:rP X (compareOp c) g)(h:PD X a fa)(f:PD X b fb)(e:behindInMarks c b=false:=by first|exact Cp _|with_unfolding_all rfl):Bo X (.Compare a [c] [b] pos) (fB (d2 g fa fb)):=P5 d h f e
def kD{c:CmpOp}{g:eA->eA->Od}(d:rP X (compareOp c) g)(h:PD X a fa)(f:PD X b fb)(e:behindInMarks c b=false:=by first|exact Cp _|with_unfolding_all rfl):PD X (.Compare a [c] [b] pos) (d2 g fa fb):=SG d h f e
noncomputable def NM:Lx->Option Lr
 |[]=>Y []
 |.Constant (.str x) _ _::es=>(NM es).map (x::·)
 |_=>Z
def RC:Lr->ee->Option Lp
 |[]=>f9
 |x::xs=>fK (zA x) (RC xs)
def sy(a:Lr)(h:NM es=Y a):Bp X es (RC a):=by
 induction es generalizing a with
 |nil=>cases h;exact j4
 |cons e es c=>
  unfold NM at h;split at h
  ·rename_i z;cases z
  ·rename_i z;cases z;obtain⟨b,e,rfl⟩:=aa.mp h;exact eG dr (c b e)
  ·cases h
end
section
def eX.told(I:eX X pins σ H s) {u u':HO} (k:H a=Y u) (C:∀b,u≠.own b) (l:∀xs,u≠.tup xs) (B:∀ps,u≠.Pf ps) (t:∀o v,X.H₀ a≠Y (.tq o v))
  (h:∀H',iK X.prog X.w H' s.heap a u'):eX X pins σ (upd H a u') s:=by
 have g:∀b,H b=Z->b≠a:=λb e z=>by subst z;rw[k] at e;cases e
 have f:∀b o,H b=Y o->o≠u->b≠a:=λb o e n z=>by subst z;rw[k] at e;exact n (bq e).symm
 refine⟨I.ok,I.os,I.bare,⟨I.base.keep,I.base.slot,λb o e n y=>?_,I.base.there,λb xs e=>?_,λb o v e=>?_,λb ps e=>?_⟩,I.loc,I.cell,?_,λx c e=>?_,λp A=>?_,λb o e=>?_,I.len⟩
 ·have:=I.base.free b o e n y;rw[eM (g b this)];exact this
 ·have:=I.base.vd b xs e;rw[eM (f b _ this (l xs).symm)];exact this
 ·rw[eM (λz:b=a=>t o v (by rw[<-z];exact e))];exact I.base.sg b o v e
 ·obtain⟨d,this⟩:=I.base.wX b ps e;exact⟨d,by rw[eM (f b _ this (B _).symm)];exact this⟩
 ·rw[eM (g _ I.free)];exact I.free
 ·rw[eM (g _ (I.mS x c e))];exact I.mS x c e
 ·obtain⟨r,i,m⟩:=I.pin p A;exact⟨r,by rw[eM (g _ i)];exact i,m⟩
 ·by_cases j:b=a
  ·subst j;rw[eS] at e;cases e;exact h _
  ·rw[eM j] at e;exact(I.ij b o e).tw (λc v _ q=>q) (λc q=>by rw[eM (f c _ q (C b).symm)];exact q) λc xs q=>by rw[eM (f c _ q (l xs).symm)];exact q
theorem Paired.at'{α β:Type}{F:α->β->Prop}:∀{d:List α}{c:List β}{i:Nat}{a:α}{b:β},Paired F d c->d[i]?=Y a->c[i]?=Y b->F a b
 |_,_,i,_,_,.nil,h,_=>by simp at h
 |_,_,0,_,_,.cons r _,h,h'=>by simp at h h';subst h h';exact r
 |_,_,i+1,_,_,.cons _ t,h,h'=>Paired.at' t (by simpa using h) (by simpa using h')
def VQ(a:Addr)(c:Obj)(b:List (Key×V)):It :=
 ⟨λi H=>H a=Y (.tq c (.dK b))/\i<b.length,λi H x H'=>H'=H/\∃y v,b[i]?=Y (y,v)/\x=kV y,λi H=>H a=Y (.tq c (.dK b))/\b.length<=i⟩
def BM{P:Program}{g:Obj}{k:Array DictEntry}{l:Nat}(x:iK P w H h a (.tq g (.dK kv)))(j:g.data=.dict k l):
  ∃e,KV kv e/\h.DictAt (fD P w) a e l:=by
 obtain⟨i,z,p,e,f,o,m,n,b,c,d,r⟩:=x;rw[i] at b;cases b;rw[j] at d;cases d;exact⟨e,f,g,k,i,c,j,r⟩
def K3{P:Program}(a p:Addr)(R:Obj)(m:List (Key×V)):Cj P w K tg (VQ a R m) [p] p (λi h=>∃t n,R.data=.dict t n/\h.IsKeyIter p a i m.length n) where
 mem:=by simp
 obj:=by
  rintro i h ⟨t,n,_,o,e,c,d⟩ b r;have e':b=p:=by simpa using r
  subst e';exact⟨o,e,λv z=>by rw[d] at z;cases z⟩
 keep:=λi h B ⟨t,n,q,f⟩ k=>⟨t,n,q,f.at λo e=>k p (by simp) o e⟩
 item:=by intro X F hw G W i l s σ H E I A ⟨t,n,x,f⟩ ⟨D,U⟩;subst F hw G;obtain⟨j,g,Q⟩:=BM (I.ij a _ D) x;have y:m.length=j.length:=cp g;obtain⟨O,N,f2,M,L,J⟩:=A p (by simp);have T:m[i]?=Y m[i]:=aL U;have S:j[i]?=Y j[i]:=aL (by omega);have hr:=Paired.at' g T S;rw[y] at f;refine wpAny_pyNext_dict_item f Q (k:=j[i].1) (v:=j[i].2) (by rw[S]) λC B hy u sb=>?_;have I1:eX X l σ H { s with heap:=B }:=I.turned (t':=s.toks) (λb o r e=>(sb.2 b r).trans e) O N M L J;obtain⟨o,e,c,d⟩:=id u;exact⟨C,rfl,yn (s:={ s with heap:=B }) e c d (by decide) ⟨kV j[i].1,H,I1,vw hy,⟨rfl,m[i].1,m[i].2,T,by rw[hr.1]⟩,⟨t,n,x,by rw[y];exact u⟩,λb r=>(A b r).1⟩⟩
 done:=by intro X F hw G W i l s σ H E I A ⟨t,n,x,f⟩ ⟨D,U⟩;subst F hw G;obtain⟨j,g,Q⟩:=BM (I.ij a _ D) x;have y:m.length=j.length:=cp g;obtain⟨O,N,f2,M,L,J⟩:=A p (by simp);rw[y] at f;exact wpAny_pyNext_dict_end (I.ok.hd W) f Q (bQ (by omega)) λB eb=>⟨rfl,I.turned (t':=s.toks) (λb o r e=>eb b o r e) O N M L J⟩
 self:=λ_ _ _ _ _ ⟨_,_,_,f⟩ h=>wpAny_pyIter_keyiter f h
def QG{E:TE}(M:PE X e E):PI X tg e (λσ H R=>E σ H λv n=>∃a i,v=.ref a/\Rd n a (.dK i)/\(∀g,n a=Y (.tq g (.dK i))->R (VQ a g i) n) /\
  ∀g,n a=Y (.dK i)->(∀o v,X.H₀ a≠Y (.tq o v))->R (VQ a g i) (upd n a (.tq g (.dK i)))):=by
 intro f s σ H R I h;refine gO (@M f s σ H _ I h) ?_;rintro v k ⟨y,n,A,J,a,i,P,j,L,K⟩;subst P;cases J;have G:∀{m:Hp}{g:Obj},eX X f σ m k->m a=Y (.tq g (.dK i))->R (VQ a g i) m->(zw X) (pyIter (.ref a)) (XJ X f σ tg R) X.xe k:=λ{m g} x e2 q=>by
  obtain⟨t,z,B,D,l,o,u,C,p,c,d,r⟩:=(show iK X.prog X.w m k.heap a (.tq g (.dK i)) from x.ij a _ e2)
  rw[t] at p;cases p;have O:∀b∈[(zB k)],mv X f m b:=λb N=>by rw[show b=(zB k) by simpa using N];exact x.ym (ax _) (x.ij.fresh (ax _))
  refine wpAny_pyIter_dict (knd:=fD X.prog X.w) B ⟨g,u,t,c,d,r⟩ ?_;exact⟨_,[(zB k)],_,_,m,rfl,x.kept (t':=k.toks) λb o e=>aj _ e,K3 a _ g i,⟨u,C,d,_,aA _ rfl,rfl,by rw[cp l];rfl⟩,O,q⟩
 rcases j with j | ⟨g,j⟩
 ·obtain⟨z,B,D,l,o,u,C,t,r⟩:=(show iK X.prog X.w n k.heap a (.dK i) from A.ij a _ j)
  have F:∀o v,X.H₀ a≠Y (.tq o v):=λo v e=>by have:=A.base.sg a o v e;rw[j] at this;cases this
  exact G (A.told (u':=.tq o (.dK i)) j (λ_ q=>by cases q) (λ_ q=>by cases q) (λ_ q=>by cases q) F λQ=>⟨t,z,B,D,l,o,u,C,t,r⟩) eS (K o j F)
 ·exact G A j (L g j)
def QH{j:Stmt}{t:TS}(h:PS X j t):PS X j (λD σ H=>t { D with nx:=λσ' b=>D.nx σ' b\/∃a e d,b a=Y (.tq e (.dK d))/\(∀o v,X.H₀ a≠Y (.tq o v))/\D.nx σ' (upd b a (.dK d)) } σ H):=by
 intro c s σ H D I n;refine gO (@h c s σ H _ I n) λf l q=>?_;cases f with
 |next=>
  obtain⟨σ',b,i,q | ⟨a,e,d,k,m,q⟩⟩:=q
  ·exact⟨σ',b,i,q⟩
  ·obtain⟨_,g⟩:=(show iK X.prog X.w b l.heap a (.tq e (.dK d)) from i.ij a _ k)
   exact⟨σ',_,i.told (u':=.dK d) k (λ_ q=>by cases q) (λ_ q=>by cases q) (λ_ q=>by cases q) m λ_=>g,q⟩
 |brk=>exact q
 |cont=>exact q
 |ret v=>exact q
end
def HF(u:HO)(a:List (Key×V)):Prop:=u=.dK a\/∃o,u=.tq o (.dK a)
def E5{u g:HO}(j:G a=Y u)(i:HF u kv)(e:HF g kv):An K G (upd G a g):=by
 have c:∀{b:Addr}{v:HO},G b=Y v->(∀kv,¬ HF v kv)->b≠a:=λ{b v} h n z=>by subst z;rw[j] at h;cases h;exact n _ i
 refine⟨λ{b xs} h=>?_,λ{b xs} h=>?_,λ{b d} h=>?_,λ{b C dx fs} h=>?_⟩
 ·rcases h with (h | ⟨o,h⟩)|h
  ·exact .inl (.inl (by rw[eM (c h λ_ z=>by rcases z with z | ⟨_,z⟩<;>cases z)];exact h))
  ·exact .inl (.inr ⟨o,by rw[eM (c h λ_ z=>by rcases z with z | ⟨_,z⟩<;>cases z)];exact h⟩)
  ·exact .inr h
 ·rcases h with (h | ⟨o,h⟩)|h
  ·exact .inl (.inl (by rw[eM (c h λ_ z=>by rcases z with z | ⟨_,z⟩<;>cases z)];exact h))
  ·exact .inl (.inr ⟨o,by rw[eM (c h λ_ z=>by rcases z with z | ⟨_,z⟩<;>cases z)];exact h⟩)
  ·exact .inr h
 ·by_cases f:b=a
  ·subst f;have:d=kv:=by
    rcases h with h | ⟨o,h⟩<;>rw[j] at h<;>cases h<;>rcases i with z | ⟨_,z⟩<;>cases z<;>rfl
   subst this;rcases e with z | ⟨o,z⟩<;>subst z
   ·exact .inl eS
   ·exact .inr ⟨o,eS⟩
  ·rcases h with h | ⟨o,h⟩
   ·exact .inl (by rw[eM f];exact h)
   ·exact .inr ⟨o,by rw[eM f];exact h⟩
 ·rw[eM (c h λ_ z=>by rcases z with z | ⟨_,z⟩<;>cases z)];exact h
section
variable {m:Md}{a:Expr}{f:ee->Od}{g:ee->Option gQ}
def wD{n:Hp}{a:Addr}{c:Obj}(g:G a=Y (.tq c (.dK kv)))(e:fZ K n kvs kv):nK K (VQ a c kv) (kvs.map (·.1)) G:=λH' b=>by
 have f:kvs.length=kv.length:=e.length;refine⟨⟨b _ _ g,by simp[f]⟩,λi d q=>⟨⟨b _ _ g,?_⟩,λx r ⟨l,y,v,k,j⟩=>?_⟩⟩
 ·have:=(au.mp q).1;simpa [f] using this
 ·subst l j;refine⟨.refl _,λo _ _=>?_⟩;obtain⟨p,h,m⟩:=(vy (H':=o) e).get q;rw[az,k] at h;cases h;exact m
end
inductive MV where
 |d (x:eA)
 |l (n:Nat)
 |t (xs:List MV)
inductive MO where
 |lst (xs:List MV)
 |lS (kvs:List (Key×MV))
 |ins (c:Str) (fs:List (Str×MV))
 |gone
abbrev MH:=List MO
abbrev MR:=List (Option MV)
abbrev AL:=List (Addr×Addr)
mutual
def gv (K:Fg) (G:Hp) (as:AL):MV->V->Prop
  |.d x,v=>eI K G x v
  |.l n,v=>∃a,as[n]?=Y a/\v=.ref a.1
  |.t xs,v=>∃p vs,v=.ref p/\pW K G p vs/\ft K G as xs vs
def ft (K:Fg) (G:Hp) (as:AL):List MV->List V->Prop
  |[],vs=>vs=[]
  |x::xs,vs=>∃v r,vs=v::r/\gv K G as x v/\ft K G as xs r
end
def oA(c b:AL):Prop:=∀(n:Nat) (a:Addr×Addr),c[n]?=Y a->b[n]?=Y a
def oA.refl(a:AL):oA a a:=λ_ _ h=>h
def oA.trans{a b c:AL}(h:oA a b)(h':oA b c):oA a c:=λn x e=>h' n x (h n x e)
def oA.snoc{b:AL}{x:Addr×Addr}:oA b (b++[x]):=λn a e=>by rw[aE (au.mp e).1];exact e
section
variable {G':Hp}{as E6:AL}
def gv.gk{x:eA}:gv K G as (.d x) v↔eI K G x v:=by unfold gv;exact cI
def gv.jX{n:Nat}:gv K G as (.l n) v↔∃a,as[n]?=Y a/\v=.ref a.1:=by unfold gv;exact cI
def gv.tY{a:List MV}:gv K G as (.t a) v↔∃p b,v=.ref p/\pW K G p b/\ft K G as a b:=by unfold gv;exact cI
def ft.eP:ft K G as [] vs↔vs=[]:=by unfold ft;exact cI
def ft.eE{x:MV}{a:List MV}:ft K G as (x::a) vs↔∃v r,vs=v::r/\gv K G as x v/\ft K G as a r:=by
 constructor
 ·intro h;unfold ft at h;exact h
 ·intro h;unfold ft;exact h
mutual
theorem gv.mono (e:An K G G') (x:oA as E6):∀{m:MV}{v:V},gv K G as m v->gv K G' E6 m v
  |.d _,_,h=>gv.gk.mpr ((gv.gk.mp h).sim e)
  |.l _,_,h=>by
    obtain⟨a,e1,e2⟩:=gv.jX.mp h
    exact gv.jX.mpr ⟨a,x _ _ e1,e2⟩
  |.t _,_,h=>by
    obtain⟨p,vs,e1,e2,e3⟩:=gv.tY.mp h
    exact gv.tY.mpr ⟨p,vs,e1,e.rk e2,ft.mono e x e3⟩
theorem ft.mono (e:An K G G') (x:oA as E6):∀{ms:List MV}{vs:List V},ft K G as ms vs->ft K G' E6 ms vs
  |[],_,h=>ft.eP.mpr (ft.eP.mp h)
  |_::_,_,h=>by
    obtain⟨v,r,e1,e2,e3⟩:=ft.eE.mp h
    exact ft.eE.mpr ⟨v,r,e1,gv.mono e x e2,ft.mono e x e3⟩
end
def ft.nil:ft K G as [] []:=ft.eP.mpr rfl
def ft.cons{x:MV}{xs:List MV}{v:V}{vs:List V}(h:gv K G as x v)(t:ft K G as xs vs):ft K G as (x::xs) (v::vs):=ft.eE.mpr ⟨v,vs,rfl,h,t⟩
theorem ft.length:∀{a:List MV}{vs:List V},ft K G as a vs->a.length=vs.length
 |[],_,h=>by rw[ft.eP.mp h];rfl
 |_::_,_,h=>by obtain⟨v,r,rfl,_,t⟩:=ft.eE.mp h;simp[t.length]
theorem ft.get:∀{c:List MV}{vs:List V}{i:Nat}{x:MV},ft K G as c vs->c[i]?=Y x->∃v,vs[i]?=Y v/\gv K G as x v
 |[],_,_,_,_,e=>by simp at e
 |_::_,_,i,_,h,e=>by
  obtain⟨v,r,rfl,d,t⟩:=ft.eE.mp h;cases i with
  |zero=>simp at e;subst e;exact⟨v,rfl,d⟩
  |succ i=>obtain⟨u,a,b⟩:=t.get (by simpa using e);exact⟨u,by simpa using a,b⟩
theorem ft.append:∀{b a:List MV}{c d:List V},ft K G as b c->ft K G as a d->ft K G as (b++a) (c++d)
 |[],_,_,_,h,h'=>by rw[ft.eP.mp h];exact h'
 |_::_,_,_,_,h,h'=>by obtain⟨v,r,rfl,e,t⟩:=ft.eE.mp h;exact ft.cons e (t.append h')
theorem ft.set:∀{a:List MV}{b:List V}{i:Nat}{x:MV}{v:V},ft K G as a b->gv K G as x v->ft K G as (a.set i x) (b.set i v)
 |[],_,_,_,_,h,_=>by rw[ft.eP.mp h];exact ft.nil
 |_::_,_,i,_,_,h,h'=>by
  obtain⟨v,r,rfl,c,t⟩:=ft.eE.mp h;cases i with
  |zero=>exact ft.cons h' t
  |succ i=>exact ft.cons c (t.set h')
theorem ft.dropLast:∀{a:List MV}{b:List V},ft K G as a b->ft K G as a.dropLast b.dropLast
 |[],_,h=>by rw[ft.eP.mp h];exact ft.nil
 |[_],_,h=>by obtain⟨v,r,rfl,c,t⟩:=ft.eE.mp h;rw[ft.eP.mp t];exact ft.nil
 |_::_::_,_,h=>by obtain⟨v,r,rfl,c,t⟩:=ft.eE.mp h;obtain⟨e,g,rfl,d,f⟩:=ft.eE.mp t;exact ft.cons c (ft.dropLast t)
def k9(K:Fg)(G:Hp)(c:AL){κ:Type}(b:List (κ×MV))(a:List (κ×V)):Prop:=a.map (·.1)=b.map (·.1)/\ft K G c (b.map (·.2)) (a.map (·.2))
theorem k9.mono{κ:Type}{b:List (κ×MV)}{a:List (κ×V)}(e:An K G G')(x:oA as E6)(h:k9 K G as b a):k9 K G' E6 b a:=⟨h.1,h.2.mono e x⟩
theorem k9.nil{κ:Type}:k9 K G as ([]:List (κ×MV)) []:=⟨rfl,ft.nil⟩
theorem k9.cases{κ:Type}{k:κ}{x:MV}{fs:List (κ×MV)}{b:List (κ×V)}(h:k9 K G as ((k,x)::fs) b):∃v r,b=(k,v)::r/\gv K G as x v/\k9 K G as fs r:=by
 obtain⟨a,c⟩:=h;cases b with
 |nil=>cases a
 |cons y r=>obtain⟨f,v⟩:=y;obtain⟨d,r',e,i,t⟩:=ft.eE.mp c;simp at a e;obtain⟨rfl,a⟩:=a;obtain⟨rfl,rfl⟩:=e;exact⟨v,r,rfl,i,a,t⟩
theorem k9.cons{κ:Type}{k:κ}{x:MV}{v:V}{b:List (κ×MV)}{a:List (κ×V)}(i:gv K G as x v)(h:k9 K G as b a):k9 K G as ((k,x)::b) ((k,v)::a):=⟨by simp[h.1],ft.cons i h.2⟩
def k9.Dc{κ:Type}{a:List (κ×V)}(h:k9 K G as ([]:List (κ×MV)) a):a=[]:=by simpa using h.1
theorem k9.length{κ:Type}{fs:List (κ×MV)}{a:List (κ×V)}(h:k9 K G as fs a):fs.length=a.length:=by simpa using (bx List.length h.1).symm
noncomputable def qA(f:Str):List (Str×MV)->Option MV
 |[]=>Z
 | (g,x)::r=>if g=f then Y x else qA f r
noncomputable def BN(f:Str)(y:MV):List (Str×MV)->List (Str×MV)
 |[]=>[(f,y)]
 | (g,x)::r=>if g=f then (g,y)::r else (g,x)::BN f y r
theorem k9.look{f:Str}{x:MV}:∀{d:List (Str×MV)}{c:List (Str×V)},k9 K G as d c->qA f d=Y x->∃v,c.lookup f=Y v/\gv K G as x v
 |[],_,_,e=>by cases e
 | (g,y)::r,_,h,e=>by
  obtain⟨v,j,rfl,i,t⟩:=h.cases;by_cases q:g=f
  ·simp only[qA,ag q] at e;cases e;exact⟨v,by rw[aY,bY.mpr q.symm],i⟩
  ·simp only[qA,ai q] at e;obtain⟨u,a,b⟩:=t.look e;exact⟨u,by rw[aY,aZ.mpr (λz=>q z.symm)];exact a,b⟩
theorem k9.put{f:Str}{y:MV}{u:V}(i:gv K G as y u):∀{b:List (Str×MV)}{a:List (Str×V)},k9 K G as b a->k9 K G as (BN f y b) (lO f u a)
 |[],_,h=>by rw[h.Dc];exact k9.cons i k9.nil
 | (g,x)::r,_,h=>by
  obtain⟨v,d,rfl,c,t⟩:=h.cases;unfold BN lO;by_cases q:g=f
  ·rw[ag q,ag q];exact k9.cons i t
  ·rw[ai q,ai q];exact k9.cons c (t.put i)
noncomputable def qB(k:Key)(a:List (Key×MV)):Option MV:=(a.find? λb=>decide (b.1=k)).map (·.2)
noncomputable def y0(k:Key)(v:MV)(kvs:List (Key×MV)):List (Key×MV) :=
 if (kvs.any λa=>decide (a.1=k))=true then kvs.map (λa=>if a.1=k then (a.1,v) else a) else kvs++[(k,v)]
def HG(k:Key)(a:List (Key×MV)):List (Key×MV):=a.filter λb=>decide (b.1≠k)
theorem k9.val{k:Key}:∀{d:List (Key×MV)}{f:List (Key×V)},k9 K G as d f->(qB k d=Z/\mw f k=Z)\/∃x v,qB k d=Y x/\mw f k=Y v/\gv K G as x v
 |[],_,h=>by rw[h.Dc];exact .inl ⟨rfl,rfl⟩
 | (y,x)::r,_,h=>by
  obtain⟨v,l,rfl,i,t⟩:=h.cases;by_cases e:y=k
  ·exact .inr ⟨x,v,by simp[qB,e],by simp[mw,e],i⟩
  ·rcases k9.val (k:=k) t with ⟨a,b⟩ | ⟨g,j,a,b,c⟩
   ·exact .inl ⟨by simpa [qB,e] using a,by simpa [mw,e] using b⟩
   ·exact .inr ⟨g,j,by simpa [qB,e] using a,by simpa [mw,e] using b,c⟩
theorem k9.any{k:Key}:∀{a:List (Key×MV)}{b:List (Key×V)},k9 K G as a b->(b.any λx=>decide (x.1=k))=a.any λx=>decide (x.1=k)
 |[],_,h=>by rw[h.Dc];rfl
 | (y,x)::r,_,h=>by obtain⟨v,c,rfl,i,t⟩:=h.cases;simp only[cu,t.any]
theorem k9.snoc{κ:Type}{k:κ}{y:MV}{u:V}(i:gv K G as y u):∀{a:List (κ×MV)}{b:List (κ×V)},k9 K G as a b->k9 K G as (a++[(k,y)]) (b++[(k,u)])
 |[],_,h=>by rw[h.Dc];exact k9.cons i k9.nil
 | (_,_)::_,_,h=>by obtain⟨v,d,rfl,c,t⟩:=h.cases;exact k9.cons c (t.snoc i)
theorem k9.Te{k:Key}{y:MV}{u:V}(i:gv K G as y u):∀{a:List (Key×MV)}{b:List (Key×V)},k9 K G as a b->k9 K G as (a.map λx=>if x.1=k then (x.1,y) else x) (b.map λx=>if x.1=k then (x.1,u) else x)
 |[],_,h=>by rw[h.Dc];exact k9.nil
 | (z,_)::_,_,h=>by
  obtain⟨v,d,rfl,c,t⟩:=h.cases;simp only[aB];by_cases e:z=k
  ·simp only[ag e];exact k9.cons i (t.Te i)
  ·simp only[ai e];exact k9.cons c (t.Te i)
theorem k9.putK{k:Key}{y:MV}{u:V}{a:List (Key×MV)}{b:List (Key×V)}(i:gv K G as y u)(h:k9 K G as a b):k9 K G as (y0 k y a) (L2.putK b k u):=by
 unfold y0 L2.putK;rw[h.any];split
 ·exact h.Te i
 ·exact h.snoc i
theorem k9.drop{k:Key}:∀{a:List (Key×MV)}{b:List (Key×V)},k9 K G as a b->k9 K G as (HG k a) (yz b k)
 |[],_,h=>by rw[h.Dc];exact k9.nil
 | (z,_)::_,_,h=>by
  obtain⟨v,d,rfl,c,t⟩:=h.cases;unfold HG yz;by_cases e:z=k
  ·simp only[dw,e,ne_eq,not_true_eq_false,decide_false,bG,cT];exact t.drop
  ·simp only[dw,e,ne_eq,not_false_eq_true,decide_true,cx];exact k9.cons c t.drop
def Pc(K:Fg)(G:Hp)(b:AL)(a:Addr×Addr):MO->List (Addr×HO)->Prop
 |.lst xs,B=>∃d,B=[(a.1,.lst d)]/\ft K G b xs d
 |.lS kvs,B=>∃e,B=[(a.1,.dK e)]/\k9 K G b kvs e
 |.ins c fs,B=>∃C f,B=[(a.1,.ins C a.2 f),(a.2,.own a.1)]/\jB K c C/\k9 K G b fs f
 |.gone,B=>B=[]
def E7(K:Fg)(G:Hp)(b:AL):AL->MH->List (Addr×HO)->Prop
 |[],μ,B=>μ=[]/\B=[]
 |a::l,μ,B=>∃o μ' d c,μ=o::μ'/\B=d++c/\Pc K G b a o d/\E7 K G b l μ' c
theorem Pc.mono{a:Addr×Addr}{o:MO}{B:List (Addr×HO)}(e:An K G G')(x:oA as E6)(h:Pc K G as a o B):Pc K G' E6 a o B:=by
 cases o with
 |lst k=>obtain⟨vs,d,b⟩:=h;exact⟨vs,d,b.mono e x⟩
 |lS f=>obtain⟨g,d,b⟩:=h;exact⟨g,d,b.mono e x⟩
 |ins c l=>obtain⟨C,i,d,b,j⟩:=h;exact⟨C,i,d,b,j.mono e x⟩
 |gone=>exact h
def Pc.mI{a:Addr×Addr}{o:MO}(h:Pc K G as a o B):pH B:=by
 cases o with
 |lst d=>obtain⟨e,rfl,_⟩:=h;exact .one aP .nil
 |lS b=>obtain⟨f,rfl,_⟩:=h;exact .one aP .nil
 |ins c i=>obtain⟨C,g,rfl,_⟩:=h;exact .ins .nil
 |gone=>cases (show B=[] from h);exact .nil
theorem E7.mono(e:An K G G')(x:oA as E6):∀{l:AL}{μ:MH}{B:List (Addr×HO)},E7 K G as l μ B->E7 K G' E6 l μ B
 |[],_,_,h=>h
 |_::_,_,_,⟨o,μ',B1,B2,e1,e2,e3,t⟩=>⟨o,μ',B1,B2,e1,e2,e3.mono e x,E7.mono e x t⟩
theorem E7.mI:∀{l:AL}{μ:MH}{B:List (Addr×HO)},E7 K G as l μ B->pH B
 |[],_,_,h=>by rw[h.2];exact .nil
 |_::_,_,_,⟨o,μ',B1,B2,e1,e2,e3,t⟩=>by rw[e2];exact e3.mI.append t.mI
theorem E7.len:∀{l:AL}{μ:MH}{B:List (Addr×HO)},E7 K G as l μ B->l.length=μ.length
 |[],_,_,h=>by rw[h.1];rfl
 |_::_,_,_,⟨o,μ',B1,B2,e1,e2,e3,t⟩=>by rw[e1];simp[t.len]
theorem E7.at{o:MO}:∀{l:AL}{μ:MH}{B:List (Addr×HO)}{n:Nat},E7 K G as l μ B->μ[n]?=Y o ->
  ∃a g d f,l[n]?=Y a/\B=g++(d++f)/\pH g/\pH f/\Pc K G as a o d/\∀c b,Pc K G as a c b->E7 K G as l (μ.set n c) (g++(b++f))
 |[],_,_,_,h,e=>by rw[h.1] at e;cases e
 |a::l,_,_,0,⟨o1,μ',d,B2,e1,e2,e3,t⟩,e=>by subst e1 e2;cases e;exact⟨a,[],d,B2,rfl,rfl,.nil,t.mI,e3,λc b h=>⟨c,μ',b,B2,rfl,rfl,h,t⟩⟩
 |a::l,_,_,n+1,⟨o1,μ',d,B2,e1,e2,e3,t⟩,e=>by subst e1 e2;obtain⟨q,g,b,f,p,rfl,m,k,j,i⟩:=t.at (n:=n) (by simpa using e);exact⟨q,d++g,b,f,by simpa using p,by simp,e3.mI.append m,k,j,λc B h=>⟨o1,μ'.set n c,d,g++(B++f),rfl,by simp,e3,i c B h⟩⟩
theorem E7.snoc{a:Addr×Addr}{o:MO}{B':List (Addr×HO)}(b:Pc K G as a o B'):∀{l:AL}{μ:MH}{B:List (Addr×HO)},E7 K G as l μ B->E7 K G as (l++[a]) (μ++[o]) (B++B')
 |[],_,_,h=>by rw[h.1,h.2];exact⟨o,[],B',[],rfl,by simp,b,rfl,rfl⟩
 |_::_,_,_,⟨o1,μ',B1,B2,e1,e2,e3,t⟩=>⟨o1,μ'++[o],B1,B2++B',by rw[e1];rfl,by rw[e2];simp,e3,t.snoc b⟩
structure iB (K:Fg) (μ:MH) (H G:Hp) (as:AL):Prop where
 ex:∃B,H=eW G B/\jQ G B/\E7 K G as as μ B
structure gZ (K:Fg) (σ:St) (ρ:MR) (μ:MH) (H G:Hp) (as:AL):Prop where
 h:iB K μ H G as
 len:σ.length=ρ.length
 loc:∀(i:Nat) (x:MV),ρ[i]?=Y (Y x)->∃v,σ[i]?=Y (Y v)/\gv K G as x v
variable {μ:MH}{ρ:MR}
def iB.sub(h:iB K μ H G as):eN G H:=by obtain⟨B,rfl,f,_⟩:=h.ex;intro b o e;rw[fX λx a z=>by have:=f.free x a;rw[z,e] at this;cases this];exact e
theorem iB.lst{n:Nat}{g:List MV}(h:iB K μ H G as)(e:μ[n]?=Y (.lst g)):∃a d,as[n]?=Y a/\H a.1=Y (.lst d)/\ft K G as g d /\
  ∀c b,ft K G as c b->iB K (μ.set n (.lst c)) (upd H a.1 (.lst b)) G as:=by
 obtain⟨B,rfl,f,m⟩:=h.ex;obtain⟨a,r,s,q,p,rfl,o,l,⟨d,rfl,k⟩,j⟩:=m.at e;refine⟨a,d,p,fL f.nd (a.1,.lst d) (by simp),k,λc b i=>⟨_,nu f.nd,f.put ?_,j (.lst c) [(a.1,.lst b)] ⟨b,rfl,i⟩⟩⟩;exact o.append (.one aP l)
theorem iB.lS{n:Nat}{d:List (Key×MV)}(h:iB K μ H G as)(e:μ[n]?=Y (.lS d)):∃a g,as[n]?=Y a/\H a.1=Y (.dK g)/\k9 K G as d g /\
  ∀b c,k9 K G as b c->iB K (μ.set n (.lS b)) (upd H a.1 (.dK c)) G as:=by
 obtain⟨B,rfl,f,m⟩:=h.ex;obtain⟨a,r,s,q,p,rfl,o,l,⟨g,rfl,k⟩,j⟩:=m.at e;refine⟨a,g,p,fL f.nd (a.1,.dK g) (by simp),k,λb c i=>⟨_,nu f.nd,f.put ?_,j (.lS b) [(a.1,.dK c)] ⟨c,rfl,i⟩⟩⟩;exact o.append (.one aP l)
theorem iB.ins{n:Nat}{c:Str}{l:List (Str×MV)}(h:iB K μ H G as)(e:μ[n]?=Y (.ins c l)):∃a C g,as[n]?=Y a/\H a.1=Y (.ins C a.2 g)/\jB K c C/\k9 K G as l g /\
  ∀d b,k9 K G as d b->iB K (μ.set n (.ins c d)) (upd H a.1 (.ins C a.2 b)) G as:=by
 obtain⟨B,rfl,f,m⟩:=h.ex;obtain⟨a,t,u,s,r,rfl,q,p,⟨C,g,rfl,k,j⟩,o⟩:=m.at e;refine⟨a,C,g,r,fL f.nd (a.1,.ins C a.2 g) (by simp),k,j,λd b i=>⟨_,nu f.nd,f.put ?_,o (.ins c d) [(a.1,.ins C a.2 b),(a.2,.own a.1)] ⟨C,b,rfl,k,i⟩⟩⟩;exact q.append (.ins p)
end
end L2
variable  {st:List L2.MV}{ρ:L2.MR}{gc:L2.MR->L2.MH->Option (Bool×L2.MH)}{μ:L2.MH}{γ:Nat->L2.MO}
local macro_rules
| `(zd $a) => `(some (.d $a))
namespace L2
open PySem PySem.Spec PyProof.Rows
section
variable {G' H':Hp}{as E6:AL}{μ':MH}
def iB.new{a:Addr×Addr}{o:MO}{B':List (Addr×HO)}(h:iB K μ H G as)(m:Pc K G (as++[a]) a o B')(g:jQ H B'):iB K (μ++[o]) (eW H B') G (as++[a]):=by
 obtain⟨B,rfl,f,c⟩:=h.ex;have d:=f.join g;have b:(B'++B).Perm (B++B'):=bo;refine⟨⟨B++B',?_,d.perm b (c.mI.append m.mI),?_⟩⟩
 ·rw[<-jf];exact hY d.nd b
 ·exact E7.snoc m (c.mono (eN.refl G).sim oA.snoc)
def iB.y1(h:iB K μ H G as)(e:eN H H'):∃b,eN G b/\(∀a,H a=Z->b a=H' a)/\iB K μ H' b as:=by
 obtain⟨B,rfl,f,j⟩:=h.ex;obtain⟨b,l,k,i⟩:=VO (H:=H') f.nd λx c=>e _ _ (fL f.nd x c);have g:eN G b:=λa o q=>by
  have d:∀x∈B,x.1≠a:=λx c z=>by have:=f.free x c;rw[z,q] at this;cases this
  rw[i a d];exact e _ _ (by rw[fX d];exact q)
 exact⟨b,g,λa d=>i a λx c z=>(by have:=fL (G:=G) f.nd x c;rw[z,d] at this;cases this),⟨B,l,⟨f.nd,k,f.ok⟩,j.mono g.sim (oA.refl _)⟩⟩
def iB.grow(h:iB K μ H G as)(e:eN H H'):∃c,eN G c/\iB K μ H' c as:=by obtain⟨c,a,_,b⟩:=h.y1 e;exact⟨c,a,b⟩
theorem gZ.mono(h:gZ K σ ρ μ H G as)(e:An K G G')(x:oA as E6)(c:iB K μ' H' G' E6):gZ K σ ρ μ' H' G' E6 :=
 ⟨c,h.len,λi y q=>by obtain⟨v,a,b⟩:=h.loc i y q;exact⟨v,a,b.mono e x⟩⟩
theorem gZ.set{i:Nat}{x:MV}{v:V}(h:gZ K σ ρ μ H G as)(e:gv K G as x v):gZ K (σ.set i (Y v)) (ρ.set i (Y x)) μ H G as:=by
 refine⟨h.h,by simpa using h.len,λj y q=>?_⟩;by_cases c:i=j
 ·subst c;have d:i<ρ.length:=by
   have:=(au.mp q).1;simpa using this
  rw[aH d] at q;cases q;exact⟨v,aH (by rw[h.len];exact d),e⟩
 ·rw[ay c] at q;obtain⟨u,a,b⟩:=h.loc j y q;exact⟨u,by rw[ay c];exact a,b⟩
def la{α β:Type}(f:α->Option β):List α->Option (List β)
 |[]=>Y []
 |x::xs=>(f x).bind λy=>(la f xs).map (y::·)
noncomputable def eQ(μ:MH):Nat->MV->Od
 |0,_=>Z
 |_+1,.d x=>Y x
 |n+1,.t xs=>(la (eQ μ n) xs).map .tuple
 |n+1,.l k=>(μ[k]?).bind λo=>match o with
  |.lst xs=>(la (eQ μ n) xs).map .list
  |.lS kvs=>(la (λq=>(eQ μ n q.2).map λy=>(kh q.1,y)) kvs).map .dict
  |.ins c fs=>(la (λq=>(eQ μ n q.2).map λy=>(eA.str q.1,y)) fs).map λr=>.dict ((.none,.str c)::r)
  |.gone=>Z
def jh(μ:MH)(ρ:MR):ee:=ρ.map λo=>o.bind (eQ μ 9)
theorem vE{f:MV->Od}(c:∀m d v,f m=Y d->gv K G as m v->eI K H d v):∀{a:List MV}{g:Lp}{b:List V},la f a=Y g->ft K G as a b->dn K H g b
 |[],_,_,e,h=>by cases e;rw[ft.eP.mp h];exact dn.nil
 |x::a,_,_,e,h=>by obtain⟨y,l,k⟩:=bind_some e;obtain⟨n,j,rfl⟩:=aa.mp k;obtain⟨v,r,rfl,i,t⟩:=ft.eE.mp h;exact dn.cons (c _ _ _ l i) (vE c j t)
theorem mB(h:iB K μ H G as):∀(n:Nat) (m:MV) (d:eA) (v:V),eQ μ n m=Y d->gv K G as m v->eI K H d v
 |0,_,_,_,e,_=>by cases e
 |n+1,.d x,_,_,e,i=>by cases e;exact(gv.gk.mp i).same h.sub
 |n+1,.t xs,_,_,e,i=>by obtain⟨u,f,rfl⟩:=aa.mp e;obtain⟨p,w,rfl,b,g⟩:=gv.tY.mp i;exact eI.iX.mpr ⟨p,w,rfl,h.sub.rk b,vE (mB h n) f g⟩
 |n+1,.l k,_,_,e,i=>by
  obtain⟨a,F,rfl⟩:=gv.jX.mp i;obtain⟨o,f,b⟩:=bind_some e;cases o with
  |lst xs=>obtain⟨u,g,rfl⟩:=aa.mp b;obtain⟨N,w,j,r,q,_⟩:=h.lst f;rw[F] at j;cases j;exact eI.eZ.mpr ⟨a.1,w,rfl,j0.of r,vE (mB h n) g q⟩
  |lS s=>
   obtain⟨u,g,rfl⟩:=aa.mp b;obtain⟨N,J,j,r,q,_⟩:=h.lS f;rw[F] at j;cases j;refine eI.lh.mpr ⟨a.1,rfl,.inl ⟨J,.inl r,?_⟩⟩;clear f r b e;induction s generalizing J u with
   |nil=>cases g;rw[q.Dc];exact fZ.eP.mpr rfl
   |cons y s D=>obtain⟨B,x⟩:=y;obtain⟨v,A,rfl,E,t⟩:=q.cases;obtain⟨z,f,b⟩:=bind_some g;obtain⟨O,Q,rfl⟩:=aa.mp b;obtain⟨R,I,rfl⟩:=aa.mp f;exact fZ.eE.mpr ⟨B,v,A,rfl,rfl,mB h n _ _ _ I E,by apply D<;>assumption⟩
  |ins c M=>
   obtain⟨u,g,rfl⟩:=aa.mp b;obtain⟨N,C,L,j,r,P,q,_⟩:=h.ins f;rw[F] at j;cases j;refine eI.lh.mpr ⟨a.1,rfl,.inr ⟨c,C,a.2,L,P,r,oX.eE.mpr ⟨rfl,rfl,?_⟩⟩⟩;clear f r b e;induction M generalizing L u with
   |nil=>cases g;rw[q.Dc];exact j3.eP.mpr rfl
   |cons y M D=>obtain⟨B,x⟩:=y;obtain⟨v,A,rfl,E,t⟩:=q.cases;obtain⟨z,f,b⟩:=bind_some g;obtain⟨O,Q,rfl⟩:=aa.mp b;obtain⟨R,I,rfl⟩:=aa.mp f;exact j3.eE.mpr ⟨B,v,A,rfl,rfl,mB h n _ _ _ I E,by apply D<;>assumption⟩
  |gone=>cases b
def gZ.view(h:gZ K σ ρ μ H G as):ju K H σ (jh μ ρ):=by refine⟨by rw[h.len];simp[jh],λi d q=>?_⟩;unfold jh at q;rw[az] at q;obtain⟨o,f,e⟩:=aa.mp q;obtain⟨m,rfl,c⟩:=bind_some e;obtain⟨v,a,b⟩:=h.loc i m f;exact⟨v,a,mB h.h 9 m d v c b⟩
def oa:eA->Bool
 |.tuple xs=>xs.all qw
 |d=>qw d
def vF(d:pH B){p:Addr}{o:HO}(f:jQ G B)(h:eW G B p=Y o)(g:∀xs,o≠.lst xs)(j:∀kv,o≠.dK kv)(i:∀C dx fs,o≠.ins C dx fs)(e:∀x,o≠.own x):G p=Y o:=by
 rcases oj (a:=p) B with ⟨x,b,rfl⟩|k
 ·rw[fL f.nd x b] at h;cases h;exfalso;clear f;induction d with
  |nil=>cases b
  |@one q u r l _ c=>
   rcases av.mp b with rfl|b
   ·cases u<;>first|exact g _ rfl|exact j _ rfl|exact l
   ·exact c b
  |@ins q C dx fs r _ c=>
   rcases av.mp b with rfl|b
   ·exact i _ _ _ rfl
   ·rcases av.mp b with rfl|b
    ·exact e _ rfl
    ·exact c b
 ·rw[fX k] at h;exact h
def iB.YN(h:iB K μ H G as)(b:oa d=true)(i:eI K H d v):eI K G d v:=by
 cases d with
 |tuple g=>
  obtain⟨p,c,rfl,e1,e⟩:=i.gI;obtain⟨B,rfl,f,a⟩:=h.ex;refine eI.iX.mpr ⟨p,c,rfl,?_,e.jG b⟩;rcases e1 with (e1 | ⟨o,e1⟩)|e1
  ·exact .inl (.inl (vF a.mI f e1 (by intro _ z;cases z) (by intro _ z;cases z) (by intro _ _ _ z;cases z) (by intro _ z;cases z)))
  ·exact .inl (.inr ⟨o,vF a.mI f e1 (by intro _ z;cases z) (by intro _ z;cases z) (by intro _ _ _ z;cases z) (by intro _ z;cases z)⟩)
  ·exact .inr e1
 |_=>exact i.jG b
mutual
def sC:MV->Od
  |.d x=>Y x
  |.l _=>Z
  |.t xs=>(y2 xs).map .tuple
def y2:List MV->Option Lp
  |[]=>Y []
  |x::xs=>(sC x).bind λy=>(y2 xs).map (y::·)
end
mutual
theorem gv.dat:∀{m:MV}{d:eA}{v:V},sC m=Y d->gv K G as m v->eI K G d v
  |.d _,_,_,e,i=>by unfold sC at e;cases e;exact gv.gk.mp i
  |.l _,_,_,e,_=>by unfold sC at e;cases e
  |.t xs,_,_,e,i=>by
    unfold sC at e
    obtain⟨ds,e1,rfl⟩:=aa.mp e
    obtain⟨p,vs,rfl,e2,e3⟩:=gv.tY.mp i
    exact eI.iX.mpr ⟨p,vs,rfl,e2,ft.dat e1 e3⟩
theorem ft.dat:∀{ms:List MV}{ds:Lp}{vs:List V},y2 ms=Y ds->ft K G as ms vs->dn K G ds vs
  |[],_,_,e,i=>by unfold y2 at e;cases e;rw[ft.eP.mp i];exact dn.nil
  |x::xs,_,_,e,i=>by
    unfold y2 at e
    obtain⟨y,e1,e2⟩:=bind_some e
    obtain⟨ys,e3,rfl⟩:=aa.mp e2
    obtain⟨v,r,rfl,i1,t⟩:=ft.eE.mp i
    exact dn.cons (gv.dat e1 i1) (ft.dat e3 t)
end
def ro(ρ:MR):ee:=ρ.map λo=>o.bind sC
theorem gZ.dat(h:gZ K σ ρ μ H G as):ju K G σ (ro ρ):=by refine⟨by rw[h.len];simp[ro],λi d q=>?_⟩;unfold ro at q;rw[az] at q;obtain⟨o,f,e⟩:=aa.mp q;obtain⟨m,rfl,c⟩:=bind_some e;obtain⟨v,a,b⟩:=h.loc i m f;exact⟨v,a,gv.dat c b⟩
end
abbrev MF:=MR->MH->Option (MV×MH)
def KM(K:Fg)(σ:St)(ρ:MR)(G:Hp)(d:AL)(μ':MH)(v:MV)(Q:VK):Prop:=∀u c b a,eN G b->oA d a->gZ K σ ρ μ' c b a->gv K b a v u->Q u c
def PM(X:Cx)(e:Expr)(f:MF):Prop:=PE X e (λσ H Q=>∃ρ μ v μ' G as,gZ X.K σ ρ μ H G as/\f ρ μ=Y (v,μ')/\KM X.K σ ρ G as μ' v Q)
def QI(X:Cx)(g:Lx)(f:MR->MH->Option (List MV×MH)):Prop:=PA X g (λσ H Q=>∃ρ μ vs μ' G d,gZ X.K σ ρ μ H G d/\f ρ μ=Y (vs,μ') /\
 ∀c e b a,eN G b->oA d a->gZ X.K σ ρ μ' e b a->ft X.K b a vs c->Q c e)
def Pd(X:Cx)(e:Expr)(f:MR->MH->Option (Bool×MH)):Prop:=PT X e (λσ H Q=>∃ρ μ b μ' G c,gZ X.K σ ρ μ H G c/\f ρ μ=Y (b,μ')/\∀d g a,eN G g->oA c a->gZ X.K σ ρ μ' d g a->Q b d)
section
variable {a o:Expr}{fb fc f:ee->Od}{ma mb mc m:MF}{ff:MR->MH->Option (List MV×MH)}{ep fJ:Pos}{gc:ee->Option Bool}
def KM.later{d:Hp}{c a:AL}{μ':MH}{v:MV}{Q:VK}(k:KM K σ ρ G c μ' v Q)(e:eN G d)(x:oA c a):KM K σ ρ d a μ' v Q:=λu f g b s y h i=>k u f g b (e.trans s) (x.trans y) h i
noncomputable def b5(i:Nat):MF:=λρ μ=>(ρ[i]?).join.map λv=>(v,μ)
def a8(i:Nat)(h:X.N[i]?=Y x:=by rfl)(f:Ma X.env.scope x:=by first|exact b7 rfl|exact bF (b7 rfl)|exact bF (bF rfl))(g:zg x:=by decide)(a:(x==("__classdict__":Str))=false:=by decide):PM X (.Name x pos) (b5 i) :=
 PE.imp (qi h f g a) <| by rintro σ H Q ⟨ρ,μ,v,μ',G,n,b,e,k⟩;obtain⟨m,l,j⟩:=aa.mp e;cases j;obtain⟨u,d,c⟩:=b.loc i v (iA l);exact⟨u,d,k u H G n (.refl _) (.refl _) b c⟩
noncomputable def eV(f:ee->Od):MF:=λρ μ=>(f (ro ρ)).map λd=>(.d d,μ)
def eD(h:PD X e f):PM X e (eV f) :=
 PE.imp (PE.frame h) <| by rintro σ H Q ⟨ρ,μ,v,μ',G,o,b,e,k⟩;obtain⟨d,n,m⟩:=aa.mp e;cases m;obtain⟨B,l,j,g⟩:=b.h.ex;exact⟨G,B,l,j,ro ρ,d,b.dat,n,λu p a i c=>k u _ p o a (.refl _) (b.mono a.sim (.refl _) ⟨B,rfl,c,g.mono a.sim (.refl _)⟩) (gv.gk.mpr i)⟩
def gL(f:ee->Od):MF:=λρ μ=>(f (jh μ ρ)).bind λd=>if oa d=true then Y (.d d,μ) else Z
def gF(h:PD X e f):PM X e (gL f) :=
 PE.imp h <| by
  rintro σ H Q ⟨ρ,μ,v,μ',G,n,b,e,k⟩;obtain⟨d,m,a⟩:=bind_some e;by_cases c:oa d=true
  ·rw[ag c] at a;cases a;refine⟨jh μ ρ,d,b.view,m,λu o l i=>?_⟩;obtain⟨p,g,j⟩:=b.h.grow l;exact k u o p n g (.refl _) (b.mono g.sim (.refl _) j) (gv.gk.mpr (j.YN c i))
  ·rw[ai c] at a;cases a
def fo(g:ee->Option Bool):MR->MH->Option (Bool×MH):=λρ μ=>(g (jh μ ρ)).map λb=>(b,μ)
def fG(h:Bo X e gc):Pd X e (fo gc) :=
 PT.imp h <| by rintro σ H Q ⟨ρ,μ,b,μ',G,l,a,e,k⟩;obtain⟨d,j,i⟩:=aa.mp e;cases i;refine⟨jh μ ρ,b,a.view,j,λm f=>?_⟩;obtain⟨n,c,g⟩:=a.h.grow f;exact k m n l c (.refl _) (a.mono c.sim (.refl _) g)
noncomputable def fH(c n:Str)(m:MF):MF:=λρ μ=>(m ρ μ).bind λr=>match r.1 with
 |.l k=>(r.2[k]?).bind λo=>match o with
  |.ins a fs=>if a=c then (qA n fs).map λv=>(v,r.2) else Z
  |_=>Z
 |_=>Z
def fx{c n:Str}(I:fU X.K c n)(E:PM X e m)(F:attributeBase e n X.env (eval e X.env)=eval e X.env:=by rfl):PM X (.Attribute e n pos) (fH c n m) :=
 PE.imp (Cr E F) <| by
  rintro σ H Q ⟨ρ,μ,v,μ',G,V,D,e,k⟩;obtain⟨⟨x,μ1⟩,T,o⟩:=bind_some e;cases x with
  |l j=>
   obtain⟨z,S,b⟩:=bind_some o;cases z with
   |ins U fs=>
    dsimp only at b;by_cases d:U=c
    ·rw[ag d] at b;subst d;obtain⟨y,R,P⟩:=aa.mp b;cases P;refine⟨ρ,μ,_,_,G,V,D,T,λu W G1 f q p i B=>?_⟩;obtain⟨a,O,rfl⟩:=gv.jX.mp B;obtain⟨a',C,N,g,t,r,s,_⟩:=i.h.ins S;rw[O] at g;cases g;obtain⟨C',M,L,J⟩:=I;have:=r.uniq M;subst this;obtain⟨w,l,A⟩:=s.look R;exact⟨a.1,C,a.2,N,w,rfl,t,L,J,l,k w W G1 f q p i A⟩
    ·rw[ai d] at b;cases b
   |_=>cases b
  |_=>cases o
def ji(a:Lr)(n:Str)(m:MF):MF:=λρ μ=>(m ρ μ).bind λr=>(sC r.1).bind λd=>(mU a n d).map λx=>(.d x,r.2)
def lr{cs:Lr}{n:Str}(D:∀c∈cs,fU X.K c n)(A:PM X e m)(B:attributeBase e n X.env (eval e X.env)=eval e X.env:=by rfl):PM X (.Attribute e n pos) (ji cs n m) :=
 PE.imp (Cr A B) <| by
  rintro σ H Q ⟨ρ,μ,v,μ',G,U,z,e,k⟩;obtain⟨⟨x,μ1⟩,S,R⟩:=bind_some e;obtain⟨d,P,O⟩:=bind_some R;obtain⟨y,a,N⟩:=aa.mp O;cases N;refine⟨ρ,μ,_,_,G,U,z,S,λu V W g o j i t=>?_⟩;have s:=gv.dat P t;unfold mU at a;split at a
  ·rename_i c r;by_cases b:c∈cs
   ·rw[ag b] at a;obtain⟨p,C,T,M,rfl,f,F,E⟩:=s.Hh;obtain⟨C',L,J,I⟩:=D c b;have:=f.uniq L;subst this;obtain⟨w,l,q⟩:=E.get a;exact⟨p,C,T,M,w,rfl,i.h.sub _ _ F,J,I,l,k w V W g o j i (gv.gk.mpr q)⟩
   ·rw[ai b] at a;cases a
  ·cases a
end
abbrev lN:=List MV->MH->Option (MV×MH)
def Ur(K:Fg)(n:Nat)(F:lN):Sp:=λf H Q _=>∃b μ r μ' G c,ft K G c b f/\b.length=n/\iB K μ H G c/\F b μ=Y (r,μ')/\∀u e d a,eN G d->oA c a->iB K μ' e d a->gv K d a r u->Q u e
structure lW (P:Program) (w:World) (K:Fg) (mg:Str->Ow) (base:Heap) (x:Str) (k n:Nat) (F:lN):Prop where
 ex:∃a fd ps,kR P w K mg base vb k a fd ps (Ur K n F)/\mg x=Y (.ref a)/\W.keepIn K (.ref a)=true/\kr K fd ps []
structure tZ (P:Program) (w:World) (K:Fg) (mg:Str->Ow) (base:Heap) (c:Str) (k n:Nat) (F:lN):Prop where
 ex:∃C a fd ps,jB K c C/\mg c=Y (.ref C)/\Mk K C a/\kR P w K mg base vb k a fd ps (Ur K n F)/\kr K fd ps []
structure pY (P:Program) (w:World) (K:Fg) (mg:Str->Ow) (base:Heap) (c m:Str) (k n:Nat) (F:lN):Prop where
 ex:∃C a fd ps,jB K c C/\GQ K C/\GR K C m a/\kR P w K mg base vb k a fd ps (Ur K n F)/\kr K fd ps []
section
variable {a o:Expr}{fb fc f:ee->Od}{ma mb mc m:MF}{ff:MR->MH->Option (List MV×MH)}{ep fJ:Pos}{gc:ee->Option Bool}{k n:Nat}{F:lN}
abbrev xc:=MR->MH->Option (List MV×MH)
def dy:xc:=λ_ μ=>Y ([],μ)
def fj:QI X [] dy:=PA.imp qm <| by rintro σ H Q ⟨ρ,μ,c,μ',G,b,a,e,k⟩;cases e;exact k [] H G b (.refl _) (.refl _) a ft.nil
noncomputable def bS(m:MF)(a:xc):xc:=λρ μ=>(m ρ μ).bind λr=>(a ρ r.2).map λq=>(r.1::q.1,q.2)
def cn(p:PM X e m)(o:QI X es ff)(n:zE e es X:=by rfl):QI X (e::es) (bS m ff) :=
 PA.imp (mX p o n) <| by rintro σ H Q ⟨ρ,μ,D,μ',G,y,l,e,k⟩;obtain⟨⟨x,μ1⟩,w,v⟩:=bind_some e;obtain⟨⟨C,μ2⟩,t,s⟩:=aa.mp v;cases s;exact⟨ρ,μ,_,_,G,y,l,w,λu E B b h f r j=>⟨ρ,μ1,_,_,B,b,r,t,λg z A a d c q i=>k (u::g) z A a (h.trans d) (f.trans c) q (ft.cons (j.mono d.sim c) i)⟩⟩
def HH{μ':MH}{b:AL}{a:List MV}{v:MV}{Q:VK}{E:XK}(h:gZ K σ ρ μ H G b)(i:ft K G b a vs)(j:a.length=n)(e:F a μ=Y (v,μ'))(k:KM K σ ρ G b μ' v Q):Ur K n F vs H Q E :=
 ⟨a,μ,v,μ',G,b,i,j,h.h,e,λu m o c f d l g=>k u m o c f d (h.mono f.sim d l) g⟩
noncomputable def rZ(n:Nat)(F:lN)(a:xc):MF:=λρ μ=>(a ρ μ).bind λr=>if r.1.length=n then F r.1 r.2 else Z
def kL(N:lW X.prog X.w X.K X.mg X.base x j n F) (o:iz k X.A) (t:Gl X x) (z:QI X (e::es) ff) (s:j<=k:=by decide) (f:zg x:=by decide)
  (u:zE e es X:=by rfl) (c:(backTo pos (starEach es X.env)).any (·.1)=false:=by rfl):PM X (.Call (.Name x p) (e::es) [] pos) (rZ n F ff):=by
 obtain⟨a,M,L,I,q,r,y⟩:=N.ex;refine PE.imp (xT (I.mono s) o t q r y .nil nC z f u c) ?_;rintro σ H Q ⟨ρ,μ,v,μ',G,E,m,e,k⟩;obtain⟨⟨g,μ1⟩,C,b⟩:=bind_some e;by_cases d:g.length=n
 ·simp only[ag d] at b;exact⟨ρ,μ,g,μ1,G,E,m,C,λJ O P D i h B l=>HH B (by rw[aR];exact l) d b (k.later i h)⟩
 ·simp only[ai d] at b;cases b
noncomputable def oB(c a:Str)(μ:MH):MV->Bool
 |.l k=>match μ[k]? with
  |some (.ins c' fs)=>decide (c'=c)&&(qA a fs).isNone
  |_=>false
 |_=>false
def E8{s:AL}{c f:Str}{r:MV}(h:oB c f μ r=true)(B:iB K μ H G s)(i:gv K G s r v):∃p C E b,v=.ref p/\jB K c C/\H p=Y (.ins C E b)/\b.lookup f=Z:=by
 cases r with
 |l k=>
  unfold oB at h;dsimp only at h;split at h
  ·rename_i J b e;simp only[bR,dS,dP] at h;obtain⟨rfl,d⟩:=h;obtain⟨a,D,rfl⟩:=gv.jX.mp i;obtain⟨L,C,o,n,m,u,j,_⟩:=B.ins e;rw[D] at n;cases n;refine⟨a.1,C,a.2,o,rfl,u,m,?_⟩;clear e m;induction b generalizing o with
   |nil=>rw[j.Dc];rfl
   |cons y b A=>
    obtain⟨g,x⟩:=y;obtain⟨w,F,rfl,I,t⟩:=j.cases;by_cases q:g=f
    ·simp only[qA,ag q] at d;cases d
    ·simp only[qA,ai q] at d;rw[aY,aZ.mpr (λz=>q z.symm)];exact A d _ t
  ·cases h
 |_=>cases h
noncomputable def fi(c a:Str)(n:Nat)(F:lN)(m:MF)(b:xc):MF:=λρ μ=>(m ρ μ).bind λr=>if oB c a r.2 r.1=true then (b ρ r.2).bind λq=>if q.1.length+1=n then F (r.1::q.1) q.2 else Z else Z
def gB{t c:Str}{pl:Sem Bool} (N:pY X.prog X.w X.K X.mg X.base t c j n F) (V:PM X o m) (U:iz k X.A) (ha:QI X (e::es) ff) (hj:j<=k:=by decide)
  (l:zE e es X:=by rfl) (q:(backTo pos (starEach es X.env)).any (·.1)=false:=by rfl)
  (T:eval (.Call (.Attribute o c apos) (e::es) [] pos) X.env=(do
   let ov <-eval o X.env
   standAt apos.atName
   let (f,first) <-holding [ov] (getMethod ov c pl)
   callWith pos f first (backTo pos (starEach (e::es) X.env)) (backToKw pos (keywordEach [] X.env))):=by rfl):PM X (.Call (.Attribute o c apos) (e::es) [] pos) (fi t c n F m ff):=by
 obtain⟨C,a,fd,ps,hC,s,W,Fn,b⟩:=N.ex;refine PE.imp (Cs (pl:=pl) V s W (Fn.mono hj) U b .nil nC ha l q T) ?_;rintro σ H Q ⟨ρ,μ,v,μ',G,as,S,e,k⟩;obtain⟨⟨x,μ1⟩,e1,g⟩:=bind_some e;by_cases i:oB t c μ1 x=true
 ·simp only[ag i] at g;obtain⟨⟨P,μ2⟩,e3,d⟩:=bind_some g;by_cases r:P.length+1=n
  ·simp only[ag r] at d;refine⟨ρ,μ,_,_,G,as,S,e1,λu H1 G1 y J I E D=>?_⟩;obtain⟨p,C',dx,fs,rfl,O,M,L⟩:=E8 i E.h D;have:=O.uniq hC;subst this;exact⟨p,dx,fs,rfl,M,L,ρ,μ1,_,_,G1,y,E,e3,λus H2 G2 Z9 B z h2 R=>HH h2 (by rw[aR];exact ft.cons (D.mono B.sim z) R) (by simpa using r) d (k.later (J.trans B) (I.trans z))⟩
  ·simp only[ai r] at d;cases d
 ·simp only[ai i] at g;cases g
def f6{s c:Str}{pl:Sem Bool} (N:pY X.prog X.w X.K X.mg X.base s c j n F) (T:PM X o m) (S:iz k X.A) (V:j<=k:=by decide)
  (R:eval (.Call (.Attribute o c apos) [] [] pos) X.env=(do
   let ov <-eval o X.env
   standAt apos.atName
   let (f,first) <-holding [ov] (getMethod ov c pl)
   callWith pos f first (backTo pos (starEach [] X.env)) (backToKw pos (keywordEach [] X.env))):=by rfl):PM X (.Call (.Attribute o c apos) [] [] pos) (fi s c n F m dy):=by
 obtain⟨C,a,fd,ps,W,q,U,Fn,b⟩:=N.ex;refine PE.imp (Er (pl:=pl) T q U (Fn.mono V) S b .nil nC R) ?_;rintro σ H Q ⟨ρ,μ,v,μ',G,as,P,e,k⟩;obtain⟨⟨x,μ1⟩,e1,g⟩:=bind_some e;by_cases i:oB s c μ1 x=true
 ·simp only[ag i] at g;obtain⟨⟨ms,μ2⟩,e3,d⟩:=bind_some g;cases e3;by_cases l:([]:List MV).length+1=n
  ·simp only[ag l] at d;refine⟨ρ,μ,_,_,G,as,P,e1,λu H1 G1 t I E r D=>?_⟩;obtain⟨p,C',dx,fs,rfl,M,L,J⟩:=E8 i r.h D;have:=M.uniq W;subst this;exact⟨p,dx,fs,rfl,L,J,[x],μ1,v,μ',G1,t,ft.cons D ft.nil,by simpa using l,r.h,d,λu H' G' y B z h' O=>k u H' G' y (I.trans B) (E.trans z) (r.mono B.sim z h') O⟩
  ·simp only[ai l] at d;cases d
 ·simp only[ai i] at g;cases g
noncomputable def wF(c:Str)(n:Nat)(F:lN)(a:xc):MF:=λρ μ=>(a ρ μ).bind λr=>if r.1.length+1=n then (F (.l r.2.length::r.1) (r.2++[.ins c []])).bind λq=>match q.1 with | .d .none=>Y (.l r.2.length,q.2)|_=>Z else Z
def NN{A:Str}{C:Addr} (P:jB K A C) {μ':MH}{c:AL}{m:List MV}{v:MV}{Q:VK}{E:XK} (s:gZ K σ ρ μ H G c) (i:ft K G c m vs) (O:m.length+1=n)
  (e:((F (.l μ.length::m) (μ++[.ins A []])).bind λq=>match q.1 with | .d .none=>Y (MV.l μ.length,q.2)|_=>Z)=Y (v,μ')) (k:KM K σ ρ G c μ' v Q):
  ∀x b,H x=Z->H b=Z->b≠x->Ur K n F (.ref x::(vs++[])) (upd (upd H b (.own x)) x (.ins C b [])) (λv H2=>v=.lb/\Q (.ref x) H2) E:=by
 intro x b M w t;obtain⟨⟨r,μ1⟩,T,z⟩:=bind_some e;have S:r=.d .none/\v=.l μ.length/\μ'=μ1:=by
  rcases r with r|_|_<;>try (cases z;done)
  cases r<;>first|(cases z;done)|skip
  cases z;exact⟨rfl,rfl,rfl⟩
 obtain⟨rfl,rfl,rfl⟩:=S;have f:c.length=μ.length:=by obtain⟨B,_,_,J⟩:=s.h.ex;exact J.len
 have N:=s.h.new (a:=(x,b)) (o:=.ins A []) (B':=[(x,.ins C b []),(b,.own x)]) ⟨C,[],rfl,P,k9.nil⟩ ⟨by simp[Ne.symm t],λy p=>by
  rcases av.mp p with e|p
  ·rw[e];exact M
  ·have:y=(b,HO.own x):=by simpa using p
   rw[this];exact w,.ins .nil⟩
 have g:(c++[(x,b)])[μ.length]?=Y (x,b):=by rw[<-f];simp
 refine⟨_,_,_,_,G,c++[(x,b)],ft.cons (gv.jX.mpr ⟨(x,b),g,rfl⟩) (by rw[aR];exact i.mono (eN.refl G).sim oA.snoc),by simpa using O,N,T,λu U V D I j R L=>⟨eI.gP.mp (gv.gk.mp L),?_⟩⟩;exact k _ U V D I (oA.snoc.trans j) (s.mono I.sim (oA.snoc.trans j) R) (gv.jX.mpr ⟨(x,b),j _ _ g,rfl⟩)
def x4{c:Str} (N:tZ X.prog X.w X.K X.mg X.base c j n F) (s:iz (k+1) X.A) (u:Gl X c) (y:QI X (e::es) ff) (t:j<=k:=by decide) (h:zg c:=by decide)
  (x:zE e es X:=by rfl) (f:(backTo pos (starEach es X.env)).any (·.1)=false:=by rfl):PM X (.Call (.Name c p) (e::es) [] pos) (wF c n F ff):=by
 obtain⟨C,a,P,O,z,o,M,J,b⟩:=N.ex;refine PE.imp (Ct M (J.mono t) s u o b .nil nC y h x f) ?_;rintro σ H Q ⟨ρ,μ,v,μ',G,I,r,e,k⟩;obtain⟨⟨i,μ1⟩,D,d⟩:=bind_some e;by_cases g:i.length+1=n
 ·simp only[ag g] at d;exact⟨ρ,μ,i,μ1,G,I,r,D,λL R S E m l B q=>NN z B q g d (k.later m l)⟩
 ·simp only[ai g] at d;cases d
def qC:MF:=λ_ μ=>Y (.l μ.length,μ++[.lst []])
def mf:PM X (.List [] pos) qC :=
 PE.imp (GW fj) <| by
  rintro σ H Q ⟨ρ,μ,v,μ',G,s,n,e,k⟩;cases e;refine⟨ρ,μ,[],μ,G,s,n,rfl,λt u g d j i c m=>?_⟩;rw[ft.eP.mp m];refine⟨bH _,λq p=>?_⟩;have b:d.length=μ.length:=by obtain⟨B,_,_,l⟩:=c.h.ex;exact l.len
  have r:=c.h.new (a:=(q,q)) (o:=.lst []) (B':=[(q,.lst [])]) ⟨[],rfl,ft.nil⟩ ⟨by simp,(λy f=>by simp at f;subst f;exact p),.one aP .nil⟩;exact k _ _ g _ j (i.trans oA.snoc) (c.mono (eN.refl g).sim oA.snoc r) (gv.jX.mpr ⟨(q,q),by rw[<-b];simp,rfl⟩)
def pZ:MF:=λ_ μ=>Y (.l μ.length,μ++[.lS []])
def mZ:PM X (.Dict [] [] pos) pZ :=
 PE.imp EE <| by
  rintro σ H Q ⟨ρ,μ,v,μ',G,j,c,e,k⟩;cases e;intro q g;have b:j.length=μ.length:=by obtain⟨B,_,_,f⟩:=c.h.ex;exact f.len
  have i:=c.h.new (a:=(q,q)) (o:=.lS []) (B':=[(q,.dK [])]) ⟨[],rfl,k9.nil⟩ ⟨by simp,(λy d=>by simp at d;subst d;exact g),.one aP .nil⟩;exact k _ _ G _ (.refl _) oA.snoc (c.mono (eN.refl G).sim oA.snoc i) (gv.jX.mpr ⟨(q,q),by rw[<-b];simp,rfl⟩)
noncomputable def K4(a:xc):MF:=λρ μ=>(a ρ μ).bind λr=>if r.1.length<=sizeLine then Y (.t r.1,r.2) else Z
def HI{x1}(h:QI X es ff):PM X (.Tuple es x1 pos) (K4 ff) :=
 PE.imp (MG h) <| by
  rintro σ H Q ⟨ρ,μ,v,μ',G,y,s,e,k⟩;obtain⟨⟨i,μ1⟩,x,a⟩:=bind_some e;by_cases d:i.length<=sizeLine
  ·simp only[ag d] at a;cases a;refine⟨ρ,μ,i,_,G,y,s,x,λb A C g p x1 m j=>⟨by rw[<-j.length];exact d,λq t=>?_⟩⟩;obtain⟨n,c,l⟩:=m.h.grow (hE (o:=.tup b) t);have u:n q=Y (.tup b):=by
    obtain⟨B,w,f,r⟩:=l.ex;exact vF r.mI f (by rw[<-w];exact eS) (by intro _ z;cases z) (by intro _ z;cases z) (by intro _ _ _ z;cases z) (by intro _ z;cases z)
   exact k _ _ n g (p.trans c) x1 (m.mono c.sim (.refl _) l) (gv.tY.mpr ⟨q,b,rfl,.inl (.inl u),j.mono c.sim (.refl _)⟩)
  ·simp only[ai d] at a;cases a
end
inductive Aw where
 |nx (ρ:MR) (μ:MH)
 |rt (v:MV) (μ:MH)
 |bk (ρ:MR) (μ:MH)
 |ct (ρ:MR) (μ:MH)
abbrev MS:=MR->MH->Option Aw
def K5(K:Fg)(G:Hp)(d:AL)(D:yj):Aw->Prop
 |.nx ρ μ=>∀σ c b a,eN G b->oA d a->gZ K σ ρ μ c b a->D.nx σ c
 |.bk ρ μ=>∀σ c b a,eN G b->oA d a->gZ K σ ρ μ c b a->D.bk σ c
 |.ct ρ μ=>∀σ c b a,eN G b->oA d a->gZ K σ ρ μ c b a->D.ct σ c
 |.rt v μ=>∀u c b a,eN G b->oA d a->iB K μ c b a->gv K b a v u->D.rt u c
def K5.later{k:Hp}{j g:AL}{D:yj}(e:eN G k)(x:oA j g):∀{o:Aw},K5 K G j D o->K5 K k g D o
 |.nx _ _,h=>λσ d f a c b q=>h σ d f a (e.trans c) (x.trans b) q
 |.bk _ _,h=>λσ d f a c b q=>h σ d f a (e.trans c) (x.trans b) q
 |.ct _ _,h=>λσ d f a c b q=>h σ d f a (e.trans c) (x.trans b) q
 |.rt _ _,h=>λu d f a c b q i=>h u d f a (e.trans c) (x.trans b) q i
def tU(K:Fg)(g:MS):TS:=λD σ H=>∃ρ μ o G a,gZ K σ ρ μ H G a/\g ρ μ=Y o/\K5 K G a D o
def PU(X:Cx)(a:Stmt)(g:MS):Prop:=PS X a (tU X.K g)
def Jy(X:Cx)(a:List Stmt)(g:MS):Prop:=we X a (tU X.K g)
section
variable {a o:Expr}{fb fc f:ee->Od}{ma mb mc m mo:MF}{ff:xc}{ep fJ:Pos}{st:Stmt}{rest:List Stmt}{g h:MS}{k n:Nat}{F:lN}
noncomputable def jR:MS:=λρ μ=>Y (.nx ρ μ)
def gu:Jy X [] jR:=we.imp IU <| by rintro D σ H ⟨ρ,μ,o,G,b,a,e,k⟩;cases e;exact k σ H G b (.refl _) (.refl _) a
noncomputable def eO(g h:MS):MS:=λρ μ=>(g ρ μ).bind λo=>match o with
 |.nx ρ' μ'=>h ρ' μ'
 |o=>Y o
def bb(m:PU X st g)(l:Jy X rest h):Jy X (st::rest) (eO g h) :=
 we.imp (Em m l) <| by
  rintro D σ H ⟨ρ,μ,o,G,p,j,e,k⟩;obtain⟨d,n,a⟩:=bind_some e;refine⟨ρ,μ,d,G,p,j,n,?_⟩;cases d with
  |nx ρ' μ'=>exact λσ' r q c i f b=>⟨ρ',μ',o,q,c,b,a,k.later i f⟩
  |rt _ _=>cases a;exact k
  |bk _ _=>cases a;exact k
  |ct _ _=>cases a;exact k
def dt(a:PU X st g):Jy X [st] g:=we.imp (IV a) λD σ H h=>h
noncomputable def nc(a:MR->MH->Option (Bool×MH))(g h:MS):MS:=λρ μ=>(a ρ μ).bind λr=>if r.1=true then g ρ r.2 else h ρ r.2
def hV{f d:List Stmt}(p:Pd X c gc)(r:Jy X f g)(q:Jy X d h):PU X (.If c f d pos) (nc gc g h) :=
 PS.imp (Mt p r q) <| by
  rintro D σ H ⟨ρ,μ,o,G,t,n,e,k⟩;obtain⟨⟨y,μ1⟩,s,l⟩:=bind_some e;refine⟨ρ,μ,y,μ1,G,t,n,s,λu m a i b j=>?_⟩;cases y with
  |true=>rw[ag rfl];exact⟨ρ,μ1,o,m,a,j,l,k.later i b⟩
  |false=>rw[ai aC];exact⟨ρ,μ1,o,m,a,j,l,k.later i b⟩
def QJ:PU X (.Pass pos) jR:=PS.imp Pj <| by rintro D σ H ⟨ρ,μ,o,G,b,a,e,k⟩;cases e;exact k σ H G b (.refl _) (.refl _) a
def E9:PU X (.Continue pos) (λρ μ=>Y (.ct ρ μ)):=PS.imp En <| by rintro D σ H ⟨ρ,μ,o,G,b,a,e,k⟩;cases e;exact k σ H G b (.refl _) (.refl _) a
noncomputable def gq(m:MF)(i:Nat):MS:=λρ μ=>(m ρ μ).map λr=>.nx (ρ.set i (Y r.1)) r.2
def fy(i:Nat) {a:Pos} (q:X.N.Nodup) (p:PM X e m) (l:X.N[i]?=Y x:=by rfl) (g:IQ X.env.scope x:=by first|exact b7 rfl|exact bF rfl) (j:swapsWith e (Y (.Name x a)) pos.line X.env=pure false:=by rfl)
  (n:X.fn x=true\/X.env.scope.names.lookup x=Y .local:=by first|exact .inl rfl|exact .inr rfl|assumption):PU X (.Assign [.Name x a] e pos) (gq m i) :=
 PS.imp (GI q l g p j n) <| by rintro D σ H ⟨ρ,μ,o,G,t,h,e,k⟩;obtain⟨⟨v,μ1⟩,s,rfl⟩:=aa.mp e;exact⟨ρ,μ,v,μ1,G,t,h,s,λu w y b d c r f=>k _ w y b d c (r.set f)⟩
noncomputable def gg(m:MF):MS:=λρ μ=>(m ρ μ).map λr=>.nx ρ r.2
def fA(h:PM X e m)(f:swapsWith e Z pos.line X.env=pure false:=by rfl):PU X (.Expr e pos) (gg m) :=
 PS.imp (q5 h f) <| by rintro D σ H ⟨ρ,μ,o,G,j,d,e,k⟩;obtain⟨⟨v,μ1⟩,i,rfl⟩:=aa.mp e;exact⟨ρ,μ,v,μ1,G,j,d,i,λu l n a c b g p=>k _ l n a c b g⟩
noncomputable def jE(m:MF):MS:=λρ μ=>(m ρ μ).map λr=>.rt r.1 r.2
def gU(h:PM X e m):PU X (.Return (Y e) pos) (jE m) :=
 PS.imp (ve h) <| by rintro D σ H ⟨ρ,μ,o,G,j,f,e,k⟩;obtain⟨⟨v,μ1⟩,i,rfl⟩:=aa.mp e;exact⟨ρ,μ,v,μ1,G,j,f,i,λu l n a c b g d=>k u l n a c b g.h d⟩
def Jz:PU X (.Return Z pos) (λ_ μ=>Y (.rt (.d .none) μ)):=PS.imp IW <| by rintro D σ H ⟨ρ,μ,o,G,b,a,e,k⟩;cases e;exact k .lb H G b (.refl _) (.refl _) a.h (gv.gk.mpr (eI.gP.mpr rfl))
noncomputable def Ay(c n:Str)(v:MV)(r:MV)(μ:MH):Option MH:=match r with
 |.l k=>(μ[k]?).bind λo=>match o with
  |.ins a fs=>if a=c/\fs.length<1000 then Y (μ.set k (.ins c (BN n v fs))) else Z
  |_=>Z
 |_=>Z
def JA{c n:Str}{v r:MV}{μ':MH}{f:AL}{uv i:V}(h:Ay c n v r μ=Y μ')(x:iB K μ H G f)(u:gv K G f v uv)(w:gv K G f r i):
  ∃p C o e,i=.ref p/\H p=Y (.ins C o e)/\jB K c C/\e.length<1000/\iB K μ' (upd H p (.ins C o (lO n uv e))) G f:=by
 cases r with
 |l k=>
  obtain⟨t,A,b⟩:=bind_some h;cases t with
  |ins B e=>
   dsimp only at b;by_cases d:B=c/\e.length<1000
   ·rw[ag d] at b;cases b;obtain⟨rfl,d⟩:=d;obtain⟨a,z,rfl⟩:=gv.jX.mp w;obtain⟨D,C,y,m,s,q,j,g⟩:=x.ins A;rw[z] at m;cases m;exact⟨a.1,C,a.2,y,rfl,s,q,by rw[<-j.length];exact d,g _ _ (j.put u)⟩
   ·rw[ai d] at b;cases b
  |_=>cases b
 |_=>cases h
noncomputable def jj(c n:Str)(a m:MF):MS:=λρ μ=>(m ρ μ).bind λr=>(a ρ r.2).bind λq=>(Ay c n r.1 q.1 q.2).map λμ'=>.nx ρ μ'
def gi{c n:Str}{a:Pos}(F:fU X.K c n)(B:PM X o mo)(E:PM X e m)(A:swapsWith e (Y (.Attribute o n a)) pos.line X.env=pure false:=by rfl):PU X (.Assign [.Attribute o n a] e pos) (jj c n mo m) :=
 PS.imp (GS B E A) <| by rintro D σ H ⟨ρ,μ,oo,G,U,z,e,k⟩;obtain⟨⟨v,μ1⟩,S,P⟩:=bind_some e;obtain⟨⟨r,μ2⟩,R,O⟩:=bind_some P;obtain⟨μ3,Q,rfl⟩:=aa.mp O;refine⟨ρ,μ,v,μ1,G,U,z,S,λW H1 V d q l I y=>⟨ρ,μ1,r,μ2,V,d,I,R,λur H2 j b g f i x=>?_⟩⟩;obtain⟨p,C,T,N,rfl,w,u,t,s⟩:=JA Q i.h (y.mono g.sim f) x;obtain⟨C',M,L,J⟩:=F;have:=u.uniq M;subst this;exact⟨p,C,T,N,rfl,w,L,J,t,k _ _ j b (q.trans g) (l.trans f) (i.mono (eN.refl j).sim (.refl _) s)⟩
noncomputable def QK(v r:MV)(μ:MH):Option MH:=match r with
 |.l k=>(μ[k]?).bind λo=>match o with
  |.lst xs=>if xs.length<sizeLine then Y (μ.set k (.lst (xs++[v]))) else Z
  |_=>Z
 |_=>Z
noncomputable def BO(μ:MH):MV->Bool
 |.l k=>match μ[k]? with
  |some (.lst _)=>true
  |_=>false
 |_=>false
noncomputable def jw(a m:MF):MF:=λρ μ=>(a ρ μ).bind λr=>if BO r.2 r.1=true then (m ρ r.2).bind λq=>(QK q.1 r.1 q.2).map λμ'=>(.d .none,μ') else Z
def NO{r:MV}{f:AL}{c:V}(h:BO μ r=true)(j:iB K μ H G f)(i:gv K G f r c):∃p b,c=.ref p/\H p=Y (.lst b):=by
 cases r with
 |l k=>
  unfold BO at h;dsimp only at h;split at h
  ·rename_i n e;obtain⟨a,m,rfl⟩:=gv.jX.mp i;obtain⟨o,b,d,g,_⟩:=j.lst e;rw[m] at d;cases d;exact⟨a.1,b,rfl,g⟩
  ·cases h
 |_=>cases h
def jk(ho:PM X o mo) (he:PM X e m) (i:starEach [e] X.env=(false,eval e X.env)::starEach [] X.env:=by rfl)
  (d:attributeBase o "append" X.env (eval o X.env)=eval o X.env:=by rfl)
  (j:((backTo fJ (starEach [e] X.env)).all (λx=>!x.1)&&(backToKw fJ (keywordEach [] X.env)).all (λx=>x.1.isSome)&&decide (([e]:Lx).length+([]:List Keyword).length+(if ([]:List Keyword).isEmpty then 0 else 1)<30))=true:=by rfl)
  (c:(apos.endLine==fJ.line)=true:=by rfl) (b:(backTo fJ (starEach [] X.env)).any (·.1)=false:=by rfl):
  PM X (.Call (.Attribute o "append" apos) [e] [] fJ) (jw mo m) :=
 PE.imp (Bj bC PySem.F.slot_list_append PySem.F.type_list_append Bl ho (mX he qm i) d j c i b) <| by
  rintro σ H Q ⟨ρ,μ,v,μ',G,as,V,e,k⟩;obtain⟨⟨r,μ1⟩,e1,f⟩:=bind_some e;by_cases t:BO μ1 r=true
  ·simp only[ag t] at f;obtain⟨⟨y,μ2⟩,e2,eb⟩:=bind_some f;obtain⟨μ3,J,e4⟩:=aa.mp eb;cases e4;refine⟨ρ,μ,r,μ1,G,as,V,e1,λur H1 G1 w R M I D=>?_⟩;obtain⟨p,O,rfl,W⟩:=NO t I.h D;refine⟨.inl ⟨rfl,O,j0.of W⟩,ρ,μ1,y,μ2,G1,w,I,e2,λP H2 K u A z E U=>?_⟩;have q:=D.mono A.sim z;cases r with
   |l kk=>
    obtain⟨T,e5,g⟩:=bind_some J;cases T with
    |lst L=>
     dsimp only at g;by_cases s:L.length<sizeLine
     ·rw[ag s] at g;cases g;obtain⟨a,f,er⟩:=gv.jX.mp q;cases er;obtain⟨a',N,C,S,B,n⟩:=E.h.lst e5;rw[f] at C;cases C;exact⟨a.1,N,P,rfl,rfl,S,by rw[<-B.length];exact s,k .lb _ K u (R.trans A) (M.trans z) (E.mono (eN.refl K).sim (.refl _) (n _ _ (B.append (ft.cons U ft.nil)))) (gv.gk.mpr (eI.gP.mpr rfl))⟩
     ·rw[ai s] at g;cases g
    |_=>cases g
   |_=>cases J
  ·simp only[ai t] at f;cases f
end
section
variable {a o:Expr}{f:ee->Od}{ma mb mc m mo mk:MF}{ff:xc}{ep fJ:Pos}{st:Stmt}{rest:List Stmt}{g h:MS}{k n:Nat}{F:lN}
noncomputable def HJ(b:MF):MF:=λρ μ=>(b ρ μ).bind λr=>match r.1 with
 |.l k=>(r.2[k]?).bind λa=>match a with
  |.lst xs=>(xs[xs.length - 1]?).map λv=>(v,r.2.set k (.lst xs.dropLast))
  |_=>Z
 |_=>Z
def Dd(D:PM X o mo)(c:attributeBase o "pop" X.env (eval o X.env)=eval o X.env:=by rfl)(b:(apos.endLine==fJ.line)=true:=by rfl):PM X (.Call (.Attribute o "pop" apos) [] [] fJ) (HJ mo) :=
 PE.imp (MP bC PySem.F.slot_list_pop PySem.F.type_list_pop MQ D c b) <| by
  rintro σ H Q ⟨ρ,μ,v,μ',G,M,C,e,k⟩;obtain⟨⟨r,μ1⟩,L,s⟩:=bind_some e;refine⟨ρ,μ,r,μ1,G,M,C,L,λO S t g x w n B=>?_⟩;cases r with
  |l P=>
   obtain⟨z,K,q⟩:=bind_some s;cases z with
   |lst N=>obtain⟨y,J,I⟩:=aa.mp q;cases I;obtain⟨a,E,rfl⟩:=gv.jX.mp B;obtain⟨R,i,m,j,d,f⟩:=n.h.lst K;rw[E] at m;cases m;obtain⟨u,p,A⟩:=d.get J;rw[d.length] at p;exact⟨.inl ⟨rfl,i,j0.of j⟩,a.1,i,u,rfl,rfl,j,p,k u _ t g x w (n.mono (eN.refl t).sim (.refl _) (f _ _ d.dropLast)) A⟩
   |_=>cases q
  |_=>cases s
def VR(a v r:MV)(μ:MH):Option MH:=match r with
 |.l n=>(μ[n]?).bind λb=>match b with
  |.lst xs=>match a with
   |.d (.int i)=>(Ey xs.length i).map λj=>μ.set n (.lst (xs.set j v))
   |_=>Z
  |.lS kvs=>if kvs.length<sizeLine then ((sC a).bind qb).map λy=>μ.set n (.lS (y0 y v kvs)) else Z
  |_=>Z
 |_=>Z
def rp(a b m:MF):MS:=λρ μ=>(m ρ μ).bind λv=>(a ρ v.2).bind λr=>(b ρ r.2).bind λq=>(VR q.1 v.1 r.1 q.2).map λμ'=>.nx ρ μ'
def lX(E:X.A.units+64<cLine) {b:Pos} (ho:PM X o mo) (hk:PM X a mk) (he:PM X e m)
  (ha:∀v,assign (.Subscript o a b) X.env v=(do
   let ov <-holding [v] (eval o X.env);let iv <-holding [v,ov] (eval a X.env)
   standAt b
   holding [v,ov,iv] (setItem ov iv v)
   release [v,ov,iv] []):=by intro _;rfl)
  (hs:swapsWithSole [.Subscript o a b] e pos.line X.env=pure false:=by rfl) (hw:swappedStores [.Subscript o a b] e X.env=pure Z:=by rfl)
  (F:(assignEach [.Subscript o a b] X.env).map (·.2)=[assign (.Subscript o a b) X.env]:=by rfl):PU X (.Assign [.Subscript o a b] e pos) (rp mo mk m) :=
 PS.imp (Mx he (Mw ho hk (Cg.or EA (Ni E)) ha) hs hw F) <| by
  rintro D σ H ⟨ρ,μ,oo,G,as,E,e,k⟩;obtain⟨⟨v,μ1⟩,e1,ea⟩:=bind_some e;obtain⟨⟨r,μ2⟩,e2,eb⟩:=bind_some ea;obtain⟨⟨t,μ3⟩,e3,ec⟩:=bind_some eb;obtain⟨μ4,P,rfl⟩:=aa.mp ec;refine⟨ρ,μ,v,μ1,G,as,E,e1,λuv H1 G1 K M L F i1=>⟨ρ,μ1,r,μ2,G1,K,F,e2,λur H2 G2 J y x h2 W=>⟨ρ,μ2,t,μ3,G2,J,h2,e3,λuk H3 w p s q u N=>?_⟩⟩⟩;have iv:=i1.mono (y.trans s).sim (x.trans q);have V:=W.mono s.sim q;cases r with
  |l n=>
   obtain⟨R,O,c⟩:=bind_some P;obtain⟨a,j,rfl⟩:=gv.jX.mp V;cases R with
   |lst xs=>
    rcases t with t|_|_<;>try (cases c;done)
    cases t with
    |int i=>obtain⟨U,I,rfl⟩:=aa.mp c;obtain⟨a',Q,g,z,f,d⟩:=u.h.lst O;rw[j] at g;cases g;exact .inl ⟨a.1,Q,i,U,rfl,eI.eR.mp (gv.gk.mp N),z,by rw[<-f.length];exact I,k _ _ w p (M.trans (y.trans s)) (L.trans (x.trans q)) (u.mono (eN.refl w).sim (.refl _) (d _ _ (f.set iv)))⟩
    |_=>cases c
   |lS B=>
    dsimp only at c;by_cases C:B.length<sizeLine
    ·rw[ag C] at c;obtain⟨S,I,rfl⟩:=aa.mp c;obtain⟨dk,e8,e9⟩:=bind_some I;have:=gR e9;subst this;obtain⟨a',T,g,z,f,d⟩:=u.h.lS O;rw[j] at g;cases g;exact .inr ⟨a.1,T,S,rfl,iE (gv.dat e8 N),z,by rw[<-f.length];exact C,k _ _ w p (M.trans (y.trans s)) (L.trans (x.trans q)) (u.mono (eN.refl w).sim (.refl _) (d _ _ (f.putK iv)))⟩
    ·rw[ai C] at c;cases c
   |_=>cases c
  |_=>cases P
noncomputable def QL(μ:MH):MV->Bool
 |.l k=>match μ[k]? with
  |some (.lS _)=>true
  |_=>false
 |_=>false
def JB(b c m:MF):MF:=λρ μ=>(b ρ μ).bind λr=>if QL r.2 r.1=true then (c ρ r.2).bind λq=>(m ρ q.2).bind λw=>((sC q.1).bind qb).bind λy=>match r.1 with
 |.l n=>(w.2[n]?).bind λa=>match a with
  |.lS kvs=>match qB y kvs with
   |some v=>Y (v,w.2.set n (.lS (HG y kvs)))
   |none=>Y (w.1,w.2)
  |_=>Z
 |_=>Z else Z
def QM(ho:PM X o mo)(hk:PM X a mk)(he:PM X e m)(M:M2 X o "pop" apos a e fJ:=by exact⟨rfl,rfl,rfl,rfl⟩):PM X (.Call (.Attribute o "pop" apos) [a,e] [] fJ) (JB mo mk m) :=
 PE.imp (MZ ho hk he M) <| by
  rintro σ H Q ⟨ρ,μ,v,μ',G,as,hu,e,k⟩;obtain⟨⟨r,μ1⟩,e1,p⟩:=bind_some e;by_cases c:QL μ1 r=true
  ·simp only[ag c] at p;obtain⟨⟨V,μ2⟩,e2,eb⟩:=bind_some p;obtain⟨⟨w,μ3⟩,e3,ec⟩:=bind_some eb;obtain⟨C,e4,ed⟩:=bind_some ec;obtain⟨dk,e8,e9⟩:=bind_some e4;have:=gR e9;subst this;refine⟨ρ,μ,r,μ1,G,as,hu,e1,λur H1 G1 K R O S i1=>?_⟩;cases r with
   |l nn=>
    obtain⟨a,i,rfl⟩:=gv.jX.mp i1;have F:Jg H1 a.1:=by
     unfold QL at c;dsimp only at c;split at c
     ·rename_i D e;obtain⟨a',E,g,A,_⟩:=S.h.lS e;rw[i] at g;cases g;exact .inl ⟨E,.inl A⟩
     ·cases c
    refine⟨a.1,rfl,F,ρ,μ1,V,μ2,G1,K,S,e2,λuk H2 G2 J P s h2 i2=>⟨ρ,μ2,w,μ3,G2,J,h2,e3,λT H3 L j u q I W=>?_⟩⟩;obtain⟨U,e5,d⟩:=bind_some ed;cases U with
    |lS D=>
     obtain⟨a',E,g,A,x,B⟩:=I.h.lS e5;rw[(s.trans q) _ _ i] at g;cases g;refine⟨E,C,A,iE ((gv.dat e8 i2).same u),λy n=>?_,λn=>?_⟩
     ·rcases x.val (k:=C) with ⟨f,b⟩ | ⟨z,t,f,b,N⟩
      ·rw[n] at b;cases b
      ·rw[n] at b;cases b;dsimp only at d;rw[f] at d;cases d;exact k y _ L j (R.trans (P.trans u)) (O.trans (s.trans q)) (I.mono (eN.refl L).sim (.refl _) (B _ _ x.drop)) N
     ·rcases x.val (k:=C) with ⟨f,b⟩ | ⟨z,t,f,b,N⟩
      ·dsimp only at d;rw[f] at d;cases d;exact k T H3 L j (R.trans (P.trans u)) (O.trans (s.trans q)) I W
      ·rw[n] at b;cases b
    |_=>cases d
   |_=>cases c
  ·simp only[ai c] at p;cases p
noncomputable def ua(c n:Str)(a:Int->Int->Int)(e m:MF):MS:=λρ μ=>(e ρ μ).bind λr=>match r.1 with
 |.l k=>(r.2[k]?).bind λb=>match b with
  |.ins f fs=>if f=c then (qA n fs).bind λy=>(m ρ r.2).bind λq=>match y,q.1 with
   |.d (.int i),.d (.int j)=>(Ay c n (.d (.int (a i j))) (.l k) q.2).map λμ'=>.nx ρ μ'
   |_,_=>Z else Z
  |_=>Z
 |_=>Z
theorem BP{c n:Str}{d:Pos}{B:Operator}{g:Int->Int->Int}(hC:fU X.K c n)(ho:PM X o mo)(he:PM X e m)(j:Ug X B (UM g)):PU X (.AugAssign (.Attribute o n d) B e pos) (ua c n g mo m) :=
 PS.imp (Kr ho he j) <| by
  rintro D σ H ⟨ρ,μ,oo,G,as,hu,e,k⟩;obtain⟨⟨r,μ1⟩,e1,M⟩:=bind_some e;cases r with
  |l kk=>
   obtain⟨ob,e2,b⟩:=bind_some M;cases ob with
   |ins c' fs=>
    dsimp only at b;by_cases p:c'=c
    ·rw[ag p] at b;subst p;obtain⟨y,e3,ec⟩:=bind_some b;obtain⟨⟨q,μ2⟩,e4,f⟩:=bind_some ec;refine⟨ρ,μ,_,μ1,G,as,hu,e1,λur H1 G1 v T S J F=>?_⟩;obtain⟨a,t,rfl⟩:=gv.jX.mp F;obtain⟨a',C,fv,A,W,U,V,_⟩:=J.h.ins e2;rw[t] at A;cases A;obtain⟨C',L,g2,g3⟩:=hC;have:=U.uniq L;subst this;obtain⟨w,l,iw⟩:=V.look e3;refine⟨a.1,C,a.2,fv,w,rfl,W,g2,g3,l,ρ,μ1,q,μ2,G1,v,J,e4,λuq H2 N u z x I i2=>?_⟩;rcases y with y|_|_<;>try (cases f;done)
     cases y with
     |int i=>
      rcases q with q|_|_<;>try (cases f;done)
      cases q with
      |int E=>obtain⟨μ4,e6,rfl⟩:=aa.mp f;refine⟨i,E,eI.eR.mp (gv.gk.mp iw),eI.eR.mp (gv.gk.mp i2),?_⟩;obtain⟨p',C2,dx,s,er,R,Q,P,O⟩:=JA (K:=X.K) e6 I.h (uv:=.int (g i E)) (gv.gk.mpr (eI.eR.mpr rfl)) (F.mono z.sim x);cases er;have:=Q.uniq L;subst this;exact⟨dx,s,R,P,k _ _ N u (T.trans z) (S.trans x) (I.mono (eN.refl N).sim (.refl _) O)⟩
      |_=>cases f
     |_=>cases f
    ·rw[ai p] at b;cases b
   |_=>cases b
  |_=>cases M
end
section
variable {G' H':Hp}{as E6:AL}{μ':MH}
noncomputable def x5:MR->List Nat->List MV->MR
 |ρ,i::is,v::vs=>x5 (ρ.set i (Y v)) is vs
 |ρ,_,_=>ρ
noncomputable def BQ:Tg->MV->MR->Option MR
 |.one i,v,ρ=>Y (ρ.set i (Y v))
 |.many is,.t xs,ρ=>if xs.length=is.length then Y (x5 ρ is xs) else Z
 |.many is,.d (.tuple ds),ρ=>if ds.length=is.length then Y (x5 ρ is (ds.map .d)) else Z
 |_,_,_=>Z
theorem gZ.vm:∀{is:List Nat}{σ:St}{ρ:MR}{b:List MV}{a:List V},gZ K σ ρ μ H G as->ft K G as b a->gZ K (xX σ is a) (x5 ρ is b) μ H G as
 |[],σ,ρ,b,a,h,_=>by cases b<;>cases a<;>exact h
 |i::is,σ,ρ,[],a,h,d=>by rw[ft.eP.mp d];exact h
 |i::is,σ,ρ,m::b,a,h,ds=>by obtain⟨v,r,rfl,e,c⟩:=ft.eE.mp ds;exact gZ.vm (is:=is) (h.set e) c
def ub(h:dn K G ds vs):ft K G as (ds.map .d) vs:=by
 induction ds generalizing vs with
 |nil=>rw[dn.eP.mp h];exact ft.nil
 |cons d ds a=>obtain⟨v,r,rfl,i,t⟩:=dn.eE.mp h;exact ft.cons (gv.gk.mpr i) (a t)
def gZ.bind{ρ':MR}{f:Tg}{m:MV}{Q:St->Hp->Prop}(h:gZ K σ ρ μ H G as)(i:gv K G as m v)(e:BQ f m ρ=Y ρ')(k:∀σ',gZ K σ' ρ' μ H G as->Q σ' H):gT K f v σ H Q:=by
 cases f with
 |one j=>cases e;exact k _ (h.set i)
 |many is=>
  rcases m with d|_|xs
  ·cases d with
   |tuple l=>
    dsimp only[BQ] at e;by_cases a:l.length=is.length
    ·rw[ag a] at e;cases e;obtain⟨p,c,rfl,g,b⟩:=(gv.gk.mp i).gI;exact⟨p,c,rfl,h.h.sub.rk g,by rw[<-b.length];exact a,k _ (h.vm (ub b))⟩
    ·rw[ai a] at e;cases e
   |_=>cases e
  ·cases e
  ·dsimp only[BQ] at e;by_cases a:xs.length=is.length
   ·rw[ag a] at e;cases e;obtain⟨p,c,rfl,g,b⟩:=gv.tY.mp i;exact⟨p,c,rfl,h.h.sub.rk g,by rw[<-b.length];exact a,k _ (h.vm b)⟩
   ·rw[ai a] at e;cases e
noncomputable def sD(a:MV->MR->Option MR)(g:MS):List MV->MS
 |[],ρ,μ=>Y (.nx ρ μ)
 |m::ms,ρ,μ=>((a m ρ).bind λρ1=>g ρ1 μ).bind λo=>match o with
  |.nx ρ' μ'=>sD a g ms ρ' μ'
  |.ct ρ' μ'=>sD a g ms ρ' μ'
  |.bk ρ' μ'=>Y (.nx ρ' μ')
  |.rt v μ'=>Y (.rt v μ')
def De(K:Fg)(J:It)(f:List MV)(G:Hp)(g:AL):Prop :=
 ∀b,eN G b->J.stop f.length b/\∀(i:Nat) (m:MV),f[i]?=Y m->J.go i b/\∀x d,J.Kj i b x d->eN b d/\∀e c,eN G e->oA g c->(∀a,b a=Z->e a=d a)->gv K e c m x
def nK.u{J:It}(w:nK K J ds G):De K J (ds.map .d) G as:=λH' s'=>by obtain⟨f,e⟩:=w H' s';refine⟨by simpa using f,λi m q=>?_⟩;rw[az] at q;obtain⟨d,j,rfl⟩:=aa.mp q;obtain⟨c,a⟩:=e i d j;exact⟨c,λx b y=>⟨(a x b y).1,λl k g _ h=>gv.gk.mpr ((a x b y).2 l g h)⟩⟩
def rh{J:It}{t:Tg}{c:List MV}{g:MS}{o:Aw}{D:yj}(w:De K J c G as)(h1:gZ K σ ρ μ H G as)(e2:sD (BQ t) g c ρ μ=Y o)(k:K5 K G as D o):
  ∃W:Nat->Nat->St->Hp->Prop,(∃n,W 0 n σ H)/\∀i n σ H,W i n σ H ->
   (J.stop i H/\D.nx σ H)\/(J.go i H/\∃N:St->Hp->Prop,(∀σ' d,N σ' d->∃R,R<n/\W (i+1) R σ' d)/\∀x d,J.Kj i H x d->gT K t x σ d λσ2 P=>tU K g { D with nx:=N,ct:=N,bk:=D.nx } σ2 P):=by
 refine⟨λi n σ' d=>n=c.length - i/\i<=c.length/\∃ρ' μ' F b,eN G F/\oA as b/\gZ K σ' ρ' μ' d F b/\sD (BQ t) g (c.drop i) ρ' μ'=Y o,⟨c.length,by simp,bH _,ρ,μ,G,as,.refl _,.refl _,h1,by simpa using e2⟩,?_⟩;rintro i n σ' d ⟨rfl,hi,ρ',μ',F,b,B,s,f,z⟩;obtain⟨w1,w2⟩:=w d (B.trans f.h.sub);by_cases p:i<c.length
 ·right;have hd:c[i]?=Y c[i]:=aL p;obtain⟨X,V⟩:=w2 i _ hd;rw[bD p] at z;unfold sD at z;obtain⟨Q,e4,C⟩:=bind_some z;obtain⟨ρ1,e6,e7⟩:=bind_some e4;refine⟨X,λσ3 S=>∃ρ3 μ3 E j,eN G E/\oA as j/\gZ K σ3 ρ3 μ3 S E j/\sD (BQ t) g (c.drop (i+1)) ρ3 μ3=Y o,by rintro σ3 S ⟨ρ3,μ3,E,j,s3,U,h3,O⟩;exact⟨c.length - (i+1),by omega,rfl,p,ρ3,μ3,E,j,s3,U,h3,O⟩,λx P y=>?_⟩;obtain⟨r1,r2⟩:=V x P y;obtain⟨T,I,g2,M⟩:=f.h.y1 r1;have L:=f.mono I.sim (.refl _) M;have i4:=r2 T b (B.trans I) s g2;refine gZ.bind L i4 e6 λσ5 h5=>⟨ρ1,μ',Q,T,b,h5,e7,?_⟩
  have e:=B.trans I;cases Q with
  |nx ρ3 μ3=>exact λσ6 A r a m l q=>⟨ρ3,μ3,r,a,e.trans m,s.trans l,q,C⟩
  |ct ρ3 μ3=>exact λσ6 A r a m l q=>⟨ρ3,μ3,r,a,e.trans m,s.trans l,q,C⟩
  |bk ρ3 μ3=>cases C;exact λσ6 A r a m l q=>k σ6 A r a (e.trans m) (s.trans l) q
  |rt v μ3=>cases C;exact λu A r a m l q i6=>k u A r a (e.trans m) (s.trans l) q i6
 ·have O:i=c.length:=by omega
  subst O;rw[dA] at z;cases z;exact .inl ⟨w1,k σ' d F b B s f⟩
def iB.tell{u e:HO}(h:iB K μ H G as)(i:G a=Y u)(k:HF u kv)(f:HF e kv):iB K μ (upd H a e) (upd G a e) as:=by
 obtain⟨B,rfl,d,j⟩:=h.ex;have g:∀x∈B,x.1≠a:=λx c z=>by have:=d.free x c;rw[z,i] at this;cases this
 refine⟨⟨B,?_,⟨d.nd,λx c=>by rw[eM (g x c)];exact d.free x c,d.ok⟩,j.mono (E5 i k f) (.refl _)⟩⟩
 funext b
 rcases oj (a:=b) B with ⟨x,c,rfl⟩|h'
 ·rw[fL d.nd x c,eM (g x c),fL d.nd x c]
 ·rw[fX h'];unfold upd;split
  ·rfl
  ·rw[fX h']
theorem gZ.tell{a:Addr}{d:List (Key×V)}{u c:HO}(h:gZ K σ ρ μ H G as)(f:G a=Y u)(e:HF u d)(b:HF c d):gZ K σ ρ μ (upd H a c) (upd G a c) as:=h.mono (E5 f e b) (.refl _) (h.h.tell f e b)
end
section
variable {a o:Expr}{f:ee->Od}{fs:ee->Option Lp}{ma mb mc m mo mk:MF}{ff:xc}{ep fJ:Pos}{st:Stmt}{rest:List Stmt}{g h:MS}{k n:Nat}{F:lN}
def VS(X:Cx)(g b:Expr)(q:xc):Prop:=PI X g b (λσ H R=>∃ρ μ d μ' G e,gZ X.K σ ρ μ H G e/\q ρ μ=Y (d,μ')/\∀J f c a,eN G c->oA e a->gZ X.K σ ρ μ' f c a->De X.K J d c a->R J f)
noncomputable def Fb(q:ee->Option Lp):xc:=λρ μ=>(q (ro ρ)).map λa=>(a.map .d,μ)
def uc{a:Expr}(g:S1 X tg a q):VS X tg a (Fb q) :=
 PI.imp (PI.frame g) <| by rintro σ H R ⟨ρ,μ,r,μ',G,o,c,e,k⟩;obtain⟨n,m,l⟩:=aa.mp e;cases l;obtain⟨B,j,i,f⟩:=c.h.ex;exact⟨G,B,j,i,ro ρ,n,c.dat,m,λJ p b w d=>k J _ p o b (.refl _) (c.mono b.sim (.refl _) ⟨B,rfl,d,f.mono b.sim (.refl _)⟩) w.u⟩
noncomputable def NP(m:MF):xc:=λρ μ=>(m ρ μ).bind λr=>match r.1 with
 |.d (.list ds)=>Y (ds.map .d,r.2)
 |_=>Z
def JC(h:PM X e m):VS X tg e (NP m) :=
 PI.imp (Ck h) <| by
  rintro σ H R ⟨ρ,μ,I,μ',G,D,A,e,k⟩;obtain⟨⟨r,μ1⟩,C,f⟩:=bind_some e;refine⟨ρ,μ,r,μ1,G,D,A,C,λu E F g s o l x=>?_⟩;rcases r with d|_|_<;>try (cases f;done)
  cases d with
  |list J=>cases f;obtain⟨q,a,rfl,b,j⟩:=eI.eZ.mp (gv.gk.mp x);refine⟨q,rfl,⟨a,l.h.sub.seq b⟩,k _ E F g s o l (nK.u λL c=>⟨⟨a,c.seq b,by rw[j.length];exact ax _⟩,λi d w=>?_⟩)⟩;obtain⟨y,n,B⟩:=j.get w;refine⟨⟨a,y,c.seq b,n⟩,?_⟩;rintro z K ⟨v,t⟩;have:=t a (c.seq b);rw[n] at this;cases this;subst v;exact⟨.refl _,λM p _=>B.same p⟩
  |_=>cases f
def ud(q:xc)(t:Tg)(g:MS):MS:=λρ μ=>(q ρ μ).bind λr=>sD (BQ t) g r.1 ρ r.2
def oO{a:Expr}{t:Tg}{q:xc} (i:PassesOwn (model X.prog X.w) X.A X.env X.xe) (m:X.calm=true) (j:VS X tg a q) (l:PG X tg (gT X.K t)) (n:Jy X body g)
  (h:∀x,foldedSetIterable a X.env x=pure x:=by intro _;rfl):PU X (.For tg a body [] pos) (ud q t g) :=
 PS.imp (Cm i m j l n h) <| by rintro D σ H ⟨ρ,μ,o,G,v,f,e,k⟩;obtain⟨⟨d,μ1⟩,s,r⟩:=bind_some e;exact⟨ρ,μ,d,μ1,G,v,f,s,λJ y z u c b p w=>rh w p r (k.later c b)⟩
def NQ(m:MF)(t:Tg)(g:MS):MS:=λρ μ=>(m ρ μ).bind λr=>match r.1 with
 |.d (.dict kvs)=>if iq kvs=true then Z else (sD (BQ t) g (kvs.map λx=>.d x.1) ρ r.2).bind λo=>match o with
  |.nx ρ' μ'=>Y (.nx ρ' μ')
  |_=>Z
 |_=>Z
def JD{i:Expr}{t:Tg} (hp:PassesOwn (model X.prog X.w) X.A X.env X.xe) (hc:X.calm=true) (hi:PM X i m) (hg:PG X tg (gT X.K t)) (z:Jy X body g)
  (hs:∀x,foldedSetIterable i X.env x=pure x:=by intro _;rfl):PU X (.For tg i body [] pos) (NQ m t g) :=
 PS.imp (QH (Cm hp hc (QG hi) hg z hs)) <| by
  rintro D σ H ⟨ρ,μ,o,G,as,W,e,k⟩;obtain⟨⟨r,μ1⟩,e1,p⟩:=bind_some e;rcases r with d|_|_<;>try (cases p;done)
  obtain⟨c,rfl⟩:∃c,d=.dict c:=by cases d<;>first|exact⟨_,rfl⟩|cases p
  dsimp only at p;by_cases n:iq c=true
  ·rw[ag n] at p;cases p
  rw[ai n] at p;obtain⟨R,N,e4⟩:=bind_some p;obtain⟨ρN,μN,rfl,rfl⟩:∃ρN μN,R=.nx ρN μN/\o=.nx ρN μN:=by cases R<;>cases e4;exact⟨_,_,rfl,rfl⟩
  have em:(c.map λx=>MV.d x.1)=(c.map (·.1)).map .d:=by simp
  rw[em] at N;refine⟨ρ,μ,.d (.dict c),μ1,G,as,W,e1,λv H1 J as1 Q P y U=>?_⟩;obtain⟨a,l,rfl,f,S⟩:=(gv.gk.mp U).nE (by simpa using n);refine⟨a,l,rfl,y.h.sub.rd f,λj E=>?_,λj E V=>?_⟩
  ·have F:J a=Y (.tq j (.dK l)):=by
    rcases f with f | ⟨o,f⟩
    ·have:=y.h.sub _ _ f;rw[E] at this;cases this
    ·have:=y.h.sub _ _ f;rw[E] at this;cases this;exact f
   exact rh (wD F S).u y N λσ' T O s C L I=>.inl (k σ' T O s (Q.trans C) (P.trans L) I)
  ·have F:J a=Y (.dK l):=by
    rcases f with f | ⟨o,f⟩
    ·exact f
    ·have:=y.h.sub _ _ f;rw[E] at this;cases this
   refine rh (wD (G:=upd J a (.tq j (.dK l))) eS S).u (y.tell F (.inl rfl) (.inr ⟨j,rfl⟩)) N λσ' T O s C L I=>.inr ?_;have B:=C _ _ (eS (H:=J) (a:=a) (o:=.tq j (.dK l)));refine⟨a,j,l,I.h.sub _ _ B,V,k σ' _ (upd O a (.dK l)) s (λb o q=>?_) (P.trans L) (I.tell B (.inr ⟨j,rfl⟩) (.inl rfl))⟩;have M:=Q b o q;by_cases z:b=a
   ·subst z;rw[F] at M;cases M;exact eS
   ·rw[eM z];exact C b o (by rw[eM z];exact M)
noncomputable def jY(m:MF):MR->MH->Option (Bool×MH):=λρ μ=>(m ρ μ).bind λr=>match r.1 with
 |.d (.bool b)=>Y (b,r.2)
 |_=>Z
def x6(h:PM X e m)(l:∀whole,isTrue e X.env whole=(do let v <-whole;standAt e.pos;holding [v] (truthy v)):=by intro _;rfl):Pd X e (jY m) :=
 PT.imp (yq h l) <| by
  rintro σ H Q ⟨ρ,μ,b,μ',G,p,j,e,k⟩;obtain⟨⟨r,μ1⟩,o,a⟩:=bind_some e;refine⟨ρ,μ,r,μ1,G,p,j,o,λu q s c g f n i=>?_⟩;rcases r with d|_|_<;>try (cases a;done)
  cases d with
  |bool t=>cases a;rw[eI.fh.mp (gv.gk.mp i)];exact⟨b,rfl,k q s c g f n⟩
  |_=>cases a
noncomputable def qD(a:MR->MH->Option (Bool×MH)):MR->MH->Option (Bool×MH):=λρ μ=>(a ρ μ).map λr=>(!r.1,r.2)
def Df(h:Pd X a gc):Pd X (.UnaryOp .Not a pos) (qD gc) :=
 PT.imp (GH h) <| by rintro σ H Q ⟨ρ,μ,b,μ',G,m,g,e,k⟩;obtain⟨⟨y,μ1⟩,l,j⟩:=aa.mp e;cases j;exact⟨ρ,μ,y,μ1,G,m,g,l,λn o c f d i=>k n o c f d i⟩
noncomputable def mM(a:MR->MH->Option (Bool×MH))(g:MS):Nat->MS
 |0,_,_=>Z
 |n+1,ρ,μ=>(a ρ μ).bind λr=>if r.1=true then (g ρ r.2).bind λo=>match o with
  |.nx ρ' μ'=>mM a g n ρ' μ'
  |.ct ρ' μ'=>mM a g n ρ' μ'
  |.bk ρ' μ'=>Y (.nx ρ' μ')
  |.rt v μ'=>Y (.rt v μ')
  else Y (.nx ρ r.2)
def Dg(a:MR->MH->Option (Bool×MH))(g:MS):MS:=mM a g Jo
def Fc(T:PassesOwn (model X.prog X.w) X.A X.env X.xe)(U:Pd X c gc)(V:Jy X body g):PU X (.While c body [] pos) (Dg gc g) :=
 PS.imp (Eo T U V) <| by
  rintro D σ H ⟨ρ,μ,o,G,C,S,e,k⟩;refine⟨λn σ' O=>∃ρ' μ' x f,eN G x/\oA C f/\gZ X.K σ' ρ' μ' O x f/\mM gc g n ρ' μ'=Y o,⟨Jo,ρ,μ,G,C,.refl _,.refl _,S,e⟩,?_⟩;rintro n σ' O ⟨ρ',μ',x,f,I,E,z,B⟩;cases n with
  |zero=>cases B
  |succ n=>
   unfold mM at B;obtain⟨⟨y,μ1⟩,e2,t⟩:=bind_some B;refine⟨ρ',μ',y,μ1,x,f,z,e2,λH1 Q p J F M=>?_⟩;cases y with
   |true=>
    simp only[cx] at t;obtain⟨L,W,s⟩:=bind_some t;have d:=I.trans J;have b:=E.trans F;rw[ag rfl];refine⟨λσ3 N=>∃ρ3 μ3 P m,eN G P/\oA C m/\gZ X.K σ3 ρ3 μ3 N P m/\mM gc g n ρ3 μ3=Y o,λσ3 N q=>⟨n,cO n,q⟩,ρ',μ1,L,Q,p,M,W,?_⟩;cases L with
    |nx ρ3 μ3=>exact λσ6 r l a i h j=>⟨ρ3,μ3,l,a,d.trans i,b.trans h,j,s⟩
    |ct ρ3 μ3=>exact λσ6 r l a i h j=>⟨ρ3,μ3,l,a,d.trans i,b.trans h,j,s⟩
    |bk ρ3 μ3=>cases s;exact λσ6 r l a i h j=>k σ6 r l a (d.trans i) (b.trans h) j
    |rt v μ3=>cases s;exact λu r l a i h j R=>k u r l a (d.trans i) (b.trans h) j R
   |false=>simp only[bG,cT] at t;cases t;rw[ai aC];exact k σ' H1 Q p (I.trans J) (E.trans F) M
end
def sF(N:Lr)(a:List MV):MR:=a.map Y++List.replicate (N.length - a.length) Z
def y3{b:AL}{N:Lr}{a:List MV}(i:ft K G b a vs)(h:iB K μ H G b):gZ K (lg N vs) (sF N a) μ H G b:=by
 have d:=i.length;refine⟨h,by simp[lg,sF,d],λj m q=>?_⟩;unfold sF at q;by_cases c:j<a.length
 ·rw[aE (by simpa using c),az] at q;obtain⟨l,k,g⟩:=aa.mp q;cases g;obtain⟨v,f,e⟩:=i.get k;refine⟨v,?_,e⟩;unfold lg;rw[aE (by simp;omega),az,f];rfl
 ·rw[aI (by simpa using c),bB] at q;split at q<;>cases q
noncomputable def gN(N:Lr)(g:MS):lN:=λa μ=>(g (sF N a) μ).bind λo=>match o with
 |.rt v μ'=>Y (v,μ')
 |.nx _ μ'=>Y (.d .none,μ')
 |_=>Z
noncomputable def Fd(N:Lr)(g:MS):Lp->Od:=λa=>(g (sF N (a.map .d)) []).bind λo=>match o with
 |.rt v μ'=>eQ μ' 9 v
 |.nx _ _=>Y .none
 |_=>Z
def iB.empty:iB K [] H H []:=⟨[],rfl,jQ.nil,rfl,rfl⟩
section
variable {P:Program}{base:Heap}{qual:Str}{st:Stmt}{fa:Addr}{N ps:Lr}{k n:Nat}{g:MS}
theorem Dh(F:Je K x qual st fa fd) (S:il N ps (fg st)) (B:n=ps.length)
  (a:∀(pX:Value) (A:Around) (outer:List Env) (s:Shared) (H:Hp) (E:XK),iz k (A.deeper (envOfC qual (fg st) (zB s) fa pX)) ->
   Jy (vh vb P w K mg base N qual (fg st) fa pX A outer s H E).Mr (i9 st) g):kR P w K mg base vb (k+1) fa fd ps (Ur K n (gN N g)):=by
 refine F.ok S (by rintro vs H Q E ⟨q,μ,r,μ',G,t,i,l,_⟩;rw[<-i.length,l,B]) ?_;rintro pX A outer s H vs Q E z ⟨q,μ,r,μ',G,t,i,l,C,e,k⟩;refine⟨_,a pX A outer s H E z,?_⟩;obtain⟨o,D,c⟩:=bind_some e;refine⟨sF N q,μ,o,G,t,y3 i C,D,?_⟩;cases o with
 |rt v μ1=>cases c;exact λu m p b f d j y=>k u m p b f d j y
 |nx ρ' μ1=>cases c;exact λσ m p b f d j=>k .lb m p b f d j.h (gv.gk.mpr (eI.gP.mpr rfl))
 |bk _ _=>cases c
 |ct _ _=>cases c
theorem Fe(F:Je K x qual st fa fd) (S:il N ps (fg st)) (y:n=ps.length)
  (a:∀(pX:Value) (A:Around) (outer:List Env) (s:Shared) (H:Hp) (E:XK),iz k (A.deeper (envOfC qual (fg st) (zB s) fa pX)) ->
   Jy (vh vb P w K mg base N qual (fg st) fa pX A outer s H E).Mr (i9 st) g):kR P w K mg base vb (k+1) fa fd ps (Rr K n (Fd N g)):=by
 refine F.ok S (by rintro vs H Q E ⟨p,d,i,l,_⟩;rw[<-i.length,l,y]) ?_;rintro pX A outer s H vs Q E t ⟨p,d,i,l,e,k⟩;refine⟨_,a pX A outer s H E t,?_⟩;obtain⟨o,z,c⟩:=bind_some e;refine⟨sF N (p.map .d),[],o,H,[],y3 (ub i) iB.empty,z,?_⟩;cases o with
 |rt v μ1=>exact λu m B j f q b r=>k u m (f.trans b.sub) (mB b 9 v d u c r)
 |nx ρ' μ1=>cases c;exact λσ m B j f q b=>k .lb m (f.trans b.h.sub) (eI.gP.mpr rfl)
 |bk _ _=>cases c
 |ct _ _=>cases c
abbrev Ff(P:Program)(w:World)(K:W.Frag)(f:Str->Option Value)(c:Heap)(q:Str)(d:Stmt)(N:List Str)(k:Nat)(g:MS):Prop :=
 ∀{e:Addr}{b:Value}{A:Around}{a:List Env}{s:Shared}{H:Hp}{E:XK},iz k (A.deeper (envOfC q (fg d) (zB s) e b))->(A.deeper (envOfC q (fg d) (zB s) e b)).units+64<cLine->N.Nodup ->
  Jy (vh vb P w K f c N q (fg d) e b A a s H E).Mr (i9 d) g
variable {c m q:Str}
theorem iZ(F:gw K mg x st) (e:Ff P w K mg base x st N k g) (S:il N (N.take n) (fg st):=by exact⟨rfl,rfl,rfl,by decide +kernel,rfl,by decide +kernel,by decide +kernel⟩) (d:n=(N.take n).length:=by rfl)
  (j:K2 x x st (N.take n):=by intro _ _ _ _ _ _;(repeat' intro _);exact rfl):lW P w K mg base x (k+1) n (gN N g):=by
 obtain⟨a,h,f,F⟩:=F;exact⟨a,h,N.take n,Dh F S d λi A b s H E c=>e c c.units S.nd,f,F.kp,j.to F⟩
theorem QN(F:gw K mg x st) (e:Ff P w K mg base x st N k g) (S:il N (N.take n) (fg st):=by exact⟨rfl,rfl,rfl,by decide +kernel,rfl,by decide +kernel,by decide +kernel⟩) (d:n=(N.take n).length:=by rfl)
  (j:K2 x x st (N.take n):=by intro _ _ _ _ _ _;(repeat' intro _);exact rfl):su P w K mg base x (k+1) n (Fd N g):=by
 obtain⟨a,h,f,F⟩:=F;exact⟨a,h,N.take n,Fe F S d λi A b s H E c=>e c c.units S.nd,f,F.kp,j.to F⟩
def o7(F:xb K mg c q st) (f:Ff P w K mg base q st N k g) (S:il N (N.take n) (fg st):=by exact⟨rfl,rfl,rfl,by decide +kernel,rfl,by decide +kernel,by decide +kernel⟩) (e:n=(N.take n).length:=by rfl)
  (m:K2 "__init__" q st (N.take n):=by intro _ _ _ _ _ _;(repeat' intro _);exact rfl):tZ P w K mg base c (k+1) n (gN N g):=by
 obtain⟨C,a,h,j,i,M,F⟩:=F;exact⟨C,a,h,N.take n,j,i,M,Dh F S e λl A b s H E d=>f d d.units S.nd,m.to F⟩
def pK(F:mK K c m q st) (f:Ff P w K mg base q st N k g) (S:il N (N.take n) (fg st):=by exact⟨rfl,rfl,rfl,by decide +kernel,rfl,by decide +kernel,by decide +kernel⟩) (e:n=(N.take n).length:=by rfl)
  (o:K2 m q st (N.take n):=by intro _ _ _ _ _ _;(repeat' intro _);exact rfl):pY P w K mg base c m (k+1) n (gN N g):=by
 obtain⟨C,a,h,j,i,M,F⟩:=F;exact⟨C,a,h,N.take n,j,i,M,Dh F S e λl A b s H E d=>f d d.units S.nd,o.to F⟩
theorem QO{b:Str} (f:mg x=Y (.ref fa)) (F:gw K mg x st) (o:∀base:Heap,Ff P w K mg base x st (b::N) k g) (S:il (b::N) [b] (fg st):=by exact⟨rfl,rfl,rfl,by decide +kernel,rfl,by decide +kernel,by decide +kernel⟩)
  (r:K2 x x st [b]:=by intro _ _ _ _ _ _;(repeat' intro _);exact rfl):∃d:FuncData,(∀(s:Shared) (u:Value),BindsTo s d ⟨[u],[]⟩ [(b,u)])/\∀base:Heap,K.In base->base.Ns mainGlobals mg->kR P w K mg base vb (k+1) fa d [b] (Rr K 1 (Fd (b::N) g)):=by
 obtain⟨a,d,p,F⟩:=F;cases f.symm.trans p;refine⟨d,λs u=>?_,λbase _ _=>Fe F S rfl λc A e s H E i=>o base i i.units S.nd⟩;obtain⟨y,v,m,h,j,t,c,q,l,rfl,z,n⟩:=F.ex;exact .of_eq (r m h j t c q u)
end
section
variable {k n:Nat}{F:lN}
def HK(c:Str)(n:Nat)(F:lN)(b:ee->Option Lp):ee->Od:=λρ=>(b ρ).bind λa=>if a.length+1=n then (F (.l 0::a.map .d) [.ins c []]).bind λq=>match q.1 with
 |.d .none=>eQ q.2 9 (.l 0)
 |_=>Z else Z
def Fh{f:Str} (N:tZ X.prog X.w X.K X.mg X.base f j n F) (R:iz (k+1) X.A) (U:Gl X f) (W:Bp X (e::es) ff) (T:j<=k:=by decide) (s:zg f:=by decide)
  (V:zE e es X:=by rfl) (i:(backTo pos (starEach es X.env)).any (·.1)=false:=by rfl):PD X (.Call (.Name f p) (e::es) [] pos) (HK f n F ff):=by
 obtain⟨C,a,fd,ps,hC,I,M,Fn,b⟩:=N.ex;refine PE.imp (Ct M (Fn.mono T) R U I b .nil nC W s V i) ?_;rintro σ H Q ⟨ρ,d,P,e,k⟩;obtain⟨z,e1,g⟩:=bind_some e;by_cases m:z.length+1=n
 ·rw[ag m] at g;refine⟨ρ,z,P,e1,λvs B E J x c O q l=>?_⟩;obtain⟨⟨r,μ1⟩,e3,t⟩:=bind_some g;rcases r with r|_|_<;>try (cases t;done)
  cases r<;>try (cases t;done)
  have S:=(iB.empty (K:=X.K) (H:=B)).new (a:=(x,c)) (o:=.ins f []) (B':=[(x,.ins C c []),(c,.own x)]) ⟨C,[],rfl,hC,k9.nil⟩ ⟨by simp[Ne.symm l],λy h=>by
   rcases av.mp h with e|h
   ·rw[e];exact O
   ·have:y=(c,HO.own x):=by simpa using h
    rw[this];exact q,.ins .nil⟩
  refine⟨_,_,_,_,B,[(x,c)],ft.cons (gv.jX.mpr ⟨(x,c),rfl,rfl⟩) (by rw[aR];exact ub J),by simpa using m,S,e3,λu H' G' E6 G D v L=>⟨eI.gP.mp (gv.gk.mp L),?_⟩⟩;exact k _ H' (E.trans (G.trans v.sub)) (mB v 9 _ _ _ t (gv.jX.mpr ⟨(x,c),D _ _ rfl,rfl⟩))
 ·rw[ai m] at g;cases g
end
def o8{α:Type}(y:Str):List (Str×α)->Option α
 |[]=>Z
 | (z,v)::r=>if z=y then Y v else o8 y r
structure y4 (P:Program) (w:World) (K:Fg) (mg:Str->Ow) (x:Str) (l:List (Str×Str)):Prop where
 ex:∃(a:Addr) (vs:List (Key×Value)),mg x=Y (.ref a)/\(a==sysModules)=false/\(∀h:Heap,K.In h->h.DictOf (fD P w) a vs)/\(∀i,valueAt vs (.inl i)=Z) /\
  ∀y:Str,(o8 y l=Z/\valueAt vs (.inr y)=Z)\/∃fn fa,o8 y l=Y fn/\valueAt vs (.inr y)=Y (.ref fa)/\mg fn=Y (.ref fa)
def Tf{P:Program}{l:List (Str×Tok×Addr×Str)}{n:Nat} (p:mg x=Y (.ref a)) (s:(a==sysModules)=false)
  (g:K.lookup a=Y { cls:=.type "dict",data:=.dict (l.map λq=>K1 w.params q.1 q.2.1 (.ref q.2.2.1)).toArray n }) (d:(l.map (·.1)).Nodup) (f:∀q∈l,mg q.2.2.2=Y (.ref q.2.2.1)):
  y4 P w K mg x (l.map λq=>(q.1,q.2.2.2)):=by
 refine⟨a,l.map λq=>(.inr q.1,.ref q.2.2.1),p,s,λh A=>?_,λi=>?_,λy=>?_⟩
 ·refine⟨_,_,n,A a _ g,⟨rfl,rfl,rfl⟩,rfl,λe r=>?_,?_,?_⟩
  ·have j:e∈l.map λq=>K1 w.params q.1 q.2.1 (.ref q.2.2.1):=by simpa using r
   obtain⟨q,_,rfl⟩:=aU.mp j;exact⟨.inr q.1,mu P w q.1 q.2.1,wB w q.1⟩
  ·have:∀l:List (Str×Tok×Addr×Str),Pairs (fD P w) (l.map λq=>K1 w.params q.1 q.2.1 (.ref q.2.2.1)) (l.map λq=>((.inr q.1:Key),Value.ref q.2.2.1)):=by
    intro l;induction l with
    |nil=>exact .nil
    |cons q l c=>exact .cons (mu P w q.1 q.2.1) rfl c
   simpa using this l
  ·rw[bT];have:((λx:Key×Value=>x.1)∘λq:Str×Tok×Addr×Str=>((.inr q.1:Key),Value.ref q.2.2.1))=(λz:Str=>(.inr z:Key))∘(·.1):=rfl;rw[this,<-bT];exact List.Pairwise.map _ (λa b h z=>h (by injection z)) d
 ·clear g d f;induction l with
  |nil=>rfl
  |cons q l c=>simpa [valueAt] using c
 ·clear g d;induction l with
  |nil=>exact .inl ⟨rfl,rfl⟩
  |cons q l c=>
   by_cases e:q.1=y
   ·exact .inr ⟨q.2.2.2,q.2.2.1,by simp[o8,e],by simp[valueAt,e],f q (by simp)⟩
   ·rcases c λq o=>f q (ar _ o) with ⟨m,k⟩ | ⟨t,u,m,k,v⟩
    ·exact .inl ⟨by simp[o8,e,m],by simpa [valueAt,e] using k⟩
    ·exact .inr ⟨t,u,by simp[o8,e,m],by simpa [valueAt,e] using k,v⟩
section
variable {a i:Expr}{mi:MF}{ff:xc}{sp:Pos}{k n:Nat}
noncomputable def HL(l:List (Str×Str))(k:eA):Od:=match k with
 |.str y=>Y (.bool (o8 y l).isSome)
 |_=>Z
def K6{l:List (Str×Str)}(J:y4 X.prog X.w X.K X.mg x l)(F:Gl X x)(G:PD X a fa)(E:behindInMarks .In (.Name x p)=false:=by with_unfolding_all rfl)(c:zg x:=by decide):Bo X (.Compare a [.In] [.Name x p] pos) (fB (λρ=>(fa ρ).bind (HL l))):=by
 obtain⟨o,r,O,N,M,_,L⟩:=J.ex;have C:ko X (compareOp .In) (λy z H Q=>∃k:Key,y=kV k/\z=.ref o/\Q (.bl (valueAt r k).isSome) H):=by intro m s σ H y z v u Q I B A ⟨k,j,h,q⟩;subst j h;cases A;exact wpAny_in_of (mT B) N (M s.heap I.xR).mapOf ⟨.bl _,H,I.tok _,rfl,q⟩
 refine PT.imp (tE C G (xS (v:=.ref o) F O rfl c) E) ?_;rintro σ H Q ⟨ρ,d,D,j,k⟩;obtain⟨y,h,n⟩:=bind_some (xU j);obtain⟨z,rfl⟩:∃z,y=.str z:=by cases y<;>first|exact⟨_,rfl⟩|cases n
 cases n;refine⟨ρ,_,D,h,λv P t i=>⟨.inr z,eI.fq.mp i,rfl,?_⟩⟩;have b:=k P t;rcases L z with ⟨g,e⟩ | ⟨fn,f,g,e,g3⟩
 ·rw[g] at b;rw[e];exact⟨_,rfl,b⟩
 ·rw[g] at b;rw[e];exact⟨_,rfl,b⟩
noncomputable def NR(n:Nat)(a:List (Str×Str×lN))(b:MF)(c:xc):MF:=λρ μ=>(b ρ μ).bind λr=>match r.1 with
 |.d (.str y)=>(o8 y a).bind λF=>(c ρ r.2).bind λq=>if q.1.length=n then F.2 q.1 q.2 else Z
 |_=>Z
def K7{c:List (Str×Str×lN)}{y:Str}{F:Str×lN}(h:o8 y c=Y F):o8 y (c.map λq=>(q.1,q.2.1))=Y F.1/\(y,F)∈c:=by
 induction c with
 |nil=>cases h
 |cons q t d=>
  unfold o8 at h;by_cases e:q.1=y
  ·rw[ag e] at h;cases h;exact⟨by simp[o8,e],by rw[<-e];simp⟩
  ·rw[ai e] at h;obtain⟨a,b⟩:=d h;exact⟨by simp[o8,e,a],ar _ b⟩
def QP{c:List (Str×Str×lN)} (hC:y4 X.prog X.w X.K X.mg x (c.map λq=>(q.1,q.2.1))) (hF:∀q∈c,lW X.prog X.w X.K X.mg X.base q.2.1 j n q.2.2) (hr:iz k X.A) (hg:Gl X x) (hi:PM X i mi) (ha:QI X (e::es) ff) (hj:j<=k:=by decide)
  (C:EC i:=by exact λ_ _=>rfl) (L:zg x:=by decide) (he:zE e es X:=by rfl) (D:(backTo pos (starEach es X.env)).any (·.1)=false:=by rfl)
  (ht:eval (.Call (.Subscript (.Name x p) i sp) (e::es) [] pos) X.env=(do callWith pos (<-eval (.Subscript (.Name x p) i sp) X.env) [] (backTo pos (starEach (e::es) X.env)) (backToKw pos (keywordEach [] X.env))):=by rfl):
  PM X (.Call (.Subscript (.Name x p) i sp) (e::es) [] pos) (NR n c mi ff):=by
 obtain⟨ad,vs,M,S,h3,_,h4⟩:=hC.ex;intro b s σ H Q I ⟨ρ,μ,v,μ',G,U,hu,e1,k⟩;obtain⟨⟨r,μ1⟩,e2,N⟩:=bind_some e1;rcases r with r|_|_<;>try (cases N;done)
 cases r with
 |str y=>
  obtain⟨F,e4,e5⟩:=bind_some N;obtain⟨⟨P,μ2⟩,e6,m⟩:=bind_some e5;by_cases J:P.length=n
  ·simp only[ag J] at m;obtain⟨R,l2⟩:=K7 e4;rcases h4 y with ⟨g,_⟩ | ⟨fn,f,g,g2,g3⟩
   ·rw[R] at g;cases g
   rw[R] at g;cases g;obtain⟨T,fd,ps,Fn,hm,hk,hb⟩:=(hF _ l2).ex;have ef:T=f:=by have:(Value.ref T)=.ref f:=bq (hm.symm.trans g3);cases this;rfl
   subst ef;refine Call_ (CB PySem.F.slot_dict_getitem.lookup C (oe I hg M (gO (@hi b s σ H (λu H1=>∃d a,eN G d/\oA U a/\gZ X.K σ ρ μ1 H1 d a/\u=.str y) I ⟨ρ,μ,_,_,G,U,hu,e2,λu H1 d a l z M i1=>⟨d,a,l,z,M,eI.fq.mp (gv.gk.mp i1)⟩⟩) ?_) L)) ht;rintro iv t ⟨u,H1,o,r1,d,a,l,z,B,eu⟩;subst eu;have h:=h3 t.heap o.xR;refine⟨h.typeIs,?_⟩;refine dZ (mT (k:=.inr y) r1) h.mapOf g2 ?_;have I2:=o.tok (t.toks+1);refine W.callWith_K (h₀:=X.base) o.ok.mod.R3 hk (gO (@ha pos b _ σ H1 _ (o.tok _) ⟨ρ,μ1,P,μ2,d,a,B,e6,λO H2 G2 Z9 s2 x2 S i2=>HH (E:=λ_ _ _=>False) S (vs:=O++[]) (by rw[aR];exact i2) J m (k.later (l.trans s2) (z.trans x2))⟩) ?_) he D;rintro O l ⟨ws,H2,V,rr,q⟩;refine⟨V.xR,?_⟩;exact yw (Fn.mono hj) hr hb .nil nC V rr q
  ·simp only[ai J] at m;cases m
 |_=>cases N
end
section
variable {a o i:Expr}{rest:Lx}{f:ee->Od}{g:eA->eA->Od}{ma mb mc m mo mk:MF}{ff:xc}{sp:Pos}{ga gb:MR->MH->Option (Bool×MH)}{k n:Nat}
def RD(r q:MV)(μ:MH):Option MV:=match r with
 |.l n=>match μ[n]? with
  |some (.lst xs)=>match q with
   |.d (.int i)=>rj xs i
   |_=>Z
  |some (.lS kvs)=>((sC q).bind qb).bind λy=>qB y kvs
  |_=>Z
 |.t xs=>match q with
  |.d (.int i)=>rj xs i
  |_=>Z
 |.d (.list ds)=>match q with
  |.d (.int i)=>(rj ds i).map .d
  |_=>Z
 |.d (.tuple ds)=>match q with
  |.d (.int i)=>(rj ds i).map .d
  |_=>Z
 |.d (.dict kvs)=>if iq kvs=true then Z else (sC q).bind λy=>(qb y).bind λ_=>(oN y kvs).map .d
 |_=>Z
def qd(a mb:MF):MF:=λρ μ=>(a ρ μ).bind λr=>(mb ρ r.2).bind λq=>(RD r.1 q.1 q.2).map λv=>(v,q.2)
def x8{as:AL}{a:List MV}{i:Int}{m:MV}(h:ft K G as a vs)(e:rj a i=Y m):∃v,rj vs i=Y v/\gv K G as m v:=by obtain⟨j,f,d⟩:=bind_some e;obtain⟨v,c,b⟩:=h.get d;exact⟨v,by show (Ey vs.length i).bind _=_;rw[<-h.length,f];exact c,b⟩
def JE{i:Int}(e:rj ds i=Y d):rj (ds.map MV.d) i=zd d:=by obtain⟨j,b,a⟩:=bind_some e;show (Ey (ds.map MV.d).length i).bind _=_;rw[aF,b];show (ds.map MV.d)[j]?=_;rw[az,a];rfl
def kg(R:X.A.units+64<cLine)(ha:PM X a ma)(hb:PM X b mb)(hs:tH b:=by exact λ_ _=>rfl)(hs2:EC b:=by exact λ_ _=>rfl):PM X (.Subscript a b pos) (qd ma mb) :=
 PE.imp (PE.or (PE.or (ML Jc ha hb hs) (ML MM ha hb hs)) (Jf (by omega) ha hb hs2)) <| by
  rintro σ H Q ⟨ρ,μ,v,μ',G,as,R,e,k⟩;obtain⟨⟨r,μ1⟩,W,e2⟩:=bind_some e;obtain⟨⟨q,μ2⟩,U,e4⟩:=bind_some e2;obtain⟨y,f,e6⟩:=aa.mp e4;cases e6;have M:∀{i:Int}{K:Fg}{G:Hp}{as:AL}{u:V},gv K G as (.d (.int i)) u->u=.int i:=λh=>eI.eR.mp (gv.gk.mp h);unfold RD at f;cases r with
  |l nn=>
   dsimp only at f;split at f
   ·rename_i xs N;split at f
    ·rename_i i;refine .inl (.inl ⟨ρ,μ,_,_,G,as,R,W,λu H1 L j x s F E=>⟨ρ,μ1,_,_,L,j,F,U,λw I J c n m o D=>?_⟩⟩);obtain⟨a,ea,rfl⟩:=gv.jX.mp (E.mono n.sim m);obtain⟨a',O,q1,C,B,_⟩:=o.h.lst N;rw[ea] at q1;cases q1;obtain⟨t,g,P⟩:=x8 B f;exact⟨a.1,O,_,t,rfl,M D,j0.of C,g,k t I J c (x.trans n) (s.trans m) o P⟩
    ·cases f
   ·rename_i kvs N;obtain⟨ky,e8,e9⟩:=bind_some f;obtain⟨dk,T,g⟩:=bind_some e8;have:=gR g;subst this;refine .inr ⟨ρ,μ,_,_,G,as,R,W,λu H1 L j x s F E=>⟨ρ,μ1,_,_,L,j,F,U,λw I J c n m o D=>?_⟩⟩;obtain⟨a,ea,rfl⟩:=gv.jX.mp (E.mono n.sim m);obtain⟨a',kv,q1,C,B,_⟩:=o.h.lS N;rw[ea] at q1;cases q1;rcases B.val (k:=ky) with ⟨p,_⟩ | ⟨z,t,p,z2,z3⟩
    ·rw[e9] at p;cases p
    ·rw[e9] at p;cases p;rw[iE (gv.dat T D)];exact⟨a.1,t,rfl,by rw[<-z2];exact qr.k C,k t I J c (x.trans n) (s.trans m) o z3⟩
   ·cases f
  |t xs=>
   dsimp only at f;split at f
   ·refine .inl (.inr ⟨ρ,μ,_,_,G,as,R,W,λu H1 L j x s F E=>⟨ρ,μ1,_,_,L,j,F,U,λw I J c n m o D=>?_⟩⟩);obtain⟨q,O,rfl,C,B⟩:=gv.tY.mp (E.mono n.sim m);obtain⟨t,g,P⟩:=x8 B f;exact⟨q,O,_,t,rfl,M D,o.h.sub.rk C,g,k t I J c (x.trans n) (s.trans m) o P⟩
   ·cases f
  |d dd=>
   cases dd with
   |list ds=>
    dsimp only at f;split at f
    ·obtain⟨z,N,rfl⟩:=aa.mp f;refine .inl (.inl ⟨ρ,μ,_,_,G,as,R,W,λu H1 L j x s F E=>⟨ρ,μ1,_,_,L,j,F,U,λw I J c n m o D=>?_⟩⟩);obtain⟨q,O,rfl,C,B⟩:=eI.eZ.mp (gv.gk.mp (E.mono n.sim m));obtain⟨t,g,P⟩:=x8 (ub (as:=c) B) (JE N);exact⟨q,O,_,t,rfl,M D,o.h.sub.seq C,g,k t I J c (x.trans n) (s.trans m) o P⟩
    ·cases f
   |tuple ds=>
    dsimp only at f;split at f
    ·obtain⟨z,N,rfl⟩:=aa.mp f;refine .inl (.inr ⟨ρ,μ,_,_,G,as,R,W,λu H1 L j x s F E=>⟨ρ,μ1,_,_,L,j,F,U,λw I J c n m o D=>?_⟩⟩);obtain⟨q,O,rfl,C,B⟩:=(gv.gk.mp (E.mono n.sim m)).gI;obtain⟨t,g,P⟩:=x8 (ub (as:=c) B) (JE N);exact⟨q,O,_,t,rfl,M D,o.h.sub.rk C,g,k t I J c (x.trans n) (s.trans m) o P⟩
    ·cases f
   |dict kvs=>
    dsimp only at f;by_cases S:iq kvs=true
    ·rw[ag S] at f;cases f
    rw[ai S] at f;obtain⟨dk,N,e8⟩:=bind_some f;obtain⟨ky,e9,T⟩:=bind_some e8;obtain⟨z,g,rfl⟩:=aa.mp T;have:=gR e9;subst this;refine .inr ⟨ρ,μ,_,_,G,as,R,W,λu H1 L j x s F E=>⟨ρ,μ1,_,_,L,j,F,U,λw I J c n m o D=>?_⟩⟩;obtain⟨q,kv,rfl,C,B⟩:=(gv.gk.mp (E.mono n.sim m)).nE (by simpa using S);rcases B.val (y:=ky) with ⟨p,_⟩ | ⟨d',t,p,z2,z3⟩
    ·rw[g] at p;cases p
    ·rw[g] at p;cases p;rw[iE (gv.dat N D)];exact⟨q,t,rfl,by rw[<-z2];exact qr.r (o.h.sub.rd C),k t I J c (x.trans n) (s.trans m) o (gv.gk.mpr z3)⟩
   |_=>cases f
def ko.frame{f:Value->Value->Sem Value}{r:R2}(h:ko X f r):ko X f (λx y H Q=>∃G B,H=eW G B/\jQ G B/\r x y G λv b=>jQ b B->Q v (eW b B)):=by intro c s σ H x y v u Q I i g ⟨G,B,l,d,j⟩;subst l;obtain⟨o,n,_,_,a⟩:=Bu d.ok I d;refine gO (h _ s σ G x y v u _ n i g j) ?_;rintro w e ⟨z,b,J,r,q⟩;obtain⟨k,m⟩:=a b e σ J;exact⟨z,eW b B,m,r,q k⟩
noncomputable def m2(g:eA->eA->Od)(b a:MF):MF:=λρ μ=>(b ρ μ).bind λr=>(a ρ r.2).bind λq=>(sC r.1).bind λx=>(sC q.1).bind λy=>(g x y).map λd=>(.d d,q.2)
def tM2{Q:VK}(h:∃ρ μ v μ' G as,gZ X.K σ ρ μ H G as/\m2 g ma mb ρ μ=Y (v,μ')/\KM X.K σ ρ G as μ' v Q):
  Uh (λx y H Q=>∃G B,H=eW G B/\jQ G B/\Xa X.K g x y G λv a=>jQ a B->Q v (eW a B)) (λσ H Q=>∃ρ μ v μ' G as,gZ X.K σ ρ μ H G as/\ma ρ μ=Y (v,μ')/\KM X.K σ ρ G as μ' v Q) (λσ H Q=>∃ρ μ v μ' G as,gZ X.K σ ρ μ H G as/\mb ρ μ=Y (v,μ')/\KM X.K σ ρ G as μ' v Q) σ H Q:=by
 obtain⟨ρ,μ,v,μ',G,as,C,e,k⟩:=h;obtain⟨⟨r,μ1⟩,S,R⟩:=bind_some e;obtain⟨⟨q,μ2⟩,P,O⟩:=bind_some R;obtain⟨U,N,M⟩:=bind_some O;obtain⟨T,L,J⟩:=bind_some M;obtain⟨d,I,f⟩:=aa.mp J;cases f;refine⟨ρ,μ,_,_,G,as,C,S,λu H1 W l s p D A=>⟨ρ,μ1,_,_,W,l,D,P,λw H2 V j n m o t=>?_⟩⟩;obtain⟨B,F,E,mb⟩:=o.h.ex;exact⟨V,B,F,E,U,T,d,gv.dat N (A.mono n.sim m),gv.dat L t,I,λz a b i c=>k z _ a j (s.trans (n.trans b)) (p.trans m) (o.mono b.sim (.refl _) ⟨B,rfl,c,mb.mono b.sim (.refl _)⟩) (gv.gk.mpr i)⟩
def Di{c:CmpOp}(d:rP X (compareOp c) g)(i:PM X a ma)(f:PM X b mb)(e:behindInMarks c b=false:=by first|exact Cp _|with_unfolding_all rfl):PM X (.Compare a [c] [b] pos) (m2 g ma mb):=PE.imp (IZ (ko.frame d) i f e) λ_ _ _ h=>tM2 h
def Dj(b a:MF):MF:=λρ μ=>(b ρ μ).bind λr=>match r.1 with
 |.d (.bool true)=>a ρ r.2
 |.d (.bool false)=>Y (.d (.bool false),r.2)
 |_=>Z
def Dk(o:PM X a ma)(n:PM X (.BoolOp .And (b::rest) pos) mb):PM X (.BoolOp .And (a::b::rest) pos) (Dj ma mb) :=
 PE.imp (Mp o n) <| by
  rintro σ H Q ⟨ρ,μ,v,μ',G,q,m,e,k⟩;obtain⟨⟨r,μ1⟩,p,f⟩:=bind_some e;rcases r with d|_|_<;>try (cases f;done)
  obtain⟨y,rfl⟩:∃y,d=.bool y:=by cases d<;>first|exact⟨_,rfl⟩|cases f
  refine⟨ρ,μ,_,_,G,q,m,p,λu s j c h g i l=>⟨y,eI.fh.mp (gv.gk.mp l),?_⟩⟩;cases y with
  |true=>rw[ag rfl];exact⟨ρ,μ1,_,_,j,c,i,f,k.later h g⟩
  |false=>rw[ai aC];cases f;exact k _ s j c h g i (gv.gk.mpr (eI.fh.mpr rfl))
noncomputable def QQ(n:Nat)(f:Lp->Od)(b:xc):MF:=λρ μ=>(b ρ μ).bind λr=>(y2 r.1).bind λa=>if a.length=n then (f a).map λd=>(.d d,r.2) else Z
def NS(m:MF):xc:=λρ μ=>(m ρ μ).bind λr=>match r.1 with
 |.d (.list ds)=>Y ((yT ds).map .d,r.2)
 |_=>Z
def NT{a:Lx}{q:Nat}{n:Pos}(x:Gl X "enumerate")(w:X.mg "enumerate"=Z)(h:PM X e m)(v:starEach [e] X.env=[(false,eval e X.env)]:=by rfl):VS X (.Tuple a q n) (.Call (.Name "enumerate" p) [e] [] pos) (NS m) :=
 PI.imp (Jt x w h v) <| by
  rintro σ H R ⟨ρ,μ,D,μ',G,A,t,e,k⟩;obtain⟨⟨r,μ1⟩,z,b⟩:=bind_some e;refine⟨ρ,μ,r,μ1,G,A,t,z,λu B C c o i f s=>?_⟩;rcases r with d|_|_<;>try (cases b;done)
  cases d with
  |list E=>cases b;obtain⟨l,j,rfl,g,y⟩:=eI.eZ.mp (gv.gk.mp s);exact⟨l,j,rfl,f.h.sub.seq g,k _ B C c o i f (wz g y).u⟩
  |_=>cases b
def JF(F:Nat) {y:Str}{A c:Pos}{j b:Expr}{p:Pos}{i:Lx} (a:List (Nat×Str)) {g:ee->Option Bool} (U:X.N.Nodup)
  (P:Mb X (.Name x p) b q)
  (M:∀C s H fp,w8 (lM X scope C (x::a.map (·.2)) s H fp) i g)
  (Q:∀C s H fp,PD (lM X scope C (x::a.map (·.2)) s H fp) j f)
  (R:X.calm=true:=by rfl) (S:jO scope x:=by exact⟨rfl,by decide +kernel,by decide +kernel,rfl,aP⟩) (l:vA X scope=true:=by rfl) (m:kT X scope a:=by repeat' (first|exact aP|refine⟨⟨rfl,.inl rfl,rfl⟩,?_⟩|refine⟨⟨rfl,.inr rfl,rfl⟩,?_⟩)) (u:(x::a.map (·.2)).Nodup:=by decide +kernel)
  (w:X.N[F]?=Y y:=by rfl) (L:X.env.scope.names.lookup y=Y .local:=by rfl) (t:swapsWith (.ListComp j [⟨.Name x p,b,i,0⟩] scope pos) (Y (.Name y A)) c.line X.env=pure true:=by rfl)
  (O:∀x,foldedSetIterable b X.env x=pure x:=by intro _;rfl):PU X (.Assign [.Name y A] (.ListComp j [⟨.Name x p,b,i,0⟩] scope pos) c) (gq (eV (ir q a g f)) F):=by
 intro E s σ H D I T;refine PS.imp (PS.frame (CK (CJ R S (jV I l) m u P M Q) S (jV I l) U w L t O)) (?_) s σ H D I T;rintro D σ H ⟨ρ,μ,o,G,as,r,e,k⟩;obtain⟨⟨v,μ1⟩,e1,rfl⟩:=aa.mp e;obtain⟨d,e2,e3⟩:=aa.mp e1;cases e3;obtain⟨B,W,V,J⟩:=r.h.ex;refine⟨G,B,W,V,ro ρ,d,r.dat,e2,λv G' n K z=>?_⟩;exact k _ _ G' as n (.refl _) (gZ.set (r.mono n.sim (.refl _) ⟨B,rfl,z,J.mono n.sim (.refl _)⟩) (gv.gk.mpr K))
noncomputable def RE(m:MF):MF:=λρ μ=>(m ρ μ).bind λr=>match r.1 with
 |.l n=>match r.2[n]? with
  |some (.lst xs)=>(y2 xs).map λa=>(.d (.list a),r.2)
  |_=>Z
 |_=>Z
def QR(E:Gl X "list")(C:X.mg "list"=Z)(h:PM X e m)(q:starEach [e] X.env=(false,eval e X.env)::starEach [] X.env:=by rfl)(f:(backTo pos (starEach [] X.env)).any (·.1)=false:=by rfl):PM X (.Call (.Name "list" p) [e] [] pos) (RE m) :=
 PE.imp (vi tI E C (by rfl) (cn h fj q) (by decide) (by decide) q f) <| by
  rintro σ H Q ⟨ρ,μ,v,μ',G,N,B,e,k⟩;obtain⟨⟨r,μ1⟩,M,b⟩:=bind_some e;refine⟨ρ,μ,[r],μ1,G,N,B,by show (m ρ μ).bind _=_;rw[M];rfl,λR W G1 i t s g A=>?_⟩;obtain⟨u,S,rfl,z,y⟩:=ft.eE.mp A;rw[ft.eP.mp y];cases r with
  |l T=>
   dsimp only at b;split at b
   ·rename_i P L;obtain⟨U,K,J⟩:=aa.mp b;cases J;obtain⟨a,I,rfl⟩:=gv.jX.mp z;obtain⟨V,c,j,x,w,_⟩:=g.h.lst L;rw[I] at j;cases j;refine⟨a.1,c,rfl,.inl (j0.of x),λl n=>?_⟩;obtain⟨O,d,F,D⟩:=g.h.y1 (hE (o:=.lst c) n);exact k _ _ O i (t.trans d) s (g.mono d.sim (.refl _) D) (gv.gk.mpr (eI.eZ.mpr ⟨l,c,rfl,j0.of (by rw[F l n];exact eS),(ft.dat K w).same d⟩))
   ·cases b
  |_=>cases b
end
section
variable {a o i:Expr}{rest:Lx}{m:MF}{sp:Pos}{ga gb:MR->MH->Option (Bool×MH)}
def JG{b:BoolOp}(h:PM X a m):PM X (.BoolOp b [a] pos) m:=Mo h
def Xl(X:Cx)(e:Expr)(f:MR->MH->Option (Bool×MH)):Prop:=PW X e (λσ H Q=>∃ρ μ b μ' G c,gZ X.K σ ρ μ H G c/\f ρ μ=Y (b,μ')/\∀d g a,eN G g->oA c a->gZ X.K σ ρ μ' d g a->Q b d)
def VT(h:Xl X e ga):Pd X e ga:=h.pt
def NU(h:Pd X a ga):Xl X (.BoolOp .And [a] pos) ga:=IT h
noncomputable def Fi(b a:MR->MH->Option (Bool×MH)):MR->MH->Option (Bool×MH):=λρ μ=>(b ρ μ).bind λr=>if r.1=true then a ρ r.2 else Y (false,r.2)
def QS(p:Pd X a ga)(o:Xl X (.BoolOp .And (b::rest) pos) gb):Xl X (.BoolOp .And (a::b::rest) pos) (Fi ga gb) :=
 PW.imp (Mn p o) <| by
  rintro σ H Q ⟨ρ,μ,y,μ',G,s,n,e,k⟩;obtain⟨⟨z,μ1⟩,r,i⟩:=bind_some e;refine⟨ρ,μ,z,μ1,G,s,n,r,λu j c g f h=>?_⟩;cases z with
  |true=>rw[ag rfl];exact⟨ρ,μ1,y,μ',j,c,h,i,λt v d m l q=>k t v d (g.trans m) (f.trans l) q⟩
  |false=>rw[ai aC];cases i;exact k u j c g f h
noncomputable def VU(a:Nat)(b:Int->Int->Int)(m:MF):MS:=λρ μ=>(ρ[a]?).join.bind λy=>(m ρ μ).bind λq=>match y,q.1 with
 |.d (.int i),.d (.int j)=>Y (.nx (ρ.set a (zd (.int (b i j)))) q.2)
 |_,_=>Z
def Th(c:Nat) {a:Pos}{f:Operator}{g:Int->Int->Int} (z:X.N.Nodup) (r:Ug X f (UM g)) (w:PM X e m) (s:X.N[c]?=Y x:=by rfl) (p:IQ X.env.scope x:=by first|exact b7 rfl|exact bF rfl)
  (t:X.fn x=true\/X.env.scope.names.lookup x=Y .local:=by first|exact .inl rfl|exact .inr rfl|assumption):PU X (.AugAssign (.Name x a) f e pos) (VU c g m) :=
 PS.imp (My z s p w r t) <| by
  rintro D σ H ⟨ρ,μ,L,G,J,h,e,k⟩;obtain⟨y,I,B⟩:=bind_some e;obtain⟨⟨q,μ1⟩,F,b⟩:=bind_some B;rcases y with y|_|_<;>try (cases b;done)
  cases y with
  |int i=>
   rcases q with q|_|_<;>try (cases b;done)
   cases q with
   |int j=>cases b;obtain⟨v,E,C⟩:=h.loc c _ (iA I);refine⟨v,E,ρ,μ,_,_,G,J,h,F,λu M K d n l A o=>⟨i,j,eI.eR.mp (gv.gk.mp C),eI.eR.mp (gv.gk.mp o),?_⟩⟩;exact k _ _ K d n l (A.set (gv.gk.mpr (eI.eR.mpr rfl)))
   |_=>cases b
  |_=>cases b
end
def lW.up{P:Program}{b:Heap}{k c n:Nat}{F:lN}(h:lW P w K mg b x k n F)(e:k<=c):lW P w K mg b x c n F:=by obtain⟨a,f,d,g,r⟩:=h.ex;exact⟨a,f,d,g.mono e,r⟩
section
variable {a:Expr}
def BR(a:List (eA×eA))(k:eA):Od:=(qb k).map λ_=>.bool (!(oN k a).isSome)
theorem HM(F:lq X.prog X.w X.K X.mg x kvs)(D:Gl X x)(E:PD X a fa)(C:behindInMarks .NotIn (.Name x p)=false:=by with_unfolding_all rfl)(c:zg x:=by decide):Bo X (.Compare a [.NotIn] [.Name x p] pos) (fB (λρ=>(fa ρ).bind (BR kvs))):=by
 obtain⟨m,n,M,L,J,G⟩:=F.ex;have A:ko X (compareOp .NotIn) (λy z H Q=>∃k:Key,y=kV k/\z=.ref m/\Q (.bl (!(valueAt n k).isSome)) H):=by intro j s σ H y z v u Q I t r ⟨k,h,g,q⟩;subst h g;cases r;exact wpAny_notIn_of (mT t) L (J s.heap I.xR).mapOf ⟨.bl _,H,I.tok _,rfl,q⟩
 refine PT.imp (tE A E (xS (v:=.ref m) D M rfl c) C) ?_;rintro σ H Q ⟨ρ,d,B,h,k⟩;obtain⟨y,g,P⟩:=bind_some (xU h);obtain⟨l,O,N⟩:=aa.mp P;have:=gR O;subst this;refine⟨ρ,_,B,g,λv R o i=>⟨l,iE i,rfl,?_⟩⟩;have b:=k R o;cases N;rcases G l with ⟨f,e⟩ | ⟨W,S,T,f,e,V,U⟩
 ·rw[f] at b;rw[e];exact⟨_,rfl,b⟩
 ·rw[f] at b;rw[e];exact⟨_,rfl,b⟩
end
section
variable {ff:xc}{k n:Nat}
theorem Dl{f:Lp->Od} (N:vo X.prog X.w X.K X.mg X.base x j n f) (hr:iz k X.A) (hg:Gl X x) (ha:QI X (e::es) ff) (hj:j<=k:=by decide) (D:zg x:=by decide)
  (he:zE e es X:=by rfl) (z:(backTo pos (starEach es X.env)).any (·.1)=false:=by rfl):PM X (.Call (.Name x p) (e::es) [] pos) (QQ n f ff):=by
 obtain⟨a,fd,ps,Fn,hm,hk,hb⟩:=N.ex;intro l s σ H Q I ⟨ρ,μ,v,μ',G,O,hu,e1,k⟩;obtain⟨⟨V,μ1⟩,e2,e3⟩:=bind_some e1;obtain⟨F,e4,q⟩:=bind_some e3;by_cases C:F.length=n
 ·rw[ag C] at q;obtain⟨d,e6,e7⟩:=aa.mp q;cases e7;refine aX (oe I hg hm ?_ D);refine W.callWith_K (h₀:=X.base) I.ok.mod.R3 hk (gO (@ha pos l s σ H (λus H1=>∃g b,eN G g/\oA O b/\gZ X.K σ ρ μ1 H1 g b/\dn X.K g F us) I ⟨ρ,μ,V,μ1,G,O,hu,e2,λus H1 g b L S o y=>⟨g,b,L,S,o,ft.dat e4 y⟩⟩) ?_) he z;rintro us L ⟨vs,H1,P,r,g,b,T,R,o,y⟩;refine⟨P.xR,?_⟩;obtain⟨B,eH,M,mb⟩:=o.h.ex;subst eH;obtain⟨PB,I2,_,_,m⟩:=Bu M.ok P M;refine gO (yw (Q:=λu i=>eN g i/\eI X.K i d u) (E:=E0) (Fn.mono hj) hr hb .nil nC I2 r ⟨F,d,by rw[aR];exact y,C,e6,KO.kd λu i t i'=>⟨t,i'⟩⟩) ?_;rintro w t ⟨u,i,J,U,c,iu⟩;obtain⟨f',J'⟩:=m i t σ J;exact⟨u,eW i B,J',U,k u _ i b (T.trans c) R (o.mono c.sim (.refl _) ⟨B,rfl,f',mb.mono c.sim (.refl _)⟩) (gv.gk.mpr iu)⟩
 ·rw[ai C] at q;cases q
end
section
variable {a:Expr}{fb:ee->Od}
end
section
variable {h':Heap}
def eX.JH{t':Nat}{ch:List Addr}(I:eX X pins σ H s)(k:∀b o,b∉ch->s.heap.get? b=Y o->h'.get? b=Y o)(f:∀b∈ch,mv X pins H b):eX X pins σ H { s with heap:=h',toks:=t' }:=by
 have a:∀b u,H b=Y u->b∉ch:=λb u e d=>by rw[(f b d).1] at e;cases e
 refine I.step (g':=s.gens) (d':=s.drawn) (ch:=ch) ?_ (λb o _ _ hc e _=>k b o hc e) (λb o _ _ hc e _=>⟨o.slots,k b o hc e⟩) (λ_ _ _ _ n=>n) (λb o hc e=>⟨o,k b o hc e⟩) (λ_ _ e=>e) (λ_ _ _ e=>e) (λb ps e=>⟨#[],by rw[e];simp⟩) ?_ ?_ I.bare
 ·intro b d;obtain⟨w,i,_,g,t,h⟩:=f b d;exact⟨g,i,t,h⟩
 ·rintro m ⟨o,l,p,j,r⟩;exact⟨o,l,p,k _ o (λz=>(f _ z).2.1 rfl) j,r⟩
 ·intro b u e;refine(I.ij b u e).tw (λc v hc q=>?_) (λ_ q=>q) λ_ _ q=>q;rcases hc with z|z
  ·rw[z] at q ⊢;exact k _ _ (a b u e) q
  ·exact k _ _ (a c _ z) q
def eX.JI{t':Nat}{ch:List Addr}{u v:Value}{x y:V} (I:eX X pins σ H s) (f:∀b∈ch,mv X pins H b) (j:∀b∈ch,b<(zB s)) (i:fT x u) (h:fT y v)
  (l:h'.get? (zB s)=Y { cls:=.type "tuple",data:=.seq #[u,v] }) (k:∀b o,b∉ch->s.heap.get? b=Y o->h'.get? b=Y o):
  eX X pins σ (upd H (zB s) (.tup [x,y])) { s with heap:=h',toks:=t' }/\∀b∈ch,mv X pins (upd H (zB s) (.tup [x,y])) b:=by
 have r:=I.laid (a:=(zB s)) (o:=.tup [x,y]) (t':=t') (h':=s.heap.push { cls:=.type "tuple",data:=.seq #[u,v] }) (λ_ _ q=>aj _ q) (ax _) ⟨by show 2<=sizeLine;decide,[u,v],.cons i (.cons h .nil),_,aA _ rfl,rfl,0,rfl⟩;have c:∀b∈ch,mv X pins (upd H (zB s) (.tup [x,y])) b:=λb d=>by obtain⟨n,m⟩:=f b d;exact⟨by rw[eM (aG (j b d))];exact n,m⟩
 refine⟨eX.JH (s:={ s with heap:=s.heap.push { cls:=.type "tuple",data:=.seq #[u,v] },toks:=t' }) (h':=h') (t':=t') (ch:=ch) r (λb o d e=>?_) c,c⟩;have e:(s.heap.push { cls:=.type "tuple",data:=.seq #[u,v] }).get? b=Y o:=e;by_cases g:b=(zB s)
 ·subst g;have p:Y o=Y { cls:=.type "tuple",data:=.seq #[u,v] }:=e.symm.trans (aA _ rfl);cases p;exact l
 ·exact k b o d ((Heap.get?_push_ne _ _ _ g).symm.trans e)
end
def Us(K:Fg)(d c:Addr):It where
 go:=λi H=>∃b a x y,j0 K H d b/\j0 K H c a/\b[i]?=Y x/\a[i]?=Y y
 Kj:=λi H v e=>∃T x y,v=.ref T/\H T=Z/\(∀b,j0 K H d b->b[i]?=Y x)/\(∀a,j0 K H c a->a[i]?=Y y)/\e=upd H T (.tup [x,y])
 stop:=λi H=>∃b a,j0 K H d b/\j0 K H c a/\(b.length<=i\/a.length<=i)
def NV(z f e d c j g:Addr)(i:Nat)(h:Heap):Prop:=IsZip h z f e .none/\IsPair h f (.ref d) (.ref c)/\(∃a b,IsPair h e a b)/\h.IsListIter d j i/\h.IsListIter c g i
def NV.obj{z e d i1 i2 j g:Addr}(f:NV z e d i1 i2 j g i h):∀b∈[z,e,d,i1,i2],∃o,h.get? b=Y o/\∀v,o.data≠.cell v:=by
 obtain⟨k,l,⟨a,b,m⟩,⟨t,p,w,r⟩,⟨s,n,u,q⟩⟩:=f;intro b c;simp at c;rcases c with rfl|rfl|rfl|rfl|rfl
 ·exact⟨_,k,λv z=>by cases z⟩
 ·exact⟨_,l,λv z=>by cases z⟩
 ·exact⟨_,m,λv z=>by cases z⟩
 ·exact⟨_,p,λv z=>by rw[r] at z;cases z⟩
 ·exact⟨_,n,λv z=>by rw[q] at z;cases z⟩
theorem NW{P:Program}{M:Lx}{kt:Nat}{tp:Pos}(z r q p n O N:Addr)(D:ZipApart z r q p n O N):Cj P w K (.Tuple M kt tp) (Us K O N) [z,r,q,p,n] z (NV z r q p n O N) where
 mem:=by simp
 obj:=λi h d=>d.obj
 keep:=λi h h' d k=>by obtain⟨f,A,⟨a,b,L⟩,F,C⟩:=d;exact⟨k _ (by simp) _ f,k _ (by simp) _ A,⟨a,b,k _ (by simp) _ L⟩,F.at λo e=>k _ (by simp) o e,C.at λo e=>k _ (by simp) o e⟩
 item:=by
  intro X hP hw hK hc i B s σ H E I hf d W;subst hP hw hK;have lt:∀b∈[z,r,q,p,n],b<(zB s):=λb c=>by obtain⟨o,e,_⟩:=d.obj b c;exact aq e
  obtain⟨f,A,⟨a,b,L⟩,F,C⟩:=d;obtain⟨xs,ys,x,y,j,g,hx,hy⟩:=W;obtain⟨J,m,S,z1⟩:=I.list j;obtain⟨G,l,R,z2⟩:=I.list g;obtain⟨u,hu,ru⟩:=m.get hx;obtain⟨v,hv,rv⟩:=l.get hy;refine wpAny_pyNext_zip_item D f A L F C S.isList R.isList (x:=u) (y:=v) (by simpa using hu) (by simpa using hv) λh1 U hO1 k1 k2 hT1 sz Q=>⟨_,rfl,?_⟩
  refine wpAny_letOwnedTupleGo_zip U λh2 T t=>?_;have ne:∀{b},b∈[z,r,q,p,n]->(zB s)≠b:=λc=>cN (lt _ c);have kk:∀b o,b∉[z,r,q,p,n]->s.heap.get? b=Y o->h2.get? b=Y o:=λb o c e=>by simp at c;exact(t.2 b c.1).trans (Q b o c.1 c.2.2.1 c.2.2.2.1 c.2.2.2.2 e)
  obtain⟨I2,fp2⟩:=I.JI (h':=h2) (t':=s.toks) hf lt ru rv ((t.2 _ (ne (by simp))).trans hT1) kk;exact⟨.ref (zB s),_,I2,rfl,⟨_,x,y,rfl,I.fresh,λzs f=>by rw[I.qj f j];exact hx,λzs f=>by rw[I.qj f g];exact hy,rfl⟩,
   ⟨T,(t.2 _ D.TIz).trans (Q _ _ D.TIz D.TITO D.TIi1 D.TIi2 A),⟨u,v,(t.2 _ D.TOz).trans hO1⟩,k1.at λo e=>(t.2 _ D.i1z).trans e,k2.at λo e=>(t.2 _ D.i2z).trans e⟩,λb c=>(fp2 b c).1⟩
 done:=by
  intro X hP hw hK hc i B s σ H E I hf d W;subst hP hw hK;obtain⟨f,A,⟨a,b,L⟩,F,C⟩:=d;obtain⟨xs,ys,j,g,V⟩:=W;obtain⟨J,m,S,z1⟩:=I.list j;obtain⟨G,l,R,z2⟩:=I.list g;have O:=m.length;have N:=l.length;refine wpAny_pyNext_zip_end (I.ok.hd hc) D f A L F C S.isList R.isList ?_ λh' Q=>⟨rfl,I.JH (t':=s.toks) (ch:=[z,r,q,p,n]) (λb o c e=>?_) hf⟩
  ·rcases V with V|V
   ·exact .inl (by simp;omega)
   ·exact .inr (by simp;omega)
  ·simp at c;exact Q b o c.1 c.2.2.1 c.2.2.2.1 c.2.2.2.2 e
 self:=λ_ _ _ _ _ d h=>wpAny_pyIter_zip d.1 h
section
variable {a:Expr}{ta tb:TE}
def NX{k:Lx}{V:Nat}{N:Pos}(hg:Gl X "zip")(hm:X.mg "zip"=Z)(ha:PE X a ta)(t:PE X b tb)(C:starEach [a,b] X.env=[(false,eval a X.env),(false,eval b X.env)]:=by rfl)(B:starEach [b] X.env=[(false,eval b X.env)]:=by rfl):
  PI X (.Tuple k V N) (.Call (.Name "zip" p) [a,b] [] pos) (λσ H R=>ta σ H λv A=>tb σ A λu m=>∃f d J G,v=.ref f/\u=.ref d/\j0 X.K m f J/\j0 X.K m d G/\R (Us X.K f d) m):=by
 intro c s σ H R I h;refine aX (nv I hg hm (by rfl) ?_);refine bf ?_ (by rw[C,B]) (by rw[B];rfl);rw[C];refine aT (gO (@ha c s σ H _ I h) ?_);rintro u1 O ⟨v1,A,I1,T,U⟩;refine aT (gO (@t c O σ A _ I1 U) ?_);rintro u2 r ⟨v2,m,l,S,f,d,M,L,e1,e2,x,w,q⟩;refine bu ?_;subst e1 e2;cases T;cases S;obtain⟨E,Q,i,z1⟩:=l.list x;obtain⟨D,P,g,z2⟩:=l.list w;have b1:f<(zB r):=by obtain⟨o,n,e,_⟩:=i;exact aq e
 have b2:d<(zB r):=by obtain⟨o,n,e,_⟩:=g;exact aq e
 refine call_zip_2 i.isList g.isList λh' F z y j1 j2 sz W=>?_;refine wpAny_pyIter_zip F ?_;refine⟨_,_,_,_,m,rfl,l.kept (t':=r.toks) W,NW _ _ _ _ _ f d (zipApart_new b1 b2),⟨F,z,⟨_,_,y⟩,j1,j2⟩,λb t=>?_,q⟩;have j:(zB r)<=b:=by simp at t;rcases t with rfl|rfl|rfl|rfl|rfl<;>simp
 exact l.ym j (l.ij.fresh j)
end
theorem HN{m l:Addr}{f e:Lp}{b a:List V}(h:j0 K G m b)(g:j0 K G l a)(o:dn K G f b)(n:dn K G e a):nK K (Us K m l) (KZ f e) G:=λO c=>by
 have J:=o.length;have I:=n.length;refine⟨⟨b,a,c.seq h,c.seq g,?_⟩,λi d q=>?_⟩
 ·simp[KZ];omega
 ·unfold KZ at q;rw[az] at q;obtain⟨⟨M,L⟩,E,rfl⟩:=aa.mp q;obtain⟨D,C⟩:=List.getElem?_zip_eq_some.mp E;obtain⟨t,r,H⟩:=o.get D;obtain⟨s,p,F⟩:=n.get C;refine⟨⟨b,a,t,s,c.seq h,c.seq g,r,p⟩,?_⟩;rintro x N ⟨T,u,v,A,k,z,y,w⟩;have:=z _ (c.seq h);rw[r] at this;cases this;have:=y _ (c.seq g);rw[p] at this;cases this;subst A w;refine⟨hE k,λP j B=>?_⟩;exact eI.iX.mpr ⟨T,[_,_],rfl,.inl (.inl (by rw[B T k];exact eS)),dn.cons (H.same j) (dn.cons (F.same j) dn.nil)⟩
section
variable {a o:Expr}{f:ee->Od}{ma mb mc m mo mk:MF}{ff:xc}{ep fJ:Pos}{st:Stmt}{rest:List Stmt}{g h:MS}
def BS(a mb:MF):xc:=λρ μ=>(a ρ μ).bind λr=>(mb ρ r.2).bind λq=>match r.1,q.1 with
 |.d (.list xs),.d (.list ys)=>Y ((KZ xs ys).map .d,q.2)
 |_,_=>Z
def JK{c:Lx}{E:Nat}{v:Pos}(L:Gl X "zip")(K:X.mg "zip"=Z)(N:PM X a ma)(M:PM X b mb)(y:starEach [a,b] X.env=[(false,eval a X.env),(false,eval b X.env)]:=by rfl)(x:starEach [b] X.env=[(false,eval b X.env)]:=by rfl):
  VS X (.Tuple c E v) (.Call (.Name "zip" p) [a,b] [] pos) (BS ma mb) :=
 PI.imp (NX L K N M y x) <| by
  rintro σ H R ⟨ρ,μ,ms,μ',G,T,J,e,k⟩;obtain⟨⟨r,μ1⟩,S,Q⟩:=bind_some e;obtain⟨⟨q,μ2⟩,P,d⟩:=bind_some Q;refine⟨ρ,μ,r,μ1,G,T,J,S,λu H1 W l z t O I=>⟨ρ,μ1,q,μ2,W,l,O,P,λw U V j m s i F=>?_⟩⟩;dsimp only at d;split at d
  ·cases d;obtain⟨D,g,rfl,o,B⟩:=eI.eZ.mp ((gv.gk.mp I).same m);obtain⟨C,f,rfl,n,A⟩:=eI.eZ.mp (gv.gk.mp F);exact⟨D,C,g,f,rfl,rfl,i.h.sub.seq o,i.h.sub.seq n,k _ U V j (z.trans m) (t.trans s) i (HN o n B A).u⟩
  ·cases d
end
theorem iB.QT{K:Fg}{μ:MH}{H G:Hp}{e:AL}(h:iB K μ H G e):∀{a:Lp}{b:List V},a.all oa=true->dn K H a b->dn K G a b
 |[],_,_,i=>by rw[dn.eP.mp i];exact dn.nil
 |d::a,_,hd,i=>by obtain⟨v,r,rfl,c,t⟩:=dn.eE.mp i;rw[List.all_cons,bR] at hd;exact dn.cons (h.YN hd.1 c) (h.QT hd.2 t)
def oP(f:ee->Od):MF:=λρ μ=>(f (jh μ ρ)).bind λd=>match d with
 |.list ds=>if ds.all oa=true then Y (.d d,μ) else Z
 |_=>Z
section
def Fj(O:Nat) {y:Str}{L c:Pos}{j b:Expr}{t:Pos}{i:Lx} (a:List (Nat×Str)) {f:ee->Od} (hN:X.N.Nodup)
  (l:Mb X (.Name x t) b q)
  (W:∀C s H fp,w8 (lM X scope C (x::a.map (·.2)) s H fp) i g)
  (he:∀C s H fp,PD (lM X scope C (x::a.map (·.2)) s H fp) j f)
  (hc:X.calm=true:=by rfl) (S:jO scope x:=by exact⟨rfl,by decide +kernel,by decide +kernel,rfl,aP⟩) (m:vA X scope=true:=by rfl) (n:kT X scope a:=by repeat' (first|exact aP|refine⟨⟨rfl,.inl rfl,rfl⟩,?_⟩|refine⟨⟨rfl,.inr rfl,rfl⟩,?_⟩)) (A:(x::a.map (·.2)).Nodup:=by decide +kernel)
  (B:X.N[O]?=Y y:=by rfl) (V:X.env.scope.names.lookup y=Y .local:=by rfl) (z:swapsWith (.ListComp j [⟨.Name x t,b,i,0⟩] scope pos) (Y (.Name y L)) c.line X.env=pure true:=by rfl)
  (hs:∀x,foldedSetIterable b X.env x=pure x:=by intro _;rfl):PU X (.Assign [.Name y L] (.ListComp j [⟨.Name x t,b,i,0⟩] scope pos) c) (gq (oP (ir q a g f)) O):=by
 intro M s σ H D I hQ;refine PS.imp (CK (EL (λ_ G ds vs=>dn X.K G ds vs) dn.length (λh s=>h.same s) hc S (jV I m) n A l W λC s H fp=>CI (he C s H fp) rfl) S (jV I m) hN B V z hs) (?_) s σ H D I hQ;rintro D σ H ⟨ρ,μ,o,G,as,w,e,k⟩;obtain⟨⟨v,μ1⟩,e1,rfl⟩:=aa.mp e;obtain⟨d,e2,r⟩:=bind_some e1;refine⟨jh μ ρ,d,w.view,e2,dn.nil,λU R p vs ed J P u=>?_⟩;subst ed;dsimp only at r;by_cases l:U.all oa=true
 ·rw[ag l] at r;cases r;have F:eN R (upd R p (.lst vs)):=hE P;obtain⟨T,E,gG,Q⟩:=w.h.y1 (J.trans F);have hH:H p=Z:=by
   cases q:H p with
   |none=>rfl
   |some o=>have:=J _ _ q;rw[P] at this;cases this
  have hl:j0 X.K T p vs:=j0.of (by rw[gG p hH];exact eS);exact k _ _ T as E (.refl _) (gZ.set (w.mono E.sim (.refl _) Q) (gv.gk.mpr (eI.eZ.mpr ⟨p,vs,rfl,hl,Q.QT l (u.same F)⟩)))
 ·rw[ai l] at r;cases r
end
def Xm(a:List (Key×V)):It where
 go:=λi _=>i<a.length
 Kj:=λi H x b=>∃T y v,x=.ref T/\H T=Z/\a[i]?=Y (y,v)/\b=upd H T (.tup [kV y,v])
 stop:=λi _=>a.length<=i
section
variable {o:Expr}{te:TE}{fJ:Pos}
def QU{K:Lx}{kt:Nat}{tp:Pos}{g:TG}{tb:TS} (hp:PassesOwn (model X.prog X.w) X.A X.env X.xe) (hc:X.calm=true) (ho:PE X o te) (hg:PG X (.Tuple K kt tp) g) (r:we X body tb)
  (P:attributeBase o "items" X.env (eval o X.env)=eval o X.env) (O:(apos.endLine==fJ.line)=true)
  (hs:∀x,foldedSetIterable (.Call (.Attribute o "items" apos) [] [] fJ) X.env x=pure x):PS X (.For (.Tuple K kt tp) (.Call (.Attribute o "items" apos) [] [] fJ) body [] pos)
   (λD σ H=>te σ H λv H1=>∃a j Q,v=.ref a/\H1=upd Q a (.dK j)/\Q a=Z/\∃W:Nat->Nat->St->Hp->Prop,(∃m,W 0 m σ Q)/\∀i m σ H,W i m σ H ->
    ((Xm j).stop i H/\(H a=Z->D.nx σ (upd H a (.dK j))))\/((Xm j).go i H/\∃N:St->Hp->Prop,(∀σ' l,N σ' l->∃m',m'<m/\W (i+1) m' σ' l)/\∀x l,(Xm j).Kj i H x l->g x σ l λσ2 H2=>tb { nx:=N,ct:=N,bk:=λσ H=>H a=Z->D.nx σ (upd H a (.dK j)),rt:=λ_ _=>False } σ2 H2)):=by
 intro c s σ H D I h;refine wpAny_For ?_ hs;refine cH (T:="dict") (id:="dict.items") P rfl O bX PySem.F.slot_dict_items PySem.F.type_dict_items (gO (@ho c s σ H _ I h) ?_);rintro u q ⟨v,H1,I1,r1,a,j,Q,ev,eH,hn,W,⟨m0,w0⟩,S⟩;subst ev eH;cases r1;obtain⟨z,hS,p,rel,dd⟩:=nE I1.ij eS;obtain⟨t,G,L⟩:=Rv I1 hn aP;refine⟨dd.typeIs,dd.mapOf.noDict,?_⟩;show wpAny _ _ (callWith fJ (.builtin "dict.items") [.ref a] [] []) _ _ q;refine method_meetsIn PySem.F.slot_dict_items PySem.F.entry_dict_items rfl (PySem.evalArgs_none ⟨rfl,dd.typeIs,PySem.F.args_dict_items_1 _,_,meets_dict_items (fD X.prog X.w) a hS,⟨p,dd⟩,?_⟩);obtain⟨ep,Xn⟩:=dd.dictAt;refine wpAny_pyIter_items (knd:=fD X.prog X.w) (d:=a) (kvs:=p) (ep:=ep) ⟨_,aA _ rfl,rfl,rfl⟩ (Xn.push _) ?_;have Yo:q.heap.get? a=Y t:=(G.pin (a,t) (by simp)).1;have YO:∀{h:Heap},h.get? a=Y t->h.DictAt (fD X.prog X.w) a p ep:=λ{h} e=>Xn.at λo e'=>by rw[Yo] at e';cases e';exact e
 have hlen:j.length=p.length:=cp rel;have sz:(q.heap.push { cls:=.type "dict_items",data:=.fields #[.ref a] }).objs.size=(zB q)+1:=cy ..;have fp:∀{l:Hp},l ((q.heap.push { cls:=.type "dict_items",data:=.fields #[.ref a] }).objs.size)=Z->mv X (c++[(a,t)]) l ((q.heap.push { cls:=.type "dict_items",data:=.fields #[.ref a] }).objs.size):=λXv=>G.ym (by rw[sz];exact dQ _) Xv;have it0:Q ((q.heap.push { cls:=.type "dict_items",data:=.fields #[.ref a] }).objs.size)=Z:=G.ij.fresh (by rw[sz];exact dQ _);have I3:eX X (c++[(a,t)]) σ Q { q with heap:=(q.heap.push { cls:=.type "dict_items",data:=.fields #[.ref a] }).push { cls:=.type "dict_itemiterator",data:=.fields #[.none,.bool false,.ref a,.int 0 0,.int p.length 0,.int ep 0,.none,.none] } } :=
  G.kept (t':=q.toks) λb u e=>aj _ (aj _ e)
 have it3:IsItemIter ((q.heap.push { cls:=.type "dict_items",data:=.fields #[.ref a] }).push { cls:=.type "dict_itemiterator",data:=.fields #[.none,.bool false,.ref a,.int 0 0,.int p.length 0,.int ep 0,.none,.none] }) ((q.heap.push { cls:=.type "dict_items",data:=.fields #[.ref a] }).objs.size) a 0 p.length ep .none .none:=aA _ rfl;generalize (q.heap.push { cls:=.type "dict_items",data:=.fields #[.ref a] }).objs.size=it at fp it0 it3 ⊢;refine codeAny_forLoop_any (λn s'=>∃i σ' l,eX X (c++[(a,t)]) σ' l s'/\(∃ok ov,IsItemIter s'.heap it a i p.length ep ok ov)/\l it=Z/\W i n σ' l) ?_ m0 ⟨0,σ,Q,I3,⟨_,_,it3⟩,it0,w0⟩;rintro n R ⟨i,σ3,H3,I4,⟨ok,ov,st⟩,fr3,w3⟩;have da:=YO (I4.pin (a,t) (by simp)).1;rcases S i n σ3 H3 w3 with ⟨U,qn⟩ | ⟨go,N,hN,V⟩
 ·have aaa:j.length<=i:=U;refine bz hp (wpAny_pyNext_items_end (I4.ok.hd hc) st da (bQ (by omega)) λh' eb=>?_);obtain⟨f0,f1,f2,f3,f4,f5⟩:=fp fr3;have I5:eX X (c++[(a,t)]) σ3 H3 { R with heap:=h' }:=I4.turned (t':=R.toks) (λb o r e=>eb b o r e) f0 f1 f3 f4 f5;obtain⟨M,I6⟩:=L H3 _ σ3 I5;exact cW ⟨σ3,_,I6,qn M⟩
 ·have go':i<j.length:=go;have hk:j[i]?=Y j[i]:=aL go';have hv:p[i]?=Y p[i]:=aL (by omega);have hr:=Paired.at' rel hk hv;refine bz hp (wpAny_pyNext_items_item st da (k:=p[i].1) (v:=p[i].2) (by rw[hv]) λkey h1 hy heo hT hsz kp=>?_);refine bz hp (wpAny_letOwnedTupleGo_items heo λh2 he2 sb=>?_);have ilt:it<(zB R):=aq st;have fpi:∀b∈[it],mv X (c++[(a,t)]) H3 b:=λb r=>by rw[show b=it by simpa using r];exact fp fr3
  obtain⟨I5,fp5⟩:=I4.JI (h':=h2) (t':=R.toks) (ch:=[it]) (x:=kV j[i].1) (y:=j[i].2) fpi (λb r=>by rw[show b=it by simpa using r];exact ilt) (by rw[hr.1];exact vw hy) hr.2 ((sb.2 _ (cN ilt)).trans hT)
   λb o r e=>(sb.2 b (by simpa using r)).trans (kp b o (by simpa using r) e)
  have I5':=I5.pinned (fp:=[it]) fp5 λb r=>by rw[show b=it by simpa using r];exact⟨_,he2,λv z=>by cases z⟩
  refine bz hp (gO (@hg _ _ σ3 _ (.ref (zB R)) (.ref (zB R)) _ I5' rfl (V _ _ ⟨_,j[i].1,j[i].2,rfl,I4.fresh,hk,rfl⟩)) ?_);rintro _ s6 ⟨σ6,H6,I6,q6⟩;refine bz hp (gO (@r _ s6 σ6 H6 _ I6 q6) λf s7 J=>?_);have B:∀{σ7:St}{C:Hp},eX X ((c++[(a,t)])++vf [it] h2) σ7 C s7->N σ7 C->∃m,m<n/\∃i σ' l,eX X (c++[(a,t)]) σ' l s7/\(∃ok ov,IsItemIter s7.heap it a i p.length ep ok ov)/\l it=Z/\W i m σ' l:=λ{σ7 C} E n7=>by obtain⟨m',hm,w7⟩:=hN σ7 C n7;have pi:=E.pin (it,_) (ao _ (ao _ (ny (by simp) he2)));exact⟨m',hm,i+1,σ7,C,E.nA,⟨_,_,pi.1⟩,pi.2.1,w7⟩
  cases f with
  |next=>obtain⟨σ7,C,E,n7⟩:=J;exact B E n7
  |cont=>obtain⟨σ7,C,E,n7⟩:=J;exact B E n7
  |brk=>obtain⟨σ7,C,E,J⟩:=J;obtain⟨M,I8⟩:=L C _ σ7 E.nA;exact⟨σ7,_,I8,J M⟩
  |ret v=>obtain⟨x7,σ7,C,E,r7,J⟩:=J;exact J.elim
end
section
variable {G' H':Hp}{as E6:AL}{μ':MH}
def iB.VV{n:Nat}{c:List (Key×MV)}(h:iB K μ H G as)(e:μ[n]?=Y (.lS c)):∃a b k,as[n]?=Y a/\H=upd k a.1 (.dK b)/\k a.1=Z/\k9 K G as c b/\iB K (μ.set n .gone) k G as:=by
 obtain⟨B,rfl,f,m⟩:=h.ex;obtain⟨a,g,u,d,t,rfl,o,l,⟨b,rfl,s⟩,r⟩:=m.at e;have p:(g++([(a.1,HO.dK b)]++d)).Perm ((a.1,HO.dK b)::(g++d)):=by simpa using List.perm_middle
 have j:=f.perm p (.one aP (o.append l));have q:=br.mp (show (a.1::(g++d).map (·.1)).Nodup from j.nd);refine⟨a,b,eW G (g++d),t,hY f.nd p,?_,s,⟨g++d,rfl,⟨q.2,λx i=>j.free x (ar _ i),o.append l⟩,by have:=r .gone [] rfl;simpa using this⟩⟩;rw[fX λx i z=>q.1 (aU.mpr ⟨x,i,z⟩)];exact j.free (a.1,.dK b) (by simp)
def iB.back{n:Nat}{a:Addr×Addr}{kvs:List (Key×MV)}(h:iB K μ H G as)(e:μ[n]?=Y .gone)(t:as[n]?=Y a)(g:H a.1=Z)(i:k9 K G as kvs kv):iB K (μ.set n (.lS kvs)) (upd H a.1 (.dK kv)) G as:=by
 obtain⟨B,rfl,f,m⟩:=h.ex;obtain⟨u,d,v,c,j,rfl,r,q,rfl,p⟩:=m.at e;rw[t] at j;cases j;have l:∀x∈d++([]++c),x.1≠a.1:=λx b z=>by have:=fL (G:=G) f.nd x b;rw[z,g] at this;cases this
 have s:G a.1=Z:=by rw[fX l] at g;exact g
 have k:((a.1,HO.dK kv)::(d++([]++c))).Perm (d++([(a.1,HO.dK kv)]++c)):=by simpa using List.perm_middle.symm
 have o:jQ G ((a.1,HO.dK kv)::(d++([]++c))):=⟨br.mpr ⟨λz=>by obtain⟨x,b,e⟩:=aU.mp z;exact l x b e,f.nd⟩,λx b=>by
  rcases av.mp b with e|b
  ·rw[e];exact s
  ·exact f.free x b,.one aP f.ok⟩
 exact⟨_,hY o.nd k,o.perm k (r.append (.one aP q)),p (.lS kvs) [(a.1,.dK kv)] ⟨kv,rfl,i⟩⟩
def BU(y:Key):eI K G (kh y) (kV y):=by
 cases y with
 |inl i=>exact eI.eR.mpr rfl
 |inr x=>exact eI.fq.mpr rfl
def Dm{a:List (Key×MV)}(i:k9 K G as a kv):De K (Xm kv) (a.map λx=>.t [.d (kh x.1),x.2]) G as:=λE B=>by
 have w:=i.length;refine⟨by show kv.length<=_;simp[w],λj m q=>?_⟩;rw[az] at q;obtain⟨⟨k,x⟩,b,rfl⟩:=aa.mp q;have C:=(au.mp b).1;refine⟨by show j<kv.length;omega,?_⟩;rintro z D ⟨T,y,v,o,e,c,n⟩;subst o n;have p:y=k:=by
  have f:(kv.map (·.1))[j]?=Y y:=by rw[az,c];rfl
  rw[i.1,az,b] at f;exact(bq f).symm
 subst p;refine⟨hE e,λF A l h s=>?_⟩;obtain⟨u,g,r⟩:=i.2.get (i:=j) (x:=x) (by rw[az,b];rfl);rw[az,c] at g;cases g;exact gv.tY.mpr ⟨T,[kV y,v],rfl,.inl (.inl (by rw[s T e];exact eS)),ft.cons (gv.gk.mpr (BU y)) (ft.cons (r.mono l.sim h) ft.nil)⟩
end
section
variable {o:Expr}{mo:MF}{fJ:Pos}{g:MS}
def Fl(m:MF)(t:Tg)(g:MS):MS:=λρ μ=>(m ρ μ).bind λr=>match r.1 with
 |.l n=>match r.2[n]? with
  |some (.lS kvs)=>(sD (BQ t) g (kvs.map λx=>.t [.d (kh x.1),x.2]) ρ (r.2.set n .gone)).bind λq=>match q with
   |.nx ρ' μ'=>match μ'[n]? with
    |some .gone=>Y (.nx ρ' (μ'.set n (.lS kvs)))
    |_=>Z
   |_=>Z
  |_=>Z
 |_=>Z
def QV{b:Lx}{z:Nat}{s:Pos}{t:Tg} (R:PassesOwn (model X.prog X.w) X.A X.env X.xe) (V:X.calm=true) (S:PM X o mo) (U:PG X (.Tuple b z s) (gT X.K t)) (W:Jy X body g)
  (d:attributeBase o "items" X.env (eval o X.env)=eval o X.env:=by rfl) (c:(apos.endLine==fJ.line)=true:=by rfl)
  (Q:∀x,foldedSetIterable (.Call (.Attribute o "items" apos) [] [] fJ) X.env x=pure x:=by intro _;rfl):PU X (.For (.Tuple b z s) (.Call (.Attribute o "items" apos) [] [] fJ) body [] pos) (Fl mo t g) :=
 PS.imp (QU R V S U W d c Q) <| by
  rintro D σ H ⟨ρ,μ,oo,G,as,P,e,k⟩;obtain⟨⟨r,μ1⟩,e1,j⟩:=bind_some e;refine⟨ρ,μ,r,μ1,G,as,P,e1,λu H1 G1 as1 L J C N=>?_⟩;cases r with
  |l n=>
   dsimp only at j;split at j
   ·rename_i M e3;obtain⟨q,e4,i⟩:=bind_some j;cases q with
    |nx ρN μN=>
     dsimp only at i;split at i
     ·rename_i e6;cases i;obtain⟨a,y,H0,F,eH,T,B,h0⟩:=C.h.VV e3;obtain⟨a',f,rfl⟩:=gv.jX.mp N;rw[F] at f;cases f;refine⟨a.1,y,H0,rfl,eH,T,?_⟩;exact rh (D:={ nx:=λσ H=>H a.1=Z->D.nx σ (upd H a.1 (.dK y)),rt:=λ_ _=>False,bk:=λ_ _=>False,ct:=λ_ _=>False }) (Dm B) (C.mono (eN.refl G1).sim (.refl _) h0) e4 λσ' H' I p v m E O=>
       k σ' _ I p (L.trans v) (J.trans m) (E.mono (eN.refl I).sim (.refl _) (E.h.back e6 (m _ _ F) O (B.mono v.sim m)))
     ·cases i
    |_=>cases i
   ·cases j
  |_=>cases j
end
end L2
section
noncomputable section
namespace L2
open PySem PySem.Spec PyProof.Rows PySem.StrLaws PySem.Builtin PySem.Builtin.Str
theorem JL{c:Nat}:∀(f d i g:List Nat),c∉f->c∉d->f++c::i=d++c::g->f=d/\i=g
 |[],[],_,_,_,_,h=>by simp at h;exact⟨rfl,h⟩
 |[],a::d,_,_,_,h2,h=>by simp at h;exact absurd h.1 (by intro e;subst e;simp at h2)
 |a::f,[],_,_,h1,_,h=>by simp at h;exact absurd h.1 (by intro e;subst e;simp at h1)
 |a::f,b::d,i,g,h1,h2,h=>by simp only[cR,List.cons.injEq] at h;simp only[av,not_or] at h1 h2;obtain⟨k,j⟩:=JL f d i g h1.2 h2.2 h.2;exact⟨by rw[h.1,k],j⟩
def NY{c:Nat}(a d b:List Nat)(e:c∉a)(h:a=d++c::b):False:=e (by rw[h];simp)
def o9(c:Nat)(a b:Str)(r:Lr):(Str.join ⟨#[c]⟩ (a::b::r)).cps.toList=a.cps.toList++c::(Str.join ⟨#[c]⟩ (b::r)).cps.toList:=by show (a++(⟨#[c]⟩:Str)++Str.join ⟨#[c]⟩ (b::r)).cps.toList=_;simp[Str.cps_append]
theorem Fm(c:Nat):∀(g f:Lr),g≠[]->f≠[]->(∀p∈g,c∉p.cps.toList)->(∀p∈f,c∉p.cps.toList)->Str.join ⟨#[c]⟩ g=Str.join ⟨#[c]⟩ f->g=f
 |[],_,h,_,_,_,_=>absurd rfl h
 |_::_,[],_,h,_,_,_=>absurd rfl h
 |[a],[b],_,_,_,_,h=>by have:a=b:=h;rw[this]
 |[a],b::j::r,_,_,h1,_,h=>by have e:=bx (λz:Str=>z.cps.toList) h;simp only[o9] at e;exact(NY _ _ _ (h1 a (by simp)) e).elim
 |a::a2::r,[b],_,_,_,d,h=>by have e:=bx (λz:Str=>z.cps.toList) h;simp only[o9] at e;exact(NY _ _ _ (d b (by simp)) e.symm).elim
 |a::a2::r,b::j::t,_,_,h1,d,h=>by have e:=bx (λz:Str=>z.cps.toList) h;simp only[o9] at e;obtain⟨n,m⟩:=JL _ _ _ _ (h1 a (by simp)) (d b (by simp)) e;have l:a=b:=Str.ext' (b9.mp n);have k:=Fm c (a2::r) (j::t) (by simp) (by simp) (λp i=>h1 p (by simp[i])) (λp i=>d p (by simp[i])) (Str.ext' (b9.mp m));rw[l,k]
def NZ(x y:Str):Txt.split x y≠[]:=by
 unfold Txt.split;split
 ·simp
 ·split
  ·simp
  ·rw[partsBetween_eq];obtain⟨p,r,e⟩:=partsFrom_ne x y.length 0 (occurrences x y 0 x.length (x.length+1));rw[e];simp
def HP(c:Nat)(a:Lr)(d:a≠[])(h:∀p∈a,c∉p.cps.toList):Txt.split (Str.join ⟨#[c]⟩ a) ⟨#[c]⟩=a :=
 Fm c _ _ (NZ _ _) d (λp b=>split_free _ c p b) h (join_split _ _)
theorem r8(x:Str)(w:Nat):∀(b:List Nat) (a:Nat),(partsFrom x w a b).length=b.length+1
 |[],_=>rfl
 |c::r,a=>by show (strSub x a c::partsFrom x w (c+w) r).length=_;simp[r8 x w r]
def QW(c:Nat)(a:Lr)(b:a≠[])(h:∀p∈a,c∉p.cps.toList)(d:(Str.join ⟨#[c]⟩ a).length<=1000000):
  CS (.str (Str.join ⟨#[c]⟩ a)) [.str ⟨#[c]⟩]=Y (.list (a.map .str)):=by
 have e:=occ_length_le_len (Str.join ⟨#[c]⟩ a) ⟨#[c]⟩ 0 (Str.join ⟨#[c]⟩ a).length ((Str.join ⟨#[c]⟩ a).length+1);show (if _ then _ else Z)=_;rw[ag ⟨rfl,by rw[sizeLine_eq];omega,by rw[partsBetween_eq,r8,sizeLine_eq];omega⟩,HP c a b h]
def gH(c:Nat)(l:List Nat):List Nat×List (List Nat):=@List.rec Nat (λ_=>List Nat×List (List Nat)) ([],[]) (λx _ q=>match Nat.beq x c with|true=>([],q.1::q.2)|false=>(x::q.1,q.2)) l
def pa(l:List Nat):Str:=⟨l.toArray⟩
def vG(c:Nat)(l:List Nat):Lr:=pa (gH c l).1::(gH c l).2.map pa
def j8(d:eA)(a:Lp):Od:=match d,a with
 |.str x,[.str y]=>match y.cps.toList with
  |[c]=>if x.length<100000 then Y (.list ((vG c x.cps.toList).map .str)) else Z
  |_=>Z
 |_,_=>Z
theorem wG(c:Nat):∀l:List Nat,c∉(gH c l).1/\∀q∈(gH c l).2,c∉q
 |[]=>⟨by simp[gH],by simp[gH]⟩
 |x::r=>by
  obtain⟨d,b⟩:=wG c r;show c∉(match Nat.beq x c with|true=>(([]:List Nat),(gH c r).1::(gH c r).2)|false=>(x::(gH c r).1,(gH c r).2)).1/\∀q∈(match Nat.beq x c with|true=>(([]:List Nat),(gH c r).1::(gH c r).2)|false=>(x::(gH c r).1,(gH c r).2)).2,c∉q;cases e:Nat.beq x c with
  |true=>
   refine⟨by simp,λq a=>?_⟩;rcases av.mp a with e|a
   ·rw[e];exact d
   ·exact b q a
  |false=>have:=Nat.ne_of_beq_eq_false e;exact⟨by simp[d,Ne.symm this],b⟩
theorem wH(c:Nat):∀l:List Nat,(Str.join ⟨#[c]⟩ (vG c l)).cps.toList=l
 |[]=>by rfl
 |x::r=>by
  have d:=wH c r;unfold vG at d ⊢;show (Str.join ⟨#[c]⟩ (pa (match Nat.beq x c with|true=>(([]:List Nat),(gH c r).1::(gH c r).2)|false=>(x::(gH c r).1,(gH c r).2)).1::(match Nat.beq x c with|true=>(([]:List Nat),(gH c r).1::(gH c r).2)|false=>(x::(gH c r).1,(gH c r).2)).2.map pa)).cps.toList=_;cases e:Nat.beq x c with
  |true=>have:=Nat.eq_of_beq_eq_true e;subst this;show (Str.join ⟨#[x]⟩ (pa []::pa (gH x r).1::(gH x r).2.map pa)).cps.toList=_;rw[o9,d];rfl
  |false=>
   show (Str.join ⟨#[c]⟩ (pa (x::(gH c r).1)::(gH c r).2.map pa)).cps.toList=_;cases h:(gH c r).2 with
   |nil=>rw[h] at d;show x::(pa (gH c r).1).cps.toList=_;rw[show (pa (gH c r).1).cps.toList=r from d]
   |cons a b=>rw[h] at d;simp only[aB] at d ⊢;rw[o9] at d ⊢;show x::((pa (gH c r).1).cps.toList++_)=_;rw[d]
def HQ{r:eA}(h:j8 d ds=Y r):CS d ds=Y r:=by
 unfold j8 at h;split at h
 ·rename_i x y;split at h
  ·rename_i c l;by_cases f:x.length<100000
   ·rw[ag f] at h;cases h;have g:x=Str.join ⟨#[c]⟩ (vG c x.cps.toList):=Str.ext' (b9.mp (wH c x.cps.toList).symm);have b:y=⟨#[c]⟩:=Str.ext' (b9.mp l);have q:=QW c (vG c x.cps.toList) (by simp[vG]) (λp a=>by
     obtain⟨k,j⟩:=wG c x.cps.toList;rcases av.mp a with e|a
     ·rw[e];exact k
     ·obtain⟨q,i,rfl⟩:=aU.mp a;exact j q i) (by rw[<-g];omega)
    rw[<-g] at q;rw[b];exact q
   ·rw[ai f] at h;cases h
  ·cases h
 ·cases h
def N1(c:List Nat)(a:Lr):List Nat:=@List.rec Str (λ_=>List Nat) [] (λx r b=>match r with | []=>x.cps.toList|_::_=>x.cps.toList++(c++b)) a
theorem Fo(c:Str):∀a:Lr,(Str.join c a).cps.toList=N1 c.cps.toList a
 |[]=>rfl
 |[x]=>rfl
 |x::y::r=>by
  have b:=Fo c (y::r);show (x++c++Str.join c (y::r)).cps.toList=x.cps.toList++(c.cps.toList++N1 c.cps.toList (y::r))
  rw[<-b];simp[Str.cps_append]
def y7(d:eA)(c:Lp):Od:=match d,c with
 |.str x,[.list b]=>(sx b).bind λa=>if JoinOk x a=true then Y (.str (pa (N1 x.cps.toList a))) else Z
 |_,_=>Z
def K8{r:eA}(h:y7 d ds=Y r):Nt d ds=Y r:=by
 unfold y7 at h;split at h
 ·rename_i x e;obtain⟨a,f,b⟩:=bind_some h;by_cases c:JoinOk x a=true
  ·rw[ag c] at b;cases b;show (sx e).bind _=_;rw[f];show (if JoinOk x a=true then Y (eA.str (glued x a)) else Z)=_;rw[ag c,glued_eq_join]
   congr 2
   exact Str.ext' (b9.mp (Fo x a))
  ·rw[ai c] at b;cases b
 ·cases h
section
def jI:PL X "str.split" (λx vs H Q=>∃d b c,eI X.K H d x/\dn X.K H b vs/\j8 d b=Y c/\KD X.K H c Q) :=
 λa s σ H v vs u f Q I g h ⟨d,b,c,j,i,e,k⟩=>Nr a s σ H v vs u f Q I g h ⟨d,b,c,j,i,HQ e,k⟩
def N2:PL X "str.join" (λx vs H Q=>∃d b c,eI X.K H d x/\dn X.K H b vs/\y7 d b=Y c/\KD X.K H c Q) :=
 λa s σ H v vs u f Q I g h ⟨d,b,c,j,i,e,k⟩=>Qs a s σ H v vs u f Q I g h ⟨d,b,c,j,i,K8 e,k⟩
end
end L2
end
namespace L2
open PySem PySem.Spec PyProof.Rows
section
variable {kd:SortKind}{κ:PyProof.Rows.KeyKind}{z:Array Keyed}
def pM(c:Program)(w:World)(A:Around)(s:Shared)(d:SortKind)(κ:PyProof.Rows.KeyKind):Prop :=
 ∀(F:Px) (u v:Value) (a b:κ.α) (P:Bool->Shared->Prop),κ.keyOf u=Y a->κ.keyOf v=Y b->P (κ.blt a b) s->wpAny (model c w) A (keyLt' d u v) P F s
structure mN (kd:SortKind) (z:Array Keyed) (st:SortSt):Prop where
 pm:(arrOf st).Perm z
 kn:kindOf st=kd
 fl:failedOf st=Z
 pd:pendingOf st=#[]
def mN.len{a:SortSt}(l:mN kd z a):(arrOf a).size=z.size:=l.pm.size_eq
def mN.upd{a:SortSt}{b:Array Keyed}(l:mN kd z a)(p:b.Perm (arrOf a)):mN kd z (setArr a b):=⟨p.trans l.pm,l.kn,l.fl,l.pd⟩
abbrev ky(κ:PyProof.Rows.KeyKind)(a:SortSt)(i:Nat):κ.α:=KK κ (arrOf a) i
def mN.look{b:SortSt}(l:mN kd z b)(d:KeysOf κ z)(f:i<z.size):∃u,(arrOf b)[i]?=Y u/\κ.keyOf u.1=Y (ky κ b i):=by have g:i<(arrOf b).size:=l.len▸f;obtain⟨a,e⟩:=d (arrOf b)[i] ((Array.perm_iff_toList_perm.mp l.pm).mem_iff.mp (by simp));have c:(arrOf b)[i]?=Y (arrOf b)[i]:=getElem?_pos _ i g;exact⟨_,c,by show _=Y (KK κ _ _);unfold KK;rw[c];simp[e]⟩
def y8{a:SortSt}{P:Option Bool->SortSt->Prop} (e:pM prog w A s kd κ) (b:KeysOf κ z) (l:mN kd z a) (g:i<z.size) (f:j<z.size)
  (h:P (Y (κ.blt (ky κ a i) (ky κ a j))) a):wpS (model prog w) A E s (ltAt' i j) P a:=by
 obtain⟨u,m,d⟩:=l.look b g;obtain⟨v,k,c⟩:=l.look b f;rw[ltAt'_eq];refine wpS_bind (wpS_get ?_);show wpS _ _ _ _ (elem' (arrOf a) i>>=λx=>elem' (arrOf a) j>>=λy=>lt' x y) P a;simp only[elem'_eq,m,k];refine wpS_bind (wpS_pure (wpS_bind (wpS_pure ?_)));rw[lt'_eq];refine wpS_bind (wpS_get (wpS_bind (wpS_lift (wpAny_attempt ?_))));rw[l.kn];exact e _ _ _ _ _ _ d c ⟨rfl,wpS_pure h⟩
abbrev Up(κ:PyProof.Rows.KeyKind)(st:SortSt)(m:Nat):Prop:=SortedToK κ (arrOf st) m
abbrev Dn(κ:PyProof.Rows.KeyKind)(a:SortSt)(m:Nat):Prop:=NonIncK κ (arrOf a) m
def RF{a:SortSt}{m:Nat}(h:m<=1):Up κ a m:=λi j c b=>by
 obtain rfl:i=j:=by omega
 exact KeyOrd.kle_refl _
def QX{a:SortSt}{m:Nat}(h:Up κ a m)(f:1<=m)(d:κ.kle (ky κ a (m - 1)) (ky κ a m)):Up κ a (m+1):=λi j b e=>by
 rcases Nat.lt_or_ge j m with q|q
 ·exact h i j b q
 ·obtain rfl:j=m:=by omega
  rcases Nat.lt_or_ge i j with c|c
  ·exact KeyOrd.kle_trans (h i (j - 1) (by omega) (by omega)) d
  ·obtain rfl:i=j:=by omega
   exact KeyOrd.kle_refl _
def x9{f:Nat->κ.α}{m:Nat}(h:∀i j,i<=j->j<m->κ.kle (f j) (f i))(e:1<=m)(c:κ.kle (f m) (f (m - 1))):∀i j,i<=j->j<m+1->κ.kle (f j) (f i):=λi j a d=>by
 rcases Nat.lt_or_ge j m with q|q
 ·exact h i j a q
 ·obtain rfl:j=m:=by omega
  rcases Nat.lt_or_ge i j with b|b
  ·exact KeyOrd.kle_trans c (h i (j - 1) (by omega) (by omega))
  ·obtain rfl:i=j:=by omega
   exact KeyOrd.kle_refl _
def JM{b:SortSt}{a n:Nat}{P:AscSt->SortSt->Prop} (g:pM prog w A s kd κ) (i:KeysOf κ z) (l:mN kd z b) (k:n<=z.size) (o:1<=a) (j:a<=n) (f:Up κ b a)
  (h:∀m,a<=m->m<=n->Up κ b m->m=n\/κ.klt (ky κ b m) (ky κ b (m - 1))->P (Z,m) b):wpS (model prog w) A E s (ascLoop a n) P b:=by
 unfold ascLoop;refine wpS_forRange (λm c t=>t=b/\c=(Z,m)/\Up κ b m) (λm c t g1 g2=>?_) (λc t=>?_) ⟨rfl,rfl,f⟩
 ·rintro⟨rfl,rfl,d⟩;refine wpS_bind (y8 g i l (by omega) (by omega) ?_);by_cases q:κ.klt (ky κ t m) (ky κ t (m - 1))
  ·rw[show κ.blt (ky κ t m) (ky κ t (m - 1))=true from q];exact wpS_pure (h m g1 (by omega) d (.inr q))
  ·rw[show κ.blt (ky κ t m) (ky κ t (m - 1))=false from Bool.eq_false_iff.mpr q];exact wpS_pure ⟨rfl,rfl,QX d (by omega) (KeyOrd.kle_of_not_klt q)⟩
 ·rintro⟨rfl,rfl,d⟩;have e:max a n=n:=by omega
  rw[e] at d ⊢;exact h n j (ax _) d (.inl rfl)
def Fp{a:SortSt}{m n:Nat}{P:Option Nat->SortSt->Prop} (e:pM prog w A s kd κ) (f:KeysOf κ z) (l:mN kd z a) (d:n<=z.size) (r:1<=m) (q:m<=n) (p:Dn κ a m)
  (h:∀k t,mN kd z t->1<=k->k<=n->Up κ t k->P (Y k) t):wpS (model prog w) A E s (tail3 m n) P a:=by
 have c:m<=(arrOf a).size:=by rw[l.len];omega
 have b:=l.upd (mirror_perm (arrOf a) 0 m ((m - 0) / 2));refine wpS_bind (wpS_reverse (wpS_bind (JM e f b d r q (λi j o g=>?_) λk x v u _=>wpS_pure (h k _ b (by omega) v u))));show κ.kle (KK κ (mirror (arrOf a) 0 m _) i) (KK κ (mirror (arrOf a) 0 m _) j);rw[KK_mirror c i,KK_mirror c j,ag ⟨bH _,by omega⟩,ag ⟨bH _,g⟩];exact p _ _ (by omega) (by omega)
def Ti(κ:PyProof.Rows.KeyKind)(a:SortSt)(m q:Nat):Prop:=q+1<=m/\∀i,m - (q+1)<=i->i<m->ky κ a i=ky κ a (m - 1)
def N3{a:SortSt}{m:Nat}(h:1<=m):Ti κ a m 0:=⟨by omega,λi c b=>by rw[show i=m - 1 by omega]⟩
def N4{r:SortSt}{m n:Nat}{P:DescSt->SortSt->Prop} (y:pM prog w A s kd κ) (B:KeysOf κ z) (l:mN kd z r) (I:n<=z.size) (H:1<=m) (G:m<=n) (F:Dn κ r m)
  (h:∀k q t,mN kd z t->m<=k->k<=n->Dn κ t k->Ti κ t k q->P (Z,k,q) t):wpS (model prog w) A E s (descLoop m n) P r:=by
 unfold descLoop;refine wpS_forRange (λk c t=>∃q,c=(Z,k,q)/\mN kd z t/\Dn κ t k/\Ti κ t k q) (λk c t g1 g2=>?_) (λc t=>?_) ⟨0,rfl,l,F,N3 H⟩
 ·rintro⟨q,rfl,a,o,d⟩;have x:k<=(arrOf t).size:=by rw[a.len];omega
  dsimp only;refine wpS_bind (y8 y B a (by omega) (by omega) ?_);by_cases p:κ.klt (ky κ t k) (ky κ t (k - 1))
  ·rw[show κ.blt (ky κ t k) (ky κ t (k - 1))=true from p];have C:=x9 (f:=ky κ t) o (by omega) (KeyOrd.kle_of_klt p);dsimp only;rw[ag rfl];by_cases g:q > 0
   ·rw[ag g];refine wpS_bind (wpS_reverse (wpS_pure ⟨0,rfl,a.upd (mirror_perm _ _ _ _),λi j u D=>?_,N3 (by omega)⟩));show κ.kle (KK κ (mirror (arrOf t) _ _ _) j) (KK κ (mirror (arrOf t) _ _ _) i);rw[KK_mirror_equal x d.2,KK_mirror_equal x d.2];exact C i j u D
   ·rw[ai g];exact wpS_pure ⟨0,rfl,a,C,N3 (by omega)⟩
  ·rw[show κ.blt (ky κ t k) (ky κ t (k - 1))=false from Bool.eq_false_iff.mpr p];dsimp only;rw[ai aC];refine wpS_bind (y8 y B a (by omega) (by omega) ?_);by_cases g:κ.klt (ky κ t (k - 1)) (ky κ t k)
   ·rw[show κ.blt (ky κ t (k - 1)) (ky κ t k)=true from g];exact wpS_pure (h k q t a g1 (by omega) o d)
   ·rw[show κ.blt (ky κ t (k - 1)) (ky κ t k)=false from Bool.eq_false_iff.mpr g];have b:ky κ t k=ky κ t (k - 1):=KeyOrd.kle_antisymm (KeyOrd.kle_of_not_klt g) (KeyOrd.kle_of_not_klt p);refine wpS_pure ⟨q+1,rfl,a,x9 (f:=ky κ t) o (by omega) (KeyOrd.kle_of_not_klt g),by have:=d.1;omega,λi K J=>?_⟩;rw[show k+1 - 1=k by omega,b];rcases Nat.lt_or_ge i k with v|v
    ·exact d.2 i (by omega) v
    ·rw[show i=k by omega];exact b
 ·rintro⟨q,rfl,a,o,d⟩;have e:max m n=n:=by omega
  rw[e] at o d ⊢;exact h n q t a G (ax _) o d
def ue{a:SortSt}{m n:Nat}{P:Option Nat->SortSt->Prop} (d:pM prog w A s kd κ) (e:KeysOf κ z) (l:mN kd z a) (c:n<=z.size) (y:m+1<=n) (x:Dn κ a (m+1))
  (h:∀k t,mN kd z t->1<=k->k<=n->Up κ t k->P (Y k) t):wpS (model prog w) A E s (descPart m n) P a:=by
 unfold descPart;refine wpS_bind (wpS_lift (dz ⟨rfl,wpS_bind (N4 d e l c (by omega) y x λk q t b B p u r=>?_)⟩));have o:k<=(arrOf t).size:=by rw[b.len];omega
 dsimp only;by_cases g:q > 0
 ·rw[ag g];refine wpS_bind (wpS_reverse (Fp d e (b.upd (mirror_perm _ _ _ _)) c (by omega) p (λi j f v=>?_) h));show κ.kle (KK κ (mirror (arrOf t) _ _ _) j) (KK κ (mirror (arrOf t) _ _ _) i);rw[KK_mirror_equal o r.2,KK_mirror_equal o r.2];exact u i j f v
 ·rw[ai g];exact Fp d e b c (by omega) p u h
def QY{a:SortSt}{n:Nat}{P:Option Nat->SortSt->Prop} (g:pM prog w A s kd κ) (p:KeysOf κ z) (l:mN kd z a) (x:n<=z.size) (F:1<=n)
  (h:∀k t,mN kd z t->1<=k->k<=n->Up κ t k->P (Y k) t):wpS (model prog w) A E s (countRun' 0 n) P a:=by
 rw[countRun0_eq];refine wpS_bind (JM g p l x (ax 1) F (RF (ax 1)) λm y C u o=>?_);dsimp only;by_cases q:m=n
 ·rw[ag (bY.mpr q)];exact wpS_pure (h m a l y C u)
 ·rw[ai (λe=>q (bY.mp e))];have c:=o.resolve_left q;by_cases e:m > 1
  ·rw[ag e];refine wpS_bind (y8 g p l (by omega) (by omega) ?_);by_cases v:κ.klt (ky κ a 0) (ky κ a (m - 1))
   ·rw[show κ.blt (ky κ a 0) (ky κ a (m - 1))=true from v];exact wpS_pure (h m a l y C u)
   ·rw[show κ.blt (ky κ a 0) (ky κ a (m - 1))=false from Bool.eq_false_iff.mpr v];have B:m<=(arrOf a).size:=by rw[l.len];omega
    have b:∀i,0<=i->i<m->ky κ a i=ky κ a (m - 1):=λi _ D=>
     KeyOrd.kle_antisymm (u i (m - 1) (by omega) (by omega)) (KeyOrd.kle_trans (KeyOrd.kle_of_not_klt v) (u 0 i (by omega) D))
    have G:∀i j,i<=j->j<m+1->κ.kle (ky κ a j) (ky κ a i):=x9 (f:=ky κ a) (λi j d r=>by rw[b i (bH _) (by omega),b j (bH _) r];exact KeyOrd.kle_refl _) y (KeyOrd.kle_of_klt c);dsimp only;rw[ai aC];refine wpS_bind (wpS_reverse (ue g p (l.upd (mirror_perm _ _ _ _)) x (by omega) (λi j d r=>?_) h));show κ.kle (KK κ (mirror (arrOf a) _ _ _) j) (KK κ (mirror (arrOf a) _ _ _) i);rw[KK_mirror_equal B b,KK_mirror_equal B b];exact G i j d r
  ·rw[ai e];obtain rfl:m=1:=by omega
   exact ue g p l x (by omega) (x9 (f:=ky κ a) (λi j d r=>by rw[show i=j by omega];exact KeyOrd.kle_refl _) (ax 1) (KeyOrd.kle_of_klt c)) h
def QZ{C:SortSt}{n m:Nat}{P:Bool->SortSt->Prop} (L:pM prog w A s kd κ) (M:KeysOf κ z) (l:mN kd z C) (W:n<=z.size) (X:m<=n) (K:Up κ C m)
  (h:∀t,mN kd z t->Up κ t n->P true t):wpS (model prog w) A E s (binarySort' 0 n m) P C:=by
 rw[binarySort'_eq];simp only[Nat.zero_add];refine wpS_bind (wpS_mono (wpS_forRange (λk c t=>c=(Z,())/\mN kd z t/\Up κ t (min k n)) (Q:=λc t=>c=(Z,())/\mN kd z t/\Up κ t n) (λk c t g1 g2=>?_) (λc t=>?_) ⟨rfl,l,?_⟩) λc t=>?_)
 ·rintro⟨rfl,g,f⟩;rw[show min k n=k by omega] at f;have u:k<z.size:=by omega
  refine wpS_bind (wpS_mono (wpS_forRange (λx c d=>d=t/\∃a b,c=(Z,a,b)/\a<=b/\b<=k/\b - a<=k - x/\(∀i,i<a->κ.kle (ky κ t i) (ky κ t k))/\∀i,b<=i->i<k->κ.klt (ky κ t k) (ky κ t i))
   (Q:=λc d=>d=t/\∃a b,c=(Z,a,b)/\a<=k/\(∀i,i<a->κ.kle (ky κ t i) (ky κ t k))/\∀i,a<=i->i<k->κ.klt (ky κ t k) (ky κ t i)) (λx c d _ g3=>?_) (λc d=>?_) ⟨rfl,0,k,rfl,bH _,ax _,by omega,λi b=>absurd b (Nat.not_lt_zero _),λi S R=>absurd R (Nat.not_lt.mpr S)⟩) λc d=>?_)
  ·rintro⟨rfl,a,b,rfl,I,y,V,p,o⟩;dsimp only;by_cases q:a >= b
   ·obtain rfl:a=b:=Nat.le_antisymm I q;rw[ag q];exact wpS_pure ⟨rfl,a,a,rfl,y,p,o⟩
   ·rw[ai q];refine wpS_bind (y8 L M g u (by omega) ?_);by_cases B:κ.klt (ky κ d k) (ky κ d ((a+b) / 2))
    ·rw[show κ.blt (ky κ d k) (ky κ d ((a+b) / 2))=true from B];exact wpS_pure ⟨rfl,a,(a+b) / 2,rfl,by omega,by omega,by omega,p,λi H U=>KeyOrd.klt_of_klt_of_kle B (f _ i H U)⟩
    ·rw[show κ.blt (ky κ d k) (ky κ d ((a+b) / 2))=false from Bool.eq_false_iff.mpr B];exact wpS_pure ⟨rfl,(a+b) / 2+1,b,rfl,by omega,y,by omega,λi H=>KeyOrd.kle_trans (f i ((a+b) / 2) (by omega) (by omega)) (KeyOrd.kle_of_not_klt B),o⟩
  ·rintro⟨rfl,a,b,rfl,I,y,V,p,o⟩;obtain rfl:a=b:=by omega
   exact⟨rfl,a,a,rfl,y,p,o⟩
  ·rintro⟨rfl,a,b,rfl,y,p,o⟩;show wpS _ _ _ _ (moveDown' k a>>=λ_=>pure (ForInStep.yield (Z,()))) _ _;rw[moveDown'_eq];have J:k<(arrOf d).size:=by rw[g.len];exact u
   refine wpS_bind (wpS_modify (wpS_pure ⟨rfl,g.upd (bubble_perm _ _ _),λi j v O=>?_⟩));have N:j<k+1:=by omega
   have e:=λx=>KK_bubble (κ:=κ) (xs:=arrOf d) J (show k - a<=k by omega) x;have T:k - (k - a)=a:=by omega
   show κ.kle (KK κ (bubble (arrOf d) k (k - a)) i) (KK κ (bubble (arrOf d) k (k - a)) j);rw[e i,e j,T];by_cases G:i=a
   ·rw[ag G];by_cases r:j=a
    ·rw[ag r];exact KeyOrd.kle_refl _
    ·rw[ai r,ag (by omega)];exact KeyOrd.kle_of_klt (o _ (by omega) (by omega))
   ·rw[ai G];by_cases r:j=a
    ·rw[ag r,ai (by omega)];exact p i (by omega)
    ·rw[ai r];by_cases F:a<i/\i<=k
     ·rw[ag F,ag (by omega)];exact f _ _ (by omega) (by omega)
     ·rw[ai F];by_cases D:a<j/\j<=k
      ·rw[ag D];exact f _ _ (by omega) (by omega)
      ·rw[ai D];exact f _ _ (by omega) (by omega)
 ·rintro⟨rfl,g,f⟩;refine⟨rfl,g,?_⟩;rwa[show min (max (max m 1) n) n=n by omega] at f
 ·rcases Nat.eq_zero_or_pos m with q|q
  ·exact RF (by omega)
  ·intro i j v O;exact K i j v (by omega)
 ·rintro⟨rfl,g,f⟩;exact wpS_pure (h t g f)
def Q0{st:SortSt}{P:Unit->SortSt->Prop} (v:pM prog w A s kd κ) (y:KeysOf κ z) (l:mN kd z st) (G:2<=z.size) (p:z.size<64)
  (h:∀t,(arrOf t).Perm z->failedOf t=Z->Up κ t z.size->P () t):wpS (model prog w) A E s sortRuns' P st:=by
 have C:minRun' z.size z.size 0=z.size:=by
  cases e:z.size with
  |zero=>omega
  |succ f=>rw[minRun'_succ,ag (e▸p)]
 rw[sortRuns'_eq];refine wpS_bind (wpS_get ?_);dsimp only;simp only[l.len,C];let i:SortSt->Prop:=λt=>(arrOf t).Perm z/\failedOf t=Z/\pendingOf t=#[(0,z.size,0)]/\Up κ t z.size;refine wpS_bind (wpS_mono (wpS_forRange (λx c t=>(x=0/\c=(Z,0)/\mN kd z t)\/(0<x/\c=(Z,z.size)/\i t)) (Q:=λc t=>c=(Z,z.size)/\i t) (λx c t _ g=>?_) (λc t=>?_) (.inl ⟨rfl,rfl,l⟩)) λc t=>?_)
 ·rintro(⟨rfl,rfl,D⟩ | ⟨B,rfl,d⟩)
  ·dsimp only;rw[ai (by omega)];simp only[Nat.sub_zero,Nat.min_self,Nat.zero_add];refine wpS_bind (QY v y D (ax _) (by omega) λk u o I F r=>?_);have b:∀a:SortSt,mN kd z a->Up κ a z.size->i (setPending a ((pendingOf a).push (0,z.size,0))):=λa j n=>⟨j.pm,j.fl,by show (pendingOf a).push _=_;rw[j.pd];rfl,n⟩
   dsimp only;by_cases q:k<z.size
   ·rw[ag q];refine wpS_bind (wpS_lift (dz ⟨rfl,wpS_bind (QZ v y o (ax _) F r λa j n=>?_)⟩));rw[ai (by simp)];refine wpS_bind (wpS_get ?_);rw[show (pendingOf a).back?=Z by rw[j.pd];rfl];exact wpS_bind (wpS_modify (wpS_pure (.inr ⟨Nat.succ_pos _,rfl,b a j n⟩)))
   ·obtain rfl:k=z.size:=by omega
    rw[ai q];refine wpS_bind (wpS_get ?_);rw[show (pendingOf u).back?=Z by rw[o.pd];rfl];exact wpS_bind (wpS_modify (wpS_pure (.inr ⟨Nat.succ_pos _,rfl,b u o r⟩)))
  ·dsimp only;rw[ag (ax _)];exact wpS_pure ⟨rfl,d⟩
 ·rintro(⟨H,_⟩ | ⟨_,B,d⟩)
  ·omega
  ·exact⟨B,d⟩
 ·rintro⟨rfl,d⟩;dsimp only;refine wpS_bind (wpS_mono (wpS_forRange (λ_ c m=>m=t/\c=(Z,())) (Q:=λc m=>m=t/\c=(Z,())) (λx c m _ _=>?_) (λ_ _ q=>q) ⟨rfl,rfl⟩) λc m=>?_)
  ·rintro⟨rfl,rfl⟩;refine wpS_bind (wpS_get ?_);rw[ag (by rw[d.2.2.1];exact ax _)];exact wpS_pure ⟨rfl,rfl⟩
  ·rintro⟨rfl,rfl⟩;exact wpS_pure (h _ d.1 d.2.1 d.2.2.2)
def lu(h:Heap)(a:Addr)(b:Lw):Heap:=((h.update a (Obj.mapSeq λ_=>#[])).push (seqObj "tuple" b.toArray 0)).push (seqObj "list" #[] 0)
def N5{b:Lw}{n:Nat}{P:Fin->Shared->Prop} (g:s.heap.get? a=Y (seqObj "list" b.toArray n)) (G:b.length<64) (D:KeysOf κ (PyProof.Rows.pairsOf b))
  (m:2<=b.length->∀R:SortKind->Shared->Prop,R kd { s with heap:=lu s.heap a b }->wpAny (model prog w) A (keyKind' b.toArray) R E { s with heap:=lu s.heap a b })
  (C:pM prog w A { s with heap:=lu s.heap a b } kd κ)
  (h:∀t:Array Keyed,t.Perm (PyProof.Rows.pairsOf b)->SortedToK κ t b.length->P (.done (.ret .none)) { s with heap:=sortedHeap s.heap a b (t.map (·.2)) }):wpAny (model prog w) A (Builtin.«list.sort» ⟨[.ref a],[]⟩) P E s:=by
 have x:=aq g;have o:=pairsOf_size b;obtain⟨c,v⟩:∃c,(s.heap.update a (Obj.mapSeq λ_=>#[])).get? a=Y (seqObj "list" #[] c):=⟨_,get?_update_seq g λ_=>#[]⟩
 have k:(lu s.heap a b).get? a=Y (seqObj "list" #[] c):=by
  unfold lu;have B:a≠(s.heap.update a (Obj.mapSeq λ_=>#[])).objs.size:=by rw[Heap.size_update];exact aG x
  have y:a≠((s.heap.update a (Obj.mapSeq λ_=>#[])).push (seqObj "tuple" b.toArray 0)).objs.size:=by rw[size_push',Heap.size_update];exact aG (Nat.lt_succ_of_lt x)
  rw[Heap.get?_push_ne _ _ _ y,Heap.get?_push_ne _ _ _ B];exact v
 have d:∀t:Array Keyed,t.Perm (PyProof.Rows.pairsOf b)->(t.map (·.2)).size<=sizeLine+1:=λt q=>by have:=q.size_eq;rw[Array.size_map,this,o,sizeLine_eq];omega
 rw[list_sort_plain];refine ab (listItems_at g rfl (ab (listUpdate_at g rfl (ab (seqEpoch_at v rfl (ab (wpAny_newTuple (ab (wpAny_newList (bp ?_)))))) ))));show wpAny (model prog w) A _ P E { s with heap:=lu s.heap a b };dsimp only;by_cases q:b.length<2
 ·have f:b.toArray.size<2:=by simpa using q
  rw[ag f,ag f];refine ab (ak ?_);rw[StateT.run_pure];refine ab (ak (ab (seqEpoch_at k rfl (ab (listUpdate_at k rfl ?_ (hsz2:=d _ (Array.Perm.refl _)))))));simp only[bne_self_eq_false,bG,cT];exact ak (h _ (Array.Perm.refl _) λi j F L=>by rw[show i=j by omega];exact KeyOrd.kle_refl _)
 ·have f:¬ b.toArray.size<2:=by simpa using q
  rw[ai f,ai f];refine ab (m (by omega) _ ?_);refine ab (bK (Q0 (z:=PyProof.Rows.pairsOf b) (st:=SortSt.mk' kd (b.toArray.zip b.toArray) #[] 7 Z) (P:=λ_ t=>(arrOf t).Perm (PyProof.Rows.pairsOf b)/\failedOf t=Z/\Up κ t (PyProof.Rows.pairsOf b).size)
   C D ⟨Array.Perm.refl _,rfl,rfl,rfl⟩ (by omega) (by omega) λt J I H=>⟨J,I,H⟩) (λr K=>?_) λ_ _ e=>e)
  obtain⟨⟨⟩,t⟩:=r;rintro⟨rfl,l,u,p⟩;dsimp only at l u p ⊢;refine ab (seqEpoch_at k rfl (ab (listUpdate_at k rfl ?_ (hsz2:=d _ l))));rw[u];simp only[bne_self_eq_false,bG,cT];exact ak (h _ l (o▸p))
end
def HR(x y:Value):keyLt' (tuples' true) x y=(do
  let b <-Builtin.List.listItems x;let a <-Builtin.List.listItems y
  for ((p,q),i) in (b.toList.zip a.toList).zipIdx do
   if !(<-eqBool p q) then return <-oneLt' (true&&i==0) p q
  return b.size<a.size):=rfl
abbrev prO(x:Str)(t:Tok)(y:Value):Obj:={ cls:=.type "tuple",data:=.seq #[.str x t,y] }
def jx(h:Heap)(v:Value)(x:Str)(y:Value):Prop:=∃a t,v=.ref a/\h.get? a=Y (prO x t y)
section
def HS{c:Str}{y d v f:Value}{P:Bool->Shared->Prop}(p:jx s.heap v x y)(i:jx s.heap f c d)(j:x=c->y=d)(q:P (decide (x.cps.toList<c.cps.toList)) s):wpAny (model prog w) A (keyLt' (tuples' true) v f) P E s:=by
 obtain⟨a,t,rfl,l⟩:=p;obtain⟨b,g,rfl,k⟩:=i;rw[HR];refine ab (listItems_at l rfl (ab (listItems_at k rfl ?_)));show wpAny _ A (forIn [((Value.str x t,Value.str c g),0),((y,d),1)] _ _>>=_) _ _ _;simp only[cY,dg,bind_assoc];have m:SeqAt.EqAt A s (.str x t) (.str c g) (eA.eqv (.str x) (.str c)):=W.keq_flat (.str _ _) (.str _ _);refine ab (m _ _ _ _ ?_);by_cases h:x=c
 ·have e:eA.eqv (.str x) (.str c)=true:=by rw[h];simp[eA.eqv]
  rw[e];obtain rfl:=j h;subst h;simp only[Bool.not_true,bG,cT,pure_bind];refine ab (ab (SeqAt.EqAt.same _ _ _ _ _ ?_));simp only[Bool.not_true,bG,cT,pure_bind];refine ak ?_;have z:decide (x.cps.toList<x.cps.toList)=false:=ba (List.lt_irrefl _);rw[z] at q;exact ak q
 ·have e:eA.eqv (.str x) (.str c)=false:=by simp[eA.eqv,h]
  rw[e];simp only[Bool.not_false,cx,bind_assoc];refine ab (oneLt_str ?_);simp only[pure_bind];exact ak q
def vH(v:Value):firstOfTuple' v=(do
  if (<-typeOf v) != .type "tuple" then return Z
  return (<-Builtin.List.listItems v)[0]?):=rfl
def HU{v y:Value}{P:Ow->Shared->Prop}(p:jx s.heap v x y)(h:∀t,P (Y (.str x t)) s):wpAny (model prog w) A (firstOfTuple' v) P E s:=by
 obtain⟨a,t,rfl,b⟩:=p;rw[vH];refine ab (ck (T:="tuple") ⟨_,b,rfl⟩ ?_);have c:(Value.type "tuple" != Value.type "tuple")=false:=by rfl
 rw[ai (by rw[c];exact aC)];exact ab (listItems_at b rfl (ak (h t)))
inductive Eh (h:Heap):Lw->List (Str×Value)->Prop
 |nil:Eh h [] []
 |cons {v:Value}{p:Str×Value}{vs:Lw}{ps:List (Str×Value)}:jx h v p.1 p.2->Eh h vs ps->Eh h (v::vs) (p::ps)
theorem wI:∀{c:Lw}{b:List (Str×Value)}{P:List Ow->Shared->Prop},Eh s.heap c b->(∀a:List (Str×Tok),a.length=b.length->P (a.map λp=>Y (.str p.1 p.2)) s)->wpAny (model prog w) A (c.mapM firstOfTuple') P E s
 |_,[],P,.nil,h=>by rw[List.mapM_nil];exact ak (h [] rfl)
 |_,p::b,P,.cons r1 r2,h=>by rw[List.mapM_cons];refine ab (HU r1 λt=>ab (wI r2 λa hl=>ak ?_));exact h ((p.1,t)::a) (by simp[hl])
theorem y9:∀a:List (Str×Tok),(a.map λp=>Value.str p.1 p.2).mapM typeOf=(pure (a.map λ_=>Value.type "str"):Sem Lw)
 |[]=>by simp
 |x::a=>by rw[aB,List.mapM_cons,y9 a];show (pure (Value.type "str")>>=λb=>pure _>>=λc=>pure (b::c))=_;simp
def K9{a:Lw}{b:List (Str×Value)}{P:SortKind->Shared->Prop}(r:Eh s.heap a b)(i:1<=b.length)(h:P (tuples' true) s):wpAny (model prog w) A (keyKind' a.toArray) P E s:=by
 rw[keyKind'_eq,List.mapM_toArray];refine ab ?_;rw[map_eq_pure_bind];refine ab (wI r λxs c=>ak ?_);have g:((xs.map λp=>Y (Value.str p.1 p.2)).toArray.all λx=>x.isSome)=true:=by simp
 rw[ag g];refine ab (dz (ab ?_));have f:((xs.map λp=>Y (Value.str p.1 p.2)).toArray.filterMap id)=(xs.map λp=>Value.str p.1 p.2).toArray:=by
  rw[List.filterMap_toArray]
  congr 1
  rw[List.filterMap_map];simp[Function.comp_def]
 rw[f,oneTypeOnly'_eq,List.mapM_toArray,y9];simp only[map_pure,pure_bind];cases xs with
 |nil=>simp at c;omega
 |cons x xs=>
  have e:((List.map (λ_=>Value.type "str") (x::xs)).toArray)[0]?=Y (Value.type "str"):=by simp
  rw[e];have d:((List.map (λ_=>Value.type "str") (x::xs)).toArray.all λt=>t==Value.type "str")=true:=by simp only[List.all_toArray,List.all_map,bJ];intro _ _;rfl
  simp only[d,cx];exact ak (ak h)
def uf{β:Type}{f:α->β}{l k:List β}(h:l.Perm k):∀{m:List α},m.map f=k->∃g:List α,g.Perm m/\g.map f=l:=by
 induction h with
 |nil=>intro m e;exact⟨[],by cases m<;>simp_all,rfl⟩
 |@cons x z w p s=>
  intro m e;cases m with
  |nil=>cases e
  |cons a m=>
   rw[aB] at e;injection e with d c
   obtain⟨g,q,u⟩:=s c;exact⟨a::g,q.cons a,by rw[aB,u,d]⟩
 |swap x y l=>
  intro m e
  match m,e with
  |a::b::m,e=>
   simp only[aB] at e;injection e with d c
   injection c with c t;exact⟨b::a::m,.swap a b m,by simp[d,c,t]⟩
 |trans _ _ j i=>intro m e;obtain⟨v,o,d⟩:=i e;obtain⟨r,n,c⟩:=j d;exact⟨r,n.trans o,c⟩
def Fq{b:Addr}{d:Lw}(g:b≠a)(c:b<h.objs.size):(lu h a d).get? b=h.get? b:=by
 unfold lu;have f:b≠(h.update a (Obj.mapSeq λ_=>#[])).objs.size:=by rw[Heap.size_update];exact aG c
 have e:b≠((h.update a (Obj.mapSeq λ_=>#[])).push (seqObj "tuple" d.toArray 0)).objs.size:=by rw[size_push',Heap.size_update];exact aG (Nat.lt_succ_of_lt c)
 rw[Heap.get?_push_ne _ _ _ e,Heap.get?_push_ne _ _ _ f];exact bg _ _ (Ne.symm g)
def jx.one{h:Heap}{v y d:Value}{x f:Str}(p:jx h v x y)(g:jx h v f d):x=f/\y=d:=by
 obtain⟨a,t,rfl,e⟩:=p;obtain⟨b,t',i,c⟩:=g;cases i;rw[e] at c;injection c with c
 injection c with _ _ c _;injection c with c;have:=bx Array.toList c;simp at this;exact⟨this.1.1,this.2⟩
open Classical in
noncomputable def pb(h:Heap)(a:List Value):PyProof.Rows.KeyKind where
 toKeyOrd:=strKind.toKeyOrd
 keyOf u:=if e:u∈a/\∃p:Str×Value,jx h u p.1 p.2 then some (Classical.choose e.2).1.cps.toList else none
 dflt:=[]
def VW{a:Lw}{u y:Value}(b:u∈a)(p:jx h u x y):(pb h a).keyOf u=Y x.cps.toList:=by
 have e:u∈a/\∃p:Str×Value,jx h u p.1 p.2:=⟨b,(x,y),p⟩
 unfold pb;dsimp only;rw[dif_pos e];rw[((Classical.choose_spec e.2).one p).1]
def Fs{b:Lw}{u:Value}{a:List Nat}(e:(pb h b).keyOf u=Y a):u∈b/\∃x y,jx h u x y/\a=x.cps.toList:=by
 unfold pb at e;dsimp only at e;split at e
 ·rename_i q;cases e;exact⟨q.1,_,_,Classical.choose_spec q.2,rfl⟩
 ·cases e
theorem Eh.mem{h:Heap}:∀{a:Lw}{b:List (Str×Value)},Eh h a b->∀q∈a.zip b,jx h q.1 q.2.1 q.2.2
 |_,_,.nil,q,hq=>by simp at hq
 |_,_,.cons r1 r2,q,hq=>by
  rw[List.zip_cons_cons] at hq;rcases av.mp hq with rfl|hq
  ·exact r1
  ·exact r2.mem q hq
theorem Eh.len{h:Heap}:∀{a:Lw}{b:List (Str×Value)},Eh h a b->a.length=b.length
 |_,_,.nil=>rfl
 |_,_,.cons _ r2=>by simp[r2.len]
theorem Eh.imp{h c:Heap}(k:∀v x y,jx h v x y->jx c v x y):∀{a:Lw}{b:List (Str×Value)},Eh h a b->Eh c a b
 |_,_,.nil=>.nil
 |_,_,.cons r1 r2=>.cons (k _ _ _ r1) (r2.imp k)
theorem Eh.key{h:Heap}:∀{a:Lw}{b:List (Str×Value)},Eh h a b->∀v∈a,∃p∈b,jx h v p.1 p.2
 |_,_,.nil,v,hv=>by simp at hv
 |_,_,.cons r1 r2,v,hv=>by
  rcases av.mp hv with rfl|hv
  ·exact⟨_,by simp,r1⟩
  ·obtain⟨p,c,q⟩:=r2.key v hv;exact⟨p,by simp[c],q⟩
def La{b:List (Str×Value)}(c:(b.map (·.1)).Nodup):∀{p q:Str×Value},p∈b->q∈b->p.1=q.1->p=q:=by
 induction b with
 |nil=>intro p q d;simp at d
 |cons a b i=>
  intro p q d j e;rw[aB,br] at c;rcases av.mp d with h|h1<;>rcases av.mp j with g|f
  ·rw[h,g]
  ·exact absurd (aU.mpr ⟨q,f,by rw[<-e,h]⟩) c.1
  ·exact absurd (aU.mpr ⟨p,h1,by rw[e,g]⟩) c.1
  ·exact i c.2 h1 f e
def ug(b:Lw):(PyProof.Rows.pairsOf b).toList=b.map λv=>(v,v):=by
 unfold PyProof.Rows.pairsOf;simp;induction b with
 |nil=>rfl
 |cons a b c=>simpa using c
def HV{c:Lw}{o:List (Str×Value)}{n:Nat}{P:Fin->Shared->Prop} (O:s.heap.get? a=Y (seqObj "list" c.toArray n)) (I:c.length<64) (C:Eh s.heap c o) (nd:(o.map (·.1)).Nodup)
  (h:∀m:List (Value×Str×Value),m.Perm (c.zip o)->(m.map (·.2.1)).Pairwise (λx y=>¬ y.cps.toList<x.cps.toList)->P (.done (.ret .none)) { s with heap:=sortedHeap s.heap a c (m.map (·.1)).toArray }):wpAny (model prog w) A (Builtin.«list.sort» ⟨[.ref a],[]⟩) P E s:=by
 have kp:∀v x y,jx s.heap v x y->jx (lu s.heap a c) v x y:=λv x y ⟨b,t,e,f⟩=>⟨b,t,e,(Fq (λz=>by
  rw[z,O] at f;injection f with f
  injection f with f;injection f with f;exact absurd f (by decide)) (aq f)).trans f⟩
 have d:=C.imp kp;refine N5 (κ:=pb (lu s.heap a c) c) (kd:=tuples' true) O I ?_ (λh2 R r=>K9 d (by rw[<-C.len];omega) r) ?_ λt pt W=>?_
 ·intro p N;rw[ug] at N;obtain⟨v,B,rfl⟩:=aU.mp N;obtain⟨q,_,r⟩:=d.key v B;exact⟨_,VW B r⟩
 ·intro F u v ka kb P' e1 e2 q;obtain⟨m1,x,y,L,rfl⟩:=Fs e1;obtain⟨m2,x',y',K,rfl⟩:=Fs e2;refine HS L K (λz=>?_) q;obtain⟨q1,V,r1⟩:=d.key u m1;obtain⟨q2,U,X⟩:=d.key v m2;obtain⟨c1,c2⟩:=L.one r1;obtain⟨d1,d2⟩:=K.one X;have:=La nd V U (by rw[<-c1,<-d1,z]);rw[c2,d2,this]
 ·have J:=Array.perm_iff_toList_perm.mp pt;rw[ug] at J;have ez:(c.zip o).map (λq=>((q.1,q.1):Value×Value))=c.map λv=>(v,v):=by
   rw[show (λq:Value×Str×Value=>((q.1,q.1):Value×Value))=(λv:Value=>(v,v))∘Prod.fst from rfl,<-bT,List.map_fst_zip (by rw[C.len];exact ax _)]
  obtain⟨m,D,T⟩:=uf J ez;have out:t.map (·.2)=(m.map (·.1)).toArray:=by apply b9.mp;rw[Array.toList_map,<-T,bT];rfl
  rw[out];refine h m D ?_;have lm:m.length=c.length:=by rw[D.length_eq,List.length_zip,C.len,Nat.min_self]
  rw[List.pairwise_iff_getElem];intro i j S Q H;rw[aF] at S Q;have g:∀(k:Nat) (G:k<m.length),KK (pb (lu s.heap a c) c) t k=m[k].2.1.cps.toList:=λk G=>by
   have ek:t[k]?=Y (m[k].1,m[k].1):=by rw[<-Array.getElem?_toList,<-T,az,aL G];rfl
   have M:=D.mem_iff.mp (List.getElem_mem G);have B:m[k].1∈c:=(cX M).1;unfold KK;rw[ek];dsimp only;rw[VW B (d.mem _ M)];rfl
  have l:=W i j (cM H) (by omega);rw[g i S,g j Q] at l;simp only[List.getElem_map];have:decide (m[j].2.1.cps.toList<m[i].2.1.cps.toList)=false:=l;exact of_decide_eq_false this
end
section
def Tj{C:Addr}{d:List (Key×Value)}{n:List Addr}:∀{f:List (Str×Value)},d=f.map (λp=>(Sum.inr p.1,p.2))->n.length=d.length->W.KdxG (fD prog w) d C h n->Eh h (n.map Value.ref) f:=by
 intro f e F g;have o:∀(l:List Addr) (c:List (Str×Value)),l.length=c.length->(∀(j:Nat) (a:Addr) (p:Str×Value),l[j]?=Y a->c[j]?=Y p->jx h (.ref a) p.1 p.2)->Eh h (l.map Value.ref) c:=by
  intro l;induction l with
  |nil=>intro c m _;cases c with|nil=>exact .nil|cons _ _=>simp at m
  |cons a l E=>
   intro c m v;cases c with
   |nil=>simp at m
   |cons q c=>exact .cons (v 0 a q rfl rfl) (E c (by simpa using m) λj b p s r=>v (j+1) b p (by simpa using s) (by simpa using r))
 refine o n f (by rw[F,e,aF]) λj a p s r=>?_;obtain⟨D,k,x,u,B,A⟩:=g.pairs j a s;rw[e,az,r] at u;cases u;rcases g9 (show yh (Sum.inr p.1) D=true from B) with ⟨i,t,z,rfl⟩ | ⟨y,t,z,rfl⟩
 ·cases z
 ·cases z;exact⟨a,t,rfl,A⟩
def Dp{v d:Addr}{ps:List (Str×Value)}{ep:Nat}{Q:Px} (X:A.handled=Z) (N:s.heap.IsItemsView v d) (S:(zB s)<=v+1) (V:s.heap.DictAt (fD prog w) d (ps.map λp=>(Sum.inr p.1,p.2)) ep) (G:ps.length<64) (R:(ps.map (·.1)).Nodup)
  (h:∀(B:Addr) (h':Heap) (tk c:Nat) (m:List (Value×Str×Value)),(zB s)<=B->(∀b o,s.heap.get? b=Y o->h'.get? b=Y o)->(m.map (·.2)).Perm ps->(m.map (·.2.1)).Pairwise (λx y=>¬ y.cps.toList<x.cps.toList) ->
   (∀q∈m,jx h' q.1 q.2.1 q.2.2/\∃a,q.1=.ref a/\(zB s)<=a/\a≠B)->(m.map (·.1)).Nodup->h'.get? B=Y (seqObj "list" (m.map (·.1)).toArray c)->Q (.ref B) { s with heap:=h',toks:=tk }):
  wpAny (model prog w) A (call (.builtin "sorted") [.ref v]) Q E s:=by
 refine Calls.call_function_entry kind_sorted plain_sorted entry_sorted (args_sorted1 _) ?_;unfold Builtin.«sorted»;refine ab (m:=checkCount "sorted" 1 1 _) (ak ?_);refine ab (W.kdx_collect (A:=A.in1) X N V (by rw[aF,show sizeLine=16777216 from by decide];omega) λg tk f L O n=>?_);have i:f.length=ps.length:=by rw[O,aF]
 have J:=Tj rfl O n;refine ab (wpAny_newList ?_ (by rw[aF,i,show sizeLine=16777216 from by decide];omega));have j:(g.push (seqObj "list" (f.map Value.ref).toArray 0)).get? g.objs.size=Y (seqObj "list" (f.map Value.ref).toArray 0):=aA _ rfl;have M:∀b o,g.get? b=Y o->(g.push (seqObj "list" (f.map Value.ref).toArray 0)).get? b=Y o:=λb o e=>aj _ e;have u:Eh (g.push (seqObj "list" (f.map Value.ref).toArray 0)) (f.map Value.ref) ps:=J.imp λv x y ⟨a,t,e,q⟩=>⟨a,t,e,M _ _ q⟩
 refine ab (bp (cP slot_list_sort ⟨_,j,rfl⟩ entry_list_sort (HV j (by rw[aF,i];exact G) u R λm C r=>⟨_,rfl,ak ⟨_,rfl,?_⟩⟩) (args_list_sort _)));obtain⟨c,I⟩:=sortedHeap_at (out:=(m.map (·.1)).toArray) j;have k:∀b o,g.get? b=Y o->(sortedHeap (g.push (seqObj "list" (f.map Value.ref).toArray 0)) g.objs.size (f.map Value.ref) (m.map (·.1)).toArray).get? b=Y o:=λb o e=>by have l:=aq e;rw[sortedHeap_old (aG l) (by rw[size_push'];exact Nat.lt_succ_of_lt l)];exact M b o e
 have f1:(m.map (·.1)).Perm (f.map Value.ref):=by have:=C.map Prod.fst;rwa[List.map_fst_zip (by rw[aF,i];exact ax _)] at this
 have f2:(m.map (·.2)).Perm ps:=by have:=C.map Prod.snd;rwa[List.map_snd_zip (by rw[aF,i];exact ax _)] at this
 have F:v<g.objs.size:=by obtain⟨o,U,_⟩:=id N;exact aq (L _ _ U)
 refine h g.objs.size _ tk c m (bj S F) (λb o e=>k b o (L b o e)) f2 r (λq T=>?_) ?_ I
 ·have K:=C.mem_iff.mp T;obtain⟨a,t,H,e2⟩:=J.mem q K;have P:q.1∈f.map Value.ref:=(cX K).1;rw[H] at P;obtain⟨b,l,eb⟩:=aU.mp P;cases eb;exact⟨⟨a,t,H,k a _ e2⟩,a,H,cM (n.above a l),aG (n.there l)⟩
 ·refine f1.nodup_iff.mpr ?_;have D:f.Nodup:=n.rise.imp λh z=>by rw[z] at h;exact aW _ h
  exact List.pairwise_map.mpr (D.imp λh z=>h (by injection z))
end
def HW(x:Str×eA):List (Str×eA)->List (Str×eA)
 |[]=>[x]
 |y::l=>if y.1.cps.toList<x.1.cps.toList then y::HW x l else x::y::l
def za:List (Str×eA)->List (Str×eA)
 |[]=>[]
 |x::l=>HW x (za l)
def wJ:List (eA×eA)->Option (List (Str×eA))
 |[]=>Y []
 | (.str k,d)::r=>(wJ r).map ((k,d)::·)
 |_=>Z
def vI:eA->Od
 |.dict kvs=>(wJ kvs).bind λl=>if (l.map (·.1)).Nodup/\l.length<64 then Y (.list ((za l).map λx=>.tuple [.str x.1,x.2])) else Z
 |_=>Z
theorem vJ(x:Str×eA):∀l,(HW x l).Perm (x::l)
 |[]=>.refl _
 |y::l=>by
  unfold HW;split
  ·exact((vJ x l).cons y).trans (.swap x y l)
  ·exact .refl _
theorem sI:∀l,(za l).Perm l
 |[]=>.refl _
 |x::l=>(vJ x (za l)).trans ((sI l).cons x)
abbrev VX(x y:Str×eA):Prop:=¬ y.1.cps.toList<x.1.cps.toList
theorem wK(x:Str×eA):∀{l:List (Str×eA)},l.Pairwise VX->(HW x l).Pairwise VX
 |[],_=>by unfold HW;exact List.pairwise_singleton _ _
 |y::l,h=>by
  have b:=List.pairwise_cons.mp h;unfold HW;split
  ·rename_i c;refine List.pairwise_cons.mpr ⟨λz a=>?_,wK x b.2⟩;rcases av.mp ((vJ x l).mem_iff.mp a) with e|e
   ·rw[e];exact λq=>List.lt_irrefl _ (List.lt_trans c q)
   ·exact b.1 z e
  ·rename_i c;refine List.pairwise_cons.mpr ⟨λz a=>?_,h⟩;rcases av.mp a with e|e
   ·rw[e];exact c
   ·exact λq=>c (List.lt_of_le_of_lt (List.not_lt.mp (b.1 z e)) q)
theorem uh:∀l,(za l).Pairwise VX
 |[]=>.nil
 |x::l=>wK x (uh l)
def N6{l m:List (Str×eA)}(d:(l.map (·.1)).Nodup)(p:m.Perm l)(h:m.Pairwise VX):m=za l:=by
 refine List.Perm.eq_of_pairwise (le:=VX) ?_ h (uh l) (p.trans (sI l).symm);intro a b i g k j;have e:a.1=b.1:=Str.ext' (b9.mp (List.le_antisymm (List.not_lt.mp k) (List.not_lt.mp j)));have f:=p.mem_iff.mp i;have o:=(sI l).mem_iff.mp g;clear k j i g h p;induction l with
 |nil=>simp at f
 |cons c l n=>
  rw[aB,br] at d;rcases av.mp f with e1|e1<;>rcases av.mp o with e2|e2
  ·rw[e1,e2]
  ·exact absurd (aU.mpr ⟨b,e2,by rw[<-e,e1]⟩) d.1
  ·exact absurd (aU.mpr ⟨a,e1,by rw[e,e2]⟩) d.1
  ·exact n d.2 e1 e2
section
variable {o:Expr}{f:ee->Od}{fJ:Pos}
theorem Ft{K:Fg}{H:Hp}:∀{b:List (eA×eA)}{l:List (Str×eA)}{c:List (Key×V)},wJ b=Y l->fZ K H b c->∃a:List (Str×V),c=a.map (λx=>(Sum.inr x.1,x.2))/\a.map (·.1)=l.map (·.1)/\dn K H (l.map (·.2)) (a.map (·.2))
 |[],l,c,e,h=>by cases e;unfold fZ at h;exact⟨[],by simpa using h,rfl,dn.nil⟩
 | (k,d)::r,l,c,e,h=>by
  unfold fZ at h;obtain⟨y,v,p,rfl,f,i,g⟩:=h;cases k with
  |str x=>
   unfold wJ at e;obtain⟨q,o,rfl⟩:=aa.mp e;obtain⟨a,rfl,n,m⟩:=Ft o g;have j:y=.inr x:=by
    cases y with
    |inl i=>cases f
    |inr z=>cases f;rfl
   subst j;exact⟨(x,v)::a,rfl,by simp[n],dn.cons i m⟩
  |_=>unfold wJ at e;cases e
theorem VY{K:Fg}{H:Hp}:∀{a:List (Str×V)}{b:List (Key×Value)}{l:List (Str×eA)},KV (a.map (λx=>((Sum.inr x.1:Key),x.2))) b->a.map (·.1)=l.map (·.1)->dn K H (l.map (·.2)) (a.map (·.2)) ->
  ∃L:List (Str×Value×V×eA),b=L.map (λt=>(Sum.inr t.1,t.2.1))/\l=L.map (λt=>(t.1,t.2.2.2))/\∀t∈L,fT t.2.2.1 t.2.1/\eI K H t.2.2.2 t.2.2.1
 |[],b,l,h,e,i=>by
  cases h;cases l with
  |nil=>exact⟨[],rfl,rfl,by simp⟩
  |cons _ _=>simp at e
 |w::a,b,l,h,e,i=>by
  cases l with
  |nil=>simp at e
  |cons x l=>
   simp only[aB,List.cons.injEq] at e;rw[aB] at h;cases h with
   |@cons p q D C g n=>
    rw[aB,aB] at i;obtain⟨v,r,z,s,o⟩:=dn.eE.mp i;injection z with f d
    subst f d;obtain⟨L,rfl,rfl,B⟩:=VY n e.2 o;obtain⟨k,y⟩:=q;have A:k=Sum.inr w.1:=g.1.symm;subst A;obtain⟨j,m⟩:=x;have u:w.1=j:=e.1;refine⟨(w.1,y,w.2,m)::L,rfl,by rw[aB,u],λt c=>?_⟩;rcases av.mp c with rfl|c
    ·exact⟨g.2,s⟩
    ·exact B t c
def HX{l:List (Str×eA)}(e:wJ kvs=Y l):iq kvs=false:=by
 cases kvs with
 |nil=>rfl
 |cons q r=>
  obtain⟨k,d⟩:=q;cases k with
  |str x=>rfl
  |_=>unfold wJ at e;cases e
def N7(hc:X.calm=true) (hgs:Gl X "sorted") (hms:X.mg "sorted"=Z) (ho:PD X o f) (W:attributeBase o "items" X.env (eval o X.env)=eval o X.env:=by rfl) (U:(apos.endLine==fJ.line)=true:=by rfl)
  (s1:starEach [.Call (.Attribute o "items" apos) [] [] fJ] X.env=[(false,eval (.Call (.Attribute o "items" apos) [] [] fJ) X.env)]:=by rfl):PE X (.Call (.Name "sorted" p) [.Call (.Attribute o "items" apos) [] [] fJ] [] pos) (λσ H Q=>∃ρ d,ju X.K H σ ρ/\(f ρ).bind vI=Y d/\∀(y:Hp) (B:Addr) (L:List (Addr×Lp×List V)),eN H y->H B=Z->y B=Z->d=.list (L.map λt=>.tuple t.2.1)->(∀t∈L,H t.1=Z/\y t.1=Y (.tup t.2.2)/\dn X.K y t.2.1 t.2.2)->Q (.ref B) (upd y B (.lst (L.map λt=>.ref t.1)))):=by
 intro n s σ H Q I ⟨ρ,d,hs,e,k⟩;obtain⟨x,e1,q1⟩:=bind_some e;obtain⟨G,rfl⟩:∃G,x=.dict G:=by cases x<;>first|exact⟨_,rfl⟩|cases q1
 obtain⟨l,e2,q2⟩:=bind_some (show (wJ G).bind _=Y d from q1);have N:(l.map (·.1)).Nodup/\l.length<64:=by
  by_cases N:(l.map (·.1)).Nodup/\l.length<64
  ·exact N
  ·rw[ai N] at q2;cases q2
 rw[ag N] at q2;cases q2;refine aX (nv I hgs hms (by rfl) ?_);refine cz ?_ (by rw[s1];rfl) (by rfl);rw[s1];refine aT ?_;refine cH (T:="dict") (id:="dict.items") W rfl U bX PySem.F.slot_dict_items PySem.F.type_dict_items (gO (@ho n s σ H (λv H1=>eN H H1/\eI X.K H1 (.dict G) v) I ⟨ρ,_,hs,e1,λv H1 sH i=>⟨sH,i⟩⟩) ?_);rintro u J ⟨v,H1,O,r1,VI,i1⟩;obtain⟨a,kv,rfl,rd,ik⟩:=i1.nE (HX e2);cases r1;obtain⟨z,hS,vs,rel,dd⟩:=rO O.ij rd;obtain⟨ws,rfl,ew,iw⟩:=Ft e2 ik;refine⟨dd.typeIs,dd.mapOf.noDict,?_⟩;show wpAny _ _ (callWith fJ (.builtin "dict.items") [.ref a] [] []) _ _ J;refine method_meetsIn PySem.F.slot_dict_items PySem.F.entry_dict_items rfl (PySem.evalArgs_none ⟨rfl,dd.typeIs,PySem.F.args_dict_items_1 _,_,meets_dict_items (fD X.prog X.w) a hS,⟨vs,dd⟩,?_⟩);obtain⟨ep,Xn⟩:=dd.dictAt;obtain⟨L,rfl,rfl,hL⟩:=VY rel ew iw;refine bu ?_;refine Dp (v:=(zB J)) (d:=a) (ps:=L.map λt=>(t.1,t.2.1)) (ep:=ep) (O.ok.hd hc) ⟨_,aA _ rfl,rfl,rfl⟩ (by show (J.heap.push _).objs.size<=_;rw[cy];exact ax _) (by rw[bT];exact Xn.push _) (by simpa using N.2) (by simpa [bT,Function.comp_def] using N.1) λB h' tk c m hB kp pm pw P nd' atB=>?_;have S:(zB J)<=(J.heap.push { cls:=.type "dict_items",data:=.fields #[.ref a] }).objs.size:=by rw[cy];exact dQ _
 have YP:(zB J)<=B:=bj S hB;obtain⟨L',pL,eL⟩:=uf pm (m:=L) (f:=λt=>(t.1,t.2.1)) rfl;have I3:eX X n σ H1 { J with heap:=h',toks:=tk }:=O.kept (t':=tk) λb o e=>kp b o (aj _ e);have A:∀b,(zB J)<=b->mv X n H1 b:=λb hb=>O.ym hb (O.ij.fresh hb);have ll:m.length=L'.length:=by have:=bx List.length eL;simpa using this.symm
 have atm:∀(j:Nat) (t:Str×Value×V×eA),L'[j]?=Y t->∃q,m[j]?=Y q/\q.2=(t.1,t.2.1):=λj t e=>by have:=bx (·[j]?) eL;simp only[az,e,dF] at this;obtain⟨q,h1,h2⟩:=aa.mp this.symm;exact⟨q,h1,h2⟩
 obtain⟨y,rs,sH3,I4,E,Eg,YH⟩:=C3 (L'.map λt=>(kV (Sum.inr t.1),t.2.2.1)) (m.map (·.1)) I3 (by simp[ll]) λj v q g1 g2=>by rw[az] at g1 g2;obtain⟨t,ht,rfl⟩:=aa.mp g2;obtain⟨mq,hm,rfl⟩:=aa.mp g1;obtain⟨mq',hm',e2'⟩:=atm j t ht;rw[hm] at hm';cases hm';obtain⟨⟨T,tt,eT,gT⟩,T',h,lT,_⟩:=P mq (cK hm);rw[eT] at h;cases h;rw[e2'] at gT;exact⟨T,.str t.1 tt,t.2.1,eT,gT,⟨tt,rfl⟩,(hL t (pL.mem_iff.mp (cK ht))).1,.inl (A T (bj S lT))⟩
 have D:y B=Z:=by
  rcases Eg B (O.ij.fresh YP) with g|g
  ·exact g
  ·obtain⟨q,hq,eq⟩:=aU.mp g;obtain⟨_,T',h,_,nT⟩:=P q hq;rw[eq] at h;cases h;exact absurd rfl nT
 have fS:mv X n y B:=⟨D,(A B YP).2⟩
 have rl:rs.length<=sizeLine:=by rw[E.length,aF,ll,pL.length_eq,show sizeLine=16777216 from by decide];have:=N.2;rw[aF] at this;omega
 have I5:=I4.Nz fS (u:=.lst rs) ⟨rl,m.map (·.1),c,E,atB⟩;refine⟨.ref B,_,I5,rfl,?_⟩;have es:za (L.map λt=>(t.1,t.2.2.2))=L'.map λt=>(t.1,t.2.2.2):=by
  refine(N6 N.1 (pL.map _) ?_).symm;rw[List.pairwise_map];have:(m.map (·.2.1))=L'.map (·.1):=by have:=bx (List.map Prod.fst) eL;rw[bT,bT] at this;exact this.symm
  rw[this,List.pairwise_map] at pw;exact pw
 rw[es] at k;have C:∀b,H1 b=Z->H b=Z:=λb hb=>by
  cases q:H b with
  |none=>rfl
  |some u=>have:=VI _ _ q;rw[hb] at this;cases this
 have lay:∀(l:List (Str×Value×V×eA)) (M:List (Value×Str×Value)) (rr:List V),rr.length=l.length->M.length=l.length->fO rr (M.map (·.1))->(∀q∈M,∃a,q.1=.ref a/\H1 a=Z)->(∀t∈l,eI X.K H1 t.2.2.2 t.2.2.1)->(∀(j:Nat) (t:Str×Value×V×eA),l[j]?=Y t->∃T,rr[j]?=Y (.ref T)/\y T=Y (.tup [kV (Sum.inr t.1),t.2.2.1])) ->
   ∃L:List (Addr×Lp×List V),rr=L.map (λt=>.ref t.1)/\(l.map λt=>eA.tuple [.str t.1,t.2.2.2])=L.map (λt=>.tuple t.2.1)/\∀t∈L,H1 t.1=Z/\y t.1=Y (.tup t.2.2)/\dn X.K y t.2.1 t.2.2:=by
  intro l;induction l with
  |nil=>
   intro M rr hr _ _ _ _ _;have:rr=[]:=by simpa using hr
   subst this;exact⟨[],rfl,rfl,by simp⟩
  |cons t l ih=>
   intro M rr hr hm2 vv hq hd ha;cases rr with
   |nil=>simp at hr
   |cons r rr=>
    cases M with
    |nil=>simp at hm2
    |cons q M=>
     obtain⟨T,t1',YI⟩:=ha 0 t rfl;have er:r=.ref T:=by simpa using t1'
     subst er;cases vv with
     |cons v1 v2=>
      obtain⟨a',ea,na⟩:=hq q (by simp);have eT:T=a':=by
       have v1':q.1=Value.ref T:=v1;rw[ea] at v1';injection v1' with z
       exact z.symm
      subst eT;obtain⟨L0,e3,e4,e5⟩:=ih M rr (by simpa using hr) (by simpa using hm2) v2 (λx R=>hq x (by simp[R])) (λx R=>hd x (by simp[R])) λj x e=>by obtain⟨T',u1,u2⟩:=ha (j+1) x (by simpa using e);exact⟨T',by simpa using u1,u2⟩
      refine⟨(T,[.str t.1,t.2.2.2],[kV (Sum.inr t.1),t.2.2.1])::L0,by rw[e3];rfl,by rw[aB,aB,e4],λx R=>?_⟩;rcases av.mp R with rfl|R
      ·exact⟨na,YI,dn.cons (BU (Sum.inr t.1)) (dn.cons ((hd t (by simp)).same sH3) dn.nil)⟩
      ·exact e5 x R
 obtain⟨L0,e3,e4,e5⟩:=lay L' m rs (by rw[E.length,aF,ll]) ll E (λq hq=>by obtain⟨_,T',h,lT,_⟩:=P q hq;exact⟨T',h,O.ij.fresh (bj S lT)⟩) (λt ht=>(hL t (pL.mem_iff.mp ht)).2) λj t e=>YH j (kV (Sum.inr t.1),t.2.2.1) (by rw[az,e];rfl);rw[e3];refine k y B L0 (VI.trans sH3) (C B (O.ij.fresh YP)) D (by rw[bT];exact bx eA.list e4) λt ht=>?_;obtain⟨u1,u2,u3⟩:=e5 t ht;exact⟨C _ u1,u2,u3⟩
theorem Fu{K:Fg}{H:Hp}:∀{L:List (Addr×Lp×List V)},(∀t∈L,H t.1=Y (.tup t.2.2)/\dn K H t.2.1 t.2.2)->dn K H (L.map λt=>.tuple t.2.1) (L.map λt=>.ref t.1)
 |[],_=>dn.nil
 |t::L,h=>by obtain⟨c,b⟩:=h t (by simp);exact dn.cons (eI.iX.mpr ⟨t.1,_,rfl,pW.of c,b⟩) (Fu λx a=>h x (by simp[a]))
def N8:eA->Bool
 |.tuple xs=>xs.all oa
 |_=>false
def zb(f:ee->Od):MF:=λρ μ=>((f (jh μ ρ)).bind vI).bind λd=>match d with
 |.list ds=>if ds.all N8=true then Y (.d d,μ) else Z
 |_=>Z
def N9(J:X.calm=true) (n:Gl X "sorted") (l:X.mg "sorted"=Z) (I:PD X o f) (b:attributeBase o "items" X.env (eval o X.env)=eval o X.env:=by rfl) (a:(apos.endLine==fJ.line)=true:=by rfl)
  (E:starEach [.Call (.Attribute o "items" apos) [] [] fJ] X.env=[(false,eval (.Call (.Attribute o "items" apos) [] [] fJ) X.env)]:=by rfl):PM X (.Call (.Name "sorted" p) [.Call (.Attribute o "items" apos) [] [] fJ] [] pos) (zb f) :=
 PE.imp (N7 J n l I b a E) <| by
  rintro σ H Q ⟨ρ,μ,v,μ',G,P,j,e,k⟩;obtain⟨d,O,c⟩:=bind_some e;refine⟨jh μ ρ,d,j.view,O,λx B L D M r N K=>?_⟩;subst N;dsimp only at c;by_cases m:(L.map λt=>eA.tuple t.2.1).all N8=true
  ·rw[ag m] at c;cases c;have i:eN x (upd x B (.lst (L.map λt=>.ref t.1))):=hE r;obtain⟨y,q,w,u⟩:=j.h.y1 (D.trans i);refine k (.ref B) _ y P q (.refl _) (j.mono q.sim (.refl _) u) (gv.gk.mpr (eI.eZ.mpr ⟨B,_,rfl,j0.of (by rw[w B M];exact eS),?_⟩));refine Fu (H:=y) λt s=>?_;obtain⟨C,g,A⟩:=K t s;have R:t.1≠B:=λz=>by rw[z,r] at g;cases g
   have F:t.2.1.all oa=true:=bJ.mp m _ (aU.mpr ⟨t,s,rfl⟩);exact⟨by rw[w _ C];exact i _ _ g,u.QT F (A.same i)⟩
  ·rw[ai m] at c;cases c
def Oa(h:PF X e f):PM X e (oP f) :=
 PE.imp h <| by
  rintro σ H Q ⟨ρ,μ,v,μ',G,E,g,e,k⟩;obtain⟨d,C,a⟩:=bind_some e;refine⟨jh μ ρ,d,g.view,C,λu m I r B w=>?_⟩;obtain⟨l,rfl⟩:∃l,d=.list l:=by cases d<;>first|exact⟨_,rfl⟩|cases a
  dsimp only at a;by_cases i:l.all oa=true
  ·rw[ag i] at a;cases a;obtain⟨q,o,rfl,rfl,x⟩:=w.cont rfl;rcases x with ⟨D,b,j,rfl,c⟩ | ⟨kvs,kv,j,_⟩
   ·cases j;have s:m q=Z:=B.free (q,.lst b) (by simp);have p:eN m (eW m [(q,.lst b)]):=hE s;obtain⟨F,n,A,t⟩:=g.h.y1 (r.trans p);have y:H q=Z:=by
     cases z:H q with
     |none=>rfl
     |some o=>have:=r _ _ z;rw[s] at this;cases this
    exact k _ _ F E n (.refl _) (g.mono n.sim (.refl _) t) (gv.gk.mpr (eI.eZ.mpr ⟨q,b,rfl,j0.of (by rw[A q y];exact eS),t.QT i (c.same p)⟩))
   ·cases j
  ·rw[ai i] at a;cases a
def zc(g:Lp->Od)(a:MF):MF:=λρ μ=>(a ρ μ).bind λr=>(eQ r.2 9 r.1).bind λd=>(g [d]).bind λx=>if oa x=true then Y (.d x,r.2) else Z
def Ob{a:Expr}{c:MF}{o:String}{g:Lp->Od} (L:tK X (.builtin o) g) (K:Gl X x) (J:X.mg x=Z) (E:bootBuiltins x=Y (.builtin o)) (h:PM X a c) (I:x≠"__name__":=by decide) (j:zg x:=by decide)
  (q:starEach [a] X.env=(false,eval a X.env)::starEach [] X.env:=by rfl) (f:(backTo pos (starEach [] X.env)).any (·.1)=false:=by rfl):PM X (.Call (.Name x p) [a] [] pos) (zc g c) :=
 PE.imp (Eu L K J E (cn h fj q) I j q f) <| by
  rintro σ H Q ⟨ρ,μ,v,μ',G,S,F,e,k⟩;obtain⟨⟨r,μ1⟩,R,P⟩:=bind_some e;obtain⟨d,O,N⟩:=bind_some P;obtain⟨y,M,b⟩:=bind_some N;by_cases i:oa y=true
  ·rw[ag i] at b;cases b;refine⟨ρ,μ,[r],μ1,G,S,F,by show (c ρ μ).bind _=_;rw[R];rfl,λU H1 G1 m z t l D=>?_⟩;obtain⟨u,W,rfl,C,B⟩:=ft.eE.mp D;rw[ft.eP.mp B];refine⟨[d],y,dn.cons (mB l.h 9 r d u O C) dn.nil,M,λV H2 w A=>?_⟩;obtain⟨T,n,s⟩:=l.h.grow w;exact k _ _ T m (z.trans n) t (l.mono n.sim (.refl _) s) (gv.gk.mpr (s.YN i A))
  ·rw[ai i] at b;cases b
def JN{c:CmpOp}{a:Expr}{j i:MF}{g:eA->eA->Od}(q:rP X (compareOp c) g)(v:PM X a j)(t:PM X b i)(s:behindInMarks c b=false:=by first|exact Cp _|with_unfolding_all rfl):Pd X (.Compare a [c] [b] pos) (jY (m2 g j i)) :=
 PT.imp (tE (ko.frame q) v t s) <| by
  rintro σ H Q ⟨ρ,μ,l,μ',G,y,p,e,k⟩;obtain⟨⟨r,μ1⟩,x,f⟩:=bind_some e;rcases r with d|_|_<;>try (cases f;done)
  cases d with
  |bool B=>cases f;refine tM2 ⟨ρ,μ,.d (.bool l),_,G,y,p,x,λu z A h n m w o=>?_⟩;rw[eI.fh.mp (gv.gk.mp o)];exact⟨l,rfl,k z A h n m w⟩
  |_=>cases f
end
end L2
namespace L2
open PySem PySem.W
def ui(a:MV->MR->Option MR)(g:MS)(n:Nat):Lp->Nat->MS
 |[],_,ρ,μ=>match μ[n]? with
  |some (.lst _)=>Y (.nx ρ μ)
  |_=>Z
 |y::ys,i,ρ,μ=>match μ[n]? with
  |some (.lst xs)=>match xs[i]? with
   |none=>Y (.nx ρ μ)
   |some x=>((a (.t [x,.d y]) ρ).bind λρ1=>g ρ1 μ).bind λo=>match o with
    |.nx ρ' μ'=>ui a g n ys (i+1) ρ' μ'
    |.ct ρ' μ'=>ui a g n ys (i+1) ρ' μ'
    |.bk ρ' μ'=>Y (.nx ρ' μ')
    |.rt v μ'=>Y (.rt v μ')
  |_=>Z
def Oc(b a:MF)(t:Tg)(g:MS):MS:=λρ μ=>(b ρ μ).bind λr=>(a ρ r.2).bind λq=>match r.1,q.1 with
 |.l n,.d (.list ys)=>ui (BQ t) g n ys 0 ρ q.2
 |_,_=>Z
def Fv{c:MV->MR->Option MR}{g:MS}{n:Nat}{a:Lp}{o:Aw}(e:ui c g n a i ρ μ=Y o):∃b,μ[n]?=Y (.lst b):=by cases a<;>unfold ui at e<;>split at e<;>first|exact⟨_,by assumption⟩|cases e
section
variable {as:AL}
def Lb{P:Addr}{a:Addr×Addr}{n:Nat}{t:Tg}{j:Lp}{l:List V}{g:MS}{o:Aw}{D:yj}(ea:as[n]?=Y a)(q3:j0 K G P l)(q4:dn K G j l)(h1:gZ K σ ρ μ H G as)(e2:ui (BQ t) g n j 0 ρ μ=Y o)(k:K5 K G as D o):
  ∃W:Nat->Nat->St->Hp->Prop,(∃B,W 0 B σ H)/\∀i B σ H,W i B σ H ->
   ((Us K a.1 P).stop i H/\D.nx σ H)\/((Us K a.1 P).go i H/\∃N:St->Hp->Prop,(∀σ' m,N σ' m->∃m',m'<B/\W (i+1) m' σ' m)/\∀x m,(Us K a.1 P).Kj i H x m->gT K t x σ m λσ2 H2=>tU K g { D with nx:=N,ct:=N,bk:=D.nx } σ2 H2):=by
 have n2:=q4.length;refine⟨λi B σ' m=>B=j.length - i/\i<=j.length/\∃ρ' μ' L c,eN G L/\oA as c/\gZ K σ' ρ' μ' m L c/\ui (BQ t) g n (j.drop i) i ρ' μ'=Y o,⟨j.length,by simp,bH _,ρ,μ,G,as,.refl _,.refl _,h1,by simpa using e2⟩,?_⟩;rintro i B σ' m ⟨rfl,hi,ρ',μ',L,c,I,s,e,f⟩;obtain⟨xs,ex⟩:=Fv f;obtain⟨a',U,q1,q2,qv,_⟩:=e.h.lst ex;rw[s _ _ ea] at q1;cases q1;have n1:=qv.length;have M:=j0.of (K:=K) q2;have p:=(I.trans e.h.sub).seq q3;by_cases C:i<j.length
 ·rw[bD C] at f;unfold ui at f;rw[ex] at f;dsimp only at f;cases Q:xs[i]? with
  |none=>rw[Q] at f;cases f;exact .inl ⟨⟨U,l,M,p,.inl (by rw[<-n1];exact List.getElem?_eq_none_iff.mp Q)⟩,k σ' m L c I s e⟩
  |some x=>
   rw[Q] at f;obtain⟨o1,e4,R⟩:=bind_some f;obtain⟨ρ1,e6,e7⟩:=bind_some e4;obtain⟨u,hu,iu⟩:=qv.get Q;obtain⟨y,hy,iy⟩:=q4.get (aL C);refine .inr ⟨⟨U,l,u,y,M,p,hu,hy⟩,λσ3 H3=>∃ρ3 μ3 S r,eN G S/\oA as r/\gZ K σ3 ρ3 μ3 H3 S r/\ui (BQ t) g n (j.drop (i+1)) (i+1) ρ3 μ3=Y o,by rintro σ3 H3 ⟨ρ3,μ3,S,r,s3,x3,h3,e8⟩;exact⟨j.length - (i+1),by omega,rfl,C,ρ3,μ3,S,r,s3,x3,h3,e8⟩,?_⟩;rintro z H2 ⟨T,u',y',r1,r2,r3,r4,r5⟩;have:=r3 _ M;rw[hu] at this;cases this;have:=r4 _ p;rw[hy] at this;cases this;subst r1 r5;obtain⟨G2,O,g2,hh2⟩:=e.h.y1 (hE (o:=.tup [u,y]) r2);have X:=e.mono O.sim (.refl _) hh2;have i4:gv K G2 c (.t [x,.d j[i]]) (.ref T):=gv.tY.mpr ⟨T,[u,y],rfl,.inl (.inl (by rw[g2 T r2];exact eS)),ft.cons (iu.mono O.sim (.refl _)) (ft.cons (gv.gk.mpr (iy.same (I.trans O))) ft.nil)⟩;refine gZ.bind X i4 e6 λσ5 h5=>⟨ρ1,μ',o1,G2,c,h5,e7,?_⟩
   have q:=I.trans O;cases o1 with
   |nx ρ3 μ3=>exact λσ6 J F b A w E=>⟨ρ3,μ3,F,b,q.trans A,s.trans w,E,R⟩
   |ct ρ3 μ3=>exact λσ6 J F b A w E=>⟨ρ3,μ3,F,b,q.trans A,s.trans w,E,R⟩
   |bk ρ3 μ3=>cases R;exact λσ6 J F b A w E=>k σ6 J F b (q.trans A) (s.trans w) E
   |rt v μ3=>cases R;exact λu J F b A w E i6=>k u J F b (q.trans A) (s.trans w) E i6
 ·have e8:i=j.length:=by omega
  subst e8;rw[dA] at f;unfold ui at f;rw[ex] at f;cases f;exact .inl ⟨⟨U,l,M,p,.inr (by omega)⟩,k σ' m L c I s e⟩
end
section
variable {a:Expr}{ma mb:MF}{YQ:Pos}{g:MS}
def Q1{c:Lx}{B:Nat}{v:Pos}{t:Tg} (U:PassesOwn (model X.prog X.w) X.A X.env X.xe) (hc:X.calm=true) (j:Gl X "zip") (V:X.mg "zip"=Z) (ha:PM X a ma) (hb:PM X b mb) (W:PG X (.Tuple c B v) (gT X.K t)) (l:Jy X body g)
  (L:starEach [a,b] X.env=[(false,eval a X.env),(false,eval b X.env)]:=by rfl) (J:starEach [b] X.env=[(false,eval b X.env)]:=by rfl)
  (T:∀x,foldedSetIterable (.Call (.Name "zip" p) [a,b] [] pos) X.env x=pure x:=by intro _;rfl):PU X (.For (.Tuple c B v) (.Call (.Name "zip" p) [a,b] [] pos) body [] YQ) (Oc ma mb t g) :=
 PS.imp (Cm U hc (NX j V ha hb L J) W l T) <| by
  rintro D σ H ⟨ρ,μ,o,G,as,S,e,k⟩;obtain⟨⟨r,μ1⟩,e1,e2⟩:=bind_some e;obtain⟨⟨q,μ2⟩,e3,d⟩:=bind_some e2;refine⟨ρ,μ,r,μ1,G,as,S,e1,λu H1 G1 s M E h1 R=>⟨ρ,μ1,q,μ2,G1,s,h1,e3,λw H2 G2 Z9 I f m Q=>?_⟩⟩;dsimp only at d;split at d
  ·rename_i n ys;obtain⟨a1,C,rfl⟩:=gv.jX.mp R;obtain⟨P,i,rfl,y,N⟩:=eI.eZ.mp (gv.gk.mp Q);obtain⟨xs,ex⟩:=Fv d;obtain⟨a',F,z,O,qv,_⟩:=m.h.lst ex;rw[f _ _ C] at z;cases z;exact⟨a1.1,P,F,i,rfl,rfl,j0.of O,m.h.sub.seq y,Lb (f _ _ C) y N m d (k.later (M.trans I) (E.trans f))⟩
  ·cases d
end
end L2
noncomputable section
namespace K11
open PySem L2
def iW(i:Nat):Stmt:=PySem.Challenge.pw_pointsure_k11_calls_over.main.body.getD i (.Pass ⟨0,0,0,0⟩)
noncomputable def Dq:List (eA×eA):=[((.str "new"),(.tuple [(.str "X"),(.str "KIND")])),((.str "row"),(.tuple [(.str "X")])),((.str "func"),(.tuple [(.str "X"),(.str "FUNCTION"),(.str "A")])),((.str "copy"),(.tuple [(.str "X"),(.str "Y")])),((.str "take"),(.tuple [(.str "X"),(.str "Y"),(.str "FIELD")])),((.str "put"),(.tuple [(.str "Y"),(.str "FIELD"),(.str "X")])),((.str "push"),(.tuple [(.str "Y"),(.str "X")])),((.str "pull"),(.tuple [(.str "X"),(.str "Y")])),((.str "do"),(.tuple [(.str "X"),(.str "Y"),(.str "A")])),((.str "ask"),(.tuple [(.str "X"),(.str "Y"),(.str "METHOD"),(.str "A")])),((.str "straight"),(.tuple [(.str "X"),(.str "Y"),(.str "KIND"),(.str "METHOD"),(.str "A")])),((.str "give"),(.tuple [(.str "X")])),((.str "tell"),(.tuple [(.str "X")])),((.str "rest"),(.tuple [])),((.str "check"),(.tuple [(.str "Y"),(.str "FIELD")])),((.str "fresh"),(.tuple [(.str "X"),(.str "KIND")])),((.str "own"),(.tuple [(.str "X"),(.str "Y"),(.str "FIELD")])),((.str "place"),(.tuple [(.str "Y"),(.str "FIELD"),(.str "X")]))]
noncomputable def ng:List (eA×eA):=[((.str "choose"),(.tuple [])),((.str "some"),(.tuple [(.str "X")])),((.str "same"),(.tuple [(.str "X"),(.str "Y")]))]
noncomputable def ya:List (eA×eA):=[((.str "take"),(.str "record")),((.str "put"),(.str "record")),((.str "check"),(.str "record")),((.str "ask"),(.str "record")),((.str "straight"),(.str "record")),((.str "push"),(.str "row")),((.str "pull"),(.str "row")),((.str "do"),(.str "func")),((.str "own"),(.str "mark")),((.str "place"),(.str "mark"))]
noncomputable def pN:List (Str×Str):=[("new","do_new"),("row","do_row_thing"),("func","do_func"),("copy","do_copy"),("take","do_take"),("put","do_put"),("push","do_push"),("pull","do_pull"),("tell","do_tell"),("rest","do_nothing"),("check","do_nothing"),("fresh","do_fresh"),("own","do_own"),("place","do_place")]
abbrev Lc:Stmt:=iW 24
def Ld:ee->Option gQ :=
(eY (jS (fB (d2 wo (zX (a6 0) (zI 0)) (dC (.tuple [(.str "if"),(.str "while")]))))
(eY (jS (p7 (fB (d2 vc (zN (a6 0)) (zI 1))) (fB (λρ=>((zX (a6 0) (zI 1)) ρ).bind (NH ng))))
(fP (d2 hU (jT (zC "CONDITION" f9)) (λρ=>((zX (a6 0) (zI 1)) ρ).bind (HB ng))))
gp)
(fP (dC .none)))
gp)
(fP (λρ=>((zX (a6 0) (zI 0)) ρ).bind (RB Dq))))
def vK:Lp->Od:=iQ ["words"] Ld
abbrev HY:Stmt:=iW 25
def Az:ee->Option gQ :=
(om (.sl 1) (ja [1] (zA "A")))
def HZ:ee->Option gQ :=
(eY (nJ (ja [1] (iC nN (zQ (k0 1 vK (zQ (a6 0)))))) 1)
(eY (Hr (fB (d2 Ro (zN (a6 1)) (d2 Ao (zN (a6 0)) (zI 1)))) Az)
(fP (d2 VH (a6 1) (jL (a6 0) (kx (zI 1)) ku)))))
def pO:Lp->Od:=iQ ["words","form"] HZ
abbrev H7:Stmt:=gd (iW 20) 0
def AA:ee->Option Bool:=(fB (d2 kZ (a6 0) (zA "A")))
def AB:ee->Od:=(a6 1)
def AD:ee->Option Bool:=(fB (d2 wo (a6 0) (jT (zC "X" (zC "Y" (zC "A" f9))))))
def AE:ee->Od:=(a6 1)
def Ia:ee->Option gQ :=
(eY (iR (ja [0] (iC CY (zQ (k0 1 pO (zQ (a6 1)))))) 2)
(eY (lp 0 "Row" "word" (ja [0] (zX (a6 1) (zI 0))))
(eY (lp 0 "Row" "condition" (ja [0] (d2 nF (a6 2) (zA "CONDITION"))))
(eY (lp 0 "Row" "x" (ja [0] (d2 nF (a6 2) (zA "X"))))
(eY (lp 0 "Row" "y" (ja [0] (d2 nF (a6 2) (zA "Y"))))
(eY (lp 0 "Row" "kind" (ja [0] (d2 nF (a6 2) (zA "KIND"))))
(eY (lp 0 "Row" "field" (ja [0] (d2 nF (a6 2) (zA "FIELD"))))
(eY (lp 0 "Row" "method" (ja [0] (d2 nF (a6 2) (zA "METHOD"))))
(eY (lp 0 "Row" "function" (ja [0] (d2 nF (a6 2) (zA "FUNCTION"))))
(eY (lp 0 "Row" "handed" (ja [0] (C5 (oJ (k0 1 pO (zQ (a6 1)))) [] AA AB)))
(lp 0 "Row" "names" (ja [0] (C5 (oJ (k0 1 pO (zQ (a6 1)))) [] AD AE)))))))))))))
def sJ:Lp->Option (eA×eA):=qz ["self","words","parts"] Ia
abbrev sL:Stmt:=gd (iW 70) 5
def sM:ee->Option gQ :=
(fP (zX (zX (eJ ["Program"] "numbered" (a6 0)) (a6 1)) (zI 2)))
def nS:Lp->Od:=iQ ["self","number"] sM
abbrev xf:Stmt:=gd (iW 70) 1
def xg:ee->Option gQ :=
(fP (eJ ["Program"] "text" (a6 0)))
def mO:Lp->Od:=iQ ["self"] xg
abbrev xh:Stmt:=iW 10
def sN:ee->Option Bool:=(λ_=>Y true)
def sO:ee->Od:=(KS j8 (a6 0) (zC " " f9))
def xi:ee->Option gQ :=
(fP (ir (oJ (KS j8 (fV "Program" "shown" 1 mO (a6 0) f9) (zC "\n" f9))) [] sN sO))
def mP:Lp->Od:=iQ ["program"] xi
abbrev sP:Stmt:=iW 12
def sQ:ee->Option gQ :=
(eY (jS (p7 (rg (a6 0)) (fB (d2 kZ (zX (a6 0) (zI 0)) (zA "of"))))
(fP (jT (fK (zX (a6 0) (zI 1)) (zQ (jL (a6 0) (kx (zI 3)) ku)))))
gp)
(fP (jT (fK (dC .none) (zQ (jL (a6 0) (kx (zI 1)) ku))))))
def nU:Lp->Od:=iQ ["words"] sQ
abbrev Dr:Stmt:=iW 11
def xj:ee->Option gQ :=
(eY (jS (fB (d2 rR (zX (a6 2) (zI 0)) (zA "kind")))
(λρ=>Y (.bk ρ))
gp)
(Ho (.sl 1) (ja [1] (zX (a6 2) (zI 1))) (ja [1] (k0 1 nU (zQ (jL (a6 2) (kx (zI 2)) ku))))))
def Ds:ee->Option gQ :=
(eY (nJ (ja [1] (dC (.dict []))) 1)
(eY (tS (Qm [1] (wA (k0 1 mP (zQ (a6 0))))) (.one 2) xj)
(fP (a6 1))))
def uj:Lp->Od:=iQ ["program","table","words"] Ds
abbrev AF:Stmt:=iW 8
def AG:ee->Option gQ :=
(fP (Yt (yR (Uq (a6 0)) (yR (zA ".") (yR (Uq (a6 1)) (λ_=>Y Str.empty))))))
def kE:Lp->Od:=iQ ["kind","method"] AG
abbrev Fw:Stmt:=iW 9
def Fx:ee->Option gQ :=
(eY (jS (fB (d2 kZ (zX (a6 0) (zI 0)) (zA "method")))
(fP (k0 2 kE (fK (zX (a6 0) (zI 1)) (zQ (zX (a6 0) (zI 2))))))
gp)
(eY (jS (fB (d2 kZ (zX (a6 0) (zI 0)) (zA "func")))
(fP (zX (a6 0) (zI 1)))
gp)
(fP (zA "main"))))
def k4:Lp->Od:=iQ ["head"] Fx
abbrev Dt:Stmt:=iW 14
def xk:ee->Option gQ :=
(jS (fB (d2 kZ (zX (a6 3) (zI 0)) (zA "end")))
(Nj 2 (λi j=>i - j) (ja [1] (zI 1)))
(jS (p7 (fB (d2 kZ (a6 2) (zI 0))) (fB (d2 rR (zX (a6 3) (zI 0)) (zA "kind"))))
(eY (Ho (.sl 1) (ja [1] (k0 1 k4 (zQ (a6 3)))) (ja [1] (a6 3)))
(iR (ja [1] (zI 1)) 2))
(jS (fB (d2 wo (zX (a6 3) (zI 0)) (jT (zC "if" (zC "while" f9)))))
(Nj 2 (λi j=>i+j) (ja [1] (zI 1)))
gp)))
def Du:ee->Option gQ :=
(eY (nJ (ja [1] (dC (.dict []))) 1)
(eY (iR (ja [1] (zI 0)) 2)
(eY (tS (Qm [1] (wA (k0 1 mP (zQ (a6 0))))) (.one 3) xk)
(fP (a6 1)))))
def pP:Lp->Od:=iQ ["program","heads","depth","words"] Du
abbrev rq:Stmt:=gd (iW 70) 4
def rz:ee->Option gQ :=
(fP (iC nN (zQ (zX (zX (eJ ["Program"] "numbered" (a6 0)) (a6 1)) (zI 1)))))
def mV:Lp->Od:=Hs ["self","number"] rz
abbrev AH:Stmt:=iW 6
def AI:ee->Option gQ :=
(eY (jS (fB (d2 kZ (zX (a6 0) (zI 0)) (zA "method")))
(fP (iC nN (zQ (jL (a6 0) (kx (zI 3)) ku))))
gp)
(eY (nJ (ja [1] (iC nN (zQ (jL (a6 0) (kx (zI 2)) ku)))) 1)
(eY (jS (fB (d2 wo (zA "keeps") (a6 1)))
(fP (xY (a6 1) ku (kx (S5 CV (a6 1) (zC "keeps" f9)))))
gp)
(fP (a6 1)))))
def oQ:Lp->Od:=Hs ["head","names"] AI
abbrev Fy:Stmt:=iW 7
def Fz:ee->Option gQ :=
(eY (jS (GF (fB (d2 rR (zX (a6 0) (zI 0)) (zA "func"))) (fB (d2 qu (zA "keeps") (jL (a6 0) (kx (zI 2)) ku))))
(fP (je f9))
gp)
(eY (iR (ja [] (iC nN (zQ (jL (a6 0) (kx (zI 2)) ku)))) 1)
(fP (xY (a6 1) (kx (d2 hU (S5 CV (a6 1) (zC "keeps" f9)) (zI 1))) ku))))
def mD:Lp->Od:=Hs ["head","names"] Fz
abbrev um:Stmt:=iW 13
def qE:ee->Option gQ :=
(eY (om (.sl 2) (ja [2] (a6 3)))
(iR (ja [2] (zX (zX (a6 0) (a6 3)) (zI 0))) 3))
def uo:ee->Option gQ :=
(eY (nJ (ja [2] (je f9)) 2)
(eY (iR (ja [2] (a6 1)) 3)
(eY (Hr (fB (d2 kK (a6 3) (dC .none))) qE)
(fP (a6 2)))))
def lx:Lp->Od:=iQ ["table","kind","line","one"] uo
abbrev FA:Stmt:=iW 4
def ze:ee->Option gQ :=
(xV (.sl 2) (ja [2] (zX (zX (a6 0) (a6 3)) (zI 1))))
def FC:ee->Option gQ :=
(eY (nJ (ja [2] (je f9)) 2)
(eY (tS (Qm [2] (Tb (k0 2 lx (fK (a6 0) (zQ (a6 1)))))) (.one 3) ze)
(fP (a6 2))))
def wL:Lp->Od:=Hs ["table","kind","fields","one"] FC
abbrev rA:Stmt:=gd (iW 70) 3
def rB:ee->Option gQ :=
(fP (zN (eJ ["Program"] "numbered" (a6 0))))
def kj:Lp->Od:=iQ ["self"] rB
abbrev zf:Stmt:=gd (iW 37) 0
def uu:ee->Option Bool:=(λ_=>Y true)
def uw:ee->Od:=(Bx "Row" 2 sJ (zQ (fV "Program" "row_words" 2 mV (a6 1) (zQ (a6 0)))))
def ux:ee->Option Bool:=(λ_=>Y true)
def uy:ee->Od:=(fV "Program" "row_body" 2 nS (a6 1) (zQ (a6 0)))
def uz:MS :=
(eO (rp (fH "Outline" "params" (b5 0)) (b5 2) (QQ 1 oQ (bS (qd (fH "Outline" "heads" (b5 0)) (b5 2)) dy)))
(eO (rp (fH "Outline" "kept" (b5 0)) (b5 2) (QQ 1 mD (bS (qd (fH "Outline" "heads" (b5 0)) (b5 2)) dy)))
(rp (fH "Outline" "own_rows" (b5 0)) (b5 2) qC)))
def uA:MS :=
(gg (jw (qd (fH "Outline" "own_rows" (b5 0)) (b5 2)) (b5 3)))
def uB:MS :=
(rp (fH "Outline" "fields" (b5 0)) (b5 4) (QQ 2 wL (bS (fH "Outline" "table" (b5 0)) (bS (b5 4) dy))))
def zh:MS :=
(eO (jj "Outline" "rows" (b5 0) (eV (ir (j5 (fV "Program" "many_rows" 1 kj (a6 1) f9)) [(1,"program")] uu uw)))
(eO (jj "Outline" "homes" (b5 0) (eV (ir (j5 (fV "Program" "many_rows" 1 kj (a6 1) f9)) [(1,"program")] ux uy)))
(eO (jj "Outline" "table" (b5 0) (eV (k0 1 uj (zQ (a6 1)))))
(eO (jj "Outline" "heads" (b5 0) (eV (k0 1 pP (zQ (a6 1)))))
(eO (jj "Outline" "params" (b5 0) pZ)
(eO (jj "Outline" "kept" (b5 0) pZ)
(eO (jj "Outline" "own_rows" (b5 0) pZ)
(eO (NQ (fH "Outline" "heads" (b5 0)) (.one 2) uz)
(eO (ud (NS (fH "Outline" "homes" (b5 0))) (.many [3,2]) uA)
(eO (jj "Outline" "fields" (b5 0) pZ)
(NQ (fH "Outline" "table" (b5 0)) (.one 4) uB)))))))))))
def qF:lN:=gN ["self","program","body","number","kind"] zh
abbrev Dv:Stmt:=iW 35
def xl:MS :=
(eO (gq (eV (KS j8 (a6 4) (zC " " f9))) 5)
(eO (gq (eV (zX (a6 5) (zI 0))) 6)
(eO (nc (fo (p8 (rg (a6 2))))
(eO (nc (fo (fB (d2 rR (a6 6) (zA "kind"))))
(eO (gg (jw (b5 1) (K4 (bS (b5 5) (bS qC dy)))))
(gg (jw (b5 2) (eV (dC .none)))))
jR)
(λρ μ=>Y (.ct ρ μ)))
jR)
(eO (nc (fo (fB (d2 kZ (a6 6) (zA "end"))))
(gq (K4 (bS (b5 6) (bS (HJ (b5 2)) dy))) 7)
(nc (fo (fB (d2 kZ (a6 6) (zA "else"))))
(gq (eV (jT (fK (a6 6) (zQ (dC .none))))) 7)
(eO (gq (eV (jT (fK (a6 6) (zQ (a6 3))))) 7)
(eO (nc (fo (fB (d2 wo (a6 6) (dC (.tuple [(.str "if"),(.str "while")])))))
(gg (jw (b5 2) (eV (ZI (fB (d2 kZ (a6 6) (zA "while"))) (a6 3) (dC .none)))))
jR)
(VU 3 (λi j=>i+j) (eV (zI 1)))))))
(nc (fo (rg (a6 2)))
(gg (jw (qd (qd (b5 1) (eV (zI (-1)))) (eV (zI 1))) (b5 7)))
jR)))))
def Dw:MS :=
(eO (gq qC 1)
(eO (gq qC 2)
(eO (gq (eV (zI 0)) 3)
(eO (ud (Fb (wA (KS j8 (fV "Program" "shown" 1 mO (a6 0) f9) (zC "\n" f9)))) (.one 4) xl)
(jE (b5 1))))))
def uC:Lp->Od:=Fd ["program","bodies","blocks","number","row","words","word","mark"] Dw
abbrev vL:Stmt:=gd (iW 34) 1
def rD:MS :=
(nc (fo (fB (d2 kZ (a6 4) (zA "end"))))
(eO (gg (jw (b5 3) (eV (jT (fK (a6 2) (zQ (a6 2)))))))
(nc (fo (fB (d2 kK (a6 5) (dC .none))))
(gq (b5 5) 2)
jR))
(nc (fo (fB (d2 kZ (a6 4) (zA "else"))))
(eO (rp (b5 3) (eV (zI (-1))) (gL (jT (fK (zX (zX (a6 3) (zI (-1))) (zI 0)) (zQ (a6 2))))))
(gq (qd (qd (b5 3) (eV (zI (-1)))) (eV (zI 0))) 2))
(eO (rp (fH "Flow" "behind" (b5 0)) (b5 5) (b5 2))
(eO (rp (fH "Flow" "otherwise" (b5 0)) (b5 5) (b5 2))
(eO (nc (fo (fB (d2 wo (a6 4) (dC (.tuple [(.str "if"),(.str "while")])))))
(rp (fH "Flow" "otherwise" (b5 0)) (b5 5) (qd (HJ (b5 3)) (eV (zI 1))))
jR)
(gq (b5 5) 2))))))
def vM:MS :=
(eO (gq (eV (dC .none)) 2)
(eO (gq qC 3)
(eO (ud (Fb (Tb (a6 1))) (.many [4,5]) rD)
(jE (b5 2)))))
def pf:lN:=gN ["self","marks","follows","blocks","word","number"] vM
abbrev FD:Stmt:=gd (iW 34) 0
def zj:MS :=
(rp (fH "Flow" "first" (b5 0)) (eV (k0 1 k4 (zQ (a6 2)))) (fi "Flow" "join_rows" 2 pf (b5 0) (bS (b5 3) dy)))
def FE:MS :=
(eO (jj "Flow" "first" (b5 0) pZ)
(eO (jj "Flow" "behind" (b5 0) pZ)
(eO (jj "Flow" "otherwise" (b5 0) pZ)
(ud (Fb (wA (k0 1 uC (zQ (a6 1))))) (.many [2,3]) zj))))
def wM:lN:=gN ["self","program","head","marks"] FE
abbrev Dx:Stmt:=gd (iW 41) 0
def Dy:MS :=
(eO (jj "State" "outline" (b5 0) (eV (HK "Outline" 2 qF (zQ (a6 1)))))
(eO (jj "State" "flow" (b5 0) (eV (HK "Flow" 2 wM (zQ (a6 1)))))
(eO (jj "State" "inputs" (b5 0) (eV (iC nN (zQ (a6 2)))))
(eO (jj "State" "used" (b5 0) (eV (zI 0)))
(eO (jj "State" "fuel" (b5 0) (b5 3))
(eO (jj "State" "stack" (b5 0) qC)
(eO (jj "State" "made" (b5 0) qC)
(eO (jj "State" "shown_texts" (b5 0) qC)
(jj "State" "ended" (b5 0) (eV (dC .none)))))))))))
def uD:lN:=gN ["self","program","inputs","fuel"] Dy
abbrev FF:Stmt:=gd (iW 39) 0
def oD:MS :=
(eO (jj "Call" "body" (b5 0) (b5 1))
(eO (jj "Call" "path" (b5 0) (b5 2))
(eO (jj "Call" "row" (b5 0) (b5 3))
(jj "Call" "named" (b5 0) pZ))))
def k5:lN:=gN ["self","body","path","row"] oD
abbrev FG:Stmt:=iW 60
def oE:MS :=
(eO (gq (wF "Call" 4 k5 (bS (b5 1) (bS (b5 2) (bS (qd (ji ["Flow"] "first" (fH "State" "flow" (b5 0))) (b5 1)) dy)))) 3)
(eO (gg (jw (fH "State" "stack" (b5 0)) (b5 3)))
(jE (b5 3))))
def mF:lN:=gN ["state","body","path","call"] oE
abbrev FH:Stmt:=gd (iW 41) 1
def FI:ee->Option gQ :=
(fP (zX (eJ ["State"] "stack" (a6 0)) (zI (-1))))
def k6:Lp->Od:=iQ ["self"] FI
def qG:MS :=
(jE (qd (fH "State" "stack" (b5 0)) (eV (zI (-1)))))
def fI:lN:=gN ["self"] qG
abbrev vN:Stmt:=gd (iW 39) 1
def gW:MS :=
(nc (fo (fB (d2 nP (a6 2) (dC .none))))
(gg (JB (fH "Call" "named" (b5 0)) (b5 1) (eV (dC .none))))
(rp (fH "Call" "named" (b5 0)) (b5 1) (b5 2)))
def eK:lN:=gN ["self","name","value"] gW
abbrev uE:Stmt:=gd (iW 37) 3
def uF:ee->Option gQ :=
(eY (jS (p7 (CU CT Ro (zI 0) (a6 1) (zN (eJ ["Outline"] "rows" (a6 0)))) (fB (d2 kZ (eJ ["Row"] "word" (zX (eJ ["Outline"] "rows" (a6 0)) (a6 1))) (a6 2))))
(fP (zX (eJ ["Outline"] "rows" (a6 0)) (a6 1)))
gp)
(fP (dC .none)))
def ly:Lp->Od:=iQ ["self","number","word"] uF
abbrev rE:Stmt:=gd (iW 37) 4
def rF:ee->Option gQ :=
(eY (iR (ja [] (fV "Outline" "made_by" 3 ly (a6 0) (fK (a6 1) (zC "new" f9)))) 2)
(eY (jS (fB (d2 nP (a6 2) (dC .none)))
(fP (dC .none))
gp)
(fP (eJ ["Row"] "kind" (a6 2)))))
def mW:Lp->Od:=iQ ["self","number","row"] rF
abbrev xm:Stmt:=gd (iW 41) 4
def xn:ee->Option gQ :=
(eY (jS (fB (d2 nP (a6 1) (dC .none)))
(fP (dC .none))
gp)
(eY (jS (fB (d2 kZ (zX (a6 1) (zI 0)) (zA "mark")))
(fP (zX (a6 1) (zI 1)))
gp)
(fP (fV "Outline" "made_kind" 2 mW (eJ ["State"] "outline" (a6 0)) (zQ (eJ ["Call","Thing"] "row" (zX (eJ ["State"] "made" (a6 0)) (zX (a6 1) (zI 1)))))))))
def kM:Lp->Od:=iQ ["self","value"] xn
abbrev vO:Stmt:=gd (iW 41) 3
def vP:ee->Option gQ :=
(eY (jS (GF (fB (d2 nP (a6 1) (dC .none))) (fB (d2 rR (zX (a6 1) (zI 0)) (zA "thing"))))
(fP (dC .none))
gp)
(fP (zX (eJ ["State"] "made" (a6 0)) (zX (a6 1) (zI 1)))))
def j9:Lp->Od:=iQ ["self","value"] vP
def vQ:MS :=
(eO (nc (fo (GF (fB (d2 nP (a6 1) (dC .none))) (fB (d2 rR (zX (a6 1) (zI 0)) (zA "thing")))))
(jE (eV (dC .none)))
jR)
(jE (qd (fH "State" "made" (b5 0)) (eV (zX (a6 1) (zI 1))))))
def fM:lN:=gN ["self","value"] vQ
abbrev ph:Stmt:=gd (iW 37) 5
def pj:ee->Option gQ :=
(eY (iR (ja [] (fV "Outline" "made_by" 3 ly (a6 0) (fK (a6 1) (zC "func" f9)))) 2)
(eY (jS (fB (d2 nP (a6 2) (dC .none)))
(fP (dC .none))
gp)
(fP (eJ ["Row"] "function" (a6 2)))))
def jl:Lp->Od:=iQ ["self","number","row"] pj
abbrev AJ:Stmt:=iW 43
def AK:ee->Option gQ :=
(eY (jS (fB (d2 nP (a6 1) (dC .none)))
(fP (zA "none"))
gp)
(eY (iR (ja [] (fV "State" "kind_of" 2 kM (a6 0) (zQ (a6 1)))) 2)
(eY (jS (fB (d2 kK (a6 2) (dC .none)))
(fP (a6 2))
gp)
(eY (iR (ja [] (fV "State" "thing_of" 2 j9 (a6 0) (zQ (a6 1)))) 3)
(eY (jS (fB (d2 kZ (eJ ["Thing"] "form" (a6 3)) (zA "row")))
(fP (zA "row"))
gp)
(fP (fV "Outline" "made_function" 2 jl (eJ ["State"] "outline" (a6 0)) (zQ (eJ ["Thing"] "row" (a6 3))))))))))
def oR:Lp->Od:=iQ ["state","value","kind","thing"] AK
abbrev Ib:Stmt:=iW 63
def pQ:MS :=
(eO (gg (HJ (fH "State" "stack" (b5 0))))
(eO (nc (fo (p8 (rg (eJ ["State"] "stack" (a6 0)))))
(eO (jj "State" "ended" (b5 0) (gL (jT (zC "given" (zQ (k0 2 oR (fK (a6 0) (zQ (a6 1)))))))))
(λ_ μ=>Y (.rt (.d .none) μ)))
jR)
(eO (gq (fi "State" "top" 1 fI (b5 0) dy) 2)
(eO (gg (fi "Call" "give_name" 3 eK (b5 2) (bS (ji ["Row"] "x" (qd (ji ["Outline"] "rows" (fH "State" "outline" (b5 0))) (fH "Call" "row" (b5 2)))) (bS (b5 1) dy))))
(jj "Call" "row" (b5 2) (qd (ji ["Flow"] "behind" (fH "State" "flow" (b5 0))) (fH "Call" "row" (b5 2))))))))
def h9:lN:=gN ["state","value","call"] pQ
abbrev FJ:Stmt:=iW 62
def lz:MS :=
(gg (rZ 2 h9 (bS (b5 0) (bS (eV (dC .none)) dy))))
def FK:MS :=
(Dg (fo (p7 (rg (eJ ["State"] "stack" (a6 0))) (fB (d2 nP (eJ ["Call"] "row" (fV "State" "top" 1 k6 (a6 0) f9)) (dC .none))))) lz)
def hJ:lN:=gN ["state"] FK
abbrev zk:Stmt:=gd (iW 65) 0
def zm:MS :=
(eO (jj "Machine" "state" (b5 0) (wF "State" 4 uD (bS (b5 1) (bS (b5 2) (bS (b5 3) dy)))))
(eO (gg (rZ 3 mF (bS (fH "Machine" "state" (b5 0)) (bS (eV (zA "main")) (bS (eV (jT f9)) dy)))))
(gg (rZ 1 hJ (bS (fH "Machine" "state" (b5 0)) dy)))))
def nV:lN:=gN ["self","program","inputs","fuel"] zm
abbrev AM:Stmt:=iW 86
def oS:ee->Option gQ :=
(eY (jS (fB (d2 Ro (a6 1) (zN (a6 0))))
(fP (zX (a6 0) (a6 1)))
gp)
(fP (zI 0)))
def i0:Lp->Od:=iQ ["_law_script","_law_k"] oS
abbrev FN:Stmt:=iW 87
def FP:ee->Option gQ :=
(eY (iR (ja [4] (d2 vc (a6 0) (zI 0))) 3)
(eY (nJ (ja [4] (je (zC "kind ka" (zC "func fa p keeps k" f9)))) 4)
(eY (jS (rg (a6 3))
(nJ (ja [4] (je (zC "kind ka" (zC "method ka m p" f9)))) 4)
gp)
(eY (om (.sl 4) (ja [4] (zA "if choose")))
(eY (om (.sl 4) (ja [4] (zX (je (zC "do z p p" (zC "ask z self m self" (zC "straight z self ka m self" f9)))) (a6 0))))
(eY (nJ (Ul (d2 BK (d2 hU (a6 4) (d2 vC (je (zC "rest" f9)) (a6 1))) (je (zC "else" f9)))) 4)
(eY (jS (rg (a6 2))
(om (.sl 4) (ja [4] (zX (je (zC "give k" (zC "give self" f9))) (iC lV (zQ (a6 3))))))
gp)
(eY (nJ (Ul (d2 BK (d2 hU (d2 hU (a6 4) (je (zC "end" f9))) (d2 vC (je (zC "give z" f9)) (iC lV (zQ (d2 vc (a6 1) (zI 0)))))) (je (zC "end" (zC "main" (zC "new a ka" f9)))))) 4)
(eY (jS (rg (a6 3))
(fP (d2 hU (a6 4) (je (zC "ask y a m a" (zC "tell y" (zC "end" f9))))))
gp)
(fP (d2 hU (a6 4) (je (zC "func b fa a" (zC "do y b b" (zC "tell y" (zC "end" f9))))))))))))))))
def k7:Lp->Od:=iQ ["_law_way","_law_behind","_law_gives","_law_method","_law_lines_here"] FP
abbrev vR:Stmt:=gd (iW 41) 2
def vS:ee->Option gQ :=
(fP (d2 nF (eJ ["Call"] "named" (zX (eJ ["State"] "stack" (a6 0)) (zI (-1)))) (a6 1)))
def el:Lp->Od:=iQ ["self","name"] vS
abbrev Le:Stmt:=iW 31
def Lf:ee->Option gQ :=
(eY (jS (fB (d2 kZ (zX (a6 1) (zI 0)) (zA "mark")))
(fP (zA "mark"))
gp)
(fP (eJ ["Thing"] "form" (fV "State" "thing_of" 2 j9 (a6 0) (zQ (a6 1))))))
def BV:Lp->Od:=iQ ["state","value"] Lf
abbrev Ic:Stmt:=iW 5
def AN:ee->Option gQ :=
(eY (iR (ja [] (k0 2 kE (fK (a6 4) (zQ (a6 3))))) 5)
(jS (fB (d2 wo (a6 5) (a6 1)))
(fP (a6 5))
gp))
def Ie:ee->Option gQ :=
(eY (tS (Qm [] (wA (k0 2 lx (fK (a6 0) (zQ (a6 2)))))) (.one 4) AN)
(fP (dC .none)))
def zo:Lp->Od:=iQ ["table","heads","kind","method","one","body"] Ie
abbrev xo:Stmt:=gd (iW 37) 1
def xp:ee->Option gQ :=
(fP (k0 4 zo (fK (eJ ["Outline"] "table" (a6 0)) (fK (eJ ["Outline"] "heads" (a6 0)) (fK (a6 1) (zQ (a6 2)))))))
def p0:Lp->Od:=iQ ["self","kind","method"] xp
abbrev Lg:Stmt:=iW 32
def Lh:ee->Option gQ :=
(eY (jS (fB (d2 kZ (eJ ["Row"] "word" (a6 1)) (zA "do")))
(fP (fV "Outline" "made_function" 2 jl (eJ ["State"] "outline" (a6 0)) (zQ (eJ ["Call","Thing"] "row" (fV "State" "thing_of" 2 j9 (a6 0) (zQ (a6 2)))))))
gp)
(eY (jS (fB (d2 kZ (eJ ["Row"] "word" (a6 1)) (zA "ask")))
(fP (fV "Outline" "found" 3 p0 (eJ ["State"] "outline" (a6 0)) (fK (fV "State" "kind_of" 2 kM (a6 0) (zQ (a6 2))) (zQ (eJ ["Row"] "method" (a6 1))))))
gp)
(fP (k0 2 kE (fK (eJ ["Row"] "kind" (a6 1)) (zQ (eJ ["Row"] "method" (a6 1))))))))
def pk:Lp->Od:=iQ ["state","row","value"] Lh
abbrev xq:Stmt:=gd (iW 37) 2
def xr:ee->Option gQ :=
(fP (rY (d2 wo (a6 1) (eJ ["Outline"] "params" (a6 0))) (d2 kZ (zN (zX (eJ ["Outline"] "params" (a6 0)) (a6 1))) (zN (eJ ["Row"] "handed" (a6 2))))))
def p1:Lp->Od:=iQ ["self","body","row"] xr
abbrev Dz:Stmt:=iW 30
def DA:ee->Option gQ :=
(eY (jS (fB (d2 nP (a6 2) (dC .none)))
(fP (zA "none"))
gp)
(eY (jS (fB (d2 rR (k0 2 BV (fK (a6 0) (zQ (a6 2)))) (λρ=>((eJ ["Row"] "word" (a6 1)) ρ).bind (HB ya))))
(fP (zA "sort"))
gp)
(eY (jS (p7 (fB (d2 kK (eJ ["Row"] "field" (a6 1)) (dC .none))) (fB (d2 qu (eJ ["Row"] "field" (a6 1)) (zX (eJ ["Outline"] "fields" (eJ ["State"] "outline" (a6 0))) (fV "State" "kind_of" 2 kM (a6 0) (zQ (a6 2)))))))
(fP (zA "field"))
gp)
(eY (jS (fB (d2 wo (eJ ["Row"] "word" (a6 1)) (dC (.tuple [(.str "do"),(.str "ask"),(.str "straight")]))))
(eY (iR (ja [] (k0 3 pk (fK (a6 0) (fK (a6 1) (zQ (a6 2)))))) 3)
(eY (jS (fB (d2 nP (a6 3) (dC .none)))
(fP (zA "method"))
gp)
(jS (p8 (rg (fV "Outline" "takes" 3 p1 (eJ ["State"] "outline" (a6 0)) (fK (a6 3) (zQ (a6 1))))))
(fP (zA "count"))
gp)))
gp)
(fP (dC .none))))))
def uG:Lp->Od:=iQ ["state","row","value","goal"] DA
abbrev Oe:Stmt:=iW 29
def Of:ee->Option gQ :=
(eY (iR (ja [] (zX (eJ ["Outline"] "rows" (eJ ["State"] "outline" (a6 0))) (a6 1))) 2)
(eY (jS (fB (λρ=>((eJ ["Row"] "word" (a6 2)) ρ).bind (BR ya)))
(fP (dC .none))
gp)
(eY (iR (ja [] (fV "State" "value_of" 2 el (a6 0) (zQ (eJ ["Row"] "y" (a6 2))))) 3)
(eY (iR (ja [] (k0 3 uG (fK (a6 0) (fK (a6 2) (zQ (a6 3)))))) 4)
(eY (jS (fB (d2 kK (a6 4) (dC .none)))
(fP (jT (zC "fault" (fK (a6 1) (zQ (a6 4))))))
gp)
(eY (jS (p7 (fB (d2 wo (eJ ["Row"] "word" (a6 2)) (dC (.tuple [(.str "do"),(.str "ask"),(.str "straight")])))) (fB (d2 Vi (zN (eJ ["State"] "stack" (a6 0))) (zI 30))))
(fP (jT (zC "deep" (zQ (a6 1)))))
gp)
(fP (dC .none))))))))
def kF:Lp->Od:=iQ ["state","number","row","value","word"] Of
abbrev FQ:Stmt:=iW 61
def lA:ee->Option Bool:=(λ_=>Y true)
def lB:ee->Od:=(fV "State" "value_of" 2 el (a6 1) (zQ (a6 0)))
def qH:MS :=
(gg (fi "Call" "give_name" 3 eK (b5 6) (bS (b5 7) (bS (b5 8) dy))))
def lC:MS :=
(gg (fi "Call" "give_name" 3 eK (b5 6) (bS (b5 9) (bS (b5 8) dy))))
def oF:MS :=
(eO (gq (gL (fV "State" "value_of" 2 el (a6 0) (zQ (eJ ["Row"] "y" (a6 1))))) 3)
(eO (gq (gL (k0 3 pk (fK (a6 0) (fK (a6 1) (zQ (a6 3)))))) 4)
(eO (gq (oP (ir (oJ (eJ ["Row"] "handed" (a6 1))) [(0,"state")] lA lB)) 5)
(eO (gq (rZ 3 mF (bS (b5 0) (bS (b5 4) (bS (gL (d2 hU (eJ ["Call"] "path" (fV "State" "top" 1 k6 (a6 0) f9)) (jT (zQ (a6 2))))) dy)))) 6)
(eO (ud (BS (qd (ji ["Outline"] "params" (fH "State" "outline" (b5 0))) (b5 4)) (b5 5)) (.many [7,8]) qH)
(eO (nc (fo (fB (d2 rR (eJ ["Row"] "word" (a6 1)) (zA "do"))))
(eO (gg (fi "Call" "give_name" 3 eK (b5 6) (bS (eV (zA "self")) (bS (b5 3) dy))))
(λ_ μ=>Y (.rt (.d .none) μ)))
jR)
(Fl (fH "Thing" "slots" (fi "State" "thing_of" 2 fM (b5 0) (bS (b5 3) dy))) (.many [9,8]) lC)))))))
def iS:lN:=gN ["state","row","number","value","body","handed","call","name","one","kept"] oF
abbrev DB:Stmt:=gd (iW 40) 0
def DC:MS :=
(eO (jj "Thing" "row" (b5 0) (b5 1))
(eO (jj "Thing" "path" (b5 0) (b5 2))
(eO (jj "Thing" "form" (b5 0) (b5 3))
(eO (jj "Thing" "slots" (b5 0) pZ)
(jj "Thing" "members" (b5 0) qC)))))
def uH:lN:=gN ["self","row","path","form"] DC
abbrev sR:Stmt:=gd (iW 41) 5
def sS:MS :=
(eO (gg (jw (fH "State" "made" (b5 0)) (wF "Thing" 4 uH (bS (b5 1) (bS (fH "Call" "path" (fi "State" "top" 1 fI (b5 0) dy)) (bS (b5 2) dy))))))
(jE (gL (jT (zC "thing" (zQ (d2 Ao (zN (eJ ["State"] "made" (a6 0))) (zI 1))))))))
def jy:lN:=gN ["self","row","form"] sS
abbrev Og:Stmt:=iW 44
def FR:MS :=
(rp (fH "Thing" "slots" (b5 4)) (b5 5) (eV (dC .none)))
def Oh:MS :=
(eO (gq (fi "State" "make_thing" 3 jy (b5 0) (bS (b5 2) (bS (eV (zA "record")) dy))) 3)
(eO (gq (fi "State" "thing_of" 2 fM (b5 0) (bS (b5 3) dy)) 4)
(eO (ud (NP (qd (ji ["Outline"] "fields" (fH "State" "outline" (b5 0))) (eV (eJ ["Row"] "kind" (a6 1))))) (.one 5) FR)
(gg (fi "Call" "give_name" 3 eK (fi "State" "top" 1 fI (b5 0) dy) (bS (eV (eJ ["Row"] "x" (a6 1))) (bS (b5 3) dy)))))))
def FT:lN:=gN ["state","row","number","value","thing","field"] Oh
abbrev zp:Stmt:=iW 45
def zr:MS :=
(gg (fi "Call" "give_name" 3 eK (fi "State" "top" 1 fI (b5 0) dy) (bS (eV (eJ ["Row"] "x" (a6 1))) (bS (fi "State" "make_thing" 3 jy (b5 0) (bS (b5 2) (bS (eV (zA "row")) dy))) dy))))
def qI:lN:=gN ["state","row","number"] zr
abbrev Li:Stmt:=iW 46
def DD:MS :=
(rp (fH "Thing" "slots" (b5 4)) (b5 5) (gL (fV "State" "value_of" 2 el (a6 0) (zQ (a6 6)))))
def Lj:MS :=
(eO (gq (fi "State" "make_thing" 3 jy (b5 0) (bS (b5 2) (bS (eV (zA "func")) dy))) 3)
(eO (gq (fi "State" "thing_of" 2 fM (b5 0) (bS (b5 3) dy)) 4)
(eO (ud (BS (qd (ji ["Outline"] "kept" (fH "State" "outline" (b5 0))) (eV (eJ ["Row"] "function" (a6 1)))) (eV (eJ ["Row"] "handed" (a6 1)))) (.many [5,6]) DD)
(gg (fi "Call" "give_name" 3 eK (fi "State" "top" 1 fI (b5 0) dy) (bS (eV (eJ ["Row"] "x" (a6 1))) (bS (b5 3) dy)))))))
def BW:lN:=gN ["state","row","number","value","thing","kept","name"] Lj
abbrev Lk:Stmt:=iW 47
def Ll:MS :=
(gg (fi "Call" "give_name" 3 eK (fi "State" "top" 1 fI (b5 0) dy) (bS (eV (eJ ["Row"] "x" (a6 1))) (bS (gL (fV "State" "value_of" 2 el (a6 0) (zQ (eJ ["Row"] "y" (a6 1))))) dy))))
def BX:lN:=gN ["state","row","number"] Ll
abbrev Lm:Stmt:=iW 48
def Ln:MS :=
(eO (gq (fi "State" "thing_of" 2 fM (b5 0) (bS (gL (fV "State" "value_of" 2 el (a6 0) (zQ (eJ ["Row"] "y" (a6 1))))) dy)) 3)
(gg (fi "Call" "give_name" 3 eK (fi "State" "top" 1 fI (b5 0) dy) (bS (eV (eJ ["Row"] "x" (a6 1))) (bS (qd (fH "Thing" "slots" (b5 3)) (eV (eJ ["Row"] "field" (a6 1)))) dy)))))
def BY:lN:=gN ["state","row","number","thing"] Ln
abbrev Oi:Stmt:=iW 49
def Oj:MS :=
(eO (gq (fi "State" "thing_of" 2 fM (b5 0) (bS (gL (fV "State" "value_of" 2 el (a6 0) (zQ (eJ ["Row"] "y" (a6 1))))) dy)) 3)
(rp (fH "Thing" "slots" (b5 3)) (eV (eJ ["Row"] "field" (a6 1))) (gL (fV "State" "value_of" 2 el (a6 0) (zQ (eJ ["Row"] "x" (a6 1)))))))
def FU:lN:=gN ["state","row","number","thing"] Oj
abbrev Lo:Stmt:=iW 50
def Lq:MS :=
(eO (gq (fi "State" "thing_of" 2 fM (b5 0) (bS (gL (fV "State" "value_of" 2 el (a6 0) (zQ (eJ ["Row"] "y" (a6 1))))) dy)) 3)
(gg (jw (fH "Thing" "members" (b5 3)) (gL (fV "State" "value_of" 2 el (a6 0) (zQ (eJ ["Row"] "x" (a6 1))))))))
def BZ:lN:=gN ["state","row","number","thing"] Lq
abbrev Lu:Stmt:=iW 51
def Lv:MS :=
(eO (gq (fi "State" "thing_of" 2 fM (b5 0) (bS (gL (fV "State" "value_of" 2 el (a6 0) (zQ (eJ ["Row"] "y" (a6 1))))) dy)) 3)
(eO (gq (eV (dC .none)) 4)
(eO (nc (fo (rg (eJ ["Thing"] "members" (a6 3))))
(gq (HJ (fH "Thing" "members" (b5 3))) 4)
jR)
(gg (fi "Call" "give_name" 3 eK (fi "State" "top" 1 fI (b5 0) dy) (bS (eV (eJ ["Row"] "x" (a6 1))) (bS (b5 4) dy)))))))
def B0:lN:=gN ["state","row","number","thing","value"] Lv
abbrev Ly:Stmt:=iW 52
def Lz:MS :=
(gg (jw (fH "State" "shown_texts" (b5 0)) (gL (k0 2 oR (fK (a6 0) (zQ (fV "State" "value_of" 2 el (a6 0) (zQ (eJ ["Row"] "x" (a6 1))))))))))
def B3:lN:=gN ["state","row","number"] Lz
abbrev DE:Stmt:=iW 53
def DF:MS :=
jR
def pR:lN:=gN ["state","row","number"] DF
abbrev FV:Stmt:=iW 2
def FW:ee->Option gQ :=
(fP (Yt (yR (Uq (a6 0)) (yR (zA ".") (yR (Uq (a6 1)) (λ_=>Y Str.empty))))))
def oG:Lp->Od:=iQ ["name","field"] FW
abbrev Ig:Stmt:=iW 54
def AO:MS :=
(gg (fi "Call" "give_name" 3 eK (fi "State" "top" 1 fI (b5 0) dy) (bS (eV (k0 2 oG (fK (eJ ["Row"] "x" (a6 1)) (zQ (a6 3))))) (bS (eV (dC .none)) dy))))
def Ih:MS :=
(eO (gg (fi "Call" "give_name" 3 eK (fi "State" "top" 1 fI (b5 0) dy) (bS (eV (eJ ["Row"] "x" (a6 1))) (bS (eV (jT (zC "mark" (zQ (eJ ["Row"] "kind" (a6 1)))))) dy))))
(ud (NP (qd (ji ["Outline"] "fields" (fH "State" "outline" (b5 0))) (eV (eJ ["Row"] "kind" (a6 1))))) (.one 3) AO))
def zt:lN:=gN ["state","row","number","field"] Ih
abbrev Ol:Stmt:=iW 55
def Om:MS :=
(gg (fi "Call" "give_name" 3 eK (fi "State" "top" 1 fI (b5 0) dy) (bS (eV (eJ ["Row"] "x" (a6 1))) (bS (gL (fV "State" "value_of" 2 el (a6 0) (zQ (k0 2 oG (fK (eJ ["Row"] "y" (a6 1)) (zQ (eJ ["Row"] "field" (a6 1)))))))) dy))))
def FX:lN:=gN ["state","row","number"] Om
abbrev Ii:Stmt:=iW 56
def Ij:MS :=
(gg (fi "Call" "give_name" 3 eK (fi "State" "top" 1 fI (b5 0) dy) (bS (eV (k0 2 oG (fK (eJ ["Row"] "y" (a6 1)) (zQ (eJ ["Row"] "field" (a6 1)))))) (bS (gL (fV "State" "value_of" 2 el (a6 0) (zQ (eJ ["Row"] "x" (a6 1))))) dy))))
def zu:lN:=gN ["state","row","number"] Ij
abbrev sU:Stmt:=gd (iW 41) 6
def gC:MS :=
(eO (nc (fo (fB (d2 Vi (eJ ["State"] "used" (a6 0)) (zN (eJ ["State"] "inputs" (a6 0))))))
(jE (eV (zI 0)))
jR)
(eO (ua "State" "used" (λi j=>i+j) (b5 0) (eV (zI 1)))
(jE (qd (fH "State" "inputs" (b5 0)) (gL (d2 Ao (eJ ["State"] "used" (a6 0)) (zI 1)))))))
def fW:lN:=gN ["self"] gC
abbrev LA:Stmt:=iW 59
def ri:MS :=
(eO (nc (fo (fB (d2 kZ (eJ ["Row"] "condition" (a6 1)) (zA "choose"))))
(jE (m2 rR (fi "State" "next_input" 1 fW (b5 0) dy) (eV (zI 0))))
jR)
(eO (gq (gL (fV "State" "value_of" 2 el (a6 0) (zQ (eJ ["Row"] "x" (a6 1))))) 2)
(eO (nc (fo (fB (d2 kZ (eJ ["Row"] "condition" (a6 1)) (zA "some"))))
(jE (eV (d2 kK (a6 2) (dC .none))))
jR)
(eO (gq (gL (fV "State" "value_of" 2 el (a6 0) (zQ (eJ ["Row"] "y" (a6 1))))) 3)
(eO (nc (fo (GF (fB (d2 nP (a6 2) (dC .none))) (fB (d2 nP (a6 3) (dC .none)))))
(jE (eV (rY (d2 nP (a6 2) (dC .none)) (d2 nP (a6 3) (dC .none)))))
jR)
(jE (eV (rY (d2 kZ (a6 2) (a6 3)) (d2 kZ (zX (a6 2) (zI 0)) (zA "thing"))))))))))
def kc:lN:=gN ["state","row","one","other"] ri
abbrev Oo:Stmt:=iW 58
noncomputable def DG:List (Str×Str×lN):=[("new","do_new",FT),("row","do_row_thing",qI),("func","do_func",BW),("copy","do_copy",BX),("take","do_take",BY),("put","do_put",FU),("push","do_push",BZ),("pull","do_pull",B0),("tell","do_tell",B3),("rest","do_nothing",pR),("check","do_nothing",pR),("fresh","do_fresh",zt),("own","do_own",FX),("place","do_place",zu)]
def uI:MS :=
(eO (gq (qd (ji ["Outline"] "rows" (fH "State" "outline" (b5 0))) (b5 1)) 2)
(eO (gq (fi "State" "top" 1 fI (b5 0) dy) 3)
(eO (nc (fo (fB (d2 wo (eJ ["Row"] "word" (a6 2)) (dC (.tuple [(.str "do"),(.str "ask"),(.str "straight")])))))
(gg (rZ 3 iS (bS (b5 0) (bS (b5 2) (bS (b5 1) dy)))))
(nc (fo (fB (d2 kZ (eJ ["Row"] "word" (a6 2)) (zA "give"))))
(gg (rZ 2 h9 (bS (b5 0) (bS (gL (fV "State" "value_of" 2 el (a6 0) (zQ (eJ ["Row"] "x" (a6 2))))) dy))))
(nc (Fi (fo (fB (d2 wo (eJ ["Row"] "word" (a6 2)) (dC (.tuple [(.str "if"),(.str "while")]))))) (qD (jY (rZ 2 kc (bS (b5 0) (bS (b5 2) dy))))))
(jj "Call" "row" (b5 3) (qd (ji ["Flow"] "otherwise" (fH "State" "flow" (b5 0))) (b5 1)))
(eO (nc (fo (fB (λρ=>((eJ ["Row"] "word" (a6 2)) ρ).bind (HL pN))))
(gg (NR 3 DG (eV (eJ ["Row"] "word" (a6 2))) (bS (b5 0) (bS (b5 2) (bS (b5 1) dy)))))
jR)
(jj "Call" "row" (b5 3) (qd (ji ["Flow"] "behind" (fH "State" "flow" (b5 0))) (b5 1)))))))
(gg (rZ 1 hJ (bS (b5 0) dy))))))
def pq:lN:=gN ["state","number","row","call"] uI
abbrev zx:Stmt:=gd (iW 65) 1
def iF:MS :=
(eO (gq (fH "Machine" "state" (b5 0)) 1)
(eO (nc (fo (fB (d2 kK (eJ ["State"] "ended" (a6 1)) (dC .none))))
(jE (eV (dC (.bool false))))
jR)
(eO (nc (fo (fB (d2 CT (eJ ["State"] "fuel" (a6 1)) (zI 0))))
(eO (jj "State" "ended" (b5 1) (eV (jT (zC "dry" f9))))
(jE (eV (dC (.bool true)))))
jR)
(eO (ua "State" "fuel" (λi j=>i - j) (b5 1) (eV (zI 1)))
(eO (gq (fH "Call" "row" (fi "State" "top" 1 fI (b5 1) dy)) 2)
(eO (jj "State" "ended" (b5 1) (gL (k0 2 kF (fK (a6 1) (zQ (a6 2))))))
(eO (nc (fo (fB (d2 nP (eJ ["State"] "ended" (a6 1)) (dC .none))))
(gg (rZ 2 pq (bS (b5 1) (bS (b5 2) dy))))
jR)
(jE (eV (dC (.bool true)))))))))))
def eB:lN:=gN ["self","state","number"] iF
abbrev zz:Stmt:=gd (iW 74) 0
def zD:ee->Option gQ :=
(eY (ER 0 "Reading" "fields" (ja [0] (dC (.dict []))))
(eY (ER 0 "Reading" "heads" (ja [0] (dC (.dict []))))
(eY (lp 0 "Reading" "body" (ja [0] (dC .none)))
(eY (ER 0 "Reading" "blocks" (ja [0] (je f9)))
(eY (lp 0 "Reading" "over" (ja [0] (dC (.bool false))))
(ER 0 "Reading" "later" (ja [0] (je f9))))))))
def qJ:Lp->Option (eA×eA):=qz ["self"] zD
abbrev xt:Stmt:=iW 71
def sV:ee->Option gQ :=
(eY (iR (ja [1] (KS j8 (a6 5) (zC " " f9))) 6)
(jS (fB (d2 kZ (zX (a6 6) (zI 0)) (zA "end")))
(Nj 3 (λi j=>i - j) (ja [1] (zI 1)))
(jS (fB (d2 vc (a6 3) (zI 0)))
(eY (jS (fB (d2 rR (zX (a6 6) (zI 0)) (zA "else")))
(Ho (.sl 1) (Uk (zN (a6 1))) (ja [1] (jT (fK (a6 4) (fK (a6 6) (zQ (a6 2)))))))
gp)
(jS (fB (d2 wo (zX (a6 6) (zI 0)) (dC (.tuple [(.str "if"),(.str "while")]))))
(Nj 3 (λi j=>i+j) (ja [1] (zI 1)))
gp))
(jS (fB (d2 rR (zX (a6 6) (zI 0)) (zA "kind")))
(eY (iR (ja [1] (k0 1 k4 (zQ (a6 6)))) 2)
(iR (ja [1] (zI 1)) 3))
gp))))
def xu:ee->Option gQ :=
(eY (nJ (ja [1] (dC (.dict []))) 1)
(eY (iR (ja [1] (dC .none)) 2)
(eY (iR (ja [1] (zI 0)) 3)
(eY (tS (Qm [1] (Nx (KS j8 (a6 0) (zC "\n" f9)))) (.many [4,5]) sV)
(fP (a6 1))))))
def p3:Lp->Od:=iQ ["text","rows","body","depth","line","row","words"] xu
abbrev zF:Stmt:=gd (iW 70) 0
def zG:ee->Option gQ :=
(eY (lp 0 "Program" "text" (ja [0] (a6 1)))
(eY (lp 0 "Program" "numbered" (ja [0] (k0 1 p3 (zQ (a6 1)))))
(lp 0 "Program" "body_texts" (Ul (iC nN (zQ (k0 1 pP (zQ (a6 0)))))))))
def qK:Lp->Option (eA×eA):=qz ["self","text"] zG
abbrev qL:Stmt:=iW 84
def qM:ee->Option gQ :=
(eY (jS (fB (d2 kZ (eJ ["Row"] "word" (a6 1)) (zA "straight")))
(fP (d2 wo (k0 2 kE (fK (eJ ["Row"] "kind" (a6 1)) (zQ (eJ ["Row"] "method" (a6 1))))) (eJ ["Reading"] "heads" (a6 0))))
gp)
(eY (jS (GF (fB (d2 kZ (eJ ["Row"] "function" (a6 1)) (zA "main"))) (fB (d2 qu (eJ ["Row"] "function" (a6 1)) (eJ ["Reading"] "heads" (a6 0)))))
(fP (dC (.bool false)))
gp)
(fP (d2 kZ (zN (k0 1 mD (zQ (zX (eJ ["Reading"] "heads" (a6 0)) (eJ ["Row"] "function" (a6 1)))))) (zN (eJ ["Row"] "handed" (a6 1)))))))
def mG:Lp->Od:=iQ ["reading","row"] qM
abbrev AQ:Stmt:=iW 82
def AR:ee->Option gQ :=
(eY (jS (rg (eJ ["Reading"] "blocks" (a6 0)))
(eY (VA (.fl 0 "Reading" "blocks"))
Nl)
gp)
(eY (lp 0 "Reading" "over" (Uk (d2 kZ (eJ ["Reading"] "body" (a6 0)) (zA "main"))))
(lp 0 "Reading" "body" (ja [0] (dC .none)))))
def r9:Lp->Option (eA×eA):=qz ["reading"] AR
abbrev xv:Stmt:=iW 83
def xw:ee->Option gQ :=
(eY (jS (GF (p8 (rg (eJ ["Reading"] "blocks" (a6 0)))) (fB (d2 rR (zX (eJ ["Reading"] "blocks" (a6 0)) (zI (-1))) (zA "if"))))
(ou (dC (.bool false)))
gp)
(eY (Ho (.fl 0 "Reading" "blocks") (ja [0] (zI (-1))) (ja [0] (zA "else")))
(ou (dC (.bool true)))))
def p4:Lp->Option (eA×eA):=qz ["reading"] xw
abbrev DH:Stmt:=iW 21
def xx:ee->Option gQ :=
(jS (p8 (CU CT CT (zA "a") (a6 1) (zA "z")))
(fP (dC (.bool false)))
gp)
def DI:ee->Option gQ :=
(eY (tS (Qm [] (wA (a6 0))) (.one 1) xx)
(fP (d2 rR (a6 0) (zA ""))))
def uJ:Lp->Od:=iQ ["word","sign"] DI
abbrev LB:Stmt:=iW 22
def LC:ee->Option gQ :=
(fP (rY (d2 CT (zN (a6 0)) (zI 8)) (k0 1 uJ (zQ (a6 0)))))
def vT:Lp->Od:=iQ ["word"] LC
abbrev Oq:Stmt:=iW 23
def FY:ee->Option Bool:=(λ_=>Y true)
def FZ:ee->Od:=(k0 1 vT (zQ (a6 0)))
def Ot:ee->Option gQ :=
(eY (jS (GF (p8 (rg (a6 0))) (p8 (rg (iC S7 (zQ (ir (oJ (a6 0)) [] FY FZ))))))
(fP (dC (.bool false)))
gp)
(eY (iR (ja [] (k0 1 vK (zQ (a6 0)))) 1)
(eY (jS (fB (d2 nP (a6 1) (dC .none)))
(fP (dC (.bool false)))
gp)
(eY (jS (p7 (rg (a6 1)) (fB (d2 kZ (zX (a6 1) (zI (-1))) (zA "A"))))
(fP (d2 Vi (zN (a6 0)) (zN (a6 1))))
gp)
(fP (d2 kZ (zN (a6 0)) (d2 hU (zN (a6 1)) (zI 1))))))))
def F0:Lp->Od:=iQ ["words","form"] Ot
abbrev zH:Stmt:=iW 81
def zJ:ee->Option gQ :=
(eY (jS (fB (d2 kZ (a6 2) (je (zC "end" f9))))
(eY (Nq (By [0] 0 1 r9 f9))
(ou (dC (.bool true))))
gp)
(eY (jS (fB (d2 kZ (a6 2) (je (zC "else" f9))))
(Jq (By [0] 0 1 p4 f9))
gp)
(eY (jS (p8 (rg (k0 1 F0 (zQ (a6 2)))))
(ou (dC (.bool false)))
gp)
(eY (iR (ja [0] (Bx "Row" 2 sJ (zQ (a6 2)))) 3)
(eY (jS (p7 (fB (d2 kK (eJ ["Row"] "kind" (a6 3)) (dC .none))) (fB (d2 qu (eJ ["Row"] "kind" (a6 3)) (eJ ["Reading"] "fields" (a6 0)))))
(ou (dC (.bool false)))
gp)
(eY (jS (fB (d2 wo (eJ ["Row"] "word" (a6 3)) (dC (.tuple [(.str "if"),(.str "while")]))))
(om (.fl 0 "Reading" "blocks") (ja [0] (eJ ["Row"] "word" (a6 3))))
gp)
(eY (jS (fB (d2 wo (eJ ["Row"] "word" (a6 3)) (jT (zC "func" (zC "straight" f9)))))
(om (.fl 0 "Reading" "later") (ja [0] (jT (fK (a6 1) (zQ (a6 3))))))
gp)
(ou (d2 CT (zN (eJ ["Reading"] "blocks" (a6 0))) (zI 8))))))))))
def qN:Lp->Option (eA×eA):=qz ["reading","line","words","row"] zJ
abbrev Ik:Stmt:=iW 80
def Il:ee->Option gQ :=
(fP (d2 kZ (Jv (a6 0)) (zN (a6 0))))
def sW:Lp->Od:=iQ ["names"] Il
abbrev DJ:Stmt:=iW 77
def DK:ee->Option gQ :=
(eY (jS (GF (rg (eJ ["Reading"] "heads" (a6 0))) (GF (fB (d2 Ro (zN (a6 1)) (zI 2))) (fB (d2 wo (zX (a6 1) (zI 1)) (eJ ["Reading"] "fields" (a6 0))))))
(ou (dC (.bool false)))
gp)
(eY (iR (ja [0,3] (jL (a6 1) (kx (zI 2)) ku)) 2)
(eY (nJ (ja [0,3] (je f9)) 3)
(eY (jS (p7 (rg (a6 2)) (fB (d2 kZ (zX (a6 2) (zI 0)) (zA "of"))))
(eY (jS (GF (fB (d2 Ro (zN (a6 2)) (zI 2))) (fB (d2 qu (zX (a6 2) (zI 1)) (eJ ["Reading"] "fields" (a6 0)))))
(ou (dC (.bool false)))
gp)
(eY (nJ (Ul (iC nN (zQ (zX (eJ ["Reading"] "fields" (a6 0)) (zX (a6 2) (zI 1)))))) 3)
(iR (ja [0,3] (jL (a6 2) (kx (zI 2)) ku)) 2)))
gp)
(eY (jS (p7 (rg (a6 2)) (GF (fB (d2 rR (zX (a6 2) (zI 0)) (zA "fields"))) (fB (d2 Ro (zN (a6 2)) (zI 2)))))
(ou (dC (.bool false)))
gp)
(eY (xV (.sl 3) (ja [0,3] (xY (a6 2) (kx (zI 1)) ku)))
(S9 3 (eY (Ho (.fl 0 "Reading" "fields") (ja [0] (zX (a6 1) (zI 1))) (ja [0] (a6 3)))
(ou (k0 1 sW (zQ (a6 3))))))))))))
def uK:Lp->Option (eA×eA):=qz ["reading","words","behind","fields"] DK
abbrev uL:Stmt:=iW 79
def uM:ee->Option gQ :=
(eY (jS (p7 (fB (d2 kZ (zX (a6 0) (zI 0)) (zA "func"))) (p7 (fB (d2 wo (zA "keeps") (jL (a6 0) (kx (zI 2)) ku))) (p8 (rg (k0 1 mD (zQ (a6 0)))))))
(fP (dC (.bool false)))
gp)
(eY (iR (ja [] (d2 hU (k0 1 oQ (zQ (a6 0))) (k0 1 mD (zQ (a6 0))))) 1)
(fP (rY (d2 qu (zA "self") (a6 1)) (k0 1 sW (zQ (a6 1)))))))
def lD:Lp->Od:=iQ ["words","names"] uM
abbrev LD:Stmt:=iW 78
def LF:ee->Option gQ :=
(eY (jS (fB (d2 kZ (zX (a6 1) (zI 0)) (zA "func")))
(fP (rY (d2 vc (zN (a6 1)) (zI 1)) (rY (d2 rR (zX (a6 1) (zI 1)) (zA "main")) (k0 1 lD (zQ (a6 1))))))
gp)
(eY (jS (fB (d2 kZ (zX (a6 1) (zI 0)) (zA "method")))
(fP (rY (d2 vc (zN (a6 1)) (zI 2)) (rY (d2 wo (zX (a6 1) (zI 1)) (eJ ["Reading"] "fields" (a6 0))) (k0 1 lD (zQ (a6 1))))))
gp)
(fP (d2 kZ (a6 1) (je (zC "main" f9))))))
def B4:Lp->Od:=iQ ["reading","words"] LF
abbrev F1:Stmt:=iW 76
def F2:ee->Option gQ :=
(eY (jS (rg (eJ ["Reading"] "over" (a6 0)))
(ou (dC (.bool false)))
gp)
(eY (jS (fB (d2 kK (eJ ["Reading"] "body" (a6 0)) (dC .none)))
(Jq (By [0] 0 3 qN (fK (a6 1) (zQ (a6 2)))))
gp)
(eY (jS (fB (d2 kZ (zX (a6 2) (zI 0)) (zA "kind")))
(Jq (By [0] 0 2 uK (zQ (a6 2))))
gp)
(eY (jS (GF (p8 (rg (k0 2 B4 (fK (a6 0) (zQ (a6 2)))))) (fB (d2 wo (k0 1 k4 (zQ (a6 2))) (eJ ["Reading"] "heads" (a6 0)))))
(ou (dC (.bool false)))
gp)
(eY (lp 0 "Reading" "body" (ja [0] (k0 1 k4 (zQ (a6 2)))))
(eY (Ho (.fl 0 "Reading" "heads") (Uk (eJ ["Reading"] "body" (a6 0))) (ja [0] (a6 2)))
(ou (dC (.bool true)))))))))
def wN:Lp->Option (eA×eA):=qz ["reading","line","words"] F2
abbrev zR:Stmt:=iW 75
def uN:ee->Option Bool:=(λ_=>Y true)
def uO:ee->Od:=(KS j8 (a6 0) (zC " " f9))
def uP:ee->Option Bool:=(λ_=>Y true)
def uQ:ee->Od:=(k0 1 vT (zQ (a6 0)))
def uR:ee->Option gQ :=
(VF (Z4 (p8 (rg (iC S7 (zQ (ir (oJ (a6 4)) [] uP uQ))))) (VD (hT (By [1] 1 3 wN (fK (a6 3) (zQ (a6 4)))))))
CM
gp)
def uS:ee->Option gQ :=
(jS (p8 (rg (k0 2 mG (fK (a6 1) (zQ (a6 5))))))
CM
gp)
def zT:ee->Option gQ :=
(eY (nJ (ja [1] (Bx "Reading" 1 qJ f9)) 1)
(eY (iR (ja [1] (ir (oJ (KS j8 (a6 0) (zC "\n" f9))) [] uN uO)) 2)
(eY (tS (Qm [1] (Nx (a6 2))) (.many [3,4]) uR)
(eY (jS (p8 (rg (eJ ["Reading"] "over" (a6 1))))
CM
gp)
(S9 1 (eY (tS (Qm [] (wA (eJ ["Reading"] "later" (a6 1)))) (.many [3,5]) uS)
(fP (Bx "Program" 2 qK (zQ (a6 0))))))))))
def nW:Lp->Od:=iQ ["text","reading","rows","line","words","row"] zT
abbrev xy:Stmt:=gd (iW 65) 4
def nX:ee->Option Bool:=(λ_=>Y true)
def nY:ee->Od:=(eJ ["Call"] "row" (a6 0))
def iG:MS :=
(gg (jw (b5 1) (K4 (bS (fH "Call" "body" (b5 3)) (bS (b5 4) (bS (zb (eJ ["Call"] "named" (a6 3))) dy))))))
def kN:MS :=
(eO (gq qC 1)
(eO (gq (oP (d2 BK (ir (oJ (jL (eJ ["State"] "stack" (eJ ["Machine"] "state" (a6 0))) ku (kx (zI (-1))))) [] nX nY) (je (zQ (dC .none))))) 2)
(eO (Oc (fH "State" "stack" (fH "Machine" "state" (b5 0))) (b5 2) (.many [3,4]) iG)
(jE (b5 1)))))
def fN:lN:=gN ["self","told","waits","call","row"] kN
abbrev AU:Stmt:=iW 89
def jm:MS :=
(eO (gq (eV (d2 hU (a6 2) (zI 1))) 2)
(nc (jY (m2 vc (zc yK (fi "Machine" "calls" 1 fN (b5 0) dy)) (b5 1)))
(jE (eV (dC .none)))
jR))
def mh:MS :=
(eO (gq (eV (zI 0)) 2)
(eO (Dg (jY (fi "Machine" "step" 1 eB (b5 0) dy)) jm)
(jE (b5 2))))
def i5:lN:=gN ["_law_machine","_law_most","_law_steps"] mh
abbrev zU:Stmt:=gd (iW 65) 2
def zV:MS :=
(jE (RE (fH "State" "shown_texts" (fH "Machine" "state" (b5 0)))))
def gJ:lN:=gN ["self"] zV
abbrev AV:Stmt:=gd (iW 65) 3
def AW:ee->Option gQ :=
(fP (eJ ["State"] "ended" (eJ ["Machine"] "state" (a6 0))))
def g0:Lp->Od:=iQ ["self"] AW
abbrev DL:Stmt:=iW 88
def iN:ee->Option Bool:=(λ_=>Y true)
def iO:ee->Od:=(zX (a6 0) (zI 1))
def nh:MS :=
(eO (gq (fi "Machine" "calls" 1 fN (b5 0) dy) 3)
(eO (nc (fo (fB (d2 rR (zN (a6 3)) (a6 2))))
(jE (eV (dC (.bool false))))
jR)
(eO (gq (oP (ir (oJ (a6 3)) [] iN iO)) 4)
(jE (eV (d2 kZ (a6 4) (d2 hU (d2 hU (d2 vC (je (zQ (zX (a6 1) (zI 0)))) (iC lV (zQ (d2 vc (a6 2) (zI 1))))) (d2 vC (je (zQ (zX (a6 1) (zI 1)))) (d2 Ao (a6 2) (zI 2)))) (je (zQ (dC .none))))))))))
def iT:lN:=gN ["_law_machine","_law_call","_law_many","_law_calls","_law_waits"] nh
abbrev VZ:Stmt:=iW 90
def F3:ee->Option Bool:=(fB (d2 qu (zX (KS j8 (a6 0) (zC " " f9)) (zI 0)) (jT (zC "kind" (zC "func" (zC "method" (zC "main" (zC "else" (zC "end" f9)))))))))
def F4:ee->Od:=(a6 0)
def F5:ee->Option Bool:=(fB (d2 wo (zX (KS j8 (a6 0) (zC " " f9)) (zI 0)) (jT (zC "if" (zC "do" (zC "rest" (zC "give" (zC "new" (zC "tell" f9)))))))))
def F6:ee->Od:=(a6 0)
def pv:ee->Option Bool:=(λ_=>Y true)
def nZ:ee->Od:=(d2 hU (zI 1) (d2 wZ (k0 2 i0 (fK (a6 1) (zQ (d2 hU (zI 2) (a6 0))))) (d2 P2 (zI 10) (zI 9))))
def uT:MS :=
(gg (fi "Machine" "step" 1 eB (b5 10) dy))
def uU:MS :=
(eO (nc (qD (jY (rZ 3 iT (bS (b5 10) (bS (b5 8) (bS (eV (d2 hU (zI 2) (a6 12))) dy))))))
(jE (eV (dC (.bool false))))
jR)
(eO (gg (fi "Machine" "step" 1 eB (b5 10) dy))
(gg (fi "Machine" "step" 1 eB (b5 10) dy))))
def JO:MS :=
(eO (gq (eV (k0 2 i0 (fK (a6 0) (zQ (zI 0))))) 1)
(eO (gq (eV (d2 vc (d2 wZ (a6 1) (zI 3)) (zI 0))) 2)
(eO (gq (eV (d2 wZ (d2 KA (a6 1) (zI 3)) (zI 3))) 3)
(eO (gq (eV (d2 vc (d2 wZ (d2 KA (a6 1) (zI 9)) (zI 3)) (zI 0))) 4)
(eO (gq (eV (d2 wZ (k0 2 i0 (fK (a6 0) (zQ (zI 1)))) (zI 41))) 5)
(eO (gq (eV (k0 3 k7 (fK (d2 wZ (a6 1) (zI 3)) (fK (a6 3) (zQ (a6 4)))))) 6)
(eO (gq (eV (ir (oJ (a6 6)) [] F3 F4)) 7)
(eO (nc (fo (p8 (rg (a6 2))))
(eO (gq (eV (ir (oJ (a6 6)) [] F5 F6)) 7)
(gq (eV (d2 hU (d2 hU (jL (a6 7) ku (kx (zI (-2)))) (je (zC "func b fa a" f9))) (jL (a6 7) (kx (zI (-2))) ku))) 7))
jR)
(eO (gq (eV (jT (fK (d2 Ao (zN (a6 7)) (zI 2)) (zQ (zI 1))))) 8)
(eO (gq (eV (d2 hU (ir (j5 (a6 5)) [(0,"_law_script")] pv nZ) (d2 vC (je (zQ (zI 0))) (d2 wZ (d2 KA (a6 1) (zI 27)) (zI 2))))) 9)
(eO (gq (wF "Machine" 4 nV (bS (eV (k0 1 nW (zQ (KS y7 (zA "\n") (zQ (a6 6)))))) (bS (b5 9) (bS (eV (zI 1000)) dy)))) 10)
(eO (gq (eV (d2 hU (zI 2) (iC lV (zQ (ND (a6 2)))))) 11)
(eO (ud (Fb (j5 (a6 11))) (.one 12) uT)
(eO (gq (eV (iC P7 (fK (a6 5) (zQ (zI 28))))) 13)
(eO (ud (Fb (j5 (a6 13))) (.one 12) uU)
(eO (nc (fo (fB (d2 vc (a6 5) (zI 28))))
(eO (gg (fi "Machine" "step" 1 eB (b5 10) dy))
(eO (nc (qD (jY (rZ 3 iT (bS (b5 10) (bS (b5 8) (bS (eV (zI 30)) dy))))))
(jE (eV (dC (.bool false))))
jR)
(eO (gg (fi "Machine" "step" 1 eB (b5 10) dy))
(jE (Dj (gL (d2 kZ (fV "Machine" "end" 1 g0 (a6 10) f9) (jT (zC "deep" (zQ (zI 1)))))) (Dj (m2 kZ (fi "Machine" "told" 1 gJ (b5 10) dy) (eV (je f9))) (m2 nP (fi "Machine" "step" 1 eB (b5 10) dy) (eV (dC (.bool false))))))))))
jR)
(eO (nc (jY (m2 rR (rZ 2 i5 (bS (b5 10) (bS (eV (d2 hU (zI 2) (a6 5))) dy))) (eV (d2 hU (d2 hU (zI 2) (iC lV (zQ (Qy (a6 4) (d2 vc (a6 3) (zI 0)))))) (d2 ET (a6 5) (d2 hU (a6 3) (iC lV (zQ (d2 vc (a6 3) (zI 0))))))))))
(jE (eV (dC (.bool false))))
jR)
(eO (gq (eV (zA "none")) 14)
(eO (nc (fo (p7 (rg (a6 4)) (GF (fB (d2 vc (a6 3) (zI 0))) (fB (d2 kZ (a6 5) (zI 0))))))
(gq (eV (zA "ka")) 14)
jR)
(jE (Dj (m2 kZ (fi "Machine" "told" 1 gJ (b5 10) dy) (eV (je (zQ (a6 14))))) (gL (d2 kZ (fV "Machine" "end" 1 g0 (a6 10) f9) (jT (zC "given" (zC "none" f9))))))))))))))))))))))))))
def F7:Lp->Od:=Fd ["_law_script","_law_first","_law_method","_law_behind","_law_gives","_law_deep","_law_lines_here","_law_numbered","_law_call","_law_inputs","_law_machine","_law_ahead","_law_k","_law_most","_law_due"] JO
structure Md (P:Program) (w:World) (K:Fg) (mg:Str->Ow):Prop where
 all:mg "all"=Z
 dict:mg "dict"=Z
 enumerate:mg "enumerate"=Z
 int:mg "int"=Z
 len:mg "len"=Z
 list:mg "list"=Z
 min:mg "min"=Z
 range:mg "range"=Z
 reversed:mg "reversed"=Z
 set:mg "set"=Z
 sorted:mg "sorted"=Z
 zip:mg "zip"=Z
 wO:fU K "Call" "body"
 lE:fU K "Call" "named"
 qO:fU K "Call" "path"
 iH:fU K "Call" "row"
 mj:fU K "Flow" "behind"
 pS:fU K "Flow" "first"
 ke:fU K "Flow" "otherwise"
 gM:fU K "Machine" "state"
 jn:fU K "Outline" "fields"
 jF:fU K "Outline" "heads"
 p5:fU K "Outline" "homes"
 n0:fU K "Outline" "kept"
 kY:fU K "Outline" "own_rows"
 jo:fU K "Outline" "params"
 iI:fU K "Outline" "rows"
 kO:fU K "Outline" "table"
 qP:fU K "Program" "body_texts"
 jz:fU K "Program" "numbered"
 qQ:fU K "Program" "text"
 gE:fU K "Reading" "blocks"
 jq:fU K "Reading" "body"
 gX:fU K "Reading" "fields"
 ic:fU K "Reading" "heads"
 mQ:fU K "Reading" "later"
 lF:fU K "Reading" "over"
 mR:fU K "Row" "condition"
 jZ:fU K "Row" "field"
 jr:fU K "Row" "function"
 lG:fU K "Row" "handed"
 jA:fU K "Row" "kind"
 ni:fU K "Row" "method"
 F8:fU K "Row" "names"
 gf:fU K "Row" "word"
 iU:fU K "Row" "x"
 lH:fU K "Row" "y"
 i8:fU K "State" "ended"
 lI:fU K "State" "flow"
 pT:fU K "State" "fuel"
 n3:fU K "State" "inputs"
 kf:fU K "State" "made"
 fF:fU K "State" "outline"
 kl:fU K "State" "shown_texts"
 gz:fU K "State" "stack"
 nj:fU K "State" "used"
 pU:fU K "Thing" "form"
 kP:fU K "Thing" "members"
 DM:fU K "Thing" "path"
 oH:fU K "Thing" "row"
 jJ:fU K "Thing" "slots"
 pN:y4 P w K mg "DEEDS" pN
 jK:C7 K mg "BLOCK_WORDS" (.tuple [(.str "if"),(.str "while")])
 vU:C7 K mg "CALLERS" (.tuple [(.str "do"),(.str "ask"),(.str "straight")])
 uV:lq P w K mg "CONDITIONS" ng
 Q2:lq P w K mg "FORMS" Dq
 AX:C7 K mg "MOST_BLOCKS" (.int 8)
 DN:C7 K mg "MOST_CALLS" (.int 30)
 JP:lq P w K mg "SORTS" ya
 LG:gw K mg "form_of" Lc
 Im:gw K mg "parts_of" HY
 Io:xb K mg "Row" "Row.__init__" H7
 sX:mK K "Program" "row_body" "Program.row_body" sL
 xA:mK K "Program" "shown" "Program.shown" xf
 xB:gw K mg "rows_of_words" xh
 sY:gw K mg "elder_and_fields" sP
 DO:gw K mg "kind_table" Dr
 AY:gw K mg "method_body" AF
 F9:gw K mg "head_body" Fw
 DP:gw K mg "body_heads" Dt
 rG:mK K "Program" "row_words" "Program.row_words" rq
 AZ:gw K mg "head_params" AH
 Ga:gw K mg "head_kept" Fy
 uW:gw K mg "kind_and_elders" um
 Gb:gw K mg "fields_by" FA
 rH:mK K "Program" "many_rows" "Program.many_rows" rA
 zW:xb K mg "Outline" "Outline.__init__" zf
 DQ:gw K mg "body_marks" Dv
 vV:mK K "Flow" "join_rows" "Flow.join_rows" vL
 Gd:xb K mg "Flow" "Flow.__init__" FD
 DR:xb K mg "State" "State.__init__" Dx
 Ge:xb K mg "Call" "Call.__init__" FF
 Gf:gw K mg "call_body" FG
 wQ:mK K "State" "top" "State.top" FH
 vW:mK K "Call" "give_name" "Call.give_name" vN
 uX:mK K "Outline" "made_by" "Outline.made_by" uE
 rJ:mK K "Outline" "made_kind" "Outline.made_kind" rE
 xC:mK K "State" "kind_of" "State.kind_of" xm
 px:mK K "State" "thing_of" "State.thing_of" vO
 pA:mK K "Outline" "made_function" "Outline.made_function" ph
 A0:gw K mg "shown_value" AJ
 Ip:gw K mg "end_call" Ib
 Gg:gw K mg "end_calls" FJ
 zY:xb K mg "Machine" "Machine.__init__" zk
 A1:gw K mg "_law_cell_at" AM
 Gh:gw K mg "_law_lines" FN
 vX:mK K "State" "value_of" "State.value_of" vR
 LH:gw K mg "sort_of" Le
 Iq:gw K mg "found_by" Ic
 xD:mK K "Outline" "found" "Outline.found" xo
 LI:gw K mg "goal_of" Lg
 xE:mK K "Outline" "takes" "Outline.takes" xq
 DS:gw K mg "fault_word" Dz
 Ou:gw K mg "end_at" Oe
 Gi:gw K mg "call_goal" FQ
 DT:xb K mg "Thing" "Thing.__init__" DB
 sZ:mK K "State" "make_thing" "State.make_thing" sR
 Ov:gw K mg "do_new" Og
 z0:gw K mg "do_row_thing" zp
 LJ:gw K mg "do_func" Li
 LK:gw K mg "do_copy" Lk
 LL:gw K mg "do_take" Lm
 Ox:gw K mg "do_put" Oi
 LM:gw K mg "do_push" Lo
 LN:gw K mg "do_pull" Lu
 LO:gw K mg "do_tell" Ly
 DU:gw K mg "do_nothing" DE
 Gj:gw K mg "own_field" FV
 Ir:gw K mg "do_fresh" Ig
 Oy:gw K mg "do_own" Ol
 Iu:gw K mg "do_place" Ii
 tf:mK K "State" "next_input" "State.next_input" sU
 LP:gw K mg "is_true" LA
 Oz:gw K mg "do_row" Oo
 z4:mK K "Machine" "step" "Machine.step" zx
 z5:xb K mg "Reading" "Reading.__init__" zz
 xF:gw K mg "numbered_rows" xt
 z6:xb K mg "Program" "Program.__init__" zF
 qR:gw K mg "names_what_is_told" qL
 A2:gw K mg "close_block" AQ
 xG:gw K mg "turns_to_else" xv
 DV:gw K mg "is_letters" DH
 LQ:gw K mg "is_name" LB
 OA:gw K mg "is_row" Oq
 z7:gw K mg "reads_within" zH
 Iv:gw K mg "are_once" Ik
 DW:gw K mg "reads_kind" DJ
 uY:gw K mg "are_heads_names" uL
 LR:gw K mg "is_head" LD
 Gk:gw K mg "reads_row" F1
 z8:gw K mg "read_program" zR
 xH:mK K "Machine" "calls" "Machine.calls" xy
 A3:gw K mg "_law_run_out" AU
 z9:mK K "Machine" "told" "Machine.told" zU
 A4:mK K "Machine" "end" "Machine.end" AV
 DX:gw K mg "_law_stands" DL
 Wa:gw K mg "law" VZ
section
variable {P:Program}{base:Heap} (M:Md P w K mg)
include M
def Aa:su P w K mg base "form_of" 1 1 vK :=
 gS [] M.LG λd a c b=>(a7 (eU (fz (kB a) (jH a (a0 0) c4) (nQ M.jK rfl))
  (a7 (eU (jD (jM (fz oh (zL M.len (a0 0)) c4) (jd (QB M.uV rfl (jH a (a0 0) c4)))))
  (a9 (eF (gD ip (hW (zO dr)) (NI M.uV rfl (jH a (a0 0) c4) (λ_ _=>rfl)))))
  eC)
  (a9 (eF fw)))
  eC)
  (a9 (eF (QA M.Q2 rfl (jH a (a0 0) c4) ⟨rfl,rfl,rfl,rfl⟩))))
def qS:su P w K mg base "parts_of" 2 1 pO :=
 gS [1] M.Im λc d b a=>(a7 (jP 1 b a (ki (oy rfl rfl M.list (zO (fC (Aa M) c rfl (zO (a0 0)))))))
  (a7 (Bw aK (fz Bq (zL M.len (a0 1)) (gD yB (zL M.len (a0 0)) c4))
  (a9 (kX a (rW 1) (fE dr))))
  (a9 (eF (PF.pd (Hy rfl rfl M.list rfl M.zip (a0 1) (iP (a0 0) (hI c4) hG)))))))
def wR:vp P w K mg base "Row" 3 2 sJ :=
 C9 [] M.Io λd b e a=>(a7 (gr 2 e (fE (lQ (Qv rfl) rfl M.dict (by rfl) (zO (fC (qS M) d rfl (zO (a0 1)))))))
  (a7 (iJ 0 (c:="Row") a M.gf (fE (jH b (a0 1) c4)))
  (a7 (iJ 0 (c:="Row") a M.mR (fE (my b (a0 2) dr ⟨rfl,rfl,rfl,rfl⟩)))
  (a7 (iJ 0 (c:="Row") a M.iU (fE (my b (a0 2) dr ⟨rfl,rfl,rfl,rfl⟩)))
  (a7 (iJ 0 (c:="Row") a M.lH (fE (my b (a0 2) dr ⟨rfl,rfl,rfl,rfl⟩)))
  (a7 (iJ 0 (c:="Row") a M.jA (fE (my b (a0 2) dr ⟨rfl,rfl,rfl,rfl⟩)))
  (a7 (iJ 0 (c:="Row") a M.jZ (fE (my b (a0 2) dr ⟨rfl,rfl,rfl,rfl⟩)))
  (a7 (iJ 0 (c:="Row") a M.ni (fE (my b (a0 2) dr ⟨rfl,rfl,rfl,rfl⟩)))
  (a7 (iJ 0 (c:="Row") a M.jr (fE (my b (a0 2) dr ⟨rfl,rfl,rfl,rfl⟩)))
  (a7 (iJ 0 (c:="Row") a M.lG (fE (BJ [] (lj (fC (qS M) d rfl (zO (a0 1)))) (λ_ _ _ _=>(tP (fz (gn b) (a0 0) dr))) (λ_ _ _ _=>(a0 1)))))
  (a9 (iJ 0 (c:="Row") a M.F8 (fE (BJ [] (lj (fC (qS M) d rfl (zO (a0 1)))) (λ_ _ _ _=>(tP (fz (kB b) (a0 0) (hW (sy ["X","Y","A"] rfl))))) (λ_ _ _ _=>(a0 1))))))))))))))))
def rK:jb P w K mg base "Program" "row_body" 1 2 nS :=
 o6 [] M.sX λd a c b=>(a9 (eF (jH a (jH a (zP "Program" M.jz (a0 0)) (a0 1)) c4)))
def pB:jb P w K mg base "Program" "shown" 1 1 mO :=
 o6 [] M.xA λd c b a=>(a9 (eF (zP "Program" M.qQ (a0 0))))
def pC:su P w K mg base "rows_of_words" 2 1 mP :=
 gS [] M.xB λb d c a=>(a9 (eF (nO [] (lj (nL PySem.F.slot_str_split PySem.F.type_str_split jI (mz (pB M) (a0 0) b) (zO dr))) (λ_ _ _ _=>kz) (λ_ _ _ _=>(nL PySem.F.slot_str_split PySem.F.type_str_split jI (a0 0) (zO dr))))))
def rM:su P w K mg base "elder_and_fields" 1 1 nU :=
 gS [] M.sY λd a c b=>(a7 (eU (jD (jM (fY (a0 0)) (jd (fz (gn a) (jH a (a0 0) c4) dr))))
  (a9 (eF (hW (eG (jH a (a0 0) c4) (zO (iP (a0 0) (hI c4) hG))))))
  eC)
  (a9 (eF (hW (eG fw (zO (iP (a0 0) (hI c4) hG)))))))
def A5:su P w K mg base "kind_table" 3 1 uj :=
 gS [1] M.DO λd b c a=>(a7 (jP 1 c a (ki yL))
  (a7 (oq aK rfl (qy (nM (fC (pC M) d rfl (zO (a0 0))))) (kJ 2 c) (by decide)
  (a7 (eU (fz (mx b) (jH b (a0 2) c4) dr)
  (a9 KN)
  eC)
  (a9 (q9 b a (rW 1) (fE (jH b (a0 2) c4)) (fE (fC (rM M) d rfl (zO (iP (a0 2) (hI c4) hG))))))))
  (a9 (eF (a0 1)))))
def lJ:su P w K mg base "method_body" 1 2 kE :=
 gS [] M.AY λd c b a=>(a9 (eF (Js (rf (Jr (a0 0)) (rf dr (rf (Jr (a0 1)) Nv))))))
def lK:su P w K mg base "head_body" 2 1 k4 :=
 gS [] M.F9 λc a d b=>(a7 (eU (fz (gn a) (jH a (a0 0) c4) dr)
  (a9 (eF (fC (lJ M) c rfl (eG (jH a (a0 0) c4) (zO (jH a (a0 0) c4))))))
  eC)
  (a7 (eU (fz (gn a) (jH a (a0 0) c4) dr)
  (a9 (eF (jH a (a0 0) c4)))
  eC)
  (a9 (eF dr))))
def sd:su P w K mg base "body_heads" 3 1 pP :=
 gS [1] M.DP λd a b c=>(a7 (jP 1 b c (ki yL))
  (a7 (gr 2 b (fE c4))
  (a7 (oq aK rfl (qy (nM (fC (pC M) d rfl (zO (a0 0))))) (kJ 3 b) (by decide)
  (a9 (eU (fz (gn a) (jH a (a0 3) c4) dr)
  (a9 (xW 2 b GJ (fE c4)))
  (a9 (eU (jD (jM (fz (gn a) (a0 2) c4) (jd (fz (mx a) (jH a (a0 3) c4) dr))))
  (a7 (q9 a c (rW 1) (fE (fC (lK M) d rfl (zO (a0 3)))) (fE (a0 3)))
  (a9 (gr 2 b (fE c4))))
  (a9 (eU (fz (kB a) (jH a (a0 3) c4) (hW (eG dr (zO dr))))
  (a9 (xW 2 b Ci (fE c4)))
  eC)))))))
  (a9 (eF (a0 1))))))
def qT:yY P w K mg base "Program" "row_words" 1 2 mV :=
 Td [] M.rG λd a c b=>(a9 (qx (oy rfl rfl M.list (zO (jH a (jH a (zP "Program" M.jz (a0 0)) (a0 1)) c4)))))
def qU:vo P w K mg base "head_params" 1 1 oQ :=
 HE [1] M.AZ λd b c a=>(a7 (eU (fz (gn b) (jH b (a0 0) c4) dr)
  (a9 (qx (oy rfl rfl M.list (zO (iP (a0 0) (hI c4) hG)))))
  eC)
  (a7 (jP 1 c a (ki (oy rfl rfl M.list (zO (iP (a0 0) (hI c4) hG)))))
  (a7 (eU (fz (kB b) dr (a0 1))
  (a9 (qx (yN (a0 1) hG (hI (NB PySem.F.slot_list_index PySem.F.type_list_index (E1 b) (a0 1) (zO dr))))))
  eC)
  (a9 (EO 1 a)))))
def nk:vo P w K mg base "head_kept" 1 1 mD :=
 HE [] M.Ga λd a c b=>(a7 (eU (jD (lP (fz (mx a) (jH a (a0 0) c4) dr) (kI (fz (nH a) dr (iP (a0 0) (hI c4) hG)))))
  (a9 (qx (lR j4)))
  eC)
  (a7 (gr 1 c (fE (PF.pd (oy rfl rfl M.list (zO (iP (a0 0) (hI c4) hG))))))
  (a9 (qx (yN (a0 1) (hI (gD ip (NB PySem.F.slot_list_index PySem.F.type_list_index (E1 a) (a0 1) (zO dr)) c4)) hG)))))
def n4:su P w K mg base "kind_and_elders" 1 2 lx :=
 gS [2] M.uW λd c b a=>(a7 (jP 2 b a (ki (lR j4)))
  (a7 (gr 3 b (fE (a0 1)))
  (a7 (Bw aK (fz j6 (a0 3) fw)
  (a7 (kX a (rW 2) (fE (a0 3)))
  (a9 (gr 3 b (fE (jH c (jH c (a0 0) (a0 3)) c4))))))
  (a9 (eF (a0 2))))))
def DY:vo P w K mg base "fields_by" 2 2 wL :=
 HE [2] M.Gb λd c b a=>(a7 (jP 2 b a (ki (lR j4)))
  (a7 (oq aK rfl (qy (Jx rfl M.reversed (fC (n4 M) d rfl (eG (a0 0) (zO (a0 1)))))) (kJ 3 b) (by decide)
  (a9 (E3 a (rW 2) (fE (jH c (jH c (a0 0) (a0 3)) c4)))))
  (a9 (EO 2 a))))
def mH:jb P w K mg base "Program" "many_rows" 1 1 kj :=
 o6 [] M.rH λd c b a=>(a9 (eF (zL M.len (zP "Program" M.jz (a0 0)))))
def xI:tZ P w K mg base "Outline" 5 2 qF :=
 o7 M.zW λa b c=>(bb (gi M.iI (a8 0) (eD (nO [(1,"program")] (sm rfl M.range (mz (mH M) (a0 1) a)) (λ_ _ _ _=>kz) (λ_ _ _ _=>(PF.pd (CQ (wR M) a rfl (zO (PF.pd (QE (qT M) (a0 1) a (zO (a0 0)))))))))))
  (bb (gi M.p5 (a8 0) (eD (nO [(1,"program")] (sm rfl M.range (mz (mH M) (a0 1) a)) (λ_ _ _ _=>kz) (λ_ _ _ _=>(f7 (rK M) (a0 1) a (zO (a0 0)))))))
  (bb (gi M.kO (a8 0) (eD (fC (A5 M) a rfl (zO (a0 1)))))
  (bb (gi M.jF (a8 0) (eD (fC (sd M) a rfl (zO (a0 1)))))
  (bb (gi M.jo (a8 0) mZ)
  (bb (gi M.n0 (a8 0) mZ)
  (bb (gi M.kY (a8 0) mZ)
  (bb (JD aK rfl (fx M.jF (a8 0)) (kJ 2 c)
  (bb (lX b (fx M.jo (a8 0)) (a8 2) (Dl (qU M) a rfl (cn (kg b (fx M.jF (a8 0)) (a8 2)) fj)))
  (bb (lX b (fx M.n0 (a8 0)) (a8 2) (Dl (nk M) a rfl (cn (kg b (fx M.jF (a8 0)) (a8 2)) fj)))
  (dt (lX b (fx M.kY (a8 0)) (a8 2) mf)))))
  (bb (oO aK rfl (NT rfl M.enumerate (fx M.p5 (a8 0))) (lZ 3 2 rfl c)
  (dt (fA (jk (kg b (fx M.kY (a8 0)) (a8 2)) (a8 3)))))
  (bb (gi M.jn (a8 0) mZ)
  (dt (JD aK rfl (fx M.kO (a8 0)) (kJ 4 c)
  (dt (lX b (fx M.jn (a8 0)) (a8 4) (Dl (DY M) a rfl (cn (fx M.kO (a8 0)) (cn (a8 4) fj)))))))))))))))))
def A6:su P w K mg base "body_marks" 2 1 uC :=
 QN M.DQ λc b a=>(bb (fy 1 a mf)
  (bb (fy 2 a mf)
  (bb (fy 3 a (eD c4))
  (bb (oO aK rfl (uc (nM (nL PySem.F.slot_str_split PySem.F.type_str_split jI (mz (pB M) (a0 0) c) (zO dr)))) (kJ 4 a)
  (bb (fy 5 a (eD (nL PySem.F.slot_str_split PySem.F.type_str_split jI (a0 4) (zO dr))))
  (bb (fy 6 a (eD (jH b (a0 5) c4)))
  (bb (hV (fG (jN (fY (a0 2))))
  (bb (hV (fG (fz (mx b) (a0 6) dr))
  (bb (fA (jk (a8 1) (HI (cn (a8 5) (cn mf fj)))))
  (dt (fA (jk (a8 2) (eD fw)))))
  gu)
  (dt E9))
  gu)
  (bb (hV (fG (fz (gn b) (a0 6) dr))
  (dt (fy 7 a (HI (cn (a8 6) (cn (Dd (a8 2)) fj)))))
  (dt (hV (fG (fz (gn b) (a0 6) dr))
  (dt (fy 7 a (eD (hW (eG (a0 6) (zO fw))))))
  (bb (fy 7 a (eD (hW (eG (a0 6) (zO (a0 3))))))
  (bb (hV (fG (fz (kB b) (a0 6) (nQ M.jK rfl)))
  (dt (fA (jk (a8 2) (eD (Vl (fz (gn b) (a0 6) dr) (a0 3) fw)))))
  gu)
  (dt (Th 3 a Ci (eD c4))))))))
  (dt (hV (fG (fY (a0 2)))
  (dt (fA (jk (kg b (kg b (a8 1) (eD j7)) (eD c4)) (a8 7))))
  gu)))))))
  (dt (gU (a8 1)))))))
def uZ:pY P w K mg base "Flow" "join_rows" 1 2 pf :=
 pK M.vV λc a b=>(bb (fy 2 b (eD fw))
  (bb (fy 3 b mf)
  (bb (oO aK rfl (uc (Jx rfl M.reversed (a0 1))) (lZ 4 5 rfl b)
  (dt (hV (fG (fz (gn a) (a0 4) dr))
  (bb (fA (jk (a8 3) (eD (hW (eG (a0 2) (zO (a0 2)))))))
  (dt (hV (fG (fz j6 (a0 5) fw))
  (dt (fy 2 b (a8 5)))
  gu)))
  (dt (hV (fG (fz (gn a) (a0 4) dr))
  (bb (lX a (a8 3) (eD j7) (gF (hW (eG (jH a (jH a (a0 3) j7) c4) (zO (a0 2))))))
  (dt (fy 2 b (kg a (kg a (a8 3) (eD j7)) (eD c4)))))
  (bb (lX a (fx M.mj (a8 0)) (a8 5) (a8 2))
  (bb (lX a (fx M.ke (a8 0)) (a8 5) (a8 2))
  (bb (hV (fG (fz (kB a) (a0 4) (nQ M.jK rfl)))
  (dt (lX a (fx M.ke (a8 0)) (a8 5) (kg a (Dd (a8 3)) (eD c4))))
  gu)
  (dt (fy 2 b (a8 5)))))))))))
  (dt (gU (a8 2))))))
def DZ:tZ P w K mg base "Flow" 3 2 wM :=
 o7 M.Gd λa c b=>(bb (gi M.pS (a8 0) mZ)
  (bb (gi M.mj (a8 0) mZ)
  (bb (gi M.ke (a8 0) mZ)
  (dt (oO aK rfl (uc (nM (fC (A6 M) a rfl (zO (a0 1))))) (lZ 2 3 rfl b)
  (dt (lX c (fx M.pS (a8 0)) (eD (fC (lK M) a rfl (zO (a0 2)))) (gB (uZ M) (a8 0) a (cn (a8 3) fj)))))))))
def A7:tZ P w K mg base "State" 7 4 uD :=
 o7 M.DR λa c b=>(bb (gi M.fF (a8 0) (eD (Fh (xI M) a rfl (zO (a0 1)))))
  (bb (gi M.lI (a8 0) (eD (Fh (DZ M) a rfl (zO (a0 1)))))
  (bb (gi M.n3 (a8 0) (eD (PF.pd (oy rfl rfl M.list (zO (a0 2))))))
  (bb (gi M.nj (a8 0) (eD c4))
  (bb (gi M.pT (a8 0) (a8 3))
  (bb (gi M.gz (a8 0) mf)
  (bb (gi M.kf (a8 0) mf)
  (bb (gi M.kl (a8 0) mf)
  (dt (gi M.i8 (a8 0) (eD fw)))))))))))
def D0:tZ P w K mg base "Call" 1 4 k5 :=
 o7 M.Ge λc b a=>(bb (gi M.wO (a8 0) (a8 1))
  (bb (gi M.qO (a8 0) (a8 2))
  (bb (gi M.iH (a8 0) (a8 3))
  (dt (gi M.lE (a8 0) mZ)))))
def u4:lW P w K mg base "call_body" 3 3 mF :=
 iZ M.Gf λc b a=>(bb (fy 3 a (x4 (D0 M) c rfl (cn (a8 1) (cn (a8 2) (cn (kg b (lr (cs:=["Flow"]) (af.mpr ⟨M.pS,aO _⟩) (fx M.lI (a8 0))) (a8 1)) fj)))))
  (bb (fA (jk (fx M.gz (a8 0)) (a8 3)))
  (dt (gU (a8 3)))))
def u5:jb P w K mg base "State" "top" 1 1 k6 :=
 o6 [] M.wQ λd b c a=>(a9 (eF (jH b (zP "State" M.gz (a0 0)) j7)))
def gh:pY P w K mg base "State" "top" 1 1 fI :=
 pK M.wQ λc a b=>(dt (gU (kg a (fx M.gz (a8 0)) (eD j7))))
def fu:pY P w K mg base "Call" "give_name" 1 3 eK :=
 pK M.vW λc a b=>(dt (hV (fG (fz jW (a0 2) fw))
  (dt (fA (QM (fx M.lE (a8 0)) (a8 1) (eD fw))))
  (dt (lX a (fx M.lE (a8 0)) (a8 1) (a8 2)))))
def n5:jb P w K mg base "Outline" "made_by" 1 3 ly :=
 o6 [] M.uX λd a c b=>(a7 (eU (jD (jM (BE vr Bq c4 (a0 1) (zL M.len (zP "Outline" M.iI (a0 0)))) (jd (fz (gn a) (zP "Row" M.gf (jH a (zP "Outline" M.iI (a0 0)) (a0 1))) (a0 2)))))
  (a9 (eF (jH a (zP "Outline" M.iI (a0 0)) (a0 1))))
  eC)
  (a9 (eF fw)))
def qV:jb P w K mg base "Outline" "made_kind" 2 2 mW :=
 o6 [] M.rJ λc d b a=>(a7 (gr 2 b (fE (f7 (n5 M) (a0 0) c (eG (a0 1) (zO dr)))))
  (a7 (eU (fz jW (a0 2) fw)
  (a9 (eF fw))
  eC)
  (a9 (eF (zP "Row" M.jA (a0 2))))))
def lY:jb P w K mg base "State" "kind_of" 3 2 kM :=
 o6 [] M.xC λc a d b=>(a7 (eU (fz jW (a0 1) fw)
  (a9 (eF fw))
  eC)
  (a7 (eU (fz (gn a) (jH a (a0 1) c4) dr)
  (a9 (eF (jH a (a0 1) c4)))
  eC)
  (a9 (eF (f7 (qV M) (zP "State" M.fF (a0 0)) c (zO (Hj (cs:=["Call","Thing"]) (af.mpr ⟨M.iH,af.mpr ⟨M.oH,aO _⟩⟩) (jH a (zP "State" M.kf (a0 0)) (jH a (a0 1) c4)))))))))
def lL:jb P w K mg base "State" "thing_of" 1 2 j9 :=
 o6 [] M.px λd a c b=>(a7 (eU (jD (lP (fz jW (a0 1) fw) (kI (fz (mx a) (jH a (a0 1) c4) dr))))
  (a9 (eF fw))
  eC)
  (a9 (eF (jH a (zP "State" M.kf (a0 0)) (jH a (a0 1) c4)))))
def gK:pY P w K mg base "State" "thing_of" 1 2 fM :=
 pK M.px λc a b=>(bb (hV (fG (jD (lP (fz jW (a0 1) fw) (kI (fz (mx a) (jH a (a0 1) c4) dr)))))
  (dt (gU (eD fw)))
  gu)
  (dt (gU (kg a (fx M.kf (a8 0)) (eD (jH a (a0 1) c4))))))
def kG:jb P w K mg base "Outline" "made_function" 2 2 jl :=
 o6 [] M.pA λc d b a=>(a7 (gr 2 b (fE (f7 (n5 M) (a0 0) c (eG (a0 1) (zO dr)))))
  (a7 (eU (fz jW (a0 2) fw)
  (a9 (eF fw))
  eC)
  (a9 (eF (zP "Row" M.jr (a0 2))))))
def qW:su P w K mg base "shown_value" 4 2 oR :=
 gS [] M.A0 λa d b c=>(a7 (eU (fz jW (a0 1) fw)
  (a9 (eF dr))
  eC)
  (a7 (gr 2 b (fE (f7 (lY M) (a0 0) a (zO (a0 1)))))
  (a7 (eU (fz j6 (a0 2) fw)
  (a9 (eF (a0 2)))
  eC)
  (a7 (gr 3 b (fE (f7 (lL M) (a0 0) a (zO (a0 1)))))
  (a7 (eU (fz (gn d) (zP "Thing" M.pU (a0 3)) dr)
  (a9 (eF dr))
  eC)
  (a9 (eF (f7 (kG M) (zP "State" M.fF (a0 0)) a (zO (zP "Thing" M.oH (a0 3)))))))))))
def wU:lW P w K mg base "end_call" 5 2 h9 :=
 iZ M.Ip λa b c=>(bb (fA (Dd (fx M.gz (a8 0))))
  (bb (hV (fG (jN (fY (zP "State" M.gz (a0 0)))))
  (bb (gi M.i8 (a8 0) (gF (hW (eG dr (zO (fC (qW M) a rfl (eG (a0 0) (zO (a0 1)))))))))
  (dt Jz))
  gu)
  (bb (fy 2 c (f6 (gh M) (a8 0) a))
  (bb (fA (gB (fu M) (a8 2) a (cn (lr (cs:=["Row"]) (af.mpr ⟨M.iU,aO _⟩) (kg b (lr (cs:=["Outline"]) (af.mpr ⟨M.iI,aO _⟩) (fx M.fF (a8 0))) (fx M.iH (a8 2)))) (cn (a8 1) fj))))
  (dt (gi M.iH (a8 2) (kg b (lr (cs:=["Flow"]) (af.mpr ⟨M.mj,aO _⟩) (fx M.lI (a8 0))) (fx M.iH (a8 2)))))))))
def u6:lW P w K mg base "end_calls" 6 1 hJ :=
 iZ M.Gg λa c b=>(dt (Fc aK (fG (jD (jM (fY (zP "State" M.gz (a0 0))) (jd (fz jW (zP "Call" M.iH (mz (u5 M) (a0 0) a)) fw)))))
  (dt (fA (kL (wU M) a rfl (cn (a8 0) (cn (eD fw) fj)))))))
def xJ:tZ P w K mg base "Machine" 9 4 nV :=
 o7 M.zY λa c b=>(bb (gi M.gM (a8 0) (x4 (A7 M) a rfl (cn (a8 1) (cn (a8 2) (cn (a8 3) fj)))))
  (bb (fA (kL (u4 M) a rfl (cn (fx M.gM (a8 0)) (cn (eD dr) (cn (eD (hW j4)) fj)))))
  (dt (fA (kL (u6 M) a rfl (cn (fx M.gM (a8 0)) fj))))))
def n6:su P w K mg base "_law_cell_at" 1 2 i0 :=
 gS [] M.A1 λd b c a=>(a7 (eU (fz Bq (a0 1) (zL M.len (a0 0)))
  (a9 (eF (jH b (a0 0) (a0 1))))
  eC)
  (a9 (eF c4)))
def D1:su P w K mg base "_law_lines" 1 3 k7 :=
 gS [4] M.Gh λd c b a=>(a7 (gr 3 b (fE (kD oh (a0 0) c4)))
  (a7 (jP 4 b a (ki (lR (eG dr (zO dr)))))
  (a7 (eU (fY (a0 3))
  (a9 (jP 4 b a (ki (lR (eG dr (zO dr))))))
  eC)
  (a7 (kX a (rW 4) (fE dr))
  (a7 (kX a (rW 4) (fE (jH c (kS (sy ["do z p p","ask z self m self","straight z self ka m self"] rfl)) (a0 0))))
  (a7 (jP 4 b a (Hn (HC (gD ip (a0 4) (PF.pd (yZ (lR (zO dr)) (a0 1)))) (kS (zO dr)))))
  (a7 (eU (fY (a0 2))
  (a9 (kX a (rW 4) (fE (jH c (kS (eG dr (zO dr))) (lQ vB rfl M.int (by rfl) (zO (a0 3)))))))
  eC)
  (a7 (jP 4 b a (Hn (HC (gD ip (gD ip (a0 4) (kS (zO dr))) (PF.pd (yZ (lR (zO dr)) (lQ vB rfl M.int (by rfl) (zO (kD oh (a0 1) c4)))))) (kS (sy ["end","main","new a ka"] rfl)))))
  (a7 (eU (fY (a0 3))
  (a9 (eF (gD ip (a0 4) (kS (sy ["ask y a m a","tell y","end"] rfl)))))
  eC)
  (a9 (eF (gD ip (a0 4) (kS (sy ["func b fa a","do y b b","tell y","end"] rfl))))))))))))))
def fe:jb P w K mg base "State" "value_of" 1 2 el :=
 o6 [] M.vX λd a c b=>(a9 (eF (my a (zP "Call" M.lE (jH a (zP "State" M.gz (a0 0)) j7)) (a0 1) ⟨rfl,rfl,rfl,rfl⟩)))
def Iw:su P w K mg base "sort_of" 2 2 BV :=
 gS [] M.LH λc a d b=>(a7 (eU (fz (gn a) (jH a (a0 1) c4) dr)
  (a9 (eF dr))
  eC)
  (a9 (eF (zP "Thing" M.pU (f7 (lL M) (a0 0) c (zO (a0 1)))))))
def Gm:su P w K mg base "found_by" 2 4 zo :=
 gS [] M.Iq λb d a c=>(a7 (oq aK rfl (qy (nM (fC (n4 M) b rfl (eG (a0 0) (zO (a0 2)))))) (kJ 4 a) (by decide)
  (a7 (gr 5 a (fE (fC (lJ M) b rfl (eG (a0 4) (zO (a0 3))))))
  (a9 (eU (fz (kB d) (a0 5) (a0 1))
  (a9 (eF (a0 5)))
  eC))))
  (a9 (eF fw)))
def vY:jb P w K mg base "Outline" "found" 3 3 p0 :=
 o6 [] M.xD λb d c a=>(a9 (eF (fC (Gm M) b rfl (eG (zP "Outline" M.kO (a0 0)) (eG (zP "Outline" M.jF (a0 0)) (eG (a0 1) (zO (a0 2))))))))
def Ab:su P w K mg base "goal_of" 4 3 pk :=
 gS [] M.LI λa b d c=>(a7 (eU (fz (gn b) (zP "Row" M.gf (a0 1)) dr)
  (a9 (eF (f7 (kG M) (zP "State" M.fF (a0 0)) a (zO (Hj (cs:=["Call","Thing"]) (af.mpr ⟨M.iH,af.mpr ⟨M.oH,aO _⟩⟩) (f7 (lL M) (a0 0) a (zO (a0 2))))))))
  eC)
  (a7 (eU (fz (gn b) (zP "Row" M.gf (a0 1)) dr)
  (a9 (eF (f7 (vY M) (zP "State" M.fF (a0 0)) a (eG (f7 (lY M) (a0 0) a (zO (a0 2))) (zO (zP "Row" M.ni (a0 1)))))))
  eC)
  (a9 (eF (fC (lJ M) a rfl (eG (zP "Row" M.jA (a0 1)) (zO (zP "Row" M.ni (a0 1)))))))))
def vZ:jb P w K mg base "Outline" "takes" 1 3 p1 :=
 o6 [] M.xE λd a c b=>(a9 (eF (mY (kD (kB a) (a0 1) (zP "Outline" M.jo (a0 0))) (oz (kD (gn a) (zL M.len (jH a (zP "Outline" M.jo (a0 0)) (a0 1))) (zL M.len (zP "Row" M.lG (a0 2))))))))
def A8:su P w K mg base "fault_word" 5 3 uG :=
 gS [] M.DS λb a d c=>(a7 (eU (fz jW (a0 2) fw)
  (a9 (eF dr))
  eC)
  (a7 (eU (fz (mx a) (fC (Iw M) b rfl (eG (a0 0) (zO (a0 2)))) (NI M.JP rfl (zP "Row" M.gf (a0 1)) (λ_ _=>rfl)))
  (a9 (eF dr))
  eC)
  (a7 (eU (jD (jM (fz j6 (zP "Row" M.jZ (a0 1)) fw) (jd (fz (nH a) (zP "Row" M.jZ (a0 1)) (jH a (zP "Outline" M.jn (zP "State" M.fF (a0 0))) (f7 (lY M) (a0 0) b (zO (a0 2))))))))
  (a9 (eF dr))
  eC)
  (a7 (eU (fz (kB a) (zP "Row" M.gf (a0 1)) (nQ M.vU rfl))
  (a7 (gr 3 d (fE (fC (Ab M) b rfl (eG (a0 0) (eG (a0 1) (zO (a0 2)))))))
  (a7 (eU (fz jW (a0 3) fw)
  (a9 (eF dr))
  eC)
  (a9 (eU (jN (fY (f7 (vZ M) (zP "State" M.fF (a0 0)) b (eG (a0 3) (zO (a0 1))))))
  (a9 (eF dr))
  eC))))
  eC)
  (a9 (eF fw))))))
def LS:su P w K mg base "end_at" 6 2 kF :=
 gS [] M.Ou λc b a d=>(a7 (gr 2 a (fE (jH b (zP "Outline" M.iI (zP "State" M.fF (a0 0))) (a0 1))))
  (a7 (eU (HM M.JP rfl (zP "Row" M.gf (a0 2)))
  (a9 (eF fw))
  eC)
  (a7 (gr 3 a (fE (f7 (fe M) (a0 0) c (zO (zP "Row" M.lH (a0 2))))))
  (a7 (gr 4 a (fE (fC (A8 M) c rfl (eG (a0 0) (eG (a0 2) (zO (a0 3)))))))
  (a7 (eU (fz j6 (a0 4) fw)
  (a9 (eF (hW (eG dr (eG (a0 1) (zO (a0 4)))))))
  eC)
  (a7 (eU (jD (jM (fz (kB b) (zP "Row" M.gf (a0 2)) (nQ M.vU rfl)) (jd (fz M0 (zL M.len (zP "State" M.gz (a0 0))) (nQ M.DN rfl)))))
  (a9 (eF (hW (eG dr (zO (a0 1))))))
  eC)
  (a9 (eF fw))))))))
def D2:lW P w K mg base "call_goal" 5 3 iS :=
 iZ M.Gi λa c b=>(bb (fy 3 b (gF (f7 (fe M) (a0 0) a (zO (zP "Row" M.lH (a0 1))))))
  (bb (fy 4 b (gF (fC (Ab M) a rfl (eG (a0 0) (eG (a0 1) (zO (a0 3)))))))
  (bb (Fj 5 [(0,"state")] b (lj (zP "Row" M.lG (a0 1))) (λ_ _ _ _=>kz) (λ_ _ _ _=>(f7 (fe M) (a0 1) a (zO (a0 0)))))
  (bb (fy 6 b (kL (u4 M) a rfl (cn (a8 0) (cn (a8 4) (cn (gF (gD ip (zP "Call" M.qO (mz (u5 M) (a0 0) a)) (hW (zO (a0 2))))) fj)))))
  (bb (oO aK rfl (JK rfl M.zip (kg c (lr (cs:=["Outline"]) (af.mpr ⟨M.jo,aO _⟩) (fx M.fF (a8 0))) (a8 4)) (a8 5)) (lZ 7 8 rfl b)
  (dt (fA (gB (fu M) (a8 6) a (cn (a8 7) (cn (a8 8) fj))))))
  (bb (hV (fG (fz (mx c) (zP "Row" M.gf (a0 1)) dr))
  (bb (fA (gB (fu M) (a8 6) a (cn (eD dr) (cn (a8 3) fj))))
  (dt Jz))
  gu)
  (dt (QV aK rfl (fx M.jJ (gB (gK M) (a8 0) a (cn (a8 3) fj))) (lZ 9 8 rfl b)
  (dt (fA (gB (fu M) (a8 6) a (cn (a8 9) (cn (a8 8) fj)))))))))))))
def A9:tZ P w K mg base "Thing" 1 4 uH :=
 o7 M.DT λc b a=>(bb (gi M.oH (a8 0) (a8 1))
  (bb (gi M.DM (a8 0) (a8 2))
  (bb (gi M.pU (a8 0) (a8 3))
  (bb (gi M.jJ (a8 0) mZ)
  (dt (gi M.kP (a8 0) mf))))))
def km:pY P w K mg base "State" "make_thing" 3 3 jy :=
 pK M.sZ λa c b=>(bb (fA (jk (fx M.kf (a8 0)) (x4 (A9 M) a rfl (cn (a8 1) (cn (fx M.qO (f6 (gh M) (a8 0) a)) (cn (a8 2) fj))))))
  (dt (gU (gF (hW (eG dr (zO (gD yB (zL M.len (zP "State" M.kf (a0 0))) c4))))))))
def LU:lW P w K mg base "do_new" 4 3 FT :=
 iZ M.Ov λa c b=>(bb (fy 3 b (gB (km M) (a8 0) a (cn (a8 2) (cn (eD dr) fj))))
  (bb (fy 4 b (gB (gK M) (a8 0) a (cn (a8 3) fj)))
  (bb (oO aK rfl (JC (kg c (lr (cs:=["Outline"]) (af.mpr ⟨M.jn,aO _⟩) (fx M.fF (a8 0))) (eD (zP "Row" M.jA (a0 1))))) (kJ 5 b)
  (dt (lX c (fx M.jJ (a8 4)) (a8 5) (eD fw))))
  (dt (fA (gB (fu M) (f6 (gh M) (a8 0) a) a (cn (eD (zP "Row" M.iU (a0 1))) (cn (a8 3) fj))))))))
def xK:lW P w K mg base "do_row_thing" 4 3 qI :=
 iZ M.z0 λa c b=>(dt (fA (gB (fu M) (f6 (gh M) (a8 0) a) a (cn (eD (zP "Row" M.iU (a0 1))) (cn (gB (km M) (a8 0) a (cn (a8 2) (cn (eD dr) fj))) fj)))))
def Iy:lW P w K mg base "do_func" 4 3 BW :=
 iZ M.LJ λa c b=>(bb (fy 3 b (gB (km M) (a8 0) a (cn (a8 2) (cn (eD dr) fj))))
  (bb (fy 4 b (gB (gK M) (a8 0) a (cn (a8 3) fj)))
  (bb (oO aK rfl (JK rfl M.zip (kg c (lr (cs:=["Outline"]) (af.mpr ⟨M.n0,aO _⟩) (fx M.fF (a8 0))) (eD (zP "Row" M.jr (a0 1)))) (eD (zP "Row" M.lG (a0 1)))) (lZ 5 6 rfl b)
  (dt (lX c (fx M.jJ (a8 4)) (a8 5) (gF (f7 (fe M) (a0 0) a (zO (a0 6)))))))
  (dt (fA (gB (fu M) (f6 (gh M) (a8 0) a) a (cn (eD (zP "Row" M.iU (a0 1))) (cn (a8 3) fj))))))))
def Iz:lW P w K mg base "do_copy" 2 3 BX :=
 iZ M.LK λa c b=>(dt (fA (gB (fu M) (f6 (gh M) (a8 0) a) a (cn (eD (zP "Row" M.iU (a0 1))) (cn (gF (f7 (fe M) (a0 0) a (zO (zP "Row" M.lH (a0 1))))) fj)))))
def IA:lW P w K mg base "do_take" 2 3 BY :=
 iZ M.LL λa c b=>(bb (fy 3 b (gB (gK M) (a8 0) a (cn (gF (f7 (fe M) (a0 0) a (zO (zP "Row" M.lH (a0 1))))) fj)))
  (dt (fA (gB (fu M) (f6 (gh M) (a8 0) a) a (cn (eD (zP "Row" M.iU (a0 1))) (cn (kg c (fx M.jJ (a8 3)) (eD (zP "Row" M.jZ (a0 1)))) fj))))))
def LV:lW P w K mg base "do_put" 2 3 FU :=
 iZ M.Ox λa c b=>(bb (fy 3 b (gB (gK M) (a8 0) a (cn (gF (f7 (fe M) (a0 0) a (zO (zP "Row" M.lH (a0 1))))) fj)))
  (dt (lX c (fx M.jJ (a8 3)) (eD (zP "Row" M.jZ (a0 1))) (gF (f7 (fe M) (a0 0) a (zO (zP "Row" M.iU (a0 1))))))))
def IB:lW P w K mg base "do_push" 2 3 BZ :=
 iZ M.LM λa c b=>(bb (fy 3 b (gB (gK M) (a8 0) a (cn (gF (f7 (fe M) (a0 0) a (zO (zP "Row" M.lH (a0 1))))) fj)))
  (dt (fA (jk (fx M.kP (a8 3)) (gF (f7 (fe M) (a0 0) a (zO (zP "Row" M.iU (a0 1)))))))))
def IC:lW P w K mg base "do_pull" 2 3 B0 :=
 iZ M.LN λa c b=>(bb (fy 3 b (gB (gK M) (a8 0) a (cn (gF (f7 (fe M) (a0 0) a (zO (zP "Row" M.lH (a0 1))))) fj)))
  (bb (fy 4 b (eD fw))
  (bb (hV (fG (fY (zP "Thing" M.kP (a0 3))))
  (dt (fy 4 b (Dd (fx M.kP (a8 3)))))
  gu)
  (dt (fA (gB (fu M) (f6 (gh M) (a8 0) a) a (cn (eD (zP "Row" M.iU (a0 1))) (cn (a8 4) fj))))))))
def ID:lW P w K mg base "do_tell" 5 3 B3 :=
 iZ M.LO λa c b=>(dt (fA (jk (fx M.kl (a8 0)) (gF (fC (qW M) a rfl (eG (a0 0) (zO (f7 (fe M) (a0 0) a (zO (zP "Row" M.iU (a0 1)))))))))))
def Ba:lW P w K mg base "do_nothing" 1 3 pR :=
 iZ M.DU λc b a=>(dt QJ)
def pV:su P w K mg base "own_field" 1 2 oG :=
 gS [] M.Gj λd c b a=>(a9 (eF (Js (rf (Jr (a0 0)) (rf dr (rf (Jr (a0 1)) Nv))))))
def Gn:lW P w K mg base "do_fresh" 2 3 zt :=
 iZ M.Ir λa c b=>(bb (fA (gB (fu M) (f6 (gh M) (a8 0) a) a (cn (eD (zP "Row" M.iU (a0 1))) (cn (eD (hW (eG dr (zO (zP "Row" M.jA (a0 1)))))) fj))))
  (dt (oO aK rfl (JC (kg c (lr (cs:=["Outline"]) (af.mpr ⟨M.jn,aO _⟩) (fx M.fF (a8 0))) (eD (zP "Row" M.jA (a0 1))))) (kJ 3 b)
  (dt (fA (gB (fu M) (f6 (gh M) (a8 0) a) a (cn (eD (fC (pV M) a rfl (eG (zP "Row" M.iU (a0 1)) (zO (a0 3))))) (cn (eD fw) fj))))))))
def LW:lW P w K mg base "do_own" 2 3 FX :=
 iZ M.Oy λa c b=>(dt (fA (gB (fu M) (f6 (gh M) (a8 0) a) a (cn (eD (zP "Row" M.iU (a0 1))) (cn (gF (f7 (fe M) (a0 0) a (zO (fC (pV M) a rfl (eG (zP "Row" M.lH (a0 1)) (zO (zP "Row" M.jZ (a0 1)))))))) fj)))))
def Gp:lW P w K mg base "do_place" 2 3 zu :=
 iZ M.Iu λa c b=>(dt (fA (gB (fu M) (f6 (gh M) (a8 0) a) a (cn (eD (fC (pV M) a rfl (eG (zP "Row" M.lH (a0 1)) (zO (zP "Row" M.jZ (a0 1)))))) (cn (gF (f7 (fe M) (a0 0) a (zO (zP "Row" M.iU (a0 1))))) fj)))))
def rN:pY P w K mg base "State" "next_input" 1 1 fW :=
 pK M.tf λc a b=>(bb (hV (fG (fz M0 (zP "State" M.nj (a0 0)) (zL M.len (zP "State" M.n3 (a0 0)))))
  (dt (gU (eD c4)))
  gu)
  (bb (BP M.nj (a8 0) (eD c4) Ci)
  (dt (gU (kg a (fx M.n3 (a8 0)) (gF (gD yB (zP "State" M.nj (a0 0)) c4)))))))
def IE:lW P w K mg base "is_true" 2 2 kc :=
 iZ M.LP λb a c=>(bb (hV (fG (fz (gn a) (zP "Row" M.mR (a0 1)) dr))
  (dt (gU (Di (mx a) (f6 (rN M) (a8 0) b) (eD c4))))
  gu)
  (bb (fy 2 c (gF (f7 (fe M) (a0 0) b (zO (zP "Row" M.iU (a0 1))))))
  (bb (hV (fG (fz (gn a) (zP "Row" M.mR (a0 1)) dr))
  (dt (gU (eD (kD j6 (a0 2) fw))))
  gu)
  (bb (fy 3 c (gF (f7 (fe M) (a0 0) b (zO (zP "Row" M.lH (a0 1))))))
  (bb (hV (fG (jD (lP (fz jW (a0 2) fw) (kI (fz jW (a0 3) fw)))))
  (dt (gU (eD (mY (kD jW (a0 2) fw) (oz (kD jW (a0 3) fw))))))
  gu)
  (dt (gU (eD (mY (kD (gn a) (a0 2) (a0 3)) (oz (kD (gn a) (jH a (a0 2) c4) dr)))))))))))
def LX:lW P w K mg base "do_row" 7 2 pq :=
 iZ M.Oz λa b c=>(bb (fy 2 c (kg b (lr (cs:=["Outline"]) (af.mpr ⟨M.iI,aO _⟩) (fx M.fF (a8 0))) (a8 1)))
  (bb (fy 3 c (f6 (gh M) (a8 0) a))
  (bb (hV (fG (fz (kB b) (zP "Row" M.gf (a0 2)) (nQ M.vU rfl)))
  (dt (fA (kL (D2 M) a rfl (cn (a8 0) (cn (a8 2) (cn (a8 1) fj))))))
  (dt (hV (fG (fz (gn b) (zP "Row" M.gf (a0 2)) dr))
  (dt (fA (kL (wU M) a rfl (cn (a8 0) (cn (gF (f7 (fe M) (a0 0) a (zO (zP "Row" M.iU (a0 2))))) fj)))))
  (dt (hV (VT (QS (fG (fz (kB b) (zP "Row" M.gf (a0 2)) (nQ M.jK rfl))) (NU (Df (x6 (kL (IE M) a rfl (cn (a8 0) (cn (a8 2) fj))))))))
  (dt (gi M.iH (a8 3) (kg b (lr (cs:=["Flow"]) (af.mpr ⟨M.ke,aO _⟩) (fx M.lI (a8 0))) (a8 1))))
  (bb (hV (fG (K6 M.pN rfl (zP "Row" M.gf (a0 2))))
  (dt (fA (QP (j:=5) M.pN (by intro q d;simp only[DG,av,List.not_mem_nil,or_false] at d;rcases d with rfl|rfl|rfl|rfl|rfl|rfl|rfl|rfl|rfl|rfl|rfl|rfl|rfl|rfl<;>first|exact((LU M)).up (by decide)|exact((xK M)).up (by decide)|exact((Iy M)).up (by decide)|exact((Iz M)).up (by decide)|exact((IA M)).up (by decide)|exact((LV M)).up (by decide)|exact((IB M)).up (by decide)|exact((IC M)).up (by decide)|exact((ID M)).up (by decide)|exact((Ba M)).up (by decide)|exact((Gn M)).up (by decide)|exact((LW M)).up (by decide)|exact((Gp M)).up (by decide)) a rfl (eD (zP "Row" M.gf (a0 2))) (cn (a8 0) (cn (a8 2) (cn (a8 1) fj))))))
  gu)
  (dt (gi M.iH (a8 3) (kg b (lr (cs:=["Flow"]) (af.mpr ⟨M.mj,aO _⟩) (fx M.lI (a8 0))) (a8 1))))))))))
  (dt (fA (kL (u6 M) a rfl (cn (a8 0) fj)))))))
def ie:pY P w K mg base "Machine" "step" 8 1 eB :=
 pK M.z4 λa c b=>(bb (fy 1 b (fx M.gM (a8 0)))
  (bb (hV (fG (fz j6 (zP "State" M.i8 (a0 1)) fw))
  (dt (gU (eD jC)))
  gu)
  (bb (hV (fG (fz vr (zP "State" M.pT (a0 1)) c4))
  (bb (gi M.i8 (a8 1) (eD (hW (zO dr))))
  (dt (gU (eD jC))))
  gu)
  (bb (BP M.pT (a8 1) (eD c4) GJ)
  (bb (fy 2 b (fx M.iH (f6 (gh M) (a8 1) a)))
  (bb (gi M.i8 (a8 1) (gF (fC (LS M) a rfl (eG (a0 1) (zO (a0 2))))))
  (bb (hV (fG (fz jW (zP "State" M.i8 (a0 1)) fw))
  (dt (fA (kL (LX M) a rfl (cn (a8 1) (cn (a8 2) fj)))))
  gu)
  (dt (gU (eD jC))))))))))
def xM:vp P w K mg base "Reading" 1 1 qJ :=
 C9 [] M.z5 λe d b a=>(a7 (tR 0 (c:="Reading") a M.gX (ki yL))
  (a7 (tR 0 (c:="Reading") a M.ic (ki yL))
  (a7 (iJ 0 (c:="Reading") a M.jq (fE fw))
  (a7 (tR 0 (c:="Reading") a M.gE (ki (lR j4)))
  (a7 (iJ 0 (c:="Reading") a M.lF (fE jC))
  (a9 (tR 0 (c:="Reading") a M.mQ (ki (lR j4)))))))))
def v5:su P w K mg base "numbered_rows" 3 1 p3 :=
 gS [1] M.xF λd b a c=>(a7 (jP 1 a c (ki yL))
  (a7 (gr 2 a (fE fw))
  (a7 (gr 3 a (fE c4))
  (a7 (oq aK rfl (qy (EY rfl M.enumerate (nL PySem.F.slot_str_split PySem.F.type_str_split jI (a0 0) (zO dr)))) (lZ 4 5 rfl a) (by decide)
  (a7 (gr 6 a (fE (nL PySem.F.slot_str_split PySem.F.type_str_split jI (a0 5) (zO dr))))
  (a9 (eU (fz (gn b) (jH b (a0 6) c4) dr)
  (a9 (xW 3 a GJ (fE c4)))
  (a9 (eU (fz oh (a0 3) c4)
  (a7 (eU (fz (mx b) (jH b (a0 6) c4) dr)
  (a9 (q9 b c (rW 1) (Ng (zL M.len (a0 1))) (fE (hW (eG (a0 4) (eG (a0 6) (zO (a0 2))))))))
  eC)
  (a9 (eU (fz (kB b) (jH b (a0 6) c4) (nQ M.jK rfl))
  (a9 (xW 3 a Ci (fE c4)))
  eC)))
  (a9 (eU (fz (mx b) (jH b (a0 6) c4) dr)
  (a7 (gr 2 a (fE (fC (lK M) d rfl (zO (a0 6)))))
  (a9 (gr 3 a (fE c4))))
  eC))))))))
  (a9 (eF (a0 1)))))))
def xN:vp P w K mg base "Program" 4 2 qK :=
 C9 [] M.z6 λb e d a=>(a7 (iJ 0 (c:="Program") a M.qQ (fE (a0 1)))
  (a7 (iJ 0 (c:="Program") a M.jz (fE (fC (v5 M) b rfl (zO (a0 1)))))
  (a9 (iJ 0 (c:="Program") a M.qP (VM (oy rfl rfl M.list (zO (fC (sd M) b rfl (zO (a0 0))))))))))
def qe:su P w K mg base "names_what_is_told" 2 2 mG :=
 gS [] M.qR λb a d c=>(a7 (eU (fz (gn a) (zP "Row" M.gf (a0 1)) dr)
  (a9 (eF (kD (kB a) (fC (lJ M) b rfl (eG (zP "Row" M.jA (a0 1)) (zO (zP "Row" M.ni (a0 1))))) (zP "Reading" M.ic (a0 0)))))
  eC)
  (a7 (eU (jD (lP (fz (gn a) (zP "Row" M.jr (a0 1)) dr) (kI (fz (nH a) (zP "Row" M.jr (a0 1)) (zP "Reading" M.ic (a0 0))))))
  (a9 (eF jC))
  eC)
  (a9 (eF (kD (gn a) (zL M.len (PF.pd (CP (nk M) b rfl (zO (jH a (zP "Reading" M.ic (a0 0)) (zP "Row" M.jr (a0 1))))))) (zL M.len (zP "Row" M.lG (a0 1))))))))
def Ac:ES P w K mg base "close_block" 1 1 r9 :=
 E4 [] M.A2 λe b d a=>(a7 (eU (fY (zP "Reading" M.gE (a0 0)))
  (a7 (Qk a (Bv 0 (c:="Reading") M.gE))
  (a9 (KQ a)))
  eC)
  (a7 (iJ 0 (c:="Reading") a M.lF (Ng (kD (gn b) (zP "Reading" M.jq (a0 0)) dr)))
  (a9 (iJ 0 (c:="Reading") a M.jq (fE fw)))))
def v7:ES P w K mg base "turns_to_else" 1 1 p4 :=
 E4 [] M.xG λe b d a=>(a7 (eU (jD (lP (jN (fY (zP "Reading" M.gE (a0 0)))) (kI (fz (mx b) (jH b (zP "Reading" M.gE (a0 0)) j7) dr))))
  (a9 (jg a jC))
  eC)
  (a7 (q9 b a (Bv 0 (c:="Reading") M.gE) (fE j7) (fE dr))
  (a9 (jg a jC))))
def Bb:su P w K mg base "is_letters" 1 1 uJ :=
 gS [] M.DV λd c b a=>(a7 (oq aK rfl (qy (nM (a0 0))) (kJ 1 b) (by decide)
  (a9 (eU (jN (BE vr vr dr (a0 1) dr))
  (a9 (eF jC))
  eC)))
  (a9 (eF (kD (mx c) (a0 0) dr))))
def Ad:su P w K mg base "is_name" 2 1 vT :=
 gS [] M.LQ λb d c a=>(a9 (eF (mY (kD vr (zL M.len (a0 0)) c4) (oz (fC (Bb M) b rfl (zO (a0 0)))))))
def LY:su P w K mg base "is_row" 3 1 F0 :=
 gS [] M.OA λb a d c=>(a7 (eU (jD (lP (jN (fY (a0 0))) (kI (jN (fY (tL (NG rfl) rfl M.all (by rfl) (zO (nO [] (lj (a0 0)) (λ_ _ _ _=>kz) (λ_ _ _ _=>(fC (Ad M) b rfl (zO (a0 0))))))))))))
  (a9 (eF jC))
  eC)
  (a7 (gr 1 d (fE (fC (Aa M) b rfl (zO (a0 0)))))
  (a7 (eU (fz jW (a0 1) fw)
  (a9 (eF jC))
  eC)
  (a7 (eU (jD (jM (fY (a0 1)) (jd (fz (gn a) (jH a (a0 1) j7) dr))))
  (a9 (eF (kD M0 (zL M.len (a0 0)) (zL M.len (a0 1)))))
  eC)
  (a9 (eF (kD (gn a) (zL M.len (a0 0)) (gD ip (zL M.len (a0 1)) c4))))))))
def xO:ES P w K mg base "reads_within" 5 3 qN :=
 E4 [] M.z7 λd b e a=>(a7 (eU (fz (gn b) (a0 2) (kS (zO dr)))
  (a7 (KR (tT 0 (Ac M) a d rfl j4))
  (a9 (jg a jC)))
  eC)
  (a7 (eU (fz (gn b) (a0 2) (kS (zO dr)))
  (a9 (yP a (tT 0 (v7 M) a d rfl j4)))
  eC)
  (a7 (eU (jN (fY (fC (LY M) d rfl (zO (a0 2)))))
  (a9 (jg a jC))
  eC)
  (a7 (gr 3 e (fE (PF.pd (CQ (wR M) d rfl (zO (a0 2))))))
  (a7 (eU (jD (jM (fz j6 (zP "Row" M.jA (a0 3)) fw) (jd (fz (nH b) (zP "Row" M.jA (a0 3)) (zP "Reading" M.gX (a0 0))))))
  (a9 (jg a jC))
  eC)
  (a7 (eU (fz (kB b) (zP "Row" M.gf (a0 3)) (nQ M.jK rfl))
  (a9 (kX a (Bv 0 (c:="Reading") M.gE) (fE (zP "Row" M.gf (a0 3)))))
  eC)
  (a7 (eU (fz (kB b) (zP "Row" M.gf (a0 3)) (hW (eG dr (zO dr))))
  (a9 (kX a (Bv 0 (c:="Reading") M.mQ) (fE (hW (eG (a0 1) (zO (a0 3)))))))
  eC)
  (a9 (jg a (kD vr (zL M.len (zP "Reading" M.gE (a0 0))) (nQ M.AX rfl)))))))))))
def wV:su P w K mg base "are_once" 1 1 sW :=
 gS [] M.Iv λd b c a=>(a9 (eF (kD (gn b) (K0 rfl rfl M.len rfl M.set (a0 0)) (zL M.len (a0 0)))))
def Bc:ES P w K mg base "reads_kind" 2 2 uK :=
 E4 [3] M.DW λe b d a=>(a7 (eU (jD (lP (fY (zP "Reading" M.ic (a0 0))) (lP (fz Bq (zL M.len (a0 1)) c4) (kI (fz (kB b) (jH b (a0 1) c4) (zP "Reading" M.gX (a0 0)))))))
  (a9 (jg a jC))
  eC)
  (a7 (gr 2 d (fE (iP (a0 1) (hI c4) hG)))
  (a7 (jP 3 d a (ki (lR j4)))
  (a7 (eU (jD (jM (fY (a0 2)) (jd (fz (gn b) (jH b (a0 2) c4) dr))))
  (a7 (eU (jD (lP (fz Bq (zL M.len (a0 2)) c4) (kI (fz (nH b) (jH b (a0 2) c4) (zP "Reading" M.gX (a0 0))))))
  (a9 (jg a jC))
  eC)
  (a7 (jP 3 d a (Hn (oy rfl rfl M.list (zO (jH b (zP "Reading" M.gX (a0 0)) (jH b (a0 2) c4))))))
  (a9 (gr 2 d (fE (iP (a0 2) (hI c4) hG))))))
  eC)
  (a7 (eU (jD (jM (fY (a0 2)) (jd (jD (lP (fz (mx b) (jH b (a0 2) c4) dr) (kI (fz Bq (zL M.len (a0 2)) c4)))))))
  (a9 (jg a jC))
  eC)
  (a7 (Hq a (rW 3) (ki (yN (a0 2) (hI c4) hG)))
  (wC (O':=[0]) 3 (by decide) (by decide)
  (have a:([0]:List Nat).Nodup:=by decide
  (a7 (q9 b a (Bv 0 (c:="Reading") M.gX) (fE (jH b (a0 1) c4)) (fE (a0 3)))
  (a9 (jg a (fC (wV M) e rfl (zO (a0 3))))))))))))))
def n9:su P w K mg base "are_heads_names" 2 1 lD :=
 gS [] M.uY λb a d c=>(a7 (eU (jD (jM (fz (gn a) (jH a (a0 0) c4) dr) (jM (fz (kB a) dr (iP (a0 0) (hI c4) hG)) (jd (jN (fY (PF.pd (CP (nk M) b rfl (zO (a0 0))))))))))
  (a9 (eF jC))
  eC)
  (a7 (gr 1 d (fE (gD ip (PF.pd (CP (qU M) b rfl (zO (a0 0)))) (PF.pd (CP (nk M) b rfl (zO (a0 0)))))))
  (a9 (eF (mY (kD (nH a) dr (a0 1)) (oz (fC (wV M) b rfl (zO (a0 1)))))))))
def IF:su P w K mg base "is_head" 3 2 B4 :=
 gS [] M.LR λb a d c=>(a7 (eU (fz (gn a) (jH a (a0 1) c4) dr)
  (a9 (eF (mY (kD oh (zL M.len (a0 1)) c4) (mY (kD (mx a) (jH a (a0 1) c4) dr) (oz (fC (n9 M) b rfl (zO (a0 1))))))))
  eC)
  (a7 (eU (fz (gn a) (jH a (a0 1) c4) dr)
  (a9 (eF (mY (kD oh (zL M.len (a0 1)) c4) (mY (kD (kB a) (jH a (a0 1) c4) (zP "Reading" M.gX (a0 0))) (oz (fC (n9 M) b rfl (zO (a0 1))))))))
  eC)
  (a9 (eF (kD (gn a) (a0 1) (kS (zO dr)))))))
def D3:ES P w K mg base "reads_row" 6 3 wN :=
 E4 [] M.Gk λb d e a=>(a7 (eU (fY (zP "Reading" M.lF (a0 0)))
  (a9 (jg a jC))
  eC)
  (a7 (eU (fz j6 (zP "Reading" M.jq (a0 0)) fw)
  (a9 (yP a (tT 0 (xO M) a b rfl (eG (a0 1) (zO (a0 2))))))
  eC)
  (a7 (eU (fz (gn d) (jH d (a0 2) c4) dr)
  (a9 (yP a (tT 0 (Bc M) a b rfl (zO (a0 2)))))
  eC)
  (a7 (eU (jD (lP (jN (fY (fC (IF M) b rfl (eG (a0 0) (zO (a0 2)))))) (kI (fz (kB d) (fC (lK M) b rfl (zO (a0 2))) (zP "Reading" M.ic (a0 0))))))
  (a9 (jg a jC))
  eC)
  (a7 (iJ 0 (c:="Reading") a M.jq (fE (fC (lK M) b rfl (zO (a0 2)))))
  (a7 (q9 d a (Bv 0 (c:="Reading") M.ic) (Ng (zP "Reading" M.jq (a0 0))) (fE (a0 2)))
  (a9 (jg a jC))))))))
def xP:su P w K mg base "read_program" 7 1 nW :=
 gS [1] M.z8 λb d c a=>(a7 (jP 1 c a (ki (Np (xM M) b rfl)))
  (a7 (NJ 2 [] c (lj (nL PySem.F.slot_str_split PySem.F.type_str_split jI (a0 0) (zO dr))) (λ_ _ _ _=>kz) (λ_ _ _ _=>(nL PySem.F.slot_str_split PySem.F.type_str_split jI (a0 0) (zO dr))))
  (a7 (oq aK rfl (qy (EY rfl M.enumerate (a0 2))) (lZ 3 4 rfl c) (by decide)
  (a9 (Qr (VE (S2 (jN (fY (tL (NG rfl) rfl M.all (by rfl) (zO (nO [] (lj (a0 4)) (λ_ _ _ _=>kz) (λ_ _ _ _=>(fC (Ad M) b rfl (zO (a0 0))))))))) (Qq (Qp (Qo (tT 1 (D3 M) a b rfl (eG (a0 3) (zO (a0 4)))))))))
  (a9 vl)
  eC)))
  (a7 (eU (jN (fY (zP "Reading" M.lF (a0 1))))
  (a9 vl)
  eC)
  (wC (O':=[]) 1 (by decide) (by decide)
  (have a:([]:List Nat).Nodup:=by decide
  (a7 (oq aK rfl (qy (nM (zP "Reading" M.mQ (a0 1)))) (lZ 3 5 rfl c) (by decide)
  (a9 (eU (jN (fY (fC (qe M) b rfl (eG (a0 1) (zO (a0 5))))))
  (a9 vl)
  eC)))
  (a9 (eF (PF.pd (CQ (xN M) b rfl (zO (a0 0)))))))))))))
def pD:pY P w K mg base "Machine" "calls" 1 1 fN :=
 pK M.xH λc b a=>(bb (fy 1 a mf)
  (bb (fy 2 a (Oa (HC (nO [] (lj (iP (zP "State" M.gz (zP "Machine" M.gM (a0 0))) hG (hI j7))) (λ_ _ _ _=>kz) (λ_ _ _ _=>(zP "Call" M.iH (a0 0)))) (kS (zO fw)))))
  (bb (Q1 aK rfl rfl M.zip (fx M.gz (fx M.gM (a8 0))) (a8 2) (lZ 3 4 rfl a)
  (dt (fA (jk (a8 1) (HI (cn (fx M.wO (a8 3)) (cn (a8 4) (cn (N9 rfl rfl M.sorted (zP "Call" M.lE (a0 3))) fj))))))))
  (dt (gU (a8 1))))))
def Ae:lW P w K mg base "_law_run_out" 9 2 i5 :=
 iZ M.A3 λb c a=>(bb (fy 2 a (eD c4))
  (bb (Fc aK (x6 (f6 (ie M) (a8 0) b))
  (bb (fy 2 a (eD (gD ip (a0 2) c4)))
  (dt (hV (JN oh (Ob Jn rfl M.len (by rfl) (f6 (pD M) (a8 0) b)) (a8 1))
  (dt (gU (eD fw)))
  gu))))
  (dt (gU (a8 2)))))
def p6:pY P w K mg base "Machine" "told" 1 1 gJ :=
 pK M.z9 λc b a=>(dt (gU (QR rfl M.list (fx M.kl (fx M.gM (a8 0))))))
def qX:jb P w K mg base "Machine" "end" 1 1 g0 :=
 o6 [] M.A4 λd c b a=>(a9 (eF (zP "State" M.i8 (zP "Machine" M.gM (a0 0)))))
def se:lW P w K mg base "_law_stands" 2 3 iT :=
 iZ M.DX λc a b=>(bb (fy 3 b (f6 (pD M) (a8 0) c))
  (bb (hV (fG (fz (mx a) (zL M.len (a0 3)) (a0 2)))
  (dt (gU (eD jC)))
  gu)
  (bb (Fj 4 [] b (lj (a0 3)) (λ_ _ _ _=>kz) (λ_ _ _ _=>(jH a (a0 0) c4)))
  (dt (gU (eD (kD (gn a) (a0 4) (gD ip (gD ip (PF.pd (yZ (lR (zO (jH a (a0 1) c4))) (lQ vB rfl M.int (by rfl) (zO (kD oh (a0 2) c4))))) (PF.pd (yZ (lR (zO (jH a (a0 1) c4))) (gD yB (a0 2) c4)))) (kS (zO fw))))))))))
def Tn{g:Addr}(e:mg "law"=Y (.ref g)):∃f:FuncData,(∀(s:Shared) (u:Value),BindsTo s f ⟨[u],[]⟩ [("_law_script",u)])/\∀c:Heap,K.In c->c.Ns mainGlobals mg->kR P w K mg c vb 11 g f ["_law_script"] (Rr K 1 F7) :=
 QO e M.Wa λ_=>λa d b=>(bb (fy 1 b (eD (fC (n6 M) a rfl (eG (a0 0) (zO c4)))))
  (bb (fy 2 b (eD (kD oh (gD sk (a0 1) c4) c4)))
  (bb (fy 3 b (eD (gD sk (gD Hc (a0 1) c4) c4)))
  (bb (fy 4 b (eD (kD oh (gD sk (gD Hc (a0 1) c4) c4) c4)))
  (bb (fy 5 b (eD (gD sk (fC (n6 M) a rfl (eG (a0 0) (zO c4))) c4)))
  (bb (fy 6 b (eD (fC (D1 M) a rfl (eG (gD sk (a0 1) c4) (eG (a0 3) (zO (a0 4)))))))
  (bb (JF 7 [] b (lj (a0 6)) (λ_ _ _ _=>(tP (fz (nH d) (jH d (nL PySem.F.slot_str_split PySem.F.type_str_split jI (a0 0) (zO dr)) c4) (hW (sy ["kind","func","method","main","else","end"] rfl))))) (λ_ _ _ _=>(a0 0)))
  (bb (hV (fG (jN (fY (a0 2))))
  (bb (JF 7 [] b (lj (a0 6)) (λ_ _ _ _=>(tP (fz (kB d) (jH d (nL PySem.F.slot_str_split PySem.F.type_str_split jI (a0 0) (zO dr)) c4) (hW (sy ["if","do","rest","give","new","tell"] rfl))))) (λ_ _ _ _=>(a0 0)))
  (dt (fy 7 b (eD (gD ip (gD ip (iP (a0 7) hG (hI j7)) (kS (zO dr))) (iP (a0 7) (hI j7) hG))))))
  gu)
  (bb (fy 8 b (eD (hW (eG (gD yB (zL M.len (a0 7)) c4) (zO c4)))))
  (bb (fy 9 b (eD (gD ip (nO [(0,"_law_script")] (sm rfl M.range (a0 5)) (λ_ _ _ _=>kz) (λ_ _ _ _=>(gD ip c4 (gD sk (fC (n6 M) a rfl (eG (a0 1) (zO (gD ip c4 (a0 0))))) (gD SJ c4 c4))))) (PF.pd (yZ (lR (zO c4)) (gD sk (gD Hc (a0 1) c4) c4))))))
  (bb (fy 10 b (x4 (xJ M) a rfl (cn (eD (fC (xP M) a rfl (zO (nL PySem.F.slot_str_join PySem.F.type_str_join N2 dr (zO (a0 6)))))) (cn (a8 9) (cn (eD c4) fj)))))
  (bb (fy 11 b (eD (gD ip c4 (lQ vB rfl M.int (by rfl) (zO (Qz (a0 2)))))))
  (bb (oO aK rfl (uc (yM rfl M.range (a0 11))) (kJ 12 b)
  (dt (fA (f6 (ie M) (a8 10) a))))
  (bb (fy 13 b (eD (tL (SR rfl) rfl M.min (by rfl) (eG (a0 5) (zO c4)))))
  (bb (oO aK rfl (uc (yM rfl M.range (a0 13))) (kJ 12 b)
  (bb (hV (Df (x6 (kL (se M) a rfl (cn (a8 10) (cn (a8 8) (cn (eD (gD ip c4 (a0 12))) fj))))))
  (dt (gU (eD jC)))
  gu)
  (bb (fA (f6 (ie M) (a8 10) a))
  (dt (fA (f6 (ie M) (a8 10) a))))))
  (bb (hV (fG (fz oh (a0 5) c4))
  (bb (fA (f6 (ie M) (a8 10) a))
  (bb (hV (Df (x6 (kL (se M) a rfl (cn (a8 10) (cn (a8 8) (cn (eD c4) fj))))))
  (dt (gU (eD jC)))
  gu)
  (bb (fA (f6 (ie M) (a8 10) a))
  (dt (gU (Dk (gF (kD (gn d) (mz (qX M) (a0 10) a) (hW (eG dr (zO c4))))) (Dk (Di (gn d) (f6 (p6 M) (a8 10) a) (eD (kS j4))) (JG (Di jW (f6 (ie M) (a8 10) a) (eD jC))))))))))
  gu)
  (bb (hV (JN (mx d) (kL (Ae M) a rfl (cn (a8 10) (cn (eD (gD ip c4 (a0 5))) fj))) (eD (gD ip (gD ip c4 (lQ vB rfl M.int (by rfl) (zO (S6 (a0 4) (oz (kD oh (a0 3) c4)))))) (gD Qu (a0 5) (gD ip (a0 3) (lQ vB rfl M.int (by rfl) (zO (kD oh (a0 3) c4))))))))
  (dt (gU (eD jC)))
  gu)
  (bb (fy 14 b (eD dr))
  (bb (hV (fG (jD (jM (fY (a0 4)) (jd (jD (lP (fz oh (a0 3) c4) (kI (fz (gn d) (a0 5) c4))))))))
  (dt (fy 14 b (eD dr)))
  gu)
  (dt (gU (Dk (Di (gn d) (f6 (p6 M) (a8 10) a) (eD (kS (zO (a0 14))))) (JG (gF (kD (gn d) (mz (qX M) (a0 10) a) (hW (eG dr (zO dr))))))))))))))))))))))))))))
end
section
variable {P:Program}{A:Addr}{N:Nat}
def LZ{B y x v u t s r q p d c b a:Addr}{O M L J I H F E D C i g f e:Tok} (X:K.In h) (G:h.Ns mainGlobals mg) (k:W.nsIn K mainGlobals "DEEDS"=Y (Y (.ref A))) (z:(A==sysModules)=false) (l:K.lookup A=Y { cls:=.type "dict",data:=.dict #[⟨eA.keyHash w.params "new",.str "new" O,.ref B⟩,⟨eA.keyHash w.params "row",.str "row" M,.ref y⟩,⟨eA.keyHash w.params "func",.str "func" L,.ref x⟩,⟨eA.keyHash w.params "copy",.str "copy" J,.ref v⟩,⟨eA.keyHash w.params "take",.str "take" I,.ref u⟩,⟨eA.keyHash w.params "put",.str "put" H,.ref t⟩,⟨eA.keyHash w.params "push",.str "push" F,.ref s⟩,⟨eA.keyHash w.params "pull",.str "pull" E,.ref r⟩,⟨eA.keyHash w.params "tell",.str "tell" D,.ref q⟩,⟨eA.keyHash w.params "rest",.str "rest" C,.ref p⟩,⟨eA.keyHash w.params "check",.str "check" i,.ref d⟩,⟨eA.keyHash w.params "fresh",.str "fresh" g,.ref c⟩,⟨eA.keyHash w.params "own",.str "own" f,.ref b⟩,⟨eA.keyHash w.params "place",.str "place" e,.ref a⟩] N })
  (l0:W.nsIn K mainGlobals "do_new"=Y (Y (.ref B)))
  (l1:W.nsIn K mainGlobals "do_row_thing"=Y (Y (.ref y)))
  (l2:W.nsIn K mainGlobals "do_func"=Y (Y (.ref x)))
  (l3:W.nsIn K mainGlobals "do_copy"=Y (Y (.ref v)))
  (V:W.nsIn K mainGlobals "do_take"=Y (Y (.ref u)))
  (U:W.nsIn K mainGlobals "do_put"=Y (Y (.ref t)))
  (T:W.nsIn K mainGlobals "do_push"=Y (Y (.ref s)))
  (S:W.nsIn K mainGlobals "do_pull"=Y (Y (.ref r)))
  (R:W.nsIn K mainGlobals "do_tell"=Y (Y (.ref q)))
  (Q:W.nsIn K mainGlobals "do_nothing"=Y (Y (.ref p)))
  (o:W.nsIn K mainGlobals "do_nothing"=Y (Y (.ref d)))
  (n:W.nsIn K mainGlobals "do_fresh"=Y (Y (.ref c)))
  (m:W.nsIn K mainGlobals "do_own"=Y (Y (.ref b)))
  (j:W.nsIn K mainGlobals "do_place"=Y (Y (.ref a))):y4 P w K mg "DEEDS" pN :=
 Tf (P:=P) (l:=[("new",O,B,"do_new"),("row",M,y,"do_row_thing"),("func",L,x,"do_func"),("copy",J,v,"do_copy"),("take",I,u,"do_take"),("put",H,t,"do_put"),("push",F,s,"do_push"),("pull",E,r,"do_pull"),("tell",D,q,"do_tell"),("rest",C,p,"do_nothing"),("check",i,d,"do_nothing"),("fresh",g,c,"do_fresh"),("own",f,b,"do_own"),("place",e,a,"do_place")]) (W.mg_of X G k) z l (by show (["new","row","func","copy","take","put","push","pull","tell","rest","check","fresh","own","place"]:Lr).Nodup;decide +kernel) (af.mpr ⟨W.mg_of X G l0,af.mpr ⟨W.mg_of X G l1,af.mpr ⟨W.mg_of X G l2,af.mpr ⟨W.mg_of X G l3,af.mpr ⟨W.mg_of X G V,af.mpr ⟨W.mg_of X G U,af.mpr ⟨W.mg_of X G T,af.mpr ⟨W.mg_of X G S,af.mpr ⟨W.mg_of X G R,af.mpr ⟨W.mg_of X G Q,af.mpr ⟨W.mg_of X G o,af.mpr ⟨W.mg_of X G n,af.mpr ⟨W.mg_of X G m,af.mpr ⟨W.mg_of X G j,aO _⟩⟩⟩⟩⟩⟩⟩⟩⟩⟩⟩⟩⟩⟩)
def xQ{b a:Tok}(X:K.In h)(G:h.Ns mainGlobals mg)(k:W.nsIn K mainGlobals "BLOCK_WORDS"=Y (Y (.ref A)))(l:K.lookup A=Y (zy #[.str "if" b,.str "while" a] N)):C7 K mg "BLOCK_WORDS" (.tuple [(.str "if"),(.str "while")]) :=
 ⟨.ref A,.ref A,W.mg_of X G k,rfl,nR (xs:=["if","while"]) l (by show 2<=sizeLine;decide) (.cons ⟨_,rfl⟩ (.cons ⟨_,rfl⟩ .nil))⟩
def Gq{c b a:Tok}(X:K.In h)(G:h.Ns mainGlobals mg)(k:W.nsIn K mainGlobals "CALLERS"=Y (Y (.ref A)))(l:K.lookup A=Y (zy #[.str "do" c,.str "ask" b,.str "straight" a] N)):C7 K mg "CALLERS" (.tuple [(.str "do"),(.str "ask"),(.str "straight")]) :=
 ⟨.ref A,.ref A,W.mg_of X G k,rfl,nR (xs:=["do","ask","straight"]) l (by show 3<=sizeLine;decide) (.cons ⟨_,rfl⟩ (.cons ⟨_,rfl⟩ (.cons ⟨_,rfl⟩ .nil)))⟩
def Af{f e d:Addr}{o n m:Nat}{j i c g b a:Tok} (X:K.In h) (G:h.Ns mainGlobals mg) (k:W.nsIn K mainGlobals "CONDITIONS"=Y (Y (.ref A))) (z:(A==sysModules)=false) (l:K.lookup A=Y { cls:=.type "dict",data:=.dict #[⟨eA.keyHash w.params "choose",.str "choose" j,.ref f⟩,⟨eA.keyHash w.params "some",.str "some" i,.ref e⟩,⟨eA.keyHash w.params "same",.str "same" g,.ref d⟩] N })
  (r:K.lookup f=Y (zy #[] o))
  (q:K.lookup e=Y (zy #[.str "X" c] n))
  (p:K.lookup d=Y (zy #[.str "X" b,.str "Y" a] m)):lq P w K mg "CONDITIONS" ng :=
 C8 (P:=P) (l:=[("choose",j,.ref f,.tuple (([]:Lr).map .str)),("some",i,.ref e,.tuple ((["X"]:Lr).map .str)),("same",g,.ref d,.tuple ((["X","Y"]:Lr).map .str))]) (W.mg_of X G k) z l (by show (["choose","some","same"]:Lr).Nodup;decide +kernel) (af.mpr ⟨⟨.ref f,rfl,nR (xs:=[]) r (by show 0<=sizeLine;decide) .nil⟩,af.mpr ⟨⟨.ref e,rfl,nR (xs:=["X"]) q (by show 1<=sizeLine;decide) (.cons ⟨_,rfl⟩ .nil)⟩,af.mpr ⟨⟨.ref d,rfl,nR (xs:=["X","Y"]) p (by show 2<=sizeLine;decide) (.cons ⟨_,rfl⟩ (.cons ⟨_,rfl⟩ .nil))⟩,aO _⟩⟩⟩)
def L1{V0 V1 V2 V3 V4 V5 V6 V7 V8 V9 i g f e d c b a:Addr}{m0 m1 m2 m3 m4 m5 m6 m7 m8 m9 m10 m11 m12 m13 m14 m15 m16 m17:Nat}{t0 YR YS t1 YT t2 YU YV YW t3 YX YY t4 YZ Y0 Y1 t5 Y2 V U t6 T S t7 R Q t8 O M L t9 J I H F t10 E D C B y t11 x t12 v t13 t14 u t t15 s r t16 q p o t17 n m j:Tok} (X:K.In h) (G:h.Ns mainGlobals mg) (k:W.nsIn K mainGlobals "FORMS"=Y (Y (.ref A))) (z:(A==sysModules)=false) (l:K.lookup A=Y { cls:=.type "dict",data:=.dict #[⟨eA.keyHash w.params "new",.str "new" t0,.ref V0⟩,⟨eA.keyHash w.params "row",.str "row" t1,.ref V1⟩,⟨eA.keyHash w.params "func",.str "func" t2,.ref V2⟩,⟨eA.keyHash w.params "copy",.str "copy" t3,.ref V3⟩,⟨eA.keyHash w.params "take",.str "take" t4,.ref V4⟩,⟨eA.keyHash w.params "put",.str "put" t5,.ref V5⟩,⟨eA.keyHash w.params "push",.str "push" t6,.ref V6⟩,⟨eA.keyHash w.params "pull",.str "pull" t7,.ref V7⟩,⟨eA.keyHash w.params "do",.str "do" t8,.ref V8⟩,⟨eA.keyHash w.params "ask",.str "ask" t9,.ref V9⟩,⟨eA.keyHash w.params "straight",.str "straight" t10,.ref i⟩,⟨eA.keyHash w.params "give",.str "give" t11,.ref g⟩,⟨eA.keyHash w.params "tell",.str "tell" t12,.ref f⟩,⟨eA.keyHash w.params "rest",.str "rest" t13,.ref e⟩,⟨eA.keyHash w.params "check",.str "check" t14,.ref d⟩,⟨eA.keyHash w.params "fresh",.str "fresh" t15,.ref c⟩,⟨eA.keyHash w.params "own",.str "own" t16,.ref b⟩,⟨eA.keyHash w.params "place",.str "place" t17,.ref a⟩] N })
  (l0:K.lookup V0=Y (zy #[.str "X" YR,.str "KIND" YS] m0))
  (l1:K.lookup V1=Y (zy #[.str "X" YT] m1))
  (l2:K.lookup V2=Y (zy #[.str "X" YU,.str "FUNCTION" YV,.str "A" YW] m2))
  (l3:K.lookup V3=Y (zy #[.str "X" YX,.str "Y" YY] m3))
  (l4:K.lookup V4=Y (zy #[.str "X" YZ,.str "Y" Y0,.str "FIELD" Y1] m4))
  (l5:K.lookup V5=Y (zy #[.str "Y" Y2,.str "FIELD" V,.str "X" U] m5))
  (l6:K.lookup V6=Y (zy #[.str "Y" T,.str "X" S] m6))
  (l7:K.lookup V7=Y (zy #[.str "X" R,.str "Y" Q] m7))
  (l8:K.lookup V8=Y (zy #[.str "X" O,.str "Y" M,.str "A" L] m8))
  (l9:K.lookup V9=Y (zy #[.str "X" J,.str "Y" I,.str "METHOD" H,.str "A" F] m9))
  (l10:K.lookup i=Y (zy #[.str "X" E,.str "Y" D,.str "KIND" C,.str "METHOD" B,.str "A" y] m10))
  (l11:K.lookup g=Y (zy #[.str "X" x] m11))
  (l12:K.lookup f=Y (zy #[.str "X" v] m12))
  (l13:K.lookup e=Y (zy #[] m13))
  (l14:K.lookup d=Y (zy #[.str "Y" u,.str "FIELD" t] m14))
  (l15:K.lookup c=Y (zy #[.str "X" s,.str "KIND" r] m15))
  (l16:K.lookup b=Y (zy #[.str "X" q,.str "Y" p,.str "FIELD" o] m16))
  (l17:K.lookup a=Y (zy #[.str "Y" n,.str "FIELD" m,.str "X" j] m17)):lq P w K mg "FORMS" Dq :=
 C8 (P:=P) (l:=[("new",t0,.ref V0,.tuple ((["X","KIND"]:Lr).map .str)),("row",t1,.ref V1,.tuple ((["X"]:Lr).map .str)),("func",t2,.ref V2,.tuple ((["X","FUNCTION","A"]:Lr).map .str)),("copy",t3,.ref V3,.tuple ((["X","Y"]:Lr).map .str)),("take",t4,.ref V4,.tuple ((["X","Y","FIELD"]:Lr).map .str)),("put",t5,.ref V5,.tuple ((["Y","FIELD","X"]:Lr).map .str)),("push",t6,.ref V6,.tuple ((["Y","X"]:Lr).map .str)),("pull",t7,.ref V7,.tuple ((["X","Y"]:Lr).map .str)),("do",t8,.ref V8,.tuple ((["X","Y","A"]:Lr).map .str)),("ask",t9,.ref V9,.tuple ((["X","Y","METHOD","A"]:Lr).map .str)),("straight",t10,.ref i,.tuple ((["X","Y","KIND","METHOD","A"]:Lr).map .str)),("give",t11,.ref g,.tuple ((["X"]:Lr).map .str)),("tell",t12,.ref f,.tuple ((["X"]:Lr).map .str)),("rest",t13,.ref e,.tuple (([]:Lr).map .str)),("check",t14,.ref d,.tuple ((["Y","FIELD"]:Lr).map .str)),("fresh",t15,.ref c,.tuple ((["X","KIND"]:Lr).map .str)),("own",t16,.ref b,.tuple ((["X","Y","FIELD"]:Lr).map .str)),("place",t17,.ref a,.tuple ((["Y","FIELD","X"]:Lr).map .str))]) (W.mg_of X G k) z l (by show (["new","row","func","copy","take","put","push","pull","do","ask","straight","give","tell","rest","check","fresh","own","place"]:Lr).Nodup;decide +kernel) (af.mpr ⟨⟨.ref V0,rfl,nR (xs:=["X","KIND"]) l0 (by show 2<=sizeLine;decide) (.cons ⟨_,rfl⟩ (.cons ⟨_,rfl⟩ .nil))⟩,af.mpr ⟨⟨.ref V1,rfl,nR (xs:=["X"]) l1 (by show 1<=sizeLine;decide) (.cons ⟨_,rfl⟩ .nil)⟩,af.mpr ⟨⟨.ref V2,rfl,nR (xs:=["X","FUNCTION","A"]) l2 (by show 3<=sizeLine;decide) (.cons ⟨_,rfl⟩ (.cons ⟨_,rfl⟩ (.cons ⟨_,rfl⟩ .nil)))⟩,af.mpr ⟨⟨.ref V3,rfl,nR (xs:=["X","Y"]) l3 (by show 2<=sizeLine;decide) (.cons ⟨_,rfl⟩ (.cons ⟨_,rfl⟩ .nil))⟩,af.mpr ⟨⟨.ref V4,rfl,nR (xs:=["X","Y","FIELD"]) l4 (by show 3<=sizeLine;decide) (.cons ⟨_,rfl⟩ (.cons ⟨_,rfl⟩ (.cons ⟨_,rfl⟩ .nil)))⟩,af.mpr ⟨⟨.ref V5,rfl,nR (xs:=["Y","FIELD","X"]) l5 (by show 3<=sizeLine;decide) (.cons ⟨_,rfl⟩ (.cons ⟨_,rfl⟩ (.cons ⟨_,rfl⟩ .nil)))⟩,af.mpr ⟨⟨.ref V6,rfl,nR (xs:=["Y","X"]) l6 (by show 2<=sizeLine;decide) (.cons ⟨_,rfl⟩ (.cons ⟨_,rfl⟩ .nil))⟩,af.mpr ⟨⟨.ref V7,rfl,nR (xs:=["X","Y"]) l7 (by show 2<=sizeLine;decide) (.cons ⟨_,rfl⟩ (.cons ⟨_,rfl⟩ .nil))⟩,af.mpr ⟨⟨.ref V8,rfl,nR (xs:=["X","Y","A"]) l8 (by show 3<=sizeLine;decide) (.cons ⟨_,rfl⟩ (.cons ⟨_,rfl⟩ (.cons ⟨_,rfl⟩ .nil)))⟩,af.mpr ⟨⟨.ref V9,rfl,nR (xs:=["X","Y","METHOD","A"]) l9 (by show 4<=sizeLine;decide) (.cons ⟨_,rfl⟩ (.cons ⟨_,rfl⟩ (.cons ⟨_,rfl⟩ (.cons ⟨_,rfl⟩ .nil))))⟩,af.mpr ⟨⟨.ref i,rfl,nR (xs:=["X","Y","KIND","METHOD","A"]) l10 (by show 5<=sizeLine;decide) (.cons ⟨_,rfl⟩ (.cons ⟨_,rfl⟩ (.cons ⟨_,rfl⟩ (.cons ⟨_,rfl⟩ (.cons ⟨_,rfl⟩ .nil)))))⟩,af.mpr ⟨⟨.ref g,rfl,nR (xs:=["X"]) l11 (by show 1<=sizeLine;decide) (.cons ⟨_,rfl⟩ .nil)⟩,af.mpr ⟨⟨.ref f,rfl,nR (xs:=["X"]) l12 (by show 1<=sizeLine;decide) (.cons ⟨_,rfl⟩ .nil)⟩,af.mpr ⟨⟨.ref e,rfl,nR (xs:=[]) l13 (by show 0<=sizeLine;decide) .nil⟩,af.mpr ⟨⟨.ref d,rfl,nR (xs:=["Y","FIELD"]) l14 (by show 2<=sizeLine;decide) (.cons ⟨_,rfl⟩ (.cons ⟨_,rfl⟩ .nil))⟩,af.mpr ⟨⟨.ref c,rfl,nR (xs:=["X","KIND"]) l15 (by show 2<=sizeLine;decide) (.cons ⟨_,rfl⟩ (.cons ⟨_,rfl⟩ .nil))⟩,af.mpr ⟨⟨.ref b,rfl,nR (xs:=["X","Y","FIELD"]) l16 (by show 3<=sizeLine;decide) (.cons ⟨_,rfl⟩ (.cons ⟨_,rfl⟩ (.cons ⟨_,rfl⟩ .nil)))⟩,af.mpr ⟨⟨.ref a,rfl,nR (xs:=["Y","FIELD","X"]) l17 (by show 3<=sizeLine;decide) (.cons ⟨_,rfl⟩ (.cons ⟨_,rfl⟩ (.cons ⟨_,rfl⟩ .nil)))⟩,aO _⟩⟩⟩⟩⟩⟩⟩⟩⟩⟩⟩⟩⟩⟩⟩⟩⟩⟩)
def L3{x m v j u i t g s f r e q d p c o b n a:Tok}(X:K.In h)(G:h.Ns mainGlobals mg)(k:W.nsIn K mainGlobals "SORTS"=Y (Y (.ref A)))(z:(A==sysModules)=false)(l:K.lookup A=Y { cls:=.type "dict",data:=.dict #[⟨eA.keyHash w.params "take",.str "take" x,.str "record" m⟩,⟨eA.keyHash w.params "put",.str "put" v,.str "record" j⟩,⟨eA.keyHash w.params "check",.str "check" u,.str "record" i⟩,⟨eA.keyHash w.params "ask",.str "ask" t,.str "record" g⟩,⟨eA.keyHash w.params "straight",.str "straight" s,.str "record" f⟩,⟨eA.keyHash w.params "push",.str "push" r,.str "row" e⟩,⟨eA.keyHash w.params "pull",.str "pull" q,.str "row" d⟩,⟨eA.keyHash w.params "do",.str "do" p,.str "func" c⟩,⟨eA.keyHash w.params "own",.str "own" o,.str "mark" b⟩,⟨eA.keyHash w.params "place",.str "place" n,.str "mark" a⟩] N }):lq P w K mg "SORTS" ya :=
 C8 (P:=P) (l:=[("take",x,.str "record" m,.str "record"),("put",v,.str "record" j,.str "record"),("check",u,.str "record" i,.str "record"),("ask",t,.str "record" g,.str "record"),("straight",s,.str "record" f,.str "record"),("push",r,.str "row" e,.str "row"),("pull",q,.str "row" d,.str "row"),("do",p,.str "func" c,.str "func"),("own",o,.str "mark" b,.str "mark"),("place",n,.str "mark" a,.str "mark")]) (W.mg_of X G k) z l (by show (["take","put","check","ask","straight","push","pull","do","own","place"]:Lr).Nodup;decide +kernel) (af.mpr ⟨⟨.str "record",⟨_,rfl⟩,λ_=>eI.fq.mpr rfl⟩,af.mpr ⟨⟨.str "record",⟨_,rfl⟩,λ_=>eI.fq.mpr rfl⟩,af.mpr ⟨⟨.str "record",⟨_,rfl⟩,λ_=>eI.fq.mpr rfl⟩,af.mpr ⟨⟨.str "record",⟨_,rfl⟩,λ_=>eI.fq.mpr rfl⟩,af.mpr ⟨⟨.str "record",⟨_,rfl⟩,λ_=>eI.fq.mpr rfl⟩,af.mpr ⟨⟨.str "row",⟨_,rfl⟩,λ_=>eI.fq.mpr rfl⟩,af.mpr ⟨⟨.str "row",⟨_,rfl⟩,λ_=>eI.fq.mpr rfl⟩,af.mpr ⟨⟨.str "func",⟨_,rfl⟩,λ_=>eI.fq.mpr rfl⟩,af.mpr ⟨⟨.str "mark",⟨_,rfl⟩,λ_=>eI.fq.mpr rfl⟩,af.mpr ⟨⟨.str "mark",⟨_,rfl⟩,λ_=>eI.fq.mpr rfl⟩,aO _⟩⟩⟩⟩⟩⟩⟩⟩⟩⟩)
end
open PySem L2 PySem.StrLaws PySem.Builtin PySem.Builtin.Str
open PySem
noncomputable def qf(w:Str)(c x y k m f:eA)(h n:Lp):eA:=.dict [(.none,.str "Row"),(.str "word",.str w),(.str "condition",c),(.str "x",x),(.str "y",y),(.str "kind",k),(.str "field",.none),(.str "method",m),(.str "function",f),(.str "handed",.list h),(.str "names",.list n)]
noncomputable abbrev Ak(w:Nat):eA:=if w=0 then .str "fa" else .str "ka.m"
noncomputable abbrev nB(b g:Nat):Nat:=2+b+g+(if b=0 then 0 else 1)
noncomputable abbrev cr(w b g:Nat):Nat:=nB b g+(if w=0 then 2 else 1)
noncomputable abbrev Me(x:Str):eA:=qf "give" .none (.str x) .none .none .none .none [] [.str x]
noncomputable abbrev v8(w b g:Nat):Lp:=[qf "if" (.str "choose") .none .none .none .none .none [] [],
 if w=0 then qf "do" .none (.str "z") (.str "p") .none .none .none [.str "p"] [.str "z",.str "p",.str "p"] else if w=1 then qf "ask" .none (.str "z") (.str "self") .none (.str "m") .none [.str "self"] [.str "z",.str "self",.str "self"] else qf "straight" .none (.str "z") (.str "self") (.str "ka") (.str "m") .none [.str "self"] [.str "z",.str "self",.str "self"]]
++(List.replicate b (qf "rest" .none .none .none .none .none .none [] [])++((if g=0 then [] else [if w=0 then Me "k" else Me "self"])++((if b=0 then [] else [Me "z"])++(qf "new" .none (.str "a") .none (.str "ka") .none .none [] [.str "a"]::((if w=0 then [qf "func" .none (.str "b") .none .none .none (.str "fa") [.str "a"] [.str "b",.str "a"],qf "do" .none (.str "y") (.str "b") .none .none .none [.str "b"] [.str "y",.str "b",.str "b"]] else [qf "ask" .none (.str "y") (.str "a") .none (.str "m") .none [.str "a"] [.str "y",.str "a",.str "a"]])
++[qf "tell" .none (.str "y") .none .none .none .none [] [.str "y"]])))))
noncomputable abbrev Wb(i k:Nat):Lp:=(List.range' i k).map λj=>.int (j:Nat)
noncomputable abbrev OB:eA:=.str "main"
noncomputable abbrev OL(w b g:Nat):eA:=.dict [(.none,.str "Outline"),(.str "rows",.list (v8 w b g)),(.str "homes",.list (List.replicate (nB b g) (Ak w)++List.replicate (cr w b g+2 - nB b g) OB)),(.str "table",.dict [(.str "ka",.tuple [.none,.list []])]),
 (.str "heads",.dict [(Ak w,.list (if w=0 then [.str "func",.str "fa",.str "p",.str "keeps",.str "k"] else [.str "method",.str "ka",.str "m",.str "p"])),(OB,.list [OB])]),(.str "params",.dict [(Ak w,.list [.str "p"]),(OB,.list [])]),
 (.str "kept",.dict [(Ak w,.list (if w=0 then [.str "k"] else [])),(OB,.list [])]),(.str "own_rows",.dict [(Ak w,.list (Wb 0 (nB b g))),(OB,.list (Wb (nB b g) (cr w b g+2 - nB b g)))]),(.str "fields",.dict [(.str "ka",.list [])])]
noncomputable abbrev oI(i:Nat):eA:=.int (i:Nat)
noncomputable abbrev bh(w b g i:Nat):eA:=if i=0 then oI 1 else if i=1 then (if b=0 then .none else oI 2) else if i<1+b then oI (i+1) else if i=1+b then oI (nB b g - 1) else if i<nB b g then (if b=0 then .none else if i=nB b g - 1 then .none else oI (nB b g - 1)) else if i=cr w b g+1 then .none else oI (i+1)
noncomputable abbrev ow(w b g i:Nat):eA:=if i=0 then (if g=0 then (if b=0 then .none else oI (2+b)) else oI (2+b)) else bh w b g i
noncomputable abbrev RG(i k:Nat):List Nat:=(List.range' i k).reverse
noncomputable abbrev fks(w b g:Nat):List Nat:=RG 0 (nB b g)++RG (nB b g) (cr w b g+2 - nB b g)
noncomputable abbrev FL(w b g:Nat):eA:=.dict [(.none,.str "Flow"),(.str "first",.dict [(Ak w,oI 0),(OB,oI (nB b g))]),(.str "behind",.dict ((fks w b g).map λi=>(oI i,bh w b g i))),(.str "otherwise",.dict ((fks w b g).map λi=>(oI i,ow w b g i)))]
noncomputable abbrev ml(i:Nat):eA:=.tuple [.str "thing",.int (i:Nat)]
noncomputable abbrev nm(x:Str)(i:Nat):Key×MV:=(.inr x,.d (ml i))
noncomputable def hB(w b g:Nat)(a:eA)(u f:Int)(j:eA)(h e:List MV)(i:eA)(c:List (Key×MV)):MH :=
  [.ins "Machine" [("state",.l 1)],.ins "State" [("outline",.d (OL w b g)),("flow",.d (FL w b g)),("inputs",.d a),("used",.d (.int u)),("fuel",.d (.int f)),("stack",.l 2),("made",.l 3),("shown_texts",.l 4),("ended",.d j)],
   .lst h,.lst (if w=0 then [.l 7,.l 10] else [.l 7]),.lst e,.ins "Call" [("body",.d OB),("path",.d (.tuple [])),("row",.d i),("named",.l 6)],.lS (nm "a" 0::((if w=0 then [nm "b" 1] else [])++c)),
   .ins "Thing" [("row",.d (oI (nB b g))),("path",.d (.tuple [])),("form",.d (.str "record")),("slots",.l 8),("members",.l 9)],.lS [],.lst []] ++
  (if w=0 then [.ins "Thing" [("row",.d (oI (nB b g+1))),("path",.d (.tuple [])),("form",.d (.str "func")),("slots",.l 11),("members",.l 12)],.lS [nm "k" 0],.lst []] else [])
noncomputable abbrev bs(w:Nat):Nat:=if w=0 then 13 else 10
noncomputable def fc(w b g j:Nat)(r:eA)(a:List (Key×MV)):MH:=[.ins "Call" [("body",.d (Ak w)),("path",.d (.tuple (oI (cr w b g)::List.replicate j (.int 1)))),("row",.d r),("named",.l (bs w+3*j+1))],.lS ((if w=0 then [nm "p" 1,nm "k" 0] else [nm "p" 0,nm "self" 0])++a)]
noncomputable def Ue(w n:Nat):List MV:=.l 5::(List.range (n+1)).map λj=>.l (bs w+3*j)
def gA{g h:MS}{ρ':MR}{μ':MH}(e:g ρ μ=Y (.nx ρ' μ')):eO g h ρ μ=h ρ' μ':=by unfold eO;rw[e];rfl
def qY{μ':MH}{g h:MS}(q:gc ρ μ=Y (true,μ')):nc gc g h ρ μ=g ρ μ':=by unfold nc;rw[q];rfl
def kH{μ':MH}{g h:MS}(q:gc ρ μ=Y (false,μ')):nc gc g h ρ μ=h ρ μ':=by unfold nc;rw[q];rfl
def nq{m:MF}{μ':MH}{v:MV}(e:m ρ μ=Y (v,μ')):gq m i ρ μ=Y (.nx (ρ.set i (Y v)) μ'):=by unfold gq;rw[e];rfl
def qg{m:MF}{μ':MH}{v:MV}(e:m ρ μ=Y (v,μ')):gg m ρ μ=Y (.nx ρ μ'):=by unfold gg;rw[e];rfl
def D4{c n:Str}{mo m:MF}{μ1 μ2 μ':MH}{v r:MV}(d:m ρ μ=Y (v,μ1))(b:mo ρ μ1=Y (r,μ2))(a:Ay c n v r μ2=Y μ'):jj c n mo m ρ μ=Y (.nx ρ μ'):=by unfold jj;rw[d];show (mo ρ μ1).bind _=_;rw[b];show (Ay c n v r μ2).map _=_;rw[a];rfl
def IG{b:Bool}(h:g (jh μ ρ)=Y b):fo g ρ μ=Y (b,μ):=by unfold fo;rw[h];rfl
def RH{g:ee->Od}(h:g (jh μ ρ)=Y d)(i:oa d=true):gL g ρ μ=Y (.d d,μ):=by unfold gL;rw[h,ae,ag i]
structure Sq where
 O:eA
 F:eA
 inp:eA
 md:List MV
 tl:Lp
structure Cf where
 bd:eA
 pth:eA
 r:eA
 kv:List (Str×eA)
noncomputable abbrev B5(l:List (Str×eA)):List (Key×MV):=l.map λp=>(.inr p.1,.d p.2)
noncomputable def Cf.o(c:Cf)(k:Nat):MO:=.ins "Call" [("body",.d c.bd),("path",.d c.pth),("row",.d c.r),("named",.l k)]
noncomputable def Cf.n(c:Cf):MO:=.lS (B5 c.kv)
noncomputable def Cf.t(c:Cf):eA:=.dict [(.none,.str "Call"),(.str "body",c.bd),(.str "path",c.pth),(.str "row",c.r),(.str "named",.dict (c.kv.map λp=>(.str p.1,p.2)))]
noncomputable def H5(S:Sq)(u f:Int)(en:eA)(st:List MV):MH:=[.ins "Machine" [("state",.l 1)],.ins "State" [("outline",.d S.O),("flow",.d S.F),("inputs",.d S.inp),("used",.d (.int u)),("fuel",.d (.int f)),("stack",.l 2),("made",.l 3),("shown_texts",.l 4),("ended",.d en)],.lst st,.lst S.md,.lst (S.tl.map .d)]
noncomputable def SS(S:Sq)(u f:Int)(en:eA)(st:List MV)(L:MH)(c:Cf)(W:MH):MH:=H5 S u f en st++(L++(c.o (6+L.length)::c.n::W))
noncomputable def Sq.t(S:Sq)(u f:Int)(en:eA)(cs ms:Lp):eA:=.dict [(.none,.str "State"),(.str "outline",S.O),(.str "flow",S.F),(.str "inputs",S.inp),(.str "used",.int u),(.str "fuel",.int f),(.str "stack",.list cs),(.str "made",.list ms),(.str "shown_texts",.list S.tl),(.str "ended",en)]
def Gr{β:Type}{f:α->Option β}{a c:List α}{b d:List β}(h:la f a=Y b)(k:la f c=Y d):la f (a++c)=Y (b++d):=by
 induction a generalizing b with
 |nil=>cases h;exact k
 |cons x a e=>obtain⟨y,j,i⟩:=bind_some h;obtain⟨l,g,rfl⟩:=aa.mp i;rw[cR,la,j,ae,e g];rfl
theorem JQ{f:MV->Od}(a:∀d,f (.d d)=Y d):∀l:Lp,la f (l.map .d)=Y l
 |[]=>rfl
 |x::l=>by rw[aB,la,a,JQ a l];rfl
def mn{H L R:MH}{x:MO}{k:Nat}(a:k=H.length+L.length):(H++(L++(x::R)))[k]?=Y x:=by subst a;rw[<-aN,aI (by simp)];simp
def JR{H L R:MH}{x y:MO}{k:Nat}(a:k=H.length+L.length):(H++(L++(x::R))).set k y=H++(L++(y::R)):=by subst a;rw[<-aN,List.set_append_right _ _ (by simp)];simp
theorem JS{μ:MH}{k:Nat}:∀l:List (Str×eA),la (λq:Key×MV=>(eQ μ (k+1) q.2).map λy=>(kh q.1,y)) (B5 l)=Y (l.map λp=>(.str p.1,p.2))
 |[]=>rfl
 |x::l=>by rw[B5,aB,la,JS l];rfl
def yb{c:Cf}{a k:Nat}(f:μ[a]?=Y (c.o k))(e:μ[k]?=Y c.n)(n:Nat):eQ μ (n+4) (.l a)=Y c.t:=by
 have v:eQ μ (n+3) (.l k)=Y (.dict (c.kv.map λp=>(.str p.1,p.2))):=by rw[eQ,e];show (la (λq:Key×MV=>(eQ μ (n+2) q.2).map λy=>(kh q.1,y)) (B5 c.kv)).map eA.dict=_;rw[JS];rfl
 rw[eQ,f];show (la (λq:Str×MV=>(eQ μ (n+3) q.2).map λy=>(eA.str q.1,y)) [("body",.d c.bd),("path",.d c.pth),("row",.d c.r),("named",.l k)]).map (λr=>eA.dict ((.none,.str "Call")::r))=_;have b:∀d,eQ μ (n+3) (.d d)=Y d:=λ_=>rfl;simp only[la,b,v,dF,ae];rfl
section
variable {S:Sq}{u f:Int}{sl:List MV}{L W:MH}{c:Cf}{cs ms:Lp}{G:MH}
def ti:(H5 S u f en st).length=5:=rfl
def D5:(SS S u f en st L c W)[5+L.length]?=Y (c.o (6+L.length)):=mn rfl
def L4:(SS S u f en st L c W)[6+L.length]?=Y c.n:=by
 have:SS S u f en st L c W=H5 S u f en st++((L++[c.o (6+L.length)])++(c.n::W)):=by simp[SS]
 rw[this];exact mn (by rw[ti];simp;omega)
def D6{k:Nat}(c:la (eQ (H5 S u f en st++G) (k+4)) st=Y cs)(b:la (eQ (H5 S u f en st++G) (k+4)) S.md=Y ms):eQ (H5 S u f en st++G) (k+6) (.l 1)=Y (S.t u f en cs ms):=by
 have h:eQ (H5 S u f en st++G) (k+5) (.l 2)=Y (.list cs):=by show (la (eQ (H5 S u f en st++G) (k+4)) st).map eA.list=_;rw[c];rfl
 have g:eQ (H5 S u f en st++G) (k+5) (.l 3)=Y (.list ms):=by show (la (eQ (H5 S u f en st++G) (k+4)) S.md).map eA.list=_;rw[b];rfl
 have e:eQ (H5 S u f en st++G) (k+5) (.l 4)=Y (.list S.tl):=by show (la (eQ (H5 S u f en st++G) (k+4)) (S.tl.map .d)).map eA.list=_;rw[JQ λ_=>rfl];rfl
 have a:∀d,eQ (H5 S u f en st++G) (k+5) (.d d)=Y d:=λ_=>rfl;show (la (λq:Str×MV=>(eQ (H5 S u f en st++G) (k+5) q.2).map λy=>(eA.str q.1,y)) [("outline",.d S.O),("flow",.d S.F),("inputs",.d S.inp),("used",.d (.int u)),("fuel",.d (.int f)),("stack",.l 2),("made",.l 3),("shown_texts",.l 4),("ended",.d en)]).map (λr=>eA.dict ((.none,.str "State")::r))=_;simp only[la,a,h,g,e,dF,ae];rfl
noncomputable abbrev OC(d:eA):eA:=.dict [(.none,.str "Machine"),(.str "state",d)]
def IH{k:Nat}(h:eQ (H5 S u f en st++G) (k+1) (.l 1)=Y d):eQ (H5 S u f en st++G) (k+2) (.l 0)=Y (OC d):=by show (la (λq:Str×MV=>(eQ (H5 S u f en st++G) (k+1) q.2).map λy=>(eA.str q.1,y)) [("state",.l 1)]).map (λr=>eA.dict ((.none,.str "Machine")::r))=_;simp only[la,h,dF,ae]
noncomputable def Mf(L:MH)(a:List MV)(b:Lp):Prop:=∀(H T:MH) (k:Nat),H.length=5->la (eQ (H++(L++T)) (k+4)) a=Y b
def Mf.more(h:Mf L sl cs)(T:MH):Mf (L++T) sl cs:=λH a k e=>by rw[aN];exact h H _ k e
def Mf.snoc(h:Mf L sl cs)(c:Cf)(x:MO):Mf (L++[c.o (6+L.length),c.n,x]) (sl++[.l (5+L.length)]) (cs++[c.t]):=λH T k e=>by
 refine Gr ((h.more _) H T k e) ?_;have b:(H++((L++[c.o (6+L.length),c.n,x])++T))[5+L.length]?=Y (c.o (6+L.length)):=by rw[aN];exact mn (by rw[e])
 have a:(H++((L++[c.o (6+L.length),c.n,x])++T))[6+L.length]?=Y c.n:=by rw[show (L++[c.o (6+L.length),c.n,x])++T=(L++[c.o (6+L.length)])++(c.n::x::T) by simp];exact mn (by rw[e];simp;omega)
 show (eQ _ (k+4) (.l _)).bind _=_;rw[yb b a k];rfl
def Q3{k:Nat}(b:Mf L sl cs)(a:Mf L S.md ms):eQ (SS S u f en (sl++[.l (5+L.length)]) L c W) (k+6) (.l 1)=Y (S.t u f en (cs++[c.t]) ms):=by refine D6 (Gr (b _ _ k rfl) ?_) (a _ _ k rfl);show (eQ (SS S u f en (sl++[.l (5+L.length)]) L c W) (k+4) (.l _)).bind _=_;rw[yb D5 L4 k];rfl
end
def Ez(a:List α)(x:α):rj (a++[x]) (-1)=Y x:=by
 unfold rj Ey;rw[ai (by omega),ag (by simp;omega),ae];have:(-1+((a++[x]).length:Int)).toNat=a.length:=by simp;omega
 first|rw[this]|(rw[Int.add_comm,this])
 simp
section
variable {S:Sq}{u f:Int}{sl:List MV}{L W:MH}{c:Cf}{cs ms:Lp}{G:MH}
def fQ{v:MV}(h:ρ[i]?=Y (Y v)):b5 i ρ μ=Y (v,μ):=by unfold b5;rw[h];rfl
def II{v:MV}(h:ρ[i]?=Y (Y (.l 1))):fi "State" "top" 1 fI (b5 i) dy ρ (H5 S u f en (sl++[v])++G)=Y (v,H5 S u f en (sl++[v])++G):=by
 have c:fH "State" "stack" (b5 0) [Y (.l 1)] (H5 S u f en (sl++[v])++G)=Y (.l 2,H5 S u f en (sl++[v])++G):=by generalize sl++[v]=s;kernel_rfl
 have b:qd (fH "State" "stack" (b5 0)) (eV (zI (-1))) [Y (.l 1)] (H5 S u f en (sl++[v])++G)=Y (v,H5 S u f en (sl++[v])++G):=by unfold qd;rw[c,ae];show (rj (sl++[v]) (-1)).map _=_;rw[Ez];rfl
 have a:oB "State" "top" (H5 S u f en (sl++[v])++G) (.l 1)=true:=by generalize sl++[v]=s;kernel_rfl
 unfold fi;rw[fQ h,ae,ag a];show fI [.l 1] _=_;unfold fI gN;show (qG [Y (.l 1)] _).bind _=_;unfold qG jE;rw[b];rfl
def OD{m:MF}{n:Str}{v:MV}{k a:Nat}{μ':MH}(h:m ρ μ=Y (.l a,μ'))(e:μ'[a]?=Y (c.o k))(b:qA n [("body",.d c.bd),("path",.d c.pth),("row",.d c.r),("named",.l k)]=Y v):fH "Call" n m ρ μ=Y (v,μ'):=by unfold fH;rw[h,ae];show (μ'[a]?).bind _=_;rw[e,ae];show (if zZ "Call"=zZ "Call" then (qA n [("body",.d c.bd),("path",.d c.pth),("row",.d c.r),("named",.l k)]).map λv=>(v,μ') else Z)=_;rw[ag rfl,b];rfl
def Y3(F:Lp->Od)(x:Od)(a b:eA):k0 2 F (fK (a6 1) (zQ (a6 2))) [x,Y a,Y b]=F [a,b]:=by kernel_rfl
def Ut(h:eQ μ 9 (.l 1)=Y d)(x b:Option MV):jh μ [x,Y (.l 1),b]=[x.bind (eQ μ 9),Y d,b.bind (eQ μ 9)]:=by show [x.bind (eQ μ 9),(Y (MV.l 1)).bind (eQ μ 9),b.bind (eQ μ 9)]=_;rw[ae,h]
def OE:gq (fH "Machine" "state" (b5 0)) 1 [Y (.l 0),Z,Z] (H5 S u f en st++G)=Y (.nx [Y (.l 0),Y (.l 1),Z] (H5 S u f en st++G)):=by kernel_rfl
def Wc(a:eQ (H5 S u f .none st++G) 9 (.l 1)=Y (S.t u f .none cs ms)):fo (fB (d2 kK (eJ ["State"] "ended" (a6 1)) (dC .none))) [Y (.l 0),Y (.l 1),Z] (H5 S u f .none st++G)=Y (false,H5 S u f .none st++G):=IG (by rw[Ut a];generalize (Y (MV.l 0)).bind _=x;generalize (Z:Option MV).bind _=y;kernel_rfl)
def To(b:0<f)(a:eQ (H5 S u f .none st++G) 9 (.l 1)=Y (S.t u f .none cs ms)):fo (fB (d2 CT (eJ ["State"] "fuel" (a6 1)) (zI 0))) [Y (.l 0),Y (.l 1),Z] (H5 S u f .none st++G)=Y (false,H5 S u f .none st++G):=IG (by
 rw[Ut a];generalize (Y (MV.l 0)).bind _=x;generalize (Z:Option MV).bind _=y;obtain⟨φ,rfl⟩:∃φ:Nat,f=Int.ofNat (φ+1):=⟨f.toNat - 1,by simp;omega⟩
 kernel_rfl)
def Q4:ua "State" "fuel" (λi j=>i - j) (b5 1) (eV (zI 1)) [Y (.l 0),Y (.l 1),Z] (H5 S u f en st++G)=Y (.nx [Y (.l 0),Y (.l 1),Z] (H5 S u (f - 1) en st++G)):=by kernel_rfl
def Tp{i e:eA}:Ay "State" "ended" (.d e) (.l 1) (H5 S u f en st++G)=Y (H5 S u f e st++G):=by kernel_rfl
def Tq{i:eA}(a:eQ (H5 S u f .none st++G) 9 (.l 1)=Y (S.t u f .none cs ms)):fo (fB (d2 nP (eJ ["State"] "ended" (a6 1)) (dC .none))) [Y (.l 0),Y (.l 1),zd i] (H5 S u f .none st++G)=Y (true,H5 S u f .none st++G):=IG (by rw[Ut a];generalize (Y (MV.l 0)).bind _=x;kernel_rfl)
def Tr{i:eA}{a:Lp}(b:eQ (H5 S u f (.tuple a) st++G) 9 (.l 1)=Y (S.t u f (.tuple a) cs ms)):fo (fB (d2 nP (eJ ["State"] "ended" (a6 1)) (dC .none))) [Y (.l 0),Y (.l 1),zd i] (H5 S u f (.tuple a) st++G)=Y (false,H5 S u f (.tuple a) st++G):=IG (by rw[Ut b];generalize (Y (MV.l 0)).bind _=x;kernel_rfl)
def qZ(g:st=sl++[.l (5+L.length)]) (q:0<f) (b:∀f en,eQ (SS S u f en st L c W) 9 (.l 1)=Y (S.t u f en cs ms)) {e:eA} (h:kF [S.t u (f - 1) .none cs ms,c.r]=Y e) (p:oa e=true) {v:MV}{μ':MH}
  (j:(e=.none/\pq [.l 1,.d c.r] (SS S u (f - 1) .none st L c W)=Y (v,μ'))\/(∃xs,e=.tuple xs/\μ'=SS S u (f - 1) (.tuple xs) st L c W)):eB [.l 0] (SS S u f .none st L c W)=Y (.d (.bool true),μ'):=by
 have o:fH "Call" "row" (fi "State" "top" 1 fI (b5 1) dy) [Y (.l 0),Y (.l 1),Z] (SS S u (f - 1) .none st L c W)=Y (.d c.r,SS S u (f - 1) .none st L c W):=by refine OD (c:=c) (a:=5+L.length) (k:=6+L.length) ?_ D5 (zK 0);rw[g];exact II rfl
 have m:gL (k0 2 kF (fK (a6 1) (zQ (a6 2)))) [Y (.l 0),Y (.l 1),zd c.r] (SS S u (f - 1) .none st L c W)=Y (.d e,SS S u (f - 1) .none st L c W):=by refine RH ?_ p;rw[Ut (b _ _)];exact(Y3 _ _ _ _).trans h
 have hw:iF [Y (.l 0),Z,Z] (SS S u f .none st L c W)=Y (.rt (.d (.bool true)) μ'):=by
  unfold iF;refine(gA OE).trans ?_;refine(gA (kH (Wc (b _ _)))).trans ?_;refine(gA (kH (To q (b _ _)))).trans ?_;refine(gA Q4).trans ?_;refine(gA (nq o)).trans ?_;refine(gA (D4 (c:="State") (n:="ended") (mo:=b5 1) m (r:=.l 1) (μ2:=SS S u (f - 1) .none st L c W) rfl (μ':=SS S u (f - 1) e st L c W) (Tp (i:=e)))).trans ?_;rcases j with ⟨rfl,j⟩ | ⟨xs,rfl,rfl⟩
  ·refine(gA (ρ':=[Y (.l 0),Y (.l 1),zd c.r]) (μ':=μ') ?_).trans rfl;refine(qY (Tq (b _ _))).trans (qg (v:=v) ?_);unfold rZ;show (pq [.l 1,.d c.r] _)=_;exact j
  ·refine(gA (ρ':=[Y (.l 0),Y (.l 1),zd c.r]) (μ':=SS S u (f - 1) (.tuple xs) st L c W) ?_).trans rfl;exact kH (Tr (b _ _))
 unfold eB gN;show (iF [Y (.l 0),Z,Z] _).bind _=_;rw[hw];rfl
end
noncomputable def At(a:Lr)(n:Str)(O i v:eA):Prop:=∀μ,((mU a n O).bind λd=>RD (.d d) (.d i) μ)=zd v
section
variable {S:Sq}{u f:Int}{sl:List MV}{L W:MH}{c:Cf}{cs ms:Lp}{G:MH}
def wW{C n:Str}{O i v:eA}{a mb:MF}(h:At [C] n O i v)(c:a ρ μ=Y (.d O,μ))(b:mb ρ μ=Y (.d i,μ)):qd (ji [C] n a) mb ρ μ=Y (.d v,μ):=by obtain⟨d,f,e⟩:=bind_some (h μ);unfold qd ji;rw[c];show ((mU [C] n O).map _).bind _=_;rw[f];show (mb ρ μ).bind _=_;rw[b];show (RD (.d d) (.d i) μ).map _=_;rw[e];rfl
def IJ(h:ρ[0]?=Y (Y (.l 1)))(e:μ=H5 S u f en st++G):fH "State" "outline" (b5 0) ρ μ=Y (.d S.O,μ):=by subst e;unfold fH;rw[fQ h,ae];kernel_rfl
def Ag(h:ρ[0]?=Y (Y (.l 1)))(e:μ=H5 S u f en st++G):fH "State" "flow" (b5 0) ρ μ=Y (.d S.F,μ):=by subst e;unfold fH;rw[fQ h,ae];kernel_rfl
def yc(v:eA):Ay "Call" "row" (.d v) (.l (5+L.length)) (SS S u f en st L c W)=Y (SS S u f en st L { c with r:=v } W):=by unfold Ay;dsimp only;rw[D5,ae];show (if zZ "Call"=zZ "Call"/\4<1000 then Y ((SS S u f en st L c W).set (5+L.length) (.ins "Call" (BN "row" (.d v) [("body",.d c.bd),("path",.d c.pth),("row",.d c.r),("named",.l (6+L.length))]))) else Z)=_;rw[ag ⟨rfl,by decide⟩];refine bx Y ?_;unfold SS;rw[JR (by rw[ti])];rfl
def Wd(y:MO):(SS S u f en st L c W).set (6+L.length) y=H5 S u f en st++(L++(c.o (6+L.length)::y::W)):=by
 have:SS S u f en st L c W=H5 S u f en st++((L++[c.o (6+L.length)])++(c.n::W)):=by simp[SS]
 rw[this,JR (by rw[ti];simp;omega)];simp
def Y4{mo mk m:MF}{μ1 μ2 μ3:MH}{n:Nat}{v kd:MV}{y:Key}{kvs:List (Key×MV)}(e:m ρ μ=Y (v,μ1))(d:mo ρ μ1=Y (.l n,μ2))(c:mk ρ μ2=Y (kd,μ3))(b:(sC kd).bind qb=Y y)(a:μ3[n]?=Y (.lS kvs))(h:kvs.length<16777216):rp mo mk m ρ μ=Y (.nx ρ (μ3.set n (.lS (y0 y v kvs)))):=by unfold rp VR;rw[e,ae,d,ae,c,ae];simp only[a,b,ae];rw[ag (show kvs.length<sizeLine from h)];rfl
def OF{x v:MV}:fH "Call" "named" (b5 0) [Y (.l (5+L.length)),Y x,Y v] (SS S u f en st L c W)=Y (.l (6+L.length),SS S u f en st L c W) :=
 OD (c:=c) (k:=6+L.length) (fQ rfl) D5 (zK 0)
def Ah{a:Lp}{b:List (Str×eA)}(e:y0 (.inr x) (.d (.tuple a)) (B5 c.kv)=B5 b)(h:c.kv.length<100):eK [.l (5+L.length),.d (.str x),.d (.tuple a)] (SS S u f en st L c W)=Y (.d .none,SS S u f en st L { c with kv:=b } W):=by
 have g:=Y4 (mo:=fH "Call" "named" (b5 0)) (mk:=b5 1) (m:=b5 2) (ρ:=[Y (.l (5+L.length)),zd (.str x),zd (.tuple a)]) (μ:=SS S u f en st L c W) (v:=.d (.tuple a)) (kd:=.d (.str x)) (y:=.inr x) (kvs:=B5 c.kv) rfl OF rfl rfl L4 (by rw[aF];omega);have hw:gW [Y (.l (5+L.length)),zd (.str x),zd (.tuple a)] (SS S u f en st L c W)=Y (.nx [Y (.l (5+L.length)),zd (.str x),zd (.tuple a)] (SS S u f en st L { c with kv:=b } W)):=by unfold gW;rw[kH (μ':=SS S u f en st L c W) (by generalize SS S u f en st L c W=μ;kernel_rfl)];refine g.trans ?_;rw[e,Wd];rfl
 unfold eK gN;show (gW [Y (.l (5+L.length)),zd (.str x),zd (.tuple a)] _).bind _=_;rw[hw];rfl
def JT(b:qB (.inr x) (B5 c.kv)=Z):eK [.l (5+L.length),.d (.str x),.d .none] (SS S u f en st L c W)=Y (.d .none,SS S u f en st L c W):=by
 have e:JB (fH "Call" "named" (b5 0)) (b5 1) (eV (dC .none)) [Y (.l (5+L.length)),zd (.str x),zd .none] (SS S u f en st L c W)=Y (.d .none,SS S u f en st L c W):=by
  have a:QL (SS S u f en st L c W) (.l (6+L.length))=true:=by show (match (SS S u f en st L c W)[6+L.length]? with|some (.lS _)=>true|_=>false)=true;rw[L4];rfl
  unfold JB;rw[OF,ae,ag a];show ((SS S u f en st L c W)[6+L.length]?).bind _=_;rw[L4,ae];show (match qB (.inr x) (B5 c.kv) with|some v=>_|none=>_)=_;rw[b]
 have hw:gW [Y (.l (5+L.length)),zd (.str x),zd .none] (SS S u f en st L c W)=Y (.nx [Y (.l (5+L.length)),zd (.str x),zd .none] (SS S u f en st L c W)):=by unfold gW;rw[qY (μ':=SS S u f en st L c W) (by generalize SS S u f en st L c W=μ;kernel_rfl)];exact qg e
 unfold eK gN;show (gW [Y (.l (5+L.length)),zd (.str x),zd .none] _).bind _=_;rw[hw];rfl
def D7{m:Str}(a:∀x,oB "Call" m [c.o x] (.l 0)=true):oB "Call" m (SS S u f en st L c W) (.l (5+L.length))=true:=by have h:=a (6+L.length);unfold oB at h ⊢;dsimp only at h ⊢;rw[D5];exact h
end
def v9(a:Lp):a=(List.range a.length).map λi=>a.getD i .none:=by refine List.ext_getElem (by simp) λi b c=>?_;simp[bN,b]
def iM{N n:Nat}{f g:Nat->α}(h:(List.range N).map f=(List.range N).map g)(a:n<N):f n=g n:=(List.map_inj_left.mp h) n (List.mem_range.mpr a)
noncomputable abbrev Ts:ee->Option Bool:=p7 (rg (eJ ["State"] "stack" (a6 0))) (fB (d2 nP (eJ ["Call"] "row" (fV "State" "top" 1 k6 (a6 0) f9)) (dC .none)))
section
variable {S:Sq}{u f:Int}{sl:List MV}{L W:MH}{c:Cf}{cs ms:Lp}{G:MH}
def We(φ:Nat->eA)(c a:eA)(i:Int)(b:List (Str×eA)):(List.range 31).map (λn=>Ts [Y (S.t u f en ((List.range n).map φ++[Cf.t ⟨c,a,.int i,b⟩]) ms)])=(List.range 31).map λ_=>Y false:=by kernel_rfl
def Wf(φ:Nat->eA)(c a:eA)(b:List (Str×eA)):(List.range 31).map (λn=>Ts [Y (S.t u f en ((List.range n).map φ++[Cf.t ⟨c,a,.none,b⟩]) ms)])=(List.range 31).map λ_=>Y true:=by kernel_rfl
def Wg(φ:Nat->eA)(t:eA)(x y:Od):(List.range 31).map (λn=>(p8 (rg (eJ ["State"] "stack" (a6 0)))) [Y (S.t u f en ((List.range n).map φ++[t]) ms),x,y])=(List.range 31).map λ_=>Y false:=by kernel_rfl
def Pe(h:eQ μ 9 (.l 1)=Y d)(l:MR):jh μ (Y (.l 1)::l)=Y d::jh μ l:=by show (Y (MV.l 1)).bind (eQ μ 9)::_=_;rw[ae,h];rfl
def Wh(d:eQ (SS S u f en st L c W) 9 (.l 1)=Y (S.t u f en (cs++[c.t]) ms))(g:cs.length<31){i:Int}(e:c.r=.int i):fo Ts [Y (.l 1)] (SS S u f en st L c W)=Y (false,SS S u f en st L c W):=IG (by rw[Pe d];obtain⟨h,a,r,b⟩:=c;cases e;rw[v9 cs];exact iM (We _ h a i b) g)
def Wi(d:eQ (SS S u f en st L c W) 9 (.l 1)=Y (S.t u f en (cs++[c.t]) ms))(g:cs.length<31)(e:c.r=.none):fo Ts [Y (.l 1)] (SS S u f en st L c W)=Y (true,SS S u f en st L c W):=IG (by rw[Pe d];obtain⟨h,a,r,b⟩:=c;cases e;rw[v9 cs];exact iM (Wf _ h a b) g)
def Tt{x v:MV}{b:Option MV}:HJ (fH "State" "stack" (b5 0)) [Y (.l 1),Y v,b] (H5 S u f en (st++[x])++G)=Y (x,H5 S u f en st++G):=by
 have a:fH "State" "stack" (b5 0) [Y (.l 1),Y v,b] (H5 S u f en (st++[x])++G)=Y (.l 2,H5 S u f en (st++[x])++G):=by generalize st++[x]=s;kernel_rfl
 unfold HJ;rw[a,ae];show ((st++[x])[(st++[x]).length - 1]?).map (λv=>(v,(H5 S u f en (st++[x])++G).set 2 (.lst (st++[x]).dropLast)))=_;rw[List.dropLast_concat];simp;rfl
def Wj{C:Lr}{n:Str}{m:MF}{μ':MH}{O x:eA}(e:m ρ μ=Y (.d O,μ'))(h:mU C n O=Y x):ji C n m ρ μ=Y (.d x,μ'):=by unfold ji;rw[e];show (mU C n O).map _=_;rw[h];rfl
def Wk{v a r':eA}{y:Str}{x:MV}{c2:Cf} (g:eQ (SS S u f en (sl++[.l (5+L.length)]) L c W) 9 (.l 1)=Y (S.t u f en (cs++[c.t]) ms)) (i:cs.length<31) (h:At ["Outline"] "rows" S.O c.r a) (e:mU ["Row"] "x" a=Y (.str y)) (m:At ["Flow"] "behind" S.F c.r r')
  (j:eK [.l (5+L.length),.d (.str y),.d v] (SS S u f en (sl++[.l (5+L.length)]) L c W)=Y (.d .none,SS S u f en (sl++[.l (5+L.length)]) L c2 W)) (p:c2.r=c.r):
  h9 [.l 1,.d v] (H5 S u f en ((sl++[.l (5+L.length)])++[x])++(L++(c.o (6+L.length)::c.n::W)))=Y (.d .none,SS S u f en (sl++[.l (5+L.length)]) L { c2 with r:=r' } W):=by
 have C:fo (p8 (rg (eJ ["State"] "stack" (a6 0)))) [Y (.l 1),zd v,Z] (SS S u f en (sl++[.l (5+L.length)]) L c W)=Y (false,SS S u f en (sl++[.l (5+L.length)]) L c W):=IG (by rw[Pe g,v9 cs];exact iM (Wg _ c.t _ _) i);have B:fi "State" "top" 1 fI (b5 0) dy [Y (.l 1),zd v,Z] (SS S u f en (sl++[.l (5+L.length)]) L c W)=Y (.l (5+L.length),SS S u f en (sl++[.l (5+L.length)]) L c W):=II rfl;have w:fH "Call" "row" (b5 2) [Y (.l 1),zd v,Y (.l (5+L.length))] (SS S u f en (sl++[.l (5+L.length)]) L c W)=Y (.d c.r,SS S u f en (sl++[.l (5+L.length)]) L c W):=OD (c:=c) (k:=6+L.length) (fQ rfl) D5 (zK 0);have b:fH "Call" "row" (b5 2) [Y (.l 1),zd v,Y (.l (5+L.length))] (SS S u f en (sl++[.l (5+L.length)]) L c2 W)=Y (.d c.r,SS S u f en (sl++[.l (5+L.length)]) L c2 W):=by rw[<-p];exact OD (c:=c2) (k:=6+L.length) (fQ rfl) D5 (zK 0)
 have A:fi "Call" "give_name" 3 eK (b5 2) (bS (ji ["Row"] "x" (qd (ji ["Outline"] "rows" (fH "State" "outline" (b5 0))) (fH "Call" "row" (b5 2)))) (bS (b5 1) dy)) [Y (.l 1),zd v,Y (.l (5+L.length))] (SS S u f en (sl++[.l (5+L.length)]) L c W)=Y (.d .none,SS S u f en (sl++[.l (5+L.length)]) L c2 W):=by
  have s:=wW h (IJ (ρ:=[Y (.l 1),zd v,Y (.l (5+L.length))]) rfl (G:=L++(c.o (6+L.length)::c.n::W)) rfl) w;unfold fi;rw[fQ rfl,ae,ag (D7 λx=>by kernel_rfl)];have q:(bS (ji ["Row"] "x" (qd (ji ["Outline"] "rows" (fH "State" "outline" (b5 0))) (fH "Call" "row" (b5 2)))) (bS (b5 1) dy)) [Y (.l 1),zd v,Y (.l (5+L.length))] (SS S u f en (sl++[.l (5+L.length)]) L c W)=Y ([.d (.str y),.d v],SS S u f en (sl++[.l (5+L.length)]) L c W):=by unfold bS;have:ji ["Row"] "x" (qd (ji ["Outline"] "rows" (fH "State" "outline" (b5 0))) (fH "Call" "row" (b5 2))) [Y (.l 1),zd v,Y (.l (5+L.length))] (SS S u f en (sl++[.l (5+L.length)]) L c W)=Y (.d (.str y),SS S u f en (sl++[.l (5+L.length)]) L c W):=Wj s e;rw[this];rfl
  rw[q];exact j
 have z:=wW m (Ag (ρ:=[Y (.l 1),zd v,Y (.l (5+L.length))]) rfl (G:=L++(c2.o (6+L.length)::c2.n::W)) rfl) b;have hw:pQ [Y (.l 1),zd v,Z] (H5 S u f en ((sl++[.l (5+L.length)])++[x])++(L++(c.o (6+L.length)::c.n::W)))=Y (.nx [Y (.l 1),zd v,Y (.l (5+L.length))] (SS S u f en (sl++[.l (5+L.length)]) L { c2 with r:=r' } W)):=by unfold pQ;refine(gA (qg Tt)).trans ?_;refine(gA (kH C)).trans ?_;refine(gA (nq B)).trans ?_;refine(gA (qg A)).trans ?_;exact D4 z (fQ (v:=.l (5+L.length)) rfl) (yc r')
 unfold h9 gN;show (pQ [Y (.l 1),zd v,Z] _).bind _=_;rw[hw];rfl
noncomputable abbrev Q5(n:Nat)(μ:MH):Option Aw:=mM (fo Ts) lz n [Y (.l 1)] μ
def Gs{n:Nat}(h:fo Ts [Y (.l 1)] μ=Y (false,μ)):Q5 (n+1) μ=Y (.nx [Y (.l 1)] μ):=by unfold Q5 mM;rw[h];rfl
def JU{n:Nat}{μ':MH}(h:fo Ts [Y (.l 1)] μ=Y (true,μ))(e:h9 [.l 1,.d .none] μ=Y (.d .none,μ')):Q5 (n+1) μ=Q5 n μ':=by
 have:lz [Y (.l 1)] μ=Y (.nx [Y (.l 1)] μ'):=by unfold lz;refine qg (v:=.d .none) ?_;unfold rZ;show h9 [.l 1,.d .none] μ=_;exact e
 unfold Q5;rw[mM,h];simp only[ae,cx,this]
def Gu{μ':MH}(h:Q5 1000000 μ=Y (.nx [Y (.l 1)] μ')):hJ [.l 1] μ=Y (.d .none,μ'):=by unfold hJ gN;show (Q5 1000000 μ).bind _=_;rw[h];rfl
end
noncomputable def D8:MS :=
(nc (fo (fB (d2 wo (eJ ["Row"] "word" (a6 2)) (dC (.tuple [(.str "do"),(.str "ask"),(.str "straight")])))))
(gg (rZ 3 iS (bS (b5 0) (bS (b5 2) (bS (b5 1) dy)))))
(nc (fo (fB (d2 kZ (eJ ["Row"] "word" (a6 2)) (zA "give"))))
(gg (rZ 2 h9 (bS (b5 0) (bS (gL (fV "State" "value_of" 2 el (a6 0) (zQ (eJ ["Row"] "x" (a6 2))))) dy))))
(nc (Fi (fo (fB (d2 wo (eJ ["Row"] "word" (a6 2)) (dC (.tuple [(.str "if"),(.str "while")]))))) (qD (jY (rZ 2 kc (bS (b5 0) (bS (b5 2) dy))))))
(jj "Call" "row" (b5 3) (qd (ji ["Flow"] "otherwise" (fH "State" "flow" (b5 0))) (b5 1)))
(eO (nc (fo (fB (λρ=>((eJ ["Row"] "word" (a6 2)) ρ).bind (HL pN))))
(gg (NR 3 DG (eV (eJ ["Row"] "word" (a6 2))) (bS (b5 0) (bS (b5 2) (bS (b5 1) dy)))))
jR)
(jj "Call" "row" (b5 3) (qd (ji ["Flow"] "behind" (fH "State" "flow" (b5 0))) (b5 1)))))))
section
variable {S:Sq}{u f:Int}{sl:List MV}{L W:MH}{c:Cf}{cs ms:Lp}{G:MH}{row i:eA}
def D9{a:MV}{μ1 μ2:MH}(e:At ["Outline"] "rows" S.O i row)(g:D8 [Y (.l 1),zd i,zd row,Y a] (H5 S u f en (sl++[a])++G)=Y (.nx [Y (.l 1),zd i,zd row,Y a] μ1))(h:hJ [.l 1] μ1=Y (.d .none,μ2)):pq [.l 1,.d i] (H5 S u f en (sl++[a])++G)=Y (.d .none,μ2):=by
 have c:=wW (mb:=b5 1) e (IJ (S:=S) (u:=u) (f:=f) (en:=en) (st:=sl++[a]) (G:=G) (ρ:=[Y (.l 1),zd i,Z,Z]) rfl rfl) (fQ rfl);have b:=II (S:=S) (u:=u) (f:=f) (en:=en) (sl:=sl) (v:=a) (G:=G) (i:=0) (ρ:=[Y (.l 1),zd i,zd row,Z]) rfl;have hw:uI [Y (.l 1),zd i,Z,Z] (H5 S u f en (sl++[a])++G)=Y (.nx [Y (.l 1),zd i,zd row,Y a] μ2):=by unfold uI;refine(gA (nq c)).trans ?_;refine(gA (nq b)).trans ?_;refine(gA g).trans ?_;refine qg (v:=.d .none) ?_;unfold rZ;show hJ [.l 1] μ1=_;exact h
 unfold pq gN;show (uI [Y (.l 1),zd i,Z,Z] _).bind _=_;rw[hw];rfl
noncomputable abbrev Ei:eA:=qf "if" (.str "choose") .none .none .none .none .none [] []
noncomputable abbrev B6:eA:=qf "rest" .none .none .none .none .none .none [] []
def OG{r':eA}(hb:At ["Flow"] "behind" S.F i r'):D8 [Y (.l 1),zd i,zd B6,Y (.l (5+L.length))] (SS S u f en st L c W)=Y (.nx [Y (.l 1),zd i,zd B6,Y (.l (5+L.length))] (SS S u f en st L { c with r:=r' } W)):=by unfold D8;rw[kH (μ':=SS S u f en st L c W) (by generalize SS S u f en st L c W=μ;generalize MV.l (5+L.length)=a;kernel_rfl)];rw[kH (μ':=SS S u f en st L c W) (by generalize SS S u f en st L c W=μ;generalize MV.l (5+L.length)=a;kernel_rfl)];rw[kH (μ':=SS S u f en st L c W) (by generalize SS S u f en st L c W=μ;generalize MV.l (5+L.length)=a;kernel_rfl)];refine(gA (ρ':=[Y (.l 1),zd i,zd B6,Y (.l (5+L.length))]) (μ':=SS S u f en st L c W) (by generalize SS S u f en st L c W=μ;generalize MV.l (5+L.length)=a;kernel_rfl)).trans ?_;exact D4 (wW hb (Ag (ρ:=[Y (.l 1),zd i,zd B6,Y (.l (5+L.length))]) rfl (G:=L++(c.o (6+L.length)::c.n::W)) rfl) (fQ rfl)) (fQ (v:=.l (5+L.length)) rfl) (yc r')
def Tu{r':eA}{b:Bool}{u':Int}(hq:kc [.l 1,.d Ei] (SS S u f en st L c W)=Y (.d (.bool b),SS S u' f en st L c W))(hb:At ["Flow"] (if b then "behind" else "otherwise") S.F i r'):D8 [Y (.l 1),zd i,zd Ei,Y (.l (5+L.length))] (SS S u f en st L c W)=Y (.nx [Y (.l 1),zd i,zd Ei,Y (.l (5+L.length))] (SS S u' f en st L { c with r:=r' } W)):=by
 unfold D8;rw[kH (μ':=SS S u f en st L c W) (by generalize SS S u f en st L c W=μ;generalize MV.l (5+L.length)=a;kernel_rfl)];rw[kH (μ':=SS S u f en st L c W) (by generalize SS S u f en st L c W=μ;generalize MV.l (5+L.length)=a;kernel_rfl)];have t1:fo (fB (d2 wo (eJ ["Row"] "word" (a6 2)) (dC (.tuple [(.str "if"),(.str "while")])))) [Y (.l 1),zd i,zd Ei,Y (.l (5+L.length))] (SS S u f en st L c W)=Y (true,SS S u f en st L c W):=by generalize SS S u f en st L c W=μ;generalize MV.l (5+L.length)=a;kernel_rfl
 have t2:qD (jY (rZ 2 kc (bS (b5 0) (bS (b5 2) dy)))) [Y (.l 1),zd i,zd Ei,Y (.l (5+L.length))] (SS S u f en st L c W)=Y (!b,SS S u' f en st L c W):=by unfold qD jY rZ;have:(bS (b5 0) (bS (b5 2) dy)) [Y (.l 1),zd i,zd Ei,Y (.l (5+L.length))] (SS S u f en st L c W)=Y ([.l 1,.d Ei],SS S u f en st L c W):=rfl;rw[this,ae];show ((kc [.l 1,.d Ei] (SS S u f en st L c W)).bind _).map _=_;rw[hq];rfl
 have t3:Fi (fo (fB (d2 wo (eJ ["Row"] "word" (a6 2)) (dC (.tuple [(.str "if"),(.str "while")]))))) (qD (jY (rZ 2 kc (bS (b5 0) (bS (b5 2) dy))))) [Y (.l 1),zd i,zd Ei,Y (.l (5+L.length))] (SS S u f en st L c W)=Y (!b,SS S u' f en st L c W):=by unfold Fi;rw[t1,ae,ag rfl];exact t2
 cases b with
 |true=>rw[kH t3];refine(gA (ρ':=[Y (.l 1),zd i,zd Ei,Y (.l (5+L.length))]) (μ':=SS S u' f en st L c W) (by generalize SS S u' f en st L c W=μ;generalize MV.l (5+L.length)=a;kernel_rfl)).trans ?_;exact D4 (wW hb (Ag (ρ:=[Y (.l 1),zd i,zd Ei,Y (.l (5+L.length))]) rfl (G:=L++(c.o (6+L.length)::c.n::W)) rfl) (fQ rfl)) (fQ (v:=.l (5+L.length)) rfl) (yc r')
 |false=>rw[qY t3];exact D4 (wW hb (Ag (ρ:=[Y (.l 1),zd i,zd Ei,Y (.l (5+L.length))]) rfl (G:=L++(c.o (6+L.length)::c.n::W)) rfl) (fQ rfl)) (fQ (v:=.l (5+L.length)) rfl) (yc r')
def oT{m:MF}{a:xc}{μ1 μ2:MH}{v:MV}{b:List MV}(d:m ρ μ=Y (v,μ1))(c:a ρ μ1=Y (b,μ2)):bS m a ρ μ=Y (v::b,μ2):=by unfold bS;rw[d,ae];show (a ρ μ1).map _=_;rw[c];rfl
def OH{v:eA}{a:MV}{μ':MH}(b:eQ (H5 S u f en st++G) 9 (.l 1)=Y (S.t u f en cs ms))(c:el [S.t u f en cs ms,.str x]=Y v)(e:oa v=true)(g:h9 [.l 1,.d v] (H5 S u f en st++G)=Y (.d .none,μ')):D8 [Y (.l 1),zd i,zd (Me x),Y a] (H5 S u f en st++G)=Y (.nx [Y (.l 1),zd i,zd (Me x),Y a] μ'):=by
 unfold D8;rw[kH (μ':=H5 S u f en st++G) (by generalize H5 S u f en st++G=μ;kernel_rfl)];rw[qY (μ':=H5 S u f en st++G) (by generalize H5 S u f en st++G=μ;kernel_rfl)];have h:gL (fV "State" "value_of" 2 el (a6 0) (zQ (eJ ["Row"] "x" (a6 2)))) [Y (.l 1),zd i,zd (Me x),Y a] (H5 S u f en st++G)=Y (.d v,H5 S u f en st++G):=by
  refine RH ?_ e;rw[Pe b];generalize H5 S u f en st++G=μ;have:(fV "State" "value_of" 2 el (a6 0) (zQ (eJ ["Row"] "x" (a6 2)))) (Y (S.t u f en cs ms)::jh μ [zd i,zd (Me x),Y a])=el [S.t u f en cs ms,.str x]:=by kernel_rfl
  rw[this,c]
 refine qg (v:=.d .none) ?_;unfold rZ;have:(bS (b5 0) (bS (gL (fV "State" "value_of" 2 el (a6 0) (zQ (eJ ["Row"] "x" (a6 2))))) dy)) [Y (.l 1),zd i,zd (Me x),Y a] (H5 S u f en st++G)=Y ([.l 1,.d v],H5 S u f en st++G):=oT (fQ rfl) (oT h rfl);rw[this];exact g
end
section
variable {S:Sq}{u f:Int}{sl:List MV}{L W:MH}{c:Cf}{cs ms:Lp}{G:MH}{ins:Lp}{k:Nat}
def OI(c:S.inp=.list ins)(b:eQ (H5 S (k:Int) f en st++G) 9 (.l 1)=Y (S.t (k:Int) f en cs ms)):fo (fB (d2 Vi (eJ ["State"] "used" (a6 0)) (zN (eJ ["State"] "inputs" (a6 0))))) [Y (.l 1)] (H5 S (k:Int) f en st++G)=Y (decide ((ins.length:Int)<=(k:Int)),H5 S (k:Int) f en st++G):=IG (by
 rw[Pe b];obtain⟨O,F,a,e,d⟩:=S;cases c
 kernel_rfl)
def JV{y:eA}(e:S.inp=.list ins)(b:ins[k]?=Y y)(c:∀u:Int,eQ (H5 S u f en st++G) 9 (.l 1)=Y (S.t u f en cs ms)):fW [.l 1] (H5 S (k:Int) f en st++G)=Y (.d y,H5 S ((k:Int)+1) f en st++G):=by
 have o:=(au.mp b).1;have a:=OI (G:=G) e (c k);rw[ba (by omega)] at a;have n:ua "State" "used" (λi j=>i+j) (b5 0) (eV (zI 1)) [Y (.l 1)] (H5 S (k:Int) f en st++G)=Y (.nx [Y (.l 1)] (H5 S ((k:Int)+1) f en st++G)):=by kernel_rfl
 have m:gL (d2 Ao (eJ ["State"] "used" (a6 0)) (zI 1)) [Y (.l 1)] (H5 S ((k:Int)+1) f en st++G)=Y (.d (.int ((k:Int)+1 - 1)),H5 S ((k:Int)+1) f en st++G):=RH (by rw[Pe (c _)];kernel_rfl) rfl;have h:fH "State" "inputs" (b5 0) [Y (.l 1)] (H5 S ((k:Int)+1) f en st++G)=Y (.d S.inp,H5 S ((k:Int)+1) f en st++G):=by kernel_rfl
 have g:qd (fH "State" "inputs" (b5 0)) (gL (d2 Ao (eJ ["State"] "used" (a6 0)) (zI 1))) [Y (.l 1)] (H5 S ((k:Int)+1) f en st++G)=Y (.d y,H5 S ((k:Int)+1) f en st++G):=by
  unfold qd;rw[h,ae];show (gL _ _ _).bind _=_;rw[m,ae,e];show ((rj ins ((k:Int)+1 - 1)).map MV.d).map _=_;have:rj ins ((k:Int)+1 - 1)=Y y:=by rw[show (k:Int)+1 - 1=(k:Int) by omega];unfold rj Ey;rw[ag (by omega),ag (by omega)];simpa using b
  rw[this];rfl
 have hw:gC [Y (.l 1)] (H5 S (k:Int) f en st++G)=Y (.rt (.d y) (H5 S ((k:Int)+1) f en st++G)):=by unfold gC;refine(gA (kH a)).trans ?_;refine(gA n).trans ?_;unfold jE;rw[g];rfl
 unfold fW gN;show (gC [Y (.l 1)] _).bind _=_;rw[hw];rfl
def Q6(c:S.inp=.list ins)(e:ins.length<=k)(b:eQ (H5 S (k:Int) f en st++G) 9 (.l 1)=Y (S.t (k:Int) f en cs ms)):fW [.l 1] (H5 S (k:Int) f en st++G)=Y (.d (.int 0),H5 S (k:Int) f en st++G):=by
 have a:=OI (G:=G) c b;rw[bU (by omega)] at a;have hw:gC [Y (.l 1)] (H5 S (k:Int) f en st++G)=Y (.rt (.d (.int 0)) (H5 S (k:Int) f en st++G)):=by unfold gC eO;rw[qY a];rfl
 unfold fW gN;show (gC [Y (.l 1)] _).bind _=_;rw[hw];rfl
def B7{g:eA->eA->Od}{b a:MF}{μ1 μ2:MH}{x y:eA}(e:b ρ μ=Y (.d x,μ1))(c:a ρ μ1=Y (.d y,μ2))(h:g x y=Y d):m2 g b a ρ μ=Y (.d d,μ2):=by unfold m2;rw[e,ae];show (a ρ μ1).bind _=_;rw[c,ae];show (g x y).map _=_;rw[h];rfl
def Wl{a y:Int}{b:Bool}(h:fW [.l 1] (H5 S u f en st++G)=Y (.d (.int y),H5 S a f en st++G))(c:rR (.int y) (.int 0)=Y (.bool b)):kc [.l 1,.d Ei] (H5 S u f en st++G)=Y (.d (.bool b),H5 S a f en st++G):=by
 have g:fi "State" "next_input" 1 fW (b5 0) dy [Y (.l 1),zd Ei,Z,Z] (H5 S u f en st++G)=Y (.d (.int y),H5 S a f en st++G):=by unfold fi;rw[fQ rfl,ae,ag (zK 0)];exact h
 have e:m2 rR (fi "State" "next_input" 1 fW (b5 0) dy) (eV (zI 0)) [Y (.l 1),zd Ei,Z,Z] (H5 S u f en st++G)=Y (.d (.bool b),H5 S a f en st++G):=B7 g rfl c;have hw:ri [Y (.l 1),zd Ei,Z,Z] (H5 S u f en st++G)=Y (.rt (.d (.bool b)) (H5 S a f en st++G)):=by unfold ri eO;rw[qY (μ':=H5 S u f en st++G) (by generalize H5 S u f en st++G=μ;kernel_rfl)];unfold jE;rw[e];rfl
 unfold kc gN;show (ri [Y (.l 1),zd Ei,Z,Z] _).bind _=_;rw[hw];rfl
def ye{c n:Str}{v:MV}{b:List (Str×MV)}(μ a:MH)(h:b.length<1000):Ay c n v (.l μ.length) (μ++.ins c b::a)=Y (μ++.ins c (BN n v b)::a):=by
 unfold Ay;have:(μ++.ins c b::a)[μ.length]?=Y (.ins c b):=by simp
 simp only[this,ae,true_and,h,cx];simp
def L5(μ:MH)(r p q:eA):k5 [.l μ.length,.d r,.d p,.d q] (μ++[.ins "Call" []])=Y (.d .none,μ++[Cf.o ⟨r,p,q,[]⟩ (μ.length+1),.lS []]):=by
 have hw:oD [Y (.l μ.length),zd r,zd p,zd q] (μ++[.ins "Call" []])=Y (.nx [Y (.l μ.length),zd r,zd p,zd q] (μ++[Cf.o ⟨r,p,q,[]⟩ (μ.length+1),.lS []])):=by
  unfold oD;refine(gA (D4 (v:=.d r) (μ1:=μ++[.ins "Call" []]) rfl (r:=.l μ.length) (μ2:=μ++[.ins "Call" []]) rfl (μ':=μ++[.ins "Call" [("body",.d r)]]) (ye μ [] (by simp)))).trans ?_;refine(gA (D4 (v:=.d p) (μ1:=μ++[.ins "Call" [("body",.d r)]]) rfl (r:=.l μ.length) (μ2:=μ++[.ins "Call" [("body",.d r)]]) rfl (μ':=μ++[.ins "Call" [("body",.d r),("path",.d p)]]) ((ye μ [] (by simp)).trans (zK 0)))).trans ?_;refine(gA (D4 (v:=.d q) (μ1:=μ++[.ins "Call" [("body",.d r),("path",.d p)]]) rfl (r:=.l μ.length) (μ2:=μ++[.ins "Call" [("body",.d r),("path",.d p)]]) rfl (μ':=μ++[.ins "Call" [("body",.d r),("path",.d p),("row",.d q)]]) ((ye μ [] (by simp)).trans (zK 0)))).trans ?_;have a:pZ [Y (.l μ.length),zd r,zd p,zd q] (μ++[.ins "Call" [("body",.d r),("path",.d p),("row",.d q)]])=Y (.l (μ.length+1),μ++[.ins "Call" [("body",.d r),("path",.d p),("row",.d q)],.lS []]):=by unfold pZ;rw[aQ,aN];rfl
  exact D4 a (r:=.l μ.length) (μ2:=μ++[.ins "Call" [("body",.d r),("path",.d p),("row",.d q)],.lS []]) rfl ((ye μ [.lS []] (by simp)).trans (zK 0))
 unfold k5 gN;show (oD [Y (.l μ.length),zd r,zd p,zd q] _).bind _=_;rw[hw];rfl
def Tv{x:MV}(b:ρ[0]?=Y (Y (.l 1)))(a:ρ[3]?=Y (Y x))(e:st.length<1000):jw (fH "State" "stack" (b5 0)) (b5 3) ρ (H5 S u f en st++G)=Y (.d .none,H5 S u f en (st++[x])++G):=by
 have c:fH "State" "stack" (b5 0) ρ (H5 S u f en st++G)=Y (.l 2,H5 S u f en st++G):=by unfold fH;rw[fQ b,ae];kernel_rfl
 unfold jw;rw[c,ae];show (b5 3 ρ _).bind _=_;rw[fQ a,ae];show (QK x (.l 2) _).map _=_;unfold QK;show ((if st.length<sizeLine then Y ((H5 S u f en st++G).set 2 (.lst (st++[x]))) else Z).map _)=_;rw[ag (show st.length<sizeLine from (by omega:st.length<16777216))];rfl
def Wm{a p b:eA}(h:At ["Flow"] "first" S.F a b)(e:st.length<1000):mF [.l 1,.d a,.d p] (H5 S u f en st++G)=Y (.l (5+G.length),SS S u f en (st++[.l (5+G.length)]) G ⟨a,p,b,[]⟩ []):=by
 have g:(H5 S u f en st++G).length=5+G.length:=by rw[aQ];rfl
 have c:wF "Call" 4 k5 (bS (b5 1) (bS (b5 2) (bS (qd (ji ["Flow"] "first" (fH "State" "flow" (b5 0))) (b5 1)) dy))) [Y (.l 1),zd a,zd p,Z] (H5 S u f en st++G)=Y (.l (5+G.length),SS S u f en st G ⟨a,p,b,[]⟩ []):=by
  have i:=wW (mb:=b5 1) h (Ag (S:=S) (u:=u) (f:=f) (en:=en) (st:=st) (G:=G) (ρ:=[Y (.l 1),zd a,zd p,Z]) rfl rfl) (fQ rfl);unfold wF;rw[oT (fQ rfl) (oT (fQ rfl) (oT i rfl)),ae];dsimp only;rw[ag (show [MV.d a,MV.d p,MV.d b].length+1=4 from rfl)];show (k5 [.l (H5 S u f en st++G).length,.d a,.d p,.d b] _).bind _=_;rw[L5,ae];show Y (MV.l (H5 S u f en st++G).length,_)=_;rw[g];have:(H5 S u f en st++G)++[Cf.o ⟨a,p,b,[]⟩ (5+G.length+1),.lS []]=SS S u f en st G ⟨a,p,b,[]⟩ []:=by rw[aN,show 5+G.length+1=6+G.length by omega];rfl
  rw[this]
 have hw:oE [Y (.l 1),zd a,zd p,Z] (H5 S u f en st++G)=Y (.rt (.l (5+G.length)) (SS S u f en (st++[.l (5+G.length)]) G ⟨a,p,b,[]⟩ [])):=by unfold oE;refine(gA (nq c)).trans ?_;refine(gA (qg (Tv (x:=.l (5+G.length)) rfl rfl e))).trans ?_;rfl
 unfold mF gN;show (oE [Y (.l 1),zd a,zd p,Z] _).bind _=_;rw[hw];rfl
end
section
variable {S:Sq}{u f:Int}{sl:List MV}{L W:MH}{c:Cf}{cs ms:Lp}{G:MH}{row i T bd pth r0:eA}{xs:Lp}
def Gv{a:MV->MR->Option MR}{g:MS}{m:MV}{ρ1 ρ2:MR}{μ1:MH}(h:a m ρ=Y ρ1)(b:g ρ1 μ=Y (.nx ρ2 μ1)):sD a g [m] ρ μ=Y (.nx ρ2 μ1):=by unfold sD;rw[h,ae,b];rfl
def RI{k l:Nat}{x v:MV}{a:Cf}(g:ρ[j]?=Y (Y (.l (5+L.length))))(e:ρ[k]?=Y (Y x))(b:ρ[l]?=Y (Y v))(h:eK [.l (5+L.length),x,v] (SS S u f en st L c W)=Y (.d .none,SS S u f en st L a W)):fi "Call" "give_name" 3 eK (b5 j) (bS (b5 k) (bS (b5 l) dy)) ρ (SS S u f en st L c W)=Y (.d .none,SS S u f en st L a W):=by unfold fi;rw[fQ g,ae,ag (D7 λx=>by kernel_rfl),oT (fQ e) (oT (fQ b) rfl)];exact h
structure Xo (S:Sq) (T row i bd pth r0:eA) (xs:Lp):Prop where
 A:∀l,(fV "State" "value_of" 2 el (a6 0) (zQ (eJ ["Row"] "y" (a6 1)))) (Y T::Y row::l)=Y (.tuple xs)
 B:∀l,(k0 3 pk (fK (a6 0) (fK (a6 1) (zQ (a6 3))))) (Y T::Y row::Y i::Y (.tuple xs)::l)=Y bd
 C:∀l,(ir (oJ (eJ ["Row"] "handed" (a6 1))) [(0,"state")] lA lB) (Y T::Y row::l)=Y (.list [.tuple xs])
 D:∀l,(d2 hU (eJ ["Call"] "path" (fV "State" "top" 1 k6 (a6 0) f9)) (jT (zQ (a6 2)))) (Y T::Y row::Y i::l)=Y pth
 F:At ["Flow"] "first" S.F bd r0
 P:At ["Outline"] "params" S.O bd (.list [.str "p"])
 ia:oa (.tuple xs)=true
 ib:oa bd=true
 id:oa pth=true
def OJ(h:Xo S T row i bd pth r0 xs) (a:eQ (H5 S u f en st++G) 9 (.l 1)=Y T) (j:st.length<1000) {μ':MH}{o:Aw}
  (c:(eO (nc (fo (fB (d2 rR (eJ ["Row"] "word" (a6 1)) (zA "do"))))
(eO (gg (fi "Call" "give_name" 3 eK (b5 6) (bS (eV (zA "self")) (bS (b5 3) dy))))
(λ_ μ=>Y (.rt (.d .none) μ)))
jR)
(Fl (fH "Thing" "slots" (fi "State" "thing_of" 2 fM (b5 0) (bS (b5 3) dy))) (.many [9,8]) lC)) [Y (.l 1),zd row,zd i,zd (.tuple xs),zd bd,zd (.list [.tuple xs]),Y (.l (5+G.length)),zd (.str "p"),zd (.tuple xs),Z] (SS S u f en (st++[.l (5+G.length)]) G ⟨bd,pth,r0,[("p",.tuple xs)]⟩ [])=Y o) (g:(match o with | .rt v μ'=>Y (v,μ') | .nx _ μ'=>Y (MV.d .none,μ')|_=>Z)=Y (.d .none,μ')):
  iS [.l 1,.d row,.d i] (H5 S u f en st++G)=Y (.d .none,μ'):=by
 have hw:oF [Y (.l 1),zd row,zd i,Z,Z,Z,Z,Z,Z,Z] (H5 S u f en st++G)=Y o:=by
  unfold oF;refine(gA (ρ':=[Y (.l 1),zd row,zd i,zd (.tuple xs),Z,Z,Z,Z,Z,Z]) (nq (RH (d:=.tuple xs) ?_ h.ia))).trans ?_
  ·rw[Pe a];exact h.A _
  refine(gA (ρ':=[Y (.l 1),zd row,zd i,zd (.tuple xs),zd bd,Z,Z,Z,Z,Z]) (nq (RH (d:=bd) ?_ h.ib))).trans ?_
  ·rw[Pe a];exact h.B _
  refine(gA (ρ':=[Y (.l 1),zd row,zd i,zd (.tuple xs),zd bd,zd (.list [.tuple xs]),Z,Z,Z,Z]) (nq (v:=.d (.list [.tuple xs])) (μ':=H5 S u f en st++G) ?_)).trans ?_
  ·unfold oP;rw[Pe a];have e:=h.C (jh (H5 S u f en st++G) [zd i,zd (.tuple xs),zd bd,Z,Z,Z,Z,Z]);have k:(ir (oJ (eJ ["Row"] "handed" (a6 1))) [(0,"state")] lA lB) (Y T::jh (H5 S u f en st++G) [zd row,zd i,zd (.tuple xs),zd bd,Z,Z,Z,Z,Z])=Y (.list [.tuple xs]):=e;have b:([eA.tuple xs].all oa)=true:=by rw[List.all_cons,h.ia];rfl
   show ((ir _ _ _ _ (Y T::jh (H5 S u f en st++G) [zd row,zd i,zd (.tuple xs),zd bd,Z,Z,Z,Z,Z])).bind _)=_;rw[k,ae];dsimp only;rw[ag b]
  refine(gA (ρ':=[Y (.l 1),zd row,zd i,zd (.tuple xs),zd bd,zd (.list [.tuple xs]),Y (.l (5+G.length)),Z,Z,Z]) (nq (v:=.l (5+G.length)) (μ':=SS S u f en (st++[.l (5+G.length)]) G ⟨bd,pth,r0,[]⟩ []) ?_)).trans ?_
  ·unfold rZ;rw[oT (fQ rfl) (oT (fQ rfl) (oT (RH (d:=pth) (by rw[Pe a];exact h.D _) h.id) rfl))];exact Wm h.F j
  refine(gA (ρ':=[Y (.l 1),zd row,zd i,zd (.tuple xs),zd bd,zd (.list [.tuple xs]),Y (.l (5+G.length)),zd (.str "p"),zd (.tuple xs),Z]) (μ':=SS S u f en (st++[.l (5+G.length)]) G ⟨bd,pth,r0,[("p",.tuple xs)]⟩ []) ?_).trans ?_
  ·have p:=wW (mb:=b5 4) h.P (IJ (S:=S) (u:=u) (f:=f) (en:=en) (st:=st++[.l (5+G.length)]) (G:=G++(Cf.o ⟨bd,pth,r0,[]⟩ (6+G.length)::Cf.n ⟨bd,pth,r0,[]⟩::[])) (ρ:=[Y (.l 1),zd row,zd i,zd (.tuple xs),zd bd,zd (.list [.tuple xs]),Y (.l (5+G.length)),Z,Z,Z]) rfl rfl) (fQ rfl);have m:BS (qd (ji ["Outline"] "params" (fH "State" "outline" (b5 0))) (b5 4)) (b5 5) [Y (.l 1),zd row,zd i,zd (.tuple xs),zd bd,zd (.list [.tuple xs]),Y (.l (5+G.length)),Z,Z,Z] (SS S u f en (st++[.l (5+G.length)]) G ⟨bd,pth,r0,[]⟩ [])=Y ([.d (.tuple [.str "p",.tuple xs])],SS S u f en (st++[.l (5+G.length)]) G ⟨bd,pth,r0,[]⟩ []):=by
    unfold BS;show ((qd (ji ["Outline"] "params" (fH "State" "outline" (b5 0))) (b5 4)) _ (H5 S u f en (st++[.l (5+G.length)])++(G++(Cf.o ⟨bd,pth,r0,[]⟩ (6+G.length)::Cf.n ⟨bd,pth,r0,[]⟩::[])))).bind _=_;rw[p];rfl
   unfold ud;show ((BS _ _ _ _).bind _)=_;rw[m,ae];refine Gv (ρ1:=[Y (.l 1),zd row,zd i,zd (.tuple xs),zd bd,zd (.list [.tuple xs]),Y (.l (5+G.length)),zd (.str "p"),zd (.tuple xs),Z]) (zK 0) ?_;unfold qH;refine qg (v:=.d .none) ?_;exact RI rfl rfl rfl (Ah (zK 0) (show 0<100 by decide))
  ·exact c
 unfold iS gN;show (oF [Y (.l 1),zd row,zd i,Z,Z,Z,Z,Z,Z,Z] _).bind _=_;rw[hw];exact g
def JW(h:Xo S T row i bd pth r0 xs)(c:eQ (H5 S u f en st++G) 9 (.l 1)=Y T)(e:st.length<1000)(hw:(fB (d2 rR (eJ ["Row"] "word" (a6 0)) (zA "do"))) [Y row]=Y true):
  iS [.l 1,.d row,.d i] (H5 S u f en st++G)=Y (.d .none,SS S u f en (st++[.l (5+G.length)]) G ⟨bd,pth,r0,[("p",.tuple xs),("self",.tuple xs)]⟩ []):=by
 refine OJ h c e (o:=.rt (.d .none) (SS S u f en (st++[.l (5+G.length)]) G ⟨bd,pth,r0,[("p",.tuple xs),("self",.tuple xs)]⟩ [])) ?_ rfl;generalize a:SS S u f en (st++[.l (5+G.length)]) G ⟨bd,pth,r0,[("p",.tuple xs)]⟩ []=μ;have b:fo (fB (d2 rR (eJ ["Row"] "word" (a6 1)) (zA "do"))) [Y (.l 1),zd row,zd i,zd (.tuple xs),zd bd,zd (.list [.tuple xs]),Y (.l (5+G.length)),zd (.str "p"),zd (.tuple xs),Z] μ=Y (true,μ):=IG hw;unfold eO;rw[qY b];subst a;refine bx (λz=>Option.bind z _) (gA (ρ':=[Y (.l 1),zd row,zd i,zd (.tuple xs),zd bd,zd (.list [.tuple xs]),Y (.l (5+G.length)),zd (.str "p"),zd (.tuple xs),Z]) (μ':=SS S u f en (st++[.l (5+G.length)]) G ⟨bd,pth,r0,[("p",.tuple xs),("self",.tuple xs)]⟩ []) (qg (v:=.d .none) ?_)) |>.trans rfl
 unfold fi;rw[fQ rfl,ae,ag (D7 λx=>by kernel_rfl),oT (v:=.d (.str "self")) (μ1:=SS S u f en (st++[.l (5+G.length)]) G ⟨bd,pth,r0,[("p",.tuple xs)]⟩ []) rfl (oT (fQ rfl) rfl)];exact Ah (zK 0) (show 1<100 by decide)
end
section
variable {S:Sq}{u f:Int}{sl:List MV}{L W:MH}{c:Cf}{cs ms:Lp}{G:MH}{row i T bd pth r0:eA}{xs:Lp}
def IK(h:j<L.length):(SS S u f en st L c W)[5+j]?=L[j]?:=by unfold SS;rw[aI (by rw[ti];omega),ti,Nat.add_sub_cancel_left,aE h]
def OK(h:j<L.length)(x:MO):(SS S u f en st L c W).set (5+j) x=SS S u f en st (L.set j x) c W:=by unfold SS;rw[List.set_append_right _ _ (by rw[ti];omega),ti,Nat.add_sub_cancel_left,List.set_append_left _ _ h,dB]
def B8{C c:Str}{n:Nat}{F:lN}{m:MF}{d:xc}{μ1 μ2:MH}{r:MV}{b:List MV}{a:Option (MV×MH)}(i:m ρ μ=Y (r,μ1))(f:oB C c μ1 r=true)(g:d ρ μ1=Y (b,μ2))(e:b.length+1=n)(h:F (r::b) μ2=a):fi C c n F m d ρ μ=a:=by unfold fi;rw[i,ae,ag f,g,ae,ag e,h]
def Wn{m:MF}{t:Tg}{g:MS}{ρ':MR}{μ1 μ':MH}{n:Nat}{a:List (Key×MV)}(f:m ρ μ=Y (.l n,μ1))(e:μ1[n]?=Y (.lS a))(c:sD (BQ t) g (a.map λx=>.t [.d (kh x.1),x.2]) ρ (μ1.set n .gone)=Y (.nx ρ' μ'))(b:μ'[n]?=Y .gone):Fl m t g ρ μ=Y (.nx ρ' (μ'.set n (.lS a))):=by unfold Fl;rw[f,ae];dsimp only;rw[e];dsimp only;rw[c,ae];dsimp only;rw[b]
noncomputable abbrev Wo(r:eA)(b:Str)(a:Nat):MO:=.ins "Thing" [("row",.d r),("path",.d (.tuple [])),("form",.d (.str b)),("slots",.l a),("members",.l (a+1))]
def Tw(O F a:eA)(b:Lp):fM [.l 1,.d (ml 1)] (H5 ⟨O,F,a,[.l 7,.l 10],b⟩ u f en st++G)=Y (.l 10,H5 ⟨O,F,a,[.l 7,.l 10],b⟩ u f en st++G):=by kernel_rfl
noncomputable abbrev rQ(a i b:eA)(G:MH)(j:Nat)(y:Option MV):MR:=[Y (.l 1),zd a,zd i,zd (ml 1),zd b,zd (.list [ml 1]),Y (.l (5+G.length)),zd (.str "p"),zd (ml j),y]
def Wq{q:eA}(h:Xo S T row i bd pth r0 [.str "thing",.int 1])(x:eQ (H5 S u f en st++G) 9 (.l 1)=Y T)(A:st.length<1000)(hw:(fB (d2 rR (eJ ["Row"] "word" (a6 0)) (zA "do"))) [Y row]=Y false)(y:S.md=[.l 7,.l 10])(C:G[5]?=Y (Wo q "func" 11))(k:G[6]?=Y (.lS (B5 [("k",ml 0)]))):
  iS [.l 1,.d row,.d i] (H5 S u f en st++G)=Y (.d .none,SS S u f en (st++[.l (5+G.length)]) G ⟨bd,pth,r0,[("p",ml 1),("k",ml 0)]⟩ []):=by
 have a:6<G.length:=(au.mp k).1;have b:(G.set 6 .gone).length=G.length:=dB;refine OJ h x A (o:=.nx (rQ row i bd G 0 (zd (.str "k"))) (SS S u f en (st++[.l (5+G.length)]) G ⟨bd,pth,r0,[("p",ml 1),("k",ml 0)]⟩ [])) ?_ rfl;have w:fo (fB (d2 rR (eJ ["Row"] "word" (a6 1)) (zA "do"))) (rQ row i bd G 1 Z) (SS S u f en (st++[.l (5+G.length)]) G ⟨bd,pth,r0,[("p",ml 1)]⟩ [])=Y (false,SS S u f en (st++[.l (5+G.length)]) G ⟨bd,pth,r0,[("p",ml 1)]⟩ []):=IG hw;refine(gA (kH w)).trans ?_;have H:fi "State" "thing_of" 2 fM (b5 0) (bS (b5 3) dy) (rQ row i bd G 1 Z) (SS S u f en (st++[.l (5+G.length)]) G ⟨bd,pth,r0,[("p",ml 1)]⟩ [])=Y (.l 10,SS S u f en (st++[.l (5+G.length)]) G ⟨bd,pth,r0,[("p",ml 1)]⟩ []):=by refine B8 (fQ rfl) (by unfold SS;generalize st++[.l (5+G.length)]=s;generalize G++_=g;kernel_rfl) (oT (fQ (v:=.d (ml 1)) rfl) rfl) rfl ?_;obtain⟨O,F,inp,I,r⟩:=S;cases y;exact Tw O F inp r
 have m:=(IK (S:=S) (u:=u) (f:=f) (en:=en) (st:=st++[.l (5+G.length)]) (L:=G) (c:=⟨bd,pth,r0,[("p",ml 1)]⟩) (W:=[]) (j:=5) (by omega)).trans C;have e:=(IK (S:=S) (u:=u) (f:=f) (en:=en) (st:=st++[.l (5+G.length)]) (L:=G) (c:=⟨bd,pth,r0,[("p",ml 1)]⟩) (W:=[]) (j:=6) a).trans k;have E:fH "Thing" "slots" (fi "State" "thing_of" 2 fM (b5 0) (bS (b5 3) dy)) (rQ row i bd G 1 Z) (SS S u f en (st++[.l (5+G.length)]) G ⟨bd,pth,r0,[("p",ml 1)]⟩ [])=Y (.l 11,SS S u f en (st++[.l (5+G.length)]) G ⟨bd,pth,r0,[("p",ml 1)]⟩ []):=by
  unfold fH;rw[H,ae];show ((SS S u f en (st++[.l (5+G.length)]) G ⟨bd,pth,r0,[("p",ml 1)]⟩ [])[5+5]?).bind _=_;rw[m,ae];generalize SS S u f en (st++[.l (5+G.length)]) G ⟨bd,pth,r0,[("p",ml 1)]⟩ []=μ
  kernel_rfl
 have p:sD (BQ (.many [9,8])) lC [.t [.d (.str "k"),.d (ml 0)]] (rQ row i bd G 1 Z) (SS S u f en (st++[.l (5+G.length)]) (G.set 6 .gone) ⟨bd,pth,r0,[("p",ml 1)]⟩ [])=Y (.nx (rQ row i bd G 0 (zd (.str "k"))) (SS S u f en (st++[.l (5+G.length)]) (G.set 6 .gone) ⟨bd,pth,r0,[("p",ml 1),("k",ml 0)]⟩ [])):=by refine Gv (ρ1:=(rQ row i bd G 0 (zd (.str "k")))) (zK 0) ?_;unfold lC;refine qg (v:=.d .none) ?_;exact RI (L:=G.set 6 .gone) (by rw[b];rfl) rfl rfl (Ah (zK 0) (show 1<100 by decide))
 have n:=IK (S:=S) (u:=u) (f:=f) (en:=en) (st:=st++[.l (5+G.length)]) (L:=G.set 6 .gone) (c:=⟨bd,pth,r0,[("p",ml 1),("k",ml 0)]⟩) (W:=[]) (j:=6) (by rw[b];exact a);rw[aH a] at n;rw[<-OK a] at p;refine(Wn E e p n).trans ?_;refine bx (λz=>Y (Aw.nx _ z)) ?_;rw[show (11:Nat)=5+6 from rfl,OK (by rw[b];exact a),List.set_set];have:G.set 6 (.lS (B5 [("k",ml 0)]))=G:=by obtain⟨B,D⟩:=au.mp k;rw[<-D];exact List.set_getElem_self B
 rw[this]
end
structure IL (μ:MH) (a:Nat) (c:Cf) (s:Lp):Prop where
 on:∃k,μ[a]?=Y (c.o k)/\μ[k]?=Y c.n
 so:vI (.dict (c.kv.map λp=>(.str p.1,p.2)))=Y (.list s)
 im:s.all N8=true
noncomputable abbrev Fr:=Nat×Cf×eA×Lp
noncomputable abbrev qh(q:Fr):MV:=.t [.d q.2.1.bd,.d q.2.2.1,.d (.list q.2.2.2)]
noncomputable abbrev Mg(q:Fr):eA:=.tuple [q.2.1.bd,q.2.2.1,.list q.2.2.2]
def Gw{a:Nat}{o x:MO}(h:μ[a]?=Y o):(μ++[x])[a]?=Y o:=by rw[aE (au.mp h).1];exact h
def Wr(c:Cf)(x y z:Od)(l:ee):(eJ ["Call"] "named" (a6 3)) (x::y::z::Y c.t::l)=Y (.dict (c.kv.map λp=>(.str p.1,p.2))):=by kernel_rfl
def L6{a:Nat}{c:Cf}{r:eA}{s:Lp}{T:List MV}{w:Option MV}(h:IL μ a c s)(p:T.length<1000):iG [Y (.l 0),Y (.l μ.length),w,Y (.l a),zd r] (μ++[.lst T])=Y (.nx [Y (.l 0),Y (.l μ.length),w,Y (.l a),zd r] (μ++[.lst (T++[qh (a,c,r,s)])])):=by
 obtain⟨⟨k,b,j⟩,f,i⟩:=h;have o:fH "Call" "body" (b5 3) [Y (.l 0),Y (.l μ.length),w,Y (.l a),zd r] (μ++[.lst T])=Y (.d c.bd,μ++[.lst T]):=OD (c:=c) (k:=k) (fQ rfl) (Gw b) (zK 0);have n:zb (eJ ["Call"] "named" (a6 3)) [Y (.l 0),Y (.l μ.length),w,Y (.l a),zd r] (μ++[.lst T])=Y (.d (.list s),μ++[.lst T]):=by
  have v:jh (μ++[.lst T]) [Y (.l 0),Y (.l μ.length),w,Y (.l a),zd r]=eQ (μ++[.lst T]) 9 (.l 0)::eQ (μ++[.lst T]) 9 (.l μ.length)::w.bind (eQ (μ++[.lst T]) 9)::Y c.t::[Y r]:=by show (Y (MV.l 0)).bind _::(Y (MV.l μ.length)).bind _::w.bind _::(Y (MV.l a)).bind (eQ (μ++[.lst T]) 9)::_=_;rw[show (Y (MV.l a)).bind (eQ (μ++[.lst T]) 9)=Y c.t from yb (Gw b) (Gw j) 5];rfl
  unfold zb;rw[v,Wr,ae,f,ae];dsimp only;rw[ag i]
 have m:K4 (bS (fH "Call" "body" (b5 3)) (bS (b5 4) (bS (zb (eJ ["Call"] "named" (a6 3))) dy))) [Y (.l 0),Y (.l μ.length),w,Y (.l a),zd r] (μ++[.lst T])=Y (qh (a,c,r,s),μ++[.lst T]):=by unfold K4;rw[oT o (oT (fQ (v:=.d r) rfl) (oT n rfl)),ae];dsimp only;rw[ag (show [MV.d c.bd,MV.d r,MV.d (eA.list s)].length<=sizeLine from (by decide:3<=16777216))]
 have g:(μ++[MO.lst T])[μ.length]?=Y (.lst T):=by simp
 unfold iG;refine qg (v:=.d .none) ?_;unfold jw;rw[fQ (v:=.l μ.length) rfl,ae];have e:BO (μ++[.lst T]) (.l μ.length)=true:=by unfold BO;dsimp only;rw[g]
 dsimp only;rw[ag e,m,ae];unfold QK;dsimp only;rw[g];rw[ae];dsimp only;rw[ag (show T.length<sizeLine from (by omega:T.length<16777216))];simp
theorem Ai{μ:MH}{k:List MV}{w:Option MV}(m:μ[2]?=Y (.lst k)):∀(f:List Fr) (pre T:List MV) (x y:Option MV),k=pre++f.map (λq=>.l q.1)->(∀q∈f,IL μ q.1 q.2.1 q.2.2.2)->T.length+f.length<1000 ->
  ∃j i,ui (BQ (.many [3,4])) iG 2 (f.map (·.2.2.1)) pre.length [Y (.l 0),Y (.l μ.length),w,x,y] (μ++[.lst T])=Y (.nx [Y (.l 0),Y (.l μ.length),w,j,i] (μ++[.lst (T++f.map qh)]))
 |[],pre,T,x,y,e,_,_=>⟨x,y,by rw[d5,ui,Gw m,d5,aR]⟩
 |q::f,pre,T,x,y,e,h,hl=>by
  obtain⟨a,c,r,s⟩:=q;have o:=L6 (r:=r) (w:=w) (h (a,c,r,s) (by simp)) (show T.length<1000 by simp at hl;omega);obtain⟨j,i,n⟩:=Ai m f (pre++[.l a]) (T++[qh (a,c,r,s)]) (Y (.l a)) (zd r) (by rw[e];simp) (λq p=>h q (by simp[p])) (by simp at hl ⊢;omega);refine⟨j,i,?_⟩;rw[aB,ui,Gw m];dsimp only;have g:k[pre.length]?=Y (.l a):=by rw[e];simp
  rw[g];dsimp only;have b:BQ (.many [3,4]) (.t [.l a,.d r]) [Y (.l 0),Y (.l μ.length),w,x,y]=Y [Y (.l 0),Y (.l μ.length),w,Y (.l a),zd r]:=by kernel_rfl
  rw[b,ae,o,ae];dsimp only;rw[aQ,aN] at n;exact n
section
variable {S:Sq}{u f:Int}{sl:List MV}{L W:MH}{c:Cf}{cs ms:Lp}{G:MH}
noncomputable abbrev Uu:ee->Od:=d2 BK (ir (oJ (jL (eJ ["State"] "stack" (eJ ["Machine"] "state" (a6 0))) ku (kx (zI (-1))))) [] nX nY) (je (zQ (dC .none)))
def Y5(κ:Nat->Cf)(l:ee):(List.range 31).map (λn=>Uu (Y (OC (S.t u f en ((List.range (n+1)).map λj=>(κ j).t) ms))::l))=(List.range 31).map λn=>Y (.list (((List.range n).map λj=>(κ j).r)++[.none])):=by kernel_rfl
def Y6(l:ee):Uu (Y (OC (S.t u f en [] ms))::l)=Y (.list [.none]):=by kernel_rfl
def Aj{fs:List Fr}{ws:Lp} (e:eQ ((H5 S u f en st++G)++[.lst []]) 9 (.l 0)=Y (OC (S.t u f en cs ms))) (a:st=fs.map λq=>.l q.1) (i:∀q∈fs,IL (H5 S u f en st++G) q.1 q.2.1 q.2.2.2) (m:fs.length<900)
  (hw:∀l,Uu (Y (OC (S.t u f en cs ms))::l)=Y (.list ws)) (h:ws.all oa=true) (c:ws=fs.map (·.2.2.1)\/(fs=[]/\ws=[.none])):fN [.l 0] (H5 S u f en st++G)=Y (.l (H5 S u f en st++G).length,(H5 S u f en st++G)++[.lst (fs.map qh)]):=by
 have g:(H5 S u f en st++G)[2]?=Y (.lst st):=rfl;have j:oP Uu [Y (.l 0),Y (.l (H5 S u f en st++G).length),Z,Z,Z] ((H5 S u f en st++G)++[.lst []])=Y (.d (.list ws),(H5 S u f en st++G)++[.lst []]):=by
  unfold oP;have v:jh ((H5 S u f en st++G)++[.lst []]) [Y (.l 0),Y (.l (H5 S u f en st++G).length),Z,Z,Z]=Y (OC (S.t u f en cs ms))::jh ((H5 S u f en st++G)++[.lst []]) [Y (.l (H5 S u f en st++G).length),Z,Z,Z]:=by show (Y (MV.l 0)).bind (eQ ((H5 S u f en st++G)++[.lst []]) 9)::_=_;rw[show (Y (MV.l 0)).bind (eQ ((H5 S u f en st++G)++[.lst []]) 9)=_ from e];rfl
  rw[v,hw,ae];dsimp only;rw[ag h]
 have b:∃x y,ui (BQ (.many [3,4])) iG 2 ws 0 [Y (.l 0),Y (.l (H5 S u f en st++G).length),zd (.list ws),Z,Z] ((H5 S u f en st++G)++[.lst []])=Y (.nx [Y (.l 0),Y (.l (H5 S u f en st++G).length),zd (.list ws),x,y] ((H5 S u f en st++G)++[.lst (fs.map qh)])):=by
  rcases c with rfl | ⟨rfl,rfl⟩
  ·exact Ai g fs [] [] Z Z a i (by simp;omega)
  ·refine⟨Z,Z,?_⟩;have:st=[]:=a;subst this;generalize (H5 S u f en []++G).length=n
   kernel_rfl
 obtain⟨x,y,b⟩:=b;have hw:kN [Y (.l 0),Z,Z,Z,Z] (H5 S u f en st++G)=Y (.rt (.l (H5 S u f en st++G).length) ((H5 S u f en st++G)++[.lst (fs.map qh)])):=by
  unfold kN;refine(gA (ρ':=[Y (.l 0),Y (.l (H5 S u f en st++G).length),Z,Z,Z]) (μ':=(H5 S u f en st++G)++[.lst []]) rfl).trans ?_;refine(gA (ρ':=[Y (.l 0),Y (.l (H5 S u f en st++G).length),zd (.list ws),Z,Z]) (nq j)).trans ?_;refine(gA (ρ':=[Y (.l 0),Y (.l (H5 S u f en st++G).length),zd (.list ws),x,y]) (μ':=(H5 S u f en st++G)++[.lst (fs.map qh)]) ?_).trans rfl;have k:fH "State" "stack" (fH "Machine" "state" (b5 0)) [Y (.l 0),Y (.l (H5 S u f en st++G).length),zd (.list ws),Z,Z] ((H5 S u f en st++G)++[.lst []])=Y (.l 2,(H5 S u f en st++G)++[.lst []]):=by generalize (H5 S u f en st++G).length=n;kernel_rfl
  unfold Oc;rw[k,ae];exact b
 unfold fN gN;show (kN [Y (.l 0),Z,Z,Z,Z] _).bind _=_;rw[hw];rfl
theorem JX{μ:MH}{n:Nat}:∀l:List Fr,la (eQ μ (n+2)) (l.map qh)=Y (l.map Mg)
 |[]=>rfl
 |x::l=>by rw[aB,la,JX l];rfl
def B9(a:List Fr):eQ (μ++[.lst (a.map qh)]) 9 (.l μ.length)=Y (.list (a.map Mg)):=by
 have g:(μ++[MO.lst (a.map qh)])[μ.length]?=Y (.lst (a.map qh)):=by simp
 rw[eQ,g,ae];show (la (eQ _ (6+2)) (a.map qh)).map eA.list=_;rw[JX];rfl
end
noncomputable def tx:List (Nat×Nat×Nat):=(List.range 3).flatMap λw=>(List.range 3).flatMap λb=>(List.range 2).map λg=>(w,b,g)
structure Tx (w b g:Nat):Prop where
 w:w<3
 b:b<3
 g:g<2
def Tx.mem{w b g:Nat}(h:Tx w b g):(w,b,g)∈tx:=by obtain⟨d,c,a⟩:=h;unfold tx;simp only[List.mem_flatMap,aU,List.mem_range];exact⟨w,d,b,c,g,a,rfl⟩
def Tx.of{w b g:Nat}{f k:Nat×Nat×Nat->α}(h:Tx w b g)(e:tx.map f=tx.map k):f (w,b,g)=k (w,b,g):=(List.map_inj_left.mp e) _ h.mem
noncomputable abbrev Uv(w b g:Nat):MH:=[Wo (oI (nB b g)) "record" 8,.lS [],.lst []]++(if w=0 then [Wo (oI (nB b g+1)) "func" 11,.lS (B5 [("k",ml 0)]),.lst []] else [])
noncomputable abbrev Y7(w:Nat):List MV:=if w=0 then [.l 7,.l 10] else [.l 7]
noncomputable abbrev tTD(r:eA)(b:Str)(a:List (eA×eA)):eA:=.dict [(.none,.str "Thing"),(.str "row",r),(.str "path",.tuple []),(.str "form",.str b),(.str "slots",.dict a),(.str "members",.list [])]
noncomputable abbrev Ca(w b g:Nat):Lp:=tTD (oI (nB b g)) "record" []::(if w=0 then [tTD (oI (nB b g+1)) "func" [(.str "k",ml 0)]] else [])
noncomputable abbrev Ws(w:Nat):List (Str×eA):=if w=0 then [("b",ml 1)] else []
noncomputable abbrev yf(w:Nat):List (Str×eA):=if w=0 then [("p",ml 1),("k",ml 0)] else [("p",ml 0),("self",ml 0)]
noncomputable abbrev tr(w:Nat)(mr:eA)(ys:List (Str×eA)):Cf:=⟨OB,.tuple [],mr,("a",ml 0)::(Ws w++ys)⟩
noncomputable abbrev bL(w b g:Nat)(c:eA)(a:List (Str×eA)):MH:=(tr w c a).o 6::(tr w c a).n::Uv w b g
noncomputable abbrev fr(w b g j:Nat)(r:eA)(zs:List (Str×eA)):Cf:=⟨Ak w,.tuple (oI (cr w b g)::List.replicate j (.int 1)),r,yf w++zs⟩
noncomputable abbrev Q(w b g:Nat)(inp:eA)(tl:Lp):Sq:=⟨OL w b g,FL w b g,inp,Y7 w,tl⟩
noncomputable def Ls(w b g:Nat)(γ:Nat->MO):Nat->MH
 |0=>bL w b g (oI (cr w b g)) []
 |n+1=>Ls w b g γ n++[(fr w b g n (.int 1) []).o (6+(Ls w b g γ n).length),(fr w b g n (.int 1) []).n,γ n]
noncomputable def L7(w b g:Nat)(γ:Nat->MO):Nat->List MV
 |0=>[.l 5]
 |n+1=>L7 w b g γ n++[.l (5+(Ls w b g γ n).length)]
noncomputable def Bd(w b g:Nat):Nat->Lp
 |0=>[(tr w (oI (cr w b g)) []).t]
 |n+1=>Bd w b g n++[(fr w b g n (.int 1) []).t]
theorem kQ(w b g:Nat):∀n,(Bd w b g n).length=n+1
 |0=>rfl
 |n+1=>by rw[Bd,aQ,kQ w b g n];rfl
def RJ(w b g:Nat)(c:eA)(a:List (Str×eA)):Mf (bL w b g c a) [.l 5] [(tr w c a).t]:=λH T k e=>by have f:(H++(bL w b g c a++T))[5]?=Y ((tr w c a).o 6):=mn (L:=[]) (by rw[e];rfl);have d:(H++(bL w b g c a++T))[6]?=Y (tr w c a).n:=mn (L:=[(tr w c a).o 6]) (R:=Uv w b g++T) (by rw[e];rfl);show (eQ _ (k+4) (.l 5)).bind _=_;rw[yb f d k];rfl
def Tz{w:Nat}(b g:Nat)(hw:w<3)(c:eA)(a:List (Str×eA)):Mf (bL w b g c a) (Y7 w) (Ca w b g):=λH T k e=>by
 obtain⟨p,H,rfl⟩:=List.exists_cons_of_length_pos (l:=H) (by omega);obtain⟨m,H,rfl⟩:=List.exists_cons_of_length_pos (l:=H) (by simp at e;omega);obtain⟨j,H,rfl⟩:=List.exists_cons_of_length_pos (l:=H) (by simp at e;omega);obtain⟨i,H,rfl⟩:=List.exists_cons_of_length_pos (l:=H) (by simp at e;omega);obtain⟨h,H,rfl⟩:=List.exists_cons_of_length_pos (l:=H) (by simp at e;omega);have:H=[]:=by simp at e;exact e
 subst this;generalize f:(tr w c a).o 6=x;generalize d:(tr w c a).n=y;rcases(by omega:w=0\/w=1\/w=2) with rfl|rfl|rfl<;>clear f d<;>kernel_rfl
theorem RK(w b g:Nat)(γ:Nat->MO):∀n,Mf (Ls w b g γ n) (L7 w b g γ n) (Bd w b g n)
 |0=>RJ w b g _ _
 |n+1=>(RK w b g γ n).snoc _ _
theorem Wt{w:Nat}(b g:Nat)(hw:w<3)(γ:Nat->MO):∀n,Mf (Ls w b g γ n) (Y7 w) (Ca w b g)
 |0=>Tz b g hw _ _
 |n+1=>(Wt b g hw γ n).more _
noncomputable def jt(w b g:Nat)(inp:eA)(γ:Nat->MO)(u f:Int)(en:eA)(n:Nat)(r:eA)(zs:List (Str×eA))(W:MH):MH:=SS (Q w b g inp []) u f en (L7 w b g γ n++[.l (5+(Ls w b g γ n).length)]) (Ls w b g γ n) (fr w b g n r zs) W
section
variable {w b g:Nat}{u f:Int}{n:Nat}{r:eA}{W:MH}
def iV(h:Tx w b g)(k:Nat):eQ (jt w b g inp γ u f en n r zs W) (k+6) (.l 1)=Y ((Q w b g inp []).t u f en (Bd w b g n++[(fr w b g n r zs).t]) (Ca w b g)):=Q3 (S:=Q w b g inp []) (RK w b g γ n) (Wt b g h.w γ n)
def Ea{mr:eA}{tl:Lp}(h:Tx w b g)(k:Nat):eQ (SS (Q w b g inp tl) u f en [.l 5] [] (tr w mr ys) (Uv w b g++W)) (k+6) (.l 1)=Y ((Q w b g inp tl).t u f en [(tr w mr ys).t] (Ca w b g)) :=
 D6 (S:=Q w b g inp tl) (G:=bL w b g mr ys++W) (RJ w b g mr ys _ W k rfl) (Tz b g h.w mr ys _ W k rfl)
def Cv{a:List α}{x:α}(h:a[i]?=Y x):rj a (i:Int)=Y x:=by have:=(au.mp h).1;unfold rj Ey;rw[ag (by omega),ag (by omega)];simpa using h
def wa{a:eA}(h:(v8 w b g)[i]?=Y a):At ["Outline"] "rows" (OL w b g) (oI i) a:=λμ=>by
 have e:mU ["Outline"] "rows" (OL w b g)=Y (.list (v8 w b g)):=by kernel_rfl
 rw[e,ae];show (rj (v8 w b g) (i:Int)).map MV.d=_;rw[Cv h];rfl
def Y8(μ:MH):tx.map (λq=>(List.range (cr q.1 q.2.1 q.2.2+1)).map λi=>((mU ["Flow"] "behind" (FL q.1 q.2.1 q.2.2)).bind λd=>RD (.d d) (.d (oI i)) μ))=tx.map λq=>(List.range (cr q.1 q.2.1 q.2.2+1)).map λi=>zd (bh q.1 q.2.1 q.2.2 i):=by kernel_rfl
def Q7(h:Tx w b g)(a:i<cr w b g+1):At ["Flow"] "behind" (FL w b g) (oI i) (bh w b g i):=λμ=>iM (h.of (Y8 μ)) a
def Y9(μ:MH):tx.map (λq=>((mU ["Flow"] "otherwise" (FL q.1 q.2.1 q.2.2)).bind λd=>RD (.d d) (.d (oI 0)) μ))=tx.map λq=>zd (ow q.1 q.2.1 q.2.2 0):=by kernel_rfl
def Za(h:Tx w b g):At ["Flow"] "otherwise" (FL w b g) (oI 0) (ow w b g 0):=λμ=>h.of (Y9 μ)
def Zb(μ:MH):tx.map (λq=>((mU ["Flow"] "first" (FL q.1 q.2.1 q.2.2)).bind λd=>RD (.d d) (.d (Ak q.1)) μ))=tx.map λq=>zd (oI 0):=by kernel_rfl
def Zc(h:Tx w b g):At ["Flow"] "first" (FL w b g) (Ak w) (oI 0):=λμ=>h.of (Zb μ)
def Zd(μ:MH):tx.map (λq=>((mU ["Outline"] "params" (OL q.1 q.2.1 q.2.2)).bind λd=>RD (.d d) (.d (Ak q.1)) μ))=tx.map λq=>zd (.list [.str "p"]):=by kernel_rfl
def Ze(h:Tx w b g):At ["Outline"] "params" (OL w b g) (Ak w) (.list [.str "p"]):=λμ=>h.of (Zd μ)
end
noncomputable abbrev vx(w:Nat):Str:=if w=0 then "k" else "self"
noncomputable abbrev OM(w:Nat):eA:=if w=0 then qf "do" .none (.str "z") (.str "p") .none .none .none [.str "p"] [.str "z",.str "p",.str "p"] else if w=1 then qf "ask" .none (.str "z") (.str "self") .none (.str "m") .none [.str "self"] [.str "z",.str "self",.str "self"] else qf "straight" .none (.str "z") (.str "self") (.str "ka") (.str "m") .none [.str "self"] [.str "z",.str "self",.str "self"]
noncomputable abbrev vD(t:Bool):eA:=if t then ml 0 else .none
noncomputable abbrev zv(t:Bool):List (Str×eA):=if t then [("z",ml 0)] else []
noncomputable abbrev yv(t:Bool):List (Str×eA):=if t then [("y",ml 0)] else []
section
variable {w b g:Nat}{u f:Int}{n:Nat}{r:eA}{W:MH}{S:Sq}{ms cs:Lp}
def Zf(a:eA)(u f:Int)(c b:Lp):tx.map (λq=>(List.range (nB q.2.1 q.2.2)).map λi=>if i=1 then Y eA.none else kF [(Q q.1 q.2.1 q.2.2 a []).t u f .none c b,oI i])=tx.map λq=>(List.range (nB q.2.1 q.2.2)).map λ_=>Y eA.none:=by kernel_rfl
def ON(h:Tx w b g)(a:i<nB b g)(c:i≠1):kF [(Q w b g inp []).t u f .none cs ms,oI i]=Y .none:=by have:=iM (h.of (Zf inp u f cs ms)) a;rwa[ai c] at this
def Zg(b:eA)(u f:Int)(φ:Nat->eA)(a r:eA):tx.map (λq=>(List.range 30).map λn=>kF [(Q q.1 q.2.1 q.2.2 b []).t u f .none ((List.range n).map φ++[Cf.t ⟨Ak q.1,a,r,yf q.1⟩]) (Ca q.1 q.2.1 q.2.2),.int 1])=tx.map λq=>(List.range 30).map λn=>Y (if n<29 then eA.none else .tuple [.str "deep",.int 1]):=by kernel_rfl
def JY(h:Tx w b g){pth:eA}(a:cs.length<30):kF [(Q w b g inp []).t u f .none (cs++[Cf.t ⟨Ak w,pth,r,yf w⟩]) (Ca w b g),.int 1]=Y (if cs.length<29 then eA.none else .tuple [.str "deep",.int 1]):=by have:=iM (h.of (Zg inp u f (λi=>cs.getD i .none) pth r)) a;rwa[<-v9 cs] at this
noncomputable def RL:List (List (Str×eA)×Str×eA):=[(yf 0,"k",ml 0),(yf 1,"self",ml 0),(yf 0++zv false,"z",.none),(yf 1++zv false,"z",.none),(yf 0++zv true,"z",ml 0),(yf 1++zv true,"z",ml 0)]
def Zh(S:Sq)(u f:Int)(c:eA)(b:Lp)(φ:Nat->eA)(d a r:eA):RL.map (λq=>(List.range 31).map λn=>el [S.t u f c ((List.range n).map φ++[Cf.t ⟨d,a,r,q.1⟩]) b,.str q.2.1])=RL.map λq=>(List.range 31).map λ_=>Y q.2.2:=by kernel_rfl
def RM{b:List (Str×eA)}{v:eA}{c a:eA}(d:(b,x,v)∈RL)(e:cs.length<31):el [S.t u f en (cs++[Cf.t ⟨c,a,r,b⟩]) ms,.str x]=Y v:=by have:=iM ((List.map_inj_left.mp (Zh S u f en ms (λi=>cs.getD i .none) c a r)) _ d) e;rwa[<-v9 cs] at this
def Wu(S:Sq)(u f:Int)(c:eA)(b:Lp)(φ:Nat->eA)(d a r:eA)(l:ee):(List.range 3).map (λw=>(List.range 31).map λn=>(fV "State" "value_of" 2 el (a6 0) (zQ (eJ ["Row"] "y" (a6 1)))) (Y (S.t u f c ((List.range n).map φ++[Cf.t ⟨d,a,r,yf w⟩]) b)::Y (OM w)::l))=(List.range 3).map λw=>(List.range 31).map λ_=>Y (ml (if w=0 then 1 else 0)):=by kernel_rfl
def Wv(S:Sq)(u f:Int)(c:eA)(b:Lp)(φ:Nat->eA)(d a r:eA)(l:ee):(List.range 3).map (λw=>(List.range 31).map λn=>(ir (oJ (eJ ["Row"] "handed" (a6 1))) [(0,"state")] lA lB) (Y (S.t u f c ((List.range n).map φ++[Cf.t ⟨d,a,r,yf w⟩]) b)::Y (OM w)::l))=(List.range 3).map λw=>(List.range 31).map λ_=>Y (.list [ml (if w=0 then 1 else 0)]):=by kernel_rfl
def Ww(S:Sq)(u f:Int)(e:eA)(b:Lp)(φ:Nat->eA)(g r:eA)(d:List (Str×eA))(a:Od)(l:ee)(c:eA):(List.range 30).map (λn=>(d2 hU (eJ ["Call"] "path" (fV "State" "top" 1 k6 (a6 0) f9)) (jT (zQ (a6 2)))) (Y (S.t u f e ((List.range (n+1)).map φ++[Cf.t ⟨g,.tuple (c::List.replicate n (.int 1)),r,d⟩]) b)::a::Y (.int 1)::l))=(List.range 30).map λn=>Y (.tuple (c::List.replicate (n+1) (.int 1))):=by kernel_rfl
def Wx(a:eA)(u f:Int)(b:eA)(c:Lp)(i:Od)(l:ee):tx.map (λq=>(k0 3 pk (fK (a6 0) (fK (a6 1) (zQ (a6 3))))) (Y ((Q q.1 q.2.1 q.2.2 a []).t u f b c (Ca q.1 q.2.1 q.2.2))::Y (OM q.1)::i::Y (ml (if q.1=0 then 1 else 0))::l))=tx.map λq=>Y (Ak q.1):=by kernel_rfl
end
section
variable {w b g:Nat}{u f:Int}{n:Nat}{r:eA}{W:MH}{ins:Lp}{k:Nat}
def Zi:(v8 w b g)[0]?=Y Ei:=rfl
def Wy:(v8 w b g)[1]?=Y (OM w):=rfl
def Cb(h:Tx w b g)(a:n<30)(i:Int):hJ [.l 1] (jt w b g inp γ u f .none n (.int i) zs W)=Y (.d .none,jt w b g inp γ u f .none n (.int i) zs W) :=
 Gu (Gs (n:=999999) (Wh (iV h 3) (by rw[kQ];omega) rfl))
def TB(h:Tx w b g)(j:0<f){y:Int}{c:Bool}{a:Int}(e:fW [.l 1] (jt w b g inp γ u (f - 1) .none n (oI 0) zs W)=Y (.d (.int y),jt w b g inp γ a (f - 1) .none n (oI 0) zs W))(m:rR (.int y) (.int 0)=Y (.bool c)){μ':MH}(k:hJ [.l 1] (jt w b g inp γ a (f - 1) .none n (if c then oI 1 else ow w b g 0) zs W)=Y (.d .none,μ')):eB [.l 0] (jt w b g inp γ u f .none n (oI 0) zs W)=Y (.d (.bool true),μ'):=by
 refine qZ (c:=fr w b g n (oI 0) zs) (v:=.d .none) rfl j (λf en=>iV h 3) (ON h (i:=0) (by show 0<2+b+g+_;omega) (by omega)) rfl (.inl ⟨rfl,?_⟩);refine D9 (wa (i:=0) Zi) (Tu (Wl e m) (r':=if c then oI 1 else ow w b g 0) ?_) k;cases c with
 |true=>exact Q7 h (i:=0) (by omega)
 |false=>exact Za h
def OO(h:Tx w b g)(e:n<30)(j:0<f)(i:inp=.list ins){y:Nat}(a:ins[k]?=Y (.int (Int.ofNat (y+1)))):eB [.l 0] (jt w b g inp γ (k:Int) f .none n (oI 0) zs W)=Y (.d (.bool true),jt w b g inp γ ((k:Int)+1) (f - 1) .none n (oI 1) zs W) :=
 TB h j (y:=Int.ofNat (y+1)) (c:=true) (JV (S:=Q w b g inp []) i a λu=>iV h 3) (zK 0) (Cb h e 1)
def Q8(h:Tx w b g)(j:0<f)(i:inp=.list ins)(a:ins.length=k\/ins[k]?=Y (.int 0)):∃m,∀μ',hJ [.l 1] (jt w b g inp γ m (f - 1) .none n (ow w b g 0) zs W)=Y (.d .none,μ')->eB [.l 0] (jt w b g inp γ (k:Int) f .none n (oI 0) zs W)=Y (.d (.bool true),μ'):=by
 rcases a with a|a
 ·exact⟨(k:Int),λμ' e=>TB h j (y:=0) (c:=false) (Q6 (S:=Q w b g inp []) i (by omega) (iV h 3)) (zK 0) e⟩
 ·exact⟨(k:Int)+1,λμ' e=>TB h j (y:=0) (c:=false) (JV (S:=Q w b g inp []) i a λu=>iV h 3) (zK 0) e⟩
def Wz:Ls w b g γ (n+1)=Ls w b g γ n++((fr w b g n (.int 1) []).o (6+(Ls w b g γ n).length)::(fr w b g n (.int 1) []).n::[γ n]):=rfl
def OP(c:Nat)(n:Nat):oa (.tuple (oI c::List.replicate n (.int 1)))=true:=by show (List.all (oI c::List.replicate n (.int 1)) qw)=true;rw[List.all_cons,bJ.mpr λx a=>by rw[(List.mem_replicate.mp a).2];rfl];rfl
def Zj(h:Tx w b g)(e:n<29):Xo (Q w b g inp []) ((Q w b g inp []).t u f en (Bd w b g n++[(fr w b g n (.int 1) []).t]) (Ca w b g)) (OM w) (.int 1) (Ak w) (.tuple (oI (cr w b g)::List.replicate (n+1) (.int 1))) (oI 0) [.str "thing",.int ((if w=0 then 1 else 0:Nat):Int)]:=by
 have c:(Bd w b g n).length<31:=by rw[kQ];omega
 have a:=v9 (Bd w b g n);have d:fr w b g n (.int 1) []=⟨Ak w,.tuple (oI (cr w b g)::List.replicate n (.int 1)),.int 1,yf w⟩:=by show Cf.mk _ _ _ (yf w++[])=_;rw[aR]
 refine⟨λl=>?_,λl=>?_,λl=>?_,λl=>?_,Zc h,Ze h,rfl,?_,OP _ _⟩
 ·have:=iM (iM (Wu (Q w b g inp []) u f en (Ca w b g) (λi=>(Bd w b g n).getD i .none) (Ak w) (.tuple (oI (cr w b g)::List.replicate n (.int 1))) (.int 1) l) h.w) c;rw[<-a] at this;rw[d];exact this
 ·exact h.of (Wx inp u f en _ _ l)
 ·have:=iM (iM (Wv (Q w b g inp []) u f en (Ca w b g) (λi=>(Bd w b g n).getD i .none) (Ak w) (.tuple (oI (cr w b g)::List.replicate n (.int 1))) (.int 1) l) h.w) c;rw[<-a] at this;rw[d];exact this
 ·have:=iM (Ww (Q w b g inp []) u f en (Ca w b g) (λi=>(Bd w b g n).getD i .none) (Ak w) (.int 1) (yf w++[]) (Y (OM w)) l (oI (cr w b g))) (show n<30 by omega);rw[<-kQ w b g n,<-a,kQ] at this;exact this
 ·rcases(by have:=h.w;omega:w=0\/w=1\/w=2) with rfl|rfl|rfl<;>rfl
theorem JZ:∀n,(L7 w b g γ n).length=n+1
 |0=>rfl
 |n+1=>by rw[L7,aQ,JZ n];rfl
def WA(hw:w=0)(n:Nat):(Ls w b g γ n)[5]?=Y (Wo (oI (nB b g+1)) "func" 11)/\(Ls w b g γ n)[6]?=Y (.lS (B5 [("k",ml 0)])):=by
 subst hw;induction n with
 |zero=>exact⟨rfl,rfl⟩
 |succ n a=>rw[Ls];exact⟨by rw[aE (au.mp a.1).1];exact a.1,by rw[aE (au.mp a.2).1];exact a.2⟩
def WB(h:Tx w b g)(e:n<29):iS [.l 1,.d (OM w),.d (.int 1)] (jt w b g inp γ u f .none n (.int 1) [] [γ n])=Y (.d .none,jt w b g inp γ u f .none (n+1) (oI 0) [] []):=by
 have a:=iV (inp:=inp) (γ:=γ) (u:=u) (f:=f) (en:=.none) (n:=n) (r:=.int 1) (zs:=[]) (W:=[γ n]) h 3;have c:(L7 w b g γ n++[MV.l (5+(Ls w b g γ n).length)]).length<1000:=by rw[aQ,JZ];simp;omega
 have H:=Zj (inp:=inp) (u:=u) (f:=f) (en:=.none) h e;have hw:=h.w;rcases(by omega:w=0\/w=1\/w=2) with rfl|rfl|rfl
 ·exact Wq (G:=Ls 0 b g γ (n+1)) H a c (zK 0) rfl (WA rfl _).1 (WA rfl _).2
 ·exact JW (G:=Ls 1 b g γ (n+1)) H a c (zK 0)
 ·exact JW (G:=Ls 2 b g γ (n+1)) H a c (zK 0)
def OQ{S:Sq}{G:MH}{a:MV}{μ':MH}(hw:w<3)(b:iS [.l 1,.d (OM w),.d (.int 1)] (H5 S u f en st++G)=Y (.d .none,μ')):D8 [Y (.l 1),zd (.int 1),zd (OM w),Y a] (H5 S u f en st++G)=Y (.nx [Y (.l 1),zd (.int 1),zd (OM w),Y a] μ'):=by unfold D8;rw[qY (μ':=H5 S u f en st++G) (by generalize H5 S u f en st++G=μ;rcases(by omega:w=0\/w=1\/w=2) with rfl|rfl|rfl<;>kernel_rfl)];refine qg (v:=.d .none) ?_;unfold rZ;exact b
def TC(h:Tx w b g)(k:n<28)(j:0<f):eB [.l 0] (jt w b g inp γ u f .none n (oI 1) [] [γ n])=Y (.d (.bool true),jt w b g inp γ u (f - 1) .none (n+1) (oI 0) [] []):=by
 have m:=kQ w b g n;have a:=JY (inp:=inp) (u:=u) (f:=f - 1) (pth:=.tuple (oI (cr w b g)::List.replicate n (.int 1))) (r:=.int 1) h (cs:=Bd w b g n) (by omega);rw[ag (by omega)] at a;refine qZ (c:=fr w b g n (oI 1) []) (v:=.d .none) rfl j (λf en=>iV h 3) (e:=.none) ?_ rfl (.inl ⟨rfl,?_⟩)
 ·show kF [(Q w b g inp []).t u (f - 1) .none (Bd w b g n++[Cf.t ⟨Ak w,_,.int 1,yf w++[]⟩]) (Ca w b g),.int 1]=_;rw[aR];exact a
 ·exact D9 (wa (i:=1) Wy) (OQ h.w (WB h (by omega))) (Cb h (by omega) 0)
def TF(h:Tx w b g)(i:0<f):eB [.l 0] (jt w b g inp γ u f .none 28 (oI 1) [] W)=Y (.d (.bool true),jt w b g inp γ u (f - 1) (.tuple [.str "deep",.int 1]) 28 (oI 1) [] W):=by have j:=kQ w b g 28;have a:=JY (inp:=inp) (u:=u) (f:=f - 1) (pth:=.tuple (oI (cr w b g)::List.replicate 28 (.int 1))) (r:=.int 1) h (cs:=Bd w b g 28) (by omega);rw[ai (by omega)] at a;refine qZ (c:=fr w b g 28 (oI 1) []) (v:=.d .none) rfl i (λf en=>iV h 3) (e:=.tuple [.str "deep",.int 1]) ?_ rfl (.inr ⟨_,rfl,rfl⟩);show kF [(Q w b g inp []).t u (f - 1) .none (Bd w b g 28++[Cf.t ⟨Ak w,_,.int 1,yf w++[]⟩]) (Ca w b g),.int 1]=_;rw[aR];exact a
end
noncomputable def MT(w b g:Nat)(inp:eA)(tl:Lp)(u f:Int)(en:eA)(a:List MV)(mr:eA)(ys:List (Str×eA))(W:MH):MH:=SS (Q w b g inp tl) u f en a [] (tr w mr ys) (Uv w b g++W)
section
variable {w b g:Nat}{u f:Int}{n:Nat}{r:eA}{W:MH}{t:Bool}
def TH(w:Nat)(hw:w<3):y0 (.inr "z") (.d (ml 0)) (B5 (yf w++[]))=B5 (yf w++zv true):=by rcases(by omega:w=0\/w=1\/w=2) with rfl|rfl|rfl<;>kernel_rfl
def Q9(w:Nat)(hw:w<3):qB (.inr "z") (B5 (yf w++[]))=Z:=by rcases(by omega:w=0\/w=1\/w=2) with rfl|rfl|rfl<;>kernel_rfl
def TJ(w:Nat)(hw:w<3):y0 (.inr "y") (.d (ml 0)) (B5 (("a",ml 0)::(Ws w++[])))=B5 (("a",ml 0)::(Ws w++yv true)):=by rcases(by omega:w=0\/w=1\/w=2) with rfl|rfl|rfl<;>kernel_rfl
def Ra(w:Nat)(hw:w<3):qB (.inr "y") (B5 (("a",ml 0)::(Ws w++[])))=Z:=by rcases(by omega:w=0\/w=1\/w=2) with rfl|rfl|rfl<;>kernel_rfl
def Zk(hw:w<3):mU ["Row"] "x" (OM w)=Y (.str "z"):=by rcases(by omega:w=0\/w=1\/w=2) with rfl|rfl|rfl<;>kernel_rfl
noncomputable abbrev mcD(w:Nat):eA:=if w=0 then qf "do" .none (.str "y") (.str "b") .none .none .none [.str "b"] [.str "y",.str "b",.str "b"] else qf "ask" .none (.str "y") (.str "a") .none (.str "m") .none [.str "a"] [.str "y",.str "a",.str "a"]
def Zl(hw:w<3):mU ["Row"] "x" (mcD w)=Y (.str "y"):=by rcases(by omega:w=0\/w=1\/w=2) with rfl|rfl|rfl<;>kernel_rfl
def TK:tx.map (λq=>(v8 q.1 q.2.1 q.2.2)[cr q.1 q.2.1 q.2.2]?)=tx.map λq=>Y (mcD q.1):=by kernel_rfl
def WC:tx.map (λq=>bh q.1 q.2.1 q.2.2 (cr q.1 q.2.1 q.2.2))=tx.map λq=>oI (cr q.1 q.2.1 q.2.2+1):=by kernel_rfl
def WD{x:MV}{r zs}:jt w b g inp γ u f en (n+1) r zs W=H5 (Q w b g inp []) u f en ((L7 w b g γ n++[.l (5+(Ls w b g γ n).length)])++[.l (5+(Ls w b g γ (n+1)).length)])++(Ls w b g γ n++((fr w b g n (.int 1) []).o (6+(Ls w b g γ n).length)::(fr w b g n (.int 1) []).n::(γ n::(fr w b g (n+1) r zs).o (6+(Ls w b g γ (n+1)).length)::(fr w b g (n+1) r zs).n::W))):=by unfold jt SS;rw[Wz (n:=n),aN];rfl
def OR(h:Tx w b g)(j:n<29)(t:Bool):∃e,h9 [.l 1,.d (vD t)] (jt w b g inp γ u f en (n+1) r zs W)=Y (.d .none,jt w b g inp γ u f en n (bh w b g 1) (zv t) e):=by
 refine⟨γ n::(fr w b g (n+1) r zs).o (6+(Ls w b g γ (n+1)).length)::(fr w b g (n+1) r zs).n::W,?_⟩;rw[WD (x:=.l 0)];have a:=λW=>iV (inp:=inp) (γ:=γ) (u:=u) (f:=f) (en:=en) (n:=n) (r:=.int 1) (zs:=[]) (W:=W) h 3;refine Wk (c:=fr w b g n (.int 1) []) (c2:=fr w b g n (.int 1) (zv t)) (a _) (by rw[kQ];omega) (wa (i:=1) Wy) (Zk h.w) (Q7 h (i:=1) (by show 1<2+b+g+_+_+1;omega)) ?_ rfl;cases t with
 |true=>exact Ah (TH w h.w) (by rcases(by have:=h.w;omega:w=0\/w=1\/w=2) with rfl|rfl|rfl<;>(show 2<100;decide))
 |false=>exact JT (Q9 w h.w)
def OS(h:Tx w b g)(t:Bool):∃j,h9 [.l 1,.d (vD t)] (jt w b g inp γ u f en 0 r zs W)=Y (.d .none,MT w b g inp [] u f en [.l 5] (oI (cr w b g+1)) (yv t) j):=by
 refine⟨(fr w b g 0 r zs).o (6+(Ls w b g γ 0).length)::(fr w b g 0 r zs).n::W,?_⟩;have a:=λW=>Ea (inp:=inp) (tl:=[]) (u:=u) (f:=f) (en:=en) (mr:=oI (cr w b g)) (ys:=[]) (W:=W) h 3;have e:=Wk (S:=Q w b g inp []) (u:=u) (f:=f) (en:=en) (sl:=[]) (L:=[]) (x:=.l (5+(Ls w b g γ 0).length)) (c:=tr w (oI (cr w b g)) []) (c2:=tr w (oI (cr w b g)) (yv t)) (W:=Uv w b g++((fr w b g 0 r zs).o (6+(Ls w b g γ 0).length)::(fr w b g 0 r zs).n::W)) (cs:=[]) (v:=vD t) (y:="y") (r':=oI (cr w b g+1)) (a _) (by simp) (wa (h.of TK)) (Zl h.w) (by have:=Q7 h (i:=cr w b g) (by omega);rw[h.of WC] at this;exact this)
  (by
   cases t with
   |true=>exact Ah (L:=[]) (TJ w h.w) (by rcases(by have:=h.w;omega:w=0\/w=1\/w=2) with rfl|rfl|rfl<;>first|(show 2<100;decide)|(show 1<100;decide))
   |false=>exact JT (L:=[]) (Ra w h.w)) rfl
 exact e
def OT(h:Tx w b g)(i:Int){a:Lp}{k:Nat}:Q5 (k+1) (MT w b g inp a u f .none [.l 5] (.int i) ys W)=Y (.nx [Y (.l 1)] (MT w b g inp a u f .none [.l 5] (.int i) ys W)) :=
 Gs (Wh (cs:=[]) (Ea h 3) (by simp) rfl)
theorem TL(h:Tx w 0 g):∀(n:Nat) (zs:List (Str×eA)) (W:MH) (k:Nat),n<29->∃a,Q5 (k+n+2) (jt w 0 g inp γ u f .none n .none zs W)=Y (.nx [Y (.l 1)] (MT w 0 g inp [] u f .none [.l 5] (oI (cr w 0 g+1)) [] a))
 |0,zs,W,k,_=>by obtain⟨a,e⟩:=OS (inp:=inp) (γ:=γ) (u:=u) (f:=f) (en:=.none) (r:=.none) (zs:=zs) (W:=W) h false;exact⟨a,(JU (n:=k+0+1) (Wi (iV h 3) (by rw[kQ];omega) rfl) e).trans (OT h _)⟩
 |n+1,zs,W,k,d=>by obtain⟨c,e⟩:=OR (inp:=inp) (γ:=γ) (u:=u) (f:=f) (en:=.none) (r:=.none) (zs:=zs) (W:=W) h (show n<29 by omega) false;obtain⟨a,b⟩:=TL h n [] c k (by omega);refine⟨a,?_⟩;rw[show k+(n+1)+2=(k+n+2)+1 by omega];exact(JU (Wi (iV h 3) (by rw[kQ];omega) rfl) e).trans b
def TM(h:Tx w b g)(k:n<30)(p:0<f)(q:2<=i)(o:i<nB b g)(e:(v8 w b g)[i]?=Y B6){j:Int}(m:bh w b g i=.int j):eB [.l 0] (jt w b g inp γ u f .none n (oI i) zs W)=Y (.d (.bool true),jt w b g inp γ u (f - 1) .none n (.int j) zs W):=by refine qZ (c:=fr w b g n (oI i) zs) (v:=.d .none) rfl p (λf en=>iV h 3) (ON h o (by omega)) rfl (.inl ⟨rfl,?_⟩);have a:=Q7 h (i:=i) (by show i<nB b g+_+1;omega);rw[m] at a;exact D9 (wa e) (OG (c:=fr w b g n (oI i) zs) a) (Cb h k j)
def Eb(h:Tx w b g)(p:n<30)(k:0<f)(q:2<=i)(j:i<nB b g)(e:(v8 w b g)[i]?=Y (Me x))(a:el [(Q w b g inp []).t u (f - 1) .none (Bd w b g n++[(fr w b g n (oI i) zs).t]) (Ca w b g),.str x]=Y (vD t)){μ1 μ':MH}(m:h9 [.l 1,.d (vD t)] (jt w b g inp γ u (f - 1) .none n (oI i) zs W)=Y (.d .none,μ1))(o:hJ [.l 1] μ1=Y (.d .none,μ')):eB [.l 0] (jt w b g inp γ u f .none n (oI i) zs W)=Y (.d (.bool true),μ'):=by refine qZ (c:=fr w b g n (oI i) zs) (v:=.d .none) rfl k (λf en=>iV h 3) (ON h j (by omega)) rfl (.inl ⟨rfl,?_⟩);exact D9 (wa e) (OH (iV h 3) a (by cases t<;>rfl) m) o
end
noncomputable abbrev IM:eA:=.tuple [.str "given",.str "none"]
noncomputable abbrev Ej(t:Bool):eA:=if t then .str "ka" else .str "none"
section
variable {w b g:Nat}{u f:Int}{n:Nat}{W:MH}
def TN(a:eA)(u:Int)(φ:Nat)(W:MH):tx.map (λq=>[true,false].map λt=>eB [.l 0] (MT q.1 q.2.1 q.2.2 a [] u (Int.ofNat (φ+1)) .none [.l 5] (oI (cr q.1 q.2.1 q.2.2+1)) (yv t) W))=tx.map λq=>[true,false].map λt=>Y (.d (.bool true),MT q.1 q.2.1 q.2.2 a [Ej t] u (Int.ofNat (φ+1) - 1) IM [] .none (yv t) W):=by kernel_rfl
def TQ(h:Tx w b g)(a:0<f)(t:Bool):eB [.l 0] (MT w b g inp [] u f .none [.l 5] (oI (cr w b g+1)) (yv t) W)=Y (.d (.bool true),MT w b g inp [Ej t] u (f - 1) IM [] .none (yv t) W):=by
 obtain⟨φ,rfl⟩:∃φ:Nat,f=Int.ofNat (φ+1):=⟨f.toNat - 1,by simp;omega⟩
 exact(List.map_inj_left.mp (h.of (TN inp u φ W))) t (by cases t<;>simp)
def WE(a:eA)(u f:Int)(W:MH):tx.map (λq=>[true,false].map λt=>eB [.l 0] (MT q.1 q.2.1 q.2.2 a [Ej t] u f IM [] .none (yv t) W))=tx.map λq=>[true,false].map λt=>Y (.d (.bool false),MT q.1 q.2.1 q.2.2 a [Ej t] u f IM [] .none (yv t) W):=by kernel_rfl
def WG(h:Tx w b g)(t:Bool):eB [.l 0] (MT w b g inp [Ej t] u f IM [] .none (yv t) W)=Y (.d (.bool false),MT w b g inp [Ej t] u f IM [] .none (yv t) W) :=
 (List.map_inj_left.mp (h.of (WE inp u f W))) t (by cases t<;>simp)
def J0{g h:MS}{μ':MH}{v:MV}(e:g ρ μ=Y (.rt v μ')):eO g h ρ μ=Y (.rt v μ'):=by unfold eO;rw[e];rfl
def TR(h:Tx w b g){xs:Lp}{r:eA}:eB [.l 0] (jt w b g inp γ u f (.tuple xs) n r zs W)=Y (.d (.bool false),jt w b g inp γ u f (.tuple xs) n r zs W):=by
 have t:fo (fB (d2 kK (eJ ["State"] "ended" (a6 1)) (dC .none))) [Y (.l 0),Y (.l 1),Z] (jt w b g inp γ u f (.tuple xs) n r zs W)=Y (true,jt w b g inp γ u f (.tuple xs) n r zs W):=IG (by rw[Ut (iV h 3)];generalize (Y (MV.l 0)).bind _=x;generalize (Z:Option MV).bind _=y;generalize Bd w b g n++_=cs;kernel_rfl);have hw:iF [Y (.l 0),Z,Z] (jt w b g inp γ u f (.tuple xs) n r zs W)=Y (.rt (.d (.bool false)) (jt w b g inp γ u f (.tuple xs) n r zs W)):=by unfold iF;refine(gA OE).trans ?_;exact J0 ((qY t).trans rfl)
 unfold eB gN;show (iF [Y (.l 0),Z,Z] _).bind _=_;rw[hw];rfl
noncomputable def ah(w b g:Nat)(a:eA):Nat->MH
 |0=>H5 ⟨OL w b g,FL w b g,a,[],[]⟩ 0 1000 .none [.l 5]++[Cf.o ⟨OB,.tuple [],oI (nB b g),[]⟩ 6,.lS []]
 |1=>H5 ⟨OL w b g,FL w b g,a,[.l 7],[]⟩ 0 999 .none [.l 5]++[Cf.o ⟨OB,.tuple [],oI (nB b g+1),[]⟩ 6,.lS (B5 [("a",ml 0)]),Wo (oI (nB b g)) "record" 8,.lS [],.lst []]
 |2=>if w=0 then H5 (Q 0 b g a []) 0 998 .none [.l 5]++bL 0 b g (oI (nB b g+2)) [] else jt w b g a (λ_=>.gone) 0 998 .none 0 (oI 0) [] []
 |_=>jt w b g a (λ_=>.gone) 0 997 .none 0 (oI 0) [] []
def Zm(a:eA):tx.map (λq=>(List.range (if q.1=0 then 3 else 2)).map λj=>eB [.l 0] (ah q.1 q.2.1 q.2.2 a j))=tx.map λq=>(List.range (if q.1=0 then 3 else 2)).map λj=>Y (.d (.bool true),ah q.1 q.2.1 q.2.2 a (j+1)):=by kernel_rfl
def Zn(h:Tx w b g)(a:j<if w=0 then 3 else 2):eB [.l 0] (ah w b g inp j)=Y (.d (.bool true),ah w b g inp (j+1)):=iM (h.of (Zm inp)) a
end
noncomputable def sr(a:List (Str×eA)):Lp:=match vI (.dict (a.map λp=>(.str p.1,p.2))) with
 |some (.list s)=>s
 |_=>[]
noncomputable abbrev mnK(w:Nat)(t:Bool):List (Str×eA):=("a",ml 0)::(Ws w++yv t)
noncomputable def Uw:List (List (Str×eA)):=[true,false].flatMap λt=>(List.range 3).flatMap λw=>[yf w++zv t,mnK w t]
def Zo:Uw.map (λkv=>(vI (.dict (kv.map λp=>(.str p.1,p.2))),(sr kv).all N8))=Uw.map λkv=>(Y (.list (sr kv)),true):=by kernel_rfl
def RN{a:List (Str×eA)}(h:a∈Uw):vI (.dict (a.map λp=>(.str p.1,p.2)))=Y (.list (sr a))/\(sr a).all N8=true:=by have:=(List.map_inj_left.mp Zo) _ h;exact⟨bx (·.1) this,bx (·.2) this⟩
def WH{w:Nat}(hw:w<3)(t:Bool):yf w++zv t∈Uw:=List.mem_flatMap.mpr ⟨t,by cases t<;>simp,List.mem_flatMap.mpr ⟨w,List.mem_range.mpr hw,cb⟩⟩
def WI{w:Nat}(hw:w<3)(t:Bool):mnK w t∈Uw:=List.mem_flatMap.mpr ⟨t,by cases t<;>simp,List.mem_flatMap.mpr ⟨w,List.mem_range.mpr hw,ar _ cb⟩⟩
def yg{a k:Nat}{c:Cf}(d:μ[a]?=Y (c.o k))(b:μ[k]?=Y c.n)(h:c.kv∈Uw):IL μ a c (sr c.kv):=⟨⟨k,d,b⟩,(RN h).1,(RN h).2⟩
noncomputable def Cc(w b g:Nat)(γ:Nat->MO):Nat->List Fr
 |0=>[(5,tr w (oI (cr w b g)) [],oI (cr w b g),sr (tr w (oI (cr w b g)) []).kv)]
 |n+1=>Cc w b g γ n++[(5+(Ls w b g γ n).length,fr w b g n (.int 1) [],.int 1,sr (fr w b g n (.int 1) []).kv)]
noncomputable def J4(w b g:Nat)(γ:Nat->MO)(n:Nat)(r:eA)(zs:List (Str×eA)):List Fr:=Cc w b g γ n++[(5+(Ls w b g γ n).length,fr w b g n r zs,.none,sr (fr w b g n r zs).kv)]
section
variable {w b g:Nat}{u f:Int}{n:Nat}{W:MH}{r:eA}{t:Bool}{S:Sq}{ms:Lp}
theorem u7:∀n,(Cc w b g γ n).length=n+1
 |0=>rfl
 |n+1=>by rw[Cc,aQ,u7 n];rfl
theorem OU:∀n,L7 w b g γ n=(Cc w b g γ n).map λq=>.l q.1
 |0=>rfl
 |n+1=>by rw[Cc,L7,OU n,bt];rfl
theorem OV:∀n,Bd w b g n=((Cc w b g γ n).map (·.2.1)).map Cf.t
 |0=>rfl
 |n+1=>by rw[Cc,Bd,OV n,bt,bt];rfl
theorem OW:∀n,((Cc w b g γ n).map (·.2.1)).map Cf.r=(Cc w b g γ n).map (·.2.2.1)
 |0=>rfl
 |n+1=>by rw[Cc,bt,bt,bt,OW n];rfl
theorem RO:∀n,((Cc w b g γ n).map (·.2.2.1)).all oa=true
 |0=>rfl
 |n+1=>by rw[Cc,bt,List.all_append,RO n];rfl
theorem OX(hw:w<3):∀n,∀q∈Cc w b g γ n,∀H T:MH,H.length=5->IL (H++(Ls w b g γ n++T)) q.1 q.2.1 q.2.2.2
 |0,q,hq,H,T,e=>by
  have:q=(5,tr w (oI (cr w b g)) [],oI (cr w b g),sr (tr w (oI (cr w b g)) []).kv):=by simpa [Cc] using hq
  subst this;exact yg (k:=6) (mn (L:=[]) (by rw[e];rfl)) (mn (L:=[(tr w (oI (cr w b g)) []).o 6]) (R:=Uv w b g++T) (by rw[e];rfl)) (WI hw false)
 |n+1,q,hq,H,T,e=>by
  rw[Cc,bc] at hq;rw[Ls,aN];rcases hq with hq|hq
  ·exact OX hw n q hq H _ e
  ·have:q=(5+(Ls w b g γ n).length,fr w b g n (.int 1) [],.int 1,sr (fr w b g n (.int 1) []).kv):=by simpa using hq
   subst this;refine yg (k:=6+(Ls w b g γ n).length) (mn (by rw[e])) ?_ (WH hw false);rw[show Ls w b g γ n++([(fr w b g n (.int 1) []).o (6+(Ls w b g γ n).length),(fr w b g n (.int 1) []).n,γ n]++T)=(Ls w b g γ n++[(fr w b g n (.int 1) []).o (6+(Ls w b g γ n).length)])++((fr w b g n (.int 1) []).n::γ n::T) by simp];exact mn (by rw[e];simp;omega)
def RP{gs:List Cf}{c:Cf}(d:gs.length<31)(l:ee):Uu (Y (OC (S.t u f en (gs.map Cf.t++[c.t]) ms))::l)=Y (.list (gs.map Cf.r++[.none])):=by
 have k:=iM (Y5 (S:=S) (u:=u) (f:=f) (en:=en) (ms:=ms) (λj=>(gs++[c]).getD j c) l) d;have h:(List.range (gs.length+1)).map (λj=>((gs++[c]).getD j c).t)=gs.map Cf.t++[c.t]:=by
  refine List.ext_getElem (by simp) λi a e=>?_;simp at a;rw[List.getElem_map,List.getElem_range,bN];by_cases b:i<gs.length
  ·rw[aE b,List.getElem_append_left (by simpa using b)];simp[b]
  ·have:i=gs.length:=by omega
   subst this;simp
 have g:(List.range gs.length).map (λj=>((gs++[c]).getD j c).r)=gs.map Cf.r:=by refine List.ext_getElem (by simp) λi a e=>?_;simp at a;rw[List.getElem_map,List.getElem_range,bN,aE a];simp[a]
 rw[h,g] at k;exact k
def wb(x:MO):jt w b g inp γ u f en n r zs W++[x]=jt w b g inp γ u f en n r zs (W++[x]):=by simp[jt,SS]
def tj(x:MO){tl:Lp}:MT w b g inp tl u f en st r ys W++[x]=MT w b g inp tl u f en st r ys (W++[x]):=by simp[MT,SS]
def Gx(h:Tx w b g)(c:n<29):fN [.l 0] (jt w b g inp γ u f en n r (zv t) W)=Y (.l (jt w b g inp γ u f en n r (zv t) W).length,jt w b g inp γ u f en n r (zv t) W++[.lst ((J4 w b g γ n r (zv t)).map qh)]):=by
 refine Aj (S:=Q w b g inp []) (cs:=((Cc w b g γ n).map (·.2.1)).map Cf.t++[(fr w b g n r (zv t)).t]) (ms:=Ca w b g) (fs:=J4 w b g γ n r (zv t)) (ws:=((Cc w b g γ n).map (·.2.1)).map Cf.r++[.none]) ?_ ?_ ?_ ?_ (RP (by rw[aF,u7];omega)) ?_ (.inl ?_)
 ·rw[<-OV];show eQ (jt w b g inp γ u f en n r (zv t) W++[.lst []]) 9 (.l 0)=_;rw[wb];exact IH (k:=7) (iV h 2)
 ·rw[J4,bt,<-OU];rfl
 ·intro q a;rw[J4,bc] at a;rcases a with a|a
  ·exact OX h.w n q a _ _ rfl
  ·have:q=(5+(Ls w b g γ n).length,fr w b g n r (zv t),.none,sr (fr w b g n r (zv t)).kv):=by simpa using a
   subst this;exact yg D5 L4 (WH h.w t)
 ·rw[J4,aQ,u7];simp;omega
 ·rw[OW,List.all_append,RO];rfl
 ·rw[J4,bt,OW];rfl
def q0{tl:Lp}:MT w b g inp tl u f en st r ys W=H5 (Q w b g inp tl) u f en st++(bL w b g r ys++W):=rfl
def WJ(h:Tx w b g){tl:Lp}:eQ (MT w b g inp tl u f en [.l 5] r (yv t) W) 8 (.l 1)=Y ((Q w b g inp tl).t u f en [(tr w r (yv t)).t] (Ca w b g)):=by unfold MT;exact Ea h 2
def RQ(h:Tx w b g){tl:Lp}:eQ (MT w b g inp tl u f en [] r (yv t) W) 8 (.l 1)=Y ((Q w b g inp tl).t u f en [] (Ca w b g)):=by rw[q0];exact D6 (S:=Q w b g inp tl) (k:=2) rfl (Tz b g h.w r (yv t) _ _ 2 rfl)
def OY{tl:Lp}(e:eQ (MT w b g inp tl u f en st r ys W) 8 (.l 1)=Y d):eQ (MT w b g inp tl u f en st r ys W) 9 (.l 0)=Y (OC d):=by rw[q0] at e ⊢;exact IH (k:=7) e
def WK(h:Tx w b g){tl:Lp}:IL (MT w b g inp tl u f en st r (yv t) W) 5 (tr w r (yv t)) (sr (tr w r (yv t)).kv):=yg (k:=6) (D5 (L:=[])) (L4 (L:=[])) (WI h.w t)
def OZ(h:Tx w b g){tl:Lp}:fN [.l 0] (MT w b g inp tl u f en [.l 5] r (yv t) W)=Y (.l (MT w b g inp tl u f en [.l 5] r (yv t) W).length,MT w b g inp tl u f en [.l 5] r (yv t) W++[.lst (List.map qh [((5,tr w r (yv t),.none,sr (tr w r (yv t)).kv):Fr)])]):=by
 have hw:∀l,Uu (Y (OC ((Q w b g inp tl).t u f en [(tr w r (yv t)).t] (Ca w b g)))::l)=Y (.list [.none]):=λl=>RP (S:=Q w b g inp tl) (gs:=[]) (c:=tr w r (yv t)) (by decide) l;have a:=OY (WJ (inp:=inp) (u:=u) (f:=f) (en:=en) (r:=r) (t:=t) (W:=W++[.lst []]) (tl:=tl) h);rw[<-tj,q0] at a;have e:∀q∈[((5,tr w r (yv t),.none,sr (tr w r (yv t)).kv):Fr)],IL (MT w b g inp tl u f en [.l 5] r (yv t) W) q.1 q.2.1 q.2.2.2:=by intro q d;rw[List.mem_singleton] at d;subst d;exact WK h
 rw[q0] at e ⊢;exact Aj (fs:=[((5,tr w r (yv t),.none,sr (tr w r (yv t)).kv):Fr)]) a rfl e (by show 1<900;decide) hw rfl (.inl rfl)
def Rb(h:Tx w b g){tl:Lp}:fN [.l 0] (MT w b g inp tl u f en [] r (yv t) W)=Y (.l (MT w b g inp tl u f en [] r (yv t) W).length,MT w b g inp tl u f en [] r (yv t) W++[.lst (List.map qh [])]):=by have a:=OY (RQ (inp:=inp) (u:=u) (f:=f) (en:=en) (r:=r) (t:=t) (W:=W++[.lst []]) (tl:=tl) h);rw[<-tj,q0] at a;rw[q0];exact Aj (fs:=[]) a rfl (λq c=>by cases c) (by show 0<900;decide) (λl=>Y6 l) rfl (.inr ⟨rfl,rfl⟩)
end
noncomputable abbrev Ux:MR->MH->Option (Bool×MH):=jY (fi "Machine" "step" 1 eB (b5 0) dy)
section
variable {w b g:Nat}{u f:Int}{n:Nat}{W:MH}{r:eA}{t:Bool}{M:Int}
structure Cn (M:Int) (μ:MH):Prop where
 ex:∃(S:Sq) (u f:Int) (en:eA) (st:List MV) (G:MH),μ=H5 S u f en st++G
 cl:∃fs:List Fr,fN [.l 0] μ=Y (.l μ.length,μ++[.lst (fs.map qh)])/\(fs.length:Int)<=M
def WL{S:Sq}{G:MH}:oB "Machine" "calls" (H5 S u f en st++G) (.l 0)=true:=by kernel_rfl
def Zp{S:Sq}{G:MH}:oB "Machine" "step" (H5 S u f en st++G) (.l 0)=true:=by kernel_rfl
def TU{S:Sq}{G μ':MH}{c:Bool}(a:ρ[j]?=Y (Y (.l 0)))(h:eB [.l 0] (H5 S u f en st++G)=Y (.d (.bool c),μ')):fi "Machine" "step" 1 eB (b5 j) dy ρ (H5 S u f en st++G)=Y (.d (.bool c),μ') :=
 B8 (fQ a) Zp rfl rfl h
def TV(l:Lp):yK [.list l]=Y (zi l.length):=by kernel_rfl
def WM(h:Cn M μ)(s:Int):∃x,jm [Y (.l 0),zd (.int M),zd (.int s)] μ=Y (.nx [Y (.l 0),zd (.int M),zd (.int (s+1))] (μ++[x])):=by
 obtain⟨⟨S,u,f,m,j,G,e⟩,a,b,k⟩:=h;refine⟨.lst (a.map qh),?_⟩;have i:fi "Machine" "calls" 1 fN (b5 0) dy [Y (.l 0),zd (.int M),zd (.int (s+1))] μ=Y (.l μ.length,μ++[.lst (a.map qh)]):=B8 (fQ rfl) (by rw[e];exact WL) rfl rfl b;have g:zc yK (fi "Machine" "calls" 1 fN (b5 0) dy) [Y (.l 0),zd (.int M),zd (.int (s+1))] μ=Y (.d (zi a.length),μ++[.lst (a.map qh)]):=by unfold zc;rw[i,ae];show (eQ (μ++[.lst (a.map qh)]) 9 (.l μ.length)).bind _=_;rw[B9,ae,TV,ae,aF];rfl
 have c:jY (m2 vc (zc yK (fi "Machine" "calls" 1 fN (b5 0) dy)) (b5 1)) [Y (.l 0),zd (.int M),zd (.int (s+1))] μ=Y (false,μ++[.lst (a.map qh)]):=by
  have:vc (zi a.length) (.int M)=Y (.bool false):=by show Y (eA.bool (decide (M<(a.length:Int))))=_;rw[ba (by omega)]
  unfold jY;rw[B7 g (fQ rfl) this];rfl
 unfold jm;refine(gA (ρ':=[Y (.l 0),zd (.int M),zd (.int (s+1))]) (μ':=μ) (zK 0)).trans ?_;rw[kH c];rfl
noncomputable def Rn(w b g:Nat)(inp:eA)(M:Int)(t:Bool)(j:Nat)(μ:MH):Prop:=∀(s:Int) (K:Nat),∃u f W,mM Ux jm (K+j+1) [Y (.l 0),zd (.int M),zd (.int s)] μ=Y (.nx [Y (.l 0),zd (.int M),zd (.int (s+j))] (MT w b g inp [Ej t] u f IM [] .none (yv t) W))
def TX(h:Tx w b g):Rn w b g inp M t 0 (MT w b g inp [Ej t] u f IM [] .none (yv t) W):=λs K=>by
 refine⟨u,f,W,?_⟩;have e:Ux [Y (.l 0),zd (.int M),zd (.int s)] (MT w b g inp [Ej t] u f IM [] .none (yv t) W)=Y (false,MT w b g inp [Ej t] u f IM [] .none (yv t) W):=by have:=WG (inp:=inp) (u:=u) (f:=f) (W:=W) h t;rw[q0] at this ⊢;unfold Ux jY;rw[TU rfl this];rfl
 rw[mM,e];simp
def nr{S:Sq}{G μ1:MH}(c:eB [.l 0] (H5 S u f en st++G)=Y (.d (.bool true),μ1))(i:Cn M μ1)(h:∀x,Rn w b g inp M t j (μ1++[x])):Rn w b g inp M t (j+1) (H5 S u f en st++G):=λs K=>by
 obtain⟨x,e⟩:=WM i s;obtain⟨a,m,p,k⟩:=h x (s+1) K;refine⟨a,m,p,?_⟩;have o:Ux [Y (.l 0),zd (.int M),zd (.int s)] (H5 S u f en st++G)=Y (true,μ1):=by unfold Ux jY;rw[TU rfl c];rfl
 rw[show K+(j+1)+1=(K+j+1)+1 by omega,mM,o];simp only[ae,cx,e];have n:s+1+(j:Int)=s+((j+1:Nat):Int):=by omega
 rw[n] at k;exact k
def J5(h:Tx w b g)(a:n<29)(c:(n:Int)+2<=M):Cn M (jt w b g inp γ u f en n r (zv t) W):=⟨⟨_,_,_,_,_,_,rfl⟩,_,Gx h a,by rw[J4,aQ,u7];simp;omega⟩
def Ka(h:Tx w b g)(c:1<=M){a:Lp}:Cn M (MT w b g inp a u f en [.l 5] r (yv t) W):=⟨⟨_,_,_,_,_,_,q0⟩,_,OZ h,by simpa using c⟩
def Zq(h:Tx w b g)(c:1<=M){a:Lp}:Cn M (MT w b g inp a u f en [] r (yv t) W):=⟨⟨_,_,_,_,_,_,q0⟩,_,Rb h,by simp;omega⟩
def u9(h:Tx w b g)(c:1<=M)(d:1<=f):Rn w b g inp M t 1 (MT w b g inp [] u f .none [.l 5] (oI (cr w b g+1)) (yv t) W):=by have a:=TQ (inp:=inp) (u:=u) (W:=W) h (show 0<f by omega) t;rw[q0] at a ⊢;exact nr a (Zq h c) λx=>by rw[tj];exact TX h
def Ec(h:Tx w b g)(d:n<29)(m:(n:Int)+2<=M)(p:1<=f)(o:2<=i)(l:i<nB b g)(c:(v8 w b g)[i]?=Y B6){k:Int}(e:bh w b g i=.int k)(a:∀W,Rn w b g inp M t j (jt w b g inp γ u (f - 1) .none n (.int k) (zv t) W)):Rn w b g inp M t (j+1) (jt w b g inp γ u f .none n (oI i) (zv t) W) :=
 nr (TM h (by omega) (by omega) o l c e) (J5 h d m) λx=>by rw[wb];exact a _
def Ed(h:Tx w b g)(q:b≠0)(y:n<29)(A:(n:Int)+2<=M)(z:1<=f){zq:Bool}(o:2<=i)(m:i<nB b g)(d:(v8 w b g)[i]?=Y (Me x))(p:(yf w++zv zq,x,vD t)∈RL)(a:∀(u:Int) W,Rn w b g inp M t j (if n=0 then MT w b g inp [] u (f - 1) .none [.l 5] (oI (cr w b g+1)) (yv t) W else jt w b g inp γ u (f - 1) .none (n - 1) (oI 2) (zv t) W)):Rn w b g inp M t (j+1) (jt w b g inp γ u f .none n (oI i) (zv zq) W):=by
 have c:el [(Q w b g inp []).t u (f - 1) .none (Bd w b g n++[(fr w b g n (oI i) (zv zq)).t]) (Ca w b g),.str x]=Y (vD t):=RM p (by rw[kQ];omega);cases n with
 |zero=>obtain⟨v,e⟩:=OS (inp:=inp) (γ:=γ) (u:=u) (f:=f - 1) (en:=.none) (r:=oI i) (zs:=zv zq) (W:=W) h t;refine nr (Eb h (by omega) (by omega) o m d c e (Gu (OT h _ (k:=999999)))) (Ka h (by omega)) λx=>?_;rw[tj];exact a u _
 |succ n=>
  obtain⟨v,e⟩:=OR (inp:=inp) (γ:=γ) (u:=u) (f:=f - 1) (en:=.none) (r:=oI i) (zs:=zv zq) (W:=W) h (show n<29 by omega) t;have s:bh w b g 1=.int 2:=by show (if 1=0 then _ else if 1=1 then (if b=0 then _ else oI 2) else _)=_;rw[ai (by omega),ag rfl,ai q];rfl
  rw[s] at e;refine nr (Eb h (by omega) (by omega) o m d c e (Cb h (by omega) 2)) (J5 h (by omega) (by omega)) λx=>?_;rw[wb];exact a u _
end
section
variable {w b g:Nat}{u f:Int}{n:Nat}{W:MH}{t:Bool}{M:Int}
def O0(hw:w<3)(t:Bool):(yf w++zv t,zZ "z",vD t)∈RL:=by
 unfold RL;rcases(by omega:w=0\/w=1\/w=2) with rfl|rfl|rfl<;>cases t
 ·exact .tail _ (.tail _ (.head _))
 ·exact .tail _ (.tail _ (.tail _ (.tail _ (.head _))))
 ·exact .tail _ (.tail _ (.tail _ (.head _)))
 ·exact .tail _ (.tail _ (.tail _ (.tail _ (.tail _ (.head _)))))
 ·exact .tail _ (.tail _ (.tail _ (.head _)))
 ·exact .tail _ (.tail _ (.tail _ (.tail _ (.tail _ (.head _)))))
def O1(hw:w<3):(yf w++zv false,vx w,vD true)∈RL:=by
 unfold RL;rcases(by omega:w=0\/w=1\/w=2) with rfl|rfl|rfl
 ·exact .head _
 ·exact .tail _ (.head _)
 ·exact .tail _ (.head _)
def WN(h:Tx w b g)(a:b≠0)(e:n<29)(o:(n:Int)+2<=M)(k:1<=f)(c:∀(u:Int) W,Rn w b g inp M t j (if n=0 then MT w b g inp [] u (f - 1) .none [.l 5] (oI (cr w b g+1)) (yv t) W else jt w b g inp γ u (f - 1) .none (n - 1) (oI 2) (zv t) W)):Rn w b g inp M t (j+1) (jt w b g inp γ u f .none n (oI (nB b g - 1)) (zv t) W):=by
 have d:(v8 w b g)[nB b g - 1]?=Y (Me "z"):=by have m:=h.b;have i:=h.g;rcases(by omega:b=1\/b=2) with rfl|rfl<;>rcases(by omega:g=0\/g=1) with rfl|rfl<;>rfl
 exact Ed h a e o k (zq:=t) (by show 2<=2+b+g+_ - 1;rw[ai a];omega) (by show 2+b+g+_ - 1<2+b+g+_;rw[ai a];omega) d (O0 h.w t) c
def O2(h:Tx w b g)(e:b≠0)(a:n<29)(c:(n:Int)+2<=M)(o:(b:Int)+1<=f)(d:∀(u:Int) W,Rn w b g inp M t j (if n=0 then MT w b g inp [] u (f - (b+1)) .none [.l 5] (oI (cr w b g+1)) (yv t) W else jt w b g inp γ u (f - (b+1)) .none (n - 1) (oI 2) (zv t) W)):Rn w b g inp M t (j+(b+1)) (jt w b g inp γ u f .none n (oI 2) (zv t) W):=by
 have m:=h.b;rcases(by omega:b=1\/b=2) with rfl|rfl
 ·refine Ec h a c (by omega) (i:=2) (k:=((nB 1 g - 1:Nat):Int)) (by omega) (by show 2<2+1+g+1;omega) rfl rfl λW=>?_;refine WN h e a c (by omega) ?_;rw[show f - 1 - 1=f - (((1:Nat):Int)+1) by omega];exact d
 ·refine Ec h a c (by omega) (i:=2) (k:=3) (by omega) (by show 2<2+2+g+1;omega) rfl rfl λW=>?_;refine Ec h a c (by omega) (i:=3) (k:=((nB 2 g - 1:Nat):Int)) (by omega) (by show 3<2+2+g+1;omega) rfl rfl λW=>?_;refine WN h e a c (by omega) ?_;rw[show f - 1 - 1 - 1=f - (((2:Nat):Int)+1) by omega];exact d
theorem RR(h:Tx w b g)(c:b≠0)(d:2<=M):∀(n:Nat) (u f:Int) (W:MH),n<29->(n:Int)+2<=M->3*(n+1:Int)+1<=f->Rn w b g inp M t ((n+1)*(b+1)+1) (jt w b g inp γ u f .none n (oI 2) (zv t) W)
 |0,u,f,W,hn,hm,hf=>by have a:=h.b;rw[show (0+1)*(b+1)+1=1+(b+1) by omega];refine O2 h c hn hm (by omega) λu W=>?_;rw[ag rfl];exact u9 h (by omega) (by omega)
 |n+1,u,f,W,hn,hm,hf=>by have a:=h.b;rw[show (n+1+1)*(b+1)+1=((n+1)*(b+1)+1)+(b+1) by rw[Nat.add_mul (n+1) 1];omega];refine O2 h c hn hm (by omega) λu W=>?_;rw[ai (by omega)];exact RR h c d n u _ W (by omega) (by omega) (by omega)
variable {ins:Lp}{k:Nat}
def TY(h:Tx w b g)(j:n<29)(p:(n:Int)+2<=M)(G:200<=f)(A:inp=.list ins)(z:ins.length=k\/ins[k]?=Y (.int 0)):Rn w b g inp M (decide (g=1/\(b≠0\/n=0))) (2+(if g=1\/b≠0 then 1 else 0)+n*(b+if b=0 then 0 else 1)) (jt w b g inp γ (k:Int) f .none n (oI 0) [] W):=by
 obtain⟨d,o⟩:=Q8 (γ:=γ) (n:=n) (zs:=[]) (W:=W) h (show 0<f by omega) A z;have C:=h.b;have B:=h.g;by_cases a:b=0
 ·subst a;rcases(by omega:g=0\/g=1) with rfl|rfl
  ·
   obtain⟨y,e⟩:=TL (inp:=inp) (γ:=γ) (u:=d) (f:=f - 1) h n [] W (999998 - n) j;rw[show 999998 - n+n+2=1000000 by omega] at e;have D:=o _ (Gu e);rw[show 2+(if 0=1\/0≠0 then 1 else 0)+n*(0+if 0=0 then 0 else 1)=1+1 by simp];have c:decide (0=1/\(0≠0\/n=0))=false:=by simp
   rw[c];refine nr D (Ka (t:=false) h (by omega)) λx=>?_;rw[show ([]:List (Str×eA))=yv false from rfl,tj];exact u9 h (by omega) (by omega)
  ·rw[show 2+(if 1=1\/0≠0 then 1 else 0)+n*(0+if 0=0 then 0 else 1)=2+1 by simp];refine nr (o _ (Cb h (by omega) 2)) (J5 (t:=false) h j p) λx=>?_;rw[wb];have q:el [(Q w 0 1 inp []).t d (f - 1 - 1) .none (Bd w 0 1 n++[(fr w 0 1 n (oI 2) []).t]) (Ca w 0 1),.str (vx w)]=Y (vD true):=RM (O1 h.w) (by rw[kQ];omega);have s:(v8 w 0 1)[2]?=Y (Me (vx w)):=by
    rcases(by have:=h.w;omega:w=0\/w=1\/w=2) with rfl|rfl|rfl<;>rfl
   cases n with
   |zero=>
    obtain⟨y,e⟩:=OS (inp:=inp) (γ:=γ) (u:=d) (f:=f - 1 - 1) (en:=.none) (r:=oI 2) (zs:=[]) (W:=W++[x]) h true;have c:decide (1=1/\(0≠0\/0=0))=true:=by decide
    rw[c];refine nr (Eb h (by omega) (by omega) (by omega) (by show 2<2+0+1+_;omega) s q e (Gu (OT h _ (k:=999999)))) (Ka h (by omega)) λx=>?_;rw[tj];exact u9 h (by omega) (by omega)
   |succ n=>
    obtain⟨F,e⟩:=OR (inp:=inp) (γ:=γ) (u:=d) (f:=f - 1 - 1) (en:=.none) (r:=oI 2) (zs:=[]) (W:=W++[x]) h (show n<29 by omega) true;obtain⟨y,v⟩:=TL (inp:=inp) (γ:=γ) (u:=d) (f:=f - 1 - 1) h n (zv true) F (999998 - n) (by omega);rw[show 999998 - n+n+2=1000000 by omega] at v;have c:decide (1=1/\(0≠0\/n+1=0))=false:=by simp
    rw[c];refine nr (Eb h (by omega) (by omega) (by omega) (by show 2<2+0+1+_;omega) s q e (Gu v)) (Ka (t:=false) h (by omega)) λx=>?_;rw[show ([]:List (Str×eA))=yv false from rfl,tj];exact u9 h (by omega) (by omega)
 ·have c:decide (g=1/\(b≠0\/n=0))=decide (g=1):=by simp[a]
  rw[c,ag (.inr a),ai a,show 2+1+n*(b+1)=((n*(b+1)+1)+1)+1 by omega];have E:ow w b g 0=.int ((2+b:Nat):Int):=by show (if 0=0 then (if g=0 then (if b=0 then _ else oI (2+b)) else oI (2+b)) else _)=_;rw[ag rfl,ai a];split<;>rfl
  rw[E] at o;refine nr (o _ (Cb h (by omega) _)) (J5 (t:=false) h j p) λx=>?_;rw[wb];have m:∀t:Bool,∀(u:Int) W,Rn w b g inp M t (n*(b+1)+1) (if n=0 then MT w b g inp [] u (f - 1 - 1) .none [.l 5] (oI (cr w b g+1)) (yv t) W else jt w b g inp γ u (f - 1 - 1) .none (n - 1) (oI 2) (zv t) W):=λt u W=>by
   cases n with
   |zero=>rw[ag rfl,Nat.zero_mul];exact u9 h (by omega) (by omega)
   |succ n=>rw[ai (by omega)];exact RR h a (by omega) n u _ W (by omega) (by omega) (by omega)
  rcases(by omega:g=0\/g=1) with rfl|rfl
  ·exact Ed h a j p (by omega) (i:=2+b) (zq:=false) (by omega) (by show 2+b<2+b+0+_;rw[ai a];omega) (x:="z") (by rcases(by omega:b=1\/b=2) with rfl|rfl<;>rfl) (O0 h.w false) (m false)
  ·exact Ed h a j p (by omega) (i:=2+b) (zq:=false) (by omega) (by show 2+b<2+b+1+_;omega) (x:=vx w) (by rcases(by omega:b=1\/b=2) with rfl|rfl<;>rcases(by have:=h.w;omega:w=0\/w=1\/w=2) with rfl|rfl|rfl<;>rfl) (O1 h.w) (m true)
end
section
variable {w b g:Nat}{u f:Int}{n:Nat}{W:MH}{r:eA}{t:Bool}
def TZ(q:Fr)(l:ee):iO (Y (Mg q)::l)=Y q.2.2.1:=by kernel_rfl
theorem Kb(l:ee):∀a:List Fr,oZ iN iO l (a.map Mg)=Y (a.map (·.2.2.1))
 |[]=>rfl
 |q::a=>by have e:=TZ q l;have b:iN (Y (Mg q)::l)=Y true:=rfl;rw[aB,oZ,b,ae,ag rfl,e,ae,Kb l a];rfl
noncomputable abbrev Xp:ee->Od:=d2 kZ (a6 4) (d2 hU (d2 hU (d2 vC (je (zQ (zX (a6 1) (zI 0)))) (iC lV (zQ (d2 vc (a6 2) (zI 1))))) (d2 vC (je (zQ (zX (a6 1) (zI 1)))) (d2 Ao (a6 2) (zI 2)))) (je (zQ (dC .none))))
noncomputable abbrev RS(c n:Nat):Lp:=oI c::(List.replicate n (.int 1)++[.none])
def Zr(x y:Od):(List.range 9).map (λc=>(List.range 29).map λn=>Xp [x,Y (.tuple [oI c,.int 1]),Y (oI (2+n)),y,Y (.list (RS c n))])=(List.range 9).map λc=>(List.range 29).map λn=>Y (.bool true):=by kernel_rfl
theorem O3:∀n,(Cc w b g γ n).map (·.2.2.1)=oI (cr w b g)::List.replicate n (.int 1)
 |0=>rfl
 |n+1=>by rw[Cc,bt,O3 n,List.replicate_succ'];rfl
def T1:(J4 w b g γ n r zs).map (·.2.2.1)=RS (cr w b g) n:=by rw[J4,bt,O3];rfl
def WO(h:Tx w b g):cr w b g<9:=by obtain⟨d,c,a⟩:=h;show 2+b+g+(if b=0 then 0 else 1)+(if w=0 then 2 else 1)<9;split<;>split<;>omega
def WQ(c n:Nat):(RS c n).all oa=true:=by rw[List.all_cons,List.all_append,bJ.mpr λx a=>by rw[(List.mem_replicate.mp a).2];rfl];rfl
noncomputable abbrev rS(w b g n:Nat)(x y:Option MV):MR:=[Y (.l 0),zd (.tuple [oI (cr w b g),.int 1]),zd (oI (2+n)),x,y]
def T2(h:Tx w b g)(p:n<29):∃x,iT [.l 0,.d (.tuple [oI (cr w b g),.int 1]),.d (oI (2+n))] (jt w b g inp γ u f en n r (zv t) W)=Y (.d (.bool true),jt w b g inp γ u f en n r (zv t) (W++[x])):=by
 refine⟨.lst ((J4 w b g γ n r (zv t)).map qh),?_⟩;rw[<-wb];generalize a:jt w b g inp γ u f en n r (zv t) W=μ;have k:=Gx (inp:=inp) (γ:=γ) (u:=u) (f:=f) (en:=en) (r:=r) (t:=t) (W:=W) h p;rw[a] at k;have j:oB "Machine" "calls" μ (.l 0)=true:=by rw[<-a];exact WL
 have m:=B9 (μ:=μ) (J4 w b g γ n r (zv t));have i:(J4 w b g γ n r (zv t)).length=n+2:=by rw[J4,aQ,u7];rfl
 have o:=T1 (w:=w) (b:=b) (g:=g) (γ:=γ) (n:=n) (r:=r) (zs:=zv t);generalize J4 w b g γ n r (zv t)=fs at k m i o;have v:∀c:eA,jh (μ++[.lst (fs.map qh)]) [Y (.l 0),zd c,zd (oI (2+n)),Y (.l μ.length),Z]=[eQ (μ++[.lst (fs.map qh)]) 9 (.l 0),Y c,Y (oI (2+n)),Y (.list (fs.map Mg)),Z]:=λc=>by show [(Y (MV.l 0)).bind _,Y c,Y (oI (2+n)),(Y (MV.l μ.length)).bind (eQ (μ++[.lst (fs.map qh)]) 9),Z]=_;rw[show (Y (MV.l μ.length)).bind (eQ (μ++[.lst (fs.map qh)]) 9)=_ from m];rfl
 have z:fi "Machine" "calls" 1 fN (b5 0) dy (rS w b g n Z Z) μ=Y (.l μ.length,μ++[.lst (fs.map qh)]):=B8 (fQ rfl) j rfl rfl k;have y:fo (fB (d2 rR (zN (a6 3)) (a6 2))) (rS w b g n (Y (.l μ.length)) Z) (μ++[.lst (fs.map qh)])=Y (false,μ++[.lst (fs.map qh)]):=IG (by
  rw[v];generalize eQ (μ++[.lst (fs.map qh)]) 9 (.l 0)=x;have e:(fB (d2 rR (zN (a6 3)) (a6 2))) [x,Y (.tuple [oI (cr w b g),.int 1]),Y (oI (2+n)),Y (.list (fs.map Mg)),Z]=Y (!decide (((fs.map Mg).length:Int)=((2+n:Nat):Int))):=by kernel_rfl
  rw[e,bU (by rw[aF,i];omega)];rfl)
 have s:oP (ir (oJ (a6 3)) [] iN iO) (rS w b g n (Y (.l μ.length)) Z) (μ++[.lst (fs.map qh)])=Y (.d (.list (RS (cr w b g) n)),μ++[.lst (fs.map qh)]):=by
  unfold oP;rw[v];have e:(ir (oJ (a6 3)) [] iN iO) [eQ (μ++[.lst (fs.map qh)]) 9 (.l 0),Y (.tuple [oI (cr w b g),.int 1]),Y (oI (2+n)),Y (.list (fs.map Mg)),Z]=Y (.list (RS (cr w b g) n)):=by unfold ir;show (if (fs.map Mg).length<=sizeLine then (oZ iN iO _ (fs.map Mg)).map eA.list else Z)=_;rw[ag (show (fs.map Mg).length<=sizeLine from (by rw[aF,i];omega:_<=16777216)),Kb,o];rfl
  rw[e,ae];dsimp only;rw[ag (WQ _ _)]
 have q:eV Xp (rS w b g n (Y (.l μ.length)) (zd (.list (RS (cr w b g) n)))) (μ++[.lst (fs.map qh)])=Y (.d (.bool true),μ++[.lst (fs.map qh)]):=by unfold eV;have:Xp (ro (rS w b g n (Y (.l μ.length)) (zd (.list (RS (cr w b g) n)))))=Y (.bool true):=iM (iM (Zr Z Z) (WO h)) p;rw[this];rfl
 have hw:nh (rS w b g n Z Z) μ=Y (.rt (.d (.bool true)) (μ++[.lst (fs.map qh)])):=by unfold nh;refine(gA (ρ':=(rS w b g n (Y (.l μ.length)) Z)) (nq z)).trans ?_;refine(gA (kH y)).trans ?_;refine(gA (ρ':=(rS w b g n (Y (.l μ.length)) (zd (.list (RS (cr w b g) n))))) (nq s)).trans ?_;unfold jE;show ((eV Xp _ _).map _)=_;rw[q];rfl
 unfold iT gN;show (nh (rS w b g n Z Z) _).bind _=_;rw[hw];rfl
end
noncomputable abbrev va(a:List Int):eA:=.list (a.map .int)
def T3(a:Lp)(i:Int):(fB (d2 Ro (a6 1) (zN (a6 0)))) [Y (.list a),Y (.int i)]=Y (decide (i<(a.length:Int))):=by kernel_rfl
def Ee(a:List Int)(i:Nat):i0 [va a,.int (i:Int)]=Y (.int (a.getD i 0)):=by
 have t:=T3 (a.map .int) (i:Int);rw[aF] at t;unfold i0 iQ;show (oS [Y (va a),Y (zi i)]).bind _=_;unfold oS eY jS;rw[t];by_cases h:i<a.length
 ·rw[bU (by omega)];have:(zX (a6 0) (a6 1)) [Y (va a),Y (zi i)]=Y (.int (a.getD i 0)):=by
   show (rj (a.map eA.int) (i:Int))=_;rw[Cv (x:=.int a[i]) (by simp[h])];simp[bN,h]
  show ((fP (zX (a6 0) (a6 1)) [Y (va a),Y (zi i)]).bind _).bind _=_;unfold fP;rw[this];rfl
 ·rw[ba (by omega)];have:a.getD i 0=0:=by simp[bN,bQ (cQ h)]
  rw[this];rfl
noncomputable def yk(a:List Int)(k:Nat):Nat:=(a.getD (2+k) 0 % 10 ^ 9).toNat
noncomputable def tu(a:List Int)(d e:Nat):Lp:=(List.range d).map (λk=>.int (Int.ofNat (yk a k+1)))++List.replicate e (.int 0)
def T4(a:List Int)(k:Nat):nZ [Y (zi k),Y (va a)]=Y (.int (Int.ofNat (yk a k+1))):=by
 have e:=Ee a (2+k);have c:nZ [Y (zi k),Y (va a)]=(d2 hU (zI 1) (d2 wZ (λ_=>i0 [va a,.int (2+(k:Int))]) (d2 P2 (zI 10) (zI 9)))) []:=by kernel_rfl
 rw[c,show (2+(k:Int))=((2+k:Nat):Int) by omega,e];have b:∀z:Int,(d2 hU (zI 1) (d2 wZ (λ_=>Y (.int z)) (d2 P2 (zI 10) (zI 9)))) []=Y (.int (1+z % 10 ^ 9)):=λz=>by kernel_rfl
 rw[b];refine bx (λz=>Y (eA.int z)) ?_;show 1+a.getD (2+k) 0 % 10 ^ 9=(((a.getD (2+k) 0 % 10 ^ 9).toNat+1:Nat):Int)
 have:=Int.emod_nonneg (a.getD (2+k) 0) (show (10 ^ 9:Int)≠0 by decide);omega
theorem Kc(a:List Int):∀l:List Nat,oZ pv nZ [Y (va a)] (l.map λk:Nat=>eA.int (k:Int))=Y (l.map λk=>.int (Int.ofNat (yk a k+1)))
 |[]=>rfl
 |k::l=>by have b:pv [Y (zi k),Y (va a)]=Y true:=rfl;rw[aB,oZ,b,ae,ag rfl,T4,ae,Kc a l];rfl
def Rc(d:Nat):oY 0 d=(List.range d).map λk:Nat=>eA.int (k:Int):=by unfold oY;simp
def Kd{g:eA->eA->Od}{a:ee->Od}{ρ:ee}{x y:eA}{o:Od}(d:fa ρ=Y x)(c:a ρ=Y y)(b:g x y=o):d2 g fa a ρ=o:=by unfold d2;rw[d,ae,c,ae,b]
def RT{q:ee->Od}{ρ:ee}{n:Nat}(h:q ρ=Y (zi n))(b:n<1000):j5 q ρ=Y ((List.range n).map λk:Nat=>eA.int (k:Int)):=by
 unfold j5;rw[h,ae];have a:-(2 ^ 62)<=(n:Int)/\(n:Int)<2 ^ 62:=by constructor<;>omega
 simp only[a,and_self,cx,Int.toNat_natCast,Rc]
def T5(a:List Int){d e:Nat}(t:d<41)(s:e<2)(b:Int)(n:b / 27 % 2=(e:Int))(l:ee)(j i h g f c:Od):(d2 hU (ir (j5 (a6 5)) [(0,"_law_script")] pv nZ) (d2 vC (je (zQ (zI 0))) (d2 wZ (d2 KA (a6 1) (zI 27)) (zI 2)))) (Y (va a)::Y (.int b)::j::i::h::Y (zi d)::g::f::c::l)=Y (.list (tu a d e)):=by
 have r:(ir (j5 (a6 5)) [(0,"_law_script")] pv nZ) (Y (va a)::Y (.int b)::j::i::h::Y (zi d)::g::f::c::l)=Y (.list ((List.range d).map λk=>.int (Int.ofNat (yk a k+1)))):=by
  have q:(j5 (a6 5)) (Y (va a)::Y (.int b)::j::i::h::Y (zi d)::g::f::c::l)=Y ((List.range d).map λk:Nat=>eA.int (k:Int)):=by exact RT rfl (by omega)
  unfold ir;rw[q,ae];rw[ag (show ((List.range d).map λk:Nat=>eA.int (k:Int)).length<=sizeLine from (by simp;omega:_<=16777216))];show (oZ pv nZ [Y (va a)] _).map _=_;rw[Kc];rfl
 have m:(d2 vC (je (zQ (zI 0))) (d2 wZ (d2 KA (a6 1) (zI 27)) (zI 2))) (Y (va a)::Y (.int b)::j::i::h::Y (zi d)::g::f::c::l)=vC (.list [.int 0]) (.int (b / 27 % 2)):=by kernel_rfl
 have p:vC (.list [.int 0]) (zi e)=Y (.list (List.replicate e (.int 0))):=by rcases(by omega:e=0\/e=1) with rfl|rfl<;>kernel_rfl
 have o:hU (.list ((List.range d).map λk=>eA.int (Int.ofNat (yk a k+1)))) (.list (List.replicate e (eA.int 0)))=Y (.list (tu a d e)):=by unfold hU;dsimp only;rw[ag (show _<=sizeLine from (by simp;omega:_<=16777216))];rfl
 rw[n,p] at m;exact Kd r m o
def O4(a:List Int){d e k:Nat}(b:k<d):(tu a d e)[k]?=Y (.int (Int.ofNat (yk a k+1))):=by unfold tu;rw[aE (by simpa using b)];simp[b]
def Rf(a:List Int){d e:Nat}(b:e<2):(tu a d e).length=d\/(tu a d e)[d]?=Y (.int 0):=by
 unfold tu;rcases(by omega:e=0\/e=1) with rfl|rfl
 ·left;simp
 ·right;rw[aI (by simp)];simp
noncomputable def Gy(w b g:Nat):eA:=(k7 [oI w,oI b,.bool (decide (g=1))]).getD .none
def Zs:tx.map (λq=>k7 [oI q.1,oI q.2.1,.bool (decide (q.2.2=1))])=tx.map λq=>Y (Gy q.1 q.2.1 q.2.2):=by kernel_rfl
noncomputable abbrev e7:ee->Od:=ir (oJ (a6 6)) [] F3 F4
noncomputable def n7(w b g:Nat):eA:=(e7 [Z,Z,Z,Z,Z,Z,Y (Gy w b g)]).getD .none
def Zt(f e d c b a:Od)(l:ee):tx.map (λq=>e7 (f::e::d::c::b::a::Y (Gy q.1 q.2.1 q.2.2)::l))=tx.map λq=>Y (n7 q.1 q.2.1 q.2.2):=by kernel_rfl
noncomputable abbrev if7:MS:=nc (fo (p8 (rg (a6 2))))
 (eO (gq (eV (ir (oJ (a6 6)) [] F5 F6)) 7)
 (gq (eV (d2 hU (d2 hU (jL (a6 7) ku (kx (zI (-2)))) (je (zC "func b fa a" f9))) (jL (a6 7) (kx (zI (-2))) ku))) 7))
 jR
noncomputable abbrev L8(w:Nat):eA:=.bool (decide (w≠0))
noncomputable def at7(o:Option Aw):eA:=(o.bind λo=>match o with
 |.nx ρ _=>(ρ[7]?).join.bind sC
 |_=>Z).getD .none
noncomputable def n8(w b g:Nat):eA:=at7 (if7 [Z,Z,zd (L8 w),Z,Z,Z,zd (Gy w b g),zd (n7 w b g)] [])
def Zu(e d c b a:Option MV)(l:MR)(μ:MH):tx.map (λq=>if7 (e::d::zd (L8 q.1)::c::b::a::zd (Gy q.1 q.2.1 q.2.2)::zd (n7 q.1 q.2.1 q.2.2)::l) μ)=tx.map λq=>Y (.nx (e::d::zd (L8 q.1)::c::b::a::zd (Gy q.1 q.2.1 q.2.2)::zd (n8 q.1 q.2.1 q.2.2)::l) μ):=by kernel_rfl
def Zv(g f e d c b a:Od)(l:ee):tx.map (λq=>(jT (fK (d2 Ao (zN (a6 7)) (zI 2)) (zQ (zI 1)))) (g::f::e::d::c::b::a::Y (n8 q.1 q.2.1 q.2.2)::l))=tx.map λq=>Y (.tuple [oI (cr q.1 q.2.1 q.2.2),.int 1]):=by kernel_rfl
noncomputable abbrev mkM:MF:=wF "Machine" 4 nV (bS (eV (k0 1 nW (zQ (KS y7 (zA "\n") (zQ (a6 6)))))) (bS (b5 9) (bS (eV (zI 1000)) dy)))
def Zw(a:Lp)(i h g f e d c b:Option MV)(l:MR):tx.map (λq=>mkM (i::h::g::f::e::d::zd (Gy q.1 q.2.1 q.2.2)::c::b::zd (.list a)::l) [])=tx.map λq=>Y (.l 0,ah q.1 q.2.1 q.2.2 (.list a) 0):=by kernel_rfl
def tm{f:ee->Od}(h:f (ro ρ)=Y d):eV f ρ μ=Y (.d d,μ):=by unfold eV;rw[h];rfl
theorem Ef{g:MS}{P:Nat->MH->Prop}{ρ0:Option MV->MR}{n:Nat}(b:∀m x,BQ (.one 12) m (ρ0 x)=Y (ρ0 (Y m)))(a:∀j μ,j<n->P j μ->∃μ',g (ρ0 (zd (zi j))) μ=Y (.nx (ρ0 (zd (zi j))) μ')/\P (j+1) μ'):∀(k i:Nat) (μ:MH) (x:Option MV),i+k=n->P i μ->∃y μ',sD (BQ (.one 12)) g ((List.range' i k).map λj:Nat=>MV.d (zi j)) (ρ0 x) μ=Y (.nx (ρ0 y) μ')/\P n μ'
 |0,i,μ,x,e,h=>⟨x,μ,rfl,by rw[<-e];exact h⟩
 |k+1,i,μ,x,e,h=>by obtain⟨μ1,o,f⟩:=a i μ (by omega) h;obtain⟨y,μ',l,c⟩:=Ef b a k (i+1) μ1 (zd (zi i)) (by omega) f;refine⟨y,μ',?_,c⟩;rw[List.range'_succ,aB,sD,b,ae,o,ae];exact l
def RU{q:ee->Od}{n:Nat}(h:q (ro ρ)=Y (zi n))(a:n<1000):Fb (j5 q) ρ μ=Y ((List.range' 0 n).map λj:Nat=>MV.d (zi j),μ):=by unfold Fb;rw[RT h a,List.range_eq_range'];simp
section
variable {w b g:Nat}{γ':Nat->MO}{u f:Int}{n:Nat}{W:MH}{r:eA}
def WR(j:Nat):∃(S:Sq) (u f:Int) (en:eA) (st:List MV) (G:MH),ah w b g inp j=H5 S u f en st++G:=by
 match j with
 |0=>exact⟨_,_,_,_,_,_,rfl⟩
 |1=>exact⟨_,_,_,_,_,_,rfl⟩
 |2=>
  by_cases hw:w=0
  ·exact⟨_,_,_,_,_,_,show ah w b g inp 2=H5 (Q 0 b g inp []) 0 998 .none [.l 5]++bL 0 b g (oI (nB b g+2)) [] from ag hw⟩
  ·have:ah w b g inp 2=jt w b g inp (λ_=>.gone) 0 998 .none 0 (oI 0) [] []:=ai hw;rw[this];exact⟨_,_,_,_,_,_,rfl⟩
 |j+3=>exact⟨_,_,_,_,_,_,rfl⟩
theorem RV:∀n,(∀j<n,γ j=γ' j)->Ls w b g γ n=Ls w b g γ' n/\L7 w b g γ n=L7 w b g γ' n
 |0,_=>⟨rfl,rfl⟩
 |n+1,h=>by obtain⟨a,c⟩:=RV n λj d=>h j (by omega);exact⟨by rw[Ls,Ls,a,h n (by omega)],by rw[L7,L7,a,c]⟩
def WS(h:∀j<n,γ j=γ' j):jt w b g inp γ u f en n r zs W=jt w b g inp γ' u f en n r zs W:=by obtain⟨c,a⟩:=RV (w:=w) (b:=b) (g:=g) n h;unfold jt;rw[c,a]
def wc{μ':MH}{c:Bool}(b:∃(S:Sq) (u f:Int) (en:eA) (st:List MV) (G:MH),μ=H5 S u f en st++G)(a:ρ[10]?=Y (Y (.l 0)))(h:eB [.l 0] μ=Y (.d (.bool c),μ')):fi "Machine" "step" 1 eB (b5 10) dy ρ μ=Y (.d (.bool c),μ'):=by obtain⟨S,u,f,en,st,G,rfl⟩:=b;exact TU a h
def Gz:∃(S:Sq) (c d:Int) (a:eA) (st:List MV) (G:MH),jt w b g inp γ u f en n r zs W=H5 S c d a st++G:=⟨_,_,_,_,_,_,rfl⟩
variable {ns:List Int}{d e:Nat}
noncomputable abbrev stE(m:MF):MR->MH->Option (Bool×MH):=qD (jY (rZ 3 iT (bS (b5 10) (bS (b5 8) (bS m dy)))))
def GA{m:MF}(h:Tx w b g)(c:n<29){t:Bool}(j:ρ[8]?=Y (zd (.tuple [oI (cr w b g),.int 1])))(a:ρ[10]?=Y (Y (.l 0)))(i:m ρ (jt w b g inp γ u f en n r (zv t) W)=Y (.d (oI (2+n)),jt w b g inp γ u f en n r (zv t) W)):∃x,stE m ρ (jt w b g inp γ u f en n r (zv t) W)=Y (false,jt w b g inp γ u f en n r (zv t) (W++[x])):=by obtain⟨x,e⟩:=T2 (inp:=inp) (γ:=γ) (u:=u) (f:=f) (en:=en) (r:=r) (t:=t) (W:=W) h c;refine⟨x,?_⟩;unfold stE qD jY rZ;rw[oT (fQ a) (oT (fQ j) (oT i rfl)),ae];show ((iT [.l 0,.d (.tuple [oI (cr w b g),.int 1]),.d (oI (2+n))] (jt w b g inp γ u f en n r (zv t) W)).bind _).map _=_;rw[e];rfl
noncomputable def Pn(w b g:Nat)(inp:eA)(k:Nat)(μ:MH):Prop:=∃γ f,997 - 2*(k:Int)<=f/\μ=jt w b g inp γ (k:Int) f .none k (oI 0) [] []
def WT(h:Tx w b g){k:Nat}(n:k<28)(q:k<d)(o:inp=.list (tu ns d e))(s:ρ[8]?=Y (zd (.tuple [oI (cr w b g),.int 1])))(a:ρ[10]?=Y (Y (.l 0)))(c:(ro ρ)[12]?=Y (Y (zi k)))(r:Pn w b g inp k μ):∃μ',uU ρ μ=Y (.nx ρ μ')/\Pn w b g inp (k+1) μ':=by
 obtain⟨γ,f,B,rfl⟩:=r;have m:eV (d2 hU (zI 2) (a6 12)) ρ (jt w b g inp γ (k:Int) f .none k (oI 0) [] [])=Y (.d (oI (2+k)),jt w b g inp γ (k:Int) f .none k (oI 0) [] []):=by refine tm (Kd (x:=.int 2) (y:=.int (k:Int)) rfl (by unfold a6;rw[c];rfl) ?_);show Y (eA.int (2+(k:Int)))=_;rw[show (2:Int)+(k:Int)=((2+k:Nat):Int) by omega]
 obtain⟨x,z⟩:=GA (t:=false) h (show k<29 by omega) s a m;have p:∀j<k,γ j=(λj=>if j=k then x else γ j) j:=λj A=>by show _=if j=k then x else γ j;rw[ai (by omega)]
 have v:=OO (γ:=λj=>if j=k then x else γ j) (W:=[x]) (zs:=[]) h (show k<30 by omega) (show 0<f by omega) o (O4 ns (e:=e) q);have i:=TC (inp:=inp) (γ:=λj=>if j=k then x else γ j) (u:=(k:Int)+1) h n (show 0<f - 1 by omega);rw[show [(λj=>if j=k then x else γ j) k]=[x] by show [if k=k then x else γ k]=_;rw[ag rfl]] at i;refine⟨_,?_,λj=>if j=k then x else γ j,f - 1 - 1,by omega,rfl⟩;unfold uU;refine(gA (kH z)).trans ?_;show eO _ _ ρ (jt w b g inp γ (k:Int) f .none k (oI 0) [] [x])=_;rw[WS p];refine(gA (qg (wc Gz a v))).trans ?_;rw[show (((k+1:Nat):Int))=(k:Int)+1 by omega];exact qg (wc Gz a i)
def WU(h:Tx w b g)(c:j<if w=0 then 3 else 2)(a:ρ[10]?=Y (Y (.l 0))):uT ρ (ah w b g inp j)=Y (.nx ρ (ah w b g inp (j+1))):=by unfold uT;exact qg (wc (WR j) a (Zn h c))
def T6(h:Tx w b g):Pn w b g inp 0 (ah w b g inp (if w=0 then 3 else 2)):=by
 by_cases hw:w=0
 ·rw[ag hw];exact⟨_,997,by omega,rfl⟩
 ·rw[ai hw];refine⟨λ_=>.gone,998,by omega,?_⟩;unfold ah;rw[ai hw];rfl
def WV(h:Tx w b g)(k:n<29)(p:inp=.list (tu ns n e))(r:e<2)(q:200<=f):∃a c i,i5 [.l 0,.d (.int (2+(n:Int)))] (jt w b g inp γ (n:Int) f .none n (oI 0) [] [])=Y (.d (zi (2+(if g=1\/b≠0 then 1 else 0)+n*(b+if b=0 then 0 else 1):Nat)),MT w b g inp [Ej (decide (g=1/\(b≠0\/n=0)))] a c IM [] .none (yv (decide (g=1/\(b≠0\/n=0)))) i):=by
 have s:=h.b;have R:=TY (γ:=γ) (W:=[]) h k (M:=2+(n:Int)) (by omega) q p (Rf ns r);generalize o:2+(if g=1\/b≠0 then 1 else 0)+n*(b+if b=0 then 0 else 1)=j at R;have m:j<1000:=by have:n*(b+if b=0 then 0 else 1)<=28*3:=Nat.mul_le_mul (by omega) (by split<;>omega);rw[<-o];split<;>omega
 obtain⟨a,c,i,e⟩:=R 0 (999999 - j);refine⟨a,c,i,?_⟩;rw[show 999999 - j+j+1=1000000 by omega] at e;have hw:mh [Y (.l 0),zd (.int (2+(n:Int))),Z] (jt w b g inp γ (n:Int) f .none n (oI 0) [] [])=Y (.rt (.d (.int (0+(j:Int)))) (MT w b g inp [Ej (decide (g=1/\(b≠0\/n=0)))] a c IM [] .none (yv (decide (g=1/\(b≠0\/n=0)))) i)):=by unfold mh;refine(gA (ρ':=[Y (.l 0),zd (.int (2+(n:Int))),zd (.int 0)]) (μ':=jt w b g inp γ (n:Int) f .none n (oI 0) [] []) rfl).trans ?_;refine(gA (show Dg Ux jm _ _=_ from e)).trans ?_;rfl
 unfold i5 gN;show (mh [Y (.l 0),zd (.int (2+(n:Int))),Z] _).bind _=_;rw[hw,Int.zero_add];rfl
end
noncomputable def O5:MS :=
(eO (nc (fo (fB (d2 vc (a6 5) (zI 28))))
(eO (gg (fi "Machine" "step" 1 eB (b5 10) dy))
(eO (nc (qD (jY (rZ 3 iT (bS (b5 10) (bS (b5 8) (bS (eV (zI 30)) dy))))))
(jE (eV (dC (.bool false))))
jR)
(eO (gg (fi "Machine" "step" 1 eB (b5 10) dy))
(jE (Dj (gL (d2 kZ (fV "Machine" "end" 1 g0 (a6 10) f9) (jT (zC "deep" (zQ (zI 1)))))) (Dj (m2 kZ (fi "Machine" "told" 1 gJ (b5 10) dy) (eV (je f9))) (m2 nP (fi "Machine" "step" 1 eB (b5 10) dy) (eV (dC (.bool false))))))))))
jR)
(eO (nc (jY (m2 rR (rZ 2 i5 (bS (b5 10) (bS (eV (d2 hU (zI 2) (a6 5))) dy))) (eV (d2 hU (d2 hU (zI 2) (iC lV (zQ (Qy (a6 4) (d2 vc (a6 3) (zI 0)))))) (d2 ET (a6 5) (d2 hU (a6 3) (iC lV (zQ (d2 vc (a6 3) (zI 0))))))))))
(jE (eV (dC (.bool false))))
jR)
(eO (gq (eV (zA "none")) 14)
(eO (nc (fo (p7 (rg (a6 4)) (GF (fB (d2 vc (a6 3) (zI 0))) (fB (d2 kZ (a6 5) (zI 0))))))
(gq (eV (zA "ka")) 14)
jR)
(jE (Dj (m2 kZ (fi "Machine" "told" 1 gJ (b5 10) dy) (eV (je (zQ (a6 14))))) (gL (d2 kZ (fV "Machine" "end" 1 g0 (a6 10) f9) (jT (zC "given" (zC "none" f9)))))))))))
noncomputable abbrev rL(i:List Int)(j:Int)(w b g d e:Nat)(h f c a:Option MV):MR:=[zd (va i),zd (.int j),zd (L8 w),zd (oI b),zd (.bool (decide (g=1))),zd (oI d),zd (Gy w b g),zd (n8 w b g),zd (.tuple [oI (cr w b g),.int 1]),zd (.list (tu i d e)),Y (.l 0),h,f,c,a]
section
variable {w b g:Nat}{u f:Int}{n:Nat}{W:MH}{ns:List Int}{c0:Int}{d e:Nat}{GB GC GD Mh:Option MV}
def WW{D:eA}(h:eQ μ 9 (.l 0)=Y D)(k j i g f e d c b a:Option MV)(l:MR):jh μ (k::j::i::g::f::e::d::c::b::a::Y (.l 0)::l)=k.bind (eQ μ 9)::j.bind (eQ μ 9)::i.bind (eQ μ 9)::g.bind (eQ μ 9)::f.bind (eQ μ 9)::e.bind (eQ μ 9)::d.bind (eQ μ 9)::c.bind (eQ μ 9)::b.bind (eQ μ 9)::a.bind (eQ μ 9)::Y D::jh μ l:=by show _::_::_::_::_::_::_::_::_::_::(Y (MV.l 0)).bind (eQ μ 9)::_=_;rw[show (Y (MV.l 0)).bind (eQ μ 9)=Y D from h];rfl
def IP{b a:MF}{μ1:MH}{o:Option (MV×MH)}(e:b ρ μ=Y (.d (.bool true),μ1))(c:a ρ μ1=o):Dj b a ρ μ=o:=by unfold Dj;rw[e,ae];exact c
def T7{G:MH}:gJ [.l 0] (H5 (Q w b g inp []) u f en st++G)=Y (.d (.list []),H5 (Q w b g inp []) u f en st++G):=by kernel_rfl
def T8{x:eA}{G:MH}:gJ [.l 0] (H5 (Q w b g inp [x]) u f en st++G)=Y (.d (.list [x]),H5 (Q w b g inp [x]) u f en st++G):=by kernel_rfl
def WX{S:Sq}{G:MH}:oB "Machine" "told" (H5 S u f en st++G) (.l 0)=true:=by kernel_rfl
def WY{S:Sq}{b a:Lp}(n m k j i h g e d c:Od)(l:ee):(d2 kZ (fV "Machine" "end" 1 g0 (a6 10) f9) (jT (zC "deep" (zQ (zI 1))))) (n::m::k::j::i::h::g::e::d::c::Y (OC (S.t u f (.tuple [.str "deep",.int 1]) b a))::l)=Y (.bool true):=by kernel_rfl
def WZ{S:Sq}{b a:Lp}(n m k j i h g e d c:Od)(l:ee):(d2 kZ (fV "Machine" "end" 1 g0 (a6 10) f9) (jT (zC "given" (zC "none" f9)))) (n::m::k::j::i::h::g::e::d::c::Y (OC (S.t u f IM b a))::l)=Y (.bool true):=by kernel_rfl
def W0(d:Nat)(f e c b a:Od)(l:ee):(fB (d2 vc (a6 5) (zI 28))) (f::e::c::b::a::Y (oI d)::l)=Y (decide ((28:Int)<(d:Int))):=by kernel_rfl
noncomputable abbrev sT(w b g:Nat)(a:List Int)(d e:Nat)(γ:Nat->MO)(f:Int)(x:MO):MH:=jt w b g (.list (tu a d e)) γ (((28:Nat):Int)+1) (f - 1 - 1) (.tuple [.str "deep",.int 1]) 28 (oI 1) [] [x]
def L9(h:Tx w b g)(p:28<d)(z:200<=f):∃μ',O5 (rL ns c0 w b g d e GB GC GD Mh) (jt w b g (.list (tu ns d e)) γ ((28:Nat):Int) f .none 28 (oI 0) [] [])=Y (.rt (.d (.bool true)) μ'):=by have y:=OO (inp:=.list (tu ns d e)) (γ:=γ) (W:=[]) (zs:=[]) h (show 28<30 by omega) (show 0<f by omega) rfl (O4 ns (e:=e) p);obtain⟨x,v⟩:=GA (m:=eV (zI 30)) (ρ:=rL ns c0 w b g d e GB GC GD Mh) (inp:=.list (tu ns d e)) (γ:=γ) (u:=((28:Nat):Int)+1) (f:=f - 1) (en:=.none) (r:=oI 1) (W:=[]) (t:=false) h (show 28<29 by omega) rfl rfl rfl;have s:=TF (inp:=.list (tu ns d e)) (γ:=γ) (u:=((28:Nat):Int)+1) (W:=[x]) h (show 0<f - 1 by omega);have q:=TR (inp:=.list (tu ns d e)) (γ:=γ) (u:=((28:Nat):Int)+1) (f:=f - 1 - 1) (n:=28) (W:=[x]) (xs:=[.str "deep",.int 1]) (r:=oI 1) (zs:=[]) h;have o:eQ (sT w b g ns d e γ f x) 9 (.l 0)=_:=IH (k:=7) (iV (zs:=[]) h 2);refine⟨sT w b g ns d e γ f x,?_⟩;unfold O5;refine J0 ?_;have a:fo (fB (d2 vc (a6 5) (zI 28))) (rL ns c0 w b g d e GB GC GD Mh) (jt w b g (.list (tu ns d e)) γ ((28:Nat):Int) f .none 28 (oI 0) [] [])=Y (true,jt w b g (.list (tu ns d e)) γ ((28:Nat):Int) f .none 28 (oI 0) [] []):=IG ((W0 d _ _ _ _ _ _).trans (by rw[bU (by omega)]));refine(qY a).trans ?_;refine(gA (qg (wc Gz rfl y))).trans ?_;refine(gA (kH v)).trans ?_;refine(gA (qg (wc Gz rfl s))).trans ?_;unfold jE;have j:gL (d2 kZ (fV "Machine" "end" 1 g0 (a6 10) f9) (jT (zC "deep" (zQ (zI 1))))) (rL ns c0 w b g d e GB GC GD Mh) (sT w b g ns d e γ f x)=Y (.d (.bool true),sT w b g ns d e γ f x):=RH (by rw[WW o];exact WY _ _ _ _ _ _ _ _ _ _ _) rfl;have i:m2 kZ (fi "Machine" "told" 1 gJ (b5 10) dy) (eV (je f9)) (rL ns c0 w b g d e GB GC GD Mh) (sT w b g ns d e γ f x)=Y (.d (.bool true),sT w b g ns d e γ f x):=B7 (B8 (fQ rfl) WX rfl rfl T7) rfl (zK 0);have c:m2 nP (fi "Machine" "step" 1 eB (b5 10) dy) (eV (dC (.bool false))) (rL ns c0 w b g d e GB GC GD Mh) (sT w b g ns d e γ f x)=Y (.d (.bool true),sT w b g ns d e γ f x):=B7 (wc Gz rfl q) rfl (zK 0);rw[IP j (IP i c)];rfl
end
section
variable {w b g:Nat}{u f:Int}{n:Nat}{W:MH}{ns:List Int}{c0:Int}{d e:Nat}{GB GC GD Mh:Option MV}
noncomputable abbrev Zx:ee->Od:=d2 hU (d2 hU (zI 2) (iC lV (zQ (Qy (a6 4) (d2 vc (a6 3) (zI 0)))))) (d2 ET (a6 5) (d2 hU (a6 3) (iC lV (zQ (d2 vc (a6 3) (zI 0))))))
def Zy(e c a:Od)(l:ee):(List.range 3).map (λb=>(List.range 2).map λg=>(List.range 29).map λd=>Zx (e::c::a::Y (oI b)::Y (.bool (decide (g=1)))::Y (oI d)::l))=(List.range 3).map λb=>(List.range 2).map λg=>(List.range 29).map λd=>Y (oI (2+(if g=1\/b≠0 then 1 else 0)+d*(b+if b=0 then 0 else 1))):=by kernel_rfl
noncomputable abbrev Zz:ee->Option Bool:=p7 (rg (a6 4)) (GF (fB (d2 vc (a6 3) (zI 0))) (fB (d2 kZ (a6 5) (zI 0))))
def ZA(e c a:Od)(l:ee):(List.range 3).map (λb=>(List.range 2).map λg=>(List.range 29).map λd=>Zz (e::c::a::Y (oI b)::Y (.bool (decide (g=1)))::Y (oI d)::l))=(List.range 3).map λb=>(List.range 2).map λg=>(List.range 29).map λd=>Y (decide (g=1/\(b≠0\/d=0))):=by kernel_rfl
def T9(h:Tx w b g)(f:d<29)(e c a:Od)(l:ee):Zx (e::c::a::Y (oI b)::Y (.bool (decide (g=1)))::Y (oI d)::l)=Y (oI (2+(if g=1\/b≠0 then 1 else 0)+d*(b+if b=0 then 0 else 1))):=iM (iM (iM (Zy e c a l) h.b) h.g) f
def Ua(h:Tx w b g)(f:d<29)(e c a:Od)(l:ee):Zz (e::c::a::Y (oI b)::Y (.bool (decide (g=1)))::Y (oI d)::l)=Y (decide (g=1/\(b≠0\/d=0))):=iM (iM (iM (ZA e c a l) h.b) h.g) f
def Ub(i:Int):rR (.int i) (.int i)=Y (.bool false):=by show Y (eA.bool (!decide (i=i)))=_;rw[bU rfl];rfl
noncomputable abbrev mE(w b g:Nat)(a:List Int)(d e:Nat)(t:Bool)(u f:Int)(W:MH):MH:=MT w b g (.list (tu a d e)) [Ej t] u f IM [] .none (yv t) W
noncomputable abbrev sE(w b g:Nat)(a:List Int)(d e:Nat)(γ:Nat->MO)(f:Int):MH:=jt w b g (.list (tu a d e)) γ (d:Int) f .none d (oI 0) [] []
def O6(h:Tx w b g)(j:d<29)(D:e<2)(C:200<=f):∃μ',O5 (rL ns c0 w b g d e GB GC GD Mh) (sE w b g ns d e γ f)=Y (.rt (.d (.bool true)) μ'):=by
 obtain⟨a,c,i,m⟩:=WV (γ:=γ) h j (inp:=.list (tu ns d e)) rfl D C;generalize B:decide (g=1/\(b≠0\/d=0))=t at m;refine⟨mE w b g ns d e t a c i,?_⟩;have o:fo (fB (d2 vc (a6 5) (zI 28))) (rL ns c0 w b g d e GB GC GD Mh) (sE w b g ns d e γ f)=Y (false,sE w b g ns d e γ f):=IG ((W0 d _ _ _ _ _ _).trans (by rw[ba (by omega)]));have n:jY (m2 rR (rZ 2 i5 (bS (b5 10) (bS (eV (d2 hU (zI 2) (a6 5))) dy))) (eV Zx)) (rL ns c0 w b g d e GB GC GD Mh) (sE w b g ns d e γ f)=Y (false,mE w b g ns d e t a c i):=by
  have s:rZ 2 i5 (bS (b5 10) (bS (eV (d2 hU (zI 2) (a6 5))) dy)) (rL ns c0 w b g d e GB GC GD Mh) (sE w b g ns d e γ f)=Y (.d (oI (2+(if g=1\/b≠0 then 1 else 0)+d*(b+if b=0 then 0 else 1))),mE w b g ns d e t a c i):=by have z:eV (d2 hU (zI 2) (a6 5)) (rL ns c0 w b g d e GB GC GD Mh) (sE w b g ns d e γ f)=Y (.d (.int (2+(d:Int))),sE w b g ns d e γ f):=tm (Kd (x:=.int 2) (y:=oI d) rfl rfl rfl);unfold rZ;rw[oT (v:=.l 0) (fQ rfl) (oT z rfl),ae];exact m
  unfold jY;rw[B7 s (tm (T9 h j _ _ _ _)) (Ub _)];rfl
 have A:=OY (RQ (inp:=.list (tu ns d e)) (u:=a) (f:=c) (en:=IM) (r:=.none) (t:=t) (W:=i) (tl:=[Ej t]) h);unfold O5;refine(gA (kH o)).trans ?_;refine(gA (kH n)).trans ?_;refine(gA (ρ':=rL ns c0 w b g d e GB GC GD (zd (.str "none"))) (μ':=mE w b g ns d e t a c i) rfl).trans ?_;have k:fo Zz (rL ns c0 w b g d e GB GC GD (zd (.str "none"))) (mE w b g ns d e t a c i)=Y (t,mE w b g ns d e t a c i):=IG ((Ua h j _ _ _ _).trans (by rw[B]));refine(gA (ρ':=rL ns c0 w b g d e GB GC GD (zd (Ej t))) (μ':=mE w b g ns d e t a c i) ?_).trans ?_
 ·cases t with
  |true=>exact(qY k).trans rfl
  |false=>exact(kH k).trans rfl
 have q:m2 kZ (fi "Machine" "told" 1 gJ (b5 10) dy) (eV (je (zQ (a6 14)))) (rL ns c0 w b g d e GB GC GD (zd (Ej t))) (mE w b g ns d e t a c i)=Y (.d (.bool true),mE w b g ns d e t a c i):=by unfold mE;rw[q0];exact B7 (y:=.list [Ej t]) (B8 (fQ rfl) WX rfl rfl T8) (tm rfl) (by cases t<;>kernel_rfl)
 have p:gL (d2 kZ (fV "Machine" "end" 1 g0 (a6 10) f9) (jT (zC "given" (zC "none" f9)))) (rL ns c0 w b g d e GB GC GD (zd (Ej t))) (mE w b g ns d e t a c i)=Y (.d (.bool true),mE w b g ns d e t a c i):=RH (by rw[WW A];exact WZ _ _ _ _ _ _ _ _ _ _ _) rfl;unfold jE;rw[IP q p];rfl
end
section
variable {w b g:Nat}{ns:List Int}{c0:Int}{d e:Nat}
noncomputable abbrev aD(w:Nat):Option MV:=zd (oI (if w=0 then 3 else 2))
noncomputable abbrev r5(a:List Int)(c:Int)(w b g d:Nat)(i h f e:Option MV):MR:=[zd (va a),zd (.int c),zd (L8 w),zd (oI b),zd (.bool (decide (g=1))),zd (oI d),i,h,f,e,Z,Z,Z,Z,Z]
def Uc(h:Tx w b g)(I:ns.getD 0 0=c0)(hw:c0 % 3=(w:Int))(J:c0 / 3 % 3=(b:Int))(E:decide (0<c0 / 9 % 3)=decide (g=1))(H:ns.getD 1 0 % 41=(d:Int))(G:c0 / 27 % 2=(e:Int))(p:d<41)(a:e<2):F7 [va ns]=Y (.bool true):=by
 have K:F7 [va ns]=(JO (zd (va ns)::List.replicate 14 Z) []).bind λo=>match o with
   |.rt v μ'=>eQ μ' 9 v
   |.nx _ _=>Y .none
   |_=>Z:=rfl
 suffices l:∃μ',JO (zd (va ns)::List.replicate 14 Z) []=Y (.rt (.d (.bool true)) μ') by obtain⟨μ',l⟩:=l;rw[K,l];rfl
 have u:=T5 ns p a c0 G [Z,Z,Z,Z,Z,Z] (Y (L8 w)) (Y (oI b)) (Y (.bool (decide (g=1)))) (Y (Gy w b g)) (Y (n8 w b g)) (Y (.tuple [oI (cr w b g),.int 1]));have B:[Y (va ns),Y (.int c0),Y (L8 w),Y (oI b),Y (.bool (decide (g=1))),Y (zi d),Y (Gy w b g),Y (n8 w b g),Y (.tuple [oI (cr w b g),.int 1]),Z,Z,Z,Z,Z,Z]=ro (r5 ns c0 w b g d (zd (Gy w b g)) (zd (n8 w b g)) (zd (.tuple [oI (cr w b g),.int 1])) Z):=rfl;rw[B] at u;have k:=h.of (Zw (tu ns d e) (zd (va ns)) (zd (.int c0)) (zd (L8 w)) (zd (oI b)) (zd (.bool (decide (g=1)))) (zd (oI d)) (zd (n8 w b g)) (zd (.tuple [oI (cr w b g),.int 1])) [Z,Z,Z,Z,Z]);have i:(d2 hU (zI 2) (iC lV (zQ (ND (a6 2))))) (ro (rL ns c0 w b g d e Z Z Z Z))=Y (oI (if w=0 then 3 else 2)):=by rcases(by have:=h.w;omega:w=0\/w=1\/w=2) with rfl|rfl|rfl<;>kernel_rfl
 obtain⟨y,μ1,M,D⟩:=Ef (g:=uT) (P:=λj μ=>μ=ah w b g (.list (tu ns d e)) j) (ρ0:=λx=>rL ns c0 w b g d e (aD w) x Z Z) (n:=if w=0 then 3 else 2) (λm x=>by kernel_rfl)
  (λj μ A s=>⟨_,by rw[s];exact WU h A rfl,rfl⟩) (if w=0 then 3 else 2) 0 (ah w b g (.list (tu ns d e)) 0) Z (by omega) rfl
 have r:Pn w b g (.list (tu ns d e)) 0 μ1:=by rw[D];exact T6 h
 obtain⟨z,μ2,L,C⟩:=Ef (g:=uU) (P:=Pn w b g (.list (tu ns d e))) (ρ0:=λx=>rL ns c0 w b g d e (aD w) x (zd (oI (min d 28))) Z) (n:=min d 28) (λm x=>by kernel_rfl)
  (λj μ A s=>WT h (show j<28 by omega) (show j<d by omega) rfl rfl rfl rfl s) (min d 28) 0 μ1 y (by omega) r
 obtain⟨γ,f,N,rfl⟩:=C;have c:(iC P7 (fK (a6 5) (zQ (zI 28)))) (ro (rL ns c0 w b g d e (aD w) y Z Z))=Y (oI (min d 28)):=by
  have:(iC P7 (fK (a6 5) (zQ (zI 28)))) (ro (rL ns c0 w b g d e (aD w) y Z Z))=Y (.int (if (28:Int)<(d:Int) then 28 else (d:Int))):=by kernel_rfl
  rw[this];refine bx (λz=>Y (eA.int z)) ?_;split<;>omega
 have q:∃μ',O5 (rL ns c0 w b g d e (aD w) z (zd (oI (min d 28))) Z) (jt w b g (.list (tu ns d e)) γ ((min d 28:Nat):Int) f .none (min d 28) (oI 0) [] [])=Y (.rt (.d (.bool true)) μ'):=by
  by_cases t:28<d
  ·rw[show min d 28=28 by omega];exact L9 h t (by omega)
  ·rw[show min d 28=d by omega];exact O6 h (by omega) a (by omega)
 obtain⟨μ',q⟩:=q;refine⟨μ',?_⟩;unfold JO;refine(gA (ρ':=zd (va ns)::zd (.int c0)::List.replicate 13 Z) (nq (tm ?_))).trans ?_
 ·rw[<-I];exact Ee ns 0
 refine(gA (ρ':=zd (va ns)::zd (.int c0)::zd (L8 w)::List.replicate 12 Z) (nq (tm ?_))).trans ?_
 ·refine Eq.trans (b:=Y (.bool (decide (0<c0 % 3)))) (zK 0) ?_;rw[hw];refine bx (λz=>Y (eA.bool z)) ?_;rw[decide_eq_decide];omega
 refine(gA (ρ':=zd (va ns)::zd (.int c0)::zd (L8 w)::zd (oI b)::List.replicate 11 Z) (nq (tm ?_))).trans ?_
 ·exact Eq.trans (b:=Y (.int (c0 / 3 % 3))) (zK 0) (by rw[J])
 refine(gA (ρ':=zd (va ns)::zd (.int c0)::zd (L8 w)::zd (oI b)::zd (.bool (decide (g=1)))::List.replicate 10 Z) (nq (tm ?_))).trans ?_
 ·exact Eq.trans (b:=Y (.bool (decide (0<c0 / 9 % 3)))) (zK 0) (by rw[E])
 refine(gA (ρ':=r5 ns c0 w b g d Z Z Z Z) (nq (tm ?_))).trans ?_
 ·refine Kd (x:=.int (ns.getD 1 0)) (y:=.int 41) (Ee ns 1) rfl ?_;exact Eq.trans (b:=Y (.int (ns.getD 1 0 % 41))) (zK 0) (by rw[H])
 refine(gA (ρ':=r5 ns c0 w b g d (zd (Gy w b g)) Z Z Z) (nq (tm ?_))).trans ?_
 ·refine Eq.trans (b:=k7 [.int (c0 % 3),oI b,.bool (decide (g=1))]) (by generalize k7=F;kernel_rfl) ?_;rw[hw];exact h.of Zs
 refine(gA (ρ':=r5 ns c0 w b g d (zd (Gy w b g)) (zd (n7 w b g)) Z Z) (nq (tm (h.of (Zt (Y (va ns)) (Y (.int c0)) (Y (L8 w)) (Y (oI b)) (Y (.bool (decide (g=1)))) (Y (oI d)) _))))).trans ?_;refine(gA (ρ':=r5 ns c0 w b g d (zd (Gy w b g)) (zd (n8 w b g)) Z Z) (h.of (Zu (zd (va ns)) (zd (.int c0)) (zd (oI b)) (zd (.bool (decide (g=1)))) (zd (oI d)) [Z,Z,Z,Z,Z,Z,Z] []))).trans ?_;refine(gA (ρ':=r5 ns c0 w b g d (zd (Gy w b g)) (zd (n8 w b g)) (zd (.tuple [oI (cr w b g),.int 1])) Z) (nq (tm (h.of (Zv (Y (va ns)) (Y (.int c0)) (Y (L8 w)) (Y (oI b)) (Y (.bool (decide (g=1)))) (Y (oI d)) (Y (Gy w b g)) _))))).trans ?_;refine(gA (ρ':=r5 ns c0 w b g d (zd (Gy w b g)) (zd (n8 w b g)) (zd (.tuple [oI (cr w b g),.int 1])) (zd (.list (tu ns d e)))) (nq (tm u))).trans ?_;refine(gA (ρ':=rL ns c0 w b g d e Z Z Z Z) (nq k)).trans ?_;refine(gA (ρ':=rL ns c0 w b g d e (aD w) Z Z Z) (nq (tm i))).trans ?_;refine(gA (ρ':=rL ns c0 w b g d e (aD w) y Z Z) (μ':=μ1) ?_).trans ?_
 ·unfold ud;rw[RU (n:=if w=0 then 3 else 2) rfl (by split<;>omega),ae];exact M
 refine(gA (ρ':=rL ns c0 w b g d e (aD w) y (zd (oI (min d 28))) Z) (nq (tm c))).trans ?_;refine(gA (ρ':=rL ns c0 w b g d e (aD w) z (zd (oI (min d 28))) Z) (μ':=jt w b g (.list (tu ns d e)) γ ((min d 28:Nat):Int) f .none (min d 28) (oI 0) [] []) ?_).trans ?_
 ·unfold ud;rw[RU (n:=min d 28) rfl (by omega),ae];exact L
 exact q
end
def O7:∀a:List Int,a.length<=63->(∀x∈a,qs x=true)->F7 [.list (a.map .int)]=Y (.bool true):=λa _ _=>by have m:=Int.emod_nonneg (a.getD 0 0) (show (3:Int)≠0 by decide);have l:=Int.emod_lt_of_pos (a.getD 0 0) (show (0:Int)<3 by decide);have k:=Int.emod_nonneg (a.getD 0 0 / 3) (show (3:Int)≠0 by decide);have j:=Int.emod_lt_of_pos (a.getD 0 0 / 3) (show (0:Int)<3 by decide);have i:=Int.emod_nonneg (a.getD 1 0) (show (41:Int)≠0 by decide);have h:=Int.emod_lt_of_pos (a.getD 1 0) (show (0:Int)<41 by decide);have f:=Int.emod_nonneg (a.getD 0 0 / 27) (show (2:Int)≠0 by decide);have c:=Int.emod_lt_of_pos (a.getD 0 0 / 27) (show (0:Int)<2 by decide);refine Uc (w:=(a.getD 0 0 % 3).toNat) (b:=(a.getD 0 0 / 3 % 3).toNat) (g:=if 0<a.getD 0 0 / 9 % 3 then 1 else 0) (d:=(a.getD 1 0 % 41).toNat) (e:=(a.getD 0 0 / 27 % 2).toNat) ⟨by omega,by omega,by split<;>omega⟩ rfl (by omega) (by omega) ?_ (by omega) (by omega) (by omega) (by omega);split<;>simp_all
end K11
namespace PySem.W.Fast
def tw6986961225560457782:=0
def tw8783582781443148011:=0
def tw15691068552713543895:=0
def tw12812378743359154463:=0
def tw15132267437090790207:=0
def tw10224449036006490731:=0
def tw8662396731042887067:=0
def tw4081990609822991451:=0
def tw11276122008842355393:=0
def tw2573733374185145958:=0
def tw2773136662372893441:=0
def tw11581803026736872484:=0
def tw7134456975829347647:=0
def tw17620883453386269658:=0
def tw10557660087029287511:=0
def tw3477967805567943056:=0
def tw5580291453618372725:=0
def tw1552021475258077822:=0
def tw1121443110046421950:=0
def tw13228498597358317377:=0
def tw9783809964356426736:=0
def tw6154448630018554384:=0
def tw11711888856046437311:=0
def tw17108749543770962254:=0
def tw5116798936330688220:=0
def tw12476506395318849605:=0
def tw7481200835881532267:=0
def tw1376163046425539028:=0
def tw17936546566693325860:=0
def tw236428774789839243:=0
def tw17246396279572130299:=0
def tw1902201013170567750:=0
def tw8267558663446057618:=0
def tw7040314554882983370:=0
def tw6693786203549184026:=0
def tw12564403547272788272:=0
def tw15443268043480978211:=0
def tw9116879231983090178:=0
def tw12930107958979417465:=0
def tw12958778428523571394:=0
def tw2135068361858588886:=0
def tw16416654164785349303:=0
def tw15182877467066067043:=0
def tw17215320843001083740:=0
def tw13680873498195744787:=0
def tw13609906276868878908:=0
def tw12778882445522074349:=0
def tw5231321480181019352:=0
def tw1771635454547399477:=0
def tw10868225346967211200:=0
def tw13998700398437594297:=0
def tw5386357501797200470:=0
def tw3297810250304882303:=0
def tw14443966632503642506:=0
def tw2674493801550780420:=0
def tw11344401014919095058:=0
def tw2091457927160708042:=0
def tw14742842491561181917:=0
def tw9062673394888972933:=0
def tw6932493964807930288:=0
def tw9545361101135745817:=0
def tw14601907450837664824:=0
def tw8655285045023703844:=0
def tw6407681374919046060:=0
def tw10028191992146726136:=0
def tw16689225105107496099:=0
def tw3408215177628354458:=0
def tw12725648510341155823:=0
def tw10691490359183256356:=0
def tw82637770756112590:=0
def tw10947771921808844633:=0
def tw15810965544034692980:=0
def tw4178824160337964571:=0
def tw17274433338956986795:=0
def tw4377636835928660521:=0
def tw12815541589766276220:=0
def tw16049094629932588968:=0
def tw16166135636485597931:=0
def tw4788129710205726684:=0
def tw18231599360641427740:=0
def tw2682432680899185487:=0
def tw15630583900673431805:=0
def tw5092360549009407429:=0
def tw10200512251329186361:=0
def tw10257062748066528219:=0
def tw13695662879564608078:=0
def tw10990723278604287603:=0
def tw8893538190294289607:=0
def tw2136151754291616989:=0
def tw7594276057398383912:=0
def tw2450750997275788263:=0
def tw6254341601759513222:=0
def tw1167176872592476566:=0
def tw11292444903981827684:=0
def tw2128982424925032998:=0
def tw11687737861821034161:=0
def tw9233745034976526647:=0
def tw6139794773912183715:=0
def tw1105083675838669316:=0
def tw11228009887148284924:=0
def tw3037267010495089772:=0
def tw16068144318890535081:=0
def tw5894873491029888455:=0
def tw1611455628888426699:=0
def tw15890036328981452252:=0
def tw10472845383162959752:=0
def tw8590620689891381752:=0
def tw2520761634124589268:=0
def tw1524778239260613720:=0
def tw13626601613944275698:=0
def tw2893519266930719821:=0
def tw13398044345844259766:=0
def tw1149685161894039865:=0
def tw3601202472389181941:=0
def tw6460481894664028999:=0
def tw16607013705280733816:=0
def tw15264103397403542860:=0
def tw4252246602254870132:=0
def tw1331678152488872174:=0
def tw4116404651311094643:=0
def tw4678319887583743739:=0
def tw8763936787459313005:=0
def tw17194278831874289025:=0
def tw10486113683456438045:=0
def tw11225126996631976771:=0
def tw2123968492833574688:=0
def tw3051643992206472478:=0
def tw12333491591470965075:=0
def tw3957984540938275626:=0
def tw2602271837971649594:=0
def tw5990001492042112796:=0
def tw18373380181687850275:=0
def tw302944291755616756:=0
def tw15728304883704058939:=0
def tw12183762914898431339:=0
def tw2018969502999307286:=0
def tw9166659641977150808:=0
def tw990782821243911915:=0
def tw11527242635167246632:=0
def tw5337996447756433602:=0
def tw5965151214373932679:=0
def tw11473426732881692758:=0
def tw2917887278918396326:=0
def tw2982264923675882442:=0
def tw14921200757978659233:=0
def tw7774468770265353397:=0
def tw1222498921693285164:=0
def tw8466866527207882587:=0
def tw1436549475061567783:=0
def tw12200243109715075762:=0
def tw13245658148382870990:=0
def tw3425908977026674596:=0
def tw13194732382843811250:=0
def tw3121738955269210812:=0
def tw12345050356927423060:=0
def tw17872158203457069325:=0
def tw9303933210493490299:=0
def tw5196170266461537795:=0
def tw11514656965737750977:=0
def tw7085056845910022477:=0
def tw12917422069863611965:=0
def tw15085064594069255134:=0
def tw16296638983645625195:=0
def tw7592446219382376017:=0
def tw3996878140995785434:=0
def tw2959789227559755061:=0
def tw157280853979995227:=0
def tw13622291995106581844:=0
def tw5239134243163295980:=0
def tw777473490866920359:=0
def tw6745542152425027601:=0
def tw12171006639975491990:=0
def tw897400230652843287:=0
def tw10482534366757249780:=0
def tw4948025682439831667:=0
def tw14560634399570799892:=0
def tw5710528825307690941:=0
def tw2656882232020490740:=0
def tw398129418548861236:=0
def tw7528963678201952648:=0
def tw531439237493916399:=0
def tw10522192160758997584:=0
def tw335012080013464300:=0
def tw8046763901896344938:=0
def tw12767106236412132975:=0
def tw6670894710941987095:=0
def tw4380917981602128852:=0
def tw12147325317684827326:=0
def tw2235123960313791771:=0
def tw7676016826113775259:=0
def tw15441815958751473401:=0
def tw14599683412260432471:=0
def tw13002950982835535325:=0
def tw4623263446979658523:=0
def tw7295302163409082236:=0
def tw15320641476893548315:=0
def tw4706011937640003759:=0
def tw10664182912868021534:=0
def tw13542705102715262521:=0
def tw759827964074869204:=0
def tw12166866384384173716:=0
def tw783552902138321090:=0
def tw10151797022050783103:=0
def tw16540376655264482591:=0
def tw2200275894685403510:=0
def tw4982610786205392657:=0
def tw7069460632180392632:=0
def tw9732416070669475062:=0
def tw6020048144786742774:=0
def tw6269591481365197427:=0
def tw11510036837596713098:=0
def tw7556752931666996014:=0
def tw9372915504282234921:=0
def tw7752988518225531664:=0
def tw13029949944794594468:=0
def tw1628110745144083943:=0
def tw17907399476580787153:=0
def tw3813256498006216648:=0
def tw763448451699110358:=0
def tw16888102206964312681:=0
def tw16006225198231723631:=0
def tw8927613713928527016:=0
def tw15115685130912590467:=0
def tw8769355208991669128:=0
def tw15045353358127910867:=0
def tw5715636549757904647:=0
def tw6908871044792633319:=0
def tw10129230876161834940:=0
def tw8562098033598547744:=0
def tw14945575137626654596:=0
def tw7254165710691549728:=0
def tw7974424291702292305:=0
def tw492739483325843991:=0
def tw10870397824244426018:=0
def tw17875184344664321023:=0
def tw3960059673143507573:=0
def tw8757297569007198124:=0
def tw2123027867782620347:=0
def tw14306647705701132855:=0
def tw4263325033206758049:=0
def tw12912990338158948040:=0
def tw4170888546598770050:=0
def tw16062386668688621660:=0
def tw13965593448480798343:=0
def tw13504017323475294747:=0
def tw3879467191441539953:=0
def tw2254295771610925304:=0
def tw15918507145248564635:=0
def tw12511706218363163759:=0
def tw8796115260137933700:=0
def tw3146834917780707601:=0
def tw16442867566346417937:=0
def tw17491027042886059765:=0
def tw13283380004810119452:=0
def tw13220551969788393130:=0
def tw345508774315970009:=0
def tw2473119521881659810:=0
def tw7419129432838788182:=0
def tw17973948080319120816:=0
def tw5070770042959953245:=0
def tw6493131958058474699:=0
def tw8165622041705000478:=0
def tw17575654998722581205:=0
def tw14497720196040727626:=0
def tw376780510938027734:=0
def tw177631177951148848:=0
def tw2291105778311309989:=0
def tw12412145721573090767:=0
def tw6444656778303246649:=0
def tw16134905613570491729:=0
def tw10166258419253939983:=0
def tw10296013615323555699:=0
def tw18184474998421585269:=0
def tw1286483099869855929:=0
def tw12571567898005840434:=0
def tw14270554520902193880:=0
def tw2287174373434856637:=0
def tw14981819218413826572:=0
def tw10594362600539300234:=0
def tw8673661831105372127:=0
def tw3014065574548243382:=0
def tw3400632506076337012:=0
def tw5098445449112442710:=0
def tw16597918549184065150:=0
def tw18224509625314969246:=0
def tw8442978705443727325:=0
def tw1246692741097291250:=0
def tw5224101862609736085:=0
def tw16333850043435321061:=0
def tw4530778194985429600:=0
def tw16341379443953511927:=0
def tw4614422903051230966:=0
def tw15452905322385670516:=0
def tw16626149482765701604:=0
def tw9405375631733705543:=0
def tw10541512262500840303:=0
def tw13657380068945831553:=0
def tw18088267317207630279:=0
def tw1015678471270442020:=0
def tw17975562187530622477:=0
def tw13094952102412607739:=0
def tw10036236033048183879:=0
def tw602544412517203582:=0
def tw4853650406223907872:=0
def tw5995679409738165389:=0
def tw15604266018826348610:=0
def tw8315251656437241722:=0
def tw10291413177659734009:=0
def tw10518658371772605292:=0
def tw6528321757052121496:=0
def tw8614242821083716106:=0
def tw12456927005061828500:=0
def tw11281797815367968911:=0
def tw6818779310280474602:=0
def tw2869116826935623925:=0
def tw3378834784527949333:=0
def tw10513660893656679008:=0
def tw11694557537031003914:=0
def tw15446044340117299397:=0
def tw11757196204986898760:=0
def tw10360996664101731278:=0
def tw12180231409209554030:=0
def tw9907306794740686228:=0
def tw18115396528634669193:=0
def tw9980385766434864345:=0
def tw3127096307562632317:=0
def tw6843136956568384238:=0
def tw2865994775185497584:=0
def tw8251166988088243294:=0
def tw17340660244365078180:=0
def tw3855745414453728971:=0
def tw16664106347302087569:=0
def tw14812907235528389849:=0
def tw4256943501666124585:=0
def tw15842526229665739287:=0
def tw11011612866701870546:=0
def tw3097024206532877686:=0
def tw1334491651640823729:=0
def tw15340132157106596423:=0
def tw8942740847114153603:=0
def tw1732681959845670400:=0
def tw11415306569651776951:=0
def tw2924974799897666149:=0
def tw5667055913954019150:=0
def tw12945398015753607775:=0
def tw16932309006962002929:=0
def tw3088230172035076616:=0
def tw2056685412419091487:=0
def tw4240403928205595427:=0
def tw17797933749636806540:=0
def tw10371229069339566781:=0
def tw7429347126571990319:=0
def tw295666314246786175:=0
def tw13583328040232954091:=0
def tw4115946188661939873:=0
def tw10078566249828874552:=0
def tw7197180115288939382:=0
def tw1174029236152299200:=0
def tw4070536993144315586:=0
def tw15061891738511691862:=0
def tw961586340604317154:=0
def tw10675129139511927737:=0
def tw763460481332750266:=0
def tw17956704100920370363:=0
def tw2753397289183251543:=0
def tw10290540808275232841:=0
def tw6179037585417856856:=0
def tw10400375863514596491:=0
def tw591057544605664588:=0
def tw15059265269137331511:=0
def tw12273996988529224735:=0
def tw8268575557886893541:=0
def tw10237513768735775758:=0
def tw10358118640342560163:=0
def tw2783561450718954086:=0
def tw14457154402421129166:=0
def tw4531765106081195008:=0
def tw4996387650259656172:=0
def tw9886556587095265497:=0
def tw15541650737676927320:=0
def tw189433121608698712:=0
def tw17051911087827222377:=0
def tw17489837380957456196:=0
def tw16694291751393539766:=0
def tw4339206219108289458:=0
def tw7388278688461692023:=0
def tw6915947122590647673:=0
def tw5448694405934648016:=0
def tw16421128235505677840:=0
def tw8850015788398118445:=0
def tw2352746401219485289:=0
def tw1230626022863493425:=0
end PySem.W.Fast
open PySem PySem.W PyProof.Rows
set_option maxHeartbeats 0 in
theorem PySem.Challenge.cw_pointsure_k11_calls_over_holds : PySem.Challenge.rw_pointsure_k11_calls_over.Holds := by
  w_on; o_law; k_head; (case hw => w_witness2)
  k_fill
  refine L2.KG (l := PySem.Challenge.rw_pointsure_k11_calls_over) (n := 63) (k := 11) (x := "_law_script") (f := K11.F7) rfl (by decide) rfl ⟨rfl, by decide, by decide⟩ (fun w h Y => PySem.W.kIn_of Y) ?F K11.O7
  case F =>
    intro w mg fa h KX G hmg
    refine K11.Tn ?zM hmg
    constructor
    all_goals first
   |(refine PySem.W.mg_none_of KX G ?_;first|k_is|decide)
   |(apply L2.VP<;>first|k_is|decide)
   |(apply L2.fnAt KX G<;>first|k_is|decide)
   |(apply L2.YM<;>first|k_is|decide)
   |(apply L2.Tc KX G<;>first|k_is|decide)
   |(apply K11.LZ KX G<;>first|k_is|decide)
   |(apply K11.xQ KX G<;>first|k_is|decide)
   |(apply K11.Gq KX G<;>first|k_is|decide)
   |(apply K11.Af KX G<;>first|k_is|decide)
   |(apply K11.L1 KX G<;>first|k_is|decide)
   |(apply L2.intAt KX G<;>first|k_is|decide)
   |(apply L2.intAt KX G<;>first|k_is|decide)
   |(apply K11.L3 KX G<;>first|k_is|decide)
