import PyProof.Rows.All
import Wide.All
import OpenK.AllK
import Wide.FinOn
import Lean
import PyProof.EqAt
import PyProof.EqKinds
import PyProof.TupleCall
import KE.KRevIter
import KE.KRevSl
import PyProof.AttrMissHeap
import PySem.Challenge.RW_pointsure_k10_faults
noncomputable section
abbrev Od:=Option PySem.PyData
abbrev Lp:=List PySem.PyData
abbrev Lr:=List PySem.Str
abbrev Lw:=List PySem.Value
abbrev Ow:=Option PySem.Value
abbrev Ax:=List (PySem.Addr × PySem.Obj)
abbrev Px:=PySem.Value → PySem.Shared → Prop
abbrev Lx:=List PySem.Expr
abbrev Fg:=PySem.W.Frag
set_option Elab.async false
set_option linter.all false
set_option compiler.extract_closed false
set_option genSizeOfSpec false
set_option maxRecDepth 100000
set_option maxHeartbeats 4000000
def aa:=@Option.map_eq_some_iff
def ab:=@PySem.wpAny_bind
def ae:=@List.forall_mem_cons
def af:=@PySem.Heap.get?_push_of_some
def ag:=@if_pos
def ah:=@List.mem_cons_of_mem
def ai:=@List.map_cons
def aj:=@if_neg
def ak:=@List.mem_append_right
def ao:=@List.mem_cons
def aq:=@PySem.Heap.lt_size
def ar:=@List.size_toArray
def au:=@PySem.wpAny_pure
def av:=@List.getElem?_set_ne
def aw:=@PySem.Heap.get?_push_size
def ax:=@List.length_cons
def ay:=@List.getElem?_map
def az:=@Nat.le_refl
def aA:=@List.getElem?_eq_some_iff
def aB:=@Bool.false_ne_true
def aC:=@Nat.lt_of_lt_of_le
def aD:=@Option.bind_some
def aE:=@List.getElem?_set_self
def aF:=@List.mem_append_left
def aG:=@Nat.ne_of_lt
def aH:=@PySem.PassesOwn.never
def aI:=@True.intro
def aJ:=@List.forall_mem_nil
def aK:=@List.getElem?_append_right
def aL:=@List.length_map
def aM:=@List.append_nil
def aN:=@List.getElem?_eq_getElem
def aO:=@PySem.SeqAt.canLay_of_shaped
def aP:=@List.mem_map
def aQ:=@beq_eq_false_iff_ne
def aR:=@List.mem_append
def aS:=@PySem.Calls.spliced_cons
def aT:=@List.getElem?_append_left
def aU:=@decide_eq_false
def aV:=@List.append_assoc
def aW:=@List.lookup_cons
def aX:=@Nat.lt_irrefl
def aY:=@List.mem_cons_self
def aZ:=@PySem.wpAny_Call_Name_kw
def a0:=@PyProof.Rows.callWith_type1
def a6:=@List.perm_append_comm
def a7:=@Option.some.inj
def a8:=@PySem.Calls.spliced_nil
def a9:=@PySem.Heap.get?_update_other
def ba:=@PyProof.Rows.slot_tuple_getitem
def bc:=@List.nodup_cons
def bf:=@List.cons_append
def bg:=@PySem.wpAny_holding
def bh:=@List.length_append
def bj:=@PySem.wpAny_passesOwn
def bo:=@PySem.Heap.get?_update_self
def bp:=@PySem.F.slot_dict_get
def bq:=@Nat.le_trans
def br:=@List.nodup_append
def bt:=@List.getElem?_replicate
def bu:=@PySem.F.plainAttrs_list
def bw:=@congrArg
def bx:=@PySem.mem_of_lookup
def bz:=@List.any_cons
def bA:=@Or.inr
def bB:=@List.nil_append
def bC:=@List.map_nil
def bD:=@Bool.and_eq_true
def bE:=@PySem.Calls.callWith_builtin
def bF:=@decide_eq_true
def bG:=@List.replicate_succ
def bH:=@List.find?_cons
def bJ:=@List.drop_eq_getElem_cons
def bK:=@PySem.wpAny_mono
def bL:=@List.all_eq_true
def bM:=@Bool.false_eq_true
def bN:=@PySem.lookup_relabel_local
def bO:=@PySem.Around.under_plainId
def bP:=@PySem.F.plainAttrs_dict
def bQ:=@List.getElem?_cons_succ
def bR:=@List.map_append
def bT:=@PySem.wpAny_updateSeq
def bU:=@PySem.F.plain_extend_loop
def bV:=@PySem.F.entry_dict_get
def bW:=@Or.inl
def bX:=@Nat.le_add_right
def bY:=@List.not_mem_nil
def bZ:=@List.mem_filterMap
def b0:=@PySem.tupleKind_room_in1
def b5:=@List.getElem?_eq_none
def b6:=@PySem.codeAny_builtin
def b7:=@PySem.wpAny_truthy_bool
def b8:=@if_true
def b9:=@PySem.Calls.evalArgs_plain
def cb:=@List.flatten_cons
def cf:=@PySem.Paired.length
def cg:=@beq_iff_eq
def cj:=@PySem.call_meets
def ck:=@List.filterMap_cons
def cm:=@Array.length_toList
def cp:=@PySem.wpAny_callSpecial?_slot
def cq:=@PySem.wpAny_field
def cu:=@PySem.wpAny_typeOf
def cv:=@Array.getElem?_eq_none
def cw:=@Option.map_some
def cx:=@PySem.plainId_quiet
def cy:=@List.Perm.append_left
def cz:=@PySem.wpAny_newObj_type
def cA:=@PySem.wpAny_Call_method
def cB:=@Iff.rfl
def cC:=@decide_eq_true_eq
def cD:=@Nat.zero_le
def cE:=@Nat.ne_of_gt
def cF:=@Nat.lt_succ_self
def cG:=@PySem.call_meetsIn
def cH:=@PySem.F.args_tuple_add_2
def cI:=@PySem.wpAny_comprehension_free
def cJ:=@PySem.F.slot_list_extend
def cK:=@PySem.wpAny_execs_nil
def cL:=@PySem.F.entry_tuple_add
def cM:=@PySem.F.args_dict_get_2
def cN:=@List.getElem?_cons_zero
def cO:=@PySem.wpAny_pyNext_list_item
def cP:=@PySem.wpAny_pyIter_list
def cQ:=@PySem.Heap.size_push
def cR:=@PySem.codeAny_mono
def cS:=@PySem.F.slot_tuple_add
def cT:=@PySem.Str.ofString_eq_toList
def cU:=@List.Perm.append_right
def cV:=@Int.toNat_natCast
def cW:=@PySem.wpAny_nextOf_list_item
def cX:=@List.map_map
def cY:=@PySem.Str.length_append
def cZ:=@PySem.wpAny_pyNext_list_end
def c8:=@PySem.F.slot_dict_pop
def c9:=@PySem.F.type_dict_get
def de:=@PySem.builtinLookup_eq_fast
def df:=@PyProof.Rows.callWith_builtin1
def dg:=@PySem.wpAny_call_entry
def dh:=@Nat.le_of_not_lt
def dn:=@List.filter_cons
def dq:=@Array.toList_inj
def dt:=@Bool.or_false
def du:=@List.length_nil
def dv:=@PySem.wpAny_specialOf
def dw:=@List.forIn_cons
def dy:=@PySem.F.slot_zip_next
def dz:=@ne_true_of_eq_false
def dA:=@Array.getElem?_push
def dB:=@Nat.le_of_lt
def dD:=@PySem.Calls.Name_function_global
def dE:=@if_false
def dF:=@PySem.typeIs_str
def dG:=@List.forIn_nil
def dH:=@PySem.F.args_str_split_2
def dJ:=@Option.isNone_iff_eq_none
def dM:=@Option.isSome_map
def dN:=@PySem.F.entry_str_split
def dO:=@List.Pairwise.map
def dP:=@Function.comp_def
def dQ:=@List.flatMap_cons
def dR:=@Bool.beq_comm
def dS:=@List.length_take
def dU:=@PySem.noFill_tuple_add
def dW:=@Nat.min_le_right
def dX:=@PySem.wpAny_getItem_of
def dY:=@List.drop_length
def dZ:=@PySem.F.slot_str_split
def d4:=@or_false
def d5:=@PySem.concat_meets
def d6:=@Nat.lt_trans
def d7:=@Nat.zero_add
def d8:=@List.of_mem_zip
def d9:=@PySem.typeLookup_type
def eh:=@Nat.le_succ
def et:=@List.mem_of_getElem?
def eA:=@PySem.wpAny_seqItems
def eC:=@PySem.wpAny_rule
open Option renaming some→Y
open Option renaming none→Z
open PySem renaming PyData→eD
variable  {x:PySem.Str}{a:PySem.Addr}{o b e c tg:PySem.Expr}{α:Type}{pins:Ax}{s:PySem.Shared}{i n:Nat}{A:PySem.Around}{E:Px}{pos p apos:PySem.Pos}{K:Fg}{st:PySem.Stmt}{es:Lx}{body:List PySem.Stmt}{R:PySem.Result->PySem.Shared->Prop}{mg:PySem.Str->Ow}{fd:PySem.FuncData}{ds:Lp}{kindOf:PySem.Str->Option PySem.NameKind}{scope:PySem.Scope}{d:PySem.PyData}{kvs:List (PySem.PyData×PySem.PyData)}{iS:List (Nat×PySem.Str)}{dp:Bool}{O:List Nat}{F:List (PySem.Str×PySem.PyData)}{rows:List Lr}
local macro_rules
| `(zZ $a) => `(PySem.Str.ofString $a)
| `(zK 0) => `(by kernel_rfl)
| `(zB $s) => `(($s).heap.objs.size)
| `(zg $x) => `(($x == ("__debug__" : PySem.Str)) = false)
| `(zE $e $s $x) => `(PySem.starEach ($e :: $s) ($x).env = (false, PySem.eval $e ($x).env) :: PySem.starEach $s ($x).env)
| `(zy $a $n) => `({ cls := .type "tuple", data := .seq $a $n })
| `(zl $a $n) => `({ cls := .type "list", data := .seq $a $n })
| `(zw $x) => `(PySem.wpAny (PySem.model ($x).prog ($x).w) ($x).A)
| `(zi $i) => `(.int ($i : Int))
namespace L2
open PySem PySem.Spec PyProof.Rows
abbrev Key:=Sum Int Str
def Ba:Key->Value->Bool
 |.inl k,v=>Value.isInt k v
 |.inr x,v=>Value.isStrOf x v
def TJ(w:World):Key->Int
 |.inl k=>hashInt k
 |.inr x=>hashStr w x
def iB:∀{k:Key}{v:Value},Ba k v=true->(∃i t,k=Sum.inl i/\v=Value.int i t)\/(∃x t,k=Sum.inr x/\v=Value.str x t)
 |.inl i,v,h=>by obtain⟨t,e⟩:=Value.isInt_shape (k:=i) (v:=v) h;exact .inl ⟨i,t,rfl,e⟩
 |.inr x,v,h=>by obtain⟨t,e⟩:=Value.isStrOf_shape (x:=x) (v:=v) h;exact .inr ⟨x,t,rfl,e⟩
def Ke(i:Int)(t:Tok):Ba (.inl i) (.int i t)=true:=by simp[Ba,Value.isInt]
def Kf(x:Str)(t:Tok):Ba (.inr x) (.str x t)=true:=by simp[Ba,Value.isStrOf]
def TK(a b:Int):decide ((Sum.inl a:Key)=Sum.inl b)=(a==b):=by
 by_cases e:a=b
 ·subst e;simp
 ·have h:¬ (Sum.inl a:Key)=Sum.inl b:=λq=>e (Sum.inl.inj q);rw[aU h];exact(aQ.mpr e).symm
def TL(a b:Str):decide ((Sum.inr a:Key)=Sum.inr b)=decide (a=b):=by
 by_cases e:a=b
 ·subst e;simp
 ·have h:¬ (Sum.inr a:Key)=Sum.inr b:=λq=>e (Sum.inr.inj q);rw[aU h,aU e]
def TM(a:Int)(b:Str):decide ((Sum.inl a:Key)=Sum.inr b)=false:=aU (λq=>nomatch q)
def TN(a:Str)(b:Int):decide ((Sum.inr a:Key)=Sum.inl b)=false:=aU (λq=>nomatch q)
def fG(c:Program)(w:World):PySem.KeyKind c w Key where
 is:=Ba
 hash:=TJ w
 inj:=λv a b m g=>by
  rcases iB m with ⟨i,t,rfl,rfl⟩ | ⟨x,t,rfl,rfl⟩
  ·rcases iB g with ⟨j,u,rfl,e⟩ | ⟨y,u,rfl,e⟩
   ·injection e with d _;rw[d]
   ·exact nomatch e
  ·rcases iB g with ⟨j,u,rfl,e⟩ | ⟨y,u,rfl,e⟩
   ·exact nomatch e
   ·injection e with d _;rw[d]
 byValue:=λk v h=>by rcases iB h with ⟨i,t,rfl,rfl⟩ | ⟨x,t,rfl,rfl⟩<;>rfl
 pyHash:=λf h=>by
  rcases iB f with ⟨i,t,rfl,rfl⟩ | ⟨x,t,rfl,rfl⟩
  ·exact wpAny_pyHash_int h
  ·exact wpAny_pyHash_str h
 eqBool:=λl f h=>by
  rcases iB l with ⟨i,t,rfl,rfl⟩ | ⟨x,t,rfl,rfl⟩
  ·rcases iB f with ⟨j,u,rfl,rfl⟩ | ⟨y,u,rfl,rfl⟩
   ·rw[TK] at h;exact wpAny_eqBool_int h
   ·rw[TM] at h;exact SeqAt.EqAt.int_str i t y u _ _ _ _ h
  ·rcases iB f with ⟨j,u,rfl,rfl⟩ | ⟨y,u,rfl,rfl⟩
   ·rw[TN] at h;exact SeqAt.EqAt.str_int x t j u _ _ _ _ h
   ·rw[TL] at h;exact wpAny_eqBool_str h
 «strs»:=λk x t v h=>by
  rcases iB h with ⟨i,u,rfl,e⟩ | ⟨y,u,rfl,e⟩
  ·exact nomatch e
  ·injection e with d _;subst d;cases v<;>rfl
def D6(a:Program)(w:World)(i:Int)(t:Tok):(fG a w).is (.inl i) (.int i t)=true:=Ke i t
def mu(a:Program)(w:World)(x:Str)(t:Tok):(fG a w).is (.inr x) (.str x t)=true:=Kf x t
end L2
variable  {xs:List (List L2.Key×PySem.Addr×PySem.Value)}
namespace L2
open PySem PySem.Spec PyProof.Rows
inductive V where
 |k9|bl (b:Bool)|int (i:Int)|str (x:Str)|We (b:Array UInt8)|YS (b:UInt64)|ref (a:Addr)|ty (n:String)
 deriving DecidableEq
def fO:V->Value->Prop
 |.k9,u=>u=Value.none
 |.bl b,u=>u=Value.bool b
 |.int i,u=>∃t,u=Value.int i t
 |.str x,u=>∃t,u=Value.str x t
 |.We b,u=>∃t,u=Value.bytes b t
 |.YS b,u=>∃t,u=Value.float b t
 |.ref a,u=>u=Value.ref a
 |.ty n,u=>u=Value.type n
abbrev fT:List V->List Value->Prop:=Paired fO
theorem fT.length{xs:List V}{a:Lw}(r:fT xs a):xs.length=a.length:=cf r
theorem fT.get:∀{a:List V}{b:Lw}{i:Nat}{x:V},fT a b->a[i]?=Y x->∃u,b[i]?=Y u/\fO x u
 |_,_,_,_,.nil,e=>by simp at e
 |_,_,0,_,.cons r _,e=>by simp at e;subst e;exact⟨_,rfl,r⟩
 |_,_,i+1,x,.cons _ t,e=>by obtain⟨u,d,c⟩:=fT.get (i:=i) (x:=x) t (by simpa using e);exact⟨u,by simpa using d,c⟩
theorem fT.set{x:V}{u:Value}(r:fO x u):∀{a:List V}{b:Lw} (i:Nat),fT a b->fT (a.set i x) (b.set i u)
 |_,_,_,.nil=>.nil
 |_,_,0,.cons _ t=>.cons r t
 |_,_,i+1,.cons q t=>.cons q (fT.set r i t)
theorem fT.append:∀{b a:List V}{d c:Lw},fT b d->fT a c->fT (b++a) (d++c)
 |_,_,_,_,.nil,s=>s
 |_,_,_,_,.cons r t,s=>.cons r (fT.append t s)
theorem fT.take:∀{xs:List V}{a:Lw} (n:Nat),fT xs a->fT (xs.take n) (a.take n)
 |_,_,0,_=>.nil
 |_,_,_+1,.nil=>.nil
 |_,_,n+1,.cons r t=>.cons r (fT.take n t)
theorem fT.drop:∀{a:List V}{b:Lw} (n:Nat),fT a b->fT (a.drop n) (b.drop n)
 |_,_,0,r=>r
 |_,_,_+1,.nil=>.nil
 |_,_,n+1,.cons _ t=>fT.drop n t
def pk:Option V->Ow->Prop
 |some v,Y u=>fO v u
 |none,Z=>True
 |_,_=>False
def KV{κ:Type}:List (κ×V)->List (κ×Value)->Prop:=Paired λ(p:κ×V) (q:κ×Value)=>p.1=q.1/\fO p.2 q.2
noncomputable def kV:Key->V
 |.inl i=>.int i
 |.inr x=>.str x
inductive HO where
 |lst (xs:List V)
 |tup (xs:List V)
 |dK (kvs:List (Key×V))|dT (kvs:List (List Key×V))
 |set (S:Int->Bool) (n:Nat)
 |ins (C dx:Addr) (fs:List (Str×V))
 |own (x:Addr)
 |xd (fs:List (Str×V))
 |met (f x:Addr)
 |Wq (lo hi:Int)
 |tE (o:Obj) (u:HO)
 |PZ (ps:Array Value)
 |ext (φ:Heap->Prop)
abbrev Hp:=Addr->Option HO
def upd(H:Hp)(a:Addr)(o:HO):Hp:=λb=>if b=a then Y o else H b
def eR{H:Hp}{o:HO}:upd H a o a=Y o:=by unfold upd;rw[ag rfl]
def eI{H:Hp}{b:Addr}{o:HO}(h:b≠a):upd H a o b=H b:=by unfold upd;rw[aj h]
def Wr{H:Hp}{b:Addr}{o u:HO}(h:H a=Y o)(c:H b=Y u)(d:o≠u):a≠b:=by intro e;subst e;rw[h] at c;exact d (a7 c)
def gp{H:Hp}{b:Addr}{o:HO}(h:H a=Y o)(h':H b=Z):a≠b:=by intro e;subst e;rw[h] at h';cases h'
section
variable (P:Program) (w:World)
def iR(H:Hp)(h:Heap)(a:Addr):HO->Prop
 |.lst xs=>xs.length<=sizeLine/\∃(b:Lw) (n:Nat),fT xs b/\h.get? a=Y (zl b.toArray n)
 |.tup xs=>xs.length<=sizeLine/\∃b:Lw,fT xs b/\IsTup h a b.toArray
 |.dK kvs=>kvs.length<=sizeLine/\(a==sysModules)=false/\∃d,KV kvs d/\h.DictOf (fG P w) a d
 |.dT kvs=>kvs.length<=sizeLine/\(a==sysModules)=false/\∃xs:List (List Key×Addr×Value),
   Paired (λ(p:List Key×V) (q:List Key×Addr×Value)=>p.1=q.1/\H q.2.1=Y (.tup (p.1.map kV))/\fO p.2 q.2.2) kvs xs /\
   ∃o i j,h.get? a=Y o/\o.ExactDict/\o.data=.dict i j/\i.toList=xs.map (entryOfKey (tupleKind (fG P w)))/\(xs.map (·.1)).Nodup
 |.set S n=>h.SetOf (intKind P w) a S n
 |.ins C dx fs=>H dx=Y (.own a)/\fs.length<=1000/\dx≠a/\h.get? a=Y (W.instObj C dx) /\
   ∃c,h.Ns1 dx c/\(∀f,pk (fs.lookup f) (c f))/\PySem.Within c (fs.map (·.1))
 |.own _=>∃o,h.get? a=Y o
 |.xd fs=>∃c,h.Ns1 a c/\∀f,pk (fs.lookup f) (c f)
 |.Wq lo hi=>∃t u v,h.get? a=Y { cls:=.type "range",data:=.fields #[.int lo t,.int hi u,.int 1 v] }
 |.tE o u=>h.get? a=Y o/\iR H h a u
 |.PZ ps=>h.get? a=Y { cls:=.none,data:=.fields ps }
 |.met f x=>h.get? a=Y (W.methodObj (.ref f) (.ref x))
 |.ext φ=>φ h/\(∃o,h.get? a=Y o)/\∀g e:Heap,φ g->(∀o,g.get? a=Y o->e.get? a=Y o)->φ e
def sF(H:Hp)(h:Heap):Prop:=∀a o,H a=Y o->iR P w H h a o
end
section
variable {P:Program}{w:World}{H H':Hp}{h h':Heap}{o:HO}
theorem iR.lt(x:iR P w H h a o):a<h.objs.size:=by
 cases o with
 |lst c=>obtain⟨_,_,_,_,e⟩:=x;exact aq e
 |tup c=>obtain⟨_,_,_,p⟩:=x;exact p.lt
 |dK b=>obtain⟨_,_,_,_,o,_,_,e,_⟩:=x;exact aq e
 |dT b=>obtain⟨_,_,_,_,o,_,_,e,_⟩:=x;exact aq e
 |set S n=>obtain⟨o,_,_,_,e,_⟩:=x;exact aq e
 |ins C l d=>obtain⟨_,_,_,e,_⟩:=x;exact aq e
 |own y=>obtain⟨_,e⟩:=x;exact aq e
 |xd d=>obtain⟨_,⟨_,_,_,e,_⟩,_⟩:=x;exact aq e
 |Wq j k=>obtain⟨_,_,_,e⟩:=x;exact aq e
 |tE i u=>obtain⟨e,_⟩:=x;exact aq e
 |PZ g=>exact aq (show h.get? a=Y _ from x)
 |met f y=>exact aq (show h.get? a=Y _ from x)
 |ext φ=>obtain⟨_,⟨_,e⟩,_⟩:=x;exact aq e
theorem Paired.TQ{α β:Type}{F G:α->β->Prop}:∀{d:List α}{c:List β},Paired F d c->(∀a b,F a b->G a b)->Paired G d c
 |_,_,.nil,_=>.nil
 |_,_,.cons r t,f=>.cons (f _ _ r) (Paired.TQ t f)
def iR.tF(x:iR P w H h a o) (k:∀b u,(b=a\/H b=Y (.own a))->h.get? b=Y u->h'.get? b=Y u)
  (J:∀b,H b=Y (.own a)->H' b=Y (.own a)) (I:∀b xs,H b=Y (.tup xs)->H' b=Y (.tup xs)):iR P w H' h' a o:=by
 induction o with
 |lst xs=>obtain⟨z,l,n,r,e⟩:=x;exact⟨z,l,n,r,k _ _ (.inl rfl) e⟩
 |tup xs=>obtain⟨z,l,r,g,e,c⟩:=x;exact⟨z,l,r,g,k _ _ (.inl rfl) e,c⟩
 |dK A=>obtain⟨z,y,E,r,g,i,j,e,c⟩:=x;exact⟨z,y,E,r,g,i,j,k _ _ (.inl rfl) e,c⟩
 |dT A=>obtain⟨z,y,xs,r,g,i,j,e,c⟩:=x;exact⟨z,y,xs,Paired.TQ r λp q z=>⟨z.1,I _ _ z.2.1,z.2.2⟩,g,i,j,k _ _ (.inl rfl) e,c⟩
 |set S n=>obtain⟨g,i,j,t,e,c⟩:=x;exact⟨g,i,j,t,k _ _ (.inl rfl) e,c⟩
 |ins C O K=>obtain⟨d,z,F,e,s,⟨m,i,j,L,c⟩,r⟩:=x;exact⟨J _ d,z,F,k _ _ (.inl rfl) e,s,⟨m,i,j,k _ _ (.inr d) L,c⟩,r⟩
 |own y=>obtain⟨g,e⟩:=x;exact⟨g,k _ _ (.inl rfl) e⟩
 |xd K=>obtain⟨s,⟨m,i,j,e,c⟩,r⟩:=x;exact⟨s,⟨m,i,j,k _ _ (.inl rfl) e,c⟩,r⟩
 |Wq M N=>obtain⟨t,u,v,e⟩:=x;exact⟨t,u,v,k _ _ (.inl rfl) e⟩
 |tE g u G=>obtain⟨e,q⟩:=x;exact⟨k _ _ (.inl rfl) e,G q⟩
 |PZ D=>have e:h.get? a=Y { cls:=.none,data:=.fields D }:=x;show h'.get? a=Y { cls:=.none,data:=.fields D };exact k a _ (.inl rfl) e
 |met f y=>have e:h.get? a=Y (W.methodObj (.ref f) (.ref y)):=x;show h'.get? a=Y (W.methodObj (.ref f) (.ref y));exact k a _ (.inl rfl) e
 |ext φ=>obtain⟨p,⟨o,e⟩,B⟩:=x;exact⟨B _ _ p λo q=>k _ _ (.inl rfl) q,⟨o,k _ _ (.inl rfl) e⟩,B⟩
theorem sF.lt(x:sF P w H h)(e:H a=Y o):a<h.objs.size:=(x a o e).lt
def sF.fresh(x:sF P w H h)(e:h.objs.size<=a):H a=Z:=by
 cases q:H a with
 |none=>rfl
 |some u=>exact absurd (aC (x.lt q) e) (aX _)
def sF.kept(x:sF P w H h)(k:∀b u,h.get? b=Y u->h'.get? b=Y u):sF P w H h':=λa o e=>
 (x a o e).tF (λb u _ q=>k b u q) (λ_ q=>q) λ_ _ q=>q
def sF.laid(x:sF P w H h)(k:∀b u,h.get? b=Y u->h'.get? b=Y u)(i:h.objs.size<=a)(d:iR P w (upd H a o) h' a o):sF P w (upd H a o) h':=λb u e=>by
 have f:=x.fresh i;by_cases g:b=a
 ·subst g;rw[eR] at e;cases e;exact d
 ·rw[eI g] at e;exact(x b u e).tF (λc v _ q=>k c v q) (λc q=>by rw[eI (gp q f)];exact q) λc j q=>by rw[eI (gp q f)];exact q
end
def Rd(H:Hp)(a:Addr)(u:HO):Prop:=H a=Y u\/∃o,H a=Y (.tE o u)
def Rd.ok{P:Program}{w:World}{H:Hp}{h:Heap}{u:HO}(r:Rd H a u)(x:sF P w H h):iR P w H h a u:=by
 rcases r with r | ⟨o,r⟩
 ·exact x a u r
 ·obtain⟨_,q⟩:=x a _ r;exact q
def Ws:Option HO->Prop
 |some (.lst _)=>True
 |some (.dK _)=>True
 |some (.dT _)=>True
 |some (.set _ _)=>True
 |some (.ins _ _ _)=>True
 |some (.ext _)=>True
 |_=>False
section
variable {P:Program}{w:World}{H:Hp}{h h':Heap}{x e:Addr}{o':HO}
def sF.write(p:sF P w H h) (i:Ws (H x)) (o:e=x\/H e=Y (.own x)) (k:∀b u,b≠e->h.get? b=Y u->h'.get? b=Y u) (m:∃u,h'.get? e=Y u)
  (l:iR P w (upd H x o') h' x o'):sF P w (upd H x o') h':=λb u q=>by
 have d:∀c y,H c=Y (.own y)->c≠x:=λc y r z=>by subst z;rw[r] at i;exact i
 have f:∀c g,H c=Y (.tup g)->c≠x:=λc g r z=>by subst z;rw[r] at i;exact i
 by_cases j:b=x
 ·subst j;rw[eR] at q;cases q;exact l
 ·rw[eI j] at q;by_cases a:b=e
  ·have n:H b=Y (.own x):=by
    rcases o with z|z
    ·exact absurd (a.trans z) j
    ·rw[a];exact z
   rw[q] at n;cases n;obtain⟨v,s⟩:=m;exact⟨v,by rw[a];exact s⟩
  ·refine(p b u q).tF (λc v hc r=>k c v ?_ r) (λc r=>by rw[eI (d c b r)];exact r) λc g r=>by rw[eI (f c g r)];exact r
   rcases hc with rfl|hc
   ·exact a
   ·rintro rfl;rcases o with z|z
    ·exact d c b hc z
    ·rw[hc] at z;cases z;exact j rfl
end
structure Un (fs ex:List Addr) (H H':Hp) (h h':Heap):Prop where
 keep:∀b o,h.get? b=Y o->H b=Z->b∉fs->b∉ex->h'.get? b=Y o
 slot:∀b o,h.get? b=Y o->H b=Z->b∈fs->b∉ex->∃sl,h'.get? b=Y { o with slots:=sl }
 free:∀b o,h.get? b=Y o->H b=Z->b∉ex->H' b=Z
 there:∀b o,h.get? b=Y o->b∉ex->∃o',h'.get? b=Y o'
 uY:∀b xs,H b=Y (.tup xs)->H' b=Y (.tup xs)
 sI:∀b o u,H b=Y (.tE o u)->H' b=Y (.tE o u)
 wH:∀b ps,H b=Y (.PZ ps)->∃more,H' b=Y (.PZ (ps++more))
section
variable {fs fs' ex ex':List Addr}{H H1 H2:Hp}{h h1 h2 h':Heap}{x e:Addr}{o:HO}
def Un.any(u:Un fs ex H H1 h h1){b:Addr}{a:Obj}(q:h.get? b=Y a)(n:H b=Z)(c:b∉ex):∃e,h1.get? b=Y { a with slots:=e }:=by
 by_cases d:b∈fs
 ·exact u.slot b a q n d c
 ·exact⟨a.slots,u.keep b a q n d c⟩
def Un.kept(k:∀b u,h.get? b=Y u->h'.get? b=Y u):Un fs ex H H h h' :=
 ⟨λb a q _ _ _=>k b a q,λb a q _ _ _=>⟨a.slots,k b a q⟩,λ_ _ _ n _=>n,λb a q _=>⟨a,k b a q⟩,λ_ _ q=>q,λ_ _ _ q=>q,λ_ c q=>⟨#[],by rw[q];simp⟩⟩
def Un.refl:Un fs ex H H h h:=Un.kept λ_ _ q=>q
def Un.laid(k:∀b u,h.get? b=Y u->h'.get? b=Y u)(e:h.objs.size<=a)(c:H a=Z):Un fs ex H (upd H a o) h h' where
 keep:=λb u q _ _ _=>k b u q
 slot:=λb u q _ _ _=>⟨u.slots,k b u q⟩
 free:=λb u q n _=>by rw[eI (aG (aC (aq q) e))];exact n
 there:=λb u q _=>⟨u,k b u q⟩
 uY:=λb d q=>by rw[eI (gp q c)];exact q
 sI:=λb u d q=>by rw[eI (gp q c)];exact q
 wH:=λb f q=>⟨#[],by rw[eI (gp q c),q];simp⟩
def Un.write(c:Ws (H x))(m:e=x\/H e=Y (.own x))(k:∀b u,b≠e->h.get? b=Y u->h'.get? b=Y u)(f:∃u,h'.get? e=Y u):Un fs ex H (upd H x o) h h':=by
 have g:∀b,H b=Z->b≠x:=λb n z=>by subst z;rw[n] at c;exact c
 have i:∀b,H b=Z->b≠e:=λb n z=>by
  subst z;rcases m with r|r
  ·exact g b n r
  ·rw[n] at r;cases r
 have d:∀b u,H b=Y u->¬ Ws (Y u)->b≠x:=λb u q l z=>by subst z;rw[q] at c;exact l c
 refine⟨λb u q n _ _=>k b u (i b n) q,λb u q n _ _=>⟨u.slots,k b u (i b n) q⟩,λb u q n _=>by rw[eI (g b n)];exact n,λb u q _=>?_,
  λb j q=>by rw[eI (d b _ q λz=>z)];exact q,λb u j q=>by rw[eI (d b _ q λz=>z)];exact q,λb p q=>⟨#[],by rw[eI (d b _ q λz=>z),q];simp⟩⟩
 by_cases a:b=e
 ·subst a;exact f
 ·exact⟨u,k b u a q⟩
end
def YT(h:Heap)(H:Hp):List Addr:=(List.range h.objs.size).filter λa=>(H a).isSome
def B9(h:Heap)(H:Hp):Heap:=W.hideAll h (YT h H)
def Kg(h:Heap)(H:Hp):(B9 h H).objs.size=h.objs.size:=W.hideAll_size _ _
def Mn{h:Heap}{H:Hp}{b:Addr}{o:Obj}(e:h.get? b=Y o)(n:H b=Z):(B9 h H).get? b=Y o :=
 W.hideAll_get _ e λa=>by have q:(H b).isSome=true:=(List.mem_filter.mp a).2;rw[n] at q;simp at q
def P0{h:Heap}{H:Hp}{b:Addr}{o:Obj}(e:(B9 h H).get? b=Y o):h.get? b=Y o/\H b=Z:=by
 have a:h.get? b=Y o:=W.of_hideAll (YT h H) e;refine⟨a,?_⟩;cases q:H b with
 |none=>rfl
 |some x=>have c:b∈YT h H:=List.mem_filter.mpr ⟨List.mem_range.mpr (aq a),by simp[q]⟩;have z:(B9 h H).get? b=Z:=W.hideAll_none (YT h H) c;rw[z] at e;cases e
def P1(g h:Heap)(L:Addr):Ax:=(List.range h.objs.size).filterMap λa=>if a=L\/(g.get? a).isSome=true then Z else (h.get? a).map λo=>(a,o)
def rest(g h:Heap)(L d:Addr):Ax:=(P1 g h L).filter λp=>decide (p.1≠d)
end L2
variable  {H G:L2.Hp}{v:L2.V}{vs:List L2.V}{kv:List (L2.Key×L2.V)}{B:List (PySem.Addr×L2.HO)}
namespace L2
open PySem PySem.Spec PyProof.Rows
structure Mod (K:Fg) (mg:Str->Ow) (base:Heap):Prop where
 TR:K.In base
 glob:base.Ns mainGlobals mg
 blt:∃mb,base.Ns builtinsNs mb/\∀x:Str,x≠"__name__"->mb x=bootBuiltins x
 nolimit:base.NoLimit
structure Cx where
 prog:Program
 w:World
 K:Fg
 mg:Str->Ow
 base:Heap
 A:Around
 N:Lr
 s₀:Shared
 H₀:Hp
 env:Env
 outer:List Env
 stack:List Env
 ex:List Addr
 fn:Str->Bool
 calm:Bool
 pn:Ax
 xe:Px
def Gs(l:List Env):List Addr:=l.filterMap (·.frame)
abbrev Cx.fs(X:Cx):List Addr:=Gs X.outer
def Mc(a:Scope)(x:Str):Prop:=a.names.lookup x=Y .local\/a.names.lookup x=Y .cell\/a.names.lookup x=Y .free
def IM(a:Scope)(x:Str):Prop:=a.names.lookup x=Y .local\/a.names.lookup x=Y .cell
def Zz(a:Env)(h:Heap)(m:Str->Ow)(x:Str)(u:Value):Prop :=
 (a.kindOf x=Y .local/\m x=Y u)\/((a.kindOf x=Y .cell\/a.kindOf x=Y .free)/\∃c,a.cells.lookup x=Y c/\h.IsCell c (Y u))
structure Cx.Ok (X:Cx):Prop where
 mod:Mod X.K X.mg X.base
 kind:X.env.scope.kind=.function
 glob:X.env.globals=mainGlobals
 blt:X.env.builtins=builtinsNs
 above:(zB X.s₀)<=X.env.locals
 inj:∀x y c,X.env.cells.lookup x=Y c->X.env.cells.lookup y=Y c->x=y
 has:∀x,(X.env.kindOf x=Y .cell\/X.env.kindOf x=Y .free)->∃c,X.env.cells.lookup x=Y c
 Wt:∀x c,X.fn x=true->X.env.cells.lookup x=Y c->(zB X.s₀)<=c
 hd:X.calm=true->X.A.handled=Z
 frames:X.A.frames=Y X.stack
 Wu:X.stack=X.outer\/(X.stack=X.env::X.outer/\X.env.frame=Y X.env.locals)
 exf:∀b∈X.ex,b≠X.env.locals/\∀x c,X.env.cells.lookup x=Y c->c≠b
 bs:∀b o,X.base.get? b=Y o->X.s₀.heap.get? b=Y o/\X.H₀ b=Z
 SD:X.base.objs.size<=(zB X.s₀)
 Mo:∀b o,X.base.get? b=Y o->b∉X.ex
 Gv:∀b∈X.ex,b∉X.fs
 sJ:X.s₀.heap.FunFrames X.base X.outer
 Mp:∀b∈X.fs,X.H₀ b=Z
structure eT (X:Cx) (pins:Ax) (σ:List (Option V)) (H:Hp) (s:Shared):Prop where
 ok:X.Ok
 os:s.os=X.s₀.os
 bare:AllBare s.gens
 base:Un X.fs X.ex X.H₀ H X.s₀.heap s.heap
 loc:∃m,s.heap.Ns X.env.locals m/\∀(i:Nat) (x:Str) (v:V),X.N[i]?=Y x->σ[i]?=Y (Y v)->Mc X.env.scope x->∃u,fO v u/\Zz X.env s.heap m x u
 cell:∀x c,X.env.cells.lookup x=Y c->∃v,s.heap.IsCell c v
 free:H X.env.locals=Z
 mR:∀x c,X.env.cells.lookup x=Y c->H c=Z
 pin:∀p∈X.pn++pins,s.heap.get? p.1=Y p.2/\H p.1=Z/\p.1≠X.env.locals/\p.1∉X.fs/\∀v,p.2.data≠.cell v
 ir:sF X.prog X.w H s.heap
 len:σ.length=X.N.length
section
variable {X:Cx}{σ:List (Option V)}{H':Hp}{h':Heap}
def Cx.Ok.ZA(a:X.Ok){b:Addr}{o:Obj}(e:X.base.get? b=Y o):b∉X.fs:=λc=>by have:=(a.sJ.mem c).1;rw[e] at this;cases this
theorem eT.bs(I:eT X pins σ H s):∀b o,X.base.get? b=Y o->s.heap.get? b=Y o/\H b=Z:=λb o e=>
 ⟨I.base.keep b o (I.ok.bs b o e).1 (I.ok.bs b o e).2 (I.ok.ZA e) (I.ok.Mo b o e),I.base.free b o (I.ok.bs b o e).1 (I.ok.bs b o e).2 (I.ok.Mo b o e)⟩
def eT.bk(I:eT X pins σ H s):∀b o,X.base.get? b=Y o->s.heap.get? b=Y o:=λb o e=>(I.bs b o e).1
theorem eT.mod(I:eT X pins σ H s):Mod X.K X.mg X.base:=I.ok.mod
def eT.xC(I:eT X pins σ H s):X.K.In s.heap:=I.ok.mod.TR.keeps I.bk
theorem eT.lt(I:eT X pins σ H s):X.env.locals<(zB s):=by obtain⟨_,a,_⟩:=I.loc;exact a.lt
def eT.sz(I:eT X pins σ H s):(zB X.s₀)<=(zB s):=bq I.ok.above (dB I.lt)
def eT.ZC(I:eT X pins σ H s)(h:(zB s)<=a):a∉X.fs:=λc=>by obtain⟨_,o,b,_⟩:=I.ok.sJ.mem c;exact absurd (aC (aq b) (bq I.sz h)) (aX _)
def eT.ZD(I:eT X pins σ H s):∀x c,X.env.cells.lookup x=Y c->c≠X.env.locals:=λx c e z=>by obtain⟨v,o,d,f⟩:=I.cell x c e;obtain⟨m,⟨g,h,i,a,b,_⟩,_⟩:=I.loc;rw[z,a] at d;cases d;rw[b] at f;cases f
theorem eT.sJ(I:eT X pins σ H s):s.heap.FunFrames X.base X.outer:=by
 have d:∀(l:List Env),(∀b∈Gs l,b∈X.fs)->X.s₀.heap.FunFrames X.base l->s.heap.FunFrames X.base l:=by
  intro l;induction l with
  |nil=>intro _ _;trivial
  |cons p r g=>intro f k;obtain⟨m,⟨L,o,a,j,i,n⟩,h⟩:=k;have c:L∈X.fs:=f L (by unfold Gs;rw[ck,a];exact aY);obtain⟨q,e⟩:=I.base.slot L o i (I.ok.Mp L c) c λz=>I.ok.Gv L z c;exact⟨m,⟨L,_,a,j,e,n⟩,g (λb hb=>f b (by unfold Gs;rw[ck,a];exact ah _ hb)) h⟩
 exact d X.outer (λ_ hb=>hb) I.ok.sJ
theorem eT.stack(I:eT X pins σ H s):s.heap.FunFrames X.base X.stack:=by
 rcases I.ok.Wu with e | ⟨e,b⟩
 ·rw[e];exact I.sJ
 ·rw[e];obtain⟨m,a,_⟩:=I.loc;refine .cons (by rw[I.ok.kind];decide) b a ?_ I.sJ;exact Heap.get?_none_of_le (bq I.ok.SD I.ok.above)
def eT.Ca(I:eT X pins σ H s):∀b∈Gs X.stack,b∈X.env.locals::X.fs:=λb a=>by
 rcases I.ok.Wu with e | ⟨e,c⟩
 ·rw[e] at a;exact ah _ a
 ·rw[e] at a;unfold Gs at a;rw[ck,c] at a;exact a
def eT.IP(I:eT X pins σ H s):∀b∈Gs X.stack,H b=Z:=λb hb=>by
 rcases ao.mp (I.Ca b hb) with e|hb
 ·rw[e];exact I.free
 ·obtain⟨_,o,a,_⟩:=I.ok.sJ.mem hb;exact I.base.free b o a (I.ok.Mp b hb) λz=>I.ok.Gv b z hb
def eT.step{g':Array GenState}{t':Nat}{d':Drawn}{ch:List Addr} (I:eT X pins σ H s)
  (j:∀b∈ch,(b∈X.ex\/(zB X.s₀)<=b)/\b≠X.env.locals/\(∀x c,X.env.cells.lookup x=Y c->c≠b)/\∀p∈X.pn++pins,p.1≠b)
  (h:∀b o,b≠X.env.locals->b∉X.fs->b∉ch->s.heap.get? b=Y o->H b=Z->h'.get? b=Y o)
  (B:∀b o,b≠X.env.locals->b∈X.fs->b∉ch->s.heap.get? b=Y o->H b=Z->∃sl,h'.get? b=Y { o with slots:=sl }) (f:∀b o,b∉ch->s.heap.get? b=Y o->H b=Z->H' b=Z)
  (C:∀b o,b∉ch->s.heap.get? b=Y o->∃o',h'.get? b=Y o')
  (F:∀b xs,H b=Y (.tup xs)->H' b=Y (.tup xs)) (K:∀b o u,H b=Y (.tE o u)->H' b=Y (.tE o u)) (G:∀b ps,H b=Y (.PZ ps)->∃more,H' b=Y (.PZ (ps++more)))
  (T:∀m,s.heap.Ns X.env.locals m->h'.Ns X.env.locals m) (N:sF X.prog X.w H' h') (hg:AllBare g'):
  eT X pins σ H' { s with heap:=h',gens:=g',drawn:=d',toks:=t' }:=by
 have J:∀b o,X.s₀.heap.get? b=Y o->b≠X.env.locals:=λb o e=>aG (aC (aq e) I.ok.above);have y:∀b o,X.s₀.heap.get? b=Y o->b∉X.ex->b∉ch:=λb o e a D=>by
  rcases(j b D).1 with z|z
  ·exact a z
  ·exact absurd (aC (aq e) z) (aX _)
 have t:∀x c,X.env.cells.lookup x=Y c->∀v,s.heap.IsCell c v->h'.IsCell c v:=by
  rintro x c e v ⟨o,E,O⟩;have g:c∉ch:=λz=>(j c z).2.2.1 x c e rfl;by_cases S:c∈X.fs
  ·obtain⟨sl,q⟩:=B c o (I.ZD x c e) S g E (I.mR x c e);exact⟨_,q,O⟩
  ·exact⟨o,h c o (I.ZD x c e) S g E (I.mR x c e),O⟩
 refine⟨I.ok,I.os,hg,⟨λb o e n D a=>?_,λb o e n D a=>?_,λb o e n a=>?_,λb o e a=>?_,λb xs e=>F b xs (I.base.uY b xs e),λb o xs e=>K b o xs (I.base.sI b o xs e),λb ps e=>?_⟩,?_,λx c e=>?_,?_,λx c e=>?_,λp R=>?_,N,I.len⟩
 ·exact h b o (J b o e) D (y b o e a) (I.base.keep b o e n D a) (I.base.free b o e n a)
 ·obtain⟨sl,A⟩:=I.base.slot b o e n D a;obtain⟨M,L⟩:=B b _ (J b o e) D (y b o e a) A (I.base.free b o e n a);exact⟨M,L⟩
 ·obtain⟨o',A⟩:=I.base.there b o e a;exact f b o' (y b o e a) A (I.base.free b o e n a)
 ·obtain⟨o',A⟩:=I.base.there b o e a;exact C b o' (y b o e a) A
 ·obtain⟨V,A⟩:=I.base.wH b ps e;obtain⟨U,L⟩:=G b _ A;exact⟨V++U,by rw[L,Array.append_assoc]⟩
 ·obtain⟨m,W,hl⟩:=I.loc;refine⟨m,T m W,λi x v A L e3=>?_⟩;obtain⟨u,r,l⟩:=hl i x v A L e3;refine⟨u,r,?_⟩;rcases l with l | ⟨k,c,e,z⟩
  ·exact .inl l
  ·exact .inr ⟨k,c,e,t x c e _ z⟩
 ·obtain⟨v,z⟩:=I.cell x c e;exact⟨v,t x c e v z⟩
 ·obtain⟨m,⟨o,_,_,E,_⟩,_⟩:=I.loc;exact f _ o (λz=>(j _ z).2.1 rfl) E I.free
 ·obtain⟨v,o,E,O⟩:=I.cell x c e;exact f c o (λz=>(j c z).2.2.1 x c e rfl) E (I.mR x c e)
 ·obtain⟨e,n,Q,P,d⟩:=I.pin p R;have g:p.1∉ch:=λz=>(j p.1 z).2.2.2 p R rfl;exact⟨h p.1 p.2 Q P g e n,f p.1 p.2 g e n,Q,P,d⟩
def eT.un{t':Nat}(I:eT X pins σ H s)(u:Un X.fs [] H H' s.heap h')(c:sF X.prog X.w H' h'):eT X pins σ H' { s with heap:=h',toks:=t' }:=by obtain⟨m,⟨o,p,q,g,r⟩,_⟩:=id I.loc;obtain⟨j,i⟩:=u.any g I.free (by simp);exact I.step (g':=s.gens) (d':=s.drawn) (ch:=[]) (λ_ z=>nomatch z) (λb o _ hb _ e n=>u.keep b o e n hb (by simp)) (λb o _ hb _ e n=>u.slot b o e n hb (by simp)) (λb o _ e n=>u.free b o e n (by simp)) (λb o _ e=>u.there b o e (by simp)) u.uY u.sI u.wH (λl hm=>by obtain⟨k,d,f,a,h⟩:=hm;rw[g] at a;cases a;exact⟨_,d,f,i,h⟩) c I.bare
def eT.call{g':Array GenState}{t':Nat}{d':Drawn}{ch:List Addr} (I:eT X pins σ H s) (u:Un (Gs X.stack) ch H H' s.heap h') (f:sF X.prog X.w H' h') (l:AllBare g')
  (d:∀b∈ch,(b∈X.ex\/(zB X.s₀)<=b)/\b≠X.env.locals/\(∀x c,X.env.cells.lookup x=Y c->c≠b)/\∀p∈X.pn++pins,p.1≠b):
  eT X pins σ H' { s with heap:=h',gens:=g',drawn:=d',toks:=t' }:=by
 obtain⟨m,⟨o,y,A,j,r⟩,_⟩:=id I.loc;obtain⟨q,g⟩:=u.any j I.free λz=>(d _ z).2.1 rfl;exact I.step (ch:=ch) d (λb o g hb hc e n=>u.keep b o e n (λz=>(ao.mp (I.Ca b z)).elim g hb) hc) (λb o _ _ hc e n=>u.any e n hc) (λb o hc e n=>u.free b o e n hc) (λb o hc e=>u.there b o e hc) u.uY u.sI u.wH (λv hm=>by obtain⟨t,h,i,a,k⟩:=hm;rw[j] at a;cases a;exact⟨_,h,i,g,k⟩) f l
def eT.turned{t':Nat}{it:Addr} (I:eT X pins σ H s) (k:∀b o,b≠it->s.heap.get? b=Y o->h'.get? b=Y o) (g:H it=Z) (d:it≠X.env.locals)
  (j:it∈X.ex\/(zB X.s₀)<=it) (i:∀x c,X.env.cells.lookup x=Y c->c≠it) (h:∀p∈X.pn++pins,p.1≠it):eT X pins σ H { s with heap:=h',toks:=t' }:=by
 have a:∀b u,H b=Y u->b≠it:=λb u e z=>by rw[z,g] at e;cases e
 refine I.step (g':=s.gens) (d':=s.drawn) (ch:=[it]) (λb hb=>?_) (λb o _ _ hc e _=>k b o (λz=>hc (by simp[z])) e) (λb o _ _ hc e _=>⟨o.slots,k b o (λz=>hc (by simp[z])) e⟩) (λ_ _ _ _ n=>n)
  (λb o hc e=>⟨o,k b o (λz=>hc (by simp[z])) e⟩) (λ_ _ e=>e) (λ_ _ _ e=>e) (λb ps e=>⟨#[],by rw[e];simp⟩) (λm hm=>?_) (λb u e=>?_) I.bare
 ·have e:b=it:=by simpa using hb
  subst e;exact⟨j,d,i,h⟩
 ·obtain⟨o,l,ep,f,r⟩:=hm;exact⟨o,l,ep,k _ o (Ne.symm d) f,r⟩
 ·refine(I.ir b u e).tF (λc v hc q=>k c v ?_ q) (λ_ q=>q) λ_ _ q=>q;rcases hc with z|z
  ·rw[z];exact a b u e
  ·exact a c _ z
def eT.tok(I:eT X pins σ H s)(t:Nat):eT X pins σ H { s with toks:=t }:=I.un (h':=s.heap) (t':=t) Un.refl I.ir
theorem eT.kept{t':Nat}(I:eT X pins σ H s)(k:∀b u,s.heap.get? b=Y u->h'.get? b=Y u):eT X pins σ H { s with heap:=h',toks:=t' }:=I.un (Un.kept k) (I.ir.kept k)
theorem eT.laid{a:Addr}{o:HO}{t':Nat}(I:eT X pins σ H s)(k:∀b u,s.heap.get? b=Y u->h'.get? b=Y u)(d:(zB s)<=a)(c:iR X.prog X.w (upd H a o) h' a o):
  eT X pins σ (upd H a o) { s with heap:=h',toks:=t' }:=I.un (Un.laid k d (I.ir.fresh d)) (I.ir.laid k d c)
theorem eT.write{x e:Addr}{o:HO}{g:Nat} (I:eT X pins σ H s) (d:Ws (H x)) (f:e=x\/H e=Y (.own x)) (k:∀b u,b≠e->s.heap.get? b=Y u->h'.get? b=Y u) (a:∃u,h'.get? e=Y u)
  (c:iR X.prog X.w (upd H x o) h' x o):eT X pins σ (upd H x o) { s with heap:=h',toks:=g }:=I.un (Un.write d f k a) (I.ir.write d f k a c)
def eT.pS{a:Ax}(I:eT X pins σ H s)(h:∀p∈a,s.heap.get? p.1=Y p.2/\H p.1=Z/\p.1≠X.env.locals/\p.1∉X.fs/\∀v,p.2.data≠.cell v):eT X a σ H s :=
 ⟨I.ok,I.os,I.bare,I.base,I.loc,I.cell,I.free,I.mR,λp b=>(aR.mp b).elim (λz=>I.pin p (aF _ z)) (h p),I.ir,I.len⟩
def D7{N:Lr}(c:N.Nodup){j:Nat}(a:N[i]?=Y x)(b:N[j]?=Y x):i=j:=by obtain⟨g,e⟩:=aA.mp a;obtain⟨f,d⟩:=aA.mp b;exact(List.getElem_inj c).mp (e.trans d.symm)
def Kh{M:Model}{u:Value}{Q:Unit->Shared->Prop} (I:eT X pins σ H s) (hN:X.N.Nodup) (R:X.N[i]?=Y x) (l:IM X.env.scope x) (r:fO v u)
  (h:∀s',eT X pins (σ.set i (Y v)) H s'->(∃a,Heap.SameBut a s.heap s'.heap/\(a=X.env.locals\/X.env.cells.lookup x=Y a))->Q () s') (hf:X.fn x=true\/X.env.scope.names.lookup x=Y .local:=by first|exact .inl rfl|exact .inr rfl|assumption):wpAny M A (storeName X.env x u) Q E s:=by
 obtain⟨m,hn,hl⟩:=id I.loc;have S:(X.env.scope.kind==.class||(X.env.scope.kind==.module&&X.env.locals != X.env.globals))=false:=by rw[I.ok.kind];rfl
 have D:i<σ.length:=by rw[I.len];exact(aA.mp R).1
 have K:=I.ZD;have f:∀{a:Addr}{L:Heap},(∃o,s.heap.get? a=Y o/\H a=Z)->Heap.SameBut a s.heap L->sF X.prog X.w H L:=λ{a L} ha hs b ob e=>by
  obtain⟨_,_,t⟩:=ha;refine(I.ir b ob e).tF (λc U hc q=>(hs.2 c ?_).trans q) (λ_ q=>q) λ_ _ q=>q;rintro rfl;rcases hc with rfl|hc
  ·rw[t] at e;cases e
  ·rw[t] at hc;cases hc
 rcases l with C|C
 ·refine wpAny_storeName_local C hn (λL ZE hs=>?_) S;obtain⟨oL,_,_,ZF,_⟩:=id hn;refine h _ ⟨I.ok,I.os,I.bare,⟨λb o e n J l=>?_,λb o e n J l=>?_,I.base.free,λb o e l=>?_,I.base.uY,I.base.sI,I.base.wH⟩,⟨_,ZE,λj y v' g B e3=>?_⟩,λy c e=>?_,I.free,I.mR,λp hp=>?_,f ⟨oL,ZF,I.free⟩ hs,by simpa using I.len⟩ ⟨_,hs,.inl rfl⟩
  ·exact(hs.2 b (aG (aC (aq e) I.ok.above))).trans (I.base.keep b o e n J l)
  ·obtain⟨sl,g⟩:=I.base.slot b o e n J l;exact⟨sl,(hs.2 b (aG (aC (aq e) I.ok.above))).trans g⟩
  ·obtain⟨o',g⟩:=I.base.there b o e l;exact⟨o',(hs.2 b (aG (aC (aq e) I.ok.above))).trans g⟩
  ·by_cases F:j=i
   ·subst F;rw[R] at g;cases g;rw[aE D] at B;cases B;exact⟨u,r,.inl ⟨C,by simp⟩⟩
   ·rw[av (Ne.symm F)] at B;obtain⟨u',r',q⟩:=hl j y v' g B e3;refine⟨u',r',?_⟩;rcases q with ⟨k,e⟩ | ⟨k,c,e,z⟩
    ·refine .inl ⟨k,?_⟩;have:y≠x:=λe=>F (D7 hN g (e▸R));simp[this,e]
    ·exact .inr ⟨k,c,e,z.sameBut hs (K y c e)⟩
  ·obtain⟨U,z⟩:=I.cell y c e;exact⟨U,z.sameBut hs (K y c e)⟩
  ·obtain⟨e,n,V,nf,d⟩:=I.pin p hp;exact⟨(hs.2 p.1 V).trans e,n,V,nf,d⟩
 ·have G:X.fn x=true:=by
   rcases hf with z|z
   ·exact z
   ·rw[z] at C;cases C
  obtain⟨c,hc⟩:=I.ok.has x (.inl C);obtain⟨U,z⟩:=I.cell x c hc;refine wpAny_storeName_cell I.ok.kind C hc z (λL Wv hs=>?_);obtain⟨oc,P,O⟩:=id z;refine h { s with heap:=L } ⟨I.ok,I.os,I.bare,⟨λb o e n J l=>?_,λb o e n J l=>?_,I.base.free,λb o e l=>?_,I.base.uY,I.base.sI,I.base.wH⟩,⟨m,hn.sameBut hs (Ne.symm (K x c hc)),λj y v' g B e3=>?_⟩,λy W e=>?_,I.free,I.mR,λp hp=>?_,f ⟨oc,P,I.mR x c hc⟩ hs,by simpa using I.len⟩ ⟨c,hs,.inr hc⟩
  ·exact(hs.2 b (aG (aC (aq e) (I.ok.Wt x c G hc)))).trans (I.base.keep b o e n J l)
  ·obtain⟨sl,g⟩:=I.base.slot b o e n J l;exact⟨sl,(hs.2 b (aG (aC (aq e) (I.ok.Wt x c G hc)))).trans g⟩
  ·obtain⟨o',g⟩:=I.base.there b o e l;exact⟨o',(hs.2 b (aG (aC (aq e) (I.ok.Wt x c G hc)))).trans g⟩
  ·by_cases F:j=i
   ·subst F;rw[R] at g;cases g;rw[aE D] at B;cases B;exact⟨u,r,.inr ⟨.inl C,c,hc,Wv⟩⟩
   ·rw[av (Ne.symm F)] at B;obtain⟨u',r',q⟩:=hl j y v' g B e3;refine⟨u',r',?_⟩;rcases q with q | ⟨k,W,e,z'⟩
    ·exact .inl q
    ·refine .inr ⟨k,W,e,z'.sameBut hs ?_⟩;rintro rfl;exact F (D7 hN g (I.ok.inj _ _ _ e hc▸R))
  ·by_cases T:W=c
   ·subst T;exact⟨_,Wv⟩
   ·obtain⟨w2,z2⟩:=I.cell y W e;exact⟨w2,z2.sameBut hs T⟩
  ·obtain⟨e,n,V,nf,d⟩:=I.pin p hp;refine⟨(hs.2 p.1 ?_).trans e,n,V,nf,d⟩;intro q;rw[q,P] at e;have q':oc=p.2:=a7 e;exact d U (by rw[<-q'];exact O)
def xV{M:Model}{u:Value}{Q:Unit->Shared->Prop} (I:eT X pins σ H s) (d:X.N.Nodup) (b:X.N[i]?=Y x) (a:IM X.env.scope x) (r:fO v u)
  (h:∀s',eT X pins (σ.set i (Y v)) H s'->Q () s') (c:X.fn x=true\/X.env.scope.names.lookup x=Y .local:=by first|exact .inl rfl|exact .inr rfl|assumption):wpAny M A (storeName X.env x u) Q E s :=
 Kh I d b a r (λs' e _=>h s' e) c
def eT.Ww{s':Shared}{ch:List Addr} (I:eT X pins σ H s) (g:s'.os=s.os) (u:Un (Gs X.stack) ch H H' s.heap s'.heap) (a:sF X.prog X.w H' s'.heap) (h:AllBare s'.gens)
  (d:∀b∈ch,(b∈X.ex\/(zB X.s₀)<=b)/\b≠X.env.locals/\(∀x c,X.env.cells.lookup x=Y c->c≠b)/\∀p∈X.pn++pins,p.1≠b):eT X pins σ H' s':=by
 obtain⟨h',g',d',t',f⟩:=s';have e:f=s.os:=g;subst e;exact I.call (g':=g') (t':=t') (d':=d') u a h d
end
abbrev XK:=Value->Option Addr->Hp->Prop
abbrev St:=List (Option V)
abbrev VK:=V->Hp->Prop
abbrev TE:=St->Hp->VK->Prop
abbrev TT:=St->Hp->(Bool->Hp->Prop)->Prop
abbrev TA:=St->Hp->(List V->Hp->Prop)->Prop
structure Ah where
 nx:St->Hp->Prop
 rt:VK
 bk:St->Hp->Prop:=λ_ _=>False
 ct:St->Hp->Prop:=λ_ _=>False
abbrev TS:=Ah->St->Hp->Prop
def EP(X:Cx)(a:Ax)(σ:St)(Q:VK)(u:Value)(c:Shared):Prop:=∃v b,eT X a σ b c/\fO v u/\Q v b
def TP(X:Cx)(a:Ax)(σ:St)(Q:Bool->Hp->Prop)(b:Bool)(d:Shared):Prop:=∃c,eT X a σ c d/\Q b c
def AP(X:Cx)(a:Ax)(σ:St)(Q:List V->Hp->Prop)(d:Lw)(e:Shared):Prop:=∃b c,eT X a σ c e/\fT b d/\Q b c
def SP(X:Cx)(a:Ax)(D:Ah)(f:Flow)(c:Shared):Prop :=
 match f with
 |.next=>∃σ' b,eT X a σ' b c/\D.nx σ' b
 |.brk=>∃σ' b,eT X a σ' b c/\D.bk σ' b
 |.cont=>∃σ' b,eT X a σ' b c/\D.ct σ' b
 |.ret u=>∃v σ' b,eT X a σ' b c/\fO v u/\D.rt v b
def PE(X:Cx)(e:Expr)(t:TE):Prop :=
 ∀⦃a:Ax⦄ (s:Shared) (σ:St) (H:Hp) (Q:VK),eT X a σ H s->t σ H Q->(zw X) (eval e X.env) (EP X a σ Q) X.xe s
def PT(X:Cx)(e:Expr)(t:TT):Prop :=
 ∀⦃a:Ax⦄ (s:Shared) (σ:St) (H:Hp) (Q:Bool->Hp->Prop),eT X a σ H s->t σ H Q->(zw X) (isTrue e X.env (eval e X.env)) (TP X a σ Q) X.xe s
def PW(X:Cx)(e:Expr)(t:TT):Prop :=
 ∀⦃a:Sem Value⦄ (pins:Ax) (s:Shared) (σ:St) (H:Hp) (Q:Bool->Hp->Prop),eT X pins σ H s->t σ H Q->(zw X) (isTrue e X.env a) (TP X pins σ Q) X.xe s
def PW.pt{X:Cx}{t:TT}(h:PW X e t):PT X e t:=@h _
def PA(X:Cx)(b:Lx)(t:TA):Prop :=
 ∀⦃a:Pos⦄ (pins:Ax) (s:Shared) (σ:St) (H:Hp) (Q:List V->Hp->Prop),eT X pins σ H s->t σ H Q->(zw X) (spliced (backTo a (starEach b X.env))) (AP X pins σ Q) X.xe s
def PS(X:Cx)(b:Stmt)(t:TS):Prop :=
 ∀⦃a:Ax⦄ (s:Shared) (σ:St) (H:Hp) (D:Ah),eT X a σ H s->t D σ H->(zw X) (exec b X.env) (SP X a D) X.xe s
def vV(X:Cx)(b:List Stmt)(t:TS):Prop :=
 ∀⦃a:Ax⦄ (s:Shared) (σ:St) (H:Hp) (D:Ah),eT X a σ H s->t D σ H->(zw X) (execs b X.env) (SP X a D) X.xe s
def gS{t:Sem α}{Q b:α->Shared->Prop}{M:Model}(h:wpAny M A t Q E s)(c:∀a s,Q a s->b a s):wpAny M A t b E s:=bK h c λ_ _ x=>x
end L2
variable  {X:L2.Cx}{σ:L2.St}
namespace L2
open PySem PySem.Spec PyProof.Rows
section
def ZG(i:Nat):TE:=λσ H Q=>∃v,σ[i]?=Y (Y v)/\Q v H
def tC(v:V):TE:=λ_ H Q=>Q v H
def qx(t:X.N[i]?=Y x)(n:Mc X.env.scope x)(g:zg x:=by decide)(j:(x==("__classdict__":Str))=false:=by decide):PE X (.Name x pos) (ZG i):=by
 intro f s σ H Q I h;obtain⟨v,e,h⟩:=h;obtain⟨m,o,q⟩:=I.loc;obtain⟨u,r,l⟩:=q i x v t e n;have d:EP X f σ Q u s:=⟨v,H,I,r,h⟩
 rcases l with ⟨b,p⟩ | ⟨b,c,k,a⟩
 ·exact wpAny_Name (wpAny_loadName_local I.ok.kind b o p d) g
 ·rcases b with b|b
  ·exact wpAny_Name (wpAny_loadName_cell I.ok.kind b k a d) g
  ·exact wpAny_Name (wpAny_loadName_free I.ok.kind b k a d j) g
def TU{i j pos}:PE X (.Constant (.int i) j pos) (tC (.int i)):=λ_ _ _ H _ I h=>wpAny_Constant_int ⟨.int i,H,I.tok _,⟨_,rfl⟩,h⟩
def Wx{b j pos}:PE X (.Constant (.bool b) j pos) (tC (.bl b)):=λ_ _ _ H _ I h=>Constant_bool ⟨.bl b,H,I,rfl,h⟩
def TV{j pos}:PE X (.Constant .none j pos) (tC .k9):=λ_ _ _ H _ I h=>Constant_none ⟨.k9,H,I,rfl,h⟩
def TX{x j pos}:PE X (.Constant (.str x) j pos) (tC (.str x)):=λ_ _ _ H _ I h=>Calls.Constant_str ⟨.str x,H,I.tok _,⟨_,rfl⟩,h⟩
def Gl(X:Cx)(x:Str):Prop:=X.env.kindOf x=Y .globalImplicit
def oz{u:Value}{Q:Px} (I:eT X pins σ H s) (b:Gl X x) (a:X.mg x=Y u) (h:Q u s)
  (c:zg x:=by decide):(zw X) (eval (.Name x pos) X.env) Q E s :=
 dD I.ok.kind b (Calls.loadGlobal_global (by rw[I.ok.glob];exact I.mod.glob.keeps I.bk) a h) c
def o6{u:Value}{Q:Px} (I:eT X pins σ H s) (d:Gl X x) (c:X.mg x=Z) (a:bootBuiltins x=Y u) (h:Q u s)
  (b:x≠"__name__":=by decide) (e:zg x:=by decide):(zw X) (eval (.Name x pos) X.env) Q E s:=by
 obtain⟨i,g,f⟩:=I.mod.blt;exact dD I.ok.kind d (Calls.loadGlobal_builtin (by rw[I.ok.glob];exact I.mod.glob.keeps I.bk) c (by rw[I.ok.blt];exact g.keeps I.bk) ((f x b).trans a) h) e
def xD{u:Value}(b:Gl X x)(a:X.mg x=Y u)(r:fO v u)(c:zg x:=by decide):PE X (.Name x pos) (tC v) :=
 λ_ _ _ H _ I h=>oz I b a ⟨v,H,I,r,h⟩ c
variable {a:Expr}{ta tb:TE}
variable {tA YU:TT}{rest:Lx}
def ZH(t u:TT):TT:=λσ H Q=>t σ H λc a=>if c=true then u σ a Q else Q false a
def tOr(t u:TT):TT:=λσ H Q=>t σ H λc a=>if c=true then Q true a else u σ a Q
def ZI(t:TT):TT:=λσ H Q=>t σ H λc a=>Q (!c) a
def IQ(d:PT X a tA):PW X (.BoolOp .And [a] pos) tA:=by
 intro f b s σ H Q I h;refine isTrue_and (gS (@d b s σ H Q I h) λc g e=>?_);cases c with
 |true=>exact isTrue_and_nil e
 |false=>exact e
def Mq(d:PT X a tA):PW X (.BoolOp .Or [a] pos) tA:=by
 intro f b s σ H Q I h;refine isTrue_or (gS (@d b s σ H Q I h) λc g e=>?_);cases c with
 |false=>exact isTrue_or_nil e
 |true=>exact e
def Mr(l:PT X a tA)(k:PW X (.BoolOp .And (b::rest) pos) YU):PW X (.BoolOp .And (a::b::rest) pos) (ZH tA YU):=by
 intro i d s σ H Q I h;refine isTrue_and (gS (@l d s σ H _ I h) ?_);rintro c j ⟨g,f,e⟩;cases c with
 |true=>exact @k i d j σ g Q f e
 |false=>exact⟨g,f,e⟩
def SE(l:PT X a tA)(k:PW X (.BoolOp .Or (b::rest) pos) YU):PW X (.BoolOp .Or (a::b::rest) pos) (tOr tA YU):=by
 intro i d s σ H Q I h;refine isTrue_or (gS (@l d s σ H _ I h) ?_);rintro c j ⟨g,f,e⟩;cases c with
 |true=>exact⟨g,f,e⟩
 |false=>exact @k i d j σ g Q f e
def Gw(d:PT X a tA):PT X (.UnaryOp .Not a pos) (ZI tA):=by intro b s σ H Q I h;exact isTrue_not (@d b s σ H (λc H1=>Q (!c) H1) I h)
def Wy(d b:TE):TE:=λσ H Q=>d σ H λx a=>∃c,x=.bl c/\if c=true then b σ a Q else Q (.bl false) a
def TY{op}{t:TE}(h:PE X a t):PE X (.BoolOp op [a] pos) t:=λb s σ H Q I hw=>BoolOp_one (@h b s σ H Q I hw)
def TZ(l:PE X a ta)(k:PE X (.BoolOp .And (b::rest) pos) tb):PE X (.BoolOp .And (a::b::rest) pos) (Wy ta tb):=by
 intro d s σ H Q I h;refine BoolOp_and (gS (@l d s σ H _ I h) ?_);rintro v i ⟨x,g,f,j,e⟩;obtain⟨c,rfl,e⟩:=e;cases j;refine b7 ?_;cases c with
 |true=>exact @k d i σ g Q f e
 |false=>exact⟨.bl false,g,f,rfl,e⟩
def tIf(t:TT)(d b:TE):TE:=λσ H Q=>t σ H λc a=>if c=true then d σ a Q else b σ a Q
def Ms(k:PT X c tA)(m:PE X a ta)(l:PE X b tb):PE X (.IfExp c a b pos) (tIf tA ta tb):=by
 intro e s σ H Q I h;refine wpAny_IfExp (gS (@k e s σ H _ I h) ?_);rintro d f ⟨j,i,g⟩;cases d with
 |true=>exact @m e f σ j Q i g
 |false=>exact @l e f σ j Q i g
end
def kQ(K:Fg)(H:Hp)(a:Addr)(b:List V):Prop :=
 Rd H a (.lst b) \/
  ∃(o:Obj) (its:Array Value) (n:Nat),K.lookup a=Y o/\o.cls=.type "list"/\o.dict=Z/\o.data=.seq its n/\its.size<=sizeLine/\fT b its.toList
def qq(K:Fg)(H:Hp)(a:Addr)(b:List V):Prop :=
 Rd H a (.tup b) \/
  ∃(o:Obj) (its:Array Value) (n:Nat),K.lookup a=Y o/\o.cls=.type "tuple"/\o.data=.seq its n/\its.size<=sizeLine/\fT b its.toList
noncomputable def ZJ:Value->Option V
 |.none=>Y .k9
 |.bool b=>Y (.bl b)
 |.int i _=>Y (.int i)
 |.str x _=>Y (.str x)
 |.bytes b _=>Y (.We b)
 |.float b _=>Y (.YS b)
 |.ref a=>Y (.ref a)
 |.type n=>Y (.ty n)
 |_=>Z
def fO.abs{x:V}{u:Value}(r:fO x u):ZJ u=Y x:=by
 cases x with
 |k9=>cases r;rfl
 |bl _=>cases r;rfl
 |int _=>obtain⟨t,rfl⟩:=r;rfl
 |str _=>obtain⟨t,rfl⟩:=r;rfl
 |We _=>obtain⟨t,rfl⟩:=r;rfl
 |YS _=>obtain⟨t,rfl⟩:=r;rfl
 |ref _=>cases r;rfl
 |ty _=>cases r;rfl
def fO.inj{x y:V}{u:Value}(r:fO x u)(q:fO y u):x=y:=a7 (r.abs.symm.trans q.abs)
theorem fT.inj:∀{b a:List V}{c:Lw},fT b c->fT a c->b=a
 |_,_,_,.nil,.nil=>rfl
 |_,_,_,.cons r t,.cons r' t'=>by rw[r.inj r',fT.inj t t']
section
variable {xs ys:List V}
def kQ.of(h:H a=Y (.lst xs)):kQ K H a xs:=.inl (.inl h)
def qq.of(h:H a=Y (.tup xs)):qq K H a xs:=.inl (.inl h)
def eT.list(I:eT X pins σ H s)(h:kQ X.K H a xs):∃its:Lw,fT xs its/\PlainL s.heap a its.toArray/\xs.length<=sizeLine:=by
 rcases h with h | ⟨o,its,n,b,d,c,hs,hz,r⟩
 ·obtain⟨z,its,n,r,e⟩:=h.ok I.ir;exact⟨its,r,⟨_,n,e,rfl,rfl,rfl⟩,z⟩
 ·refine⟨its.toList,r,⟨o,n,I.xC a o b,d,c,by simpa using hs⟩,?_⟩;have e:=r.length;simp only[cm] at e;omega
def eT.tuple(I:eT X pins σ H s)(h:qq X.K H a xs):∃b:Lw,fT xs b/\IsTup s.heap a b.toArray/\xs.length<=sizeLine:=by
 rcases h with h | ⟨o,b,n,c,d,hs,hz,r⟩
 ·obtain⟨z,b,r,p⟩:=h.ok I.ir;exact⟨b,r,p,z⟩
 ·refine⟨b.toList,r,⟨o,I.xC a o c,d,n,by simpa using hs⟩,?_⟩;have e:=r.length;simp only[cm] at e;omega
def eT.qy(I:eT X pins σ H s)(h:kQ X.K H a xs)(h':kQ X.K H a ys):xs=ys:=by
 obtain⟨c,r,⟨o,n,e,_,_,d⟩,_⟩:=I.list h;obtain⟨b,i,⟨k,l,f,_,_,g⟩,_⟩:=I.list h';rw[e] at f;cases f;rw[d] at g;injection g with j _
 have:c=b:=by simpa using bw Array.toList j
 subst this;exact r.inj i
def eT.Ki(I:eT X pins σ H s)(h:qq X.K H a xs)(j:qq X.K H a ys):xs=ys:=by
 obtain⟨c,r,⟨o,e,_,n,d⟩,_⟩:=I.tuple h;obtain⟨b,i,⟨l,f,_,m,g⟩,_⟩:=I.tuple j;rw[e] at f;cases f;rw[d] at g;injection g with k _
 have:c=b:=by simpa using bw Array.toList k
 subst this;exact r.inj i
end
abbrev Cx.Ai(X:Cx)(E:Value->Shared->Prop):Cx:={ X with xe:=E }
abbrev Cx.Mt(X:Cx):Cx:=X.Ai λ_ _=>False
theorem Cx.Ok.Ai{X:Cx}(a:X.Ok)(E:Px):(X.Ai E).Ok :=
 ⟨a.mod,a.kind,a.glob,a.blt,a.above,a.inj,a.has,a.Wt,a.hd,a.frames,a.Wu,a.exf,a.bs,a.SD,a.Mo,a.Gv,a.sJ,a.Mp⟩
def Cx.Ok.qz(a:(X.Ai E).Ok):X.Ok :=
 ⟨a.mod,a.kind,a.glob,a.blt,a.above,a.inj,a.has,a.Wt,a.hd,a.frames,a.Wu,a.exf,a.bs,a.SD,a.Mo,a.Gv,a.sJ,a.Mp⟩
section
theorem eT.Ai(I:eT X pins σ H s)(E:Px):eT (X.Ai E) pins σ H s:=⟨I.ok.Ai E,I.os,I.bare,I.base,I.loc,I.cell,I.free,I.mR,I.pin,I.ir,I.len⟩
theorem eT.qz(I:eT (X.Ai E) pins σ H s):eT X pins σ H s:=⟨I.ok.qz,I.os,I.bare,I.base,I.loc,I.cell,I.free,I.mR,I.pin,I.ir,I.len⟩
theorem SP.qz{D:Ah}{f:Flow}{b:Shared}(h:SP (X.Ai E) pins D f b):SP X pins D f b:=by
 cases f with
 |next=>obtain⟨σ',a,I,q⟩:=h;exact⟨σ',a,I.qz,q⟩
 |brk=>obtain⟨σ',a,I,q⟩:=h;exact⟨σ',a,I.qz,q⟩
 |cont=>obtain⟨σ',a,I,q⟩:=h;exact⟨σ',a,I.qz,q⟩
 |ret u=>obtain⟨v,σ',a,I,r,q⟩:=h;exact⟨v,σ',a,I.qz,r,q⟩
theorem vV.Mt{b:List Stmt}{t:TS}(h:vV X.Mt b t):vV X b t:=λa s σ H D I hw=>
 bK (@h a s σ H D (I.Ai _) hw) (λ_ _ q=>q.qz) λ_ _ z=>False.elim z
end
section
variable {rest:List Stmt}{t u:TS}{te:TE}
def SF:TS:=λD σ H=>D.nx σ H
def ZK(t u:TS):TS:=λD σ H=>t { D with nx:=u D } σ H
def IS:vV X [] SF:=λ_ _ σ H _ I h=>cK ⟨σ,H,I,h⟩
def D8(d:PS X st t)(c:vV X rest u):vV X (st::rest) (ZK t u):=by
 intro a s σ H D I h;refine wpAny_execs_cons (gS (@d a s σ H { D with nx:=u D } I h) λf b q=>?_);cases f with
 |next=>obtain⟨σ',g,e,q⟩:=q;exact @c a b σ' g D e q
 |ret v=>exact q
 |brk=>exact q
 |cont=>exact q
def IT(b:PS X st t):vV X [st] t:=by
 intro a s σ H D I h;refine wpAny_execs_cons (gS (@b a s σ H D I h) λf c q=>?_);cases f with
 |next=>exact cK q
 |ret v=>exact q
 |brk=>exact q
 |cont=>exact q
def T1:TS:=λD σ H=>D.bk σ H
def Wz:TS:=λD σ H=>D.ct σ H
def P2:PS X (.Pass pos) SF:=λ_ _ σ H _ I h=>wpAny_Pass ⟨σ,H,I,h⟩
def Mu:PS X (.Break pos) T1:=λ_ _ σ H _ I h=>wpAny_Break ⟨σ,H,I,h⟩
def D9:PS X (.Continue pos) Wz:=λ_ _ σ H _ I h=>wpAny_Continue ⟨σ,H,I,h⟩
def eT.quiet(I:eT X pins σ H s):interactive X.env=false:=by simp[interactive,I.ok.kind]
def WA(a:TE):TS:=λD σ H=>a σ H λ_ b=>D.nx σ b
def ri(d:PE X e te)(c:swapsWith e Z pos.line X.env=pure false:=by rfl):PS X (.Expr e pos) (WA te):=by intro a s σ H D I h;exact wpAny_Expr_any (gS (@d a s σ H _ I h) <| by rintro v i ⟨x,g,f,j,b⟩;exact⟨σ,g,f,b⟩) I.quiet c
def ZL(a:TE):TS:=λD σ H=>a σ H D.rt
def uZ(d:PE X e te):PS X (.Return (Y e) pos) (ZL te):=by intro a s σ H D I h;exact wpAny_Return_some (gS (@d a s σ H _ I h) <| by rintro v i ⟨x,g,f,b,c⟩;exact⟨x,σ,g,f,b,c⟩)
def WB:TS:=λD _ H=>D.rt .k9 H
def IU:PS X (.Return Z pos) WB:=λ_ _ σ H _ I h=>wpAny_Return_none ⟨.k9,σ,H,I,rfl,h⟩
def ZM(c:TT)(t u:TS):TS:=λD σ H=>c σ H λb a=>if b=true then t D σ a else u D σ a
def Mv{a b:List Stmt}{f:TT}(l:PT X c f)(n:vV X a t)(m:vV X b u):PS X (.If c a b pos) (ZM f t u):=by
 intro e s σ H D I h;refine wpAny_If (gS (@l e s σ H _ I h) ?_);rintro d g ⟨k,j,i⟩;cases d with
 |true=>exact @n e g σ k D j i
 |false=>exact @m e g σ k D j i
def T2:TS:=λ_ _ _=>False
def Ea:PS X st T2:=λ_ _ _ _ _ _ h=>h.elim
end
abbrev TG:=V->St->Hp->(St->Hp->Prop)->Prop
abbrev P4:=List V->St->Hp->(St->Hp->Prop)->Prop
def PG(X:Cx)(a:Expr)(t:TG):Prop :=
 ∀⦃b:Ax⦄ (s:Shared) (σ:St) (H:Hp) (v:V) (u:Value) (Q:St->Hp->Prop),eT X b σ H s->fO v u->t v σ H Q ->
  (zw X) (assign a X.env u) (λ_ d=>∃σ' c,eT X b σ' c d/\Q σ' c) X.xe s
def PH(X:Cx)(c:Lx)(t:P4):Prop :=
 ∀⦃a:Ax⦄ (s:Shared) (σ:St) (H:Hp) (vs:List V) (us:Lw) (Q:St->Hp->Prop),eT X a σ H s->fT vs us->t vs σ H Q ->
  (zw X) (assignInOrder ((assignEach c X.env).map (·.2)) us) (λ_ d=>∃σ' b,eT X a σ' b d/\Q σ' b) X.xe s
abbrev P5:=V->V->V->Hp->(Hp->Prop)->Prop
def Cb(X:Cx)(t:P5):Prop :=
 ∀(a:Ax) (s:Shared) (σ:St) (H:Hp) (o i v:V) (ov b u:Value) (Q:Hp->Prop),eT X a σ H s->fO o ov->fO i b->fO v u->t o i v H Q ->
  (zw X) (setItem ov b u) (λ_ d=>∃c,eT X a σ c d/\Q c) X.xe s
abbrev YV:=V->V->Hp->VK->Prop
def Wf(X:Cx)(b:Operator)(t:YV):Prop :=
 ∀(a:Ax) (s:Shared) (σ:St) (H:Hp) (x y:V) (v u:Value) (Q:VK),eT X a σ H s->fO x v->fO y u->t x y H Q ->
  (zw X) (inplaceOp b v u) (EP X a σ Q) X.xe s
section
def IV(i:Nat):TG:=λv σ H Q=>Q (σ.set i (Y v)) H
def tG(e:X.N.Nodup)(c:X.N[i]?=Y x)(b:IM X.env.scope x)(d:X.fn x=true\/X.env.scope.names.lookup x=Y .local:=by first|exact .inl rfl|exact .inr rfl|assumption):PG X (.Name x pos) (IV i):=by intro a s σ H v u Q I r h;exact wpAny_assign_Name (xV I e c b r (λg f=>⟨_,H,f,h⟩) d)
def ZN:P4:=λa σ H Q=>a=[]/\Q σ H
def WC(t:TG)(u:P4):P4:=λa σ H Q=>∃v r,a=v::r/\t v σ H λσ' b=>u r σ' b Q
def IW:PH X [] ZN:=by intro a s σ H b c Q I r h;obtain⟨e,h⟩:=h;subst e;cases r;exact assignInOrder_nil ⟨σ,H,I,h⟩
def xW{t:TG}{u:P4} (i:PG X e t) (g:PH X es u)
  (f:(assignEach (e::es) X.env).map (·.2)=assign e X.env::(assignEach es X.env).map (·.2):=by rfl):PH X (e::es) (WC t u):=by
 intro a s σ H m o Q I r h;obtain⟨v,n,j,h⟩:=h;subst j;cases r with
 |cons r c=>rw[f];refine assignInOrder_cons (gS (@i a s σ H _ _ _ I r h) ?_);rintro _ b ⟨σ1,l,k,d⟩;exact @g a b σ1 l _ _ Q k c d
def ZO(K:Fg)(n:Nat)(t:P4):TG:=λv σ H Q=>∃a b,v=.ref a/\qq K H a b/\b.length=n/\t b σ H Q
def Mw{k:Nat}{t:P4} (w:X.calm=true) (h:PH X es t)
  (p:(assignEach es X.env).length=n:=by rfl) (d:(assignEach es X.env).findIdx? (·.1)=Z:=by rfl):PG X (.Tuple es k pos) (ZO X.K n t):=by
 intro c s σ H v u Q I r hw;obtain⟨a,g,y,m,q,hw⟩:=hw;subst y;cases r;obtain⟨i,f,l,A⟩:=I.tuple m;refine assign_Tuple_tuple (I.ok.hd w) l (by simp[p,<-q,f.length]) d λx j=>?_;have z:eT X c σ H { s with heap:=x }:=I.kept (t':=s.toks) λb o e=>j b o (aG (aq e)) e;exact @h c _ σ H g _ Q z (by simpa using f) hw
def ZP(a b:TE)(t:P5):TG:=λv σ H Q=>a σ H λo e=>b σ e λi d=>t o i v d λc=>Q σ c
def Mx{i:Expr}{b c:TE}{t:P5} (n:PE X o b) (p:PE X i c) (m:Cb X t)
  (q:∀v,assign (.Subscript o i pos) X.env v=(do
   let ov <-holding [v] (eval o X.env);let iv <-holding [v,ov] (eval i X.env)
   standAt pos
   holding [v,ov,iv] (setItem ov iv v)
   release [v,ov,iv] []):=by intro _;rfl):PG X (.Subscript o i pos) (ZP b c t):=by
 intro a s σ H v u Q I r h;rw[q];refine ab (bg (gS (@n a s σ H _ I h) ?_));rintro ov e ⟨x,D,A,g,l⟩;refine ab (bg (gS (@p a e σ D _ A l) ?_));rintro iv d ⟨y,C,z,f,k⟩;refine ab (wpAny_standAt (ab (bg (gS (@m a d σ C x y v ov iv u _ z g f r k) ?_))));rintro _ E ⟨B,w,j⟩;exact wpAny_release ⟨σ,B,w,j⟩
def T3(a:TE)(g:TG):TS:=λD σ H=>a σ H λx b=>g x σ b D.nx
def My{b:TE}{g:TG} (k:PE X e b) (j:PG X tg g) (i:swapsWithSole [tg] e pos.line X.env=pure false:=by rfl) (hw:swappedStores [tg] e X.env=pure Z:=by rfl)
  (l:(assignEach [tg] X.env).map (·.2)=[assign tg X.env]:=by rfl):PS X (.Assign [tg] e pos) (T3 b g):=by
 intro a s σ H D I h;refine wpAny_Assign_stores (gS (@k a s σ H _ I h) ?_) i hw;rintro v c ⟨x,n,m,d,f⟩;rw[l];exact gS (@j a c σ n x v _ m d f) λ_ o q=>q
def Gx{c:TE}{a:Pos}(n:X.N.Nodup)(k:X.N[i]?=Y x)(g:IM X.env.scope x)(m:PE X e c)(j:swapsWith e (Y (.Name x a)) pos.line X.env=pure false:=by rfl)(l:X.fn x=true\/X.env.scope.names.lookup x=Y .local:=by first|exact .inl rfl|exact .inr rfl|assumption):
  PS X (.Assign [.Name x a] e pos) (T3 c (IV i)):=by
 intro b s σ H D I h;refine wpAny_Assign_Name (gS (@m b s σ H _ I h) ?_) j;rintro v r ⟨y,q,p,d,f⟩;exact xV p n k g d (λs2 o=>⟨_,q,o,f⟩) l
def ZQ(i:Nat)(b:TE)(a:YV):TS:=λD σ H=>∃x,σ[i]?=Y (Y x)/\b σ H λy d=>a x y d λz c=>D.nx (σ.set i (Y z)) c
def Mz{t:TE}{o:Operator}{q:YV}{j:Pos}(S:X.N.Nodup)(A:X.N[i]?=Y x)(p:IM X.env.scope x)(Q:PE X e t)(K:Wf X o q)(P:X.fn x=true\/X.env.scope.names.lookup x=Y .local:=by first|exact .inl rfl|exact .inr rfl|assumption):
  PS X (.AugAssign (.Name x j) o e pos) (ZQ i t q):=by
 intro a s σ H D I h;obtain⟨v,T,h⟩:=h;obtain⟨m,L,O⟩:=I.loc;have n:Mc X.env.scope x:=by rcases p with k|k;exact .inl k;exact .inr (.inl k)
 obtain⟨u,r,l⟩:=O i x v A T n;refine wpAny_AugAssign_Name ?_;have B:(zw X) (eval e X.env) (λw g=>(zw X) (inplaceOp o u w) (λr f=>(zw X) (storeName X.env x r) (λ_=>SP X a D .next) X.xe f) X.xe g) X.xe s:=by refine gS (@Q a s σ H _ I h) ?_;rintro w C ⟨y,H1,W,F,J⟩;refine gS (@K a C σ H1 v y u w _ W r F J) ?_;rintro z s2 ⟨zv,H2,V,E,G⟩;exact xV V S A p E (λs3 U=>⟨_,H2,U,G⟩) P
 rcases l with ⟨b,M⟩ | ⟨b,c,R,d⟩
 ·exact wpAny_loadName_local I.ok.kind b L M B
 ·rcases b with b|b
  ·exact wpAny_loadName_cell I.ok.kind b R d B
  ·rcases p with k|k
   ·have:X.env.scope.names.lookup x=Y .free:=b;rw[k] at this;cases this
   ·have:X.env.scope.names.lookup x=Y .free:=b;rw[k] at this;cases this
def WD(f:Int->Int->Int):YV:=λx y H Q=>∃i j,x=.int i/\y=.int j/\Q (.int (f i j)) H
def Gy:Wf X .Add (WD λi j=>i+j):=by intro a s σ H x y v u Q I c b h;obtain⟨i,j,e,d,q⟩:=h;subst e;subst d;obtain⟨t,rfl⟩:=c;obtain⟨f,rfl⟩:=b;exact iadd_int ⟨.int _,H,I.tok _,⟨_,rfl⟩,q⟩
def Gz:Wf X .Sub (WD λi j=>i - j):=by intro a s σ H x y v u Q I c b h;obtain⟨i,j,e,d,q⟩:=h;subst e;subst d;obtain⟨t,rfl⟩:=c;obtain⟨f,rfl⟩:=b;exact isub_int ⟨.int _,H,I.tok _,⟨_,rfl⟩,q⟩
end
section
def T4(c:TT)(f:TS):TS:=λD σ H=>∃W:Nat->St->Hp->Prop,(∃m,W m σ H)/\∀m σ H,W m σ H ->
 c σ H λb d=>if b=true then ∃N:St->Hp->Prop,(∀σ' e,N σ' e->∃a,a<m/\W a σ' e)/\f { D with nx:=N,ct:=N,bk:=D.nx } σ d else D.nx σ d
def Eb{p:TT}{q:TS}(r:PassesOwn (model X.prog X.w) X.A X.env X.xe)(K:PT X c p)(L:vV X body q):PS X (.While c body [] pos) (T4 p q):=by
 intro a s σ H D I h;obtain⟨W,⟨J,C⟩,d⟩:=h;refine wpAny_While (codeAny_whileLoop (λn G=>∃σ' z,eT X a σ' z G/\W n σ' z) ?_ J ⟨σ,H,I,C⟩);rintro n F ⟨σ1,y,M,B⟩;refine bj r (gS (@K a F σ1 y _ M (d n σ1 y B)) ?_);rintro b E ⟨x,u,i⟩;cases b with
 |true=>
  obtain⟨N,t,i⟩:=i;rw[ag rfl];refine bj r (gS (@L a E σ1 x _ u i) λf O g=>?_);cases f with
  |next=>obtain⟨σ3,e,o,k⟩:=g;obtain⟨l,m,j⟩:=t σ3 e k;exact⟨l,m,σ3,e,o,j⟩
  |cont=>obtain⟨σ3,e,o,k⟩:=g;obtain⟨l,m,j⟩:=t σ3 e k;exact⟨l,m,σ3,e,o,j⟩
  |brk=>exact g
  |ret v=>exact g
 |false=>rw[aj aB];exact cK ⟨σ1,x,u,i⟩
end
structure It where
 go:Nat->Hp->Prop
 Me:Nat->Hp->V->Hp->Prop
 stop:Nat->Hp->Prop
def nc(X:Cx)(a:Ax)(H:Hp)(b:Addr):Prop :=
 H b=Z/\b≠X.env.locals/\b∉X.fs/\(b∈X.ex\/(zB X.s₀)<=b)/\(∀x c,X.env.cells.lookup x=Y c->c≠b)/\∀p∈X.pn++a,p.1≠b
def eT.Aj{d:Hp}{b:Addr}(I:eT X pins σ H s)(a:(zB s)<=b)(g:d b=Z):nc X pins d b:=by
 refine⟨g,cE (aC I.lt a),I.ZC a,.inr (bq I.sz a),λx c e z=>?_,λp f z=>?_⟩
 ·obtain⟨v,q⟩:=I.cell x c e;exact absurd (aC q.lt (by rw[z];exact a)) (aX _)
 ·exact absurd (aC (aq (I.pin p f).1) (by rw[z];exact a)) (aX _)
structure Cc (P:Program) (w:World) (K:Fg) (tg:Expr) (J:It) (fp:List Addr) (it:Addr) (tn:Nat->Heap->Prop):Prop where
 mem:it∈fp
 obj:∀i h,tn i h->∀b∈fp,∃o,h.get? b=Y o/\∀v,o.data≠.cell v
 keep:∀i h h',tn i h->(∀b∈fp,∀o,h.get? b=Y o->h'.get? b=Y o)->tn i h'
 item:∀(X:Cx),X.prog=P->X.w=w->X.K=K->X.calm=true->∀(i:Nat) (pins:Ax) (s:Shared) (σ:St) (H:Hp) (E:Px),eT X pins σ H s->(∀b∈fp,nc X pins H b)->tn i s.heap->J.go i H ->
  wpAny (model P w) X.A (pyNext (.ref it)) (λr s1=>∃u,r=Y u /\
   wpAny (model P w) X.A (letOwnedTupleGo tg (.ref it) u) (λ_ s2=>∃x H',eT X pins σ H' s2/\fO x u/\J.Me i H x H'/\tn (i+1) s2.heap/\∀b∈fp,H' b=Z) E s1) E s
 done:∀(X:Cx),X.prog=P->X.w=w->X.K=K->X.calm=true->∀(i:Nat) (pins:Ax) (s:Shared) (σ:St) (H:Hp) (E:Px),eT X pins σ H s->(∀b∈fp,nc X pins H b)->tn i s.heap->J.stop i H ->
  wpAny (model P w) X.A (pyNext (.ref it)) (λr s1=>r=Z/\eT X pins σ H s1) E s
 self:∀(A:Around) (i:Nat) (s:Shared) (Q:Px) (E:Px),tn i s.heap->Q (.ref it) s->wpAny (model P w) A (pyIter (.ref it)) Q E s
abbrev TI:=St->Hp->(It->Hp->Prop)->Prop
def ZR(X:Cx)(a:Ax)(σ:St)(f:Expr)(R:It->Hp->Prop)(c:Value)(d:Shared):Prop :=
 ∃(e:Addr) (fp:List Addr) (tn:Nat->Heap->Prop) (J:It) (H':Hp),c=.ref e/\eT X a σ H' d/\Cc X.prog X.w X.K f J fp e tn/\tn 0 d.heap/\(∀b∈fp,nc X a H' b)/\R J H'
def PI(X:Cx)(d b:Expr)(c:TI):Prop :=
 ∀⦃a:Ax⦄ (s:Shared) (σ:St) (H:Hp) (R:It->Hp->Prop),eT X a σ H s->c σ H R ->
  (zw X) (eval b X.env) (λv s1=>(zw X) (pyIter v) (ZR X a σ d R) X.xe s1) X.xe s
def xX{M:Model}{c:Addr}{u:Value}{o:Obj}{n:String}{b:Array Value}{Q:Unit->Shared->Prop} (d:s.heap.get? c=Y o) (g:o.cls=.type n) (f:o.data=.fields b)
    (e:["enumerate","zip","dict_itemiterator","dict_reverseitemiterator","odict_iterator","itertools.zip_longest","itertools.pairwise"].contains n=false) (a:Q () s):wpAny M A (letOwnedTupleGo tg (.ref c) u) Q E s:=by
  unfold letOwnedTupleGo;cases tg<;>first
    |exact au a
    | (cases u<;>first
        |exact au a
        | (refine ab (wpAny_load d ?_)
           rw[g,f];show wpAny M A (if (["enumerate","zip","dict_itemiterator","dict_reverseitemiterator","odict_iterator","itertools.zip_longest","itertools.pairwise"].contains n&&b[0]?==Y (rawInt _))=true then _ else _) Q E s;rw[aj (by intro h;rw[e,Bool.false_and] at h;cases h)];exact au a))
def Itl(K:Fg)(a:Addr):It :=
 ⟨λi H=>∃b x,kQ K H a b/\b[i]?=Y x,λi H x c=>c=H/\∀b,kQ K H a b->b[i]?=Y x,λi H=>∃b,kQ K H a b/\b.length<=i⟩
def Itt(K:Fg)(a:Addr):It :=
 ⟨λi H=>∃b x,qq K H a b/\b[i]?=Y x,λi H x c=>c=H/\∀b,qq K H a b->b[i]?=Y x,λi H=>∃b,qq K H a b/\b.length<=i⟩
def YW(a:Int)(n:Nat):It:=⟨λi _=>i<n,λi H x b=>b=H/\x=.int (a+i),λi _=>n<=i⟩
def Kj{P:Program}{w:World}(a j:Addr):Cc P w K tg (Itl K a) [j] j (λi h=>h.IsListIter j a i) where
 mem:=by simp
 obj:=λi h f b l=>by
  have e:b=j:=by simpa using l
  subst e;obtain⟨o,e,c,d⟩:=f;exact⟨o,e,λv z=>by rw[d] at z;cases z⟩
 keep:=λi h r f k=>f.at λo e=>k j (by simp) o e
 item:=by intro X C hw D N i g s σ H E I q f B;subst C hw D;obtain⟨O,x,n,A⟩:=B;obtain⟨y,t,p,S⟩:=I.list n;obtain⟨u,U,R⟩:=t.get A;obtain⟨M,L,V,J,G,F⟩:=q j (by simp);refine cO f p.isList (x:=u) (by simpa using U) λr m Q=>?_;have I1:eT X g σ H { s with heap:=r }:=I.turned (t':=s.toks) (λb o l e=>(Q.2 b l).trans e) M L J G F;obtain⟨o,e,c,d⟩:=id m;exact⟨u,rfl,xX (s:={ s with heap:=r }) e c d (by decide) ⟨x,H,I1,R,⟨rfl,λys T=>by rw[I.qy T n];exact A⟩,m,λb l=>(q b l).1⟩⟩
 done:=by intro X C hw D N i g s σ H E I q f B;subst C hw D;obtain⟨O,n,A⟩:=B;obtain⟨y,t,p,S⟩:=I.list n;obtain⟨M,L,V,J,G,F⟩:=q j (by simp);have hl:=t.length;exact cZ (I.ok.hd N) f p.isList (by simp;omega) λr W=>⟨rfl,I.turned (t':=s.toks) (λb o l e=>W b o l e) M L J G F⟩
 self:=λ_ _ _ _ _ f h=>wpAny_pyIter_listiter f h
def GA{P:Program}{w:World}(a l:Addr):Cc P w K tg (Itt K a) [l] l (λi h=>h.IsTupleIter l a i) where
 mem:=by simp
 obj:=λi h f b m=>by
  have e:b=l:=by simpa using m
  subst e;obtain⟨o,e,c,d⟩:=f;exact⟨o,e,λv z=>by rw[d] at z;cases z⟩
 keep:=λi h t f k=>f.at λo e=>k l (by simp) o e
 item:=by intro X C hw D N i g s σ H E I r f B;subst C hw D;obtain⟨O,x,q,A⟩:=B;obtain⟨j,y,p,S⟩:=I.tuple q;obtain⟨u,U,R⟩:=y.get A;obtain⟨M,L,V,J,G,F⟩:=r l (by simp);refine wpAny_pyNext_tuple_item f (show s.heap.IsTuple a j.toArray from p) (x:=u) (by simpa using U) λt n Q=>?_;have I1:eT X g σ H { s with heap:=t }:=I.turned (t':=s.toks) (λb o m e=>(Q.2 b m).trans e) M L J G F;obtain⟨o,e,c,d⟩:=id n;exact⟨u,rfl,xX (s:={ s with heap:=t }) e c d (by decide) ⟨x,H,I1,R,⟨rfl,λys T=>by rw[I.Ki T q];exact A⟩,n,λb m=>(r b m).1⟩⟩
 done:=by intro X C hw D N i g s σ H E I r f B;subst C hw D;obtain⟨O,q,A⟩:=B;obtain⟨j,y,p,S⟩:=I.tuple q;obtain⟨M,L,V,J,G,F⟩:=r l (by simp);have hl:=y.length;exact wpAny_pyNext_tuple_end (I.ok.hd N) f (show s.heap.IsTuple a j.toArray from p) (by simp;omega) λt W=>⟨rfl,I.turned (t':=s.toks) (λb o m e=>W b o m e) M L J G F⟩
 self:=λ_ _ _ _ _ f h=>wpAny_pyIter_tupleiter f h
def GB{P:Program}{w:World}(d:Addr)(j:Int)(n:Nat):Cc P w K tg (YW j n) [d] d (λi h=>IsRangeIter h d (j+(i:Nat)*1) ((n:Int) - (i:Nat)) 1) where
 mem:=by simp
 obj:=λi h a b f=>by
  have e:b=d:=by simpa using f
  subst e;exact⟨_,a,λv z=>by have F:Data.fields _=Data.cell v:=z;cases F⟩
 keep:=λi h m a k=>k d (by simp) _ a
 item:=by intro X r hw u q i c s σ H E I l a p;subst r hw u;obtain⟨C,B,L,A,y,x⟩:=l d (by simp);have W:=Walks.range (prog:=X.prog) (w:=X.w) (I.ok.hd q) d j 1 n;refine W.item i s _ _ p a λv m D J g G=>?_;obtain⟨t,rfl⟩:=J;have N:eT X c σ H { s with heap:=m,toks:=D }:=I.turned (λb o f e=>G b o (by simpa using f) e) C B A y x;refine⟨_,rfl,xX (s:={ s with heap:=m,toks:=D }) (n:="range_iterator") g rfl rfl (by decide) ⟨.int (j+i),H,N,⟨t,?_⟩,⟨rfl,rfl⟩,g,λb f=>(l b f).1⟩⟩;rw[Int.mul_one]
 done:=by intro X r hw u q i c s σ H E I l a p;subst r hw u;obtain⟨C,B,L,A,y,x⟩:=l d (by simp);exact wpAny_pyNext_range_end (I.ok.hd q) a (by have:n<=i:=p;omega) λm M=>⟨rfl,I.turned (t':=s.toks) (λb o f e=>M b o f e) C B A y x⟩
 self:=λ_ _ _ _ _ a h=>wpAny_pyIter_rangeiter a h
section
def WE(K:Fg)(d:TE):TI:=λσ H R=>d σ H λx b=>∃a,x=.ref a/\(∃c,kQ K b a c)/\R (Itl K a) b
def ZS(K:Fg)(d:TE):TI:=λσ H R=>d σ H λx b=>∃a,x=.ref a/\(∃c,qq K b a c)/\R (Itt K a) b
def Cd{l:Expr}{g:TE}(n:PE X l g):PI X tg l (WE X.K g):=by
 intro c s σ H R I h;refine gS (@n c s σ H _ I h) ?_;rintro v d ⟨x,t,f,i,j⟩;obtain⟨a,e,⟨u,m⟩,q⟩:=j;subst e;cases i;obtain⟨k,w,p,y⟩:=f.list m;refine cP p.isList ?_;refine⟨(zB d),[(zB d)],_,_,t,rfl,f.kept (t':=d.toks) λb o e=>af _ e,Kj a _,⟨_,aw _ rfl,rfl,rfl⟩,λb r=>?_,q⟩;have e:b=(zB d):=by simpa using r
 subst e;exact f.Aj (az _) (f.ir.fresh (az _))
def MA{l:Expr}{i:TE}(n:PE X l i):PI X tg l (ZS X.K i):=by
 intro d s σ H R I h;refine gS (@n d s σ H _ I h) ?_;rintro v c ⟨x,t,f,j,k⟩;obtain⟨a,e,⟨u,m⟩,q⟩:=k;subst e;cases j;obtain⟨g,w,p,y⟩:=f.tuple m;refine wpAny_pyIter_tuple (show c.heap.IsTuple a g.toArray from p) ?_;refine⟨(zB c),[(zB c)],_,_,t,rfl,f.kept (t':=c.toks) λb o e=>af _ e,GA a _,⟨_,aw _ rfl,rfl,rfl⟩,λb r=>?_,q⟩;have e:b=(zB c):=by simpa using r
 subst e;exact f.Aj (az _) (f.ir.fresh (az _))
def MB{R:It->Hp->Prop}{a c:Int}{t u v:Tok}{d:Nat} (I:eT X pins σ H s) (k:-(2 ^ 62)<=a) (j:a<2 ^ 62) (i:-(2 ^ 62)<=c) (h:c<2 ^ 62)
  (q:R (YW a (c - a).toNat) H):(zw X) (pyIter (.ref (zB s))) (ZR X pins σ tg R) E { s with heap:=s.heap.push { cls:=.type "range",data:=.fields #[.int a t,.int c u,.int 1 v] },toks:=d }:=by
 refine wpAny_pyIter_range (IsRange.new ..) (small_one k j i h) ?_;have f:eT X pins σ H { s with heap:=s.heap.push { cls:=.type "range",data:=.fields #[.int a t,.int c u,.int 1 v] },toks:=d }:=I.kept λb o e=>af _ e;refine⟨(s.heap.push { cls:=.type "range",data:=.fields #[.int a t,.int c u,.int 1 v] }).objs.size,[(s.heap.push { cls:=.type "range",data:=.fields #[.int a t,.int c u,.int 1 v] }).objs.size],_,_,H,rfl,
  f.kept (t':=d) λb o e=>af _ e,GB _ a (c - a).toNat,?_,λb g=>?_,q⟩
 ·have m:a+((0:Nat):Int)*1=a:=by simp
  have l:(((c - a).toNat:Nat):Int) - ((0:Nat):Int)=Builtin.Range.rangeSize a c 1:=by rw[rangeSize_one];split<;>omega
  show IsRangeIter _ _ (a+((0:Nat):Int)*1) ((((c - a).toNat:Nat):Int) - ((0:Nat):Int)) 1;rw[m,l];exact aw _ rfl
 ·have e:b=(s.heap.push { cls:=.type "range",data:=.fields #[.int a t,.int c u,.int 1 v] }).objs.size:=by simpa using g
  subst e;exact f.Aj (az _) (f.ir.fresh (az _))
def WG(b:TA):TI:=λσ H R=>b σ H λa c=>∃j:Int,a=[.int j]/\-(2 ^ 62)<=j/\j<2 ^ 62/\R (YW 0 j.toNat) c
def Kk{a:Expr}{d:TA}(m:Gl X "range")(l:X.mg "range"=Z)(n:PA X [a] d)(k:starEach [a] X.env=[(false,eval a X.env)]:=by rfl):PI X tg (.Call (.Name "range" p) [a] [] pos) (WG d):=by
 intro b s σ H R I h;refine Call_ (o6 I m l boot_range (a0 (gS (@n pos b s σ H _ I h) ?_) k rfl));rintro v w ⟨u,x,o,g,c⟩;obtain⟨j,e,c,i,q⟩:=c;subst e;cases g with
 |cons r f=>cases f;obtain⟨t,rfl⟩:=r;exact call_range_1 (MB o (by omega) (by omega) c i (by simpa using q))
def ZT(c:TI)(g:TG)(d:TS):TS:=λD σ H=>c σ H λJ f=>∃W:Nat->Nat->St->Hp->Prop,(∃m,W 0 m σ f)/\∀i m σ H,W i m σ H ->
 (J.stop i H/\D.nx σ H)\/(J.go i H/\∃N:St->Hp->Prop,(∀σ' a,N σ' a->∃b,b<m/\W (i+1) b σ' a)/\∀x a,J.Me i H x a->g x σ a λσ2 e=>d { D with nx:=N,ct:=N,bk:=D.nx } σ2 e)
def u3(fp:List Addr)(h:Heap):Ax:=fp.filterMap λb=>(h.get? b).map λo=>(b,o)
def nQ{fp:List Addr}{h:Heap}{b:Addr}{o:Obj}(a:b∈fp)(e:h.get? b=Y o):(b,o)∈u3 fp h:=bZ.mpr ⟨b,a,by rw[e];rfl⟩
def Kl{a:List Addr}{h:Heap}{p:Addr×Obj}(c:p∈u3 a h):p.1∈a/\h.get? p.1=Y p.2:=by
 obtain⟨b,d,e⟩:=bZ.mp c;cases q:h.get? b with
 |none=>rw[q] at e;cases e
 |some o=>rw[q] at e;have f:(b,o)=p:=a7 e;subst f;exact⟨d,q⟩
def eT.pinned{fp:List Addr}(I:eT X pins σ H s)(h:∀b∈fp,nc X pins H b)(g:∀b∈fp,∃o,s.heap.get? b=Y o/\∀v,o.data≠.cell v):eT X (pins++u3 fp s.heap) σ H s :=
 I.pS λp f=>(aR.mp f).elim (λz=>I.pin p (ak _ z)) λz=>by obtain⟨a,e⟩:=Kl z;obtain⟨k,j,i,_⟩:=h p.1 a;obtain⟨o,c,d⟩:=g p.1 a;rw[e] at c;cases c;exact⟨e,k,j,i,d⟩
def eT.nR{pl:Ax}(I:eT X (pins++pl) σ H s):eT X pins σ H s:=I.pS λp a=>I.pin p (ak _ (aF _ a))
def GC{j:Expr}{V:TI}{g:TG}{tb:TS} (K:PassesOwn (model X.prog X.w) X.A X.env X.xe) (hc:X.calm=true) (hi:PI X tg j V) (hg:PG X tg g) (k:vV X body tb)
  (hs:∀x,foldedSetIterable j X.env x=pure x:=by intro _;rfl):PS X (.For tg j body [] pos) (ZT V g tb):=by
 intro a s σ H D I h;refine wpAny_For (gS (@hi a s σ H _ I h) λv s1 h1=>gS h1 λitv s2 h2=>?_) hs;obtain⟨it,M,tn,J,H2,e,I2,T,P,f2,W,⟨m0,w0⟩,B⟩:=h2;subst e;have c:∀{t:Hp},(∀b∈M,t b=Z)->∀b∈M,nc X a t b:=λhn b k=>⟨hn b k,(f2 b k).2⟩
 refine codeAny_forLoop_any (λn s'=>∃i σ' t,eT X a σ' t s'/\tn i s'.heap/\(∀b∈M,t b=Z)/\W i n σ' t) ?_ m0 ⟨0,σ,H2,I2,P,λb k=>(f2 b k).1,w0⟩;rintro n s3 ⟨i,σ3,O,I3,F,L,w3⟩;rcases B i n σ3 O w3 with ⟨C,qn⟩ | ⟨go,N,hN,E⟩
 ·refine bj K (gS (T.done X rfl rfl rfl @hc i a s3 σ3 O X.xe I3 (c L) F C) ?_);rintro r s4 ⟨R,I4⟩;subst R;exact cK ⟨σ3,O,I4,qn⟩
 ·refine bj K (gS (T.item X rfl rfl rfl @hc i a s3 σ3 O X.xe I3 (c L) F go) ?_);rintro r s4 ⟨u,R,h4⟩;subst R;refine bj K (gS h4 ?_);rintro _ s5 ⟨x,H5,I5,r5,y5,z,S⟩;have U:=I5.pinned (c S) (T.obj _ _ z);refine bj K (gS (@hg _ s5 σ3 H5 x u _ U r5 (E x H5 y5)) ?_);rintro _ s6 ⟨σ6,H6,I6,q6⟩;refine bj K (gS (@k _ s6 σ6 H6 _ I6 q6) λf Q y=>?_);have l:∀{σ7:St}{q:Hp},eT X (a++u3 M s5.heap) σ7 q Q->N σ7 q->∃m,m<n/\∃i σ' t,eT X a σ' t Q/\tn i Q.heap/\(∀b∈M,t b=Z)/\W i m σ' t:=λ{σ7 q} p G=>by
   obtain⟨m',hm,w7⟩:=hN σ7 q G;refine⟨m',hm,i+1,σ7,q,p.nR,T.keep _ _ _ z λb k o e=>(p.pin (b,o) (ak _ (ak _ (nQ k e)))).1,λb k=>?_,w7⟩;obtain⟨o,e,d⟩:=T.obj _ _ z b k;exact(p.pin (b,o) (ak _ (ak _ (nQ k e)))).2.1
  cases f with
  |next=>obtain⟨σ7,q,p,G⟩:=y;exact l p G
  |cont=>obtain⟨σ7,q,p,G⟩:=y;exact l p G
  |brk=>obtain⟨σ7,q,p,y⟩:=y;exact⟨σ7,q,p.nR,y⟩
  |ret v=>obtain⟨x7,σ7,q,p,r7,y⟩:=y;exact⟨x7,σ7,q,p.nR,r7,y⟩
end
abbrev R2:=V->V->Hp->VK->Prop
def lQ(X:Cx)(f:Value->Value->Sem Value)(r:R2):Prop :=
 ∀(a:Ax) (s:Shared) (σ:St) (H:Hp) (x y:V) (v u:Value) (Q:VK),eT X a σ H s->fO x v->fO y u->r x y H Q ->
  (zw X) (f v u) (EP X a σ Q) X.xe s
def ZU(X:Cx)(f:Value->Sem Value)(r:V->Hp->VK->Prop):Prop :=
 ∀(a:Ax) (s:Shared) (σ:St) (H:Hp) (x:V) (v:Value) (Q:VK),eT X a σ H s->fO x v->r x H Q ->
  (zw X) (f v) (EP X a σ Q) X.xe s
def jL(X:Cx)(f:Value)(r:List V->Hp->VK->Prop):Prop :=
 ∀(a:Ax) (s:Shared) (σ:St) (H:Hp) (xs:List V) (us:Lw) (Q:VK),eT X a σ H s->fT xs us->r xs H Q ->
  (zw X) (call f us) (EP X a σ Q) X.xe s
def ZV(X:Cx)(r:V->Hp->(Bool->Hp->Prop)->Prop):Prop :=
 ∀(a:Ax) (s:Shared) (σ:St) (H:Hp) (x:V) (v:Value) (Q:Bool->Hp->Prop),eT X a σ H s->fO x v->r x H Q ->
  (zw X) (truthy v) (TP X a σ Q) X.xe s
def WH(r:R2)(b a:TE):TE:=λσ H Q=>b σ H λx d=>a σ d λy c=>r x y c Q
def tUn(r:V->Hp->VK->Prop)(a:TE):TE:=λσ H Q=>a σ H λx b=>r x b Q
def rI(C:Int->Int->Prop)(g:Int->Int->V):R2:=λx y H Q=>∃i j,x=.int i/\y=.int j/\C i j/\Q (g i j) H
def PK(g:Int->Int->V):R2:=λx y H Q=>∃i j,x=.int i/\y=.int j/\Q (g i j) H
def rU(g:Int->V):V->Hp->VK->Prop:=λx H Q=>∃i,x=.int i/\Q (g i) H
section
variable {a:Expr}{ta tb tc:TE}
def T5(l:PE X a ta) (k:PE X b tb) {R:V->V->Hp->Prop} (I:eT X pins σ H s)
  (h:ta σ H λx H1=>tb σ H1 λy H2=>R x y H2) {Q:Px}{f:Value->Value->Sem Value}
  (j:∀v u s2 x y H2,eT X pins σ H2 s2->fO x v->fO y u->R x y H2->(zw X) (f v u) Q X.xe s2):
  (zw X) (eval a X.env) (λv s₁=>(zw X) (eval b X.env) (λu s₂=>(zw X) (f v u) Q X.xe s₂) X.xe s₁) X.xe s:=by
 refine gS (@l pins s σ H _ I h) ?_;rintro v c ⟨x,H1,n,e,i⟩;refine gS (@k pins c σ H1 _ n i) ?_;rintro u s2 ⟨y,H2,m,d,g⟩;exact j v u s2 x y H2 m e d g
def SG{d:Operator}{r:R2}(g:lQ X (binaryOp d) r)(j:PE X a ta)(i:PE X b tb):PE X (.BinOp a d b pos) (WH r ta tb):=by intro c s σ H Q I h;exact wpAny_BinOp (T5 j i I h λv u s2 x y l k f e q=>@g c s2 σ l x y v u Q k f e q)
def WI{c:UnaryOp}{r:V->Hp->VK->Prop}(g:ZU X (unaryOp c) r)(i:PE X a ta):PE X (.UnaryOp c a pos) (tUn r ta):=by intro b s σ H Q I h;exact UnaryOp_ (gS (@i b s σ H _ I h) <| by rintro v d ⟨x,k,j,e,f⟩;exact @g b d σ k x v Q j e f)
def opI{f:Value->Value->Sem Value}{C:Int->Int->Prop}{g:Int->Int->Int}
  (a:∀(i j:Int) (t u:Tok) (s:Shared) (Q:Px) (E:Px),C i j->Q (.int (g i j) s.toks) { s with toks:=s.toks+1 }->(zw X) (f (.int i t) (.int j u)) Q E s):
  lQ X f (rI C λi j=>.int (g i j)):=by
 intro b s σ H x y v u Q I e d h;obtain⟨i,j,rfl,rfl,k,q⟩:=h;obtain⟨t,rfl⟩:=e;obtain⟨c,rfl⟩:=d;exact a i j t c s _ _ k ⟨.int (g i j),H,I.tok _,⟨_,rfl⟩,q⟩
def WJ{f:Value->Value->Sem Value}{g:Int->Int->Int}
  (a:∀(i j:Int) (t u:Tok) (s:Shared) (Q:Px) (E:Px),Q (.int (g i j) s.toks) { s with toks:=s.toks+1 }->(zw X) (f (.int i t) (.int j u)) Q E s):
  lQ X f (PK λi j=>.int (g i j)):=by
 intro b s σ H x y v u Q I e d h;obtain⟨i,j,rfl,rfl,q⟩:=h;obtain⟨t,rfl⟩:=e;obtain⟨c,rfl⟩:=d;exact a i j t c s _ _ ⟨.int (g i j),H,I.tok _,⟨_,rfl⟩,q⟩
def P6{f:Value->Value->Sem Value}{g:Int->Int->Bool}
  (a:∀(i j:Int) (t u:Tok) (s:Shared) (Q:Px) (E:Px),Q (.bool (g i j)) s->(zw X) (f (.int i t) (.int j u)) Q E s):
  lQ X f (PK λi j=>.bl (g i j)):=by
 intro b s σ H x y v u Q I e d h;obtain⟨i,j,rfl,rfl,q⟩:=h;obtain⟨t,rfl⟩:=e;obtain⟨c,rfl⟩:=d;exact a i j t c s _ _ ⟨.bl (g i j),H,I,rfl,q⟩
def WK(i j:Int):Prop:=0<j/\j<1073741824
def T6:lQ X (binaryOp .Add) (PK λi j=>.int (i+j)):=WJ λ_ _ _ _ _ _ _ q=>add_int q
def T7:lQ X (binaryOp .Sub) (PK λi j=>.int (i - j)):=WJ λ_ _ _ _ _ _ _ q=>sub_int q
def P7:lQ X (binaryOp .FloorDiv) (rI WK λi j=>.int (i / j)):=opI λi j _ _ _ _ _ a q=>by have c:(0:Int)<j:=a.1;have b:j<1073741824:=a.2;exact floordiv_int (by omega) (by rw[Int.fdiv_eq_ediv_of_nonneg i (by omega)];exact q) (.inl (PyProof.noPylong_small (by omega)))
def T8:lQ X (binaryOp .Mod) (rI (λ_ j=>0<j) λi j=>.int (i % j)):=opI λi j _ _ _ _ _ a q=>by have b:(0:Int)<j:=a;exact mod_int' (by omega) (by rw[Int.fmod_eq_emod_of_nonneg i (by omega)];exact q)
def unI{f:Value->Sem Value}{g:Int->Int}
  (a:∀(i:Int) (t:Tok) (s:Shared) (Q:Px) (E:Px),Q (.int (g i) s.toks) { s with toks:=s.toks+1 }->(zw X) (f (.int i t)) Q E s):
  ZU X f (rU λi=>.int (g i)):=by
 intro b s σ H x v Q I c h;obtain⟨i,rfl,q⟩:=h;obtain⟨t,rfl⟩:=c;exact a i t s _ _ ⟨.int (g i),H,I.tok _,⟨_,rfl⟩,q⟩
def T9:ZU X (unaryOp .USub) (rU λi=>.int (-i)):=unI λ_ _ _ _ _ q=>neg_int q
end
section
variable {a:Expr}{ta tb tc:TE}
def xY{Q:VK}{k a:Bool}(I:eT X pins σ H s)(q:Q (.bl k) H)(e:k=a):EP X pins σ Q (.bool a) s:=by subst e;exact⟨.bl k,H,I,rfl,q⟩
def WL:lQ X (compareOp .Lt) (PK λi j=>.bl (decide (i<j))):=P6 λ_ _ _ _ _ _ _ q=>lt_int q
def WM:lQ X (compareOp .LtE) (PK λi j=>.bl (decide (i<=j))):=P6 λ_ _ _ _ _ _ _ q=>le_int q
def WN:lQ X (compareOp .Gt) (PK λi j=>.bl (decide (j<i))):=P6 λ_ _ _ _ _ _ _ q=>gt_int q
def WO:lQ X (compareOp .GtE) (PK λi j=>.bl (decide (j<=i))):=P6 λ_ _ _ _ _ _ _ q=>ge_int q
def Km:lQ X (compareOp .In) (λx y H Q=>∃i j,x=.str i/\y=.str j/\Q (.bl (!(Builtin.Str.occurrences j i 0 j.length 1).isEmpty)) H):=by intro a s σ H x y v u Q I c b h;obtain⟨i,j,rfl,rfl,q⟩:=h;obtain⟨t,rfl⟩:=c;obtain⟨d,rfl⟩:=b;exact in_str (xY I q rfl)
def Ua:lQ X (compareOp .Is) (λx y H Q=>y=.k9/\Q (.bl (decide (x=.k9))) H):=by
 intro b s σ H x y v u Q I a c h;obtain⟨rfl,q⟩:=h;cases c;refine is_none_gen (xY I q ?_);cases x<;>first
  | (cases a;rfl)
  | (obtain⟨t,rfl⟩:=a;rfl)
def P8:lQ X (compareOp .IsNot) (λx y H Q=>y=.k9/\Q (.bl (!decide (x=.k9))) H):=by
 intro b s σ H x y v u Q I a c h;obtain⟨rfl,q⟩:=h;cases c;refine isnot_none_gen (xY I q ?_);cases x<;>first
  | (cases a;rfl)
  | (obtain⟨t,rfl⟩:=a;rfl)
def Ce:lQ X (compareOp .NotIn) (λx y H Q=>∃i j,x=.str i/\y=.str j/\Q (.bl (!(!(Builtin.Str.occurrences j i 0 j.length 1).isEmpty))) H):=by intro a s σ H x y v u Q I c b h;obtain⟨i,j,rfl,rfl,q⟩:=h;obtain⟨t,rfl⟩:=c;obtain⟨d,rfl⟩:=b;exact notIn_str (xY I q rfl)
def lQ.or{f:Value->Value->Sem Value}{r d:R2}(h:lQ X f r)(e:lQ X f d):lQ X f (λx y H Q=>r x y H Q\/d x y H Q):=by
 intro a s σ H x y v u Q I c b q;rcases q with q|q
 ·exact @h a s σ H x y v u Q I c b q
 ·exact @e a s σ H x y v u Q I c b q
def MC(b:Expr){a:CmpOp}(h:a≠.In:=by decide)(c:a≠.NotIn:=by decide):behindInMarks a b=false:=by
 have e:(a==CmpOp.In)=false:=by cases a<;>first|rfl|exact absurd rfl h
 have d:(a==CmpOp.NotIn)=false:=by cases a<;>first|rfl|exact absurd rfl c
 cases b<;>simp[behindInMarks,e,d]
def P9{d:CmpOp}{r:R2}(g:lQ X (compareOp d) r)(k:PE X a ta)(j:PE X b tb)(i:behindInMarks d b=false):PE X (.Compare a [d] [b] pos) (WH r ta tb):=by intro c s σ H Q I h;exact wpAny_Compare1 (T5 k j I h λv u s2 x y m l f e q=>@g c s2 σ m x y v u Q l f e q) i
def SH(t:TE):TT:=λσ H Q=>t σ H λx a=>∃k,x=.bl k/\Q k a
def xE{f:CmpOp}{r:R2}(q:lQ X (compareOp f) r)(A:PE X a ta)(w:PE X b tb)(t:behindInMarks f b=false):PT X (.Compare a [f] [b] pos) (SH (WH r ta tb)):=by
 intro d s σ H Q I h;refine wpAny_isTrue_Compare1 (gS (@A d s σ H _ I h) λv i ⟨x,G,D,m,p⟩=>gS (@w d i σ G _ D p) λu g ⟨y,F,C,l,o⟩=>
  gS (@q d g σ F x y v u _ C m l o) λc J ⟨z,E,B,j,k,e,n⟩=>?_) t
 subst e;cases j;exact b7 ⟨E,B,n⟩
def Ub(r f:R2)(e d c:TE):TE:=λσ H Q=>e σ H λx i=>d σ i λy h=>r x y h λz a=>∃k,z=.bl k /\
 (if k=true then c σ a λb g=>f y b g Q else Q (.bl false) a)
def MD{i g:CmpOp}{r m:R2} (O:lQ X (compareOp i) r) (j:lQ X (compareOp g) m) (T:PE X a ta) (S:PE X b tb) (R:PE X c tc)
  (P:lastMarks [i,g] [b,c]=false:=by with_unfolding_all rfl):PT X (.Compare a [i,g] [b,c] pos) (SH (Ub r m ta tb tc)):=by
 intro f s σ H Q I h;refine isTrue_chain (gS (@T f s σ H _ I h) λv C ⟨x,H1,I1,G,M⟩=>test_link (gS (@S f C σ H1 _ I1 M) λu B ⟨y,H2,I2,l,L⟩=>
  gS (@O f B σ H2 x y v u _ I2 G l L) λd A ⟨z,p,o,F,k,e,n⟩=>?_)) P
 subst e;cases F;refine b7 ?_;cases k with
 |false=>obtain⟨k',V,N⟩:=n;cases V;exact ite_ff ⟨p,o,N⟩
 |true=>refine ite_tt (test_last (gS (@R f A σ p _ o n) ?_));rintro t w ⟨q,H4,I4,E,K⟩;refine gS (@j f w σ H4 y q u t _ I4 l E K) ?_;rintro d' s5 ⟨z2,H5,W,D,k2,U,J⟩;subst U;cases D;exact b7 ⟨H5,W,J⟩
def Uc(K:Fg)(x:V)(H:Hp)(k:Bool):Prop :=
 match x with
 |.k9=>k=false
 |.bl b=>k=b
 |.int i=>k=(i != 0)
 |.str y=>y.length<=sizeLine/\k=((y.length:Int) != 0)
 |.We y=>y.size<=sizeLine/\k=((y.size:Int) != 0)
 |.ref p=>(∃a,kQ K H p a/\k=!a.isEmpty)\/(∃a,qq K H p a/\k=!a.isEmpty)\/∃c,Rd H p (.dK c)/\k=!c.isEmpty
 |_=>False
def GD{κ:Type}{a:List (κ×V)}{b:List (κ×Value)}(r:KV a b):(!b.isEmpty)=!a.isEmpty:=by cases r<;>rfl
def xZ{b:List V}{a:Lw}(r:fT b a):(!a.toArray.isEmpty)=!b.isEmpty:=by cases r<;>simp
def sL:(sizeLine:Nat)<2 ^ 63:=by rw[sizeLine_eq];decide
def Ud:ZV X (λx H Q=>∃k,Uc X.K x H k/\Q k H):=by
 intro u s σ H x v Q I g h;obtain⟨k,e,q⟩:=h;have D:=sL;have C:sizeLine=16777216:=sizeLine_eq;cases x with
 |k9=>cases g;have a:k=false:=e;subst a;exact truthy_none ⟨H,I,q⟩
 |bl b=>cases g;have a:k=b:=e;subst a;exact b7 ⟨H,I,q⟩
 |int i=>obtain⟨t,rfl⟩:=g;have a:k=(i != 0):=e;subst a;exact PySem.P.truthy_int ⟨H,I,q⟩
 |str y=>obtain⟨t,rfl⟩:=g;obtain⟨A,a⟩:y.length<=sizeLine/\k=((y.length:Int) != 0):=e;subst a;exact PySem.P.truthy_str (by omega) ⟨H,I.tok _,q⟩
 |We y=>obtain⟨t,rfl⟩:=g;obtain⟨A,a⟩:y.size<=sizeLine/\k=((y.size:Int) != 0):=e;subst a;exact W.truthy_bytes (by omega) ⟨H,I.tok _,q⟩
 |ref p=>
  cases g;have a:(∃f,kQ X.K H p f/\k=!f.isEmpty)\/(∃f,qq X.K H p f/\k=!f.isEmpty)\/∃c,Rd H p (.dK c)/\k=!c.isEmpty:=e;rcases a with ⟨f,j,a⟩ | ⟨f,j,a⟩ | ⟨c,j,a⟩
  ·subst a;obtain⟨o,r,n,z⟩:=I.list j;have d:=r.length;exact wpAny_truthy_list n.isList (by simp only[ar];omega) ⟨H,I.tok _,by rw[xZ r];exact q⟩
  ·subst a;obtain⟨o,r,n,z⟩:=I.tuple j;have d:=r.length;exact truthy_tuple n (by simp only[ar];omega) ⟨H,I.tok _,by rw[xZ r];exact q⟩
  ·subst a;obtain⟨z,B,l,r,m⟩:c.length<=sizeLine/\(p==sysModules)=false/\∃l,KV c l/\s.heap.DictOf (fG X.prog X.w) p l:=j.ok I.ir;have d:c.length=l.length:=cf r;exact wpAny_truthy_dict B m (by omega) ⟨H,I.tok _,by rw[GD r];exact q⟩
 |_=>exact(show False from e).elim
def x3(i:PE X a ta)(g:∀whole,isTrue a X.env whole=(do let v <-whole;standAt a.pos;holding [v] (truthy v))):
  PT X a (λσ H Q=>ta σ H λx c=>∃k,Uc X.K x c k/\Q k c):=by
 intro b s σ H Q I h;exact isTrue_plain (gS (@i b s σ H _ I h) <| by rintro v d ⟨x,l,j,e,f⟩;exact Ud b d σ l x v Q j e f) (g _)
def GF:lQ X (binaryOp .Add) (λx y H Q=>∃i j,x=.str i/\y=.str j/\i.length+j.length<=sizeLine/\Q (.str (i++j)) H):=by intro a s σ H x y v u Q I d c h;obtain⟨i,j,rfl,rfl,e,q⟩:=h;obtain⟨t,rfl⟩:=d;obtain⟨b,rfl⟩:=c;exact add_str (λb f=>⟨.str (i++j),H,I.tok _,⟨_,rfl⟩,q⟩) e
def tH{x:V}{a:Lw}(r:fT [x] a):∃u,a=[u]/\fO x u:=by
 cases r with
 |cons c b=>cases b;exact⟨_,rfl,c⟩
def Kn:jL X (.type "int") (λxs H Q=>(∃i,xs=[.int i]/\Q (.int i) H)\/∃k,xs=[.bl k]/\Q (.int (if k then 1 else 0)) H):=by
 intro a s σ H xs c Q I r h;rcases h with ⟨i,rfl,q⟩ | ⟨k,rfl,q⟩
 ·obtain⟨u,rfl,t,rfl⟩:=tH r;exact call_int_int ⟨.int i,H,I,⟨_,rfl⟩,q⟩
 ·obtain⟨u,rfl,b⟩:=tH r;cases b;exact call_int_bool ⟨.int (if k then 1 else 0),H,I.tok _,⟨_,rfl⟩,q⟩
end
structure GG (h:Heap) (x dx C:Addr) (mA:Str->Ow):Prop where
 obj:h.get? x=Y (W.instObj C dx)
 ns:h.Ns1 dx mA
 ne:dx≠x
def Ko{h:Heap}{i:Addr}{f:Str->Ow}(n:h.Ns1 i f):∃d,h.get? i=Y d/\∀b,W.lookIn b d=Y (f b):=by
 obtain⟨o,g,s,k,p,m,_,l⟩:=n;refine⟨o,k,λb=>?_⟩;have e:=l b;unfold nsFind findBy at e;rw[<-Array.find?_toList] at e;unfold W.lookIn;rw[p];dsimp only;split
 ·rename_i y q;rw[q] at e;exact bw Y e
 ·rename_i q;rw[q] at e;have a:g.toList.any (·.refKey)=false:=by
   rw[List.any_eq_false];intro y j;obtain⟨z,t,c⟩:=m y (Array.mem_toList_iff.mp j);simp[DictEntry.refKey,c]
  have r:¬ g.toList.any (·.refKey)=true:=by rw[a];exact aB
  rw[aj r];exact bw Y e
def GG.look{h:Heap}{x d C:Addr}{c:Str->Ow}(I:GG h x d C c):∃b,W.InstAt h x (W.instObj C d) C (Y b)/\∀a,W.lookIn a b=Y (c a) :=
 let ⟨b,e,f⟩:=Ko I.ns
 ⟨b,⟨I.obj,rfl,rfl,e⟩,f⟩
section
variable {prog:Program}{w:World}{x dx C f:Addr}{mA:Str->Ow}{name:Str}{v:Value}
def Qa{a:Bool}{Q:Px} (X:K.In s.heap) (I:GG s.heap x dx C mA) (f:W.plainGet K C name=true) (e:W.hasDictIn K C=true)
  (g:W.findIn K (.ref C) name=Y Z) (c:mA name=Y v) (b:W.handedIn v=true) (h:Q v { s with toks:=s.toks+1 }):
  wpAny (model prog w) A (getAttr (.ref x) name a) Q E s:=by
 obtain⟨i,J,d⟩:=I.look;exact W.get_value X J (W.plainGet_of f).1 (W.findObj_own e g rfl (by rw[d,c])) b h
def ME{b:Sem Bool}{Q:Value×Lw->Shared->Prop} (X:K.In s.heap) (I:GG s.heap x dx C mA) (a:W.plainGet K C name=true)
  (i:W.findIn K (.ref C) name=Y (Y (.ref f))) (e:W.isFn K (.ref f)=true) (d:mA name=Z) (h:Q (.ref f,[.ref x]) s):
  wpAny (model prog w) A (getMethod (.ref x) name b) Q E s:=by
 obtain⟨c,J,g⟩:=I.look;exact W.method_fn X J (W.plainGet_of a).1 (W.plainGet_of a).2 i (cg.mp e) (by show (W.lookIn name c).map (·.isSome)=Y false;rw[g,d];rfl) h
def Qb{j:Lr}{Q:Unit->Shared->Prop} (X:K.In s.heap) (I:GG s.heap x dx C mA)
  (n:W.findIn K (.ref C) "__setattr__"=Y (Y (.builtin "object.__setattr__"))) (o:W.plainOver K C=true) (l:W.takerIn K C name=Y Z) (p:W.hasDictIn K C=true)
  (hw:PySem.Within mA j) (m:j.length<=sizeLine)
  (h:∀h',GG h' x dx C (λy=>if y=name then Y v else mA y)->Heap.SameBut dx s.heap h'->Q () { s with heap:=h',toks:=s.toks+2 }):
  wpAny (model prog w) A (setAttr (.ref x) name v) Q E s:=by
 obtain⟨z,J,D⟩:=I.look;refine W.set_plain X J n (W.osa_open (s:={ s with toks:=s.toks+1 }) (r:=Z) X J o l λb=>?_);obtain⟨F,q,g⟩:=W.any_some p;have k:s.heap.get? x=Y ⟨.ref C,Y dx,.plain,#[]⟩:=I.obj;refine ab (au (ab (ab (wpAny_loadPart k (ab (W.Looks.here (s:={ s with toks:=s.toks+1 }) (W.looks_clsIn X q) ?_))))));rw[g];refine au (a:=Y dx) (ab (au (ab ?_)));refine wpAny_nsSet1 (s:={ s with toks:=s.toks+1 }) I.ns λh' d c=>?_;obtain⟨B,t,u,e,f,i⟩:=d.count (PySem.Within.cons name v hw);refine ab (wpAny_lookBehind e (by rw[f];exact pastItsLine_dict (bq i (by rw[ax];omega))) ?_);exact au (h _ ⟨(c.2 _ (Ne.symm I.ne)).trans I.obj,d,I.ne⟩ c)
def MG{a:Lw}{b:List (Str×Value)} (X:K.In s.heap) (c:W.makesIn K C=true)
  (e:W.findIn K (.ref C) "__init__"=Y (Y (.ref f))) (i:W.typeIn K (.ref f)=Y (.type "function"))
  (h:codeAny (model prog w) (A.under (.builtin "type.__call__" ⟨.ref C::a,b⟩)) (.call (.ref f) ⟨.ref ((zB s)+1)::a,b⟩) (W.InitBack ((zB s)+1) R)
   { s with heap:=(s.heap.push W.emptyDict).push (W.instObj C (zB s)) }):
  codeAny (model prog w) A (.call (.ref C) ⟨a,b⟩) R s:=by
 obtain⟨k,g,d,t,j⟩:=s;exact W.make_core (W.makes_of X c) (W.looks_findIn X e) (λself=>W.bind_fn X self i) (.inl rfl) h
end
noncomputable def lT(f:Str)(v:V):List (Str×V)->List (Str×V)
 |[]=>[(f,v)]
 | (g,x)::r=>if g=f then (g,v)::r else (g,x)::lT f v r
theorem vW(f g:Str)(v:V):∀c:List (Str×V),(lT f v c).lookup g=if g=f then Y v else c.lookup g
 |[]=>by
  show List.lookup g [(f,v)]=_;by_cases h:g=f
  ·have a:(g==f)=true:=cg.mpr h;simp only[List.lookup,a,ag h]
  ·have a:(g==f)=false:=aQ.mpr h;simp only[List.lookup,a,aj h]
 | (k,x)::r=>by
  have d:=vW f g v r;rw[show lT f v ((k,x)::r)=(if k=f then (k,v)::r else (k,x)::lT f v r) from rfl];by_cases b:k=f
  ·rw[ag b];by_cases h:g=k
   ·have a:(g==k)=true:=cg.mpr h;simp only[List.lookup,a,ag (h.trans b)]
   ·have a:(g==k)=false:=aQ.mpr h;simp only[List.lookup,a,aj (λe:g=f=>h (e.trans b.symm))]
  ·rw[aj b];by_cases h:g=k
   ·have a:(g==k)=true:=cg.mpr h;simp only[List.lookup,a,aj (λe:g=f=>b (h.symm.trans e))]
   ·have a:(g==k)=false:=aQ.mpr h;simp only[List.lookup,a];exact d
theorem u4(f:Str)(v:V):∀b:List (Str×V),f∈(lT f v b).map (·.1)/\∀g,g∈b.map (·.1)->g∈(lT f v b).map (·.1)
 |[]=>⟨by simp[lT],λg h=>by simp at h⟩
 | (k,x)::r=>by
  obtain⟨d,c⟩:=u4 f v r;rw[show lT f v ((k,x)::r)=(if k=f then (k,v)::r else (k,x)::lT f v r) from rfl];by_cases a:k=f
  ·rw[ag a];subst a;exact⟨by simp,λg h=>by simpa using h⟩
  ·rw[aj a];refine⟨?_,λg h=>?_⟩
   ·rw[ai];exact ah _ d
   ·rw[ai] at h ⊢;rcases ao.mp h with e|e
    ·exact ao.mpr (.inl e)
    ·exact ah _ (c g e)
theorem vX(f:Str)(v:V):∀b:List (Str×V),(lT f v b).length<=b.length+1
 |[]=>by simp[lT]
 | (k,x)::r=>by
  have c:=vX f v r;rw[show lT f v ((k,x)::r)=(if k=f then (k,v)::r else (k,x)::lT f v r) from rfl];by_cases a:k=f
  ·rw[ag a,ax,ax];omega
  ·rw[aj a,ax,ax];omega
def pk.some_of{o:Ow}(r:pk (Y v) o):∃u,o=Y u/\fO v u:=by
 cases o with
 |none=>exact(show False from r).elim
 |some u=>exact⟨u,rfl,r⟩
def pk.none_of{o:Ow}(r:pk Z o):o=Z:=by
 cases o with
 |none=>rfl
 |some u=>exact(show False from r).elim
def Kp{u:Value}(r:fO v u):W.handedIn u=true:=by
 cases v with
 |k9=>cases (show u=Value.none from r);rfl
 |bl b=>cases (show u=Value.bool b from r);rfl
 |int i=>obtain⟨t,e⟩:=(show ∃t,u=Value.int i t from r);cases e;rfl
 |str x=>obtain⟨t,e⟩:=(show ∃t,u=Value.str x t from r);cases e;rfl
 |We b=>obtain⟨t,e⟩:=(show ∃t,u=Value.bytes b t from r);cases e;rfl
 |YS b=>obtain⟨t,e⟩:=(show ∃t,u=Value.float b t from r);cases e;rfl
 |ref a=>cases (show u=Value.ref a from r);rfl
 |ty n=>cases (show u=Value.type n from r);rfl
section
variable {P:Program}{w:World}{H':Hp}{h h':Heap}{C dx:Addr}{fs fs':List (Str×V)}
def Cf(c:sF P w H h)(e:H a=Y (.ins C dx fs)):∃b,GG h a dx C b/\(∀f,pk (fs.lookup f) (b f))/\PySem.Within b (fs.map (·.1))/\fs.length<=1000/\H dx=Y (.own a):=by
 obtain⟨d,z,i,g,b,n,r,q⟩:=(show iR P w H h a (.ins C dx fs) from c a _ e)
 exact⟨b,⟨g,n,i⟩,r,q,z,d⟩
end
structure GH (K:Fg) (C:Addr):Prop where
 pg:W.plainGet K C Str.empty=true
 hd:W.hasDictIn K C=true
 po:W.plainOver K C=true
 sa:W.findIn K (.ref C) "__setattr__"=Y (Y (.builtin "object.__setattr__"))
def GH.get{C:Addr}(c:GH K C)(f:Str):W.plainGet K C f=true:=c.pg
def qA(K:Fg)(C:Addr)(f:Str):Prop:=W.findIn K (.ref C) f=Y Z
def qA.WQ{C:Addr}{f:Str}(n:qA K C f):W.takerIn K C f=Y Z:=by unfold W.takerIn;rw[show W.findIn K (.ref C) f=Y Z from n];rfl
structure GI (K:Fg) (C:Addr) (m:Str) (f:Addr):Prop where
 at_:W.findIn K (.ref C) m=Y (Y (.ref f))
 fn:W.isFn K (.ref f)=true
 kp:W.keepIn K (.ref f)=true
section
variable {C dx:Addr}{fs:List (Str×V)}{f:Str}
def x4{b:Bool}{Q:Px} (I:eT X pins σ H s) (e:H a=Y (.ins C dx fs)) (c:GH X.K C) (n:qA X.K C f) (l:fs.lookup f=Y v)
  (h:∀u s',eT X pins σ H s'->fO v u->Q u s'):wpAny (model X.prog X.w) A (getAttr (.ref a) f b) Q E s:=by
 obtain⟨g,O,r,_,_,_⟩:=Cf I.ir e;obtain⟨u,i,d⟩:=pk.some_of (v:=v) (o:=g f) (by rw[<-l];exact r f);exact Qa I.xC O (c.get f) c.hd n i (Kp d) (h u _ (I.tok _) d)
def x5{m:Str}{g:Addr}{pl:Sem Bool}{Q:Value×Lw->Shared->Prop} (I:eT X pins σ H s) (e:H a=Y (.ins C dx fs)) (c:GH X.K C) (k:GI X.K C m g) (l:fs.lookup m=Z)
  (h:Q (.ref g,[.ref a]) s):wpAny (model X.prog X.w) A (getMethod (.ref a) m pl) Q E s:=by
 obtain⟨b,O,r,_,_,_⟩:=Cf I.ir e;have d:b m=Z:=pk.none_of (by rw[<-l];exact r m);exact ME I.xC O (c.get m) k.at_ k.fn d h
def x6{y:V}{u:Value}{Q:Unit->Shared->Prop} (I:eT X pins σ H s) (e:H a=Y (.ins C dx fs)) (c:GH X.K C) (n:qA X.K C f) (F:fs.length<1000) (m:fO y u)
  (h:∀s',eT X pins σ (upd H a (.ins C dx (lT f y fs))) s'->Q () s'):wpAny (model X.prog X.w) A (setAttr (.ref a) f u) Q E s:=by
 obtain⟨j,O,r,i,_,k⟩:=Cf I.ir e;have p:(fs.map (·.1)).length<=sizeLine:=by rw[aL,sizeLine_eq];omega
 refine Qb I.xC O c.sa c.po n.WQ c.hd i p λB d l=>h _ ?_;have v:∃o,B.get? dx=Y o:=by obtain⟨o,_,_,D,_⟩:=d.ns;exact⟨o,D⟩
 refine I.write (x:=a) (e:=dx) (by rw[e];exact aI) (.inr k) (λb q hb z=>(l.2 b hb).trans z) v ?_;refine⟨by rw[eI O.ne];exact k,?_,O.ne,d.obj,_,d.ns,λg=>?_,λg t=>?_⟩
 ·have:=vX f y fs;omega
 ·show pk ((lT f y fs).lookup g) (if g=f then Y u else j g);rw[vW];by_cases q:g=f
  ·rw[ag q,ag q];exact m
  ·rw[aj q,aj q];exact r g
 ·by_cases q:g=f
  ·rw[q];exact(u4 f y fs).1
  ·refine(u4 f y fs).2 g (i g λz=>t ?_);show (if g=f then Y u else j g)=Z;rw[aj q];exact z
def eT.made(I:eT X pins σ H s):eT X pins σ (upd (upd H (zB s) (.own ((zB s)+1))) ((zB s)+1) (.ins C (zB s) []))
  { s with heap:=(s.heap.push W.emptyDict).push (W.instObj C (zB s)) }:=by
 have d:(s.heap.push W.emptyDict).get? (zB s)=Y W.emptyDict:=aw s.heap rfl;have h:((s.heap.push W.emptyDict).push (W.instObj C (zB s))).get? ((zB s)+1)=Y (W.instObj C (zB s)):=by have:=aw (s.heap.push W.emptyDict) (o:=W.instObj C (zB s)) rfl;rwa[cQ] at this
 have g:(s.heap.push W.emptyDict).Ns (zB s) (λ_=>Z):=⟨W.emptyDict,#[],_,d,rfl,(λe he=>absurd he (by simp)),λ_=>rfl⟩
 have i:=I.laid (a:=(zB s)) (o:=.own ((zB s)+1)) (h':=s.heap.push W.emptyDict) (t':=s.toks) (λb u q=>af _ q) (az _) ⟨_,d⟩;refine i.laid (a:=(zB s)+1) (o:=.ins C (zB s) []) (t':=s.toks) (λb u q=>af _ q) (Nat.le_of_eq (cQ _ _)) ?_;have c:(zB s)≠(zB s)+1:=aG (cF _);refine⟨by rw[eI c,eR],cD _,c,h,λ_=>Z,(Heap.Ns1.of_empty g).at λo q=>af _ q,λ_=>aI,λy f=>absurd rfl f⟩
def Qc{a:Program}{w:World}{b:Env}{Q:Px} (c:attributeBase e f b (eval e b)=eval e b)
  (h:wpAny (model a w) A (eval e b) (λo s₁=>wpAny (model a w) A (getAttr o f true) Q E s₁) E s):wpAny (model a w) A (eval (.Attribute e f pos) b) Q E s :=
 Attribute_any_ h (by rw[arm_eval_Attribute,c])
end
def ZW(K:Fg)(d:TE)(f:Str):TE:=λσ H Q=>d σ H λx c=>∃a C e b v,x=.ref a/\c a=Y (.ins C e b)/\GH K C/\qA K C f/\b.lookup f=Y v/\Q v c
def ZX(K:Fg)(g e:TE)(f:Str):TS:=λD σ H=>e σ H λy h=>g σ h λx d=>∃a C c b,x=.ref a/\d a=Y (.ins C c b)/\GH K C/\qA K C f/\b.length<1000 /\
 D.nx σ (upd d a (.ins C c (lT f y b)))
def ZY(X:Cx)(c:Operator)(b:V->V->Hp->VK->Prop):Prop :=
 ∀(a:Ax) (s:Shared) (σ:St) (H:Hp) (x y:V) (u v:Value) (Q:VK),eT X a σ H s->fO x u->fO y v->b x y H Q->(zw X) (inplaceOp c u v) (EP X a σ Q) X.xe s
def Qd(K:Fg)(i h:TE)(j:V->V->Hp->VK->Prop)(f:Str):TS:=λD σ H=>i σ H λx g=>∃a C k d v,x=.ref a/\g a=Y (.ins C k d)/\GH K C/\qA K C f/\d.lookup f=Y v /\
 h σ g λy l=>j v y l λz e=>∃c b,e a=Y (.ins C c b)/\b.length<1000/\D.nx σ (upd e a (.ins C c (lT f z b)))
section
variable {value:Expr}{f:Str}{pos' WR:Pos}{ta tv:TE}
def Cg(i:PE X e ta)(j:attributeBase e f X.env (eval e X.env)=eval e X.env):PE X (.Attribute e f pos) (ZW X.K ta f):=by intro b s σ H Q I h;refine Qc j (gS (@i b s σ H _ I h) ?_);rintro u y ⟨x,r,p,d,a,C,A,z,v,k,m,c,n,l,q⟩;subst k;obtain rfl:u=Value.ref a:=d;exact x4 p m c n l λt w o g=>⟨v,r,o,g,q⟩
def GJ(p:PE X o ta)(k:PE X value tv)(m:swapsWith value (Y (.Attribute o f pos')) pos.line X.env=pure false):PS X (.Assign [.Attribute o f pos'] value pos) (ZX X.K ta tv f):=by intro b s σ H D I h;refine plainObj_wpAny_Assign_Attribute (gS (@k b s σ H _ I h) ?_) m;rintro u d ⟨y,A,z,e,q⟩;refine gS (@p b d σ A _ z q) ?_;rintro j E ⟨x,J,w,g,a,C,G,F,r,t,c,n,l,i⟩;subst r;obtain rfl:j=Value.ref a:=g;exact x6 w t c n l e λB v=>⟨σ,_,v,i⟩
def Kq{i:Operator}{g:V->V->Hp->VK->Prop}(J:PE X o ta)(G:PE X value tv)(d:ZY X i g):PS X (.AugAssign (.Attribute o f WR) i value pos) (Qd X.K ta tv g f):=by intro b s σ H D I h;refine wpAny_AugAssign_AttributeAny (gS (@J b s σ H _ I h) ?_);rintro E s1 ⟨x,W,T,t,a,C,dx,fs,v,M,N,c,n,l,q⟩;subst M;obtain rfl:E=Value.ref a:=t;refine x4 T N c n l λu m S w=>gS (@G b m σ W _ S q) ?_;rintro j k ⟨y,U,R,r,B⟩;refine gS (@d b k σ U v y u j _ R w r B) ?_;rintro w4 s4 ⟨z,H3,Q,p,O,L,e,F,A⟩;exact x6 Q e c n F p λs5 P=>⟨σ,_,P,A⟩
end
section
variable {Q:Px}{c:Value}{b:Bool}
end
structure iD (k:Nat) (A:Around):Prop where
 hd:A.handled=Z
 dp:A.depth+3*k+5<recursionLimit
 un:A.units+16*k+200<cLine
def iD.mono{j k:Nat}(r:iD k A)(h:j<=k):iD j A:=⟨r.hd,by have:=r.dp;omega,by have:=r.un;omega⟩
theorem iD.deeper{k:Nat}{A:Around}(r:iD (k+1) A)(a:Env):iD k (A.deeper a) :=
 ⟨r.hd,by have:=r.dp;show A.depth+1+3*k+5<_;omega,by have:=r.un;show A.units+3+16*k+200<_;omega⟩
def GK{C:Addr}{a:Lw}{b:List (Str×Value)}:(A.under (.builtin "type.__call__" ⟨.ref C::a,b⟩)).depth=A.depth+1:=by
 first|rfl|simp[Around.under,Code.weight,Code.isCreation,Code.isGuard,Code.isCaller,Code.frames,Code.isFrame,guardIds]
def GL{C:Addr}{a:Lw}{b:List (Str×Value)}:(A.under (.builtin "type.__call__" ⟨.ref C::a,b⟩)).units=A.units+1:=by
 first|rfl|simp[Around.under,Code.cUnits,Code.frames,Code.isFrame]
def iD.make{k:Nat}(r:iD (k+1) A)(C:Addr)(a:Lw)(b:List (Str×Value)):iD k (A.under (.builtin "type.__call__" ⟨.ref C::a,b⟩)) :=
 ⟨r.hd,by have:=r.dp;rw[GK];omega,by have:=r.un;rw[GL];omega⟩
theorem iD.depth{k:Nat}{A:Around}(r:iD k A):A.depth<recursionLimit:=by have:=r.dp;omega
theorem iD.units{k:Nat}{A:Around}(r:iD k A):A.units+64<cLine:=by have:=r.un;omega
def Ue:TA:=λ_ H Q=>Q [] H
def WS(c:TE)(b:TA):TA:=λσ H Q=>c σ H λx e=>b σ e λa d=>Q (x::a) d
section
variable {te:TE}{t:TA}
def sM:PA X [] Ue:=λ_ _ _ _ H Q I h=>a8 ⟨[],H,I,.nil,h⟩
def oA(m:PE X e te)(l:PA X es t)(k:zE e es X:=by rfl):PA X (e::es) (WS te t):=by intro b a s σ H Q I h;rw[k];show wpAny _ _ (spliced ((false,eval e X.env)::backTo b (starEach es X.env))) _ _ s;refine aS (gS (@m a s σ H _ I h) ?_);rintro u d ⟨x,q,o,g,j⟩;exact gS (@l b a d σ q _ o j) <| by rintro r v ⟨c,p,n,f,i⟩;exact⟨x::c,p,n,.cons g f,i⟩
def ZZ(t:TA):TE:=λσ H Q=>t σ H λa b=>a.length<=sizeLine/\∀p,b p=Z->Q (.ref p) (upd b p (.tup a))
def Z0(t:TA):TE:=λσ H Q=>t σ H λa b=>a.length<=sizeLine/\∀p,b p=Z->Q (.ref p) (upd b p (.lst a))
def MI{x1}(h:PA X es t):PE X (.Tuple es x1 pos) (ZZ t):=by intro a s σ H Q I j;refine wpAny_Tuple_spliced (gS (@h pos a s σ H _ I j) ?_);rintro i c ⟨g,f,d,r,z,q⟩;refine⟨by rw[<-r.length];exact z,?_⟩;have k:f (zB c)=Z:=d.ir.fresh (az _);refine⟨.ref (zB c),upd f (zB c) (.tup g),d.laid (t':=c.toks) (λb u e=>af _ e) (az _) ?_,rfl,q _ k⟩;exact⟨z,i,r,⟨_,aw _ rfl,rfl,_,rfl⟩⟩
def GN(h:PA X es t):PE X (.List es pos) (Z0 t):=by intro a s σ H Q I j;refine wpAny_List_spliced (gS (@h pos a s σ H _ I j) ?_);rintro i c ⟨g,f,d,r,z,q⟩;refine⟨by rw[<-r.length];exact z,?_⟩;have k:f (zB c)=Z:=d.ir.fresh (az _);refine⟨.ref (zB c),upd f (zB c) (.lst g),d.laid (t':=c.toks) (λb u e=>af _ e) (az _) ?_,rfl,q _ k⟩;exact⟨z,i,0,r,aw _ rfl⟩
end
abbrev Sp:=List V->Hp->VK->XK->Prop
abbrev MJ:=List Env->Hp->Shared->XK->Value->Shared->Prop
structure GO (P:Program) (w:World) (K:Fg) (mg:Str->Ow) (base:Heap) (A:Around) (outer:List Env) (s:Shared) (H:Hp):Prop where
 frames:A.frames=Y outer
 mod:Mod K mg base
 bs:∀b o,base.get? b=Y o->s.heap.get? b=Y o/\H b=Z
 SD:base.objs.size<=(zB s)
 sJ:s.heap.FunFrames base outer
 Mp:∀b∈Gs outer,H b=Z
 ir:sF P w H s.heap
 bare:AllBare s.gens
def CE(a:List Env)(P:Program)(w:World)(H:Hp)(s:Shared)(Q:VK)(u:Value)(b:Shared):Prop :=
 ∃v c,b.os=s.os/\AllBare b.gens/\Un (Gs a) [] H c s.heap b.heap/\sF P w c b.heap/\fO v u/\Q v c
def CR(c:MJ)(a:List Env)(P:Program)(w:World)(H:Hp)(s:Shared)(Q:VK)(E:XK)(r:Result)(b:Shared):Prop :=
 match r with
 |.ok (.ret u)=>CE a P w H s Q u b
 |.ok _=>False
 |.error e=>c a H s E e b
structure kX (P:Program) (w:World) (K:Fg) (mg:Str->Ow) (base:Heap) (CX:MJ) (k:Nat) (f:Addr) (fd:FuncData) (ps:Lr) (sp:Sp):Prop where
 len:∀vs H Q E,sp vs H Q E->vs.length=ps.length
 run:∀(A:Around) (outer:List Env) (s:Shared) (H:Hp) (args:Args) (us:Lw) (vs:List V) (Q:VK) (E:XK),iD k A->GO P w K mg base A outer s H->BindsTo s fd args (ps.zip us)->fT vs us->sp vs H Q E ->
  codeAny (model P w) A (.call (.ref f) args) (CR CX outer P w H s Q E) s
theorem kX.mono{P:Program}{w:World}{K:Fg}{g:Str->Ow}{a:Heap}{l:MJ}{j k:Nat}{f:Addr}{i:FuncData}{e:Lr}{d:Sp}(F:kX P w K g a l j f i e d)(h:j<=k):
  kX P w K g a l k f i e d:=⟨F.len,λA b s H c m vs Q E n=>F.run A b s H c m vs Q E (n.mono h)⟩
def GO.make{P:Program}{w:World}{b:Heap}{a:List Env}(e:GO P w K mg b A a s H)(C:Addr)(c:Lw)(d:List (Str×Value)):
  GO P w K mg b (A.under (.builtin "type.__call__" ⟨.ref C::c,d⟩)) a s H:=⟨by first|exact e.frames|(simpa [Around.under,Code.envs,Code.isFrame,pushEnvs] using e.frames),e.mod,e.bs,e.SD,e.sJ,e.Mp,e.ir,e.bare⟩
section
variable {s':Shared}
def eT.WT(I:eT X pins σ H s):GO X.prog X.w X.K X.mg X.base X.A X.stack s H :=
 ⟨I.ok.frames,I.ok.mod,I.bs,bq I.ok.SD I.sz,I.stack,I.IP,I.ir,I.bare⟩
def eT.after{Q:VK}{u:Value}(I:eT X pins σ H s)(h:CE X.stack X.prog X.w H s Q u s'):EP X pins σ Q u s':=by obtain⟨v,k,i,a,f,e,r,q⟩:=h;obtain⟨j,g,d,t,c⟩:=s';obtain rfl:c=s.os:=i;exact⟨v,k,I.call (h':=j) (g':=g) (d':=d) (t':=t) (ch:=[]) f e a (λb z=>absurd z (by simp)),r,q⟩
end
def WU(c:Sp)(a:List V)(E:XK)(t:TA):TE:=λσ H Q=>t σ H λb d=>c (b++a) d Q E
def SI(C:Addr)(m:Str)(f:Sp)(b:List V)(E:XK)(e:TE)(t:TA):TE:=λσ H Q=>e σ H λx d=>∃a g c,x=.ref a/\d a=Y (.ins C g c)/\c.lookup m=Z /\
 t σ d λvs h=>f (x::(vs++b)) h Q E
def SJ(C:Addr)(e:Sp)(b:List V)(E:XK)(t:TA):TE:=λσ H Q=>t σ H λd c=>∀x a,c x=Z->c a=Z->a≠x ->
 e (.ref x::(d++b)) (upd (upd c a (.own x)) x (.ins C a [])) (λv f=>v=.k9/\Q (.ref x) f) E
def kG(K:Fg)(c:FuncData)(a:Lr)(b:Lw):Prop :=
 ∀(s:Shared) (us:Lw),K.In s.heap->(us++b).length=a.length->BindsTo s c ⟨us,[]⟩ (a.zip (us++b))
def kG.all{a:Lr}(h:∀us:Lw,us.length=a.length->bindArgs fd ⟨us,[]⟩=pure (a.zip us)):kG K fd a []:=λs us _ b=>by rw[aM] at b ⊢;exact .of_eq (h us b)
def qB(c:MJ)(X:Cx)(E:XK):Prop:=∀(a:Ax) (σ:St) (H:Hp) (s:Shared) (e:Value) (b:Shared),eT X a σ H s->c X.stack H s E e b->X.xe e b
section
variable {CX:MJ}{k:Nat}{f C:Addr}{ps:Lr}{sp:Sp}{Ec:List V}{ds:Lw}{E:XK}{m:Str}{ta:TE}{t:TA}
theorem x8{Q:VK}{us:Lw} (F:kX X.prog X.w X.K X.mg X.base CX k f fd ps sp) (g:iD k X.A) (l:kG X.K fd ps ds) (j:fT Ec ds) (d:qB CX X E)
  (I:eT X pins σ H s) (r:fT vs us) (h:sp (vs++Ec) H Q E):(zw X) (call (.ref f) us) (EP X pins σ Q) X.xe s:=by
 have b:fT (vs++Ec) (us++ds):=r.append j;have i:(us++ds).length=ps.length:=by rw[<-b.length];exact F.len _ _ _ _ h
 refine wpAny_call (cR (F.run X.A X.stack s H ⟨us,[]⟩ (us++ds) (vs++Ec) Q E g I.WT (l s us I.xC i) b h) λr c a=>?_);cases r with
 |error e=>exact d pins σ H s e c I a
 |ok m=>
  cases m with
  |ret u=>exact I.after a
  |next=>exact False.elim a
  |brk=>exact False.elim a
  |cont=>exact False.elim a
def xG(F:kX X.prog X.w X.K X.mg X.base CX k f fd ps sp) (i:iD k X.A) (m:Gl X x) (j:X.mg x=Y (.ref f)) (l:W.keepIn X.K (.ref f)=true) (u:kG X.K fd ps ds) (o:fT Ec ds) (g:qB CX X E)
  (v:PA X (e::es) t) (c:zg x:=by decide) (n:zE e es X:=by rfl) (b:(backTo pos (starEach es X.env)).any (·.1)=false:=by rfl):
  PE X (.Call (.Name x p) (e::es) [] pos) (WU sp Ec E t):=by
 intro a s σ H Q I h;refine aZ (oz I m j ?_ c);refine W.callWith_K (h₀:=X.base) I.ok.mod.TR l (gS (@v pos a s σ H _ I h) ?_) n b;rintro z B ⟨y,C,d,r,q⟩;refine⟨d.xC,?_⟩;exact x8 F i u o g d r q
def Ci{pl:Sem Bool} (G:PE X o ta) (c:GH X.K C) (i:GI X.K C m f) (F:kX X.prog X.w X.K X.mg X.base CX k f fd ps sp) (D:iD k X.A) (L:kG X.K fd ps ds) (J:fT Ec ds) (z:qB CX X E) (M:PA X (e::es) t)
  (d:zE e es X:=by rfl) (g:(backTo pos (starEach es X.env)).any (·.1)=false:=by rfl)
  (B:eval (.Call (.Attribute o m apos) (e::es) [] pos) X.env=(do
   let ov <-eval o X.env
   standAt apos.atName
   let (f,first) <-holding [ov] (getMethod ov m pl)
   callWith pos f first (backTo pos (starEach (e::es) X.env)) (backToKw pos (keywordEach [] X.env))):=by rfl):
  PE X (.Call (.Attribute o m apos) (e::es) [] pos) (SI C m sp Ec E ta t):=by
 intro b s σ H Q I h;refine W.methodCall_KW (pl:=pl) (gS (@G b s σ H _ I h) ?_) B;rintro u p ⟨x,P,n,v,a,T,S,N,O,l,q⟩;subst N;obtain rfl:u=Value.ref a:=v;refine x5 n O c i l ?_;refine W.callWith_K (first:=[.ref a]) (h₀:=X.base) I.ok.mod.TR i.kp (gS (@M pos b p σ P _ n q) ?_) d g;rintro us R ⟨vs,U,j,r,y⟩;refine⟨j.xC,?_⟩;exact x8 (us:=.ref a::us) (vs:=.ref a::vs) F D L J z j (.cons rfl r) y
def Ed{pl:Sem Bool} (p:PE X o ta) (c:GH X.K C) (e:GI X.K C m f) (F:kX X.prog X.w X.K X.mg X.base CX k f fd ps sp) (n:iD k X.A) (t:kG X.K fd ps ds) (r:fT Ec ds) (i:qB CX X E)
  (j:eval (.Call (.Attribute o m apos) [] [] pos) X.env=(do
   let ov <-eval o X.env
   standAt apos.atName
   let (f,first) <-holding [ov] (getMethod ov m pl)
   callWith pos f first (backTo pos (starEach [] X.env)) (backToKw pos (keywordEach [] X.env))):=by rfl):
  PE X (.Call (.Attribute o m apos) [] [] pos) (SI C m sp Ec E ta Ue):=by
 intro b s σ H Q I h;refine W.methodCall_KW (pl:=pl) (gS (@p b s σ H _ I h) ?_) j;rintro u z ⟨x,G,d,g,a,D,B,v,y,l,q⟩;subst v;obtain rfl:u=Value.ref a:=g;refine x5 d y c e l ?_;exact W.callWith_K0 (first:=[.ref a]) d.xC e.kp (x8 (us:=[.ref a]) (vs:=[.ref a]) F n t r i d (.cons rfl .nil) q)
structure Mk (K:Fg) (C f:Addr):Prop where
 makes:W.makesIn K C=true
 init:W.findIn K (.ref C) "__init__"=Y (Y (.ref f))
 fn:W.isFn K (.ref f)=true
 kp:W.keepIn K (.ref C)=true
theorem Ee{Q:VK}{us:Lw} (M:Mk X.K C f) (F:kX X.prog X.w X.K X.mg X.base CX k f fd ps sp) (m:iD (k+1) X.A) (p:kG X.K fd ps ds) (o:fT Ec ds)
  (l:qB CX X E) (I:eT X pins σ H s) (r:fT vs us)
  (h:∀x dx,H x=Z->H dx=Z->dx≠x->sp (.ref x::(vs++Ec)) (upd (upd H dx (.own x)) x (.ins C dx [])) (λv H2=>v=.k9/\Q (.ref x) H2) E):
  (zw X) (call (.ref C) us) (EP X pins σ Q) X.xe s:=by
 have d:=h ((zB s)+1) (zB s) (I.ir.fresh (eh _)) (I.ir.fresh (az _)) (aG (cF _));have b:=eT.made (C:=C) I;have c:fT (V.ref ((zB s)+1)::(vs++Ec)) (Value.ref ((zB s)+1)::(us++ds)):=.cons rfl (r.append o);have n:(Value.ref ((zB s)+1)::us++ds).length=ps.length:=by have e:=c.length;rw[F.len _ _ _ _ d] at e;exact e.symm
 refine wpAny_call (MG (f:=f) I.xC M.makes M.init (cg.mp M.fn) (cR (F.run _ X.stack _ _ ⟨Value.ref ((zB s)+1)::us,[]⟩ (Value.ref ((zB s)+1)::(us++ds)) _ _ E (m.make C us [])
  (b.WT.make C us []) (p _ (Value.ref ((zB s)+1)::us) b.xC n) c d) λr g a=>?_))
 cases r with
 |error e=>exact l pins σ _ _ e g b a
 |ok q=>
  cases q with
  |ret u=>obtain⟨v,z,y,i,t,j⟩:=b.after a;subst t;exact⟨i,⟨V.ref ((zB s)+1),z,y,rfl,j⟩⟩
  |next=>exact False.elim a
  |brk=>exact False.elim a
  |cont=>exact False.elim a
def Cj(M:Mk X.K C f) (F:kX X.prog X.w X.K X.mg X.base CX k f fd ps sp) (i:iD (k+1) X.A) (l:Gl X x) (j:X.mg x=Y (.ref C)) (o:kG X.K fd ps ds) (n:fT Ec ds) (g:qB CX X E)
  (u:PA X (e::es) t) (c:zg x:=by decide) (m:zE e es X:=by rfl) (b:(backTo pos (starEach es X.env)).any (·.1)=false:=by rfl):
  PE X (.Call (.Name x p) (e::es) [] pos) (SJ C sp Ec E t):=by
 intro a s σ H Q I h;refine aZ (oz I l j ?_ c);refine W.callWith_K (h₀:=X.base) I.ok.mod.TR M.kp (gS (@u pos a s σ H _ I h) ?_) m b;rintro y z ⟨v,B,d,r,q⟩;refine⟨d.xC,?_⟩;exact Ee M F i o n g d r q
def ML(M:Mk X.K C f) (F:kX X.prog X.w X.K X.mg X.base CX k f fd ps sp) (d:iD (k+1) X.A) (g:Gl X x) (e:X.mg x=Y (.ref C)) (j:kG X.K fd ps ds) (i:fT Ec ds) (c:qB CX X E)
  (a:zg x:=by decide):PE X (.Call (.Name x p) [] [] pos) (SJ C sp Ec E Ue):=by
 intro b s σ H Q I h;refine aZ (oz I g e ?_ a);exact W.callWith_K0 I.xC M.kp (Ee (us:=[]) M F d j i c I .nil h)
end
section
variable {CX:MJ}{k:Nat}{f C:Addr}{ps ks:Lr}{sp:Sp}{E:XK}{m:Str}{aa3:Pos}{kws:List Keyword}{te ta:TE}{t tk:TA}{nm:Option Str}
variable {g:Lw->Lw->Lw}{gV:List V->List V->List V}
end
structure iy (N P:Lr) (sc:Scope):Prop where
 kind:sc.kind=.function
 co:sc.isCoroutine=false
 gen:sc.isGenerator=false
 nd:N.Nodup
 pre:N.take P.length=P
 par:∀x∈P,sc.names.lookup x=Y .local\/sc.names.lookup x=Y .cell
 Ug:∀y∈sc.names,y.2≠.free
theorem Bb{b:Str->Option NameKind}{x:Str}:∀{a:List (Str×Value)}{m:Str->Ow},(∀v,(x,v)∉a)->bindL b a m x=m x
 |[],_,_=>rfl
 | (n,v)::r,m,h=>by
  unfold bindL;rw[Bb λw hw=>h w (ah _ hw)];split
  ·have:x≠n:=by rintro rfl;exact h v aY
   simp[this]
  ·rfl
theorem Bc{b:Str->Option NameKind}{x:Str}:∀{a:List (Str×Value)}{m:Str->Ow},(∀v,(x,v)∉a)->bindC b a m x=m x
 |[],_,_=>rfl
 | (n,v)::r,m,h=>by
  unfold bindC;rw[Bc λw hw=>h w (ah _ hw)];split
  ·rfl
  ·have:x≠n:=by rintro rfl;exact h v aY
   simp[this]
theorem Bd{a:Str->Option NameKind}{x:Str}{v:Value}:∀{P:Lr}{b:Lw}{i:Nat}{m:Str->Ow},P.Nodup->P[i]?=Y x->b[i]?=Y v->a x=Y .local ->
  bindL a (P.zip b) m x=Y v
 |[],_,_,_,_,h,_,_=>by simp at h
 |_::_,[],_,_,_,_,h,_=>by simp at h
 |p::P,w::b,0,m,nd,h1,h2,hk=>by simp at h1 h2;subst h1;subst h2;show bindL a ((p,w)::P.zip b) m p=_;unfold bindL;rw[Bb λv c=>(bc.mp nd).1 (d8 c).1,ag hk];simp
 |p::P,w::b,i+1,m,nd,h1,h2,hk=>by show bindL a ((p,w)::P.zip b) m x=_;unfold bindL;exact Bd (i:=i) (bc.mp nd).2 (by simpa using h1) (by simpa using h2) hk
theorem Be{a:Str->Option NameKind}{x:Str}{v:Value}:∀{P:Lr}{b:Lw}{i:Nat}{m:Str->Ow},P.Nodup->P[i]?=Y x->b[i]?=Y v->a x≠Y .local ->
  bindC a (P.zip b) m x=Y v
 |[],_,_,_,_,h,_,_=>by simp at h
 |_::_,[],_,_,_,_,h,_=>by simp at h
 |p::P,w::b,0,m,nd,h1,h2,hk=>by simp at h1 h2;subst h1;subst h2;show bindC a ((p,w)::P.zip b) m p=_;unfold bindC;rw[Bc λv c=>(bc.mp nd).1 (d8 c).1,aj hk];simp
 |p::P,w::b,i+1,m,nd,h1,h2,hk=>by show bindC a ((p,w)::P.zip b) m x=_;unfold bindC;exact Be (i:=i) (bc.mp nd).2 (by simpa using h1) (by simpa using h2) hk
def lh(N:Lr)(vs:List V):St:=vs.map Y++List.replicate (N.length - vs.length) Z
noncomputable def u5(j:MJ)(P:Program)(w:World)(K:Fg)(i:Str->Ow)(d:Heap)(N:Lr)(c:Str)(a:Scope)(f:Addr)(h:Value)(A:Around)(b:List Env)(s:Shared)(H:Hp)(E:XK):Cx where
 prog:=P
 w:=w
 K:=K
 mg:=i
 base:=d
 A:=A.deeper (envOfC c a (zB s) f h)
 N:=N
 s₀:=s
 H₀:=H
 env:=envOfC c a (zB s) f h
 outer:=b
 stack:=envOfC c a (zB s) f h::b
 ex:=[]
 calm:=true
 fn:=λ_=>true
 pn:=[]
 xe:=λe k=>wpAny (model P w) (A.deeper (envOfC c a (zB s) f h)) (leaving (envOfC c a (zB s) f h) e) (λ_ g=>j b H s E e g) (λl g=>j b H s E l g) k
def Ef{a:Scope}(h:a.names.lookup x=Y .cell):∃c,(cellsFrom n a.names []).lookup x=Y c:=by have q:=W.cellsFrom_some a.names n [] (.inl h);exact Option.isSome_iff_exists.mp q
def Kr{Q:MJ}{P:Program}{w:World}{l:Heap}{N o:Lr}{g:Str}{f:Addr}{I:Value}{d:List Env}{L:Shared}{E:XK}{J:Lw}
  (S:iy N o scope) (U:A.handled=Z) (m:GO P w K mg l A d s H) (X:vs.length=o.length) (r:fT vs J)
  (x:InCallC s (zB s) (bindL (envOfC g scope (zB s) f I).kindOf (o.zip J) λ_=>Z) (cellsFrom ((zB s)+1) scope.names []) (bindC (envOfC g scope (zB s) f I).kindOf (o.zip J) λ_=>Z) L):
  eT (u5 Q P w K mg l N g scope f I A d s H E) [] (lh N vs) H L:=by
 have T:o.length<=N.length:=by have:=bw List.length S.pre;rw[dS] at this;omega
 obtain⟨G,W,rfl,O⟩:=x.done;have t:∀b:Addr,b∉(u5 Q P w K mg l N g scope f I A d s H E).ex:=λb z=>absurd (show b∈([]:List Addr) from z) (by simp);refine⟨⟨m.mod,S.kind,rfl,rfl,az _,λy z c G j=>?_,λy B=>?_,λy c _ h=>?_,λ_=>U,Around.frames_deeper m.frames,.inr ⟨rfl,rfl⟩,λb z=>absurd z (t b),m.bs,m.SD,λb _ _=>t b,λb z=>absurd z (t b),m.sJ,m.Mp⟩,
  rfl,m.bare,Un.kept O,⟨_,x.toInCall.ns,λi y v G j h3=>?_⟩,λy c h=>⟨_,x.cell y c h⟩,m.ir.fresh (az _),λy c h=>?_,λp D=>absurd (show p∈([]:Ax) from D) (by simp),m.ir.kept O,?_⟩
 ·exact name_of_addr x.apart (bx G) (bx j)
 ·have B:scope.names.lookup y=Y .cell\/scope.names.lookup y=Y .free:=B;rcases B with B|B
  ·exact Ef B
  ·exact absurd rfl (S.Ug _ (bx B))
 ·exact dB (x.above y c (bx h))
 ·have F:i<vs.length:=by
   unfold lh at j;by_cases F:i<vs.length
   ·exact F
   ·rw[aK (by simpa using F)] at j;rw[bt] at j;split at j<;>cases j
  have V:vs[i]?=Y v:=by
   unfold lh at j;rw[aT (by simpa using F),ay] at j;cases e:vs[i]? with
   |none=>rw[e] at j;cases j
   |some a=>rw[e] at j;cases j;rfl
  obtain⟨u,M,R⟩:=r.get V;have D:o[i]?=Y y:=by rw[<-S.pre,List.getElem?_take_of_lt (by omega)];exact G
  have C:o.Nodup:=by rw[<-S.pre];exact S.nd.sublist (List.take_sublist _ _)
  refine⟨u,R,?_⟩;rcases S.par y (et D) with k|k
  ·exact .inl ⟨k,Bd C D M k⟩
  ·obtain⟨c,e⟩:=Ef (n:=(zB s)+1) k;refine .inr ⟨.inl k,c,e,?_⟩;have q:=x.cell y c e;rw[Be C D M (by show scope.names.lookup y≠_;rw[k];decide)] at q;exact q
 ·exact m.ir.fresh (dB (x.above y c (bx h)))
 ·unfold lh;show _=N.length;rw[bh,aL,List.length_replicate];omega
def WV{D:MJ}{P:Program}{w:World}{g:Heap}{k:Nat}{f:Addr}{h a:Str}{d:Arguments}{dV X B U c ct oc:Value}{an od:Option Addr}
  {L:Array Ow}{N C:Lr}{F:Sp} (lk:K.lookup f=Y ⟨oc,od,.func (W.fnOf h a d body scope dV X B U an c ct),L⟩) (R:W.codeIn K c a=true) (S:iy N C scope)
  (l:∀vs H Q E,F vs H Q E->vs.length=C.length)
  (j:∀(A:Around) (outer:List Env) (s:Shared) (H:Hp) (vs:List V) (Q:VK) (E:XK),iD k (A.deeper (envOfC a scope (zB s) f c))->F vs H Q E ->
   ∃t,vV (u5 D P w K mg g N a scope f c A outer s H E) body t/\t { nx:=λ_ H'=>Q .k9 H',rt:=Q } (lh N vs) H):
  kX P w K mg g D (k+1) f (W.fnOf h a d body scope dV X B U an c ct) C F:=by
 refine⟨l,λA outer s H args us vs Q E O z hb r m=>?_⟩;have hl:=l _ _ _ _ m;have KX:K.In s.heap:=z.mod.TR.keeps λb o e=>(z.bs b o e).1;have M:s.heap.NoLimit:=z.mod.nolimit.keeps λb o e=>(z.bs b o e).1;have i:∀y∈C.zip us,scope.names.lookup y.1=Y .local\/(scope.names.lookup y.1=Y .cell/\((cellsFrom ((zB s)+1) scope.names []).lookup y.1).isSome=true):=by
  rintro⟨n,v⟩ hy;rcases S.par n (d8 hy).1 with q|q
  ·exact .inl q
  ·exact .inr ⟨q,W.cellsFrom_some _ _ _ (.inl q)⟩
 refine codeAny_call_function O.depth (KX _ _ lk) rfl S.co S.gen rfl (W.codeRec_of KX R) (hb _ _ _ _ ?_);refine wpAny_newFunctionEnv_cells S.kind i λenv he T x=>?_;subst he;refine⟨M.keeps x.toInCall.keep,codeAny_func ?_⟩;obtain⟨t,ht,hq⟩:=j A outer s H vs Q E (O.deeper _) m;have I:eT (u5 D P w K mg g N a scope f c A outer s H E) [] (lh N vs) H T:=Kr S O.hd z hl r x;refine bK (@ht [] T (lh N vs) H _ I hq) (λfl G hs=>?_) λe G hs=>hs;have p:∀{σ':St}{H':Hp}{v:V}{u:Value},eT (u5 D P w K mg g N a scope f c A outer s H E) [] σ' H' G->fO v u->Q v H'->CE outer P w H s Q u G :=
  λ{σ' H' v u} J rv q=>⟨v,H',J.os,J.bare,J.base,J.ir,rv,q⟩
 cases fl with
 |ret u=>obtain⟨v,σ',H',J,rv,q⟩:=hs;exact p J rv q
 |next=>obtain⟨σ',H',J,q⟩:=hs;exact p (v:=V.k9) (u:=Value.none) J rfl q
 |brk=>obtain⟨_,_,_,q⟩:=hs;exact False.elim q
 |cont=>obtain⟨_,_,_,q⟩:=hs;exact False.elim q
section
variable {t:TA}{id T:String}{r:List V->Hp->VK->Prop}
def Z1(r:List V->Hp->VK->Prop)(t:TA):TE:=λσ H Q=>t σ H λa b=>r a b Q
def MM(q:jL X (.builtin id) r) (n:Gl X x) (m:X.mg x=Z) (k:bootBuiltins x=Y (.builtin id)) (u:PA X (e::es) t) (l:x≠"__name__":=by decide) (c:zg x:=by decide)
  (o:zE e es X:=by rfl) (b:(backTo pos (starEach es X.env)).any (·.1)=false:=by rfl):PE X (.Call (.Name x p) (e::es) [] pos) (Z1 r t):=by
 intro a s σ H Q I h;refine aZ (o6 I n m k ?_ l c);exact df (gS (@u pos a s σ H _ I h) <| by rintro f g ⟨d,w,v,i,j⟩;exact @q a g σ w d f Q v i j) o b
def u6(q:jL X (.type T) r) (n:Gl X x) (m:X.mg x=Z) (k:bootBuiltins x=Y (.type T)) (u:PA X (e::es) t) (l:x≠"__name__":=by decide) (c:zg x:=by decide)
  (o:zE e es X:=by rfl) (b:(backTo pos (starEach es X.env)).any (·.1)=false:=by rfl):PE X (.Call (.Name x p) (e::es) [] pos) (Z1 r t):=by
 intro a s σ H Q I h;refine aZ (o6 I n m k ?_ l c);exact a0 (gS (@u pos a s σ H _ I h) <| by rintro f g ⟨d,w,v,i,j⟩;exact @q a g σ w d f Q v i j) o b
end
end L2
namespace HT
open PySem PyProof.Rows
section
open PySem.SeqAt
open PySem.AutoSeq1 (wpAny_loadPart')
open PySem.MeetsSeq PySem.MeetsSeq2 PySem.MeetsSeq3
end
section
variable {prog:Program}{w:World}
def Qe{t b:Addr}{d a:Lw}{Q:Px} (x:IsTup s.heap t d.toArray) (y:IsTup s.heap b a.toArray) (p:d≠[])
  (B:a=[]->Q (.ref t) s) (z:a≠[]->Q (.ref (zB s)) { s with heap:=s.heap.push { cls:=.type "tuple",data:=.seq (d++a).toArray } })
  (k:d.length+a.length<=sizeLine):wpAny (model prog w) A (binaryOp .Add (.ref t) (.ref b)) Q E s:=by
 obtain⟨⟨cls,u,data,m⟩,j,r,n,q⟩:=id x;obtain⟨⟨v,i,l,f⟩,c,h,o,g⟩:=id y;simp only at r q h g;subst r q h g;have e:d.toArray++a.toArray=(d++a).toArray:=by simp
 by_cases hw:a=[]
 ·exact d5 ⟨_,j,rfl⟩ ⟨_,c,rfl⟩ dU seq_tuple_add cS cL (cH _ _)
   (tuple_addW1 t b d.toArray a.toArray n o u i m f (by simpa using p) (by simp[hw])) ⟨j,c,B hw⟩
 ·refine d5 ⟨_,j,rfl⟩ ⟨_,c,rfl⟩ dU seq_tuple_add cS cL (cH _ _)
   (tuple_addW2 t b d.toArray a.toArray n o u i m f (by simpa using p) (by simpa using hw) (by rw[ar,ar];exact k)) ⟨j,c,?_⟩
  rw[e];exact z hw
noncomputable def ki(n d:Nat):Option Int->Nat
 |none=>d
 |some v=>if v<0 then (v+(n:Int)).toNat else min v.toNat n
def Uh(n d:Nat)(b:d<=n)(o:Option Int):ki n d o<=n:=by
 cases o with
 |none=>exact b
 |some v=>
  show (if v<0 then (v+(n:Int)).toNat else min v.toNat n)<=n;by_cases a:v<0
  ·rw[ag a];omega
  ·rw[aj a];exact dW _ _
def IX(v:Int)(n d:Nat):(if v<0 then max (v+(n:Int)) 0 else min v (n:Int))=((ki n d (Y v):Nat):Int):=by
 show (if v<0 then max (v+(n:Int)) 0 else min v (n:Int))=(((if v<0 then (v+(n:Int)).toNat else min v.toNat n):Nat):Int)
 by_cases a:v<0
 ·simp only[ag a];omega
 ·simp only[aj a];omega
def GP(a b:Option Int)(n:Nat):Builtin.Slice.sliceAdjust a b 1 (n:Int)=(((ki n 0 a:Nat):Int),((ki n n b:Nat):Int)):=by
 have c:¬ ((1:Int)<0):=by omega
 unfold Builtin.Slice.sliceAdjust;simp only[c,dE];refine Prod.ext ?_ ?_
 ·cases a with
  |none=>rfl
  |some v=>exact IX v n 0
 ·cases b with
  |none=>rfl
  |some v=>exact IX v n n
def GQ(i j:Nat):Builtin.Slice.slicePlaces (i:Int) (j:Int) 1=j - i:=by
 unfold Builtin.Slice.slicePlaces;have a:(1:Int) > 0:=by omega
 simp only[a,b8,Int.ediv_one];split<;>omega
def x9{v:Value}{o:Option Int}{Q:Option Int->Shared->Prop}(p:IsPart v o)(h:Q o s):wpAny (model prog w) A (Builtin.Slice.slicePartIndex v) Q E s:=by
 cases p with
 |none=>exact slicePart_none h
 |int i t=>exact slicePart_int h
def pq{g:Addr}{f e:Value}{a c:Option Int}{Q:Int×Int×Nat->Shared->Prop} (k:s.heap.IsSliceOf g f e .none) (j:IsPart f a) (i:IsPart e c)
  (h:Q (((ki n 0 a:Nat):Int),1,ki n n c - ki n 0 a) s):wpAny (model prog w) A (Builtin.Slice.sliceApplied (.ref g) (pure (n:Int))) Q E s:=by
 obtain⟨m,b,l,d⟩:=id k;unfold Builtin.Slice.sliceApplied Builtin.Slice.sliceFields;refine ab (ab (cq b d (x:=f) rfl (ab (cq b d (x:=e) rfl (ab (cq b d (x:=.none) rfl (au ?_)))))));refine ab (slicePart_none ?_);show wpAny _ _ (if ((1:Int)==0)=true then _ else _) _ _ s;rw[aj (by decide)];refine ab (x9 j (ab (x9 i (ab (au ?_)))));show wpAny _ _ (match Builtin.Slice.sliceAdjust a c 1 (n:Int) with|(a,c)=>pure (a,(1:Int),Builtin.Slice.slicePlaces a c 1)) _ _ s;rw[GP a c n];show wpAny _ _ (pure (((ki n 0 a:Nat):Int),(1:Int),Builtin.Slice.slicePlaces ((ki n 0 a:Nat):Int) ((ki n n c:Nat):Int) 1)) _ _ s;rw[GQ];exact au h
def MN(a:Array Value)(i k:Nat):((List.range k).filterMap λ(m:Nat)=>a[((i:Int)+(m:Int)*1).toNat]?).toArray=((a.toList.drop i).take k).toArray:=by
 have e:(λ(m:Nat)=>a[((i:Int)+(m:Int)*1).toNat]?)=λm=>a[i+m]?:=by
  funext m
  have:((i:Int)+(m:Int)*1).toNat=i+m:=by omega
  rw[this]
 rw[e];have:=pick_run a i k;rw[List.filterMap_map] at this;have b:((λx=>a[x]?)∘λx=>i+x)=λm=>a[i+m]?:=rfl;rw[b] at this;rw[this]
def tI{t f:Addr}{a:Array Value}{n l:Value}{c d:Option Int}{Q:Px} (e:IsTup s.heap t a) (o:s.heap.IsSliceOf f n l .none) (r:IsPart n c) (p:IsPart l d)
  (hw:¬ (ki a.size 0 c=0/\ki a.size a.size d=a.size))
  (h:Q (.ref (zB s)) { s with heap:=s.heap.push { cls:=.type "tuple",data:=.seq ((a.toList.drop (ki a.size 0 c)).take (ki a.size a.size d - ki a.size 0 c)).toArray } })
  (v:a.size<=sizeLine):wpAny (model prog w) A (getItem (.ref t) (.ref f)) Q E s:=by
 have b:sizeOk (.seq ((a.toList.drop (ki a.size 0 c)).take (ki a.size a.size d - ki a.size 0 c)).toArray):=by show ((a.toList.drop (ki a.size 0 c)).take (ki a.size a.size d - ki a.size 0 c)).toArray.size<=sizeLine;rw[ar,dS,List.length_drop,cm];omega
 have B:ki a.size a.size d<=a.size:=Uh _ _ (az _) d;obtain⟨u,g,j,x⟩:=id o;have k:s.TypeIs (.ref f) "slice":=⟨u,g,j⟩
 unfold getItem
 try with_reducible refine bg ?_
 first|refine ab (au ?_)|skip
 refine ab (wpAny_sequenceKey e.typeIs (by decide) ?_);refine ab (cp (name:=zZ "__getitem__") e.typeIs ba
  (dg ba e.typeIs entry_tuple_getitem ?_ (args_tuple_getitem _ _)))
 show wpAny _ _ (Builtin.Tuple.tupleItemsOf (.ref t)>>=_) _ _ s;refine ab (tupleItemsOf_ e ?_);refine ab (cu k ?_);rw[ag (by decide)];refine ab (pq o r p ?_);have i:¬ ((((ki a.size 0 c:Nat):Int)==0&&(1:Int)==1&&(ki a.size a.size d - ki a.size 0 c)==a.size)=true):=by intro q;rw[bD,bD] at q;have z:((ki a.size 0 c:Nat):Int)=0:=eq_of_beq q.1.1;have y:ki a.size a.size d - ki a.size 0 c=a.size:=eq_of_beq q.2;exact hw ⟨by omega,by omega⟩
 show wpAny _ _ (if (((ki a.size 0 c:Nat):Int)==0&&(1:Int)==1&&(ki a.size a.size d - ki a.size 0 c)==a.size)=true then _ else _) _ _ s;rw[aj i,MN]
 first
  |exact ab (m:=Builtin.Tuple.tupleExact _) (cz (au ⟨_,rfl,au h⟩) b)
  |exact ab (m:=Builtin.Tuple.tupleExact _) (cz (ab (au (au ⟨_,rfl,au h⟩))) b)
  |exact ab (ab (m:=Builtin.Tuple.tupleExact _) (cz (au (au ⟨_,rfl,au h⟩)) b))
  |exact ab (ab (m:=Builtin.Tuple.tupleExact _) (cz (au ⟨_,rfl,au h⟩) b))
end
end HT
namespace L2
open PySem PySem.Spec PyProof.Rows
abbrev TO:=St->Hp->(Option Int->Hp->Prop)->Prop
def PO(X:Cx)(e:Option Expr)(t:TO):Prop :=
 ∀⦃a:Ax⦄ (s:Shared) (σ:St) (H:Hp) (Q:Option Int->Hp->Prop),eT X a σ H s->t σ H Q ->
  (zw X) (evalPart e X.env) (λu c=>∃o b,eT X a σ b c/\IsPart u o/\Q o b) X.xe s
def Qf:TO:=λ_ H Q=>Q Z H
def WW(t:TE):TO:=λσ H Q=>t σ H λx a=>∃i,x=.int i/\Q (Y i) a
section
variable {te:TE}{lo hi:Option Expr}{tl th:TO}{p2:Pos}
def Qg:PO X Z Qf:=by intro a s σ H Q I h;rw[evalPart_none];exact au ⟨Z,H,I,.none,h⟩
def Qh(h:PE X e te):PO X (Y e) (WW te):=by intro a s σ H Q I hw;rw[evalPart_some];refine gS (@h a s σ H _ I hw) ?_;rintro u g ⟨x,f,d,b,c⟩;obtain⟨i,rfl,q⟩:=c;obtain⟨t,rfl⟩:=b;exact⟨Y i,f,d,.int i t,q⟩
def IY(X:Cx)(r:V->Option Int->Option Int->Hp->VK->Prop):Prop :=
 ∀(a:Ax) (s:Shared) (σ:St) (H:Hp) (x:V) (v c b:Value) (lo hi:Option Int) (sl:Addr) (Q:VK),eT X a σ H s->fO x v->s.heap.IsSliceOf sl c b .none->IsPart c lo->IsPart b hi->r x lo hi H Q ->
  ∃T d,typeLookup (.type T) "__getitem__"=pure (Y (.builtin d))/\s.TypeIs v T/\(zw X) (getItem v (.ref sl)) (EP X a σ Q) X.xe s
def IY.or{r f:V->Option Int->Option Int->Hp->VK->Prop}(h:IY X r)(k:IY X f):IY X (λx lo hi H Q=>r x lo hi H Q\/f x lo hi H Q):=by
 intro a s σ H x v c b lo hi d Q I e j i g q;rcases q with q|q
 ·exact @h a s σ H x v c b lo hi d Q I e j i g q
 ·exact @k a s σ H x v c b lo hi d Q I e j i g q
def tSl(r:V->Option Int->Option Int->Hp->VK->Prop)(c:TE)(a b:TO):TE:=λσ H Q=>c σ H λx f=>a σ f λl e=>b σ e λu d=>r x l u d Q
theorem Eg{r:V->Option Int->Option Int->Hp->VK->Prop}(z:IY X r)(C:PE X e te)(A:PO X lo tl)(w:PO X hi th):PE X (.Subscript e (.Slice lo hi Z p2) pos) (tSl r te tl th):=by intro a s σ H Q I h;refine Subscript_ (gS (@C a s σ H _ I h) ?_);rintro v j ⟨x,L,J,k,o⟩;refine wpAny_Slice (gS (@A a j σ L _ J o) ?_);rintro f i ⟨l,K,G,t,n⟩;refine gS (@w a i σ K _ G n) ?_;rintro d c ⟨u,g,F,p,m⟩;rw[evalPart_none];refine au ?_;have E:eT X a σ g { c with heap:=c.heap.push { cls:=.type "slice",data:=.fields #[f,d,.none] } }:=F.kept (t':=c.toks) λb M q=>af _ q;obtain⟨T,N,D,y,B⟩:=z a { c with heap:=c.heap.push { cls:=.type "slice",data:=.fields #[f,d,.none] } } σ g x v f d l u (zB c) Q E k (Heap.IsSliceOf.new ..) t p m;show (zw X) (subscriptTail e (.Slice lo hi Z p2) v (.ref (zB c))) (EP X a σ Q) X.xe { c with heap:=c.heap.push { cls:=.type "slice",data:=.fields #[f,d,.none] } };exact tail_any (ops:=[.ref (zB c),v]) y D B (by with_unfolding_all rfl)
def Eh(a:List V)(b c:Option Int):List V:=(a.drop (HT.ki a.length 0 b)).take (HT.ki a.length a.length c - HT.ki a.length 0 b)
def vY(a:List V)(b c:Option Int):(Eh a b c).length<=a.length:=by unfold Eh;rw[dS,List.length_drop];omega
def Z2(K:Fg):V->Option Int->Option Int->Hp->VK->Prop:=λx c d H Q=>∃a b,x=.ref a/\qq K H a b /\
 ¬ (HT.ki b.length 0 c=0/\HT.ki b.length b.length d=b.length)/\∀p,H p=Z->Q (.ref p) (upd H p (.tup (Eh b c d)))
def Ui:IY X (Z2 X.K):=by
 intro i s σ H x v w u e g y Q I l t n m h;obtain⟨a,d,rfl,p,hw,q⟩:=h;cases l;obtain⟨f,r,k,j⟩:=I.tuple p;have c:f.toArray.size=d.length:=by rw[ar];exact r.length.symm
 refine⟨"tuple",_,ba.lookup,k.typeIs,?_⟩;refine HT.tI k t n m (by rw[c];exact hw) ?_ (by rw[c];exact j);rw[c];refine⟨.ref (zB s),_,I.laid (t':=s.toks) (o:=.tup (Eh d e g)) (λb z q=>af _ q) (az _) ?_,rfl,q _ (I.ir.fresh (az _))⟩;exact⟨bq (vY d e g) j,_,(r.drop (HT.ki d.length 0 e)).take (HT.ki d.length d.length g - HT.ki d.length 0 e),IsTup.new _ _⟩
def WX(K:Fg):R2:=λx y H Q=>∃a b d c,x=.ref a/\y=.ref b/\qq K H a d/\qq K H b c/\d≠[]/\d.length+c.length<=sizeLine /\
 (c=[]->Q (.ref a) H)/\(c≠[]->∀p,H p=Z->Q (.ref p) (upd H p (.tup (d++c))))
def fT.eP{a:List V}{b:Lw}(r:fT a b):b=[]↔a=[]:=by
 cases r with
 |nil=>simp
 |cons _ _=>simp
def Qi:lQ X (binaryOp .Add) (WX X.K):=by intro e s σ H x y v u Q I l k h;obtain⟨a,b,j,i,rfl,rfl,C,B,A,g,n,m⟩:=h;cases l;cases k;obtain⟨t,d,r,_⟩:=I.tuple C;obtain⟨f,c,p,_⟩:=I.tuple B;refine HT.Qe r p (λz=>A (d.eP.mp z)) (λz=>⟨.ref a,H,I,rfl,n (c.eP.mp z)⟩) (λz=>?_) (by rw[<-d.length,<-c.length];exact g);refine⟨.ref (zB s),_,I.laid (t':=s.toks) (o:=.tup (j++i)) (λb D q=>af _ q) (az _) ?_,rfl,m (λw=>z (c.eP.mpr w)) _ (I.ir.fresh (az _))⟩;exact⟨by rw[bh];exact g,_,d.append c,IsTup.new _ _⟩
end
noncomputable def Gu(n:Nat)(i:Int):Option Nat:=if 0<=i then (if i<n then Y i.toNat else Z) else if -(n:Int)<=i then Y (i+n).toNat else Z
def tJ(a:List α)(i:Int):Option α:=(Gu a.length i).bind λj=>a[j]?
def IZ{i:Int}{j:Nat}(h:Gu n i=Y j):seqIndex? i n=Y j/\j<n/\-(n:Int)<=i/\i<n:=by
 unfold Gu at h;by_cases b:0<=i
 ·rw[ag b] at h;by_cases a:i<n
  ·rw[ag a] at h;have e:i.toNat=j:=a7 h;exact⟨by rw[seqIndex_of b a,e],by omega,by omega,a⟩
  ·rw[aj a] at h;cases h
 ·rw[aj b] at h;by_cases a:-(n:Int)<=i
  ·rw[ag a] at h;have e:(i+n).toNat=j:=a7 h;exact⟨by rw[seqIndex_neg (by omega) a,e],by omega,a,by omega⟩
  ·rw[aj a] at h;cases h
def Cm{a:List α}{i:Int}{v:α}(h:tJ a i=Y v):∃j,seqIndex? i a.length=Y j/\a[j]?=Y v/\j<a.length/\-(a.length:Int)<=i/\i<a.length:=by
 unfold tJ at h;cases e:Gu a.length i with
 |none=>rw[e] at h;cases h
 |some j=>rw[e] at h;obtain⟨f,d,c,b⟩:=IZ e;exact⟨j,f,h,d,c,b⟩
def tK(b:Expr):Prop:=∀o i,subscripted b false o i=operate [o,i] (getItem o i)
def I0(X:Cx)(r:R2):Prop :=
 ∀(b a:Expr) (pins:Ax) (s:Shared) (σ:St) (H:Hp) (x y:V) (v u:Value) (Q:VK),eT X pins σ H s->fO x v->fO y u->r x y H Q ->
  subscripted a false v u=operate [v,u] (getItem v u)->(zw X) (subscriptTail b a v u) (EP X pins σ Q) X.xe s
def Uj(X:Cx)(b:String)(r:V->List V->Hp->VK->Prop):Prop :=
 ∀(a:Ax) (s:Shared) (σ:St) (H:Hp) (x:V) (xs:List V) (v:Value) (us:Lw) (Q:VK),eT X a σ H s->fO x v->fT xs us->r x xs H Q ->
  (zw X) (call (.builtin b) (v::us)) (EP X a σ Q) X.xe s
section
variable {a:Expr}{ta tb:TE}
def I0.or{r f:R2}(h:I0 X r)(i:I0 X f):I0 X (λx y H Q=>r x y H Q\/f x y H Q):=by
 intro a b c s σ H x y v u Q I e d q g;rcases q with q|q
 ·exact h a b c s σ H x y v u Q I e d q g
 ·exact i a b c s σ H x y v u Q I e d q g
def MP{r:R2}(g:I0 X r)(j:PE X a ta)(i:PE X b tb)(f:tK b):PE X (.Subscript a b pos) (WH r ta tb):=by intro c s σ H Q I h;exact Subscript_ (T5 j i I h λv u s2 x y l k e d q=>g a b c s2 σ l x y v u Q k e d q (f _ _))
def WY(K:Fg):R2:=λx y H Q=>∃p a i v,x=.ref p/\y=.int i/\kQ K H p a/\tJ a i=Y v/\Q v H
def WZ(K:Fg):R2:=λx y H Q=>∃p a i v,x=.ref p/\y=.int i/\qq K H p a/\tJ a i=Y v/\Q v H
def W0:R2:=λx y H Q=>∃z i c,x=.str z/\y=.int i/\z.length<=sizeLine/\tJ z.cps.toList i=Y c/\Q (.str ⟨#[c]⟩) H
def I7:I0 X (WY X.K):=by
 intro d e a s σ H x y v u Q I C B h m;obtain⟨p,M,i,z,rfl,rfl,D,F,q⟩:=h;cases C;obtain⟨t,rfl⟩:=B;obtain⟨k,r,g,N⟩:=I.list D;obtain⟨j,c,L,P,J,G⟩:=Cm F;obtain⟨w,o,f⟩:=r.get L;have E:=r.length;have O:=sL;have b:EP X a σ Q w s:=⟨z,H,I,f,q⟩
 by_cases n:0<=i
 ·have l:i.toNat=j:=by
   rw[seqIndex_of n G] at c;exact a7 c
  exact item_listR g.isList n (by omega) (by rw[l];simpa using o) b m
 ·have l:(i+(k.toArray.size:Int)).toNat=j:=by
   rw[seqIndex_neg (by omega) J] at c;rw[ar,<-E];exact a7 c
  exact subscriptTail_builtinR (x:=w) g.isList.typeIs slot_list_getitem.lookup
   (wpAny_getItem_list_neg (Q:=λr A=>r=w/\EP X a σ Q r A) g.isList (by omega) (by rw[ar]<;>omega) (by omega) (by rw[l];simpa using o) ⟨rfl,b⟩) m
def MQ:I0 X (WZ X.K):=by
 intro b c a s σ H x y v u Q I l k h n;obtain⟨p,F,i,z,rfl,rfl,o,B,q⟩:=h;cases l;obtain⟨t,rfl⟩:=k;obtain⟨m,r,f,G⟩:=I.tuple o;obtain⟨j,D,C,N,M,L⟩:=Cm B;obtain⟨w,E,d⟩:=r.get C;have A:=r.length;have J:=sL;have e:EP X a σ Q w s:=⟨z,H,I,d,q⟩
 exact subscriptTail_builtinR (x:=w) f.typeIs slot_tuple_getitem.lookup
  (getItem_tuple (j:=j) (Q:=λr g=>r=w/\EP X a σ Q r g) f (by omega) (by omega) (by rw[ar,<-A];exact D) (by simpa using E) ⟨rfl,e⟩) n
def Uk:I0 X W0:=by
 intro a b d s σ H x y v u Q I g f h k;obtain⟨z,i,c,rfl,rfl,B,m,q⟩:=h;obtain⟨t,rfl⟩:=g;obtain⟨A,rfl⟩:=f;obtain⟨j,e,p,D,o,n⟩:=Cm m;have l:z.cps.toList.length=z.length:=by simp[Str.length]
 rw[l] at e o n;have C:=sL;exact tail_any (dF s z t) slot_str_getitem.lookup (getItem_str (c:=c) (by have w:decide (i < -(2 ^ 63:Int))=false:=aU (by omega);have r:decide (i >= 2 ^ 63)=false:=aU (by omega);rw[w,r,dt]) (by rw[e];simpa using p) ⟨.str ⟨#[c]⟩,H,I.tok _,⟨_,rfl⟩,q⟩) k
def rIx(K:Fg):R2:=λx y H Q=>WY K x y H Q\/WZ K x y H Q\/W0 x y H Q
def Ul:I0 X (rIx X.K):=I7.or (MQ.or Uk)
def GS(a:Lw)(n j:Nat)(u:Value):Obj.mapSeq (·.setIfInBounds j u) (zl a.toArray n)={ cls:=.type "list",data:=.seq (a.set j u).toArray n }:=by simp[Obj.mapSeq]
theorem eT.lst{a:Ax}{σ:St}{H:Hp}{s:Shared}{p:Addr}{b:List V}(I:eT X a σ H s)(h:H p=Y (.lst b)):
  ∃(its:Lw) (n:Nat),fT b its/\s.heap.get? p=Y (zl its.toArray n)/\b.length<=sizeLine:=by
 obtain⟨z,its,n,r,e⟩:=I.ir p _ h;exact⟨its,n,r,e,z⟩
def eT.Um{p:Addr}{j d:List V}{c a:Lw}{g:Nat}{f:Obj->Obj} (I:eT X pins σ H s) (h:H p=Y (.lst j))
  (l:s.heap.get? p=Y (zl c.toArray n)) (i:f (zl c.toArray n)=(zl a.toArray g)) (r:fT d a) (k:d.length<=sizeLine) (t:Nat):
  eT X pins σ (upd H p (.lst d)) { s with heap:=s.heap.update p f,toks:=t }:=by
 have e:(s.heap.update p f).get? p=Y (zl a.toArray g):=by rw[bo f l (by rw[i]<;>rfl),i]
 refine I.write (x:=p) (e:=p) (by rw[h];trivial) (.inl rfl) (λb u hb q=>(a9 _ _ (Ne.symm hb)).trans q) ⟨_,e⟩ ?_;exact⟨k,a,g,r,e⟩
def W2:V->V->V->Hp->(Hp->Prop)->Prop:=λo i v H Q=>∃p a k j,o=.ref p/\i=.int k/\H p=Y (.lst a)/\Gu a.length k=Y j/\Q (upd H p (.lst (a.set j v)))
def Ei:Cb X W2:=by
 intro a s σ H o i v E F u Q I A B z h;obtain⟨p,y,k,j,rfl,rfl,g,D,q⟩:=h;cases A;obtain⟨t,rfl⟩:=B;obtain⟨b,n,r,d,C⟩:=I.lst g;obtain⟨c,J,m,l⟩:=IZ D;have e:=r.length;have G:=sL;have x:eT X a σ (upd H p (.lst (y.set j v))) { s with heap:=s.heap.update p (Obj.mapSeq (·.setIfInBounds j u)) } :=
  I.Um g d (GS b n j u) (r.set z j) (by rw[List.length_set];exact C) s.toks
 by_cases w:0<=k
 ·have f:k.toNat=j:=by
   rw[seqIndex_of w l] at c;exact a7 c
  exact W.ki_setAt d w (by omega) (by rw[ar,<-e];exact l) (by rw[f];exact⟨_,x,q⟩)
 ·have f:(k+(b.toArray.size:Int)).toNat=j:=by
   rw[seqIndex_neg (by omega) m] at c;rw[ar,<-e];exact a7 c
  exact W.ki_setBack d (by omega) (by rw[ar,<-e];exact m) (by omega) (by rw[f];exact⟨_,x,q⟩)
def Cn(a b:Option Int)(n:Nat):(sliceBounds a b Z n).1=((HT.ki n 0 a:Nat):Int)/\(sliceBounds a b Z n).2.1=((HT.ki n n b:Nat):Int)/\(sliceBounds a b Z n).2.2=1:=by
 refine⟨?_,?_,rfl⟩
 ·cases a with
  |none=>simp[sliceBounds,HT.ki]
  |some i=>
   simp only[sliceBounds,HT.ki,Option.getD_none,show (1:Int) > 0 by decide,b8];by_cases h:i<0
   ·simp only[h,b8]<;>omega
   ·simp only[h,dE]<;>omega
 ·cases b with
  |none=>simp[sliceBounds,HT.ki]
  |some i=>
   simp only[sliceBounds,HT.ki,Option.getD_none,show (1:Int) > 0 by decide,b8];by_cases h:i<0
   ·simp only[h,b8]<;>omega
   ·simp only[h,dE]<;>omega
def Ak(a:Lw)(b c:Option Int):slicePick a.toArray b c Z=((a.drop (HT.ki a.length 0 b)).take (HT.ki a.length a.length c - HT.ki a.length 0 b)).toArray:=by obtain⟨f,e,d⟩:=Cn b c a.toArray.size;unfold slicePick;rw[f,e,d];simp only[sliceRange_one,pick_run,ar]<;>rfl
def Z3(K:Fg):V->Option Int->Option Int->Hp->VK->Prop:=λx c d H Q=>∃a b,x=.ref a/\kQ K H a b/\∀p,H p=Z->Q (.ref p) (upd H p (.lst (Eh b c d)))
def Ja:IY X (Z3 X.K):=by intro g s σ H x v w u e f y Q I j t l k h;obtain⟨a,c,rfl,p,q⟩:=h;cases j;obtain⟨m,r,i,n⟩:=I.list p;have d:=r.length;refine⟨"list",_,slot_list_getitem.lookup,i.isList.typeIs,?_⟩;refine wpAny_getItem_list_slice i.isList t l k .none (by simp) ?_ (by rw[ar]<;>omega);rw[Ak,<-d];refine⟨.ref (zB s),_,I.laid (t':=s.toks) (o:=.lst (Eh c e f)) (λb z q=>af _ q) (az _) ?_,rfl,q _ (I.ir.fresh (az _))⟩;exact⟨bq (vY c e f) n,_,0,(r.drop (HT.ki c.length 0 e)).take (HT.ki c.length c.length f - HT.ki c.length 0 e),aw _ rfl⟩
def Co:jL X (.builtin "len") (λxs H Q=>∃p b,xs=[.ref p]/\(kQ X.K H p b\/qq X.K H p b)/\Q (.int b.length) H):=by
 intro g s σ H xs k Q I r h;obtain⟨p,b,rfl,c,q⟩:=h;obtain⟨u,rfl,i⟩:=tH r;cases i;have l:=sL;rcases c with c|c
 ·obtain⟨f,d,e,j⟩:=I.list c;have a:=d.length;exact Calls.call_len_list e.isList (by simp only[ar]<;>omega) ⟨.int b.length,H,I.tok _,⟨s.toks+1,by rw[ar,a]⟩,q⟩
 ·obtain⟨f,d,e,j⟩:=I.tuple c;have a:=d.length;exact len_tuple e (by simp only[ar]<;>omega) ⟨.int b.length,H,I.tok _,⟨s.toks+1,by rw[ar,a]⟩,q⟩
def Cp:jL X (.builtin "len") (λxs H Q=>∃z,xs=[.str z]/\z.length<=sizeLine/\Q (.int z.length) H):=by intro a s σ H xs b Q I r h;obtain⟨z,rfl,c,q⟩:=h;obtain⟨u,rfl,t,rfl⟩:=tH r;have d:=sL;exact len_str (by omega) ⟨.int z.length,H,I.tok _,⟨_,rfl⟩,q⟩
def jL.or{f:Value}{r d:List V->Hp->VK->Prop}(h:jL X f r)(e:jL X f d):jL X f (λxs H Q=>r xs H Q\/d xs H Q):=by
 intro a s σ H xs b Q I c q;rcases q with q|q
 ·exact @h a s σ H xs b Q I c q
 ·exact @e a s σ H xs b Q I c q
def tL:jL X (.type "list") (λxs H Q=>∃p d,xs=[.ref p]/\(kQ X.K H p d\/qq X.K H p d)/\∀l,H l=Z->Q (.ref l) (upd H l (.lst d))):=by
 intro i s σ H xs D Q I r h;obtain⟨p,d,rfl,m,q⟩:=h;obtain⟨u,rfl,C⟩:=tH r;cases C;have v:∀(a:Lw),fT d a->d.length<=sizeLine->∀(c:Heap) (g:Nat),(∀b B,s.heap.get? b=Y B->c.get? b=Y B) ->
   c.get? (zB s)=Y { cls:=.type "list",dict:=Z,data:=.seq a.toArray g,slots:=#[] }->EP X i σ Q (.ref (zB s)) { s with heap:=c }:=λa f k c g j e=>
  ⟨.ref (zB s),_,I.laid (t':=s.toks) j (az _) (show iR X.prog X.w _ c _ (.lst d) from ⟨k,a,g,f,e⟩),rfl,q _ (I.ir.fresh (az _))⟩
 rcases m with m|m
 ·obtain⟨a,f,x,k⟩:=I.list m;have t:=f.length;obtain⟨o,y,A,n,z⟩:=x.isList;exact call_list_seq p (.inl rfl) y A z (λc g j e=>v a f k c g j e) (by simp only[ar]<;>omega)
 ·obtain⟨a,f,x,k⟩:=I.tuple m;have t:=f.length;obtain⟨o,y,A,n,z⟩:=x;exact call_list_seq p (.inr rfl) y A z (λc g j e=>v a f k c g j e) (by simp only[ar]<;>omega)
def Z4(K:Fg)(T:String)(x:V)(H:Hp):Prop:=match x with
 |.str _=>T="str"
 |.int _=>T="int"
 |.ref p=>(T="list"/\∃b,kQ K H p b)\/(T="tuple"/\∃o,K.lookup p=Y o/\o.cls=.type "tuple"/\o.dict=Z) \/
   (T="dict"/\((∃a,H p=Y (.dK a))\/∃a,H p=Y (.dT a)))\/(T="set"/\∃S n,H p=Y (.set S n))
 |_=>False
def MT{T:String}{x:V}{v:Value}(I:eT X pins σ H s)(r:fO x v)(f:Z4 X.K T x H):
  s.TypeIs v T/\∀a,v=.ref a->∃l,s.heap.get? a=Y l/\l.dict=Z:=by
 cases x with
 |str z=>obtain⟨t,rfl⟩:=r;cases (show T="str" from f);exact⟨dF s z t,λ_ e=>nomatch e⟩
 |int i=>obtain⟨t,rfl⟩:=r;cases (show T="int" from f);exact⟨typeIs_int s i t,λ_ e=>nomatch e⟩
 |ref p=>
  cases r;rcases f with ⟨rfl,w,q⟩ | ⟨rfl,o,b,u,h⟩ | ⟨rfl,b⟩ | ⟨rfl,S,n,b⟩
  ·obtain⟨m,_,k,_⟩:=I.list q;refine⟨k.isList.typeIs,λa e=>?_⟩;cases e;obtain⟨o,n,e,c,h,_⟩:=k;exact⟨o,e,h⟩
  ·refine⟨⟨o,I.xC p o b,u⟩,λa e=>?_⟩;cases e;exact⟨o,I.xC _ o b,h⟩
  ·have z:∃o,s.heap.get? p=Y o/\o.ExactDict:=by
    rcases b with ⟨g,b⟩ | ⟨g,b⟩
    ·obtain⟨_,_,_,_,o,_,_,e,d,_⟩:=I.ir p _ b;exact⟨o,e,d⟩
    ·obtain⟨_,_,_,_,o,_,_,e,d,_⟩:=I.ir p _ b;exact⟨o,e,d⟩
   obtain⟨o,e,d⟩:=z;refine⟨⟨o,e,d.1⟩,λa j=>?_⟩;cases j;exact⟨o,e,d.2.1⟩
  ·obtain⟨o,_,_,_,e,d,_⟩:=I.ir p _ b;refine⟨⟨o,e,d.1⟩,λa j=>?_⟩;cases j;exact⟨o,e,d.2.1⟩
 |_=>exact False.elim f
def Z5(K:Fg)(T:String)(r:V->List V->Hp->VK->Prop)(b:TE):TE:=λσ H Q=>b σ H λx a=>Z4 K T x a/\r x [] a Q
def tBM(K:Fg)(T:String)(r:V->List V->Hp->VK->Prop)(c:TE)(t:TA):TE:=λσ H Q=>c σ H λx a=>Z4 K T x a/\t σ a λb d=>r x b d Q
variable {to:TE}{t:TA}{name:Str}{fV:Pos}{T id:String}{r:V->List V->Hp->VK->Prop}
def MU(l:PlainAttrs T) (d:Slot T name id) (e:typeOf (.builtin id)=pure (.type "method_descriptor")) (n:Uj X id r) (m:PE X o to)
  (c:attributeBase o name X.env (eval o X.env)=eval o X.env:=by rfl) (b:(apos.endLine==fV.line)=true:=by rfl):PE X (.Call (.Attribute o name apos) [] [] fV) (Z5 X.K T r to):=by
 intro a s σ H Q I h;refine wpAny_Call_method0_late c b (gS (@m a s σ H _ I h) ?_);rintro v j ⟨x,t,g,f,i,k⟩;obtain⟨q,p⟩:=MT g f i;exact⟨T,id,l,d,e,q,p,bE rfl (PySem.evalArgs_none (@n a j σ t x [] v [] Q g f .nil k))⟩
def Bf(A:PlainAttrs T) (f:Slot T name id) (i:typeOf (.builtin id)=pure (.type "method_descriptor")) (D:Uj X id r) (C:PE X o to) (E:PA X (e::es) t)
  (d:attributeBase o name X.env (eval o X.env)=eval o X.env:=by rfl)
  (g:((backTo fV (starEach (e::es) X.env)).all (λx=>!x.1)&&(backToKw fV (keywordEach [] X.env)).all (λx=>x.1.isSome)
  &&decide ((e::es).length+([]:List Keyword).length+(if ([]:List Keyword).isEmpty then 0 else 1)<30))=true:=by rfl)
  (c:(apos.endLine==fV.line)=true:=by rfl) (B:zE e es X:=by rfl) (b:(backTo fV (starEach es X.env)).any (·.1)=false:=by rfl):
  PE X (.Call (.Attribute o name apos) (e::es) [] fV) (tBM X.K T r to t):=by
 intro a s σ H Q I h;refine wpAny_Call_method_late d g c rfl (gS (@C a s σ H _ I h) ?_);rintro v u ⟨x,M,l,j,p,z⟩;obtain⟨G,F⟩:=MT l j p;refine⟨T,id,A,f,i,G,F,?_⟩;have k:=@E fV a u σ M _ l z;rw[B] at k ⊢;refine bE (by show (false||(backTo fV (starEach es X.env)).any (·.1))=false;rw[b]<;>rfl) (b9 ?_);exact gS k <| by rintro n q ⟨m,L,J,w,y⟩;exact @D a q σ L x m v n Q J j w y
end
def YX(X:Cx)(b:String)(r:V->List V->Hp->VK->Prop):Prop :=
 ∀(a:Ax) (s:Shared) (σ:St) (H:Hp) (x:V) (xs:List V) (v:Value) (us:Lw) (Q:VK),eT X a σ H s->fO x v->fT xs us->r x xs H Q ->
  (zw X) (call (.builtin b) (v::us)) (EP X a σ Q) X.xe s
def fT.one:∀{x:V}{a:Lw},fT [x] a->∃u,a=[u]/\fO x u
 |_,_,.cons r .nil=>⟨_,rfl,r⟩
def fT.zero:∀{a:Lw},fT [] a->a=[]
 |_,.nil=>rfl
theorem fT.dropLast{a:List V}{b:Lw}(h:fT a b):fT a.dropLast b.dropLast:=by
 induction h with
 |nil=>exact .nil
 |cons r t c=>
  cases t with
  |nil=>exact .nil
  |cons q d=>exact .cons r c
theorem fT.rep{a:List V}{b:Lw}(h:fT a b):∀k:Nat,fT (List.replicate k a).flatten (List.replicate k b).flatten
 |0=>.nil
 |k+1=>by rw[bG,bG,cb,cb];exact fT.append h (fT.rep h k)
def GU(l:List α):l.eraseIdx (l.length - 1)=l.dropLast:=by
 induction l with
 |nil=>rfl
 |cons a r c=>
  cases r with
  |nil=>rfl
  |cons b r=>
   have e:(a::b::r).length - 1=((b::r).length - 1)+1:=by have f:(a::b::r).length=r.length+2:=rfl;have d:(b::r).length=r.length+1:=rfl;omega
   rw[e,List.eraseIdx_cons_succ,c]
   all_goals rfl
theorem Bg(a:Lw):∀(k:Nat) (acc:Lw),
  List.foldl (λx1 x2=>x1++x2) acc.toArray (List.replicate k a.toArray)=(acc++(List.replicate k a).flatten).toArray
 |0,acc=>by simp
 |k+1,acc=>by
  have e:acc.toArray++a.toArray=(acc++a).toArray:=by simp
  have b:(acc++a)++(List.replicate k a).flatten=acc++(List.replicate (k+1) a).flatten:=by rw[bG,cb,aV]
  rw[<-b,<-Bg a k (acc++a),<-e,bG,List.foldl_cons]
section
variable {l b:Addr}{xs ys zs:List V}
def eT.Qj{a its':Lw}{f:Array Value->Array Value}{b:Nat} (I:eT X pins σ H s) (i:H l=Y (.lst xs))
  (e:s.heap.get? l=Y (zl a.toArray n)) (h:f a.toArray=its'.toArray) (d:fT ys its') (c:ys.length<=sizeLine):
  eT X pins σ (upd H l (.lst ys)) { s with heap:=s.heap.update l (Obj.mapSeq f),toks:=b }:=by
 have q:=PySem.IsL.update e f;rw[h] at q;refine I.write (x:=l) (e:=l) (by rw[i];exact trivial) (.inl rfl) (λj u hb g=>(a9 s.heap (Obj.mapSeq f) (Ne.symm hb)).trans g) ⟨_,q⟩ ?_;exact⟨c,its',_,d,q⟩
def eT.Uo{a:Lw}{t':Nat}(I:eT X pins σ H s)(c:fT ys a)(b:ys.length<=sizeLine):
  eT X pins σ (upd H (zB s) (.lst ys)) { s with heap:=s.heap.push { cls:=.type "list",data:=.seq a.toArray },toks:=t' } :=
 I.laid (λ_ _ q=>af _ q) (az _) ⟨b,a,0,c,aw _ rfl⟩
theorem eT.fresh(I:eT X pins σ H s):H (zB s)=Z:=I.ir.fresh (az _)
def eT.Ks(I:eT X pins σ H s)(b:H l=Y (.lst xs)):xs.length<=sizeLine/\∃(a:Lw) (n:Nat),fT xs a/\xs.length=a.length/\s.heap.get? l=Y (zl a.toArray n):=by obtain⟨z,a,n,r,e⟩:=I.ir l _ b;exact⟨z,a,n,r,r.length,e⟩
def ya(h:n<=sizeLine):Builtin.List.listTooLong n=false:=by unfold Builtin.List.listTooLong;exact aU (by omega)
end
section
def Qk:V->List V->Hp->VK->Prop:=λx b H Q=>∃l a y,x=.ref l/\b=[y]/\H l=Y (.lst a)/\a.length<sizeLine/\Q .k9 (upd H l (.lst (a++[y])))
theorem Bh:YX X "list.append" Qk:=by intro b s σ H x j v k Q I d f h;obtain⟨l,i,y,rfl,rfl,c,m,q⟩:=h;cases d;obtain⟨u,rfl,g⟩:=f.one;obtain⟨z,a,n,r,o,e⟩:=I.Ks c;refine cj F.slot_list_append ⟨_,e,rfl⟩ F.entry_list_append (F.args_list_append_2 _ _) (PySem.list_append l a.toArray n u (by rw[ar];omega)) ⟨e,?_⟩;refine⟨.k9,_,I.Qj (its':=a++[u]) c e (by simp) (r.append (.cons g .nil)) ?_,rfl,q⟩;rw[bh,List.length_singleton];omega
def Ql:V->List V->Hp->VK->Prop:=λx d H Q=>∃l b c a,x=.ref l/\d=[.ref b]/\H l=Y (.lst c)/\H b=Y (.lst a)/\c.length+a.length<=sizeLine/\Q .k9 (upd H l (.lst (c++a)))
theorem Kt:YX X "list.extend" Ql:=by
 intro g s σ H x D v E Q I j k h;obtain⟨l,b,C,A,rfl,rfl,i,w,G,q⟩:=h;cases j;obtain⟨u,rfl,m⟩:=k.one;cases m;obtain⟨z,c,n,r,J,e⟩:=I.Ks i;obtain⟨B,a,p,o,t,y⟩:=I.Ks w;have f:c.toArray.size+a.toArray.size<=sizeLine:=by rw[ar,ar];omega
 have d:¬ (!c.toArray.isEmpty&&Builtin.List.listTooLong (c.toArray.size+a.toArray.size))=true:=by rw[ya f,Bool.and_false];exact aB
 refine cj F.slot_list_extend ⟨_,e,rfl⟩ F.entry_list_extend (F.args_list_extend_2 _ _)
  (AutoSeq1.list_extend_list_list_0 l c.toArray n b a.toArray p d (by rw[ar];omega) (by omega)) ⟨e,y,?_⟩
 refine⟨.k9,_,I.Qj (its':=c++a) i e (by simp) (r.append o) ?_,rfl,q⟩;rw[bh];omega
def Z6:V->List V->Hp->VK->Prop:=λx b H Q=>∃l a y,x=.ref l/\b=[]/\H l=Y (.lst a)/\a[a.length - 1]?=Y y/\Q y (upd H l (.lst a.dropLast))
theorem MW:YX X "list.pop" Z6:=by
 intro d s σ H x t v w Q I g i h;obtain⟨l,p,y,rfl,rfl,f,k,q⟩:=h;cases g;have c:=i.zero;subst c;obtain⟨z,a,n,r,o,e⟩:=I.Ks f;obtain⟨u,m,j⟩:=r.get k;have b:a.toArray[a.toArray.size - 1]?=Y u:=by show a.toArray[a.length - 1]?=Y u;rw[<-Array.getElem?_toList,<-o];exact m
 refine cj F.slot_list_pop ⟨_,e,rfl⟩ F.entry_list_pop (F.args_list_pop_1 _) (MeetsSeq.list_pop_last l a.toArray n u b (by rw[ar];omega)) ⟨e,?_⟩;refine⟨y,_,I.Qj (its':=a.dropLast) f e ?_ r.dropLast ?_,j,q⟩
 ·show a.toArray.eraseIdxIfInBounds (a.toArray.size - 1)=a.dropLast.toArray;rw[ar,List.eraseIdxIfInBounds_toArray,GU]
 ·rw[List.length_dropLast];omega
def Z7:R2:=λx y H Q=>∃l k a,x=.ref l/\y=.int k/\H l=Y (.lst a)/\-(2 ^ 63)<=k/\k<2 ^ 63/\a.length*k.toNat<=sizeLine /\
 ∀p,H p=Z->Q (.ref p) (upd H p (.lst (List.replicate k.toNat a).flatten))
def Qm(a:List α)(k:Nat):(List.replicate k a).flatten.length=k*a.length:=by
 induction k with
 |zero=>simp
 |succ k b=>rw[bG,cb,bh,b,Nat.succ_mul,Nat.add_comm]
theorem Up:lQ X (binaryOp .Mult) Z7:=by
 intro p s σ H x y v u Q I C B h;obtain⟨l,k,L,rfl,rfl,E,J,G,w,q⟩:=h;cases C;obtain⟨t,rfl⟩:=B;obtain⟨z,b,n,r,D,e⟩:=I.Ks E;have f:b.toArray.size*k.toNat<=sizeLine:=by rw[ar,<-D];exact w
 have i:¬ b.toArray.size*k.toNat > (2 ^ 63 - 1) / 8:=by
  have:(sizeLine:Nat)<=(2 ^ 63 - 1) / 8:=by decide
  omega
 have g:¬ (!Builtin.List.listFitsIndex k)=true:=by rw[fitsIndex_both J G];exact aB
 have c:¬ Builtin.List.listTooLong (b.toArray.size*k.toNat)=true:=by rw[ya f];exact aB
 have d:List.foldl (λo j=>o++j) #[] (List.replicate (if b.toArray.isEmpty=true then 0 else k.toNat) b.toArray)=(List.replicate k.toNat b).flatten.toArray:=by
  have K:∀m:Nat,List.foldl (λo j=>o++j) #[] (List.replicate m b.toArray)=(List.replicate m b).flatten.toArray:=λm=>by have:=Bg b m [];rw[bB] at this;exact this
  rw[K];cases b with
  |nil=>simp
  |cons a M=>rw[aj (by simp)]
 refine wpAny_binaryOp_repeat_ref (T:="list") (U:="int") (by decide) ⟨_,e,rfl⟩ (λA=>typeIs_int A k t) noFill_list_mul F.fills_int_mul F.slot_int_rmul repeat_list F.slot_int_index.lookup
  (cj F.slot_int_rmul (typeIs_int s k t) F.entry_int_rmul (F.args_int_rmul_2 _ _) (int___rmul___int_list k t l b.toArray n)
   ⟨e,rfl,⟨_,e,rfl⟩,cj F.slot_list_mul ⟨_,e,rfl⟩ F.entry_list_mul (F.args_list_mul_2 _ _) (AutoListH.list___mul___list_int_3 l b.toArray n k t g i c) ⟨e,?_⟩⟩)
 rw[d];exact⟨.ref _,_,I.Uo (t':=s.toks) (r.rep k.toNat) (by rw[Qm,Nat.mul_comm];exact w),rfl,q _ I.fresh⟩
end
section
variable {prog:Program}{w:World}
end
end L2
namespace YY
open PySem PySem.W PySem.Calls PyProof.Rows
def wI{P:Params}{h:Heap}:∀(c:List Int) (vs:Lw),WellAll P h vs (c.map WData.int)->IntsAre vs c:=by
 intro c;induction c with
 |nil=>intro vs w;rw[bC] at w;cases w;exact .nil
 |cons n c d=>
  intro vs w;rw[ai] at w;cases w with
  |cons a b=>cases a;exact .cons _ _ (d _ b)
def Ku{l:OpenLaw} (x:l.most=Y n) {P:Params}{h:Heap}{b:List WData}{e:Lw}
  (f:l.row.toRowW.claim.pre b=true) (m:WellAll P h e b):
  ∃a p c,e=[Value.ref a]/\b=[WData.list (c.map WData.int)]/\h.get? a=Y { cls:=.type "list",data:=.seq p.toArray }/\IntsAre p c/\c.length<=n:=by
 have o:WShape.hasAll [] b [.list .int]=true:=(pre_splitW f).1;have s:l.pre.holds [] { args:=b }=true:=(pre_splitW f).2;obtain⟨d,r,rfl,A,z⟩:=hasAllW_cons o;obtain rfl:=hasAllW_nil z;obtain⟨B,rfl,y⟩:=hasW_list A;obtain⟨c,rfl⟩:=items_int y;have g:c.length<=n:=by
  unfold OpenLaw.pre at s;have k:(WTm.not (.lt (.lit (zi n)) (.len (.arg 0)))).holds [] { args:=[.list (c.map .int)] }=true:=by have k:=(holds_andW s).1;rw[x] at k;exact k
  have j:=condW_of k (w_not (w_lt w_lit (w_len_list (w_arg rfl))));rw[aL] at j;refine dh λq=>?_;have v:(n:Int)<((c.length:Nat):Int):=by omega
  first
   | (rw[bF v] at j;exact absurd j (by decide))
   | (simp at j;omega)
 cases m with
 |cons u t=>
  cases t;cases u with
  |list w i=>exact⟨_,_,c,rfl,rfl,w,wI c _ i,g⟩
def Kv(l:OpenLaw)(a:List WData):l.row.toRowW.claim.post a (.bool true) a=true :=
 postW_of (r:=l.row.toRowW) (X:=(true==true))
  (show WShape.has [] (.bool true) .bool=true by first|rfl|decide|simp[WShape.has,WShape.arms,WShape.armsAll])
  (show (WTm.eq .res (.lit (.bool true))).value [] { args:=a,res:=Y (.bool true),after:=a }=Y (.bool (true==true)) from w_eq_bool (w_res rfl) w_lit) rfl
section
variable {prog:Program}{w:World}{K:Frag}
end
end YY
namespace L2
open PySem PySem.Spec PyProof.Rows
theorem Bi:∀{a:Lw}{b:List Int},IntsAre a b->fT (b.map V.int) a
 |_,_,.nil=>.nil
 |_,_,.cons n t h=>.cons ⟨t,rfl⟩ (Bi h)
def W3(H:Hp):Prop:=∀b,H b=Z\/∃o a,H b=Y (.tE o (.lst a))
def MX{P:Program}{w:World}{O:Str->Ow}{CX:MJ}{k:Nat}{U:Addr}{sp:Sp}{c:Shared}{l:Lw}{y:List Int}
  (KX:K.In c.heap) (D:c.heap.Ns mainGlobals mg) (g:c.heap.Ns builtinsNs O) (S:∀x:Str,x≠"__name__"->O x=bootBuiltins x) (E:c.heap.NoLimit) (hg:c.gens=#[])
  (M:c.heap.get? a=Y { cls:=.type "list",data:=.seq l.toArray }) (hi:IntsAre l y) (hl:y.length<=sizeLine) (hr:iD k callerA)
  (F:∀base:Heap,K.In base->base.Ns mainGlobals mg->kX P w K mg base CX k U fd [x] sp) (p:∀(s:Shared) (u:Value),BindsTo s fd ⟨[u],[]⟩ [(x,u)])
  (Q:∀H:Hp,W3 H->kQ K H a (y.map V.int)->sp [.ref a] H (λv _=>v=.bl true) λ_ _ _=>False)
  (T:∀H e s',CX [] H c (λ_ _ _=>False) e s'->False):
  codeAny (model P w) callerA (.call (.ref U) ⟨[.ref a],[]⟩) (λr s'=>r=.ok (.ret (.bool true))/\OldK c.heap s'.heap/\s'.os=c.os/\AllBare s'.gens) c:=by
 have rv:=Bi hi;have A:=hi.length;have j:∀H:Hp,W3 H->kQ K H a (y.map V.int)->sF P w H c.heap->(∀b,H b≠Z->b=a)->(H a≠Z->K.lookup a=Z) ->
   codeAny (model P w) callerA (.call (.ref U) ⟨[.ref a],[]⟩) (λr s'=>r=.ok (.ret (.bool true))/\OldK c.heap s'.heap/\s'.os=c.os/\AllBare s'.gens) c:=by
  intro H hO hS C hA hK;have f:∀{b:Addr}{o:Obj},c.heap.get? b=Y o->H b=Z->(B9 c.heap H).get? b=Y o:=λe n=>Mn e n;have N:∀{b:Addr}{o:Obj}{I:Array DictEntry}{J:Nat},c.heap.get? b=Y o->o.data=.dict I J->H b=Z:=λ{b o I J} e d=>by
   cases q:H b with
   |none=>rfl
   |some u=>have W:b=a:=hA b (by rw[q];simp);subst W;rw[M] at e;cases e;have d':Data.seq l.toArray _=Data.dict I J:=d;cases d'
  have i:∀{b:Addr}{m:Str->Ow},c.heap.Ns b m->(B9 c.heap H).Ns b m:=λ{b m} ⟨o,I,J,e,d,r⟩=>⟨o,I,J,f e (N e d),d,r⟩
  have G:K.In (B9 c.heap H):=λb o e=>f (KX b o e) (by
   cases q:H b with
   |none=>rfl
   |some u=>have W:b=a:=hA b (by rw[q];simp);subst W;rw[hK (by rw[q];simp)] at e;cases e)
  have hM:Mod K mg (B9 c.heap H):=⟨G,i D,⟨O,i g,S⟩,by obtain⟨mc,h1,h2⟩:=E;exact⟨mc,i h1,h2⟩⟩
  have e0:GO P w K mg (B9 c.heap H) callerA [] c H:=⟨rfl,hM,λb o e=>P0 e,Nat.le_of_eq (Kg _ _),trivial,λb g=>absurd (show b∈([]:List Addr) from g) (by simp),C,.of_eq hg⟩
  refine cR ((F _ G (i D)).run callerA [] c H ⟨[.ref a],[]⟩ [.ref a] [.ref a] _ _ hr e0 (p c (.ref a)) (.cons rfl .nil) (Q H hO hS)) λr s' h=>?_;cases r with
  |error e=>exact(T H e s' h).elim
  |ok fl=>
   cases fl with
   |next=>exact False.elim h
   |brk=>exact False.elim h
   |cont=>exact False.elim h
   |ret u=>
    obtain⟨v,H',os,L,X,B,r',q⟩:=h;have q':v=.bl true:=q;subst q';obtain rfl:u=Value.bool true:=r';refine⟨rfl,OldK.of_keep λb o e=>?_,os,L⟩;cases q:H b with
    |none=>exact X.keep b o e q (by intro z;exact absurd (show b∈([]:List Addr) from z) (by simp)) (by simp)
    |some u=>
     rcases hO b with z | ⟨ob,xs,z⟩
     ·rw[q] at z;cases z
     ·have z2:=X.sI b ob _ z;obtain⟨e1,_⟩:=C b _ z;obtain⟨e2,_⟩:=B b _ z2;rw[e] at e1;cases e1;exact e2
 cases R:K.lookup a with
 |some o=>have e:=KX a o R;rw[M] at e;cases e;refine j (λ_=>Z) (λ_=>.inl rfl) (.inr ⟨_,l.toArray,_,R,rfl,rfl,rfl,by rw[ar,A];exact hl,by simpa using rv⟩) (λb u z=>by have t:(Z:Option HO)=Y u:=z;cases t) (λb z=>absurd rfl z) λz=>absurd rfl z
 |none=>
  refine j (λb=>if b=a then Y (.tE { cls:=.type "list",data:=.seq l.toArray } (.lst (y.map V.int))) else Z) (λb=>?_) (.inl (.inr ⟨{ cls:=.type "list",data:=.seq l.toArray },ag rfl⟩)) (λb u z=>?_) (λb z=>?_) λ_=>R
  ·by_cases g:b=a
   ·exact .inr ⟨_,_,ag g⟩
   ·exact .inl (aj g)
  ·by_cases g:b=a
   ·have t:=(ag g).symm.trans z;cases t;subst g;exact⟨M,by rw[aL];exact hl,l,_,rv,M⟩
   ·have t:=(aj g).symm.trans z;cases t
  ·by_cases g:b=a
   ·exact g
   ·exact absurd (aj g) z
noncomputable def gn(s:Stmt)(j:Nat):Stmt:=match s with
 |.ClassDef _ _ _ body _ _ _ _ _ _ _=>body.getD j (.Pass ⟨0,0,0,0⟩)
 |_=>.Pass ⟨0,0,0,0⟩
def oB(s:Stmt):Arguments:=match s with
 |.FunctionDef _ a _ _ _ _ _ _ _ _=>a
 |_=>{ posonlyargs:=[],args:=[],vararg:=Z,kwonlyargs:=[],kw_defaults:=[],kwarg:=Z,defaults:=[] }
def jc(s:Stmt):List Stmt:=match s with
 |.FunctionDef _ _ b _ _ _ _ _ _ _=>b
 |_=>[]
def eV(s:Stmt):Scope:=match s with
 |.FunctionDef _ _ _ _ _ _ sc _ _ _=>sc
 |_=>{ kind:=.function,names:=[],isGenerator:=false,isCoroutine:=false }
abbrev uW:MJ:=λ_ _ _ _ _ _=>False
abbrev E0:XK:=λ_ _ _=>False
def nS:qB uW X E0:=λ_ _ _ _ _ _ _ h=>h.elim
structure Jb (K:Fg) (x qual:Str) (st:Stmt) (f:Addr) (fd:FuncData):Prop where
 ex:∃(oc:Value) (od:Option Addr) (kV doc pm:Value) (an:Option Addr) (qe ct:Value) (osl:Array Ow),
  fd=W.fnOf x qual (oB st) (jc st) (eV st) .none kV doc pm an qe ct/\K.lookup f=Y ⟨oc,od,.func fd,osl⟩/\W.codeIn K qe qual=true
 kp:W.keepIn K (.ref f)=true
section
variable {P:Program}{w:World}{base:Heap}
theorem Jb.ok{a:Str}{f:Addr}{N d:Lr}{k:Nat}{c:Sp} (F:Jb K x a st f fd) (S:iy N d (eV st)) (e:∀vs H Q E,c vs H Q E->vs.length=d.length)
  (b:∀(qe:Value) (A:Around) (outer:List Env) (s:Shared) (H:Hp) (vs:List V) (Q:VK) (E:XK),iD k (A.deeper (envOfC a (eV st) (zB s) f qe))->c vs H Q E ->
   ∃t,vV (u5 uW P w K mg base N a (eV st) f qe A outer s H E).Mt (jc st) t/\t { nx:=λ_ H'=>Q .k9 H',rt:=Q } (lh N vs) H):kX P w K mg base uW (k+1) f fd d c:=by
 obtain⟨r,p,u,n,o,y,qe,v,j,rfl,l,i⟩:=F.ex;refine WV l i S e λA outer s H vs Q E m g=>?_;obtain⟨t,h,q⟩:=b qe A outer s H vs Q E m g;exact⟨t,h.Mt,q⟩
theorem Jb.binds{a:Str}{f:Addr}{b:Lr} (F:Jb K x a st f fd)
  (h:∀(kV doc pm:Value) (an:Option Addr) (qe ct:Value) (us:Lw),us.length=b.length->bindArgs (W.fnOf x a (oB st) (jc st) (eV st) .none kV doc pm an qe ct) ⟨us,[]⟩=pure (b.zip us)):kG K fd b []:=by
 obtain⟨g,e,kV,doc,pm,an,qe,ct,c,rfl,i,d⟩:=F.ex;exact .all (h kV doc pm an qe ct)
def GV{a:Str}{f:Addr}{n:Value}{m j:Option Addr}{e:Array Ow}{h d g b i:Value} (l:K.lookup f=Y ⟨n,m,.func (W.fnOf x a (oB st) (jc st) (eV st) .none h d g j b i),e⟩)
  (c:W.codeIn K b a=true) (k:W.keepIn K (.ref f)=true):Jb K x a st f (W.fnOf x a (oB st) (jc st) (eV st) .none h d g j b i):=⟨⟨n,m,h,d,g,j,b,i,e,rfl,l,c⟩,k⟩
end
def eN(H a:Hp):Prop:=∀b o,H b=Y o->a b=Y o
def eN.refl(H:Hp):eN H H:=λ_ _ h=>h
def eN.trans{e d:Hp}(a:eN H e)(b:eN e d):eN H d:=λc o h=>b c o (a c o h)
def eN.seq{c:Hp}{b:List V}(e:eN H c)(h:kQ K H a b):kQ K c a b:=by
 rcases h with (h | ⟨o,h⟩)|h
 ·exact .inl (.inl (e _ _ h))
 ·exact .inl (.inr ⟨o,e _ _ h⟩)
 ·exact .inr h
section
variable {κ:Type} [DecidableEq κ]
def mv(a:List (κ×V))(k:κ):Option V:=(a.find? λb=>decide (b.1=k)).map (·.2)
def putK(a:List (κ×V))(k:κ)(v:V):List (κ×V) :=
 if (a.any λb=>decide (b.1=k))=true then a.map (λb=>if b.1=k then (b.1,v) else b) else a++[(k,v)]
def yb(a:List (κ×V))(k:κ):List (κ×V):=a.filter λb=>decide (b.1≠k)
def tM{p:κ×V}{r:List (κ×V)}{k:κ}(e:p.1=k):mv (p::r) k=Y p.2:=by simp[mv,bH,e]
def qC{p:κ×V}{r:List (κ×V)}{k:κ}(e:¬ p.1=k):mv (p::r) k=mv r k:=by simp[mv,bH,e]
theorem Ej(k:κ):∀a:List (κ×V),(a.any λb=>decide (b.1=k))=(mv a k).isSome
 |[]=>rfl
 |p::r=>by
  rw[bz];by_cases e:p.1=k
  ·simp only[tM e,bF e,Bool.true_or,Option.isSome_some]
  ·rw[qC e,aU e,Bool.false_or];exact Ej k r
def oD(a:List (κ×V))(k:κ)(v:V):(putK a k v).length<=a.length+1:=by
 unfold putK;split
 ·rw[aL];omega
 ·rw[bh,ax,du];omega
def pk.pv{o:Option V}{u:Ow}(r:pk o u):o.isSome=u.isSome:=by
 cases o with
 |none=>cases u with
  |none=>rfl
  |some _=>exact(show False from r).elim
 |some _=>cases u with
  |none=>exact(show False from r).elim
  |some _=>rfl
theorem pk.getD{o:Option V}{u:Ow}{d:V}{a:Value}(r:pk o u)(b:fO d a):fO (o.getD d) (u.getD a):=by
 cases o with
 |none=>cases u with
  |none=>exact b
  |some _=>exact(show False from r).elim
 |some _=>cases u with
  |none=>exact(show False from r).elim
  |some _=>exact r
def KV.val{a:List (κ×V)}{f:List (κ×Value)}(r:KV a f)(k:κ):pk (mv a k) (valueAt f k):=by
 unfold KV at r;induction r with
 |nil=>exact aI
 |@cons p q l c h t i=>
  obtain⟨g,j⟩:=h;by_cases e:p.1=k
  ·have d:q.1=k:=g.symm.trans e;have b:valueAt (q::c) k=Y q.2:=by simp[valueAt,bH,d]
   rw[tM e,b];exact j
  ·have d:¬ q.1=k:=λz=>e (g.trans z);have b:valueAt (q::c) k=valueAt c k:=by simp[valueAt,bH,d]
   rw[qC e,b];exact i
theorem KV.any{a:List (κ×V)}{vs:List (κ×Value)}(r:KV a vs)(k:κ):(a.any λb=>decide (b.1=k))=vs.any λb=>decide (b.1=k):=by
 unfold KV at r;induction r with
 |nil=>rfl
 |cons h t c=>rw[bz,bz,c,h.1]
def KV.GW{b:List (κ×V)}{d:List (κ×Value)}(r:KV b d)(k:κ){y:V}{u:Value}(f:fO y u):
  KV (b.map λa=>if a.1=k then (a.1,y) else a) (d.map λa=>if a.1=k then (a.1,u) else a):=by
 unfold KV at r ⊢;induction r with
 |nil=>exact .nil
 |@cons p q l j h t g=>
  rw[ai,ai];refine .cons ?_ g;obtain⟨c,i⟩:=h;by_cases e:p.1=k
  ·rw[ag e,ag (c.symm.trans e)];exact⟨c,f⟩
  ·rw[aj e,aj (λz=>e (c.trans z))];exact⟨c,i⟩
def KV.put{a:List (κ×V)}{b:List (κ×Value)}(r:KV a b)(k:κ){y:V}{u:Value}(c:fO y u):KV (putK a k y) (stored b k u):=by
 unfold putK stored;rw[r.any k];by_cases e:(b.any λd=>decide (d.1=k))=true
 ·rw[ag e,ag e];exact r.GW k c
 ·rw[aj e,aj e];exact Paired.snoc r ⟨rfl,c⟩
def KV.drop{c:List (κ×V)}{f:List (κ×Value)}(r:KV c f)(k:κ):KV (yb c k) (without f k):=by
 unfold KV at r ⊢;unfold yb without;induction r with
 |nil=>exact .nil
 |@cons p q m l h t g=>
  obtain⟨d,i⟩:=h;rw[dn,dn];by_cases e:p.1=k
  ·have a:¬ decide (p.1≠k)=true:=by simp[e]
   have b:¬ decide (q.1≠k)=true:=by simp[d.symm.trans e]
   rw[aj a,aj b];exact g
  ·have j:¬ q.1=k:=λz=>e (d.trans z);have a:decide (p.1≠k)=true:=by simp[e]
   have b:decide (q.1≠k)=true:=by simp[j]
   rw[ag a,ag b];exact .cons ⟨d,i⟩ g
theorem KV.length{kvs:List (κ×V)}{vs:List (κ×Value)}(r:KV kvs vs):kvs.length=vs.length:=cf r
def MY(a:List (κ×V))(k:κ):(yb a k).length<=a.length:=List.length_filter_le _ _
end
def lR{P:Program}{w:World}{k:Key}{u:Value}(r:fO (kV k) u):(fG P w).is k u=true:=by
 cases k with
 |inl i=>obtain⟨t,e⟩:=(show ∃t,u=Value.int i t from r);subst e;exact D6 P w i t
 |inr x=>obtain⟨t,e⟩:=(show ∃t,u=Value.str x t from r);subst e;exact mu P w x t
theorem Bj{P:Program}{w:World}:∀{a:List Key}{b:Lw},fT (a.map kV) b->ItemsAre (fG P w) a b
 |[],_,r=>by rw[bC] at r;cases r;exact .nil
 |k::a,_,r=>by
  rw[ai] at r;cases r with
  |cons h t=>exact .cons (lR h) (Bj t)
abbrev KT(H:Hp):List (List Key×V)->List (List Key×Addr×Value)->Prop:=Paired λp q=>p.1=q.1/\H q.2.1=Y (.tup (p.1.map kV))/\fO p.2 q.2.2
def KT.val{a:List (List Key×V)}(r:KT H a xs)(k:List Key):pk (mv a k) ((atKey xs k).map (·.2)):=by
 induction r with
 |nil=>exact aI
 |@cons p q j c h t g=>
  obtain⟨f,_,i⟩:=h;by_cases e:p.1=k
  ·have d:q.1=k:=f.symm.trans e;have b:atKey (q::c) k=Y q.2:=by simp[atKey,bH,d]
   rw[tM e,b];exact i
  ·have d:¬ q.1=k:=λz=>e (f.trans z);have b:atKey (q::c) k=atKey c k:=by simp[atKey,bH,d]
   rw[qC e,b];exact g
def KT.GW{a:List (List Key×V)}(r:KT H a xs)(k:List Key){y:V}{u:Value}(f:fO y u):
  KT H (a.map λc=>if c.1=k then (c.1,y) else c) (xs.map (putAt k u)):=by
 induction r with
 |nil=>exact .nil
 |@cons p q l j h t g=>
  rw[ai,ai];refine .cons ?_ g;obtain⟨b,d,i⟩:=h;unfold putAt;by_cases e:p.1=k
  ·rw[ag e,ag (b.symm.trans e)];exact⟨b,d,f⟩
  ·rw[aj e,aj (λz=>e (b.trans z))];exact⟨b,d,i⟩
def KT.put{a:List (List Key×V)}(r:KT H a xs)(k:List Key){b:Addr}{y:V}{u:Value}(f:H b=Y (.tup (k.map kV)))(c:fO y u):
  KT H (putK a k y) (storedH xs k b u):=by
 have e:(a.any λd=>decide (d.1=k))=(atKey xs k).isSome:=by rw[Ej,(r.val k).pv,dM]
 unfold putK storedH;rw[e];by_cases q:(atKey xs k).isSome=true
 ·rw[ag q,ag q];exact r.GW k c
 ·rw[aj q,aj q];exact Paired.snoc r ⟨rfl,f,c⟩
def KT.keeps{c:Hp}{a:List (List Key×V)}(r:KT H a xs)(d:∀b ys,H b=Y (.tup ys)->c b=Y (.tup ys)):KT c a xs :=
 Paired.TQ r λ_ _ z=>⟨z.1,d _ _ z.2.1,z.2.2⟩
section
variable {P:Program}{w:World}{h:Heap}
def SK{u:HO}(b:sF P w H h)(e:Rd H a u):iR P w H h a u:=e.ok b
def sd{b:List (Key×V)}(d:sF P w H h)(e:Rd H a (.dK b)):b.length<=sizeLine/\(a==sysModules)=false/\∃c,KV b c/\h.DictOf (fG P w) a c :=
 show iR P w H h a (.dK b) from SK d e
def mT{kvs:List (Key×V)}(c:sF P w H h)(e:H a=Y (.dK kvs)):kvs.length<=sizeLine/\(a==sysModules)=false/\∃b,KV kvs b/\h.DictOf (fG P w) a b:=sd c (.inl e)
def sN{b:List Key}(d:sF P w H h)(e:H a=Y (.tup (b.map kV))):(tupleKind (fG P w)).is h b a:=by
 obtain⟨_,c,r,o,i,g,n,f⟩:=(show iR P w H h a (.tup (b.map kV)) from d a _ e)
 exact⟨o,c.toArray,n,i,g,f,by simpa using Bj r⟩
def vZ{b:List (List Key×V)}(g:sF P w H h)(e:Rd H a (.dT b)):b.length<=sizeLine/\(a==sysModules)=false /\
  ∃d,KT H b d/\h.DictOfH (tupleKind (fG P w)) a d:=by
 obtain⟨z,y,d,r,o,A,B,v,u,s,n,k⟩:=(show iR P w H h a (.dT b) from SK g e)
 refine⟨z,y,d,r,o,A,B,v,u,s,n,λx c=>?_,k⟩;have f:∀{l:List (List Key×V)}{m:List (List Key×Addr×Value)},KT H l m->∀x∈m,(tupleKind (fG P w)).is h x.1 x.2.1:=by
  intro l m q;induction q with
  |nil=>intro x c;exact nomatch c
  |@cons p q D C i t j=>
   intro x c;rcases ao.mp c with e|c
   ·subst e;exact sN g (by rw[<-i.1];exact i.2.1)
   ·exact j x c
 exact f r x c
def W4{b:List (List Key×V)}(d:sF P w H h)(e:H a=Y (.dT b)):b.length<=sizeLine/\(a==sysModules)=false /\
  ∃c,KT H b c/\h.DictOfH (tupleKind (fG P w)) a c:=vZ d (.inl e)
end
def pw(H:Hp)(a:Addr)(y:V)(r:Option V):Prop :=
 (∃c k,Rd H a (.dK c)/\y=kV k/\r=mv c k)\/∃c k b,Rd H a (.dT c)/\y=.ref b/\H b=Y (.tup (k.map kV))/\r=mv c k
def Qn(H:Hp)(a:Addr)(y v:V)(d:Hp):Prop :=
 (∃c k,H a=Y (.dK c)/\y=kV k/\c.length<sizeLine/\d=upd H a (.dK (putK c k v))) \/
 ∃c k b,H a=Y (.dT c)/\y=.ref b/\H b=Y (.tup (k.map kV))/\c.length<sizeLine/\d=upd H a (.dT (putK c k v))
theorem pw.k{H:Hp}{a:Addr}{kvs:List (Key×V)}{k:Key}(e:H a=Y (.dK kvs)):pw H a (kV k) (mv kvs k):=.inl ⟨kvs,k,.inl e,rfl,rfl⟩
theorem Qn.k{H:Hp}{a:Addr}{kvs:List (Key×V)}{k:Key}{v:V}(e:H a=Y (.dK kvs))(b:kvs.length<sizeLine):Qn H a (kV k) v (upd H a (.dK (putK kvs k v))):=.inl ⟨kvs,k,e,rfl,b,rfl⟩
section
variable {y:V}{u r:Value}{o:Option V}
def eT.big(I:eT X pins σ H s):sysModules<(zB s):=by have h:mainGlobals<(zB s):=(I.mod.glob.keeps I.bk).lt;exact d6 (by decide) h
def Kw{Q:Px}(t:A.units+1<cLine)(I:eT X pins σ H s)(g:pw H a y (Y v))(n:fO y u)(h:∀w' s',eT X pins σ H s'->fO v w'->Q w' s'):
  wpAny (model X.prog X.w) A (getItem (.ref a) u) Q E s:=by
 rcases g with ⟨f,k,e,j,l⟩ | ⟨f,k,b,e,j,C,l⟩
 ·subst j;obtain⟨z,B,r,d,m⟩:=sd I.ir e;obtain⟨w',hw,c⟩:=pk.some_of (v:=v) (o:=valueAt r k) (by rw[l];exact d.val k);exact dX (lR n) m.mapOf hw (h w' _ (I.tok _) c)
 ·subst j;cases (show u=Value.ref b from n);obtain⟨z,B,q,d,m⟩:=vZ I.ir e;obtain⟨w',hw,c⟩:=pk.some_of (v:=v) (o:=(atKey q k).map (·.2)) (by rw[l];exact d.val k);obtain⟨p,x,i⟩:=aa.mp hw;refine wpAny_getItem_heap (b0 t) (sN I.ir C) m x ?_;rw[i];exact h w' _ (I.tok _) c
def Z8{Q:Px}(n:A.units+1<cLine)(I:eT X pins σ H s)(g:pw H a y o)(m:fO y u)(h:∀s',eT X pins σ H s'->Q (.bool o.isSome) s'):
  wpAny (model X.prog X.w) A (compareOp .In u (.ref a)) Q E s:=by
 rcases g with ⟨d,k,e,i,l⟩ | ⟨d,k,b,e,i,p,l⟩
 ·subst i;obtain⟨z,f,t,c,j⟩:=sd I.ir e;refine wpAny_in_of (lR m) f j.mapOf ?_;rw[<-(c.val k).pv,<-l];exact h _ (I.tok _)
 ·subst i;cases (show u=Value.ref b from m);obtain⟨z,f,r,c,j⟩:=vZ I.ir e;refine wpAny_in_heap (b0 n) (sN I.ir p) f j ?_;have q:=(c.val k).pv;rw[dM] at q;rw[<-q,<-l];exact h _ (I.tok _)
def Qo{Q:Px}(n:A.units+1<cLine)(I:eT X pins σ H s)(g:pw H a y o)(m:fO y u)(h:∀s',eT X pins σ H s'->Q (.bool (!o.isSome)) s'):
  wpAny (model X.prog X.w) A (compareOp .NotIn u (.ref a)) Q E s:=by
 rcases g with ⟨d,k,e,i,l⟩ | ⟨d,k,b,e,i,p,l⟩
 ·subst i;obtain⟨z,f,t,c,j⟩:=sd I.ir e;refine wpAny_notIn_of (lR m) f j.mapOf ?_;rw[<-(c.val k).pv,<-l];exact h _ (I.tok _)
 ·subst i;cases (show u=Value.ref b from m);obtain⟨z,f,r,c,j⟩:=vZ I.ir e;refine wpAny_notIn_heap (b0 n) (sN I.ir p) f j ?_;have q:=(c.val k).pv;rw[dM] at q;rw[<-q,<-l];exact h _ (I.tok _)
def xH{h':Heap}{t':Nat}{c:HO}(I:eT X pins σ H s)(f:Ws (H a))(g:Heap.SameBut a s.heap h')(h:∃q,h'.get? a=Y q)(d:iR X.prog X.w (upd H a c) h' a c):
  eT X pins σ (upd H a c) { s with heap:=h',toks:=t' } :=
 I.write (x:=a) (e:=a) f (.inl rfl) (λb q hb z=>(g.2 b hb).trans z) h d
def Cq{P:Program}{w:World}{g:Hp}{h':Heap}{b:List (Key×V)}{c:List (Key×Value)}(z:b.length<=sizeLine)(e:(a==sysModules)=false)(d:KV b c)(f:h'.DictOf (fG P w) a c):
  iR P w g h' a (.dK b):=⟨z,e,c,d,f⟩
theorem Kx{K:Hp}{Q:Unit->Shared->Prop}(N:A.units+1<cLine)(I:eT X pins σ H s)(g:Qn H a y v K)(C:fO y u)(D:fO v r)(h:∀s',eT X pins σ K s'->Q () s'):
  wpAny (model X.prog X.w) A (setItem (.ref a) u r) Q E s:=by
 rcases g with ⟨f,k,e,t,l,x⟩ | ⟨f,k,b,e,t,J,l,x⟩
 ·subst t x;obtain⟨z,p,M,d,B⟩:=mT I.ir e;have m:M.length<=sizeLine:=by rw[<-d.length];exact z
  have o:(putK f k v).length<=sizeLine:=by have:=oD f k v;omega
  refine wpAny_setItem_pairs (hsz:=m) (lR C) B λF i n=>h _ ?_;have O:∃q,F.get? a=Y q:=by obtain⟨q,_,_,j,_⟩:=i;exact⟨q,j⟩
  exact xH I (by rw[e];exact aI) n O (Cq o p (d.put k D) i)
 ·subst t x;cases (show u=Value.ref b from C);obtain⟨z,p,L,d,B⟩:=W4 I.ir e;have m:L.length<=sizeLine:=by rw[<-cf d];exact z
  have o:(putK f k v).length<=sizeLine:=by have:=oD f k v;omega
  refine wpAny_setItem_heap (hsz:=m) (b0 N) (sN I.ir J) B λF i n=>h _ ?_;obtain⟨q,U,V,j,T,S,R,_,P⟩:=i;refine xH I (by rw[e];exact aI) n ⟨q,j⟩ ⟨o,p,_,(d.put k J D).keeps λc W G=>?_,q,U,V,j,T,S,R,P⟩;rw[eI (Wr G e (λz=>nomatch z))];exact G
end
section
variable {kvs:List (Key×V)}{k:Key}{u:Value}
def W5{b:Lw}{Q:Px} (I:eT X pins σ H s) (e:H a=Y (.dK kvs)) (f:fO (kV k) u) (l:mv kvs k=Y v) (m:b=[]\/∃x,b=[x])
  (h:∀w' s',eT X pins σ (upd H a (.dK (yb kvs k))) s'->fO v w'->Q w' s'):wpAny (model X.prog X.w) A (call (.builtin "dict.pop") (.ref a::u::b)) Q E s:=by
 obtain⟨z,C,j,c,n⟩:=mT I.ir e;obtain⟨w',hw,g⟩:=pk.some_of (v:=v) (o:=valueAt j k) (by rw[<-l];exact c.val k);have y:(keyPart u).isSome=true:=by
  cases k with
  |inl i=>obtain⟨t,q⟩:=(show ∃t,u=Value.int i t from f);subst q;rfl
  |inr x=>obtain⟨t,q⟩:=(show ∃t,u=Value.str x t from f);subst q;rfl
 have D:argsOk "dict.pop" ⟨.ref a::u::b,[]⟩:=by
  rcases m with q | ⟨x,q⟩
  ·subst q;exact PySem.F.args_dict_pop_2 _ _
  ·subst q;exact PySem.F.args_dict_pop_3 _ _ _
 refine cG c8 n.typeIs PySem.F.entry_dict_pop D (meets_dict_pop_there (fG X.prog X.w) a (lR f) b m y)
  ⟨j,w',n,by rw[<-c.length];exact z,hw,λG d p=>h w' _ ?_ g⟩
 have B:∃q,G.get? a=Y q:=by obtain⟨q,_,_,r,_⟩:=d;exact⟨q,r⟩
 exact xH I (by rw[e];exact aI) p B (Cq (bq (MY kvs k) z) C (c.drop k) d)
def Uq{r:Value}{Q:Px}(I:eT X pins σ H s)(e:H a=Y (.dK kvs))(b:fO (kV k) u)(l:mv kvs k=Z)(h:∀s',eT X pins σ H s'->Q r s'):
  wpAny (model X.prog X.w) A (call (.builtin "dict.pop") [.ref a,u,r]) Q E s:=by
 obtain⟨z,m,d,c,f⟩:=mT I.ir e;have j:valueAt d k=Z:=pk.none_of (by rw[<-l];exact c.val k);have g:(keyPart u).isSome=true:=by
  cases k with
  |inl i=>obtain⟨t,q⟩:=(show ∃t,u=Value.int i t from b);subst q;rfl
  |inr x=>obtain⟨t,q⟩:=(show ∃t,u=Value.str x t from b);subst q;rfl
 exact cG c8 f.typeIs PySem.F.entry_dict_pop (PySem.F.args_dict_pop_3 _ _ _) (meets_dict_pop_default (fG X.prog X.w) a (lR b) m g r) ⟨d,f,j,h _ (I.tok _)⟩
def W6{Q:Px}(I:eT X pins σ H s)(e:Rd H a (.dK kvs))(h:∀t s',eT X pins σ H s'->Q (.int kvs.length t) s'):wpAny (model X.prog X.w) A (call (.builtin "len") [.ref a]) Q E s:=by obtain⟨z,c,f,b,d⟩:=sd I.ir e;refine call_len_dict c d (by rw[<-b.length];rw[sizeLine_eq] at z;omega) ?_;rw[<-b.length];exact h _ _ (I.tok _)
end
def Ek(i:Expr):Prop:=∀a b,subscripted i false a b=operate [a,b] (getItem a b)
def Cr{a:Program}{w:World}{g:Env}{c b:Expr}{T m:String}{Q:Px}
  (p:typeLookup (.type T) "__getitem__"=pure (Y (.builtin m))) (n:Ek b)
  (h:wpAny (model a w) A (eval c g) (λo s₁=>wpAny (model a w) A (eval b g) (λi s₂=>s₂.TypeIs o T/\wpAny (model a w) A (getItem o i) Q E s₂) E s₁) E s):
  wpAny (model a w) A (eval (.Subscript c b pos) g) Q E s:=by
 refine Subscript_ (bK h (λo s₁ k=>bK k (λi s₂ d=>?_) λ_ _ x=>x) λ_ _ x=>x);obtain⟨l,d⟩:=d;unfold subscriptTail;refine ab ?_;rw[getitemInPython_of_ne l.not_modules];refine ab (dv l p ?_);have f:wpAny (model a w) A (subscripted b false o i) (λr e=>wpAny (model a w) A (letTemporaryGo c o r>>=λ_=>pure r) Q E e) E s₂:=by rw[n o i];exact wpAny_operating (bK d (λr e j=>ab (wpAny_letTemporaryGo (au j))) λ_ _ x=>x)
 first
  |exact au (ab f)
  |exact ab (au (ab f))
  |exact ab f
def El{y:V}{o:Option V}(I:eT X pins σ H s)(g:pw H a y o):s.TypeIs (.ref a) "dict":=by
 rcases g with ⟨c,k,e,_,_⟩ | ⟨c,k,b,e,_,_,_⟩
 ·obtain⟨_,_,h,_,d⟩:=sd I.ir e;exact d.typeIs
 ·obtain⟨_,_,f,_,d⟩:=vZ I.ir e;exact d.typeIs
def W7(d c:TE):TE:=λσ H Q=>d σ H λx e=>c σ e λy b=>∃a v,x=.ref a/\pw b a y (Y v)/\Q v b
section
variable {i value:Expr}{pos' WR:Pos}{td ty tv:TE}
def Jc(m:X.A.units+1<cLine)(p:PE X o td)(q:PE X i ty)(n:Ek i):PE X (.Subscript o i pos) (W7 td ty):=by intro b s σ H Q I h;refine Cr PySem.F.slot_dict_getitem.lookup n (gS (@p b s σ H _ I h) ?_);rintro u e ⟨x,B,w,j,l⟩;refine gS (@q b e σ B _ w l) ?_;rintro G E ⟨y,z,d,f,a,v,r,g,k⟩;subst r;obtain rfl:u=Value.ref a:=j;exact⟨El d g,Kw m d g f λC D t c=>⟨v,z,t,c,k⟩⟩
end
def Em{P:Program}{w:World}(h:Heap)(a:sysModules<h.objs.size):iR P w H (h.push { cls:=.type "dict",data:=.dict #[] }) h.objs.size (.dK []) :=
 ⟨cD _,aQ.mpr (Ne.symm (aG a)),[],.nil,Heap.DictOf.new h⟩
def Ur:TE:=λ_ H Q=>∀p,H p=Z->Q (.ref p) (upd H p (.dK []))
section
def En:PE X (.Dict [] [] pos) Ur:=λb s σ H Q I h=>
 wpAny_Dict_empty ⟨.ref (zB s),_,I.laid (a:=(zB s)) (o:=.dK []) (t':=s.toks) (λ_ _ q=>af _ q) (az _) (Em s.heap I.big),rfl,h _ (I.ir.fresh (az _))⟩
end
def Cs:List (TE×TE)->St->Hp->(List (V×V)->Hp->Prop)->Prop
 |[],_,H,Q=>Q [] H
 | (tk,a)::r,σ,H,Q=>tk σ H λx e=>a σ e λy d=>Cs r σ d λb c=>Q ((x,y)::b) c
abbrev VV:List (V×V)->List (Value×Value)->Prop:=Paired λp q=>fO p.1 q.1/\fO p.2 q.2
def W8(X:Cx)(e:Pos)(c:List (Option Expr))(a:Lx)(d:List (TE×TE)):Prop :=
 ∀(b:Ax) (s:Shared) (σ:St) (H:Hp) (Q:List (V×V)->Hp->Prop),eT X b σ H s->Cs d σ H Q ->
  (zw X) (evalPairs (pairTrees c a X.env e)) (λvs h=>∃f g,eT X b σ g h/\VV f vs/\Q f g) X.xe s
def Qp:W8 X pos [] [] []:=λa s σ H Q I h=>pairTrees_nil_walk ⟨[],H,I,.nil,h⟩
def MZ{k v:Expr}{g:List (Option Expr)}{d:Lx}{f e:TE}{b:List (TE×TE)}(w:PE X k f)(r:PE X v e)(t:W8 X pos g d b):
  W8 X pos (Y k::g) (v::d) ((f,e)::b):=λa s σ H Q I h=>
 pairTrees_cons_walk (gS (@w a s σ H _ I h) λu j ⟨x,E,B,m,p⟩=>gS (@r a j σ E _ B p) λG i ⟨y,D,A,l,o⟩=>
  gS (@t a i σ D _ A o) <| by rintro F J ⟨q,C,z,c,n⟩;exact⟨(x,y)::q,C,z,.cons ⟨m,l⟩ c,n⟩)
def qD(b a:List (Key×V)):List (Key×V):=a.foldl (λacc kv=>putK acc kv.1 kv.2) b
def KV.merge:∀{a:List (Key×V)}{d:List (Key×Value)}{b:List (Key×V)}{c:List (Key×Value)},KV a d->KV b c->KV (qD b a) (merged c d):=by
 intro a d b c r;unfold KV at r;induction r generalizing b c with
 |nil=>intro q;exact q
 |@cons p q j i h t g=>
  intro f;have e:KV (putK b p.1 p.2) (stored c q.1 q.2):=by have:=f.put p.1 h.2;rw[<-h.1];exact this
  exact g e
theorem se:∀(b a:List (Key×V)),(qD a b).length<=a.length+b.length
 |[],a=>by show a.length<=a.length+0;omega
 |p::r,a=>by have d:=se r (putK a p.1 p.2);have c:=oD a p.1 p.2;show (qD (putK a p.1 p.2) r).length<=_;rw[ax];omega
theorem yc{P:Program}{w:World}:∀{d:List (Key×V)}{f:List (Value×Value)},VV (d.map λg=>(kV g.1,g.2)) f->∃e,Carries (fG P w) f e/\KV d e
 |[],_,r=>by rw[bC] at r;cases r;exact⟨[],aI,.nil⟩
 |p::d,_,r=>by
  rw[ai] at r;cases r with
  |@cons a b l j h t=>obtain⟨e,c,q⟩:=yc (P:=P) (w:=w) t;obtain⟨k,i⟩:=b;exact⟨(p.1,i)::e,⟨lR h.1,rfl,c⟩,.cons ⟨rfl,h.2⟩ q⟩
def W9(b:List (TE×TE)):TE:=λσ H Q=>∀p,H p=Z->Cs b σ (upd H p (.dK [])) λd c=>c p=Y (.dK [])/\∃a:List (Key×V),d=a.map (λkv=>(kV kv.1,kv.2))/\a.length<=15/\Q (.ref p) (upd c p (.dK (qD [] a)))
def Qq{b:List (Option Expr)}{d:Lx}{f:List (TE×TE)} (h:W8 X pos b d f) (j:b.all (·.isSome)=true) (C:b.length=d.length) (G:b≠[])
  (m:b.length<=15):PE X (.Dict b d pos) (W9 f):=by
 intro g s σ H Q I q;have B:=I.ir.fresh (az (zB s));have L:=I.laid (a:=(zB s)) (o:=.dK []) (h':=s.heap.push { cls:=.type "dict",data:=.dict #[] }) (t':=s.toks) (λ_ _ q=>af _ q) (az _) (Em s.heap I.big);refine wpAny_Dict_walk (knd:=fG X.prog X.w) j C G m (gS (h g _ σ _ _ L (q _ B)) ?_);rintro M N ⟨O,S,n,l,e,i,J,R,v⟩;subst J;obtain⟨r,c,t⟩:=yc (P:=X.prog) (w:=X.w) l;obtain⟨z,E,p,u,K⟩:=mT n.ir e;cases u;refine⟨r,c,K,λh' k y=>⟨.ref (zB s),_,?_,rfl,v⟩⟩;have x:(qD [] i).length<=sizeLine:=by have F:=se i [];rw[du] at F;rw[sizeLine_eq];omega
 have D:∃q,h'.get? (zB s)=Y q:=by obtain⟨q,_,_,A,_⟩:=k;exact⟨q,A⟩
 exact xH n (by rw[e];exact aI) y D (Cq x E (t.merge .nil) k)
structure M1 (X:Cx) (o:Expr) (m:Str) (apos:Pos) (e:Expr) (fV:Pos):Prop where
 base:attributeBase o m X.env (eval o X.env)=eval o X.env
 Xa:((backTo fV (starEach [e] X.env)).all (λx=>!x.1)&&(backToKw fV (keywordEach [] X.env)).all (λx=>x.1.isSome)
 &&decide (([e]:Lx).length+([]:List Keyword).length+(if ([]:List Keyword).isEmpty then 0 else 1)<30))=true
 line:(apos.endLine==fV.line)=true
 trees:backTo fV (starEach [e] X.env)=[(false,eval e X.env)]
structure M2 (X:Cx) (o:Expr) (m:Str) (apos:Pos) (e f:Expr) (fV:Pos):Prop where
 base:attributeBase o m X.env (eval o X.env)=eval o X.env
 Xa:((backTo fV (starEach [e,f] X.env)).all (λx=>!x.1)&&(backToKw fV (keywordEach [] X.env)).all (λx=>x.1.isSome)
 &&decide (([e,f]:Lx).length+([]:List Keyword).length+(if ([]:List Keyword).isEmpty then 0 else 1)<30))=true
 line:(apos.endLine==fV.line)=true
 trees:backTo fV (starEach [e,f] X.env)=[(false,eval e X.env),(false,eval f X.env)]
def Eo(H:Hp)(a:Addr):Prop:=(∃b,Rd H a (.dK b))\/∃b,Rd H a (.dT b)
def ye(I:eT X pins σ H s)(d:Eo H a):
  s.TypeIs (.ref a) "dict"/\(∀b,Value.ref a=.ref b->∃c,s.heap.get? b=Y c/\c.dict=Z)/\(a==sysModules)=false:=by
 rcases d with ⟨g,e⟩ | ⟨g,e⟩
 ·obtain⟨_,h,l,_,f⟩:=sd I.ir e;refine⟨f.typeIs,λb q=>?_,h⟩;cases q;obtain⟨c,_,_,j,i,_⟩:=f;exact⟨c,j,i.2.1⟩
 ·obtain⟨_,h,k,_,f⟩:=vZ I.ir e;refine⟨f.typeIs,λb q=>?_,h⟩;cases q;obtain⟨c,_,_,j,i,_⟩:=f;exact⟨c,j,i.2.1⟩
section
variable {y d:V}{u r:Value}{o:Option V}
def Us{Q:Px}(p:A.units+1<cLine)(I:eT X pins σ H s)(g:pw H a y o)(m:fO y u)(h:∀w' s',eT X pins σ H s'->fO (o.getD .k9) w'->Q w' s'):
  wpAny (model X.prog X.w) A (call (.builtin "dict.get") [.ref a,u]) Q E s:=by
 rcases g with ⟨f,k,e,j,l⟩ | ⟨f,k,b,e,j,q,l⟩
 ·subst j;obtain⟨z,i,r,c,d⟩:=sd I.ir e;refine cG bp d.typeIs bV (cM _ _) (meets_dict_get (fG X.prog X.w) a (lR m) i) ⟨_,d.mapOf,h _ _ (I.tok _) ?_⟩;rw[l];exact(c.val k).getD rfl
 ·subst j;cases (show u=Value.ref b from m);obtain⟨z,i,n,c,d⟩:=vZ I.ir e;refine cG bp d.typeIs bV (cM _ _) (meetsH_dict_get (tupleKind (fG X.prog X.w)) a b i) ⟨b0 p,k,n,sN I.ir q,d,h _ _ (I.tok _) ?_⟩;rw[l];exact(c.val k).getD rfl
def Ut{Q:Px}(t:A.units+1<cLine)(I:eT X pins σ H s)(g:pw H a y o)(n:fO y u)(p:fO d r)(h:∀w' s',eT X pins σ H s'->fO (o.getD d) w'->Q w' s'):
  wpAny (model X.prog X.w) A (call (.builtin "dict.get") [.ref a,u,r]) Q E s:=by
 rcases g with ⟨i,k,e,m,l⟩ | ⟨i,k,b,e,m,v,l⟩
 ·subst m;obtain⟨z,j,x,c,f⟩:=sd I.ir e;refine cG bp f.typeIs bV (PySem.F.args_dict_get_3 _ _ _) (meets_dict_get_default (fG X.prog X.w) a (lR n) j r) ⟨_,f.mapOf,h _ _ (I.tok _) ?_⟩;rw[l];exact(c.val k).getD p
 ·subst m;cases (show u=Value.ref b from n);obtain⟨z,j,q,c,f⟩:=vZ I.ir e;refine cG bp f.typeIs bV (PySem.F.args_dict_get_3 _ _ _) (meetsH_dict_get_default (tupleKind (fG X.prog X.w)) a b j r) ⟨b0 t,k,q,sN I.ir v,f,h _ _ (I.tok _) ?_⟩;rw[l];exact(c.val k).getD p
end
def Uu(e d:TE):TE:=λσ H Q=>e σ H λx c=>∃a,x=.ref a/\Eo c a/\d σ c λy b=>∃o,pw b a y o/\Q (o.getD .k9) b
def Uv(f d e:TE):TE:=λσ H Q=>f σ H λx c=>∃a,x=.ref a/\Eo c a/\d σ c λy g=>e σ g λz b=>∃o,pw b a y o/\Q (o.getD z) b
def Uw(g e f:TE):TE:=λσ H Q=>g σ H λx d=>∃a,x=.ref a/\Eo d a/\e σ d λy h=>f σ h λz c=>∃b k,c a=Y (.dK b)/\y=kV k /\
 (∀v,mv b k=Y v->Q v (upd c a (.dK (yb b k))))/\(mv b k=Z->Q z c)
section
variable {f:Expr}{fV:Pos}{td ty tx:TE}
def M3(r:X.A.units+1<cLine)(t:PE X o td)(v:PE X e ty)(m:M1 X o "get" apos e fV):PE X (.Call (.Attribute o "get" apos) [e] [] fV) (Uu td ty):=by intro b s σ H Q I h;refine cA m.base m.Xa m.line bP bp c9 (gS (@t b s σ H _ I h) ?_);rintro u k ⟨x,D,f,n,a,w,d,q⟩;subst w;obtain rfl:u=Value.ref a:=n;obtain⟨j,i,_⟩:=ye f d;refine⟨j,i,?_⟩;rw[m.trees];refine bE rfl (b9 (aS (gS (@v b k σ D _ f q) ?_)));rintro K G ⟨y,C,B,l,J,g,p⟩;refine a8 ?_;exact Us r B g l λE F z c=>⟨_,C,z,c,p⟩
def M4(B:X.A.units+1<cLine)(C:PE X o td)(E:PE X e ty)(D:PE X f tx)(m:M2 X o "get" apos e f fV):PE X (.Call (.Attribute o "get" apos) [e,f] [] fV) (Uv td ty tx):=by
 intro b s σ H Q I h;refine cA m.base m.Xa m.line bP bp c9 (gS (@C b s σ H _ I h) ?_);rintro u n ⟨x,N,i,r,a,F,d,w⟩;subst F;obtain rfl:u=Value.ref a:=r;obtain⟨k,j,_⟩:=ye i d;refine⟨k,j,?_⟩;rw[m.trees];refine bE rfl (b9 (aS (gS (@E b n σ N _ i w) λT l ⟨y,M,K,q,v⟩=>
  aS (gS (@D b l σ M _ K v) λU R ⟨z,L,J,p,S,g,t⟩=>a8 ?_))))
 exact Ut B J g q p λO P G c=>⟨_,L,G,c,t⟩
def M5(L:PE X o td)(N:PE X e ty)(M:PE X f tx)(m:M2 X o "pop" apos e f fV):PE X (.Call (.Attribute o "pop" apos) [e,f] [] fV) (Uw td ty tx):=by
 intro b s σ H Q I h;refine cA m.base m.Xa m.line bP c8 PySem.F.type_dict_pop (gS (@L b s σ H _ I h) ?_);rintro u B ⟨x,V,q,D,a,R,d,K⟩;subst R;obtain rfl:u=Value.ref a:=D;obtain⟨t,r,_⟩:=ye q d;refine⟨t,r,?_⟩;rw[m.trees];refine bE rfl (b9 (aS (gS (@N b B σ V _ q K) λiv A ⟨y,U,S,j,J⟩=>
  aS (gS (@M b A σ U _ S J) λO s3 ⟨z,T,p,C,g,k,n,P,G,E⟩=>a8 ?_))))
 subst P;cases l:mv g k with
 |some v=>exact W5 p n j l (.inr ⟨O,rfl⟩) λW w i c=>⟨v,_,i,c,G v l⟩
 |none=>exact Uq p n j l λw i=>⟨z,T,i,C,E l⟩
end
section
variable {kvs:List (Key×V)}
end
section
variable {y:V}{u:Value}
end
section
def Ky:jL X (.builtin "len") (λxs H Q=>∃a b,xs=[V.ref a]/\Rd H a (.dK b)/\Q (.int b.length) H):=by intro c s σ H xs g Q I r h;obtain⟨a,b,rfl,e,q⟩:=h;obtain⟨u,rfl,d⟩:=tH r;cases d;exact W6 I e λt i f=>⟨.int b.length,H,f,⟨t,rfl⟩,q⟩
end
section
variable {κ:Type} [DecidableEq κ]
end
noncomputable def kH:Key->eD
 |.inl i=>.int i
 |.inr x=>.str x
def jM(K:Fg)(c:Str)(C:Addr):Prop:=W.nsIn K mainGlobals c=Y (Y (.ref C))
def jM.uniq{c:Str}{C b:Addr}(h:jM K c C)(a:jM K c b):C=b:=by unfold jM at h a;rw[h] at a;cases a;rfl
mutual
def eL (K:Fg) (H:Hp):eD->V->Prop
  |.none,v=>v=.k9
  |.bool b,v=>v=.bl b
  |.int i,v=>v=.int i
  |.str x,v=>v=.str x
  |.list xs,v=>∃p vs,v=.ref p/\kQ K H p vs/\ez K H xs vs
  |.tuple xs,v=>∃p vs,v=.ref p/\qq K H p vs/\ez K H xs vs
  |.dict kvs,v=>∃p,v=.ref p/\((∃kv,Rd H p (.dK kv)/\fZ K H kvs kv)\/∃c C dx fs,jM K c C/\H p=Y (.ins C dx fs)/\px K H c kvs fs)
def ez (K:Fg) (H:Hp):Lp->List V->Prop
  |[],vs=>vs=[]
  |d::ds,vs=>∃v r,vs=v::r/\eL K H d v/\ez K H ds r
def fZ (K:Fg) (H:Hp):List (eD×eD)->List (Key×V)->Prop
  |[],kv=>kv=[]
  | (k,d)::r,kv=>∃y v r',kv=(y,v)::r'/\k=kH y/\eL K H d v/\fZ K H r r'
def px (K:Fg) (H:Hp) (c:Str):List (eD×eD)->List (Str×V)->Prop
  |[],_=>False
  | (k,d)::r,fs=>k=.none/\d=.str c/\kj K H r fs
def kj (K:Fg) (H:Hp):List (eD×eD)->List (Str×V)->Prop
  |[],fs=>fs=[]
  | (k,d)::r,fs=>∃y v r',fs=(y,v)::r'/\k=.str y/\eL K H d v/\kj K H r r'
end
def eN.rd{b:Hp}{u:HO}(e:eN H b)(h:Rd H a u):Rd b a u:=h.imp (e _ _) λ⟨o,z⟩=>⟨o,e _ _ z⟩
def eN.rL{c:Hp}{b:List V}(e:eN H c)(h:qq K H a b):qq K c a b:=by
 rcases h with (h | ⟨o,h⟩)|h
 ·exact .inl (.inl (e _ _ h))
 ·exact .inl (.inr ⟨o,e _ _ h⟩)
 ·exact .inr h
structure Al (K:Fg) (H H':Hp):Prop where
 seq:∀{a xs},kQ K H a xs->kQ K H' a xs
 rL:∀{a xs},qq K H a xs->qq K H' a xs
 rd:∀{a kv},Rd H a (.dK kv)->Rd H' a (.dK kv)
 ins:∀{a C dx fs},H a=Y (.ins C dx fs)->H' a=Y (.ins C dx fs)
def eN.sim{a:Hp}(e:eN H a):Al K H a:=⟨e.seq,e.rL,e.rd,e _ _⟩
mutual
theorem eL.sim {K:Fg}{H H':Hp} (e:Al K H H'):∀{d:eD}{v:V},eL K H d v->eL K H' d v
  |.none,_,h=>by unfold eL at h ⊢;exact h
  |.bool _,_,h=>by unfold eL at h ⊢;exact h
  |.int _,_,h=>by unfold eL at h ⊢;exact h
  |.str _,_,h=>by unfold eL at h ⊢;exact h
  |.list _,_,h=>by
    unfold eL at h ⊢
    obtain⟨p,vs,e1,e2,e3⟩:=h
    exact⟨p,vs,e1,e.seq e2,ez.sim e e3⟩
  |.tuple _,_,h=>by
    unfold eL at h ⊢
    obtain⟨p,vs,e1,e2,e3⟩:=h
    exact⟨p,vs,e1,e.rL e2,ez.sim e e3⟩
  |.dict _,_,h=>by
    unfold eL at h ⊢
    obtain⟨p,e1,⟨kv,e2,e3⟩ | ⟨c,C,dx,fs,e2,e3,e4⟩⟩:=h
    · exact⟨p,e1,.inl ⟨kv,e.rd e2,fZ.sim e e3⟩⟩
    · exact⟨p,e1,.inr ⟨c,C,dx,fs,e2,e.ins e3,px.sim e e4⟩⟩
theorem ez.sim {K:Fg}{H H':Hp} (e:Al K H H'):∀{ds:Lp}{vs:List V},ez K H ds vs->ez K H' ds vs
  |[],_,h=>by unfold ez at h ⊢;exact h
  |_::_,_,h=>by
    unfold ez at h ⊢
    obtain⟨v,r,e1,e2,e3⟩:=h
    exact⟨v,r,e1,eL.sim e e2,ez.sim e e3⟩
theorem fZ.sim {K:Fg}{H H':Hp} (e:Al K H H'):∀{ds:List (eD×eD)}{kv:List (Key×V)},fZ K H ds kv->fZ K H' ds kv
  |[],_,h=>by unfold fZ at h ⊢;exact h
  | (_,_)::_,_,h=>by
    unfold fZ at h ⊢
    obtain⟨y,v,r,e1,e2,e3,e4⟩:=h
    exact⟨y,v,r,e1,e2,eL.sim e e3,fZ.sim e e4⟩
theorem px.sim {K:Fg}{H H':Hp}{c:Str} (e:Al K H H'):∀{ds:List (eD×eD)}{fs:List (Str×V)},px K H c ds fs->px K H' c ds fs
  |[],_,h=>by unfold px at h ⊢;exact h
  | (_,_)::_,_,h=>by
    unfold px at h ⊢
    exact⟨h.1,h.2.1,kj.sim e h.2.2⟩
theorem kj.sim {K:Fg}{H H':Hp} (e:Al K H H'):∀{ds:List (eD×eD)}{fs:List (Str×V)},kj K H ds fs->kj K H' ds fs
  |[],_,h=>by unfold kj at h ⊢;exact h
  | (_,_)::_,_,h=>by
    unfold kj at h ⊢
    obtain⟨y,v,r,e1,e2,e3,e4⟩:=h
    exact⟨y,v,r,e1,e2,eL.sim e e3,kj.sim e e4⟩
end
section
variable {H':Hp}
def eL.same(e:eN H H')(h:eL K H d v):eL K H' d v:=h.sim e.sim
def ez.same(e:eN H H')(h:ez K H ds vs):ez K H' ds vs:=h.sim e.sim
def fZ.same(e:eN H H'){ds:List (eD×eD)}(h:fZ K H ds kv):fZ K H' ds kv:=h.sim e.sim
end
section
def eL.g9:eL K H .none v↔v=.k9:=by unfold eL;exact cB
def eL.fz{b:Bool}:eL K H (.bool b) v↔v=.bl b:=by unfold eL;exact cB
def eL.eW{i:Int}:eL K H (.int i) v↔v=.int i:=by unfold eL;exact cB
def eL.ft:eL K H (.str x) v↔v=.str x:=by unfold eL;exact cB
def eL.fh{a:Lp}:eL K H (.list a) v↔∃p b,v=.ref p/\kQ K H p b/\ez K H a b:=by unfold eL;exact cB
def eL.jz{a:Lp}:eL K H (.tuple a) v↔∃p b,v=.ref p/\qq K H p b/\ez K H a b:=by unfold eL;exact cB
def eL.gP{a:Lp}(h:eL K H (.tuple a) v):∃p b,v=.ref p/\qq K H p b/\ez K H a b:=eL.jz.mp h
def eL.kI:eL K H (.dict kvs) v↔∃p,v=.ref p/\((∃a,Rd H p (.dK a)/\fZ K H kvs a)\/∃c C d b,jM K c C/\H p=Y (.ins C d b)/\px K H c kvs b):=by unfold eL;exact cB
def fZ.eP:fZ K H [] kv↔kv=[]:=by unfold fZ;exact cB
def fZ.eF{k:eD}{r:List (eD×eD)}:fZ K H ((k,d)::r) kv↔∃y v a,kv=(y,v)::a/\k=kH y/\eL K H d v/\fZ K H r a:=by
 constructor
 ·intro h;unfold fZ at h;exact h
 ·intro h;unfold fZ;exact h
def kj.eP{a:List (Str×V)}:kj K H [] a↔a=[]:=by unfold kj;exact cB
def kj.eF{k:eD}{r:List (eD×eD)}{b:List (Str×V)}:kj K H ((k,d)::r) b↔∃y v a,b=(y,v)::a/\k=.str y/\eL K H d v/\kj K H r a:=by
 constructor
 ·intro h;unfold kj at h;exact h
 ·intro h;unfold kj;exact h
def px.eF{c:Str}{k:eD}{r:List (eD×eD)}{a:List (Str×V)}:px K H c ((k,d)::r) a↔k=.none/\d=.str c/\kj K H r a:=by
 constructor
 ·intro h;unfold px at h;exact h
 ·intro h;unfold px;exact h
def px.eP{c:Str}{a:List (Str×V)}:px K H c [] a↔False:=by unfold px;exact cB
def ez.eP:ez K H [] vs↔vs=[]:=by unfold ez;exact cB
def ez.eF:ez K H (d::ds) vs↔∃v r,vs=v::r/\eL K H d v/\ez K H ds r:=by
 constructor
 ·intro h;unfold ez at h;exact h
 ·intro h;unfold ez;exact h
def ez.nil:ez K H [] []:=ez.eP.mpr rfl
def ez.cons{d:eD}{ds:Lp}(h:eL K H d v)(t:ez K H ds vs):ez K H (d::ds) (v::vs):=ez.eF.mpr ⟨v,vs,rfl,h,t⟩
theorem ez.length{ds:Lp}(h:ez K H ds vs):ds.length=vs.length:=by
 induction ds generalizing vs with
 |nil=>rw[ez.eP.mp h];rfl
 |cons d ds a=>obtain⟨v,r,rfl,_,t⟩:=ez.eF.mp h;simp[a t]
def ez.get(h:ez K H ds vs)(e:ds[i]?=Y d):∃v,vs[i]?=Y v/\eL K H d v:=by
 induction ds generalizing vs i with
 |nil=>simp at e
 |cons g ds a=>
  obtain⟨v,r,rfl,b,t⟩:=ez.eF.mp h;cases i with
  |zero=>simp at e;subst e;exact⟨v,rfl,b⟩
  |succ i=>obtain⟨u,f,c⟩:=a t (by simpa using e);exact⟨u,by simpa using f,c⟩
def ez.get'(h:ez K H ds vs)(e:vs[i]?=Y v):∃d,ds[i]?=Y d/\eL K H d v:=by have f:=h.length;have g:i<vs.length:=(aA.mp e).1;have a:ds[i]?=Y ds[i]:=aN (by omega);obtain⟨u,b,c⟩:=h.get a;rw[e] at b;cases b;exact⟨_,a,c⟩
def ez.append{b:Lp}{a:List V}(h:ez K H ds vs)(t:ez K H b a):ez K H (ds++b) (vs++a):=by
 induction ds generalizing vs with
 |nil=>rw[ez.eP.mp h];exact t
 |cons d ds e=>obtain⟨v,r,rfl,f,c⟩:=ez.eF.mp h;exact ez.cons f (e c)
theorem ez.take{a:Lp}(n:Nat)(h:ez K H a vs):ez K H (a.take n) (vs.take n):=by
 induction a generalizing vs n with
 |nil=>rw[ez.eP.mp h];simp;exact ez.nil
 |cons d a c=>
  obtain⟨v,r,rfl,e,b⟩:=ez.eF.mp h;cases n with
  |zero=>simp;exact ez.nil
  |succ n=>simp only[List.take_succ_cons];exact ez.cons e (c n b)
theorem ez.drop{a:Lp}(n:Nat)(h:ez K H a vs):ez K H (a.drop n) (vs.drop n):=by
 induction a generalizing vs n with
 |nil=>rw[ez.eP.mp h];simp;exact ez.nil
 |cons d a c=>
  obtain⟨v,r,rfl,e,b⟩:=ez.eF.mp h;cases n with
  |zero=>exact h
  |succ n=>simp only[List.drop_succ_cons];exact c n b
end
section
mutual
theorem eT.pT (I:eT X pins σ H s):∀{d:eD}{v:V}{u:Value},d.canLay0=true->eL X.K H d v->fO v u->∃as,Reads s.heap u d as
  |.none,_,_,_,h,r=>by rw[eL.g9.mp h] at r;cases r;exact⟨_,.none⟩
  |.bool b,_,_,_,h,r=>by rw[eL.fz.mp h] at r;cases r;exact⟨_,.bool b⟩
  |.int i,_,_,_,h,r=>by rw[eL.eW.mp h] at r;obtain⟨t,rfl⟩:=r;exact⟨_,.int i t⟩
  |.str x,_,_,_,h,r=>by rw[eL.ft.mp h] at r;obtain⟨t,rfl⟩:=r;exact⟨_,.str x t⟩
  |.list xs,_,_,hc,h,r=>by
    obtain⟨p,vs,rfl,e2,e3⟩:=eL.fh.mp h
    cases r
    obtain⟨its,rv,⟨o,n,e,c,_,dd⟩,_⟩:=I.list e2
    obtain⟨as,ra⟩:=eT.Ct I (by simpa [eD.canLay0] using hc) e3 rv
    exact⟨_,.list e c dd (by simpa using ra)⟩
  |.tuple xs,_,_,hc,h,r=>by
    obtain⟨p,vs,rfl,e2,e3⟩:=h.gP
    cases r
    obtain⟨its,rv,⟨o,e,c,n,dd⟩,_⟩:=I.tuple e2
    obtain⟨as,ra⟩:=eT.Ct I (by simpa [eD.canLay0] using hc) e3 rv
    exact⟨_,.tuple e c dd (by simpa using ra)⟩
  |.dict _,_,_,hc,_,_=>by simp[eD.canLay0] at hc
theorem eT.Ct (I:eT X pins σ H s):∀{ds:Lp}{vs:List V}{us:Lw},eD.canLayAll0 ds=true->ez X.K H ds vs->fT vs us->∃as,ReadsAll s.heap us ds as
  |[],_,_,_,h,r=>by rw[ez.eP.mp h] at r;cases r;exact⟨_,.nil⟩
  |d::ds,_,_,hc,h,r=>by
    have Wv:d.canLay0=true/\eD.canLayAll0 ds=true:=by simpa [eD.canLayAll0] using hc
    obtain⟨v,rr,rfl,h1,t⟩:=ez.eF.mp h
    cases r with
    |cons r1 r2=>
      obtain⟨as,ra⟩:=eT.pT I Wv.1 h1 r1
      obtain⟨bs,rb⟩:=eT.Ct I Wv.2 t r2
      exact⟨_,.cons ra rb⟩
end
end
abbrev c7:=List (Option eD)
def jA(K:Fg)(H:Hp)(σ:St)(ρ:c7):Prop:=σ.length=ρ.length/\∀(i:Nat) (d:eD),ρ[i]?=Y (Y d)->∃v,σ[i]?=Y (Y v)/\eL K H d v
theorem jA.same{K:Fg}{H c:Hp}{σ:St}{ρ:c7}(h:jA K H σ ρ)(e:eN H c):jA K c σ ρ :=
 ⟨h.1,λi d q=>by obtain⟨v,a,b⟩:=h.2 i d q;exact⟨v,a,b.same e⟩⟩
theorem jA.set{K:Fg}{H:Hp}{σ:St}{ρ:c7}{i:Nat}{d:eD}{v:V}(h:jA K H σ ρ)(e:eL K H d v):jA K H (σ.set i (Y v)) (ρ.set i (Y d)):=by
 refine⟨by simpa using h.1,λj g q=>?_⟩;by_cases c:j=i
 ·subst c;have f:j<ρ.length:=by
   have:=(aA.mp q).1;simpa using this
  rw[aE f] at q;cases q;exact⟨v,by rw[aE (by rw[h.1];exact f)],e⟩
 ·rw[av (Ne.symm c)] at q;obtain⟨u,a,b⟩:=h.2 j g q;exact⟨u,by rw[av (Ne.symm c)];exact a,b⟩
def KD(K:Fg)(H:Hp)(d:eD)(Q:VK):Prop:=∀v a,eN H a->eL K a d v->Q v a
def KD.here{Q:VK}(k:KD K H d Q)(h:eL K H d v):Q v H:=k v H (.refl H) h
def KD.later{a:Hp}{Q:VK}(k:KD K H d Q)(e:eN H a):KD K a d Q:=λv c b i=>k v c (e.trans b) i
def tD(K:Fg)(f:c7->Od):TE:=λσ H Q=>∃ρ d,jA K H σ ρ/\f ρ=Y d/\KD K H d Q
def PD(X:Cx)(e:Expr)(f:c7->Od):Prop:=PE X e (tD X.K f)
def Z9(K:Fg)(f:c7->Option Bool):TT:=λσ H Q=>∃ρ b,jA K H σ ρ/\f ρ=Y b/\∀a,eN H a->Q b a
def Bl(X:Cx)(e:Expr)(f:c7->Option Bool):Prop:=PT X e (Z9 X.K f)
def tDA(K:Fg)(f:c7->Option Lp):TA:=λσ H Q=>∃ρ c,jA K H σ ρ/\f ρ=Y c/\∀b a,eN H a->ez K a c b->Q b a
def Bm(X:Cx)(a:Lx)(f:c7->Option Lp):Prop:=PA X a (tDA X.K f)
inductive gk where
 |nx (ρ:c7)|rt (d:eD)|bk (ρ:c7)|ct (ρ:c7)
def PE.imp{t u:TE}(h:PE X e t)(k:∀σ H Q,u σ H Q->t σ H Q):PE X e u:=λa s σ H Q I q=>@h a s σ H Q I (k σ H Q q)
def PT.imp{t u:TT}(h:PT X e t)(k:∀σ H Q,u σ H Q->t σ H Q):PT X e u:=λa s σ H Q I q=>@h a s σ H Q I (k σ H Q q)
def PA.imp{e:Lx}{t u:TA}(h:PA X e t)(k:∀σ H Q,u σ H Q->t σ H Q):PA X e u:=λp a s σ H Q I q=>@h p a s σ H Q I (k σ H Q q)
def PS.imp{e:Stmt}{t u:TS}(h:PS X e t)(k:∀D σ H,u D σ H->t D σ H):PS X e u:=λa s σ H D I q=>@h a s σ H D I (k D σ H q)
def vV.imp{e:List Stmt}{t u:TS}(h:vV X e t)(k:∀D σ H,u D σ H->t D σ H):vV X e u:=λa s σ H D I q=>@h a s σ H D I (k D σ H q)
def lQ.imp{f:Value->Value->Sem Value}{r b:R2}(h:lQ X f r)(k:∀x y H Q,b x y H Q->r x y H Q):lQ X f b:=λa s σ H x y v u Q I d c q=>@h a s σ H x y v u Q I d c (k _ _ _ _ q)
def I0.imp{r d:R2}(h:I0 X r)(k:∀x y H Q,d x y H Q->r x y H Q):I0 X d:=λa b c s σ H x y v u Q I g f q e=>h a b c s σ H x y v u Q I g f (k _ _ _ _ q) e
def jL.imp{f:Value}{r b:List V->Hp->VK->Prop}(h:jL X f r)(k:∀xs H Q,b xs H Q->r xs H Q):jL X f b:=λa s σ H xs c Q I d q=>@h a s σ H xs c Q I d (k _ _ _ q)
end L2
variable  {h:L2.c7->Option (Bool×L2.c7)}{f fa:L2.c7->Od}{g:L2.c7->Option Bool}{ρ:L2.c7}{ff q:L2.c7->Option Lp}
namespace L2
open PySem PySem.Spec PyProof.Rows
section
variable {a:Expr}{fb fc:c7->Od}
noncomputable def bS(i:Nat):c7->Od:=λρ=>(ρ[i]?).join
def bb(i:Nat) (g:X.N[i]?=Y x:=by rfl) (b:Mc X.env.scope x:=by first|exact bW rfl|exact bA (bW rfl)|exact bA (bA rfl)) (f:zg x:=by decide)
  (a:(x==("__classdict__":Str))=false:=by decide):PD X (.Name x pos) (bS i):=by
 refine PE.imp (qx g b f a) ?_;rintro σ H Q ⟨ρ,d,c,e,k⟩;have l:ρ[i]?=Y (Y d):=by
  unfold bS at e;cases q:ρ[i]? with
  |none=>rw[q] at e;cases e
  |some o=>rw[q] at e;cases o with
   |none=>cases e
   |some m=>cases e;rfl
 obtain⟨v,j,h⟩:=c.2 i d l;exact⟨v,j,k.here h⟩
noncomputable def dC(d:eD):c7->Od:=λ_=>Y d
def ek{i j}:PD X (.Constant (.int i) j pos) (dC (.int i)):=PE.imp TU <| by rintro σ H Q ⟨_,d,_,e,k⟩;cases e;exact k.here (eL.eW.mpr rfl)
def k0{i j}:PD X (.Constant (.bool i) j pos) (dC (.bool i)):=PE.imp Wx <| by rintro σ H Q ⟨_,d,_,e,k⟩;cases e;exact k.here (eL.fz.mpr rfl)
def fM{j}:PD X (.Constant .none j pos) (dC .none):=PE.imp TV <| by rintro σ H Q ⟨_,d,_,e,k⟩;cases e;exact k.here (eL.g9.mpr rfl)
def c6{x j}:PD X (.Constant (.str x) j pos) (dC (.str x)):=PE.imp TX <| by rintro σ H Q ⟨_,d,_,e,k⟩;cases e;exact k.here (eL.ft.mpr rfl)
def rD2(K:Fg)(g:eD->eD->Od):R2:=λx y H Q=>∃a b c,eL K H a x/\eL K H b y/\g a b=Y c/\KD K H c Q
def u7(X:Cx)(f:Value->Value->Sem Value)(g:eD->eD->Od):Prop:=lQ X f (rD2 X.K g)
noncomputable def d2(g:eD->eD->Od)(b a:c7->Od):c7->Od:=λρ=>(b ρ).bind λx=>(a ρ).bind λy=>g x y
def bind_some{β:Type}{o:Option α}{k:α->Option β}{b:β}(h:o.bind k=Y b):∃a,o=Y a/\k a=Y b:=by
 cases o with
 |none=>cases h
 |some a=>exact⟨a,rfl,h⟩
def YZ{g:eD->eD->Od}{Q:VK}(h:tD K (d2 g fa fb) σ H Q):WH (rD2 K g) (tD K fa) (tD K fb) σ H Q:=by obtain⟨ρ,d,c,e,k⟩:=h;obtain⟨x,l,e⟩:=bind_some e;obtain⟨y,j,e⟩:=bind_some e;exact⟨ρ,x,c,l,λv n b i=>⟨ρ,y,c.same b,j,λu m a f=>⟨x,y,d,i.same a,f,e,k.later (b.trans a)⟩⟩⟩
def hU{c:Operator}{g:eD->eD->Od}(d:u7 X (binaryOp c) g)(f:PD X a fa)(e:PD X b fb):PD X (.BinOp a c b pos) (d2 g fa fb) :=
 PE.imp (SG d f e) λ_ _ _ h=>YZ h
def Ux{c:CmpOp}{g:eD->eD->Od}(d:u7 X (compareOp c) g)(i:PD X a fa)(f:PD X b fb)(e:behindInMarks c b=false):PD X (.Compare a [c] [b] pos) (d2 g fa fb) :=
 PE.imp (P9 d i f e) λ_ _ _ h=>YZ h
def IxD(X:Cx)(g:eD->eD->Od):Prop:=I0 X (rD2 X.K g)
def Xb{g:eD->eD->Od}(d:IxD X g)(f:PD X a fa)(e:PD X b fb)(c:tK b):PD X (.Subscript a b pos) (d2 g fa fb) :=
 PE.imp (MP d f e c) λ_ _ _ h=>YZ h
noncomputable def dI(C:Int->Int->Bool)(g:Int->Int->eD):eD->eD->Od
 |.int i,.int j=>if C i j then Y (g i j) else Z
 |_,_=>Z
def Cu{C:Int->Int->Bool}{g:Int->Int->eD}{x y:eD}(h:dI C g x y=Y d):∃i j,x=.int i/\y=.int j/\C i j=true/\d=g i j:=by
 cases x<;>cases y<;>try (simp[dI] at h;done)
 rename_i i j;dsimp only[dI] at h;by_cases a:C i j=true
 ·rw[ag a] at h;cases h;exact⟨i,j,rfl,rfl,a,rfl⟩
 ·rw[aj a] at h;cases h
def SM{f:Value->Value->Sem Value}{P:Int->Int->Prop}{C:Int->Int->Bool}{g:Int->Int->Int}(h:lQ X f (rI P λi j=>.int (g i j)))(n:∀i j,C i j=true->P i j):u7 X f (dI C λi j=>.int (g i j)) :=
 lQ.imp h <| by rintro x y H Q ⟨a,b,d,m,l,e,k⟩;obtain⟨i,j,rfl,rfl,c,rfl⟩:=Cu e;exact⟨i,j,eL.eW.mp m,eL.eW.mp l,n i j c,k.here (eL.eW.mpr rfl)⟩
def Uy{f:Value->Value->Sem Value}{g:Int->Int->Int}(h:lQ X f (PK λi j=>.int (g i j))):u7 X f (dI (λ_ _=>true) λi j=>.int (g i j)) :=
 lQ.imp h <| by rintro x y H Q ⟨a,b,d,m,l,e,k⟩;obtain⟨i,j,rfl,rfl,c,rfl⟩:=Cu e;exact⟨i,j,eL.eW.mp m,eL.eW.mp l,k.here (eL.eW.mpr rfl)⟩
def Cv{f:Value->Value->Sem Value}{g:Int->Int->Bool}(h:lQ X f (PK λi j=>.bl (g i j))):u7 X f (dI (λ_ _=>true) λi j=>.bool (g i j)) :=
 lQ.imp h <| by rintro x y H Q ⟨a,b,d,m,l,e,k⟩;obtain⟨i,j,rfl,rfl,c,rfl⟩:=Cu e;exact⟨i,j,eL.eW.mp m,eL.eW.mp l,k.here (eL.fz.mpr rfl)⟩
def Cw(i:Int):Bool:=decide (Builtin.Int.intBits i<=2 ^ 20)
noncomputable def Kz:=dI (λ_ _=>true) λi j=>.int (i - j)
noncomputable def tN:=dI (λ_ j=>decide (0<j)&&decide (j<1073741824)) λi j=>.int (i / j)
noncomputable def rM:=dI (λ_ j=>decide (0<j)) λi j=>.int (i % j)
def GX:u7 X (binaryOp .Sub) Kz:=Uy T7
def yf:u7 X (binaryOp .FloorDiv) tN:=SM P7 λi j h=>by simpa [WK] using h
def u9:u7 X (binaryOp .Mod) rM:=SM T8 λi j h=>by simpa using h
def KA:=dI (λ_ _=>true) λi j=>.bool (decide (i<j))
def Y0:=dI (λ_ _=>true) λi j=>.bool (decide (i<=j))
def Uz:=dI (λ_ _=>true) λi j=>.bool (decide (j<i))
def Y1:=dI (λ_ _=>true) λi j=>.bool (decide (j<=i))
def Ep:u7 X (compareOp .Lt) KA:=Cv WL
def Xc:u7 X (compareOp .LtE) Y0:=Cv WM
def Jd:u7 X (compareOp .Gt) Uz:=Cv WN
def SN:u7 X (compareOp .GtE) Y1:=Cv WO
def Xd(K:Fg):R2:=λx y H Q=>∃l b c a,x=.ref l/\y=.ref b/\kQ K H l c/\kQ K H b a/\c.length+a.length<=sizeLine/\∀p,H p=Z->Q (.ref p) (upd H p (.lst (c++a)))
def Qr:lQ X (binaryOp .Add) (Xd X.K):=by
 intro p s σ H x y v u Q I E D h;obtain⟨l,b,R,P,rfl,rfl,L,M,S,q⟩:=h;cases E;cases D;obtain⟨c,r,G,_⟩:=I.list L;obtain⟨a,o,j,_⟩:=I.list M;have U:=r.length;have T:=o.length;obtain⟨⟨O,N,A,C⟩,n,t,z,_,w⟩:=G;obtain⟨⟨B,k,m,i⟩,J,d,g,_,f⟩:=j;simp only at z w g f;subst z w g f;have e:c.toArray++a.toArray=(c++a).toArray:=by simp
 refine d5 ⟨_,t,rfl⟩ ⟨_,d,rfl⟩ noFill_list_add seq_list_add PySem.F.slot_list_add PySem.F.entry_list_add (PySem.F.args_list_add_2 _ _) (list_addW l b c.toArray a.toArray n J N k C i (by simp;omega)) ⟨t,d,?_⟩;rw[e];exact⟨.ref _,_,I.Uo (t':=s.toks) (r.append o) (by rw[bh];omega),rfl,q _ I.fresh⟩
def Qs:lQ X (binaryOp .Add) (λx y H Q=>∃l b o,x=.ref l/\y=.ref b/\qq X.K H l []/\qq X.K H b o/\Q (.ref b) H):=by
 intro p s σ H x y v u Q I E D h;obtain⟨l,b,o,rfl,rfl,J,L,q⟩:=h;cases E;cases D;obtain⟨d,r,F,_⟩:=I.tuple J;obtain⟨c,R,j,_⟩:=I.tuple L;have M:=r.length;obtain⟨⟨P,O,A,C⟩,t,z,n,w⟩:=F;obtain⟨⟨B,k,m,i⟩,e,g,G,f⟩:=j;simp only at z w g f;subst z w g f;have N:d=[]:=by cases d with
  |nil=>rfl
  |cons a r=>simp at M
 subst N;exact d5 ⟨_,t,rfl⟩ ⟨_,e,rfl⟩ dU seq_tuple_add cS cL (cH _ _) (tuple_addW0 l b #[] c.toArray n G O k C i rfl) ⟨t,e,⟨.ref b,H,I,rfl,q⟩⟩
def iF{p:Addr}{o:HO}(h:H p=Z):eN H (upd H p o):=λb u e=>by rw[eI (gp e h)];exact e
def Er{p:Addr}(h:H p=Z)(e:ez K H ds vs):eL K (upd H p (.lst vs)) (.list ds) (.ref p) :=
 eL.fh.mpr ⟨p,vs,rfl,kQ.of eR,e.same (iF h)⟩
def M6{p:Addr}(h:H p=Z)(e:ez K H ds vs):eL K (upd H p (.tup vs)) (.tuple ds) (.ref p) :=
 eL.jz.mpr ⟨p,vs,rfl,qq.of eR,e.same (iF h)⟩
def KD.Am{Q:VK}(k:KD K H (.list ds) Q)(e:ez K H ds vs):∀p,H p=Z->Q (.ref p) (upd H p (.lst vs)):=λp h=>k _ _ (iF h) (Er h e)
def KD.UA{Q:VK}(k:KD K H (.tuple ds) Q)(e:ez K H ds vs):∀p,H p=Z->Q (.ref p) (upd H p (.tup vs)):=λp h=>k _ _ (iF h) (M6 h e)
noncomputable def i5:eD->eD->Od
 |.int i,.int j=>Y (.int (i+j))
 |.str x,.str y=>if x.length+y.length<=sizeLine then Y (.str (x++y)) else Z
 |.list xs,.list ys=>if xs.length+ys.length<=sizeLine then Y (.list (xs++ys)) else Z
 |.tuple xs,.tuple ys=>if xs.length+ys.length<=sizeLine then Y (.tuple (xs++ys)) else Z
 |_,_=>Z
def i8:u7 X (binaryOp .Add) i5:=by
 refine lQ.imp (T6.or (GF.or (Qr.or (Qi.or Qs)))) ?_;rintro x y H Q ⟨a,b,d,l,h,e,k⟩;cases a<;>cases b<;>try (simp[i5] at e;done)
 ·rename_i i j;cases e;exact .inl ⟨i,j,eL.eW.mp l,eL.eW.mp h,k.here (eL.eW.mpr rfl)⟩
 ·rename_i i j;dsimp only[i5] at e;by_cases c:i.length+j.length<=sizeLine
  ·rw[ag c] at e;cases e;exact .inr (.inl ⟨i,j,eL.ft.mp l,eL.ft.mp h,c,k.here (eL.ft.mpr rfl)⟩)
  ·rw[aj c] at e;cases e
 ·rename_i i j;dsimp only[i5] at e;by_cases c:i.length+j.length<=sizeLine
  ·rw[ag c] at e;cases e;obtain⟨p,r,rfl,m,f⟩:=eL.fh.mp l;obtain⟨q,n,rfl,o,g⟩:=eL.fh.mp h;exact .inr (.inr (.inl ⟨p,q,r,n,rfl,rfl,m,o,by rw[<-f.length,<-g.length];exact c,k.Am (f.append g)⟩))
  ·rw[aj c] at e;cases e
 ·rename_i i j;dsimp only[i5] at e;by_cases c:i.length+j.length<=sizeLine
  ·rw[ag c] at e;cases e;obtain⟨p,r,rfl,m,f⟩:=l.gP;obtain⟨q,n,rfl,o,g⟩:=h.gP;cases i with
   |nil=>rw[ez.eP.mp f] at m;exact .inr (.inr (.inr (.inr ⟨p,q,n,rfl,rfl,m,o,k.here h⟩)))
   |cons t s=>
    refine .inr (.inr (.inr (.inl ⟨p,q,r,n,rfl,rfl,m,o,?_,by rw[<-f.length,<-g.length];exact c,λz=>?_,λz=>k.UA (f.append g)⟩)))
    ·intro z;subst z;have:=f.length;simp at this
    ·subst z;have:j=[]:=by have:=g.length;cases j with
      |nil=>rfl
      |cons _ _=>simp at this
     subst this;rw[aM] at k;exact k.here l
  ·rw[aj c] at e;cases e
noncomputable def jN:eD->eD->Od:=λa b=>if SeqAt.shaped a=true/\SeqAt.shaped b=true then Y (.bool (eD.eqv a b)) else Z
noncomputable def v5:eD->eD->Od:=λa b=>if SeqAt.shaped a=true/\SeqAt.shaped b=true then Y (.bool (!eD.eqv a b)) else Z
def gz(n:X.A.units+64<cLine):u7 X (compareOp .Eq) jN:=by
 intro f s σ H x y v u Q I h g ⟨a,b,d,m,l,e,k⟩;unfold jN at e;by_cases c:SeqAt.shaped a=true/\SeqAt.shaped b=true
 ·rw[ag c] at e;cases e;obtain⟨p,j⟩:=I.pT (aO c.1) m h;obtain⟨o,i⟩:=I.pT (aO c.2) l g;exact eq_dataH j i c.1 c.2 n ⟨.bl _,H,I,rfl,k.here (eL.fz.mpr rfl)⟩
 ·rw[aj c] at e;cases e
def lj(n:X.A.units+64<cLine):u7 X (compareOp .NotEq) v5:=by
 intro f s σ H x y v u Q I h g ⟨a,b,d,m,l,e,k⟩;unfold v5 at e;by_cases c:SeqAt.shaped a=true/\SeqAt.shaped b=true
 ·rw[ag c] at e;cases e;obtain⟨p,j⟩:=I.pT (aO c.1) m h;obtain⟨o,i⟩:=I.pT (aO c.2) l g;exact ne_dataH j i c.1 c.2 n ⟨.bl _,H,I,rfl,k.here (eL.fz.mpr rfl)⟩
 ·rw[aj c] at e;cases e
noncomputable def Y2:eD->eD->Od
 |.list xs,.int i=>tJ xs i
 |.tuple xs,.int i=>tJ xs i
 |.str z,.int i=>if z.length<=sizeLine then (tJ z.cps.toList i).map λc=>.str ⟨#[c]⟩ else Z
 |_,_=>Z
def SO{i:Int}(h:ez K H ds vs)(e:tJ ds i=Y d):∃v,tJ vs i=Y v/\eL K H d v:=by
 unfold tJ at e ⊢;rw[<-h.length];cases q:Gu ds.length i with
 |none=>rw[q] at e;cases e
 |some j=>rw[q] at e;exact h.get e
def ixD:IxD X Y2:=by
 refine I0.imp Ul ?_;rintro x y H Q ⟨a,b,d,j,h,e,k⟩;cases a<;>cases b<;>try (simp[Y2] at e;done)
 ·rename_i z i;dsimp only[Y2] at e;by_cases l:z.length<=sizeLine
  ·rw[ag l] at e;obtain⟨c,r,f⟩:=aa.mp e;subst f;exact .inr (.inr ⟨z,i,c,eL.ft.mp j,eL.eW.mp h,l,r,k.here (eL.ft.mpr rfl)⟩)
  ·rw[aj l] at e;cases e
 ·rename_i q i;obtain⟨p,g,rfl,f,o⟩:=eL.fh.mp j;obtain⟨v,n,m⟩:=SO o e;exact .inl ⟨p,g,i,v,rfl,eL.eW.mp h,f,n,k.here m⟩
 ·rename_i q i;obtain⟨p,g,rfl,f,o⟩:=j.gP;obtain⟨v,n,m⟩:=SO o e;exact .inr (.inl ⟨p,g,i,v,rfl,eL.eW.mp h,f,n,k.here m⟩)
noncomputable def GY:eD->Option Bool
 |.none=>Y false
 |.bool b=>Y b
 |.int i=>Y (i != 0)
 |.str y=>if y.length<=sizeLine then Y ((y.length:Int) != 0) else Z
 |.list xs=>Y (!xs.isEmpty)
 |.tuple xs=>Y (!xs.isEmpty)
 |.dict _=>Z
def yg(h:ez K H ds vs):ds.isEmpty=vs.isEmpty:=by have:=h.length;cases ds<;>cases vs<;>first|rfl|(simp at this)
def M7{k:Bool}(h:eL K H d v)(e:GY d=Y k):Uc K v H k:=by
 cases d with
 |none=>rw[eL.g9.mp h];cases e;rfl
 |bool b=>rw[eL.fz.mp h];cases e;rfl
 |int i=>rw[eL.eW.mp h];cases e;rfl
 |str y=>
  rw[eL.ft.mp h];dsimp only[GY] at e;by_cases c:y.length<=sizeLine
  ·rw[ag c] at e;cases e;exact⟨c,rfl⟩
  ·rw[aj c] at e;cases e
 |list j=>obtain⟨p,a,rfl,g,f⟩:=eL.fh.mp h;cases e;exact .inl ⟨a,g,by rw[yg f]⟩
 |tuple j=>obtain⟨p,a,rfl,g,f⟩:=h.gP;cases e;exact .inr (.inl ⟨a,g,by rw[yg f]⟩)
 |dict _=>cases e
noncomputable def fB(f:c7->Od):c7->Option Bool:=λρ=>(f ρ).bind λd=>match d with | .bool b=>Y b|_=>Z
def xI{b:Bool}(h:fB f ρ=Y b):f ρ=Y (.bool b):=by obtain⟨d,c,a⟩:=bind_some h;cases d<;>first|(cases a;exact c)|cases a
def Qt{c:CmpOp}{g:eD->eD->Od}(i:u7 X (compareOp c) g)(m:PD X a fa)(l:PD X b fb)(j:behindInMarks c b=false):Bl X (.Compare a [c] [b] pos) (fB (d2 g fa fb)) :=
 PT.imp (xE i m l j) λσ H Q ⟨ρ,b,h,e,k⟩=>
  YZ ⟨ρ,.bool b,h,xI e,λv n d f=>⟨b,eL.fz.mp f,k n d⟩⟩
def nT(f g:c7->Option Bool):c7->Option Bool:=λρ=>(f ρ).bind λx=>if x then g ρ else Y false
def Cy(f g:c7->Option Bool):c7->Option Bool:=λρ=>(f ρ).bind λx=>if x then Y true else g ρ
noncomputable def sO(f:c7->Option Bool):c7->Option Bool:=λρ=>(f ρ).map (!·)
variable {ga gb gc:c7->Option Bool}{rest:Lx}
def UB(X:Cx)(e:Expr)(f:c7->Option Bool):Prop:=PW X e (Z9 X.K f)
def PW.imp{t u:TT}(h:PW X e t)(k:∀σ H Q,u σ H Q->t σ H Q):PW X e u:=λb a s σ H Q I q=>@h b a s σ H Q I (k σ H Q q)
def iG(h:Bl X a ga):UB X (.BoolOp .And [a] pos) ga:=IQ h
def ll(h:Bl X a ga):UB X (.BoolOp .Or [a] pos) ga:=Mq h
def jd(i:Bl X a ga)(h:UB X (.BoolOp .And (b::rest) pos) gb):UB X (.BoolOp .And (a::b::rest) pos) (nT ga gb) :=
 PW.imp (Mr i h) <| by
  rintro σ H Q ⟨ρ,x,d,e,k⟩;obtain⟨y,j,f⟩:=bind_some e;refine⟨ρ,y,d,j,λm c=>?_⟩;cases y with
  |true=>rw[ag rfl];exact⟨ρ,x,d.same c,f,λl g=>k l (c.trans g)⟩
  |false=>rw[aj aB];cases f;exact k m c
def mI(i:Bl X a ga)(h:UB X (.BoolOp .Or (b::rest) pos) gb):UB X (.BoolOp .Or (a::b::rest) pos) (Cy ga gb) :=
 PW.imp (SE i h) <| by
  rintro σ H Q ⟨ρ,x,d,e,k⟩;obtain⟨y,j,f⟩:=bind_some e;refine⟨ρ,y,d,j,λm c=>?_⟩;cases y with
  |false=>rw[aj aB];exact⟨ρ,x,d.same c,f,λl g=>k l (c.trans g)⟩
  |true=>rw[ag rfl];cases f;exact k m c
def jw(h:UB X e ga):Bl X e ga:=h.pt
def kl(f:Bl X a ga):Bl X (.UnaryOp .Not a pos) (sO ga) :=
 PT.imp (Gw f) <| by rintro σ H Q ⟨ρ,x,d,e,k⟩;obtain⟨y,h,g⟩:=aa.mp e;exact⟨ρ,y,d,h,λb c=>by show Q (!y) b;rw[g];exact k b c⟩
noncomputable def dIf(g:c7->Option Bool)(b a:c7->Od):c7->Od:=λρ=>(g ρ).bind λx=>if x then b ρ else a ρ
def Xe(i:Bl X c gc)(l:PD X a fa)(j:PD X b fb):PD X (.IfExp c a b pos) (dIf gc fa fb) :=
 PE.imp (Ms i l j) <| by
  rintro σ H Q ⟨ρ,d,g,e,k⟩;obtain⟨y,m,h⟩:=bind_some e;refine⟨ρ,y,g,m,λn f=>?_⟩;cases y with
  |true=>rw[ag rfl];exact⟨ρ,d,g.same f,h,k.later f⟩
  |false=>rw[aj aB];exact⟨ρ,d,g.same f,h,k.later f⟩
noncomputable def fg:c7->Option Lp:=λ_=>Y []
noncomputable def eK(f:c7->Od)(g:c7->Option Lp):c7->Option Lp:=λρ=>(f ρ).bind λx=>(g ρ).bind λa=>Y (x::a)
def iV:Bm X [] fg:=PA.imp sM <| by rintro σ H Q ⟨ρ,b,a,e,k⟩;cases e;exact k [] H (.refl H) ez.nil
def c5(j:PD X e f)(i:Bm X es ff)(a:zE e es X:=by rfl):Bm X (e::es) (eK f ff) :=
 PA.imp (oA j i a) <| by rintro σ H Q ⟨ρ,p,a,e,k⟩;obtain⟨x,m,e⟩:=bind_some e;obtain⟨d,l,e⟩:=bind_some e;cases e;exact⟨ρ,x,a,m,λv q c h=>⟨ρ,d,a.same c,l,λo n b g=>k _ n (c.trans b) (ez.cons (h.same b) g)⟩⟩
noncomputable def i9(b:c7->Option Lp):c7->Od:=λρ=>(b ρ).bind λa=>if a.length<=sizeLine then Y (.tuple a) else Z
noncomputable def fN(b:c7->Option Lp):c7->Od:=λρ=>(b ρ).bind λa=>if a.length<=sizeLine then Y (.list a) else Z
def gH{x1}(h:Bm X es ff):PD X (.Tuple es x1 pos) (i9 ff) :=
 PE.imp (MI h) <| by
  rintro σ H Q ⟨ρ,d,g,e,k⟩;obtain⟨b,i,e⟩:=bind_some e;by_cases a:b.length<=sizeLine
  ·rw[ag a] at e;cases e;exact⟨ρ,b,g,i,λj l f c=>⟨by rw[<-c.length];exact a,(k.later f).UA c⟩⟩
  ·rw[aj a] at e;cases e
def fu(h:Bm X es ff):PD X (.List es pos) (fN ff) :=
 PE.imp (GN h) <| by
  rintro σ H Q ⟨ρ,d,g,e,k⟩;obtain⟨b,i,e⟩:=bind_some e;by_cases a:b.length<=sizeLine
  ·rw[ag a] at e;cases e;exact⟨ρ,b,g,i,λj l f c=>⟨by rw[<-c.length];exact a,(k.later f).Am c⟩⟩
  ·rw[aj a] at e;cases e
abbrev FO:=c7->Option (Option Int)
def tDO(K:Fg)(g:FO):TO:=λσ H Q=>∃ρ o,jA K H σ ρ/\g ρ=Y o/\∀a,eN H a->Q o a
def Wg(X:Cx)(e:Option Expr)(g:FO):Prop:=PO X e (tDO X.K g)
def PO.imp{e:Option Expr}{t u:TO}(h:PO X e t)(k:∀σ H Q,u σ H Q->t σ H Q):PO X e u:=λa s σ H Q I q=>@h a s σ H Q I (k σ H Q q)
def kJ:FO:=λ_=>Y Z
noncomputable def kK(f:c7->Od):FO:=λρ=>(f ρ).bind λd=>match d with | .int i=>Y (Y i)|_=>Z
def iH:Wg X Z kJ:=PO.imp Qg <| by rintro σ H Q ⟨ρ,o,a,e,k⟩;cases e;exact k H (.refl H)
def iI(h:PD X e f):Wg X (Y e) (kK f):=PO.imp (Qh h) <| by
 rintro σ H Q ⟨ρ,o,g,e,k⟩;obtain⟨d,i,a⟩:=bind_some e;cases d<;>first
  | (cases a;exact⟨ρ,_,g,i,λv j b c=>⟨_,eL.eW.mp c,k j b⟩⟩)
  |cases a
noncomputable def rN(a:List α)(b c:Option Int):List α:=(a.drop (HT.ki a.length 0 b)).take (HT.ki a.length a.length c - HT.ki a.length 0 b)
def ez.cut(h:ez K H ds vs)(a b:Option Int):ez K H (rN ds a b) (Eh vs a b):=by unfold rN Eh;rw[<-h.length];exact(h.drop _).take _
def Xf(K:Fg):V->Option Int->Option Int->Hp->VK->Prop:=λx c d H Q=>∃a b,x=.ref a/\qq K H a b/\(HT.ki b.length 0 c=0/\HT.ki b.length b.length d=b.length)/\Q (.ref a) H
end
end L2
local macro_rules
| `(zO $a) => `(L2.c5 $a L2.iV)
| `(zC $s $a) => `(L2.eK (L2.dC (.str $s)) $a)
| `(zQ $a) => `(L2.eK $a L2.fg)
| `(zA $s) => `(L2.dC (.str $s))
| `(zI $n) => `(L2.dC (.int $n))
namespace HT
open PySem PyProof.Rows
section
variable {prog:Program}{w:World}
def rO{t f:Addr}{a:Array Value}{l k:Value}{b e:Option Int}{Q:Px} (d:IsTup s.heap t a) (m:s.heap.IsSliceOf f l k .none) (o:IsPart l b) (n:IsPart k e)
  (hw:ki a.size 0 b=0/\ki a.size a.size e=a.size) (h:Q (.ref t) s):wpAny (model prog w) A (getItem (.ref t) (.ref f)) Q E s:=by
 obtain⟨p,g,i,q⟩:=id m;have j:s.TypeIs (.ref f) "slice":=⟨p,g,i⟩
 unfold getItem
 try with_reducible refine bg ?_
 first|refine ab (au ?_)|skip
 refine ab (wpAny_sequenceKey d.typeIs (by decide) ?_);refine ab (cp (name:=zZ "__getitem__") d.typeIs ba
  (dg ba d.typeIs entry_tuple_getitem ?_ (args_tuple_getitem _ _)))
 show wpAny _ _ (Builtin.Tuple.tupleItemsOf (.ref t)>>=_) _ _ s;refine ab (tupleItemsOf_ d ?_);refine ab (cu j ?_);rw[ag (by decide)];refine ab (pq m o n ?_);have c:((((ki a.size 0 b:Nat):Int)==0&&(1:Int)==1&&(ki a.size a.size e - ki a.size 0 b)==a.size)=true):=by rw[hw.1,hw.2];simp
 show wpAny _ _ (if (((ki a.size 0 b:Nat):Int)==0&&(1:Int)==1&&(ki a.size a.size e - ki a.size 0 b)==a.size)=true then _ else _) _ _ s;rw[ag c];unfold Builtin.Tuple.tupleIsExact;refine ab (ab (cu d.typeIs (au ?_)));rw[ag (by decide)];refine ab (eC ?_);exact au ⟨_,rfl,au h⟩
end
end HT
namespace L2
open PySem PySem.Spec PyProof.Rows
section
variable {a:Expr}{fb fc:c7->Od}{p2:Pos}
def Qu:IY X (Xf X.K):=by
 intro d s σ H x v n m p u o Q I g l j i h;obtain⟨a,f,rfl,k,hw,q⟩:=h;cases g;obtain⟨c,r,e,t⟩:=I.tuple k;have b:c.toArray.size=f.length:=by rw[ar];exact r.length.symm
 refine⟨"tuple",_,ba.lookup,e.typeIs,?_⟩;exact HT.rO e l j i (by rw[b];exact hw) ⟨.ref a,H,I,rfl,q⟩
def aaa:V->Option Int->Option Int->Hp->VK->Prop:=λx a b H Q=>∃z,x=.str z/\z.length<=sizeLine/\Q (.str (Txt.slice z a b)) H
noncomputable def rj:Value->Option (Int×Tok)
 |.int i t=>Y (i,t)
 |_=>Z
def v7{v:Value}{o:Option Int}(p:IsPart v o):partValue (rj v)=v/\(rj v).map (·.1)=o:=by cases p<;>exact⟨rfl,rfl⟩
theorem UC:IY X aaa:=by
 intro f s σ H x v d c a b E Q I j y n m h;obtain⟨z,rfl,w,q⟩:=h;obtain⟨t,rfl⟩:=j;refine⟨"str",_,F.slot_str_getitem.lookup,dF _ _ _,?_⟩;obtain⟨r,p⟩:=v7 n;obtain⟨i,g⟩:=v7 m;obtain⟨o,A,C,B⟩:=y;refine wpAny_getItem_str_slice (l:=rj d) (u:=rj c) (st:=Z) ⟨o,A,C,by rw[r,i];exact B⟩ rfl ?_;have e:sliceMade z t (rj d) (rj c) Z=(if ((1:Int)==1&&(Builtin.Str.strSliceIndices a b 1 z.length).length==z.length)=true then .val (.str z t) else .str ⟨((Builtin.Str.strSliceIndices a b 1 z.length).filterMap (z.cps[·]?)).toArray⟩):=by unfold sliceMade slicePicked;rw[p,g];rfl
 rw[e];exact post_val_or_str ⟨bq (Txt.slice_le z a b) w,λD k=>⟨.str (Txt.slice z a b),H,I.tok _,⟨_,rfl⟩,q⟩⟩
noncomputable def SQ:eD->Option Int->Option Int->Od
 |.list xs,lo,hi=>Y (.list (rN xs lo hi))
 |.tuple xs,lo,hi=>Y (.tuple (rN xs lo hi))
 |.str z,lo,hi=>if z.length<=sizeLine then Y (.str (Txt.slice z lo hi)) else Z
 |_,_,_=>Z
noncomputable def j3(f:c7->Od)(l h:FO):c7->Od:=λρ=>(f ρ).bind λx=>(l ρ).bind λa=>(h ρ).bind λb=>SQ x a b
def IY.imp{r b:V->Option Int->Option Int->Hp->VK->Prop}(h:IY X r)(k:∀x lo hi H Q,b x lo hi H Q->r x lo hi H Q):IY X b :=
 λa s σ H x v d c lo hi e Q I f i pl g q=>@h a s σ H x v d c lo hi e Q I f i pl g (k _ _ _ _ _ q)
def slD:IY X (λx lo hi H Q=>∃d c,eL X.K H d x/\SQ d lo hi=Y c/\KD X.K H c Q):=by
 refine IY.imp (Ja.or (UC.or (Ui.or Qu))) ?_;rintro x lo hi H Q ⟨d,c,i,e,k⟩;cases d<;>try (simp[SQ] at e;done)
 ·rename_i z;dsimp only[SQ] at e;by_cases h:z.length<=sizeLine
  ·rw[ag h] at e;cases e;exact .inr (.inl ⟨z,eL.ft.mp i,h,k.here (eL.ft.mpr rfl)⟩)
  ·rw[aj h] at e;cases e
 ·rename_i g;cases e;obtain⟨p,a,rfl,f,b⟩:=eL.fh.mp i;exact .inl ⟨p,a,rfl,f,k.Am (b.cut lo hi)⟩
 ·rename_i g;cases e;obtain⟨p,a,rfl,f,b⟩:=i.gP;by_cases hw:HT.ki a.length 0 lo=0/\HT.ki a.length a.length hi=a.length
  ·refine .inr (.inr (.inr ⟨p,a,rfl,f,hw,?_⟩));have:rN g lo hi=g:=by
    unfold rN;rw[b.length,hw.1,hw.2];simp only[List.drop_zero,Nat.sub_zero];rw[<-b.length];exact List.take_length
   rw[this] at k;exact k.here i
  ·exact .inr (.inr (.inl ⟨p,a,rfl,f,hw,k.UA (b.cut lo hi)⟩))
def jO{m n:Option Expr}{l h:FO}(r:PD X e f)(q:Wg X m l)(p:Wg X n h):PD X (.Subscript e (.Slice m n Z p2) pos) (j3 f l h) :=
 PE.imp (Eg slD r q p) <| by rintro σ H Q ⟨ρ,d,g,e,k⟩;obtain⟨x,u,e⟩:=bind_some e;obtain⟨c,t,e⟩:=bind_some e;obtain⟨i,s,e⟩:=bind_some e;exact⟨ρ,x,g,u,λv z b o=>⟨ρ,c,g.same b,t,λy a=>⟨ρ,i,g.same (b.trans a),s,λw j=>⟨x,d,o.same (a.trans j),e,k.later (b.trans (a.trans j))⟩⟩⟩⟩
def rDC(K:Fg)(g:Lp->Od):List V->Hp->VK->Prop:=λb H Q=>∃a c,ez K H a b/\g a=Y c/\KD K H c Q
def yh(X:Cx)(v:Value)(g:Lp->Od):Prop:=jL X v (rDC X.K g)
noncomputable def jP(g:Lp->Od)(a:c7->Option Lp):c7->Od:=λρ=>(a ρ).bind g
def tDC{g:Lp->Od}{Q:VK}(h:tD K (jP g ff) σ H Q):Z1 (rDC K g) (tDA K ff) σ H Q:=by obtain⟨ρ,d,f,e,k⟩:=h;obtain⟨a,j,i⟩:=bind_some e;exact⟨ρ,a,f,j,λl m b c=>⟨a,d,c,i,k.later b⟩⟩
def tP{c:String}{g:Lp->Od} (l:yh X (.builtin c) g) (j:Gl X x) (i:X.mg x=Z) (d:bootBuiltins x=Y (.builtin c)) (m:Bm X (e::es) ff) (f:x≠"__name__":=by decide) (b:zg x:=by decide)
  (k:zE e es X:=by rfl) (a:(backTo pos (starEach es X.env)).any (·.1)=false:=by rfl):PD X (.Call (.Name x p) (e::es) [] pos) (jP g ff) :=
 PE.imp (MM l j i d m f b k a) λ_ _ _ h=>tDC h
def rm{T:String}{g:Lp->Od} (k:yh X (.type T) g) (i:Gl X x) (f:X.mg x=Z) (c:bootBuiltins x=Y (.type T)) (l:Bm X (e::es) ff) (d:x≠"__name__":=by decide) (b:zg x:=by decide)
  (j:zE e es X:=by rfl) (a:(backTo pos (starEach es X.env)).any (·.1)=false:=by rfl):PD X (.Call (.Name x p) (e::es) [] pos) (jP g ff) :=
 PE.imp (u6 k i f c l d b j a) λ_ _ _ h=>tDC h
def iJ(h:ez K H [d] vs):∃v,vs=[v]/\eL K H d v:=by obtain⟨v,r,rfl,a,t⟩:=ez.eF.mp h;rw[ez.eP.mp t];exact⟨v,rfl,a⟩
def M8{b:eD}(h:ez K H [d,b] vs):∃v a,vs=[v,a]/\eL K H d v/\eL K H b a:=by obtain⟨v,r,rfl,e,t⟩:=ez.eF.mp h;obtain⟨a,rfl,c⟩:=iJ t;exact⟨v,a,rfl,e,c⟩
noncomputable def Je:Lp->Od
 |[.list xs]=>Y (.list xs)
 |[.tuple xs]=>Y (.list xs)
 |_=>Z
noncomputable def Qv:Lp->Od
 |[.list xs]=>Y (.int xs.length)
 |[.tuple xs]=>Y (.int xs.length)
 |[.str z]=>if z.length<=sizeLine then Y (.int z.length) else Z
 |_=>Z
def UD:yh X (.builtin "len") Qv:=by
 refine jL.imp (Co.or Cp) ?_;rintro j H Q ⟨h,c,i,e,k⟩
 match h,e with
 |[.list ys],e=>cases e;obtain⟨v,rfl,a⟩:=iJ i;obtain⟨p,b,rfl,g,f⟩:=eL.fh.mp a;exact .inl ⟨p,b,rfl,.inl g,k.here (by rw[f.length];exact eL.eW.mpr rfl)⟩
 |[.tuple ys],e=>cases e;obtain⟨v,rfl,a⟩:=iJ i;obtain⟨p,b,rfl,g,f⟩:=a.gP;exact .inl ⟨p,b,rfl,.inr g,k.here (by rw[f.length];exact eL.eW.mpr rfl)⟩
 |[.str z],e=>
  dsimp only[Qv] at e;by_cases d:z.length<=sizeLine
  ·rw[ag d] at e;cases e;obtain⟨v,rfl,a⟩:=iJ i;exact .inr ⟨z,by rw[eL.ft.mp a],d,k.here (eL.eW.mpr rfl)⟩
  ·rw[aj d] at e;cases e
noncomputable def Y3:eD->String
 |.none=>"NoneType"
 |.bool _=>"bool"
 |.int _=>"int"
 |.str _=>"str"
 |.list _=>"list"
 |.tuple _=>"tuple"
 |.dict _=>"dict"
def SR:eD->Bool
 |.dict _=>true
 |_=>false
noncomputable def aab(T:String)(f:c7->Od):c7->Od:=λρ=>(f ρ).bind λd=>if SR d then Z else Y (.bool (Y3 d==T||(Y3 d=="bool"&&T=="int")))
end
section
variable {a:Expr}{fb fc:c7->Od}{p2:Pos}{rest:List Stmt}{g h:c7->Option gk}{gc:c7->Option Bool}
def fY:c7->Option gk:=λρ=>Y (.nx ρ)
noncomputable def eJ(g h:c7->Option gk):c7->Option gk:=λρ=>(g ρ).bind λo=>match o with
 |.nx ρ'=>h ρ'
 |o=>Y o
noncomputable def fC(f:c7->Od):c7->Option gk:=λρ=>(f ρ).map .rt
noncomputable def iY(c:c7->Option Bool)(g h:c7->Option gk):c7->Option gk:=λρ=>(c ρ).bind λx=>if x then g ρ else h ρ
abbrev BD:=eD->c7->Option c7
def tDG(K:Fg)(b:BD):TG:=λv σ H Q=>∃ρ d ρ',jA K H σ ρ/\eL K H d v/\b d ρ=Y ρ'/\∀σ' a,eN H a->jA K a σ' ρ'->Q σ' a
def Y4(X:Cx)(a:Expr)(b:BD):Prop:=PG X a (tDG X.K b)
def PG.imp{t u:TG}(h:PG X tg t)(k:∀v σ H Q,u v σ H Q->t v σ H Q):PG X tg u:=λa s σ H v b Q I r q=>@h a s σ H v b Q I r (k _ _ _ _ q)
def PH.imp{b:Lx}{t u:P4}(h:PH X b t)(k:∀v σ H Q,u v σ H Q->t v σ H Q):PH X b u:=λa s σ H v c Q I r q=>@h a s σ H v c Q I r (k _ _ _ _ q)
def Jf(i:Nat):BD:=λd ρ=>Y (ρ.set i (Y d))
def yi(i:Nat)(h:X.N.Nodup)(f:X.N[i]?=Y x:=by rfl)(b:IM X.env.scope x:=by first|exact bW rfl|exact bA rfl)(g:X.fn x=true\/X.env.scope.names.lookup x=Y .local:=by first|exact .inl rfl|exact .inr rfl|assumption):Y4 X (.Name x pos) (Jf i) :=
 PG.imp (tG h f b g) <| by rintro v σ H Q ⟨ρ,d,ρ',c,a,e,k⟩;cases e;exact k _ H (.refl H) (c.set a)
abbrev SS:=List eD->c7->Option c7
def aac(K:Fg)(d:SS):P4:=λc σ H Q=>∃ρ b ρ',jA K H σ ρ/\ez K H b c/\d b ρ=Y ρ'/\∀σ' a,eN H a->jA K a σ' ρ'->Q σ' a
def Qw(X:Cx)(a:Lx)(b:SS):Prop:=PH X a (aac X.K b)
def Xg:SS:=λa ρ=>match a with | []=>Y ρ|_=>Z
noncomputable def M9(b:BD)(c:SS):SS:=λa ρ=>match a with | []=>Z|d::r=>(b d ρ).bind λρ'=>c r ρ'
def Na:Qw X [] Xg:=PH.imp IW <| by
 rintro d σ H Q ⟨ρ,c,ρ',b,a,e,k⟩;cases c with
 |nil=>cases e;exact⟨ez.eP.mp a,k σ H (.refl H) b⟩
 |cons _ _=>cases e
def Bn{bd:BD}{g:SS}(o:Y4 X e bd)(n:Qw X es g)(c:(assignEach (e::es) X.env).map (·.2)=assign e X.env::(assignEach es X.env).map (·.2):=by rfl):Qw X (e::es) (M9 bd g) :=
 PH.imp (xW o n c) <| by
  rintro u σ H Q ⟨ρ,s,ρ',c,m,e,k⟩;cases s with
  |nil=>cases e
  |cons d r=>obtain⟨ρ1,q,p⟩:=bind_some e;obtain⟨v,h,rfl,l,j⟩:=ez.eF.mp m;exact⟨v,h,rfl,ρ,d,ρ1,c,l,q,λσ1 w f b=>⟨ρ1,r,ρ',b,j.same f,p,λσ2 t i a=>k σ2 t (f.trans i) a⟩⟩
noncomputable def Qx(n:Nat)(a:SS):BD:=λd ρ=>match d with | .tuple ds=>if ds.length=n then a ds ρ else Z|_=>Z
def Qy{k:Nat}{g:SS}(o:X.calm=true)(h:Qw X es g)(m:(assignEach es X.env).length=n:=by rfl)(a:(assignEach es X.env).findIdx? (·.1)=Z:=by rfl):Y4 X (.Tuple es k pos) (Qx n g) :=
 PG.imp (Mw o h m a) <| by
  rintro v σ H Q ⟨ρ,d,ρ',l,j,e,k⟩;cases d<;>try (simp[Qx] at e;done)
  rename_i f;dsimp only[Qx] at e;by_cases b:f.length=n
  ·rw[ag b] at e;obtain⟨p,i,rfl,q,c⟩:=j.gP;exact⟨p,i,rfl,q,by rw[<-c.length];exact b,ρ,f,ρ',l,c,e,k⟩
  ·rw[aj b] at e;cases e
def GZ(K:Fg)(J:It)(c:Lp)(H:Hp):Prop :=
 ∀a,eN H a->(J.stop c.length a)/\∀(i:Nat) (d:eD),c[i]?=Y d->J.go i a/\∀x b,J.Me i a x b->eN a b/\eL K b d x
def tDI(K:Fg)(q:c7->Option Lp):TI:=λσ H R=>∃ρ b,jA K H σ ρ/\q ρ=Y b/\∀J a,eN H a->GZ K J b a->R J a
def Nb(X:Cx)(b a:Expr)(q:c7->Option Lp):Prop:=PI X b a (tDI X.K q)
def PI.imp{a:Expr}{t u:TI}(h:PI X tg a t)(k:∀σ H R,u σ H R->t σ H R):PI X tg a u:=λb s σ H R I q=>@h b s σ H R I (k _ _ _ q)
def PI.or{a:Expr}{t u:TI}(h:PI X tg a t)(c:PI X tg a u):PI X tg a (λσ H R=>t σ H R\/u σ H R):=λb s σ H R I q=>q.elim (@h b s σ H R I) (@c b s σ H R I)
noncomputable def wJ(f:c7->Od):c7->Option Lp:=λρ=>(f ρ).bind λd=>match d with | .list ds=>Y ds | .tuple ds=>Y ds|_=>Z
def oE(h:PD X e f):Nb X tg e (wJ f) :=
 PI.imp (PI.or (Cd h) (MA h)) <| by
  rintro σ H R ⟨ρ,A,t,e,k⟩;obtain⟨d,u,a⟩:=bind_some e;cases d<;>try (simp at a;done)
  ·cases a;refine .inl ⟨ρ,_,t,u,λv s l o=>?_⟩;obtain⟨p,b,rfl,a,j⟩:=eL.fh.mp o;refine⟨p,rfl,⟨b,a⟩,k _ s l λz c=>⟨⟨b,c.seq a,by rw[j.length];exact az _⟩,λi d q=>?_⟩⟩;obtain⟨x,g,r⟩:=j.get q;refine⟨⟨b,x,c.seq a,g⟩,?_⟩;rintro y w ⟨n,m⟩;subst n;have:=m b (c.seq a);rw[g] at this;cases this;exact⟨.refl _,r.same c⟩
  ·cases a;refine .inr ⟨ρ,_,t,u,λv s l o=>?_⟩;obtain⟨p,b,rfl,a,j⟩:=o.gP;refine⟨p,rfl,⟨b,a⟩,k _ s l λz c=>⟨⟨b,c.rL a,by rw[j.length];exact az _⟩,λi d q=>?_⟩⟩;obtain⟨x,g,r⟩:=j.get q;refine⟨⟨b,x,c.rL a,g⟩,?_⟩;rintro y w ⟨n,m⟩;subst n;have:=m b (c.rL a);rw[g] at this;cases this;exact⟨.refl _,r.same c⟩
noncomputable def sg(a:Int)(n:Nat):Lp:=(List.range n).map λk=>.int (a+(k:Nat))
def Es(a:Int)(n:Nat)(H:Hp):GZ K (YW a n) (sg a n) H:=λh f=>by
 refine⟨by show n<=(sg a n).length;simp[sg],λi d q=>?_⟩;have b:i<n:=by have:=(aA.mp q).1;simpa [sg] using this
 refine⟨b,?_⟩;rintro x g ⟨e,c⟩;subst e c;have:d=.int (a+(i:Nat)):=by unfold sg at q;rw[ay,List.getElem?_range b] at q;cases q;rfl
 subst this;exact⟨.refl _,eL.eW.mpr rfl⟩
noncomputable def ng(f:c7->Od):c7->Option Lp:=λρ=>(f ρ).bind λd=>match d with | .int j=>if -(2 ^ 62)<=j/\j<2 ^ 62 then Y (sg 0 j.toNat) else Z|_=>Z
def yj(n:Gl X "range")(m:X.mg "range"=Z)(h:PD X e f)(b:starEach [e] X.env=[(false,eval e X.env)]:=by rfl):Nb X tg (.Call (.Name "range" p) [e] [] pos) (ng f) :=
 PI.imp (Kk n m (oA h sM (by rw[b];rfl)) b) <| by
  rintro σ H R ⟨ρ,q,b,e,k⟩;obtain⟨d,o,a⟩:=bind_some e;cases d<;>try (simp at a;done)
  rename_i j;dsimp only at a;by_cases c:-(2 ^ 62)<=j/\j<2 ^ 62
  ·rw[ag c] at a;cases a;exact⟨ρ,_,b,o,λv g i l=>⟨j,by rw[eL.eW.mp l],c.1,c.2,k _ g i (Es 0 _ g)⟩⟩
  ·rw[aj c] at a;cases a
noncomputable def qr(a:BD)(g:c7->Option gk):Lp->c7->Option gk
 |[],ρ=>Y (.nx ρ)
 |d::ds,ρ=>((a d ρ).bind g).bind λo=>match o with
  |.nx ρ'=>qr a g ds ρ'
  |.ct ρ'=>qr a g ds ρ'
  |.bk ρ'=>Y (.nx ρ')
  |.rt d=>Y (.rt d)
end
def SU(K:Fg)(n:Nat)(f:Lp->Od):Sp:=λb H Q _=>∃a d,ez K H a b/\a.length=n/\f a=Y d/\KD K H d Q
section
variable {k:Nat}{fa:Addr}{ps:Lr}{f:Lp->Od}
noncomputable def jx(n:Nat)(f:Lp->Od)(b:c7->Option Lp):c7->Od:=λρ=>(b ρ).bind λa=>if a.length=n then f a else Z
def Qz(F:kX X.prog X.w X.K X.mg X.base uW k fa fd ps (SU X.K n f)) (m:iD k X.A) (r:Gl X x) (o:X.mg x=Y (.ref fa)) (q:W.keepIn X.K (.ref fa)=true) (t:kG X.K fd ps [])
  (u:Bm X (e::es) ff) (g:zg x:=by decide) (s:zE e es X:=by rfl) (b:(backTo pos (starEach es X.env)).any (·.1)=false:=by rfl):
  PD X (.Call (.Name x p) (e::es) [] pos) (jx n f ff) :=
 PE.imp (xG F m r o q t .nil nS u g s b) <| by
  rintro σ H Q ⟨ρ,d,l,e,k⟩;obtain⟨h,v,a⟩:=bind_some e;by_cases c:h.length=n
  ·rw[ag c] at a;exact⟨ρ,h,l,v,λy z i j=>⟨h,d,by rw[aM];exact j,c,a,k.later i⟩⟩
  ·rw[aj c] at a;cases a
def gY(N:Lr)(ds:Lp):c7:=ds.map Y++List.replicate (N.length - ds.length) Z
def pU{N:Lr}(h:ez K H ds vs):jA K H (lh N vs) (gY N ds):=by
 have b:=h.length;refine⟨by simp[lh,gY,b],λi d q=>?_⟩;unfold gY at q;by_cases a:i<ds.length
 ·rw[aT (by simpa using a),ay] at q;obtain⟨j,g,f⟩:=aa.mp q;cases f;obtain⟨v,e,c⟩:=h.get g;refine⟨v,?_,c⟩;unfold lh;rw[aT (by simpa using (by omega:i<vs.length)),ay,e];rfl
 ·rw[aK (by simpa using a),bt] at q;split at q<;>cases q
noncomputable def ic(N:Lr)(g:c7->Option gk):Lp->Od:=λa=>(g (gY N a)).bind λo=>match o with
 |.rt d=>Y d
 |.nx _=>Y .none
 |_=>Z
end
end L2
namespace YY
open PySem PySem.W PySem.Calls PyProof.Rows
def Cz{l:OpenLaw}{q:Program}{b:Lr}{B:(Str->Ow)->Heap->Prop}{A:World->Heap->Prop}{d:DefRec}
  (I:l.most=Y n) (s:d.params.defaults=[])
  (k:∀(w:World) (s₀ s₁:Shared) (mg mb:Str->Ow) (fa:Addr) (o:Obj) (pm cd doc:Value) (a:Addr) (vs:Lw) (ns:List Int),
   Ground q b [] B w s₀ mg mb s₁.heap->A w s₁.heap ->
   s₁.heap.get? fa=Y o->o.data=.func (docDef d.name d.params d.body d.scope pm cd doc)->s₁.heap.CodeRec cd d.name->mg d.name=Y (.ref fa) ->
   s₁.heap.get? a=Y { cls:=.type "list",data:=.seq vs.toArray }->IntsAre vs ns->ns.length<=n->(∀x∈ns,L2.Cw x=true)->s₁.gens=#[] ->
   codeAny (model l.prog w) callerA (.call (.ref fa) ⟨[.ref a],[]⟩) (λr s'=>r=.ok (.ret (.bool true))/\OldK s₁.heap s'.heap/\s'.os=s₁.os/\AllBare s'.gens) s₁):
  WalkO q b B A l.row.toRowW d [] (λf vs=>PySem.call f vs):=by
 intro w s₀ s₁ mg mb G Y fa o pm cd doc P C H M t y hmg L z v Q g j E p K;obtain rfl:P=.none:=Dflts.none y s;obtain rfl:C=.none:=Dflts.noKw y;obtain⟨a,vs,ns,rfl,rfl,h,c,i⟩:=Ku I g p;have e:∀x∈ns,L2.Cw x=true:=λx D=>by
  have O:=layableW_arg j (WData.list (ns.map WData.int)) (by simp);have m:=layable_int (layableW_item O (.int x) (aP.mpr ⟨x,D,rfl⟩));have u:(eD.int x).layable=decide (Builtin.Int.intBits x<=1048576):=by simp[eD.layable,eD.canLay,eD.depth,eD.weight,Builtin.Int.intBits]
  rw[u] at m;exact m
 refine enter_call (cR (k w s₀ s₁ mg mb fa o pm cd doc a vs ns G Y H (fd_plain M) t hmg h c i e L) λr s' F=>?_);obtain⟨rfl,m,u,N⟩:=F;exact⟨.inl ⟨.bool true,.bool true,[],rfl,λ_=>rfl,.bool true,Kv l _,λ_=>⟨List.Pairwise.nil,λ_ J=>(nomatch J)⟩⟩,m,u,N⟩
end YY
namespace L2
open PySem PySem.Spec PyProof.Rows
theorem Bp{K:Fg}{H:Hp}:∀a:List Int,ez K H (a.map eD.int) (a.map V.int)
 |[]=>ez.nil
 |n::a=>ez.cons (eL.eW.mpr rfl) (Bp a)
structure qE (P:Program) (w:World) (K:Fg) (mg:Str->Ow) (base:Heap) (x:Str) (k n:Nat) (f:Lp->Od):Prop where
 ex:∃a fd ps,kX P w K mg base uW k a fd ps (SU K n f)/\mg x=Y (.ref a)/\W.keepIn K (.ref a)=true/\kG K fd ps []
section
variable {f:Lp->Od}{j k:Nat}
theorem fE(O:qE X.prog X.w X.K X.mg X.base x j n f) (h:iD k X.A) (l:Gl X x) (q:Bm X (e::es) ff) (i:j<=k:=by decide) (d:zg x:=by decide)
  (o:zE e es X:=by rfl) (c:(backTo pos (starEach es X.env)).any (·.1)=false:=by rfl):PD X (.Call (.Name x p) (e::es) [] pos) (jx n f ff):=by
 obtain⟨a,s,r,F,m,g,b⟩:=O.ex;exact Qz (F.mono i) h l m g b q d o c
end
def KC{l:W.OpenLaw}{k:Nat}{q:Program}{j:Lr}{R:(Str->Ow)->Heap->Prop}{C:World->Heap->Prop}{d:DefRec}{K:Params->Fg}{f:Lp->Od}
  (E:l.most=Y n) (t:n<=sizeLine) (y:d.params.defaults=[]) (D:iD k callerA)
  (N:∀(w:World) (h:Heap),C w h->(K w.params).In h)
  (F:∀(w:World) (mg:Str->Ow) (fa:Addr) (h:Heap),(K w.params).In h->h.Ns mainGlobals mg->mg d.name=Y (.ref fa) ->
   ∃fd:FuncData,(∀(s:Shared) (u:Value),BindsTo s fd ⟨[u],[]⟩ [(x,u)]) /\
    ∀base:Heap,(K w.params).In base->base.Ns mainGlobals mg->kX l.prog w (K w.params) mg base uW k fa fd [x] (SU (K w.params) 1 f))
  (J:∀ns:List Int,ns.length<=n->(∀x∈ns,Cw x=true)->f [.list (ns.map .int)]=Y (.bool true)):
  W.WalkO q j R C l.row.toRowW d [] (λf vs=>PySem.call f vs):=by
 refine YY.Cz E y λw B A mg V fa o U cd Q a vs ns G Y X hd L hmg r m c p I=>?_;have KX:=N w _ Y;obtain⟨fd,M,P⟩:=F w mg fa _ KX G.T.g hmg;refine MX KX G.T.g G.T.b G.T.builtins G.T.nolimit I r m (bq c t) D P M (λH hO O=>?_) λH e S z=>z;exact⟨[.list (ns.map .int)],.bool true,ez.cons (eL.fh.mpr ⟨a,_,rfl,O,Bp ns⟩) ez.nil,rfl,J ns c p,λv H' _ i=>eL.fz.mp i⟩
end L2
namespace L2
open PySem
theorem toNat_inj{a b:Char}(h:a.toNat=b.toNat):a=b:=Char.toNat_inj.mp h
theorem si:∀{a b:List Char},a.map Char.toNat=b.map Char.toNat->a=b
 |[],[],_=>rfl
 |[],_::_,h=>by simp at h
 |_::_,[],h=>by simp at h
 |a::as,b::bs,h=>by
  rw[ai,ai] at h;injection h with d c
  rw[toNat_inj d,si c]
def CA{a b:String}(h:zZ a=zZ b):a=b:=by
 rw[cT,cT] at h;injection h with h
 have c:=bw Array.toList h;simp only[List.toList_toArray] at c;exact String.toList_inj.mp (si c)
def lp(a b:String):(zZ a==zZ b)=(a==b):=by
 by_cases h:a=b
 ·subst h;simp
 ·have c:¬ zZ a=zZ b:=λz=>h (CA z);rw[aQ.mpr c,aQ.mpr h]
def eQ(a:String):eD.strOk (zZ a)=true:=by
 rw[cT];unfold eD.strOk;simp only[Array.all_eq_true',List.mem_toArray,aP];rintro x ⟨c,_,rfl⟩;have:=c.valid;simp only[cC];have b:c.toNat<1114112:=by
  rcases c.valid with h|h
  ·have:c.toNat<55296:=h;omega
  ·exact h.2
 exact b
end L2
namespace L2
open PySem PySem.Spec PyProof.Rows
def yk(c:Env)(b:Scope):List (Str×Addr):=(b.names.filterMap λp=>if p.2==NameKind.free then (c.cells.lookup p.1).map λa=>(p.1,a) else Z).reverse
theorem tQ(d:Env):∀(b:List (Str×NameKind)) (acc:List (Str×Addr)),(∀p∈b,p.2=.free->∃c,d.cells.lookup p.1=Y c) ->
  (forIn b acc λp cs=>(if (p.2==NameKind.free)=true then do let c <-cellOf d p.1;pure (ForInStep.yield ((p.1,c)::cs)) else pure (ForInStep.yield cs):Sem (ForInStep (List (Str×Addr))))) =
   pure ((b.filterMap λp=>if p.2==NameKind.free then (d.cells.lookup p.1).map λa=>(p.1,a) else Z).reverse++acc)
 |[],acc,_=>rfl
 |p::r,acc,h=>by
  have g:=λacc=>tQ d r acc λq j=>h q (ah _ j);rw[dw];by_cases f:p.2=.free
  ·obtain⟨c,i⟩:=h p aY f;have e:(p.2==NameKind.free)=true:=by rw[f];rfl
   rw[ag e];have k:cellOf d p.1=pure c:=by unfold cellOf;rw[i]
   rw[k];simp only[pure_bind];rw[g,ck,ag e,i];simp
  ·have e:(p.2==NameKind.free)=false:=by simpa using f
   rw[aj (by rw[e];exact aB)];simp only[pure_bind];rw[g,ck,aj (by rw[e];exact aB)]
def o7{a:Env}(h:∀p∈scope.names,p.2=.free->∃c,a.cells.lookup p.1=Y c):closureFor scope a=pure (yk a scope):=by
  have e:=tQ a scope.names [] h;unfold closureFor yk;rw[aM] at e;have f:(forIn scope.names ([]:List (Str×Addr)) λx d=>(match x with|(name,b)=>do if (b==NameKind.free)=true then do let c <-cellOf a name;pure (ForInStep.yield ((name,c)::d)) else pure (ForInStep.yield d):Sem (ForInStep (List (Str×Addr)))))=_:=e
  first
    | (simp only[bind_pure] ;exact f)
    | (show (forIn scope.names ([]:List (Str×Addr)) _>>=λd=>pure d)=_
       rw[bind_pure];exact f)
def Nc{b:Env}{c:Addr}(h:(x,c)∈yk b scope):b.cells.lookup x=Y c/\(x,NameKind.free)∈scope.names:=by
 unfold yk at h;rw[List.mem_reverse,bZ] at h;obtain⟨⟨n,k⟩,f,e⟩:=h;by_cases d:(k==NameKind.free)=true
 ·rw[ag d] at e;obtain⟨a,i,g⟩:=aa.mp e;cases g;have:k=.free:=eq_of_beq d;subst this;exact⟨i,f⟩
 ·rw[aj d] at e;cases e
def kb{a:Env}{c:Addr}(h:(yk a scope).lookup x=Y c):a.cells.lookup x=Y c:=(Nc (bx h)).1
theorem sj{α:Type}{x:Str}{c:α}:∀{l:List (Str×α)},(x,c)∈l->∃d,l.lookup x=Y d
 |[],h=>by cases h
 | (n,a)::r,h=>by
  by_cases e:x=n
  ·subst e;exact⟨a,by simp⟩
  ·rcases ao.mp h with h|h
   ·cases h;exact absurd rfl e
   ·obtain⟨d,b⟩:=sj h;exact⟨d,by rw[aW,aQ.mpr e];exact b⟩
def Et{a:Env}{c:Addr}(g:(x,NameKind.free)∈scope.names)(f:a.cells.lookup x=Y c):(yk a scope).lookup x=Y c:=by
 have:(x,c)∈yk a scope:=by unfold yk;rw[List.mem_reverse,bZ];exact⟨(x,.free),g,by rw[ag (by rfl),f];rfl⟩
 obtain⟨d,b⟩:=sj this;have e:=kb b;rw[f] at e;cases e;exact b
def v8{b:Env}{k:NameKind}(h:(relabel scope b).names.lookup x=Y k):(x,k)∈scope.names\/(k=.cell/\(x,NameKind.free)∈scope.names):=by
 have c:=bx h;unfold relabel at c;obtain⟨⟨n,f⟩,e,a⟩:=aP.mp c;dsimp only at a;split at a
 ·rename_i d;cases a;simp only[bD,cg] at d;obtain⟨⟨rfl,_⟩,_⟩:=d;exact .inr ⟨rfl,e⟩
 ·cases a;exact .inl e
theorem tR{b:Env}:∀{a:List (Str×NameKind)}{x:Str},a.lookup x=Y .free ->
  (a.map λ(n,k)=>if (k==NameKind.free&&b.scope.kind==.function&&b.kindOf n==Y .cell) then (n,NameKind.cell) else (n,k)).lookup x=Y .cell \/
  (a.map λ(n,k)=>if (k==NameKind.free&&b.scope.kind==.function&&b.kindOf n==Y .cell) then (n,NameKind.cell) else (n,k)).lookup x=Y .free
 |[],_,h=>by simp at h
 | (n,k)::r,x,h=>by
  have d:=@tR b r x;rw[ai];dsimp only;cases c:x==n with
  |true=>
   simp only[aW,c] at h;cases h;split
   ·exact .inl (by simp[aW,c])
   ·exact .inr (by simp[aW,c])
  |false=>
   simp only[aW,c] at h;split
   ·simp only[aW,c];exact d h
   ·simp only[aW,c];exact d h
noncomputable def mw(X:Cx)(a:Scope)(C:Addr)(N:Lr)(s:Shared)(H:Hp)(b:List Addr):Cx where
 prog:=X.prog
 w:=X.w
 K:=X.K
 mg:=X.mg
 base:=X.base
 A:=X.A
 N:=N
 s₀:=s
 H₀:=H
 env:=compEnvC a (yk X.env a) C X.env
 outer:=X.stack
 stack:=X.stack
 ex:=b
 fn:=λ_=>false
 calm:=true
 pn:=[]
 xe:=λ_ _=>False
def lq(X:Cx)(a:Scope):List (Nat×Str)->Prop
 |[]=>True
 | (j,y)::r=>(X.N[j]?=Y y/\(X.env.kindOf y=Y .cell\/X.env.kindOf y=Y .free)/\a.names.lookup y=Y .free)/\lq X a r
theorem lq.at{X:Cx}{a:Scope}:∀{b:List (Nat×Str)},lq X a b->∀{i:Nat}{j:Nat}{y:Str},b[i]?=Y (j,y)->X.N[j]?=Y y/\(X.env.kindOf y=Y .cell\/X.env.kindOf y=Y .free)/\a.names.lookup y=Y .free
 |[],_,_,_,_,h=>by simp at h
 | (_,_)::_,hc,0,_,_,h=>by simp at h;obtain⟨rfl,rfl⟩:=h;exact hc.1
 | (_,_)::_,hc,i+1,_,_,h=>lq.at hc.2 (i:=i) (by simpa using h)
noncomputable def An(a:List (Nat×Str))(σ:St):St:=a.map λp=>(σ[p.1]?).join
noncomputable def pA(a:List (Nat×Str))(ρ:c7):c7:=a.map λp=>(ρ[p.1]?).join
structure km (scope:Scope) (x:Str):Prop where
 kind:scope.kind=.function
 Nd:∀y∈scope.names,y.2≠.cell
 loc:∀y∈scope.names,y.2=.local->scope.names.lookup y.1=Y .local
 var:scope.names.lookup x=Y .local
 has:True:=aI
section
def UE(d:Lr) {G:List Addr}{C:Addr}{s':Shared} (I:eT X pins σ H s) (D:X.calm=true) (S:km scope x) (P:∀p∈scope.names,p.2=.free->∃c,X.env.cells.lookup p.1=Y c) (B:lq X scope iS)
  (N:∀b∈G,nc X pins H b) (M:∀b∈G,∃o,s.heap.get? b=Y o) (R:(zB s)<=C) (k:∀b o,s.heap.get? b=Y o->s'.heap.get? b=Y o) (L:s'.heap.Ns C λ_=>Z) (K:s'.os=s.os) (hg:AllBare s'.gens):
  eT (mw X scope C (d++iS.map (·.2)) s H G) [] (d.map (λ_=>Z)++An iS σ) H s':=by
 have t:∀b,b∈(mw X scope C (d++iS.map (·.2)) s H G).fs->b∈X.env.locals::X.fs:=λb f=>I.Ca b f;refine⟨⟨I.ok.mod,S.kind,I.ok.glob,I.ok.blt,R,λy z c e1 a=>I.ok.inj y z c (kb e1) (kb a),λy hy=>?_,λy c h=>(by cases h),λ_=>I.ok.hd D,I.ok.frames,.inl rfl,λb f=>?_,I.bs,bq I.ok.SD I.sz,λb o e f=>?_,λb f Q=>?_,I.stack,I.IP⟩,
  K,hg,Un.kept k,⟨_,L,λi y v e1 a e3=>?_⟩,λy c e=>?_,I.ir.fresh R,λy c e=>I.mR y c (kb e),λp hp=>?_,I.ir.kept k,?_⟩
 ·have J:(relabel scope X.env).names.lookup y=Y .cell\/(relabel scope X.env).names.lookup y=Y .free:=hy;have hm:(y,NameKind.free)∈scope.names:=by
   rcases J with h|h
   ·rcases v8 h with h | ⟨_,h⟩
    ·exact absurd rfl (S.Nd _ h)
    ·exact h
   ·rcases v8 h with h | ⟨h,_⟩
    ·exact h
    ·cases h
  obtain⟨c,D⟩:=P _ hm rfl;exact⟨c,Et hm D⟩
 ·obtain⟨f0,W,V,U,T,f5⟩:=N b f;obtain⟨o,w⟩:=M b f;refine⟨?_,λy c e=>T y c (kb e)⟩;show b≠C;exact aG (aC (aq w) R)
 ·obtain⟨f0,W,V,U,T,f5⟩:=N b f;have hb1:=I.bs b o e;rcases U with h|h
  ·exact I.ok.Mo b o e h
  ·have:=(I.ok.bs b o e).1;exact absurd (aC (aq this) h) (aX _)
 ·obtain⟨f0,W,V,U,T,f5⟩:=N b f;rcases ao.mp (t b Q) with h|h
  ·exact W h
  ·exact V h
 ·by_cases A:i<d.length
  ·rw[aT (by simpa using A),ay] at a;cases h:d[i]? with
   |none=>rw[h] at a;cases a
   |some z=>rw[h] at a;cases a
  have A:=dh A;have F:(iS.map (·.2))[i - d.length]?=Y y:=by rw[<-aK A];exact e1
  have n:(An iS σ)[i - d.length]?=Y (Y v):=by rw[aK (by simpa using A)] at a;simpa using a
  rw[ay] at F;obtain⟨⟨j,y'⟩,e4,e5⟩:=aa.mp F;dsimp only at e5;subst e5;unfold An at n;rw[ay,e4] at n;have E:(σ[j]?).join=Y v:=by simpa using n
  have e7:σ[j]?=Y (Y v):=by
   cases q:σ[j]? with
   |none=>rw[q] at E;cases E
   |some o=>rw[q] at E;cases o with
    |none=>cases E
    |some v'=>cases E;rfl
  obtain⟨c1,c2,c3⟩:=B.at e4;obtain⟨m,hn,hl⟩:=I.loc;have hv:Mc X.env.scope y':=by
   rcases c2 with h|h
   ·exact .inr (.inl h)
   ·exact .inr (.inr h)
  obtain⟨u,r,l⟩:=hl j y' v c1 e7 hv;refine⟨u,r,.inr ⟨?_,?_⟩⟩
  ·exact tR c3
  ·rcases l with ⟨hk,_⟩ | ⟨_,c,D,g⟩
   ·rcases c2 with h|h
    ·rw[hk] at h;cases h
    ·rw[hk] at h;cases h
   ·refine⟨c,Et (bx c3) D,?_⟩;obtain⟨o,w,O⟩:=g;exact⟨o,k _ _ w,O⟩
 ·obtain⟨v,o,w,O⟩:=I.cell y c (kb e);exact⟨v,o,k _ _ w,O⟩
 ·exact absurd (show p∈([]:Ax) from hp) (by simp)
 ·show (d.map (λ_=>Z)++An iS σ).length=(d++iS.map (·.2)).length;simp[An]
def PTs(X:Cx)(b:Lx)(t:TT):Prop :=
 ∀⦃a:Ax⦄ (s:Shared) (σ:St) (H:Hp) (Q:Bool->Hp->Prop),eT X a σ H s->t σ H Q ->
  (zw X) (forIn b true λc r=>if r=true then do let d <-isTrue c X.env (eval c X.env);pure (ForInStep.yield d) else pure (ForInStep.yield r)) (TP X a σ Q) X.xe s
def yl(X:Cx)(a:Lx)(g:c7->Option Bool):Prop:=PTs X a (Z9 X.K g)
def mx:yl X [] (λ_=>Y true):=by rintro a s σ H Q I ⟨ρ,b,c,e,k⟩;cases e;rw[dG];exact au ⟨H,I,k H (.refl H)⟩
def Eu(h:Bl X c g):yl X [c] g:=λa s σ H Q I q=>by rw[dw];rw[ag rfl];refine ab (ab (gS (@h a s σ H Q I q) λb d e=>au ?_));show wpAny _ _ (forIn ([]:Lx) b _) _ _ d;rw[dG];exact au e
noncomputable def lS(g:c7->Option Bool)(f:c7->Od)(ρc:c7):Lp->Option Lp
 |[]=>Y []
 |d::ds=>(g (Y d::ρc)).bind λb=>if b then (f (Y d::ρc)).bind λy=>(lS g f ρc ds).bind λa=>Y (y::a) else lS g f ρc ds
def lu(q:c7->Option Lp)(a:List (Nat×Str))(g:c7->Option Bool)(f:c7->Od):c7->Od:=λρ=>
 (q ρ).bind λb=>if b.length<=sizeLine then (lS g f (pA a ρ) b).map .list else Z
def jA.cap(h:jA K H σ ρ)(e:Lr)(a:List (Nat×Str)):jA K H (e.map (λ_=>Z)++An a σ) (e.map (λ_=>Z)++pA a ρ):=by
 refine⟨by simp[An,pA],λi d q=>?_⟩;by_cases c:i<e.length
 ·rw[aT (by simpa using c),ay] at q;cases h:e[i]? with
  |none=>rw[h] at q;cases q
  |some z=>rw[h] at q;cases q
 have c:=dh c;rw[aK (by simpa using c),aL] at q ⊢;unfold pA at q;rw[ay] at q;obtain⟨⟨j,y⟩,l,b⟩:=aa.mp q;dsimp only at b;have k:ρ[j]?=Y (Y d):=by
  cases q:ρ[j]? with
  |none=>rw[q] at b;cases b
  |some o=>rw[q] at b;cases o with
   |none=>cases b
   |some m=>cases b;rfl
 obtain⟨v,g,f⟩:=h.2 j d k;refine⟨v,?_,f⟩;unfold An;rw[ay,l];simp[g]
def jA.less{p c:c7}{b:Lr}(h:jA K H σ (p++c))(e:p.length=b.length):jA K H σ (b.map (λ_=>Z)++c):=by
 refine⟨by rw[h.1];simp[e],λi d q=>?_⟩;by_cases a:i<b.length
 ·rw[aT (by simpa using a),ay] at q;cases h:b[i]? with
  |none=>rw[h] at q;cases q
  |some z=>rw[h] at q;cases q
 have a:=dh a;rw[aK (by simpa using a),aL] at q;exact h.2 i d (by rw[aK (by omega),e];exact q)
def CB{b:Program}{w:World}{j a f:Expr}{i:Lx}{it k:Value}{d:Env} (I:Nat->Shared->Prop)
  (l:∀n s,I n s->wpAny (model b w) A (pyNext it) (λr s₁=>match r with
   |none=>R (.ok .next) s₁
   |some v=>wpAny (model b w) A (letOwnedTupleGo a it v) (λ_ s₁=>wpAny (model b w) A (assign a d v) (λ_ s₂=>
     wpAny (model b w) A (forIn i true λc r=>if r=true then do let ok <-isTrue c d (eval c d);pure (ForInStep.yield ok) else pure (ForInStep.yield r)) (λok s₃=>
      if ok=true then wpAny (model b w) A (eval j d) (λx s₄=>
       wpAny (model b w) A (call (.builtin "list.append") [k,x]) (λ_ s₅=>∃m,m<n/\I m s₅) (λ_ _=>False) s₄) (λ_ _=>False) s₃
      else ∃m,m<n/\I m s₃) (λ_ _=>False) s₂) (λ_ _=>False) s₁) (λ_ _=>False) s₁) (λ_ _=>False) s)
  (n:Nat) (h:I n s):
  codeAny (model b w) A (.compLoop (.ListComp j [⟨a,f,i,0⟩] scope pos) 0 it k d) R s:=by
 refine codeAny_loop rfl I (λn s t=>?_) n h;show wpAny _ A ((compTurn (.ListComp j [⟨a,f,i,0⟩] scope pos) 0 it k d).onRaise (λx=>do noteFrame x d;theTreesLotGoes x)) _ _ s;refine wpAny_noted ?_;rw[compTurn_list];refine ab (wpAny_standAt (ab (bK (l n s t) (λr s₁ e=>?_) λ_ _ z=>False.elim z)));cases r with
 |none=>exact au e
 |some v=>
  refine ab (bK e (λ_ s₁ e=>?_) λ_ _ z=>False.elim z);refine ab (bK e (λ_ s₂ q=>ab (bK q (λok s₃ g=>?_) λ_ _ z=>False.elim z)) λ_ _ z=>False.elim z);cases ok with
  |false=>exact au ⟨rfl,g⟩
  |true=>exact ab (ab (bK g (λx s₄ p=>ab (bK p (λ_ s₅ o=>au (au ⟨rfl,o⟩)) λ_ _ z=>False.elim z)) λ_ _ z=>False.elim z))
def qF(a:Lw)(n:Nat):Obj:=(zl a.toArray n)
def KG(X:Cx)(e:Expr)(a:Scope)(i:Expr)(t:TE):Prop :=
 ∀(b:Ax) (s:Shared) (σ:St) (H:Hp) (Q:VK) (R:Value->Addr->Result->Shared->Prop),eT X b σ H s->t σ H Q ->
  (∀(D C:Addr) (j:Shared) (k:Hp) (n:Obj) (m:Str->Ow),eT X ((C,n)::b) σ k j->j.heap.Ns C m->(∀p∈X.pn++b,p.1≠C)->(zB X.s₀)<=C->Q (.ref D) k->R (.ref D) C (.ok .next) j) ->
  (zw X) (eval i X.env) (λl h=>(zw X) (pyIter l) (λit g=>(zw X) (newList []) (λacc f=>
   (zw X) (newFunctionEnv a X.env.globals (yk X.env a) [] X.env.qual Z .none (Y X.env)) (λc d=>
    codeAny (model X.prog X.w) X.A (.compStart e 0 it acc { c with scope:=relabel a X.env }) (R acc c.locals) d) X.xe f) X.xe g) X.xe h) X.xe s
def eT.ym{C:Addr}{d:Obj}{g:Heap}(I:eT X ((C,d)::pins) σ H s)(k:∀p∈X.pn++pins,p.1≠C)(h:(zB X.s₀)<=C)(i:Heap.SameBut C s.heap g):eT X pins σ H { s with heap:=g }:=by have a:=I.pin (C,d) (by simp);have J:eT X pins σ H s:=I.pS λp j=>I.pin p (ak _ (ah _ j));refine J.turned (t':=s.toks) (it:=C) (λb o hb e=>(i.2 b hb).trans e) a.2.1 a.2.2.1 (.inr h) (λy c e z=>?_) k;obtain⟨v,o,f,l⟩:=J.cell y c e;rw[z,a.1] at f;cases f;exact a.2.2.2.2 v l
def nN{r:c7->Lp->Option Lp}(ρ:c7)(d:eD)(h:((q ρ).bind λds=>if ds.length<=sizeLine then (r ρ ds).map eD.list else Z)=Y d):∃ds a,q ρ=Y ds/\ds.length<=sizeLine/\r ρ ds=Y a/\d=.list a:=by
 obtain⟨ds,g,b⟩:=bind_some h;by_cases c:ds.length<=sizeLine
 ·rw[ag c] at b;obtain⟨a,f,e⟩:=aa.mp b;exact⟨ds,a,g,c,f,e.symm⟩
 ·rw[aj c] at b;cases b
def Jg{b:Bool}{o:Od}{r:Option Lp}{a:Lp}(h:(if b then o.bind λy=>r.bind λa=>Y (y::a) else r)=Y a):if b=true then ∃y c,o=Y y/\r=Y c/\a=y::c else r=Y a:=by
 cases b with
 |false=>exact h
 |true=>obtain⟨y,g,f⟩:=bind_some h;obtain⟨c,e,d⟩:=bind_some f;cases d;exact⟨y,c,g,e,rfl⟩
def G3(c:c7)(d:eD)(i a:Lp)(h:lS g f c (d::i)=Y a):∃p b,p.length=1/\Jf 0 d ([Z]++c)=Y (p++c)/\g (p++c)=Y b/\if b=true then ∃y j,f (p++c)=Y y/\lS g f c i=Y j/\a=y::j else lS g f c i=Y a:=by obtain⟨b,k,e⟩:=bind_some h;exact⟨[Y d],b,rfl,rfl,k,Jg e⟩
def Ew(A:Hp->Hp->Lp->List V->Prop) (Xh:∀{b G:Hp}{ds:Lp}{vs:List V},A b G ds vs->ds.length=vs.length) (AS:∀{b G G':Hp}{ds:Lp}{vs:List V},A b G ds vs->eN G G'->A b G' ds vs) {elt iter:Expr}  (N0:Lr)  {ifs:Lx}     {dd:c7->Od}{bd:BD} (cmp:c7->Lp->Option Lp)
  (hc:X.calm=true) (S:km scope x) (hcl:∀p∈scope.names,p.2=.free->∃c,X.env.cells.lookup p.1=Y c) (aad:lq X scope iS)
  (hi:Nb X tg iter q)
  (hg:∀C s H fp,Y4 (mw X scope C (N0++iS.map (·.2)) s H fp) tg bd)
  (ht:∀C s H fp,yl (mw X scope C (N0++iS.map (·.2)) s H fp) ifs g)
  (he:∀C s H fp,PE (mw X scope C (N0++iS.map (·.2)) s H fp) elt (λσ G Q=>∃ρ yd,jA X.K G σ ρ/\f ρ=Y yd/\∀v G',eN G G'->(∀b ds vs,A b G ds vs->A b G' (ds++[yd]) (vs++[v]))->Q v G'))
  (hdd:∀ρ d,dd ρ=Y d->∃ds ys,q ρ=Y ds/\ds.length<=sizeLine/\cmp (pA iS ρ) ds=Y ys/\d=.list ys) (h0:∀c ys,cmp c []=Y ys->ys=[])
  (h1:∀c d ds ys,cmp c (d::ds)=Y ys->∃p b,p.length=N0.length/\bd d (N0.map (λ_=>Z)++c)=Y (p++c)/\g (p++c)=Y b/\if b=true then ∃y zs,f (p++c)=Y y/\cmp c ds=Y zs/\ys=y::zs else cmp c ds=Y ys):
  KG X (.ListComp elt [⟨tg,iter,ifs,0⟩] scope pos) scope iter (λσ H Q=>∃ρ d,jA X.K H σ ρ/\dd ρ=Y d/\A H H [] []/\∀ys G D vs,d=.list ys->eN H G->G D=Z->A H G ys vs->Q (.ref D) (upd G D (.lst vs))):=by
 intro pins s σ H Q R I ⟨ρ,d,hsD,e,hA0,k⟩ fin;obtain⟨ds,ys,e1,hz,e3,rfl⟩:=hdd ρ d e;refine gS (@hi pins s σ H (λJ H'=>eN H H'/\GZ X.K J ds H') I ⟨ρ,ds,hsD,e1,λJ H' s' w=>⟨s',w⟩⟩) λv sA hA=>gS hA ?_;rintro itv L ⟨it,fp,tn,J,H2,eit,I2,T,st2,f2,U,wd⟩;subst eit;have aae:=hsD.same U;refine cz (wpAny_newFunctionEnv S.Nd (by intro y hy;simp at hy) (λM F E=>?_) S.kind);dsimp only at F E ⊢;generalize hH2:L.heap.push { cls:=.type "list",dict:=Z,data:=.seq ([]:Lw).toArray }=Y5 at F E ⊢;have hCs:Y5.objs.size=(zB L)+1:=by rw[<-hH2,cQ]
 generalize hC:Y5.objs.size=C at F E hCs ⊢;generalize hD:(zB L)=D at hCs ⊢;have hDC:D≠C:=by omega
 have P:(zB L)<=C:=by omega
 have old:∀b o,L.heap.get? b=Y o->M.get? b=Y o:=λb o e=>by have j:=aq e;exact E.extBut b o (aG (aC j P)) (af _ (hH2▸af _ e))
 have hD1:M.get? D=Y (qF [] 0):=by refine E.extBut _ _ hDC (af _ (hH2▸?_));rw[<-hD];exact aw _ rfl
 have hfo:∀b∈fp,∃o,L.heap.get? b=Y o:=λb j=>by obtain⟨o,ho,_⟩:=T.obj 0 _ st2 b j;exact⟨o,ho⟩
 have I3:eT (mw X scope C (N0++iS.map (·.2)) L H2 fp) [] (N0.map (λ_=>Z)++An iS σ) H2 { L with heap:=M,toks:=L.toks+([]:List (Str×Value)).length } :=
  UE N0 I2 hc S hcl aad f2 hfo P old F rfl I2.bare
 have fpD:∀b∈fp,b≠D/\b≠C:=λb j=>by obtain⟨o,ho⟩:=hfo b j;have:=aq ho;exact⟨aG (hD▸this),aG (aC this P)⟩
 have aaf:∀(W:Cx),W=mw X scope C (N0++iS.map (·.2)) L H2 fp->∀{G:Hp}{σ':St}{s':Shared}{l:Lw}{n:Nat},eT W [(D,qF l n)] σ' G s' ->
   ∀{t':Nat}{h':Heap}{its':Lw}{n':Nat},(∀b o,b≠D->s'.heap.get? b=Y o->h'.get? b=Y o)->h'.get? D=Y (qF its' n')->eT W [(D,qF its' n')] σ' G { s' with heap:=h',toks:=t' }:=by
  intro W hX G σ' s' l n J1 t' h' its' n' kk hD';have O:=J1.pin (D,qF l n) (by simp);have J2:eT W [] σ' G s':=J1.pS λp O=>by cases O
  have J3:eT W [] σ' G { s' with heap:=h',toks:=t' }:=by
   refine J2.turned (it:=D) (λb o j e=>kk b o j e) O.2.1 O.2.2.1 (.inr ?_) (λy c e z=>?_) (λp O=>?_)
   ·subst hX;show (zB L)<=D;omega
   ·obtain⟨v,o,ho,hd⟩:=J2.cell y c e;rw[z,O.1] at ho;cases ho;have hd':(qF l n).data=.cell v:=hd;cases hd'
   ·subst hX;exact absurd (show p∈([]:Ax)++[] from O) (by simp)
  refine J3.pS λp Y5=>?_;have:p=(D,qF its' n'):=by simpa using Y5
  subst this;exact⟨hD',O.2.1,O.2.2.1,O.2.2.2.1,λv z=>by have z':(qF its' n').data=.cell v:=z;cases z'⟩
 have aag:D∉Gs X.stack:=λj=>by obtain⟨_,o,ho,_⟩:=I2.stack.mem j;have:=aq ho;exact absurd this (by rw[hD];exact aX _)
 have I4:eT (mw X scope C (N0++iS.map (·.2)) L H2 fp) [(D,qF [] 0)] (N0.map (λ_=>Z)++An iS σ) H2 { L with heap:=M,toks:=L.toks+([]:List (Str×Value)).length }:=by
  refine I3.pS λp O=>?_;have:p=(D,qF [] 0):=by simpa using O
  subst this;exact⟨hD1,I2.ir.fresh (by omega),hDC,aag,λv z=>by have z':(qF [] 0).data=.cell v:=z;cases z'⟩
 have st4:tn 0 M:=T.keep 0 _ _ st2 λb j o e=>old b o e;let W:=mw X scope C (N0++iS.map (·.2)) L H2 fp;have stat:∀{G:Hp}{pl:Ax},(∀p∈pl,p.1=D)->(∀b∈fp,G b=Z)->∀b∈fp,nc W pl G b:=λ{G pl} hpl hn b j=>by
  obtain⟨f0,f1,f2',f3,f4,f5⟩:=f2 b j;refine⟨hn b j,(fpD b j).2,λz=>?_,.inl j,λy c e=>f4 y c (kb e),λp O z=>?_⟩
  ·rcases ao.mp (I2.Ca b z) with h|h
   ·exact f1 h
   ·exact f2' h
  ·have Xi:p∈pl:=by simpa [W,mw] using O
   exact(fpD b j).1 (by rw[<-z];exact hpl p Xi)
 have loop:∀s₃:Shared,s₃={ L with heap:=M,toks:=L.toks+([]:List (Str×Value)).length } ->
   codeAny (model X.prog X.w) X.A (.compLoop (.ListComp elt [⟨tg,iter,ifs,0⟩] scope pos) 0 (.ref it) (.ref D) (compEnvC scope (yk X.env scope) C X.env))
    (R (.ref D) C) s₃:=by
  rintro s₃ rfl;refine CB (λn s'=>∃(i:Nat) (σ':St) (G:Hp) (l:Lw) (vs:List V) (m:Nat) (done:Lp) (Y6:Lp),eT W [(D,qF l m)] σ' G s'/\tn i s'.heap/\(∀b∈fp,G b=Z)/\eN H2 G/\jA X.K G σ' (N0.map (λ_=>Z)++pA iS ρ) /\
    fT vs l/\A H G done vs/\done.length<=i/\i<=ds.length/\cmp (pA iS ρ) (ds.drop i)=Y Y6/\ys=done++Y6/\n=ds.length - i) ?_ ds.length
   ⟨0,_,H2,[],[],0,[],ys,I4,st4,λb j=>(f2 b j).1,.refl _,aae.cap N0 iS,.nil,AS hA0 U,az _,cD _,by simpa using e3,rfl,by simp⟩
  rintro n s' ⟨i,σ',G,l,vs,m,done,Y6,JJ,st,fr,sG,aah,rv,UG,hdi,hil,e5,e6,rfl⟩;obtain⟨w1,w2⟩:=wd G sG;by_cases SV:i<ds.length
  ·
   have hd:ds[i]?=Y ds[i]:=aN SV;obtain⟨w3,w4⟩:=w2 i _ hd;rw[bJ SV] at e5;obtain⟨pr,b,hpr,ebd,eb,e7⟩:=h1 _ _ _ _ e5;refine gS (T.item W rfl rfl rfl rfl i _ s' σ' G (λ_ _=>False) JJ (stat (by simp) fr) st w3) ?_;rintro r s5 ⟨u,hr,h5⟩;subst hr;refine gS h5 ?_;rintro _ s6 ⟨y,G6,J6,r6,y6,st6,fr6⟩;obtain⟨s7,i7⟩:=w4 y G6 y6;have aai:=stat (G:=G6) (pl:=[(D,qF l m)]) (by simp) fr6;have J6':=J6.pinned aai (T.obj _ _ st6);have Xj:jA X.K G6 σ' (N0.map (λ_=>Z)++pA iS ρ):=aah.same s7;refine gS (hg C L H2 fp s6 σ' G6 y u (λσ8 H8=>eN G6 H8/\jA X.K H8 σ8 (pr++pA iS ρ)) J6' r6 ⟨_,ds[i],pr++pA iS ρ,Xj,i7,ebd,λσ8 H8 s8 h8=>⟨s8,h8⟩⟩) ?_;rintro _ s8 ⟨σ8,G8,J8,N,QA⟩;refine gS (ht C L H2 fp s8 σ8 G8 (λc H9=>c=b/\eN G8 H9) J8 ⟨_,b,QA,eb,λH9 s9=>⟨rfl,s9⟩⟩) ?_;rintro ok s9 ⟨G9,J9,⟨ir,t⟩⟩;subst ir;have SW:∀{σ7:St}{G7:Hp}{s7:Shared}{pl:Ax},eT W (pl++u3 fp s6.heap) σ7 G7 s7->tn (i+1) s7.heap/\∀b∈fp,G7 b=Z:=λ{σ7 G7 s7 pl} J7=>by refine⟨T.keep _ _ _ st6 λb j o e=>(J7.pin (b,o) (ak _ (ak _ (nQ j e)))).1,λb j=>?_⟩;obtain⟨o,e,d⟩:=T.obj _ _ st6 b j;exact(J7.pin (b,o) (ak _ (ak _ (nQ j e)))).2.1
   cases ok with
   |false=>rw[aj aB] at e7 ⊢;obtain⟨k1,k2⟩:=SW J9;exact⟨ds.length - (i+1),by omega,i+1,σ8,G9,l,vs,m,done,Y6,J9.nR,k1,k2,sG.trans (s7.trans (N.trans t)),(QA.less hpr).same t,rv,AS UG (s7.trans (N.trans t)),by omega,SV,e7,e6,rfl⟩
   |true=>
    rw[ag rfl] at e7 ⊢;obtain⟨yd,ys2,e8,e10,rfl⟩:=e7;refine gS (he C L H2 fp s9 σ8 G9 (λv H10=>eN G9 H10/\∀b ds vs,A b G9 ds vs->A b H10 (ds++[yd]) (vs++[v])) J9 ⟨_,yd,QA.same t,e8,λv H10 Y7 i10=>⟨Y7,i10⟩⟩) ?_;rintro u10 Y7 ⟨v10,G10,J10,r10,Nf,i10⟩;obtain⟨k1,k2⟩:=SW J10;have J11:eT W [(D,qF l m)] σ8 G10 Y7:=J10.nR;have Y8:=J11.pin (D,qF l m) (by simp);have hlen:l.length<=sizeLine:=by have h1:=rv.length;have h2:=Xh UG;omega
    refine wpAny_list_append_plain (hsz:=by rw[ar];exact hlen) ⟨m,Y8.1⟩ ?_;rintro h12 ⟨n12,aaj⟩ Xk;have J12:=aaf W rfl J11 (t':=Y7.toks) (h':=h12) (its':=l++[u10]) (n':=n12) (λb o j e=>(Xk.2 b j).trans e) (by rw[aaj];simp[qF]);refine⟨ds.length - (i+1),by omega,i+1,σ8,G10,l++[u10],vs++[v10],n12,done++[yd],ys2,J12,?_,k2,sG.trans (s7.trans (N.trans (t.trans Nf))),(QA.less hpr).same (t.trans Nf),rv.append (.cons r10 .nil),i10 _ _ _ (AS UG (s7.trans (N.trans t))),by simp;omega,SV,e10,by simp[e6],rfl⟩;exact T.keep _ _ _ k1 λb j o e=>(Xk.2 b (fpD b j).1).trans e
  ·
   have hiL:i=ds.length:=by omega
   subst hiL;rw[dY] at e5;cases h0 _ _ e5;rw[aM] at e6;subst e6;refine gS (T.done W rfl rfl rfl rfl _ _ s' σ' G (λ_ _=>False) JJ (stat (by simp) fr) st w1) ?_;rintro r s9 ⟨hr,J9⟩;subst hr;have Y8:=J9.pin (D,qF l m) (by simp);obtain⟨mC,hnC,_⟩:=J9.loc;have Wh:G D=Z:=Y8.2.1;have hGC:G C=Z:=J9.free;have aak:sF X.prog X.w (upd G D (.lst vs)) s9.heap:=λa o e=>by
    by_cases ha:a=D
    ·subst ha;rw[eR] at e;cases e;have h1:=rv.length;have h2:=Xh UG;exact⟨by omega,l,m,rv,Y8.1⟩
    ·rw[eI ha] at e;exact(J9.ir a o e).tF (λc w' hcc q=>q) (λc q=>by rw[eI (gp q Wh)];exact q) λc xs q=>by rw[eI (gp q Wh)];exact q
   have ne2:∀b o,L.heap.get? b=Y o->b≠C/\b≠D:=λb o e=>by have:=aq e;exact⟨aG (aC this P),aG (hD▸this)⟩
   have un:Un (Gs X.stack) fp H2 (upd G D (.lst vs)) L.heap s9.heap:=by
    have B:=J9.base;refine⟨λb o e n j hx=>B.keep b o e n j hx,λb o e n j hx=>B.slot b o e n j hx,λb o e n hx=>by rw[eI (ne2 b o e).2];exact B.free b o e n hx,λb o e hx=>B.there b o e hx,λb xs e=>by rw[eI (gp (B.uY b xs e) Wh)];exact B.uY b xs e,
     λb o u e=>by rw[eI (gp (B.sI b o u e) Wh)];exact B.sI b o u e,λb ps e=>?_⟩
    obtain⟨mm,e1⟩:=B.wH b ps e;exact⟨mm,by rw[eI (gp e1 Wh)];exact e1⟩
   have I9:eT X pins σ (upd G D (.lst vs)) s9:=I2.Ww (s':=s9) (ch:=fp) J9.os un aak J9.bare (λb j=>by obtain⟨f0,f1,f2',f3,f4,f5⟩:=f2 b j;exact⟨f3,f1,f4,f5⟩);have hpn:∀p∈X.pn++pins,p.1≠C:=λp O=>(ne2 p.1 p.2 (I2.pin p O).1).1;have hCz:(zB X.s₀)<=C:=bq I2.sz P;obtain⟨oC,es,ep,hoC,rC⟩:=hnC;have aal:C∉X.fs:=λj=>by
    have h1:=J9.ok.Mp;have:C∈Gs X.stack:=by
     rcases I2.ok.Wu with z | ⟨z,_⟩
     ·rw[z];exact j
     ·rw[z];obtain⟨a,h1,h2⟩:=bZ.mp j;exact bZ.mpr ⟨a,ah _ h1,h2⟩
    obtain⟨_,o,ho,_⟩:=I2.stack.mem this;exact(ne2 C o ho).1 rfl
   have hCL:C≠X.env.locals:=λz=>by obtain⟨mL,hnL,_⟩:=I2.loc;obtain⟨oL,_,_,ZF,_⟩:=hnL;exact(ne2 _ oL ZF).1 z.symm
   refine fin D C s9 _ oC mC (I9.pS λp O=>?_) ⟨oC,es,ep,hoC,rC⟩ hpn hCz (k _ _ D _ rfl (U.trans sG) Wh UG);rcases ao.mp O with z|z
   ·subst z;refine⟨hoC,by rw[eI (Ne.symm hDC)];exact hGC,hCL,aal,λv z=>?_⟩;rw[rC.1] at z;cases z
   ·exact I9.pin p (ak _ z)
 exact codeAny_compStart_list (loop _ rfl) (T.self X.A 0 _ _ _ st4 (loop _ rfl))
def Ex(A:Hp->Hp->Lp->List V->Prop) (k:∀{b G:Hp}{ds:Lp}{vs:List V},A b G ds vs->ds.length=vs.length) (y:∀{b G G':Hp}{ds:Lp}{vs:List V},A b G ds vs->eN G G'->A b G' ds vs) {j a:Expr}{o:Pos}{h:Lx}
  (w:X.calm=true) (S:km scope x) (m:∀p∈scope.names,p.2=.free->∃c,X.env.cells.lookup p.1=Y c) (i:lq X scope iS) (l:(x::iS.map (·.2)).Nodup)
  (t:Nb X (.Name x o) a q)
  (r:∀C s H fp,yl (mw X scope C (x::iS.map (·.2)) s H fp) h g)
  (u:∀C s H fp,PE (mw X scope C (x::iS.map (·.2)) s H fp) j (λσ G Q=>∃ρ yd,jA X.K G σ ρ/\f ρ=Y yd/\∀v G',eN G G'->(∀b ds vs,A b G ds vs->A b G' (ds++[yd]) (vs++[v]))->Q v G')):
  KG X (.ListComp j [⟨.Name x o,a,h,0⟩] scope pos) scope a (λσ H Q=>∃ρ d,jA X.K H σ ρ/\lu q iS g f ρ=Y d/\A H H [] []/\∀n G D vs,d=.list n->eN H G->G D=Z->A H G n vs->Q (.ref D) (upd G D (.lst vs))):=
 Ew A k y [x] (lS g f) w S m i t (λC s H fp=>yi 0 l rfl (.inl (bN S.var)) (.inr (bN S.var))) r u nN (λ_ _ e=>by cases e;rfl) G3
def CC{a:Expr}{g:Cx}(h:PD g a f)(l:g.K=X.K):PE g a (λσ G Q=>∃ρ d,jA X.K G σ ρ/\f ρ=Y d/\∀v c,eN G c->(∀(b:Hp) ds vs,ez X.K G ds vs->ez X.K c (ds++[d]) (vs++[v]))->Q v c) :=
 PE.imp h <| by rintro σ G Q ⟨ρ,d,m,e,k⟩;exact⟨ρ,d,by rw[l];exact m,e,λv c s i=>k v c s λ_ _ _ j=>(j.same s).append (ez.cons (by rw[l] at i;exact i) ez.nil)⟩
def KG.data{a:Expr}{i:c7->Od}(h:KG X e scope a (λσ H Q=>∃ρ d,jA X.K H σ ρ/\i ρ=Y d/\ez X.K H [] []/\∀ys G D vs,d=.list ys->eN H G->G D=Z->ez X.K G ys vs->Q (.ref D) (upd G D (.lst vs)))):KG X e scope a (tD X.K i) :=
 λb s σ H Q R I ⟨ρ,d,c,e,k⟩ f=>h b s σ H Q R I ⟨ρ,d,c,e,ez.nil,λys G D vs l j g id=>k _ _ (j.trans (iF g)) (by rw[l];exact Er g id)⟩ f
def Jh{e a:Expr}{k:Pos}{b:Lx}
  (o:X.calm=true) (S:km scope x) (j:∀p∈scope.names,p.2=.free->∃c,X.env.cells.lookup p.1=Y c) (d:lq X scope iS) (i:(x::iS.map (·.2)).Nodup)
  (m:Nb X (.Name x k) a q)
  (l:∀C s H fp,yl (mw X scope C (x::iS.map (·.2)) s H fp) b g)
  (n:∀C s H fp,PD (mw X scope C (x::iS.map (·.2)) s H fp) e f):KG X (.ListComp e [⟨.Name x k,a,b,0⟩] scope pos) scope a (tD X.K (lu q iS g f)):=
 (Ex (λ_ G ds vs=>ez X.K G ds vs) ez.length (λh s=>h.same s) o S j d i m l λC s H fp=>CC (n C s H fp) rfl).data
def KG.pe{e a:Expr}{i:Pos}{d:Lx}{t:TE} (h:KG X (.ListComp e [⟨.Name x i,a,d,0⟩] scope pos) scope a t) (S:km scope x) (g:∀p∈scope.names,p.2=.free->∃c,X.env.cells.lookup p.1=Y c)
  (k:∀x,foldedSetIterable a X.env x=pure x:=by intro _;rfl):PE X (.ListComp e [⟨.Name x i,a,d,0⟩] scope pos) t:=by
 intro b s σ H Q I o;rw[eval_ListComp];refine cI (use:=Z) rfl k (o7 g) S.kind S.loc (@h b s σ H Q (compPost (model X.prog X.w) X.A X.xe Z (EP X b σ Q)) I o ?_);intro D C v u y m r n l j q;exact⟨m,n,λz f=>⟨.ref D,u,r.ym l j f,rfl,q⟩⟩
def QB{h a:Expr}{j:Pos}{b:Lx}
  (o:X.calm=true) (S:km scope x) (d:∀p∈scope.names,p.2=.free->∃c,X.env.cells.lookup p.1=Y c) (e:lq X scope iS) (i:(x::iS.map (·.2)).Nodup)
  (m:Nb X (.Name x j) a q)
  (k:∀C s H fp,yl (mw X scope C (x::iS.map (·.2)) s H fp) b g)
  (n:∀C s H fp,PD (mw X scope C (x::iS.map (·.2)) s H fp) h f)
  (l:∀x,foldedSetIterable a X.env x=pure x:=by intro _;rfl):PD X (.ListComp h [⟨.Name x j,a,b,0⟩] scope pos) (lu q iS g f) :=
 (Jh o S d e i m k n).pe S d l
def Ji{y:Str}{j g:Pos}{f a:Expr}{l:Pos}{d:Lx}{t:TE} (h:KG X (.ListComp f [⟨.Name x l,a,d,0⟩] scope pos) scope a t) (S:km scope x) (u:∀p∈scope.names,p.2=.free->∃c,X.env.cells.lookup p.1=Y c)
  (W:X.N.Nodup) (U:X.N[i]?=Y y) (F:X.env.scope.names.lookup y=Y .local) (n:swapsWith (.ListComp f [⟨.Name x l,a,d,0⟩] scope pos) (Y (.Name y j)) g.line X.env=pure true)
  (O:∀x,foldedSetIterable a X.env x=pure x:=by intro _;rfl):PS X (.Assign [.Name y j] (.ListComp f [⟨.Name x l,a,d,0⟩] scope pos) g) (T3 t (IV i)):=by
 intro b s σ H D I V;rw[exec_Assign_Name_used _ _ _ _ n];refine ab (wpAny_standAt (ab ?_));show wpAny _ X.A (do let _ <-comprehension (.ListComp f [⟨.Name x l,a,d,0⟩] scope pos) scope X.env _ (newList []) false (eval a X.env) (Y (assign (.Name y j) X.env))) _ _ s;refine ab (bK (cI (use:=Y (assign (.Name y j) X.env)) (Q:=λ_ k=>SP X b D .next k) rfl O (o7 u) S.kind S.loc
  (@h b s σ H _ (compPost (model X.prog X.w) X.A X.xe (Y (assign (.Name y j) X.env)) (λ_ k=>SP X b D .next k)) I V ?_)) (λ_ k P=>au (au P)) λ_ _ e=>e)
 intro B C K H9 E m G T R M q;show wpAny _ X.A (assign (.Name y j) X.env (.ref B)) _ _ _;refine bK (tG W U (.inl F) (.inr F) K σ H9 (.ref B) (.ref B) (λσ' H'=>D.nx σ' H') G rfl q) (?_) λ_ _ e=>e;rintro _ k ⟨σ',H',J,L⟩;have z:=J.pin (C,E) (by simp);have v:=G.pin (C,E) (by simp);refine⟨m,T.at' λo e=>?_,λh' r=>⟨σ',H',J.ym R M r,L⟩⟩;rw[v.1] at e;cases e;exact z.1
end
def Ng:HO->Prop
 |.lst _=>True
 |.dK _=>True
 |_=>False
def eU(G:Hp):List (Addr×HO)->Hp
 |[]=>G
 | (p,o)::r=>upd (eU G r) p o
inductive pV:List (Addr×HO)->Prop
 |nil:pV []
 |one {p:Addr}{o:HO}{r:List (Addr×HO)}:Ng o->pV r->pV ((p,o)::r)
 |ins {p C dx:Addr}{fs:List (Str×V)}{r:List (Addr×HO)}:pV r->pV ((p,.ins C dx fs)::(dx,.own p)::r)
def pV.append{A:List (Addr×HO)}(h:pV A)(h':pV B):pV (A++B):=by
 induction h with
 |nil=>exact h'
 |one f _ a=>exact .one f a
 |ins _ a=>exact .ins a
structure j4 (G:Hp) (B:List (Addr×HO)):Prop where
 nd:(B.map (·.1)).Nodup
 free:∀x∈B,G x.1=Z
 ok:pV B
theorem j4.nil{G:Hp}:j4 G []:=⟨List.nodup_nil,(λx a=>by cases a),.nil⟩
theorem fX{G:Hp}{a:Addr}:∀{B:List (Addr×HO)},(∀x∈B,x.1≠a)->eU G B a=G a
 |[],_=>rfl
 | (p,o)::r,h=>by show upd (eU G r) p o a=G a;rw[eI (Ne.symm (h (p,o) (by simp)))];exact fX λx b=>h x (ah _ b)
theorem fL{G:Hp}:∀{B:List (Addr×HO)},(B.map (·.1)).Nodup->∀x∈B,eU G B x.1=Y x.2
 |[],_,_,h=>by cases h
 | (p,o)::r,nd,x,hx=>by
  rw[ai,bc] at nd;rcases ao.mp hx with e|hx
  ·subst e;exact eR
  ·show upd (eU G r) p o x.1=Y x.2;have a:x.1≠p:=λe=>nd.1 (by rw[<-e];exact aP.mpr ⟨x,hx,rfl⟩);rw[eI a];exact fL nd.2 x hx
def oF(B:List (Addr×HO)):(∃x∈B,x.1=a)\/(∀x∈B,x.1≠a):=by
 by_cases h:∃x∈B,x.1=a
 ·exact .inl h
 ·exact .inr λx b e=>h ⟨x,b,e⟩
def rn(c:(B.map (·.1)).Nodup)(e:∀x∈B,H x.1=Y x.2)(d:∀a,(∀x∈B,x.1≠a)->H a=G a):H=eU G B:=by
 funext a
 rcases oF (a:=a) B with ⟨x,b,rfl⟩|h
 ·rw[e x b,fL c x b]
 ·rw[d a h,fX h]
theorem jg(G:Hp):∀(A B:List (Addr×HO)),eU G (A++B)=eU (eU G B) A
 |[],_=>rfl
 | (p,o)::r,B=>by show upd (eU G (r++B)) p o=upd (eU (eU G B) r) p o;rw[jg G r B]
def ie{A:List (Addr×HO)}(d:(A.map (·.1)).Nodup)(h:A.Perm B):eU G A=eU G B:=by have b:(B.map (·.1)).Nodup:=(h.map (·.1)).nodup_iff.mp d;refine rn b (λx c=>fL d x (h.mem_iff.mpr c)) λa e=>fX λx c=>e x (h.mem_iff.mp c)
def j4.same(f:j4 G B):eN G (eU G B):=λa o e=>by
 rw[fX λx b z=>?_]
 ·exact e
 ·have:=f.free x b;rw[z,e] at this;cases this
def j4.KH{A:List (Addr×HO)}(f:j4 G (A++B))(d:pV A):j4 (eU G B) A:=by have a:=f.nd;rw[bR,br] at a;refine⟨a.1,λx b=>?_,d⟩;rw[fX λy c z=>a.2.2 _ (aP.mpr ⟨x,b,rfl⟩) _ (aP.mpr ⟨y,c,rfl⟩) z.symm];exact f.free x (aF _ b)
def j4.KI{A:List (Addr×HO)}(f:j4 G (A++B))(c:pV B):j4 G B:=by have a:=f.nd;rw[bR,br] at a;exact⟨a.2.1,λx b=>f.free x (ak _ b),c⟩
def j4.join{A:List (Addr×HO)}(f:j4 G B)(g:j4 (eU G B) A):j4 G (A++B):=by
 have d:∀x∈A,∀y∈B,x.1≠y.1:=λx e y c z=>by have i:=g.free x e;rw[z,fL f.nd y c] at i;cases i
 refine⟨?_,λx e=>?_,g.ok.append f.ok⟩
 ·rw[bR,br];refine⟨g.nd,f.nd,λa k b j z=>?_⟩;obtain⟨x,e,rfl⟩:=aP.mp k;obtain⟨y,c,rfl⟩:=aP.mp j;exact d x e y c z
 ·rcases aR.mp e with h|h
  ·have i:=g.free x h;rw[fX λy c z=>d x h y c z.symm] at i;exact i
  ·exact f.free x h
def j4.perm{A:List (Addr×HO)}(f:j4 G A)(h:A.Perm B)(a:pV B):j4 G B :=
 ⟨(h.map (·.1)).nodup_iff.mp f.nd,λx b=>f.free x (h.mem_iff.mpr b),a⟩
section
variable {p:Addr}{o:HO}
def QC(I:eT X pins σ (upd H p o) s)(g:Ng o):∃a,s.heap.get? p=Y a/\∀v,a.data≠.cell v:=by
 have h:=I.ir p o eR;cases o with
 |lst d=>obtain⟨_,b,n,_,e⟩:=h;exact⟨_,e,λv z=>by have c:Data.seq b.toArray n=.cell v:=z;cases c⟩
 |dK f=>obtain⟨_,_,d,_,a,j,k,e,_,i,_⟩:=h;exact⟨a,e,λv z=>by rw[i] at z;cases z⟩
 |_=>exact g.elim
def Nh{P:Program}{w:World}{s:Hp}{h f:Heap}{a:Obj}(k:Ng o)(x:iR P w H h p o)(e:h.get? p=Y a)(g:f.get? p=Y a):iR P w s f p o:=by
 cases o with
 |lst d=>obtain⟨z,b,n,r,q⟩:=x;rw[e] at q;cases q;exact⟨z,b,n,r,g⟩
 |dK j=>obtain⟨z,y,d,r,i,l,m,q,c⟩:=x;rw[e] at q;cases q;exact⟨z,y,d,r,a,l,m,g,c⟩
 |_=>exact k.elim
def SX(I:eT X pins σ (upd H p o) s)(W:H p=Z)(j:Ng o):∃k,eT X (pins++[(p,k)]) σ H s /\
  ∀(G:Hp) (N:Shared) (σ':St),eT X (pins++[(p,k)]) σ' G N->G p=Z/\eT X pins σ' (upd G p o) N:=by
 obtain⟨k,D,f⟩:=QC I j;have nt:∀b u,H b=Y u->b≠p:=λb u e=>gp e W;have t:∀b,upd H p o b=Z->b≠p/\H b=Z:=λb e=>by
  have g:b≠p:=λz=>by rw[z,eR] at e;cases e
  rw[eI g] at e;exact⟨g,e⟩
 have F:∀b u,upd H p o b=Y u->u≠o->H b=Y u:=λb u e hu=>by
  by_cases g:b=p
  ·rw[g,eR] at e;cases e;exact absurd rfl hu
  ·rw[eI g] at e;exact e
 have l:∀i,(HO.tup i)≠o:=λi e=>by rw[<-e] at j;exact j
 have B:∀q u,(HO.tE q u)≠o:=λq u e=>by rw[<-e] at j;exact j
 have y:∀w,(HO.PZ w)≠o:=λw e=>by rw[<-e] at j;exact j
 have A:∀a,(HO.own a)≠o:=λa e=>by rw[<-e] at j;exact j
 have hL:p≠X.env.locals:=λz=>by have:=I.free;rw[<-z,eR] at this;cases this
 have U:p∉X.fs:=λg=>by obtain⟨_,q,d,_⟩:=I.ok.sJ.mem g;have:=I.base.free p q d (I.ok.Mp p g) λz=>I.ok.Gv p z g;rw[eR] at this;cases this
 have Q:∀q∈X.pn++pins,q.1≠p:=λq d=>(t q.1 (I.pin q d).2.1).1;have h0:∀q,X.s₀.heap.get? p=Y q->X.H₀ p=Z->p∈X.ex:=λq d T=>by
  by_cases r:p∈X.ex
  ·exact r
  ·have:=I.base.free p q d T r;rw[eR] at this;cases this
 refine⟨k,?_,?_⟩
 ·refine⟨I.ok,I.os,I.bare,⟨I.base.keep,I.base.slot,λb q e n r=>(t b (I.base.free b q e n r)).2,I.base.there,λb i e=>F b _ (I.base.uY b i e) (l i),λb q u e=>F b _ (I.base.sI b q u e) (B q u),λb w e=>?_⟩,I.loc,I.cell,(t _ I.free).2,λx c e=>(t c (I.mR x c e)).2,λq d=>?_,λa u e=>?_,I.len⟩
  ·obtain⟨m,V⟩:=I.base.wH b w e;exact⟨m,F b _ V (y _)⟩
  ·rcases aR.mp d with h|h
   ·obtain⟨M,L,K⟩:=I.pin q (aF _ h);exact⟨M,(t _ L).2,K⟩
   ·rcases aR.mp h with h|h
    ·obtain⟨M,L,K⟩:=I.pin q (ak _ h);exact⟨M,(t _ L).2,K⟩
    ·have:q=(p,k):=by simpa using h
     subst this;exact⟨D,W,hL,U,f⟩
  ·have O:=nt a u e;exact(I.ir a u (by rw[eI O];exact e)).tF (λ_ _ _ q=>q) (λb q=>F b _ q (A a)) λb i q=>F b _ q (l i)
 ·intro G N σ' J;have S:=J.pin (p,k) (ak _ (ak _ (by simp)));have E:G p=Z:=S.2.1;have C:∀b u,G b=Y u->upd G p o b=Y u:=λb u e=>by rw[eI (gp e E)];exact e
  refine⟨E,⟨J.ok,J.os,J.bare,⟨J.base.keep,J.base.slot,λb q e n r=>?_,J.base.there,λb i e=>C b _ (J.base.uY b i e),λb q u e=>C b _ (J.base.sI b q u e),λb w e=>?_⟩,J.loc,J.cell,?_,λx c e=>?_,λq d=>?_,λa u e=>?_,J.len⟩⟩
  ·have g:b≠p:=λz=>by subst z;exact r (h0 q e n)
   rw[eI g];exact J.base.free b q e n r
  ·obtain⟨m,V⟩:=J.base.wH b w e;exact⟨m,C b _ V⟩
  ·rw[eI (Ne.symm hL)];exact J.free
  ·have hc:c≠p:=λz=>by
    obtain⟨v,q,d,hd⟩:=J.cell x c e;rw[z] at d;have R:N.heap.get? p=Y k:=S.1;rw[R] at d;cases d;exact f v hd
   rw[eI hc];exact J.mR x c e
  ·have P:q∈X.pn++(pins++[(p,k)]):=by
    rcases aR.mp d with h|h
    ·exact aF _ h
    ·exact ak _ (aF _ h)
   obtain⟨M,L,K⟩:=J.pin q P;exact⟨M,by rw[eI (Q q d)];exact L,K⟩
  ·by_cases O:a=p
   ·subst O;rw[eR] at e;cases e;exact Nh j (I.ir a o eR) D S.1
   ·rw[eI O] at e;exact(J.ir a u e).tF (λ_ _ _ q=>q) (λb q=>C b _ q) λb i q=>C b _ q
def Xl{C d:Addr}{y:List (Str×V)}(I:eT X pins σ (upd (upd H d (.own p)) p (.ins C d y)) s)(hn:H p=Z)(R:H d=Z)(hne:d≠p):∃ob t,eT X (pins++[(p,ob),(d,t)]) σ H s /\
  ∀(G:Hp) (M:Shared) (σ':St),eT X (pins++[(p,ob),(d,t)]) σ' G M->G p=Z/\G d=Z/\eT X pins σ' (upd (upd G d (.own p)) p (.ins C d y)) M:=by
 obtain⟨z1,z2,z3,hob,mA,ns,rl,wi⟩:=(show iR X.prog X.w (upd (upd H d (.own p)) p (.ins C d y)) s.heap p (.ins C d y) from I.ir p _ eR)
 obtain⟨t,es,ep,Q,T,D⟩:=id ns;have r:∀v,(W.instObj C d).data≠.cell v:=λv z=>by cases z
 have j:∀v,t.data≠.cell v:=λv z=>by
  first
  | (rw[T] at z;cases z)
  | (rw[T.2.2] at z;cases z)
  | (rw[D.1] at z;cases z)
 have A:∀(F:Hp),upd (upd F d (.own p)) p (.ins C d y) d=Y (.own p):=λF=>by rw[eI hne,eR]
 have K:∀b,upd (upd H d (.own p)) p (.ins C d y) b=Z->b≠p/\b≠d/\H b=Z:=λb e=>by
  have i:b≠p:=λz=>by rw[z,eR] at e;cases e
  rw[eI i] at e;have g:b≠d:=λz=>by rw[z,eR] at e;cases e
  rw[eI g] at e;exact⟨i,g,e⟩
 have nG:∀(G:Hp),G p=Z->G d=Z->∀b u,G b=Y u->upd (upd G d (.own p)) p (.ins C d y) b=Y u:=λG g1 g2 b u e=>by rw[eI (gp e g1),eI (gp e g2)];exact e
 have bk:∀(G:Hp) b u,upd (upd G d (.own p)) p (.ins C d y) b=Y u->u≠.ins C d y->u≠.own p->G b=Y u:=λG b u e hu hu2=>by
  by_cases i:b=p
  ·rw[i,eR] at e;cases e;exact absurd rfl hu
  ·rw[eI i] at e;by_cases g:b=d
   ·rw[g,eR] at e;cases e;exact absurd rfl hu2
   ·rw[eI g] at e;exact e
 have hL:p≠X.env.locals:=λz=>by have:=I.free;rw[<-z,eR] at this;cases this
 have hL2:d≠X.env.locals:=λz=>by have:=I.free;rw[<-z,A] at this;cases this
 have hfs:p∉X.fs:=λi=>by obtain⟨_,q,f,_⟩:=I.ok.sJ.mem i;have:=I.base.free p q f (I.ok.Mp p i) λz=>I.ok.Gv p z i;rw[eR] at this;cases this
 have S:d∉X.fs:=λi=>by obtain⟨_,q,f,_⟩:=I.ok.sJ.mem i;have:=I.base.free d q f (I.ok.Mp d i) λz=>I.ok.Gv d z i;rw[A] at this;cases this
 have O:∀q∈X.pn++pins,q.1≠p/\q.1≠d:=λq f=>let z:=K q.1 (I.pin q f).2.1;⟨z.1,z.2.1⟩;have h0:∀q,X.s₀.heap.get? p=Y q->X.H₀ p=Z->p∈X.ex:=λq f E=>by
  by_cases k:p∈X.ex
  ·exact k
  ·have:=I.base.free p q f E k;rw[eR] at this;cases this
 have h02:∀q,X.s₀.heap.get? d=Y q->X.H₀ d=Z->d∈X.ex:=λq f E=>by
  by_cases k:d∈X.ex
  ·exact k
  ·have:=I.base.free d q f E k;rw[A] at this;cases this
 refine⟨W.instObj C d,t,?_,?_⟩
 ·refine⟨I.ok,I.os,I.bare,⟨I.base.keep,I.base.slot,λb q e n k=>(K b (I.base.free b q e n k)).2.2,I.base.there,λb L e=>bk H b _ (I.base.uY b L e) (λz=>nomatch z) (λz=>nomatch z),λb q u e=>bk H b _ (I.base.sI b q u e) (λz=>nomatch z) (λz=>nomatch z),λb ps e=>?_⟩,I.loc,I.cell,(K _ I.free).2.2,λx c e=>(K c (I.mR x c e)).2.2,λq f=>?_,λa u e=>?_,I.len⟩
  ·obtain⟨m,e1⟩:=I.base.wH b ps e;exact⟨m,bk H b _ e1 (λz=>nomatch z) (λz=>nomatch z)⟩
  ·rcases aR.mp f with h|h
   ·obtain⟨a1,a2,a3⟩:=I.pin q (aF _ h);exact⟨a1,(K _ a2).2.2,a3⟩
   ·rcases aR.mp h with h|h
    ·obtain⟨a1,a2,a3⟩:=I.pin q (ak _ h);exact⟨a1,(K _ a2).2.2,a3⟩
    ·rcases ao.mp h with h|h
     ·subst h;exact⟨hob,hn,hL,hfs,r⟩
     ·have:q=(d,t):=by simpa using h
      subst this;exact⟨Q,R,hL2,S,j⟩
  ·have ha:a≠p:=gp e hn;refine(I.ir a u (nG H hn R a u e)).tF (λ_ _ _ q=>q) (λb q=>bk H b _ q (λz=>nomatch z) (λz=>ha (by cases z;rfl))) λb L q=>bk H b _ q (λz=>nomatch z) (λz=>nomatch z)
 ·intro G M σ' J;have hp:=J.pin (p,W.instObj C d) (ak _ (ak _ (by simp)));have P:=J.pin (d,t) (ak _ (ak _ (by simp)));have hGn:G p=Z:=hp.2.1;have hGd:G d=Z:=P.2.1;have l:M.heap.get? d=Y t:=P.1;have B:M.heap.get? p=Y (W.instObj C d):=hp.1;have N:=nG G hGn hGd;refine⟨hGn,hGd,⟨J.ok,J.os,J.bare,⟨J.base.keep,J.base.slot,λb q e n k=>?_,J.base.there,λb L e=>N b _ (J.base.uY b L e),λb q u e=>N b _ (J.base.sI b q u e),λb ps e=>?_⟩,J.loc,J.cell,?_,λx c e=>?_,λq f=>?_,λa u e=>?_,J.len⟩⟩
  ·have i:b≠p:=λz=>by subst z;exact k (h0 q e n)
   have g:b≠d:=λz=>by subst z;exact k (h02 q e n)
   rw[eI i,eI g];exact J.base.free b q e n k
  ·obtain⟨m,e1⟩:=J.base.wH b ps e;exact⟨m,N b _ e1⟩
  ·rw[eI (Ne.symm hL),eI (Ne.symm hL2)];exact J.free
  ·have hc:c≠p:=λz=>by
    obtain⟨v,q,f,hd⟩:=J.cell x c e;rw[z,B] at f;cases f;exact r v hd
   have hc2:c≠d:=λz=>by obtain⟨v,q,f,hd⟩:=J.cell x c e;rw[z,l] at f;cases f;exact j v hd
   rw[eI hc,eI hc2];exact J.mR x c e
  ·have hq':q∈X.pn++(pins++[(p,W.instObj C d),(d,t)]):=by
    rcases aR.mp f with h|h
    ·exact aF _ h
    ·exact ak _ (aF _ h)
   obtain⟨a1,a2,a3⟩:=J.pin q hq';exact⟨a1,by rw[eI (O q f).1,eI (O q f).2];exact a2,a3⟩
  ·by_cases ha:a=p
   ·subst ha;rw[eR] at e;cases e;exact⟨A G,z2,z3,B,mA,ns.at λo q=>by rw[Q] at q;cases q;exact l,rl,wi⟩
   ·rw[eI ha] at e;by_cases U:a=d
    ·subst U;rw[eR] at e;cases e;exact⟨t,l⟩
    ·rw[eI U] at e;exact(J.ir a u e).tF (λ_ _ _ q=>q) (λb q=>N b _ q) λb L q=>N b _ q
def Ey(ok:pV B):∀{a:Ax}{G:Hp}{σ:St}{s:Shared},eT X a σ (eU G B) s->j4 G B->∃t,eT X (a++t) σ G s/\(∀q∈t,∃x∈B,q.1=x.1)/\(∀x∈B,∃q∈t,q.1=x.1) /\
  ∀(d:Hp) (m:Shared) (σ':St),eT X (a++t) σ' d m->j4 d B/\eT X a σ' (eU d B) m:=by
 induction ok with
 |nil=>exact λI f=>⟨[],by rw[aM];exact I,(λq n=>by cases n),(λx b=>by cases b),λd m σ' J=>⟨j4.nil,by rw[aM] at J;exact J⟩⟩
 |@one p o r hf u N=>
  intro a G σ s I f;have w:=bc.mp (show (p::r.map (·.1)).Nodup from f.nd);have R:j4 G r:=⟨w.2,λy O=>f.free y (ah _ O),u⟩
  have g:∀x∈r,x.1≠p:=λx b e=>w.1 (aP.mpr ⟨x,b,e⟩);have v:eU G r p=Z:=by rw[fX g];exact f.free (p,o) (by simp)
  obtain⟨A,W,l⟩:=SX (H:=eU G r) I v hf;obtain⟨t,V,M,L,c⟩:=N W R;refine⟨(p,A)::t,by simpa using V,λq n=>?_,λx b=>?_,λd m σ' J=>?_⟩
  ·rcases ao.mp n with e|h
   ·exact⟨(p,o),by simp,by rw[e]⟩
   ·obtain⟨x,b,e⟩:=M q h;exact⟨x,ah _ b,e⟩
  ·rcases ao.mp b with e|h
   ·exact⟨(p,A),by simp,by rw[e]⟩
   ·obtain⟨q,n,e⟩:=L x h;exact⟨q,ah _ n,e⟩
  ·obtain⟨S,U⟩:=c d m σ' (by simpa using J);obtain⟨i,T⟩:=l (eU d r) m σ' U;have j:d p=Z:=by rw[fX g] at i;exact i
   refine⟨⟨f.nd,λx b=>?_,f.ok⟩,T⟩;rcases ao.mp b with e|h
   ·rw[e];exact j
   ·exact S.free x h
 |@ins p C k fs r u N=>
  intro a G σ s I f;have w:=bc.mp (show (p::k::r.map (·.1)).Nodup from f.nd);have D:=bc.mp w.2;have R:j4 G r:=⟨D.2,λy O=>f.free y (ah _ (ah _ O)),u⟩
  have P:k≠p:=λz=>w.1 (by rw[<-z];simp);have g:∀x∈r,x.1≠p:=λx b e=>w.1 (ah _ (aP.mpr ⟨x,b,e⟩));have E:∀x∈r,x.1≠k:=λx b e=>D.1 (aP.mpr ⟨x,b,e⟩);have v:eU G r p=Z:=by rw[fX g];exact f.free (p,.ins C k fs) (by simp)
  have Q:eU G r k=Z:=by rw[fX E];exact f.free (k,.own p) (by simp)
  obtain⟨A,od,W,l⟩:=Xl (H:=eU G r) I v Q P;obtain⟨t,V,M,L,c⟩:=N W R;refine⟨(p,A)::(k,od)::t,by simpa using V,λq n=>?_,λx b=>?_,λd m σ' J=>?_⟩
  ·rcases ao.mp n with e|h
   ·exact⟨(p,.ins C k fs),by simp,by rw[e]⟩
   ·rcases ao.mp h with e|h
    ·exact⟨(k,.own p),by simp,by rw[e]⟩
    ·obtain⟨x,b,e⟩:=M q h;exact⟨x,ah _ (ah _ b),e⟩
  ·rcases ao.mp b with e|h
   ·exact⟨(p,A),by simp,by rw[e]⟩
   ·rcases ao.mp h with e|h
    ·exact⟨(k,od),by simp,by rw[e]⟩
    ·obtain⟨q,n,e⟩:=L x h;exact⟨q,ah _ (ah _ n),e⟩
  ·obtain⟨S,U⟩:=c d m σ' (by simpa using J);obtain⟨i,F,T⟩:=l (eU d r) m σ' U;have j:d p=Z:=by rw[fX g] at i;exact i
   have K:d k=Z:=by rw[fX E] at F;exact F
   refine⟨⟨f.nd,λx b=>?_,f.ok⟩,T⟩;rcases ao.mp b with e|h
   ·rw[e];exact j
   ·rcases ao.mp h with e|h
    ·rw[e];exact K
    ·exact S.free x h
def PE.frame{t:TE}(h:PE X e t):PE X e (λσ H Q=>∃G B,H=eU G B/\j4 G B/\t σ G λv b=>j4 b B->Q v (eU b B)):=by intro c s σ H Q I ⟨G,B,j,f,g⟩;subst j;obtain⟨m,l,_,_,a⟩:=Ey f.ok I f;refine gS (@h _ s σ G _ l g) ?_;rintro v d ⟨x,b,J,r,q⟩;obtain⟨i,k⟩:=a b d σ J;exact⟨x,eU b B,k,r,q i⟩
def PI.frame{a:Expr}{t:TI}(h:PI X tg a t):PI X tg a (λσ H R=>∃G B,H=eU G B/\j4 G B/\t σ G λJ d=>j4 d B->R J (eU d B)):=by
 intro i s σ H R I ⟨G,B,Q,f,y⟩;subst Q;obtain⟨PB,W,m1,o,c⟩:=Ey f.ok I f;refine gS (@h _ s σ G _ W y) λv s1 E=>gS E ?_;rintro r m ⟨u,F,k,J,d,e,V,T,l,C,q⟩;obtain⟨P,U⟩:=c d m σ V;refine⟨u,F,k,J,eU d B,e,U,T,l,λb D=>?_,q P⟩;obtain⟨O,N,M,L,K,j⟩:=C b D;refine⟨?_,N,M,L,K,λp A=>j p ?_⟩
 ·rw[fX λx w z=>?_]
  ·exact O
  ·obtain⟨n,g,S⟩:=o x w;exact j n (ak _ (ak _ g)) (S.trans z)
 ·rcases aR.mp A with h|h
  ·exact aF _ h
  ·exact ak _ (aF _ h)
def PA.frame{t:TA}(h:PA X es t):PA X es (λσ H Q=>∃G B,H=eU G B/\j4 G B/\t σ G λg b=>j4 b B->Q g (eU b B)):=by intro c d s σ H Q I ⟨G,B,l,f,j⟩;subst l;obtain⟨p,n,_,_,a⟩:=Ey f.ok I f;refine gS (@h c _ s σ G _ n j) ?_;rintro o i ⟨e,b,J,r,q⟩;obtain⟨k,m⟩:=a b i σ J;exact⟨e,eU b B,m,r,q k⟩
end
noncomputable def pB(f:Str):List (eD×eD)->Od
 |[]=>Z
 | (.str g,d)::r=>if g=f then Y d else pB f r
 |_::r=>pB f r
noncomputable def pW(f:Str)(y:eD):List (eD×eD)->List (eD×eD)
 |[]=>[(.str f,y)]
 | (.str g,d)::r=>if g=f then (.str g,y)::r else (.str g,d)::pW f y r
 |x::r=>x::pW f y r
section
theorem kj.get{f:Str}{d:eD}:∀{r:List (eD×eD)}{c:List (Str×V)},kj K H r c->pB f r=Y d->∃v,c.lookup f=Y v/\eL K H d v
 |[],_,_,e=>by cases e
 | (k,x)::r,_,h,e=>by
  obtain⟨y,v,g,rfl,rfl,i,t⟩:=kj.eF.mp h;by_cases q:y=f
  ·simp only[pB,ag q] at e;cases e;exact⟨v,by rw[aW,cg.mpr q.symm],i⟩
  ·simp only[pB,aj q] at e;obtain⟨u,a,b⟩:=kj.get t e;exact⟨u,by rw[aW,aQ.mpr (λz=>q z.symm)];exact a,b⟩
theorem kj.none{f:Str}:∀{r:List (eD×eD)}{a:List (Str×V)},kj K H r a->pB f r=.none->a.lookup f=.none
 |[],_,h,e=>by rw[kj.eP.mp h];rfl
 | (k,x)::r,_,h,e=>by
  obtain⟨y,v,b,rfl,rfl,i,t⟩:=kj.eF.mp h;by_cases q:y=f
  ·simp only[pB,ag q] at e;cases e
  ·simp only[pB,aj q] at e;rw[aW,aQ.mpr (λz=>q z.symm)];exact kj.none t e
noncomputable def lU(c f:Str):Bool:=(c=="Reading"&&(f=="fields"||f=="heads"||f=="blocks"||f=="later"))||(c=="Outline"&&(f=="params"||f=="kept"||f=="own_rows"||f=="fields"))
def pX(c f:Str):Bool:=c=="Outline"&&f=="own_rows"
def qs(K:Fg)(G:Hp)(d:eD)(q:Addr)(o:HO):Prop :=
 (∃e b,d=.list e/\o=.lst b/\ez K G e b)\/∃a c,d=.dict a/\o=.dK c/\fZ K G a c
def isL:eD->Bool
 |.list _=>true
 |_=>false
def QD(K:Fg)(G:Hp)(d:eD)(v:V)(B:List (Addr×HO)):Prop:=(isL d=false/\eL K G d v/\B=[])\/∃b p a,d=.list b/\v=.ref p/\B=[(p,.lst a)]/\ez K G b a
def PL(K:Fg)(G:Hp):Lp->List V->List (Addr×HO)->Prop
 |[],vs,B=>vs=[]/\B=[]
 |d::ds,vs,B=>∃v a c b,vs=v::a/\B=c++b/\QD K G d v c/\PL K G ds a b
def PN(K:Fg)(G:Hp):List (eD×eD)->List (Key×V)->List (Addr×HO)->Prop
 |[],kv,B=>kv=[]/\B=[]
 | (k,d)::r,kv,B=>∃y v a c b,kv=(y,v)::a/\k=kH y/\B=c++b/\QD K G d v c/\PN K G r a b
def aam(K:Fg)(G:Hp)(d:eD)(o:HO)(B:List (Addr×HO)):Prop :=
 (∃e b,d=.list e/\o=.lst b/\PL K G e b B)\/∃a c,d=.dict a/\o=.dK c/\PN K G a c B
def o8(a:Bool)(K:Fg)(G:Hp)(d:eD)(q:Addr)(o:HO)(B:List (Addr×HO)):Prop:=match a with
 |false=>qs K G d q o/\B=[]
 |true=>aam K G d o B
def jt(K:Fg)(G:Hp)(c:Str):List (eD×eD)->List (Str×V)->List (Addr×HO)->Prop
 |[],fs,B=>fs=[]/\B=[]
 | (k,d)::r,fs,B=>∃y v a,fs=(y,v)::a/\k=.str y/\((lU c y=false/\eL K G d v/\jt K G c r a B)\/(lU c y=true/\∃q o b e,v=.ref q/\B=(q,o)::(b++e)/\o8 (pX c y) K G d q o b/\jt K G c r a e))
def jB(g:Bool)(K:Fg)(G:Hp)(d:eD)(v:V)(B:List (Addr×HO)):Prop :=
 (∃q o e,v=.ref q/\B=(q,o)::e/\o8 g K G d q o e) \/
 ∃c C p b a r f,d=.dict ((.none,.str c)::r)/\v=.ref p/\B=(p,.ins C b a)::(b,.own p)::f/\jM K c C/\jt K G c r a f
theorem QD.sim{f:Hp}{d:eD}{v:V}{B:List (Addr×HO)}(e:Al K G f)(h:QD K G d v B):QD K f d v B:=by
 rcases h with ⟨a,b,c⟩ | ⟨i,p,g,a,b,c,t⟩
 ·exact .inl ⟨a,b.sim e,c⟩
 ·exact .inr ⟨i,p,g,a,b,c,t.sim e⟩
def QD.mG(h:QD K G d v B):pV B:=by
 rcases h with ⟨a,b,c⟩ | ⟨f,p,e,a,b,c,t⟩
 ·rw[c];exact .nil
 ·rw[c];exact .one aI .nil
def QD.Mf(h:QD K G d v B)(e:eN G H)(f:∀x∈B,H x.1=Y x.2):eL K H d v:=by
 rcases h with ⟨a,b,c⟩ | ⟨g,p,vs,rfl,rfl,rfl,t⟩
 ·exact b.same e
 ·exact eL.fh.mpr ⟨p,vs,rfl,kQ.of (f (p,.lst vs) (by simp)),t.same e⟩
theorem PL.sim{g:Hp}(e:Al K G g):∀{f:Lp}{d:List V}{B:List (Addr×HO)},PL K G f d B->PL K g f d B
 |[],_,_,h=>h
 |_::_,_,_,⟨v,SY,B1,B2,a,b,c,t⟩=>⟨v,SY,B1,B2,a,b,c.sim e,PL.sim e t⟩
theorem PL.mG:∀{e:Lp}{d:List V}{B:List (Addr×HO)},PL K G e d B->pV B
 |[],_,_,h=>by rw[h.2];exact .nil
 |_::_,_,_,⟨v,SY,B1,B2,a,b,c,t⟩=>by rw[b];exact c.mG.append t.mG
theorem PL.Xm(e:eN G H):∀{g:Lp}{f:List V}{B:List (Addr×HO)},PL K G g f B->(∀x∈B,H x.1=Y x.2)->ez K H g f
 |[],_,_,h,_=>by rw[h.1];exact ez.nil
 |_::_,_,_,⟨v,SY,B1,B2,a,b,c,t⟩,hB=>by subst a b;exact ez.cons (c.Mf e λx d=>hB x (aF _ d)) (t.Xm e λx d=>hB x (ak _ d))
theorem PN.sim{g:Hp}(e:Al K G g):∀{f:List (eD×eD)}{d:List (Key×V)}{B:List (Addr×HO)},PN K G f d B->PN K g f d B
 |[],_,_,h=>h
 | (_,_)::_,_,_,⟨y,v,SY,B1,B2,a,a2,b,c,t⟩=>⟨y,v,SY,B1,B2,a,a2,b,c.sim e,PN.sim e t⟩
theorem PN.mG:∀{e:List (eD×eD)}{d:List (Key×V)}{B:List (Addr×HO)},PN K G e d B->pV B
 |[],_,_,h=>by rw[h.2];exact .nil
 | (_,_)::_,_,_,⟨y,v,SY,B1,B2,a,a2,b,c,t⟩=>by rw[b];exact c.mG.append t.mG
theorem PN.Xn(e:eN G H):∀{g:List (eD×eD)}{f:List (Key×V)}{B:List (Addr×HO)},PN K G g f B->(∀x∈B,H x.1=Y x.2)->fZ K H g f
 |[],_,_,h,_=>by rw[h.1];exact fZ.eP.mpr rfl
 | (_,_)::_,_,_,⟨y,v,SY,B1,B2,a,a2,b,c,t⟩,hB=>by subst a a2 b;exact fZ.eF.mpr ⟨y,v,SY,rfl,rfl,c.Mf e λx d=>hB x (aF _ d),t.Xn e λx d=>hB x (ak _ d)⟩
theorem qs.sim{g:Hp}{d:eD}{q:Addr}{o:HO}(h:qs K G d q o)(e:Al K G g):qs K g d q o:=by
 rcases h with ⟨k,i,a,b,c⟩ | ⟨f,j,a,b,c⟩
 ·exact .inl ⟨k,i,a,b,c.sim e⟩
 ·exact .inr ⟨f,j,a,b,c.sim e⟩
def qs.frm{q:Addr}{o:HO}(h:qs K G d q o):Ng o:=by rcases h with ⟨i,f,a,b,c⟩ | ⟨e,g,a,b,c⟩<;>subst b<;>exact aI
def qs.Mf{o:HO}{p:Addr}(h:qs K G d p o)(e:eN G H)(a:H p=Y o):eL K H d (.ref p):=by
 rcases h with ⟨ds,vs,rfl,rfl,c⟩ | ⟨b,f,rfl,rfl,c⟩
 ·exact eL.fh.mpr ⟨p,vs,rfl,kQ.of a,c.same e⟩
 ·exact eL.kI.mpr ⟨p,rfl,.inl ⟨f,.inl a,c.same e⟩⟩
theorem o8.sim{g:Bool}{i:Hp}{d:eD}{q:Addr}{o:HO}{B:List (Addr×HO)}(e:Al K G i)(h:o8 g K G d q o B):o8 g K i d q o B:=by
 cases g with
 |false=>exact⟨h.1.sim e,h.2⟩
 |true=>
  rcases h with ⟨l,j,a,b,c⟩ | ⟨f,k,a,b,c⟩
  ·exact .inl ⟨l,j,a,b,c.sim e⟩
  ·exact .inr ⟨f,k,a,b,c.sim e⟩
def o8.same{a:Hp}{q:Addr}{o:HO}(e:eN G a)(h:o8 dp K G d q o B):o8 dp K a d q o B:=o8.sim e.sim h
theorem o8.mG{e:Bool}{d:eD}{q:Addr}{o:HO}{B:List (Addr×HO)}(h:o8 e K G d q o B):pV ((q,o)::B):=by
 cases e with
 |false=>rw[h.2];exact .one h.1.frm .nil
 |true=>
  rcases h with ⟨j,g,a,b,c⟩ | ⟨f,i,a,b,c⟩
  ·subst b;exact .one aI c.mG
  ·subst b;exact .one aI c.mG
theorem o8.Mf{f:Bool}{d:eD}{o:HO}{p:Addr}{B:List (Addr×HO)}(h:o8 f K G d p o B)(e:eN G H)(a:H p=Y o)(b:∀x∈B,H x.1=Y x.2):eL K H d (.ref p):=by
 cases f with
 |false=>exact h.1.Mf e a
 |true=>
  rcases h with ⟨ds,vs,rfl,rfl,c⟩ | ⟨g,i,rfl,rfl,c⟩
  ·exact eL.fh.mpr ⟨p,vs,rfl,kQ.of a,c.Xm e b⟩
  ·exact eL.kI.mpr ⟨p,rfl,.inl ⟨i,.inl a,c.Xn e b⟩⟩
theorem jt.sim{c:Str}{m:Hp}(e:Al K G m):∀{r:List (eD×eD)}{i:List (Str×V)}{B:List (Addr×HO)},jt K G c r i B->jt K m c r i B
 |[],_,_,h=>h
 | (k,d)::r,_,_,h=>by
  obtain⟨y,v,a,l,j,⟨g,f,b⟩ | ⟨g,q,o,s,B',f,b,p,n⟩⟩:=h
  ·exact⟨y,v,a,l,j,.inl ⟨g,f.sim e,jt.sim e b⟩⟩
  ·exact⟨y,v,a,l,j,.inr ⟨g,q,o,s,B',f,b,p.sim e,jt.sim e n⟩⟩
def jt.same{c:Str}{b:Hp}(e:eN G b):∀{r:List (eD×eD)}{a:List (Str×V)}{B:List (Addr×HO)},jt K G c r a B->jt K b c r a B:=λh=>jt.sim e.sim h
theorem jt.mG{c:Str}:∀{r:List (eD×eD)}{e:List (Str×V)}{B:List (Addr×HO)},jt K G c r e B->pV B
 |[],_,_,h=>by rw[h.2];exact .nil
 | (k,d)::r,_,_,h=>by
  obtain⟨y,v,b,m,l,⟨j,i,a⟩ | ⟨j,q,o,n,p,i,a,g,f⟩⟩:=h
  ·exact jt.mG a
  ·rw[a];exact pV.append g.mG (jt.mG f)
theorem jt.UH{c:Str}(e:eN G H):∀{r:List (eD×eD)}{i:List (Str×V)}{B:List (Addr×HO)},jt K G c r i B->(∀x∈B,H x.1=Y x.2)->kj K H r i
 |[],_,_,h,_=>by rw[h.1];exact kj.eP.mpr rfl
 | (k,d)::r,_,_,h,hB=>by
  obtain⟨y,v,a,l,j,⟨p,g,f⟩ | ⟨p,q,o,s,t,g,f,n,m⟩⟩:=h
  ·exact kj.eF.mpr ⟨y,v,a,l,j,g.same e,jt.UH e f hB⟩
  ·subst f g;exact kj.eF.mpr ⟨y,_,a,l,j,n.Mf e (hB (q,o) (by simp)) (λx b=>hB x (by simp[b])),jt.UH e m λx b=>hB x (by simp[b])⟩
theorem jB.sim{f:Bool}{g:Hp}{d:eD}{v:V}{B:List (Addr×HO)}(h:jB f K G d v B)(e:Al K G g):jB f K g d v B:=by
 rcases h with ⟨q,o,t,a,b,c⟩ | ⟨c,C,p,j,i,r,B',s,n,m,l,k⟩
 ·exact .inl ⟨q,o,t,a,b,c.sim e⟩
 ·exact .inr ⟨c,C,p,j,i,r,B',s,n,m,l,k.sim e⟩
def jB.same{a:Hp}(h:jB dp K G d v B)(e:eN G a):jB dp K a d v B:=jB.sim h e.sim
theorem jB.mG{e:Bool}{d:eD}{v:V}{B:List (Addr×HO)}(h:jB e K G d v B):pV B:=by
 rcases h with ⟨q,o,n,a,b,c⟩ | ⟨c,C,p,j,i,r,s,m,l,g,k,f⟩
 ·rw[b];exact c.mG
 ·rw[g];exact .ins f.mG
theorem jB.Mf{i:Bool}{d:eD}{v:V}{B:List (Addr×HO)}(h:jB i K G d v B)(e:eN G H)(a:∀x∈B,H x.1=Y x.2):eL K H d v:=by
 rcases h with ⟨q,o,l,rfl,rfl,c⟩ | ⟨c,C,p,g,f,r,m,rfl,rfl,rfl,k,j⟩
 ·exact c.Mf e (a (q,o) (by simp)) λx b=>a x (by simp[b])
 ·exact eL.kI.mpr ⟨p,rfl,.inr ⟨c,C,g,f,k,a (p,.ins C g f) (by simp),px.eF.mpr ⟨rfl,rfl,j.UH e λx b=>a x (by simp[b])⟩⟩⟩
theorem jt.split{c y:Str}{d:eD}(F:lU c y=true):∀{r:List (eD×eD)}{H:List (Str×V)}{B:List (Addr×HO)},jt K G c r H B->pB y r=Y d ->
  ∃q o l j i,H.lookup y=Y (.ref q)/\B=j++((q,o)::(l++i))/\pV j/\pV i/\o8 (pX c y) K G d q o l/\∀g s b a,eN G g->o8 (pX c y) K g s q b a->jt K g c (pW y s r) H (j++((q,b)::(a++i)))
 |[],_,_,_,e=>by cases e
 | (k,x)::r,_,B,h,e=>by
  obtain⟨z,v,n,S,R,h⟩:=h;subst S R;by_cases q:z=y
  ·subst q;simp only[pB,b8] at e;cases e;rcases h with ⟨f,_⟩ | ⟨f,q,o,l,N,w,u,C,A⟩
   ·rw[F] at f;cases f
   ·subst w u;refine⟨q,o,l,[],N,by rw[aW,cg.mpr rfl],rfl,.nil,A.mG,C,λg s b a m t=>?_⟩;simp only[pW,b8];exact⟨z,_,n,rfl,rfl,.inr ⟨f,q,b,a,N,rfl,rfl,t,A.same m⟩⟩
  ·simp only[pB,aj q] at e;rcases h with ⟨f,w,u⟩ | ⟨f,O,o,P,N,w,u,C,A⟩
   ·obtain⟨p,o,l,j,i,M,L,E,D,J,I⟩:=jt.split F u e;refine⟨p,o,l,j,i,by rw[aW,aQ.mpr (λz=>q z.symm)];exact M,L,E,D,J,λg s b a m t=>?_⟩;simp only[pW,aj q];exact⟨z,v,n,rfl,rfl,.inl ⟨f,w.same m,I g s b a m t⟩⟩
   ·subst w u;obtain⟨p,Q,l,j,i,M,L,E,D,J,I⟩:=jt.split F A e;refine⟨p,Q,l,(O,o)::(P++j),i,by rw[aW,aQ.mpr (λz=>q z.symm)];exact M,by rw[L];simp,pV.append C.mG E,D,J,λg s b a m t=>?_⟩;simp only[pW,aj q];exact⟨z,_,n,rfl,rfl,.inr ⟨f,O,o,P,j++((p,b)::(a++i)),rfl,by simp,C.same m,I g s b a m t⟩⟩
theorem jt.put{c y:Str}{d:eD}{v:V}(b:lU c y=false)(i:eL K G d v):∀{r:List (eD×eD)}{j:List (Str×V)}{B:List (Addr×HO)},jt K G c r j B->jt K G c (pW y d r) (lT y v j) B
 |[],_,_,h=>by obtain⟨rfl,rfl⟩:=h;exact⟨y,v,[],rfl,rfl,.inl ⟨b,i,rfl,rfl⟩⟩
 | (k,x)::r,_,_,h=>by
  obtain⟨z,u,g,s,p,h⟩:=h;subst s p;by_cases q:z=y
  ·subst q;simp only[pW,lT,b8];rcases h with ⟨a,f,e⟩ | ⟨a,_⟩
   ·exact⟨z,v,g,rfl,rfl,.inl ⟨b,i,e⟩⟩
   ·rw[b] at a;cases a
  ·simp only[pW,lT,aj q];rcases h with ⟨a,f,e⟩ | ⟨a,l,o,t,w,f,e,n,m⟩
   ·exact⟨z,u,_,rfl,rfl,.inl ⟨a,f,jt.put b i e⟩⟩
   ·exact⟨z,u,_,rfl,rfl,.inr ⟨a,l,o,t,w,f,e,n,jt.put b i m⟩⟩
theorem jt.add{c y:Str}{d:eD}{q:Addr}{o:HO}{a:List (Addr×HO)}(b:lU c y=true)(i:o8 (pX c y) K G d q o a):∀{r:List (eD×eD)}{m:List (Str×V)}{B:List (Addr×HO)},jt K G c r m B->pB y r=Z ->
  jt K G c (pW y d r) (lT y (.ref q) m) (B++(q,o)::a)
 |[],_,_,h,_=>by obtain⟨rfl,rfl⟩:=h;exact⟨y,_,[],rfl,rfl,.inr ⟨b,q,o,a,[],rfl,by simp,i,rfl,rfl⟩⟩
 | (k,x)::r,_,_,h,e=>by
  obtain⟨z,u,s,A,w,h⟩:=h;subst A w;by_cases f:z=y
  ·simp only[pB,ag f] at e;cases e
  ·simp only[pB,aj f] at e;simp only[pW,lT,aj f];rcases h with ⟨l,j,g⟩ | ⟨l,n,p,C,D,j,g,v,t⟩
   ·exact⟨z,u,_,rfl,rfl,.inl ⟨l,j,jt.add b i g e⟩⟩
   ·subst g;exact⟨z,u,_,rfl,rfl,.inr ⟨l,n,p,C,D++(q,o)::a,j,by simp,v,jt.add b i t e⟩⟩
theorem jt.len{c:Str}:∀{r:List (eD×eD)}{a:List (Str×V)}{B:List (Addr×HO)},jt K G c r a B->a.length=r.length
 |[],_,_,h=>by rw[h.1];rfl
 | (k,d)::r,_,_,h=>by
  obtain⟨y,v,f,e,m,⟨j,i,b⟩ | ⟨j,q,o,n,B',i,b,l,g⟩⟩:=h
  ·rw[e,ax,ax,jt.len b]
  ·rw[e,ax,ax,jt.len g]
end
def kL(O:List Nat):Bool:=O.contains 99
def ik(a:Bool)(K:Fg)(σ:St)(ρ:c7)(G:Hp):List Nat->List (Addr×HO)->Prop
 |[],B=>B=[]
 |i::O,B=>((ρ[i]?).join=Z/\ik a K σ ρ G O B)\/∃d v c b,ρ[i]?=Y (Y d)/\σ[i]?=Y (Y v)/\B=c++b/\jB a K G d v c/\ik a K σ ρ G O b
structure ig (O:List Nat) (K:Fg) (σ:St) (ρ:c7) (H G:Hp):Prop where
 len:σ.length=ρ.length
 ex:∃B,H=eU G B/\j4 G B/\ik (kL O) K σ ρ G O B
 k9:∀(i:Nat) (d:eD),ρ[i]?=Y (Y d)->i∉O->∃v,σ[i]?=Y (Y v)/\eL K G d v
def join_some{l:List (Option α)}{d:α}(h:(l[i]?).join=Y d):l[i]?=Y (Y d):=by
 cases q:l[i]? with
 |none=>rw[q] at h;cases h
 |some o=>rw[q] at h;cases o with
  |none=>cases h
  |some a=>cases h;rfl
section
theorem ik.sim{f:Hp}(e:Al K G f):∀{O:List Nat}{B:List (Addr×HO)},ik dp K σ ρ G O B->ik dp K σ ρ f O B
 |[],_,h=>h
 |_::_,_,h=>by
  rcases h with ⟨a,b⟩ | ⟨d,v,i,g,a,b,c,q,t⟩
  ·exact .inl ⟨a,ik.sim e b⟩
  ·exact .inr ⟨d,v,i,g,a,b,c,q.sim e,ik.sim e t⟩
def ik.same{a:Hp}(e:eN G a):∀{O:List Nat}{B:List (Addr×HO)},ik dp K σ ρ G O B->ik dp K σ ρ a O B:=λh=>ik.sim e.sim h
theorem ik.mG:∀{O:List Nat}{B:List (Addr×HO)},ik dp K σ ρ G O B->pV B
 |[],_,h=>by rw[show _=[] from h];exact .nil
 |_::_,_,h=>by
  rcases h with ⟨a,b⟩ | ⟨d,v,e,c,a,b,rfl,q,t⟩
  ·exact ik.mG b
  ·exact q.mG.append (ik.mG t)
theorem ik.other{σ':St}{ρ':c7}:∀{O:List Nat}{B:List (Addr×HO)},ik dp K σ ρ G O B->(∀i∈O,ρ'[i]?=ρ[i]?/\σ'[i]?=σ[i]?)->ik dp K σ' ρ' G O B
 |[],_,h,_=>h
 |j::O,_,h,k=>by
  obtain⟨e,g⟩:=k j (by simp);have f:∀i∈O,ρ'[i]?=ρ[i]?/\σ'[i]?=σ[i]?:=λi l=>k i (ah _ l);rcases h with ⟨a,b⟩ | ⟨d,v,n,m,a,b,c,q,t⟩
  ·exact .inl ⟨by rw[e];exact a,b.other f⟩
  ·exact .inr ⟨d,v,n,m,by rw[e];exact a,by rw[g];exact b,c,q,t.other f⟩
theorem ik.split{i:Nat}{d:eD}:∀{O:List Nat}{B:List (Addr×HO)},O.Nodup->ik dp K σ ρ G O B->i∈O->ρ[i]?=Y (Y d) ->
  ∃v p l o,σ[i]?=Y (Y v)/\B=p++(l++o)/\jB dp K G d v l/\pV p/\pV o /\
   (∀n g e,eN G n->jB dp K n g v e->ik dp K σ (ρ.set i (Y g)) n O (p++(e++o)))/\ik dp K σ (ρ.set i Z) G O (p++o)
 |[],_,_,_,hi,_=>by cases hi
 |j::O,B,ndO,h,hi,hd=>by
  have f:=bc.mp ndO;have L:i<ρ.length:=(aA.mp hd).1;by_cases r:j=i
  ·subst r;have u:∀x:Od,∀k∈O,(ρ.set j x)[k]?=ρ[k]?/\σ[k]?=σ[k]?:=λx k N=>by
    have:j≠k:=λz=>f.1 (z▸N);exact⟨av this,rfl⟩
   rcases h with ⟨a,b⟩ | ⟨g,v,l,J,a,b,c,q,t⟩
   ·rw[hd] at a;cases a
   ·rw[hd] at a;cases a;refine⟨v,[],l,J,b,c,q,.nil,t.mG,λn g e s w=>.inr ⟨g,v,e,J,aE L,b,rfl,w,(t.same s).other (u _)⟩,.inl ⟨by rw[aE L];rfl,t.other (u _)⟩⟩
  ·have y:=(ao.mp hi).resolve_left (Ne.symm r);have m:∀x:Od,(ρ.set i x)[j]?=ρ[j]?:=λx=>av (Ne.symm r);rcases h with ⟨a,b⟩ | ⟨g,v,l,J,a,b,c,q,t⟩
   ·obtain⟨v,p,l,o,I,H,F,E,D,C,A⟩:=ik.split f.2 b y hd;exact⟨v,p,l,o,I,H,F,E,D,λn g e s w=>.inl ⟨by rw[m];exact a,C n g e s w⟩,.inl ⟨by rw[m];exact a,A⟩⟩
   ·obtain⟨M,p,e,o,I,H,F,E,D,C,A⟩:=ik.split f.2 t y hd;refine⟨M,l++p,e,o,I,by rw[c,H];simp,F,q.mG.append E,D,λn g e s w=>.inr ⟨_,v,l,_,by rw[m];exact a,b,by simp,q.same s,C n g e s w⟩,.inr ⟨_,v,l,_,by rw[m];exact a,b,by simp,q,A⟩⟩
def ig.sub(h:ig O K σ ρ H G):eN G H:=by obtain⟨B,rfl,f,a⟩:=h.ex;exact f.same
theorem ik.at:∀{O:List Nat}{B:List (Addr×HO)},ik dp K σ ρ G O B->∀{i:Nat}{d:eD},i∈O->ρ[i]?=Y (Y d)->∃v f,(∀x∈f,x∈B)/\σ[i]?=Y (Y v)/\jB dp K G d v f
 |[],_,_,_,_,hi,_=>by cases hi
 |j::O,_,h,i,d,hi,hd=>by
  rcases h with ⟨a,b⟩ | ⟨d',v,f,n,a,b,c,q,t⟩
  ·rcases ao.mp hi with e|hi
   ·subst e;rw[hd] at a;cases a
   ·exact ik.at b hi hd
  ·rcases ao.mp hi with e|hi
   ·subst e;rw[hd] at a;cases a;exact⟨v,f,λx g=>by rw[c];exact aF _ g,b,q⟩
   ·obtain⟨l,k,m,r⟩:=ik.at t hi hd;exact⟨l,k,λx g=>by rw[c];exact ak _ (m x g),r⟩
def ig.full(h:ig O K σ ρ H G):jA K H σ ρ:=by
 obtain⟨B,rfl,f,a⟩:=h.ex;refine⟨h.len,λi d q=>?_⟩;by_cases b:i∈O
 ·obtain⟨v,l,m,e,c⟩:=a.at b q;exact⟨v,e,c.Mf f.same λx g=>fL f.nd x (m x g)⟩
 ·obtain⟨v,k,j⟩:=h.k9 i d q b;exact⟨v,k,j.same f.same⟩
noncomputable def iT:List Nat->c7->c7
 |[],ρ=>ρ
 |i::O,ρ=>(iT O ρ).set i Z
theorem yn:∀(O:List Nat) (ρ:c7),(iT O ρ).length=ρ.length
 |[],_=>rfl
 |i::O,ρ=>by rw[iT,List.length_set];exact yn O ρ
theorem yo:∀{O:List Nat}{ρ:c7}{j:Nat}{d:eD},(iT O ρ)[j]?=Y (Y d)->j∉O/\ρ[j]?=Y (Y d)
 |[],_,_,_,h=>⟨by simp,h⟩
 |i::O,ρ,j,d,h=>by
  unfold iT at h;by_cases c:j=i
  ·subst c;by_cases e:j<(iT O ρ).length
   ·rw[aE e] at h;cases h
   ·rw[b5 (by simpa using e)] at h;cases h
  ·rw[av (Ne.symm c)] at h;obtain⟨a,b⟩:=yo h;exact⟨by simp[c,a],b⟩
def ig.rest(h:ig O K σ ρ H G):jA K G σ (iT O ρ):=by refine⟨by rw[yn];exact h.len,λi d q=>?_⟩;obtain⟨a,b⟩:=yo q;exact h.k9 i d b a
def ig.grow{j:Hp}(h:ig O K σ ρ H G)(e:eN H j):∃g,eN G g/\(∀a,H a=Z->g a=j a)/\ig O K σ ρ j g:=by
 obtain⟨B,rfl,f,l⟩:=h.ex;have p:∀x∈B,j x.1=Y x.2:=λx b=>e _ _ (fL f.nd x b);let g:Hp:=λa=>if (∃x∈B,x.1=a) then Z else j a
 have m:∀a,(∀x∈B,x.1≠a)->g a=j a:=λa c=>aj λ⟨x,b,z⟩=>c x b z;have r:∀x∈B,g x.1=Z:=λx b=>ag ⟨x,b,rfl⟩;have k:eN G g:=λa o q=>by
  have c:∀x∈B,x.1≠a:=λx b z=>by have:=f.free x b;rw[z,q] at this;cases this
  rw[m a c];exact e _ _ (by rw[fX c];exact q)
 refine⟨g,k,λa c=>m a λx b z=>?_,h.len,⟨B,rn f.nd p λa c=>(m a c).symm,⟨f.nd,r,f.ok⟩,l.same k⟩,λi d q n=>?_⟩
 ·have:=fL (G:=G) f.nd x b;rw[z,c] at this;cases this
 obtain⟨v,t,s⟩:=h.k9 i d q n;exact⟨v,t,s.same k⟩
def ig.CD{c:Hp} (j:σ.length=ρ.length) (e:ik (kL O) K σ ρ G O B) (g:∀(i:Nat) (d:eD),ρ[i]?=Y (Y d)->i∉O->∃v,σ[i]?=Y (Y v)/\eL K G d v)
  (h:eN G c) (f:j4 c B):ig O K σ ρ (eU c B) c :=
 ⟨j,⟨B,rfl,f,e.same h⟩,λi d q k=>by obtain⟨v,a,b⟩:=g i d q k;exact⟨v,a,b.same h⟩⟩
theorem ig.set{O:List Nat}{i:Nat}{d:eD}{v:V}(h:ig O K σ ρ H G)(m:i∉O)(e:eL K G d v):ig O K (σ.set i (Y v)) (ρ.set i (Y d)) H G:=by
 obtain⟨B,n,f,g⟩:=h.ex;refine⟨by simpa using h.len,⟨B,n,f,g.other λj k=>?_⟩,λj o q k=>?_⟩
 ·have c:i≠j:=λz=>m (z▸k);exact⟨av c,av c⟩
 ·by_cases c:j=i
  ·subst c;have l:j<ρ.length:=by
    have:=(aA.mp q).1;simpa using this
   rw[aE l] at q;cases q;exact⟨v,by rw[aE (by rw[h.len];exact l)],e⟩
  ·rw[av (Ne.symm c)] at q;obtain⟨u,a,b⟩:=h.k9 j o q k;exact⟨u,by rw[av (Ne.symm c)];exact a,b⟩
theorem ig.own{O:List Nat}(p:O.Nodup)(h:ig O K σ ρ H G){i:Nat}{d:eD}(u:i∈O)(y:ρ[i]?=Y (Y d)):
  ∃v k n g,σ[i]?=Y (Y v)/\H=eU G (k++(n++g))/\j4 G (k++(n++g))/\jB (kL O) K G d v n/\pV k/\pV g /\
   (∀c o e,eN G c->jB (kL O) K c o v e->j4 c (k++(e++g))->ig O K σ (ρ.set i (Y o)) (eU c (k++(e++g))) c) /\
   (∀c,eN G c->j4 c (k++g)->ig O K σ (ρ.set i Z) (eU c (k++g)) c):=by
 obtain⟨B,rfl,f,own⟩:=h.ex;obtain⟨v,k,n,g,I,rfl,F,E,D,C,A⟩:=own.split p u y;have m:∀(x:Od) (c:Hp),eN G c->∀(j:Nat) (d2:eD),(ρ.set i x)[j]?=Y (Y d2)->j∉O->∃v,σ[j]?=Y (Y v)/\eL K c d2 v:=λx c l j d2 q t=>by have r:j≠i:=λz=>t (z▸u);rw[av (Ne.symm r)] at q;obtain⟨v,a,b⟩:=h.k9 j d2 q t;exact⟨v,a,b.same l⟩
 exact⟨v,k,n,g,I,rfl,f,F,E,D,λc o e l w s=>⟨by simpa using h.len,⟨_,rfl,s,C c o e l w⟩,m _ c l⟩,
  λc l s=>⟨by simpa using h.len,⟨_,rfl,s,A.same l⟩,m _ c l⟩⟩
def nO{q:Addr}{o d:HO}{i g:List (Addr×HO)}(k:((i++(q,o)::g).map (·.1)).Nodup):L2.upd (eU G (i++(q,o)::g)) q d=eU G (i++(q,d)::g):=by
 have c:((i++(q,d)::g).map (·.1)).Nodup:=by simpa using k
 refine rn c (λx f=>?_) λa j=>?_
 ·by_cases b:x.1=q
  ·have m:=fL (G:=G) c x f;have n:=fL (G:=G) c (q,d) (by simp);rw[b] at m;rw[b,eR,<-m,n]
  ·rw[eI b];refine fL k x ?_;rcases aR.mp f with h|h
   ·exact aF _ h
   ·rcases ao.mp h with e|h
    ·rw[e] at b;exact absurd rfl b
    ·exact ak _ (ah _ h)
 ·have l:a≠q:=λz=>j (q,d) (by simp) z.symm;rw[eI l];refine fX λx f=>?_;rcases aR.mp f with h|h
  ·exact j x (aF _ h)
  ·rcases ao.mp h with e|h
   ·rw[e];exact Ne.symm l
   ·exact j x (ak _ (ah _ h))
def j4.put{q:Addr}{o c:HO}{b a:List (Addr×HO)}(f:j4 G (b++(q,o)::a))(d:pV (b++(q,c)::a)):j4 G (b++(q,c)::a):=by
 refine⟨by simpa using f.nd,λx g=>?_,d⟩;rcases aR.mp g with h|h
 ·exact f.free x (aF _ h)
 ·rcases ao.mp h with e|h
  ·rw[e];exact f.free (q,o) (by simp)
  ·exact f.free x (ak _ (ah _ h))
def ig.drop(r:O.Nodup)(h:ig O K σ ρ H G)(J:i∈O):∃F,eN G F/\ig O K σ (ρ.set i Z) H F:=by
 cases hd:(ρ[i]?).join with
 |none=>
  refine⟨G,.refl G,?_⟩;obtain⟨B,u,f,p⟩:=h.ex;have l:∀(j:Nat) (d:eD),(ρ.set i Z)[j]?=Y (Y d)->ρ[j]?=Y (Y d):=λj d q=>by
   by_cases e:j=i
   ·subst e;by_cases D:j<ρ.length
    ·rw[aE D] at q;cases q
    ·rw[b5 (by simpa using D)] at q;cases q
   ·rw[av (Ne.symm e)] at q;exact q
  refine⟨by simpa using h.len,⟨B,u,f,?_⟩,λj d q I=>h.k9 j d (l j d q) I⟩;have s:∀{m:List Nat}{B:List (Addr×HO)},ik (kL O) K σ ρ G m B->ik (kL O) K σ (ρ.set i Z) G m B:=by
   intro m;induction m with
   |nil=>exact λh=>h
   |cons j m C=>
    intro B h;rcases h with ⟨a,b⟩ | ⟨d,v,k,N,a,b,c,q,t⟩
    ·refine .inl ⟨?_,C b⟩;cases q:((ρ.set i Z)[j]?).join with
     |none=>rfl
     |some d=>rw[l j d (join_some q)] at a;cases a
    ·refine .inr ⟨d,v,k,N,?_,b,c,q,C t⟩;have e:j≠i:=λz=>by subst z;rw[a] at hd;cases hd
     rw[av (Ne.symm e)];exact a
  exact s p
 |some d=>
  obtain⟨v,o,k,n,P,L,f,x,A,y,_,M⟩:=h.own r J (join_some hd);have g:(o++(k++n)).Perm ((o++n)++k):=by rw[aV];exact cy _ a6
  have E:j4 G ((o++n)++k):=f.perm g ((A.append y).append x.mG);have u:H=eU (eU G k) (o++n):=by rw[L,ie f.nd g,jg]
  have w:eN G (eU G k):=(E.KI x.mG).same;refine⟨eU G k,w,?_⟩;rw[u];exact M _ w (E.KH (A.append y))
theorem ik.ins{i:Nat}{m:eD}{v:V}{n:List (Addr×HO)}:∀{O:List Nat}{B:List (Addr×HO)},O.Nodup->ik dp K σ ρ G O B->i∈O->i<ρ.length->i<σ.length->(ρ[i]?).join=Z->jB dp K G m v n ->
  ∃B',ik dp K (σ.set i (Y v)) (ρ.set i (Y m)) G O B'/\B'.Perm (n++B)
 |[],_,_,_,hi,_,_,_,_=>by cases hi
 |j::O,B,ndO,h,hi,hl,Xo,hn,ob=>by
  have e:=bc.mp ndO;by_cases f:j=i
  ·subst f;have o:∀k∈O,(ρ.set j (Y m))[k]?=ρ[k]?/\(σ.set j (Y v))[k]?=σ[k]?:=λk s=>by
    have:j≠k:=λz=>e.1 (z▸s);exact⟨av this,av this⟩
   rcases h with ⟨a,b⟩ | ⟨d,u,r,w,a,c,rfl,g,t⟩
   ·exact⟨n++B,.inr ⟨m,v,n,B,aE hl,aE Xo,rfl,ob,b.other o⟩,List.Perm.refl _⟩
   ·rw[a] at hn;cases hn
  ·have l:=(ao.mp hi).resolve_left (Ne.symm f);rcases h with ⟨a,b⟩ | ⟨d,u,r,w,a,c,rfl,g,t⟩
   ·obtain⟨B',q,p⟩:=ik.ins e.2 b l hl Xo hn ob;exact⟨B',.inl ⟨by rw[av (Ne.symm f)];exact a,q⟩,p⟩
   ·obtain⟨B',q,p⟩:=ik.ins e.2 t l hl Xo hn ob;refine⟨r++B',.inr ⟨d,u,r,B',by rw[av (Ne.symm f)];exact a,by rw[av (Ne.symm f)];exact c,rfl,g,q⟩,(p.append_left _).trans ?_⟩;rw[<-aV,<-aV];exact cU _ a6
def ig.new(e:O.Nodup)(h:ig O K σ ρ H G){d':eD}{k:List (Addr×HO)}(m:i∈O)(s:i<ρ.length)(y:jB (kL O) K G d' v k)(C:j4 H k):
  ∃x,eN G x/\ig O K (σ.set i (Y v)) (ρ.set i (Y d')) (eU H k) x:=by
 obtain⟨p,r,n⟩:=h.drop e m;obtain⟨B,D,f,l⟩:=n.ex;have g:i<(ρ.set i Z).length:=by simpa using s
 obtain⟨B',o,w⟩:=l.ins e m g (by rw[n.len];exact g) (by rw[aE s];rfl) (y.same r);rw[List.set_set] at o;subst D;have A:j4 p (k++B):=f.join C;have u:j4 p B':=A.perm w.symm o.mG;refine⟨p,r,by simpa using h.len,⟨B',?_,u,o⟩,λj d q t=>?_⟩
 ·rw[ie u.nd w,jg]
 ·have c:j≠i:=λz=>t (z▸m);rw[av (Ne.symm c)] at q;obtain⟨v,a,b⟩:=n.k9 j d (by rw[av (Ne.symm c)];exact q) t;exact⟨v,by rw[av (Ne.symm c)];exact a,b⟩
end
noncomputable def nU:eD->eD->Bool
 |.int a,.int b=>decide (a=b)
 |.str a,.str b=>decide (a=b)
 |_,_=>false
def kY(a b:Key):nU (kH a) (kH b)=decide (a=b):=by cases a<;>cases b<;>simp[kH,nU]
noncomputable def o9:eD->Option Key
 |.int i=>Y (.inl i)
 |.str x=>Y (.inr x)
 |_=>Z
def gI{k:Key}(h:o9 d=Y k):d=kH k:=by cases d<;>simp[o9] at h<;>subst h<;>rfl
def hV{k:Key}(h:eL K H (kH k) v):v=kV k:=by
 cases k with
 |inl i=>exact eL.eW.mp h
 |inr x=>exact eL.ft.mp h
def kM(k:eD):List (eD×eD)->Od
 |[]=>Z
 | (y,d)::r=>if nU y k=true then Y d else kM k r
noncomputable def Ez(k v:eD)(a:List (eD×eD)):List (eD×eD) :=
 if (a.any λx=>nU x.1 k)=true then a.map (λx=>if nU x.1 k=true then (x.1,v) else x) else a++[(k,v)]
def gE:List (eD×eD)->Bool
 | (.none,_)::_=>true
 |_=>false
section
def pw.r{kvs:List (Key×V)}{k:Key}(e:Rd H a (.dK kvs)):pw H a (kV k) (mv kvs k):=.inl ⟨kvs,k,e,rfl,rfl⟩
def eL.mT(h:eL K H (.dict kvs) v)(g:gE kvs=false):∃p a,v=.ref p/\Rd H p (.dK a)/\fZ K H kvs a:=by
 obtain⟨p,i,⟨a,f,e⟩ | ⟨c,C,l,j,f,e,b⟩⟩:=eL.kI.mp h
 ·exact⟨p,a,i,f,e⟩
 ·cases kvs with
  |nil=>exact(px.eP.mp b).elim
  |cons x r=>obtain⟨k,d⟩:=x;obtain⟨rfl,_,_⟩:=px.eF.mp b;cases g
def eL.G4{c:Str}{r:List (eD×eD)}(h:eL K H (.dict ((.none,.str c)::r)) v):∃p C d a,v=.ref p/\jM K c C/\H p=Y (.ins C d a)/\kj K H r a:=by
 obtain⟨p,k,⟨l,f,b⟩ | ⟨m,C,d,a,f,b,j⟩⟩:=eL.kI.mp h
 ·obtain⟨y,_,_,_,e,_⟩:=fZ.eF.mp b;cases y<;>cases e
 ·obtain⟨_,i,g⟩:=px.eF.mp j;cases i;exact⟨p,C,d,a,k,f,b,g⟩
theorem fZ.val{y:Key}:∀{f:List (eD×eD)}{g:List (Key×V)},fZ K H f g ->
  (kM (kH y) f=Z/\mv g y=Z)\/∃d v,kM (kH y) f=Y d/\mv g y=Y v/\eL K H d v
 |[],_,h=>by rw[fZ.eP.mp h];exact .inl ⟨rfl,rfl⟩
 | (k,d)::r,_,h=>by
  obtain⟨z,v,m,rfl,rfl,i,t⟩:=fZ.eF.mp h;by_cases e:z=y
  ·right;exact⟨d,v,by simp[kM,kY,e],tM e,i⟩
  ·rcases fZ.val (y:=y) t with ⟨a,b⟩ | ⟨l,j,a,b,c⟩
   ·exact .inl ⟨by simp[kM,kY,e,a],by rw[qC (p:=(z,v)) e];exact b⟩
   ·exact .inr ⟨l,j,by simp[kM,kY,e,a],by rw[qC (p:=(z,v)) e];exact b,c⟩
theorem fZ.any{y:Key}:∀{a:List (eD×eD)}{b:List (Key×V)},fZ K H a b->(b.any λx=>decide (x.1=y))=a.any λx=>nU x.1 (kH y)
 |[],_,h=>by rw[fZ.eP.mp h];rfl
 | (k,d)::r,_,h=>by obtain⟨z,v,c,rfl,rfl,i,t⟩:=fZ.eF.mp h;rw[bz,bz,fZ.any t,kY]
theorem fZ.GW{y:Key}{d:eD}{v:V}(i:eL K H d v):∀{a:List (eD×eD)}{b:List (Key×V)},fZ K H a b ->
  fZ K H (a.map λx=>if nU x.1 (kH y)=true then (x.1,d) else x) (b.map λx=>if x.1=y then (x.1,v) else x)
 |[],_,h=>by rw[fZ.eP.mp h];exact fZ.eP.mpr rfl
 | (k',j)::r,_,h=>by
  obtain⟨z,f,g,rfl,rfl,c,t⟩:=fZ.eF.mp h;rw[ai,ai,kY];by_cases e:z=y
  ·rw[ag e,ag (bF e)];exact fZ.eF.mpr ⟨_,_,_,rfl,rfl,i,fZ.GW i t⟩
  ·rw[aj e,aj (by simp[e])];exact fZ.eF.mpr ⟨_,_,_,rfl,rfl,c,fZ.GW i t⟩
theorem fZ.snoc{y:Key}{d:eD}{v:V}(i:eL K H d v):∀{a:List (eD×eD)}{b:List (Key×V)},fZ K H a b->fZ K H (a++[(kH y,d)]) (b++[(y,v)])
 |[],_,h=>by rw[fZ.eP.mp h];exact fZ.eF.mpr ⟨_,_,_,rfl,rfl,i,fZ.eP.mpr rfl⟩
 | (k',g)::r,_,h=>by obtain⟨z,e,f,rfl,rfl,c,t⟩:=fZ.eF.mp h;exact fZ.eF.mpr ⟨_,_,_,rfl,rfl,c,fZ.snoc i t⟩
def fZ.put{y:Key}(h:fZ K H kvs kv)(i:eL K H d v):fZ K H (Ez (kH y) d kvs) (putK kv y v):=by
 unfold Ez putK;rw[h.any];by_cases e:(kvs.any λx=>nU x.1 (kH y))=true
 ·rw[ag e,ag e];exact h.GW i
 ·rw[aj e,aj e];exact h.snoc i
theorem fZ.length:∀{kvs:List (eD×eD)}{a:List (Key×V)},fZ K H kvs a->kvs.length=a.length
 |[],_,h=>by rw[fZ.eP.mp h];rfl
 | (k,d)::r,_,h=>by obtain⟨z,v,b,rfl,rfl,i,t⟩:=fZ.eF.mp h;simp[fZ.length t]
end
section
variable {a i:Expr}{fb:c7->Od}{fV:Pos}
def PE.or{t u:TE}(h:PE X e t)(b:PE X e u):PE X e (λσ H Q=>t σ H Q\/u σ H Q):=λa s σ H Q I q=>q.elim (@h a s σ H Q I) (@b a s σ H Q I)
def Jj(x k:eD):Od:=match x with
 |.dict kvs=>if gE kvs=true then Z else (o9 k).bind λ_=>kM k kvs
 |_=>Z
def QE(J:X.A.units+64<cLine)(B:PD X a fa)(z:PD X b fb)(f:Ek b):PD X (.Subscript a b pos) (d2 Jj fa fb) :=
 PE.imp (Jc (by omega) B z f) λσ H Q h=>by
  obtain⟨ρ,d,f,e,k⟩:=h;obtain⟨x,G,e⟩:=bind_some e;obtain⟨y,F,e⟩:=bind_some e;refine⟨ρ,x,f,G,λv M m w=>⟨ρ,y,f.same m,F,λu L l t=>?_⟩⟩;obtain⟨c,rfl⟩:∃c,x=.dict c:=by cases x<;>first|exact⟨_,rfl⟩|(simp[Jj] at e)
  unfold Jj at e;by_cases j:gE c=true
  ·dsimp only at e;rw[ag j] at e;cases e
  ·dsimp only at e;rw[aj j] at e;obtain⟨s,E,g⟩:=bind_some e;obtain⟨p,I,rfl,D,C⟩:=(w.same l).mT (by simpa using j);have:=gI E;subst this;rw[hV t];rcases C.val (y:=s) with ⟨i,_⟩ | ⟨K,n,i,q,o⟩
   ·rw[i] at g;cases g
   ·rw[i] at g;cases g;exact⟨p,n,rfl,by rw[<-q];exact pw.r D,k.later (m.trans l) |>.here o⟩
def pY(x k:eD):Od:=match x with
 |.dict kvs=>Jj (.dict kvs) k
 |x=>Y2 x k
def UI(o:X.A.units+64<cLine)(i:PD X a fa)(g:PD X b fb)(c:tK b)(f:Ek b):PD X (.Subscript a b pos) (d2 pY fa fb) :=
 PE.imp (PE.or (Xb ixD i g c) (QE o i g f)) λσ H Q h=>by
  obtain⟨ρ,d,c,e,k⟩:=h;obtain⟨x,m,p⟩:=bind_some e;obtain⟨y,l,j⟩:=bind_some p;cases x with
  |dict n=>exact .inr ⟨ρ,d,c,by show (fa ρ).bind _=_;rw[m];show (fb ρ).bind _=_;rw[l];exact j,k⟩
  |_=>exact .inl ⟨ρ,d,c,by show (fa ρ).bind _=_;rw[m];show (fb ρ).bind _=_;rw[l];exact j,k⟩
noncomputable def nV(x k:eD):Od:=match x with
 |.dict kvs=>if gE kvs=true then Z else (o9 k).bind λ_=>Y ((kM k kvs).getD .none)
 |_=>Z
theorem my(L:X.A.units+64<cLine)(E:PD X o fa)(D:PD X e fb)(m:M1 X o "get" apos e fV):PD X (.Call (.Attribute o "get" apos) [e] [] fV) (d2 nV fa fb) :=
 PE.imp (M3 (by omega) E D m) λσ H Q h=>by
  obtain⟨ρ,d,q,e,k⟩:=h;obtain⟨x,J,e⟩:=bind_some e;obtain⟨y,I,e⟩:=bind_some e;refine⟨ρ,x,q,J,λv O l C=>?_⟩;obtain⟨a,rfl⟩:∃a,x=.dict a:=by cases x<;>first|exact⟨_,rfl⟩|(simp[nV] at e)
  unfold nV at e;by_cases i:gE a=true
  ·dsimp only at e;rw[ag i] at e;cases e
  ·dsimp only at e;rw[aj i] at e;obtain⟨w,G,b⟩:=bind_some e;obtain⟨p,z,rfl,s,F⟩:=C.mT (by simpa using i);refine⟨p,rfl,.inl ⟨z,s⟩,ρ,y,q.same l,I,λu N c B=>?_⟩;have:=gI G;subst this;rw[hV B];refine⟨_,pw.r (c.rd s),?_⟩;have j:=F.same c;have n:=k.later (l.trans c);rcases j.val (y:=w) with ⟨g,f⟩ | ⟨M,K,g,f,t⟩
   ·rw[g] at b;cases b;rw[f];exact n.here (eL.g9.mpr rfl)
   ·rw[g] at b;cases b;rw[f];exact n.here t
def Ni(i:X.A.units+64<cLine):lQ X (compareOp .In) (λx y H Q=>∃p a k,x=kV k/\y=.ref p/\Rd H p (.dK a)/\Q (.bl (mv a k).isSome) H):=by intro b s σ H x y v u Q I d c h;obtain⟨p,a,k,rfl,rfl,e,q⟩:=h;cases c;exact Z8 (by omega) I (pw.r e) d λg f=>⟨.bl _,H,f,rfl,q⟩
def EA(i:X.A.units+64<cLine):lQ X (compareOp .NotIn) (λx y H Q=>∃p a k,x=kV k/\y=.ref p/\Rd H p (.dK a)/\Q (.bl (!(mv a k).isSome)) H):=by intro b s σ H x y v u Q I d c h;obtain⟨p,a,k,rfl,rfl,e,q⟩:=h;cases c;exact Qo (by omega) I (pw.r e) d λg f=>⟨.bl _,H,f,rfl,q⟩
def tS(I:eT X pins σ H s){x:eD}{u:Value}(n:SeqAt.shaped x=true)(C:eL X.K H x v)(w:fO v u)(U:A.units+x.depth<cLine):
  ∀{a:Lp}{c:List V}{b:Lw},(∀d∈a,SeqAt.shaped d=true)->ez X.K H a c->fT c b->∃e:Value->Bool,(∀y∈b,SeqAt.EqAt A s y u (e y))/\b.any e=a.any λd=>eD.eqv d x:=by
 obtain⟨Q,t⟩:=I.pT (aO n) C w;let e:Value->Bool:=λy=>@decide (∃d g,Reads s.heap y d g/\SeqAt.shaped d=true/\eD.eqv d x=true) (Classical.propDecidable _);have G:∀(d:eD) (g:List Addr) (y:Value),Reads s.heap y d g->SeqAt.shaped d=true->e y=eD.eqv d x:=λd g y r f=>by
  cases q:eD.eqv d x with
  |true=>exact @decide_eq_true _ (Classical.propDecidable _) ⟨d,g,r,f,q⟩
  |false=>refine @decide_eq_false _ (Classical.propDecidable _) ?_;rintro⟨O,P,l,J,m⟩;have:=SeqAt.Reads.unique d O y _ _ (aO f) r l;subst this;rw[q] at m;cases m
 intro a;have h:∀{a:Lp}{c:List V}{b:Lw},(∀d∈a,SeqAt.shaped d=true)->ez X.K H a c->fT c b->(∀y∈b,SeqAt.EqAt A s y u (e y))/\b.any e=a.any λd=>eD.eqv d x:=by
  intro a;induction a with
  |nil=>intro c b _ i r;rw[ez.eP.mp i] at r;cases r;exact⟨(λy j=>by cases j),rfl⟩
  |cons d a D=>
   intro c b o i r;obtain⟨T,l,rfl,F,E⟩:=ez.eF.mp i;cases r with
   |cons B z=>
    obtain⟨S,R⟩:=D (λd f=>o d (ah _ f)) E z;have f:=o d (by simp);obtain⟨g,k⟩:=I.pT (aO f) F B;have p:=G d g _ k f;refine⟨λy j=>?_,by rw[bz,bz,p,R]⟩;rcases ao.mp j with q|q
    ·subst q;rw[p];refine SeqAt.eqAt_reads d x A s _ _ g Q k t (aO f) (aO n) ?_;have:min d.depth x.depth<=x.depth:=dW _ _;omega
    ·exact S y q
 intro c b N M L;exact⟨e,h N M L⟩
noncomputable def nW:eD->eD->Option Bool
 |x,.list xs=>if SeqAt.shaped x=true/\xs.all SeqAt.shaped=true/\x.depth<=60 then Y (xs.any λy=>eD.eqv y x) else Z
 |x,.tuple xs=>if SeqAt.shaped x=true/\xs.all SeqAt.shaped=true/\x.depth<=60 then Y (xs.any λy=>eD.eqv y x) else Z
 |x,.dict kvs=>if gE kvs=true then Z else (o9 x).map λ_=>(kM x kvs).isSome
 |.str x,.str y=>Y (!(Builtin.Str.occurrences y x 0 y.length 1).isEmpty)
 |_,_=>Z
def uX(x y:eD):Od:=(nW x y).map .bool
def nX(x y:eD):Od:=(nW x y).map λb=>.bool (!b)
def QF(E:X.A.units+64<cLine):lQ X (compareOp .In) (λx y H Q=>∃p d g i,y=.ref p/\(kQ X.K H p i\/qq X.K H p i)/\eL X.K H d x/\ez X.K H g i/\SeqAt.shaped d=true/\g.all SeqAt.shaped=true/\d.depth<=60 /\
  Q (.bl (g.any λy=>eD.eqv y d)) H):=by
 intro t s σ H x y v u Q I o B h;obtain⟨p,d,g,i,rfl,f,w,is,z,l,D,q⟩:=h;cases B;have b:∀d∈g,SeqAt.shaped d=true:=bL.mp l;have c:X.A.in1.units+d.depth<cLine:=by show X.A.units+1+d.depth<cLine;omega
 rcases f with f|f
 ·obtain⟨a,r,j,C⟩:=I.list f;obtain⟨e,n,m⟩:=tS I (A:=X.A.in1) z w o c b is r;refine SeqAt.in_listAt e j.isList (λy k=>n y (by simpa using k)) ⟨.bl _,H,I,rfl,?_⟩;rw[show a.toArray.any e=a.any e by simp,m];exact q
 ·obtain⟨a,r,j,C⟩:=I.tuple f;obtain⟨e,n,m⟩:=tS I (A:=X.A.in1) z w o c b is r;refine SeqAt.in_tupleAt e j (λy k=>n y (by simpa using k)) ⟨.bl _,H,I,rfl,?_⟩;rw[show a.toArray.any e=a.any e by simp,m];exact q
def G5(E:X.A.units+64<cLine):lQ X (compareOp .NotIn) (λx y H Q=>∃p d g i,y=.ref p/\(kQ X.K H p i\/qq X.K H p i)/\eL X.K H d x/\ez X.K H g i/\SeqAt.shaped d=true/\g.all SeqAt.shaped=true/\d.depth<=60 /\
  Q (.bl (!(g.any λy=>eD.eqv y d))) H):=by
 intro t s σ H x y v u Q I o B h;obtain⟨p,d,g,i,rfl,f,w,is,z,l,D,q⟩:=h;cases B;have b:∀d∈g,SeqAt.shaped d=true:=bL.mp l;have c:X.A.in1.units+d.depth<cLine:=by show X.A.units+1+d.depth<cLine;omega
 rcases f with f|f
 ·obtain⟨a,r,j,C⟩:=I.list f;obtain⟨e,n,m⟩:=tS I (A:=X.A.in1) z w o c b is r;refine SeqAt.notIn_listAt e j.isList (λy k=>n y (by simpa using k)) ⟨.bl _,H,I,rfl,?_⟩;rw[show a.toArray.any e=a.any e by simp,m];exact q
 ·obtain⟨a,r,j,C⟩:=I.tuple f;obtain⟨e,n,m⟩:=tS I (A:=X.A.in1) z w o c b is r;refine SeqAt.notIn_tupleAt e j (λy k=>n y (by simpa using k)) ⟨.bl _,H,I,rfl,?_⟩;rw[show a.toArray.any e=a.any e by simp,m];exact q
def jQ(s:X.A.units+64<cLine):u7 X (compareOp .In) uX:=by
 refine lQ.imp ((QF s).or ((Ni s).or Km)) ?_;rintro x y H Q ⟨a,b,c,l,j,e,k⟩;obtain⟨t,d,i⟩:=aa.mp e;subst i;cases b with
 |list g=>
  dsimp only[nW] at d;by_cases f:SeqAt.shaped a=true/\g.all SeqAt.shaped=true/\a.depth<=60
  ·rw[ag f] at d;cases d;obtain⟨p,m,rfl,i,h⟩:=eL.fh.mp j;exact .inl ⟨p,a,g,m,rfl,.inl i,l,h,f.1,f.2.1,f.2.2,k.here (eL.fz.mpr rfl)⟩
  ·rw[aj f] at d;cases d
 |tuple g=>
  dsimp only[nW] at d;by_cases f:SeqAt.shaped a=true/\g.all SeqAt.shaped=true/\a.depth<=60
  ·rw[ag f] at d;cases d;obtain⟨p,m,rfl,i,h⟩:=j.gP;exact .inl ⟨p,a,g,m,rfl,.inr i,l,h,f.1,f.2.1,f.2.2,k.here (eL.fz.mpr rfl)⟩
  ·rw[aj f] at d;cases d
 |dict q=>
  dsimp only[nW] at d;by_cases f:gE q=true
  ·rw[ag f] at d;cases d
  ·rw[aj f] at d;obtain⟨r,h,C⟩:=aa.mp d;subst C;obtain⟨p,v,rfl,B,w⟩:=j.mT (by simpa using f);have:=gI h;subst this;refine .inr (.inl ⟨p,v,r,hV l,rfl,B,?_⟩);rcases w.val (y:=r) with ⟨o,n⟩ | ⟨E,D,o,n,_⟩
   ·rw[n];rw[o] at k;exact k.here (eL.fz.mpr rfl)
   ·rw[n];rw[o] at k;exact k.here (eL.fz.mpr rfl)
 |str z=>
  cases a<;>try (simp[nW] at d;done)
  rename_i u;simp only[nW] at d;cases d;exact .inr (.inr ⟨u,z,eL.ft.mp l,eL.ft.mp j,k.here (eL.fz.mpr rfl)⟩)
 |none=>simp[nW] at d
 |bool _=>simp[nW] at d
 |int _=>simp[nW] at d
def nY(s:X.A.units+64<cLine):u7 X (compareOp .NotIn) nX:=by
 refine lQ.imp ((G5 s).or ((EA s).or Ce)) ?_;rintro x y H Q ⟨a,b,c,l,j,e,k⟩;obtain⟨t,d,i⟩:=aa.mp e;subst i;cases b with
 |list g=>
  dsimp only[nW] at d;by_cases f:SeqAt.shaped a=true/\g.all SeqAt.shaped=true/\a.depth<=60
  ·rw[ag f] at d;cases d;obtain⟨p,m,rfl,i,h⟩:=eL.fh.mp j;exact .inl ⟨p,a,g,m,rfl,.inl i,l,h,f.1,f.2.1,f.2.2,k.here (eL.fz.mpr rfl)⟩
  ·rw[aj f] at d;cases d
 |tuple g=>
  dsimp only[nW] at d;by_cases f:SeqAt.shaped a=true/\g.all SeqAt.shaped=true/\a.depth<=60
  ·rw[ag f] at d;cases d;obtain⟨p,m,rfl,i,h⟩:=j.gP;exact .inl ⟨p,a,g,m,rfl,.inr i,l,h,f.1,f.2.1,f.2.2,k.here (eL.fz.mpr rfl)⟩
  ·rw[aj f] at d;cases d
 |dict q=>
  dsimp only[nW] at d;by_cases f:gE q=true
  ·rw[ag f] at d;cases d
  ·rw[aj f] at d;obtain⟨r,h,C⟩:=aa.mp d;subst C;obtain⟨p,v,rfl,B,w⟩:=j.mT (by simpa using f);have:=gI h;subst this;refine .inr (.inl ⟨p,v,r,hV l,rfl,B,?_⟩);rcases w.val (y:=r) with ⟨o,n⟩ | ⟨E,D,o,n,_⟩
   ·rw[n];rw[o] at k;exact k.here (eL.fz.mpr rfl)
   ·rw[n];rw[o] at k;exact k.here (eL.fz.mpr rfl)
 |str z=>
  cases a<;>try (simp[nW] at d;done)
  rename_i u;simp only[nW] at d;cases d;exact .inr (.inr ⟨u,z,eL.ft.mp l,eL.ft.mp j,k.here (eL.fz.mpr rfl)⟩)
 |none=>simp[nW] at d
 |bool _=>simp[nW] at d
 |int _=>simp[nW] at d
def qG:Lp->Od
 |[.dict kvs]=>if gE kvs=true then Z else Y (.int kvs.length)
 |ds=>Qv ds
def QG:yh X (.builtin "len") qG:=by
 refine jL.imp (jL.or UD Ky) ?_;rintro l H Q ⟨j,c,i,e,k⟩;unfold qG at e;split at e
 ·rename_i a;by_cases b:gE a=true
  ·rw[ag b] at e;cases e
  ·rw[aj b] at e;cases e;obtain⟨v,rfl,f⟩:=iJ i;obtain⟨p,d,rfl,h,g⟩:=f.mT (by simpa using b);refine .inr ⟨p,d,rfl,h,?_⟩;rw[<-g.length];exact k.here (eL.eW.mpr rfl)
 ·exact .inl ⟨j,c,i,e,k⟩
def fQ(K:Fg)(c f:Str):Prop:=∃C,jM K c C/\GH K C/\qA K C f
noncomputable def jb(a:Lr)(f:Str)(d:eD):Od:=match d with
 |.dict ((.none,.str c)::r)=>if c∈a then pB f r else Z
 |_=>Z
def eS(a:Lr)(n:Str)(f:c7->Od):c7->Od:=λρ=>(f ρ).bind (jb a n)
def Ha{cs:Lr}{n:Str}(q:∀c∈cs,fQ X.K c n)(m:PD X e f)(o:attributeBase e n X.env (eval e X.env)=eval e X.env:=by rfl):PD X (.Attribute e n pos) (eS cs n f) :=
 PE.imp (Cg m o) <| by
  rintro σ H Q ⟨ρ,d,j,e,k⟩;obtain⟨x,D,a⟩:=bind_some e;refine⟨ρ,x,j,D,λv F g i=>?_⟩;unfold jb at a;split at a
  ·rename_i c r;by_cases b:c∈cs
   ·rw[ag b] at a;obtain⟨p,C,E,B,rfl,w,t,s⟩:=i.G4;obtain⟨G,A,z,y⟩:=q c b;have:=w.uniq A;subst this;obtain⟨u,l,h⟩:=s.get a;exact⟨p,C,E,B,u,rfl,t,z,y,l,(k.later g).here h⟩
   ·rw[aj b] at a;cases a
  ·cases a
end
end L2
local macro_rules
| `(zP $s $m $a) => `(L2.Ha (cs := [$s]) (fun c hc => (List.mem_singleton.mp hc) ▸ $m) $a)
| `(zL $m $a) => `(L2.tP L2.QG rfl $m (by rfl) (L2.c5 $a L2.iV))
| `(zN $a) => `(L2.jP L2.qG (L2.eK $a L2.fg))
| `(zX $a $b) => `(L2.d2 L2.pY $a $b)
namespace L2
open PySem PySem.Spec PyProof.Rows
inductive Pl where
 |sl (i:Nat)
 |fl (i:Nat) (c f:Str)
def Pl.ix:Pl->Nat
 |.sl i=>i
 |.fl i _ _=>i
def Nj(c f:Str)(d:eD):Od:=match d with
 |.dict ((.none,.str a)::r)=>if a=c/\lU c f=true then pB f r else Z
 |_=>Z
def Nk(f:Str)(y d:eD):eD:=match d with
 |.dict ((.none,.str c)::r)=>.dict ((.none,.str c)::pW f y r)
 |d=>d
def qt:Pl->c7->Od
 |.sl i,ρ=>(ρ[i]?).join
 |.fl i c f,ρ=>(ρ[i]?).join.bind (Nj c f)
def va:Pl->eD->c7->c7
 |.sl i,d,ρ=>ρ.set i (Y d)
 |.fl i _ f,d,ρ=>ρ.set i ((ρ[i]?).join.map (Nk f d))
def Ao(K:Fg)(σ:St)(H:Hp):Pl->Addr->Prop
 |.sl i,q=>σ[i]?=Y (Y (.ref q))
 |.fl i c f,q=>∃C p b a,σ[i]?=Y (Y (.ref p))/\jM K c C/\H p=Y (.ins C b a)/\a.lookup f=Y (.ref q)
def vb:eD->Bool
 |.list _=>true
 |.dict kvs=>!gE kvs
 |_=>false
section
def jB.cont(h:jB false K G d v B)(e:vb d=true):∃q o,v=.ref q/\B=[(q,o)]/\qs K G d q o:=by
 rcases h with ⟨q,o,i,a,b,c⟩ | ⟨c,C,p,g,f,r,j,rfl,_⟩
 ·exact⟨q,o,a,by rw[b,c.2],c.1⟩
 ·cases e
def jB.Xp{q:Addr}{o:HO}(h:qs K G d q o):jB false K G d (.ref q) [(q,o)]:=.inl ⟨q,o,[],rfl,rfl,h,rfl⟩
def Hc:eD->Bool
 |.list []=>true
 |.dict []=>true
 |_=>false
def qs.gen{q:Addr}{o:HO}(h:qs K G d q o)(b:dp=false\/Hc d=true):o8 dp K G d q o []:=by
 cases dp with
 |false=>exact⟨h,rfl⟩
 |true=>
  have b:=b.resolve_left (by simp);rcases h with ⟨i,f,rfl,rfl,c⟩ | ⟨e,g,rfl,rfl,c⟩
  ·cases i with
   |nil=>exact .inl ⟨[],f,rfl,rfl,ez.eP.mp c,rfl⟩
   |cons a l=>cases b
  ·cases e with
   |nil=>exact .inr ⟨[],g,rfl,rfl,fZ.eP.mp c,rfl⟩
   |cons a l=>cases b
def o8.UJ{q:Addr}{o:HO}{g:List (Addr×HO)}{c:Str}{r:List (eD×eD)}(h:o8 dp K G (.dict ((.none,.str c)::r)) q o g):False:=by
 cases dp with
 |false=>
  rcases h with ⟨⟨_,_,e,_⟩ | ⟨b,d,e,_,i⟩,_⟩
  ·cases e
  ·cases e;obtain⟨y,_,_,_,e,_⟩:=fZ.eF.mp i;cases y<;>cases e
 |true=>
  rcases h with ⟨_,_,e,_⟩ | ⟨b,d,e,_,i⟩
  ·cases e
  ·cases e;obtain⟨y,v,j,l,k,a,f,_⟩:=i;cases y<;>cases f
def jB.inst{c:Str}{r:List (eD×eD)}(h:jB dp K G (.dict ((.none,.str c)::r)) v B):∃C p b a d,v=.ref p/\B=(p,.ins C b a)::(b,.own p)::d/\jM K c C/\jt K G c r a d:=by
 rcases h with ⟨q,o,k,rfl,rfl,h⟩ | ⟨j,C,p,b,a,i,d,e,rfl,rfl,g,f⟩
 ·exact h.UJ.elim
 ·cases e;exact⟨C,p,b,a,d,rfl,rfl,g,f⟩
def Hd{c f:Str}{x:eD}(h:Nj c f x=Y d):∃r,x=.dict ((.none,.str c)::r)/\lU c f=true/\pB f r=Y d:=by
 unfold Nj at h;split at h
 ·rename_i e r;by_cases a:e=c/\lU c f=true
  ·rw[ag a] at h;obtain⟨rfl,b⟩:=a;exact⟨r,rfl,b,h⟩
  ·rw[aj a] at h;cases h
 ·cases h
def v9(O:List Nat):Pl->Bool
 |.sl _=>kL O
 |.fl _ c f=>pX c f
theorem ig.UK(s:O.Nodup)(h:ig O K σ ρ H G){π:Pl}(S:π.ix∈O)(T:qt π ρ=Y d)(hc:vb d=true):
  ∃q o n l k,Ao K σ H π q/\H=eU G (l++((q,o)::(n++k)))/\j4 G (l++((q,o)::(n++k)))/\pV l/\pV k/\o8 (v9 O π) K G d q o n /\
   ∀e j b a,eN G e->o8 (v9 O π) K e j q b a->j4 e (l++((q,b)::(a++k)))->ig O K σ (va π j ρ) (eU e (l++((q,b)::(a++k)))) e:=by
 cases π with
 |sl i=>
  obtain⟨v,l,B1,k,M,u,f,z,F,E,P,_⟩:=h.own s S (join_some T);rcases z with ⟨q,o,n,rfl,rfl,W⟩ | ⟨c,C,p,g,m,r,B',rfl,_⟩
  ·exact⟨q,o,n,l,k,M,u,f,F,E,W,λe j b a w A t=>P e j ((q,b)::a) w (.inl ⟨q,b,a,rfl,rfl,A⟩) t⟩
  ·cases hc
 |fl i c f=>
  obtain⟨x,U,e0⟩:=bind_some T;obtain⟨r,rfl,I,hg⟩:=Hd e0;obtain⟨v,l,B1,k,M,u,t,z,F,E,P,_⟩:=h.own s S (join_some U);obtain⟨C,p,g,m,B',rfl,rfl,V,a5⟩:=z.inst;obtain⟨q,o,n,R,Q,l1,rfl,m1,m2,X,N⟩:=a5.split I hg;have L:∀(b:HO) (a:List (Addr×HO)),l++(((p,HO.ins C g m)::(g,HO.own p)::(R++((q,b)::(a++Q))))++k)=(l++(p,HO.ins C g m)::(g,HO.own p)::R)++((q,b)::(a++(Q++k))):=λb a=>by simp
  rw[L] at u t;refine⟨q,o,n,_,_,⟨C,p,g,m,M,V,?_,l1⟩,u,t,F.append (.ins m1),m2.append E,X,λe j b a w D J=>?_⟩
  ·rw[u];exact fL t.nd (p,.ins C g m) (by simp)
  ·have B:=N e j b a w D;have y:jB (kL O) K e (.dict ((.none,.str c)::pW f j r)) (.ref p) ((p,HO.ins C g m)::(g,HO.own p)::(R++((q,b)::(a++Q)))):=.inr ⟨c,C,p,g,m,_,_,rfl,rfl,rfl,V,B⟩;have:=P e _ _ w y (by rw[L];exact J);rw[L] at this;have es:va (.fl i c f) j ρ=ρ.set i (Y (.dict ((.none,.str c)::pW f j r))):=by
    show ρ.set i ((ρ[i]?).join.map (Nk f j))=_;rw[U];rfl
   rw[es];exact this
def ig.place(f:O.Nodup)(h:ig O K σ ρ H G){π:Pl}(p:π.ix∈O)(s:qt π ρ=Y d)(t:vb d=true)(g:v9 O π=false):
  ∃q o,Ao K σ H π q/\H q=Y o/\qs K G d q o/\∀e b,qs K G e q b->ig O K σ (va π e ρ) (upd H q b) G:=by
 obtain⟨q,o,w,v,u,r,i,c,n,m,j,k⟩:=h.UK f p s t;rw[g] at j k;obtain⟨l,rfl⟩:=j;refine⟨q,o,r,by rw[i];exact fL c.nd (q,o) (by simp),l,λe b a=>?_⟩;rw[bB] at i c;rw[i,nO c.nd];exact k G e b [] (.refl G) ⟨a,rfl⟩ (c.put (n.append (.one a.frm m)))
end
inductive Md where
 |dat|own|io (dp:Bool) (v0:V)|exc (W:Int->Hp->Prop)
def KO(K:Fg)(H:Hp)(d:eD)(Q:VK):Prop:=∀v a b,eN H a->j4 a b->jB false K a d v b->Q v (eU a b)
def KO.later{a:Hp}{Q:VK}(k:KO K H d Q)(e:eN H a):KO K a d Q:=λv b c s f o=>k v b c (e.trans s) f o
structure lb (m:Md) (O:List Nat) (K:Fg) (σ:St) (ρ:c7) (H G:Hp):Prop where
 o:ig O K σ ρ H G
 z:∀dp v0,m=.io dp v0->0∈O/\σ[0]?=Y (Y v0)/\kL O=dp
def S0(m:Md)(K:Fg)(G:Hp)(d:eD)(Q:VK):Prop:=match m with
 |.dat=>KD K G d Q
 |.own=>KO K G d Q
 |.io dp v0=>∃x c,d=.tuple [x,c]/\∀v a b,eN G a->j4 a b->jB dp K a c v0 b->eL K a x v->Q v (eU a b)
 |.exc W=>(∃n,d=.int n/\∀a,eN G a->W n a)\/((∀n,d≠.int n)/\KD K G d Q)
theorem S0.later{m:Md}{K:Fg}{G g:Hp}{d:eD}{Q:VK}(e:eN G g)(h:S0 m K G d Q):S0 m K g d Q:=by
 cases m with
 |dat=>exact KD.later h e
 |own=>exact KO.later h e
 |io l k=>obtain⟨x,j,a,b⟩:=h;exact⟨x,j,a,λv c B s f o i=>b v c B (e.trans s) f o i⟩
 |exc W=>
  rcases h with ⟨n,a,b⟩ | ⟨a,b⟩
  ·exact .inl ⟨n,a,λc s=>b c (e.trans s)⟩
  ·exact .inr ⟨a,KD.later b e⟩
def QH(m:Md)(O:List Nat)(K:Fg)(G:Hp)(D:Ah):gk->Prop
 |.nx ρ=>∀σ a b,eN G b->lb m O K σ ρ a b->D.nx σ a
 |.bk ρ=>∀σ a b,eN G b->lb m O K σ ρ a b->D.bk σ a
 |.ct ρ=>∀σ a b,eN G b->lb m O K σ ρ a b->D.ct σ a
 |.rt d=>S0 m K G d D.rt
theorem QH.later{m:Md}{O:List Nat}{K:Fg}{G d:Hp}{D:Ah}(e:eN G d):∀{o:gk},QH m O K G D o->QH m O K d D o
 |.nx _,h=>λσ b c a q=>h σ b c (e.trans a) q
 |.bk _,h=>λσ b c a q=>h σ b c (e.trans a) q
 |.ct _,h=>λσ b c a q=>h σ b c (e.trans a) q
 |.rt _,h=>S0.later e h
def tO(m:Md)(O:List Nat)(K:Fg)(g:c7->Option gk):TS:=λD σ H=>∃ρ o G,lb m O K σ ρ H G/\g ρ=Y o/\QH m O K G D o
def wa(X:Cx)(m:Md)(O:List Nat)(a:Stmt)(g:c7->Option gk):Prop:=PS X a (tO m O X.K g)
def rP(X:Cx)(m:Md)(O:List Nat)(a:List Stmt)(g:c7->Option gk):Prop:=vV X a (tO m O X.K g)
def mz:eD->Bool
 |.list _=>false
 |.tuple _=>false
 |.dict _=>false
 |_=>true
def eL.jV{a:Hp}(h:mz d=true)(i:eL K H d v):eL K a d v:=by cases d<;>first|(cases h;done)|(unfold eL at i ⊢;exact i)
theorem ez.jV{K:Fg}{H f:Hp}:∀{c:Lp}{e:List V},c.all mz=true->ez K H c e->ez K f c e
 |[],_,_,i=>by rw[ez.eP.mp i];exact ez.nil
 |d::c,_,h,i=>by obtain⟨v,r,rfl,a,b⟩:=ez.eF.mp i;simp only[List.all_cons,bD] at h;exact ez.cons (eL.jV h.1 a) (ez.jV h.2 b)
section
variable {m:Md}{a:Expr}{fb fc:c7->Od}{p2:Pos}{rest:List Stmt}{g h:c7->Option gk}{gc:c7->Option Bool}
def PV(X:Cx)(O:List Nat)(e:Expr)(h:c7->Od):Prop:=PE X e (λσ H Q=>∃ρ d G,ig O X.K σ ρ H G/\h ρ=Y d/\∀v a b,eN H a->eN G b->ig O X.K σ ρ a b->eL X.K b d v->Q v a)
def gZ(O:List Nat)(f:c7->Od):c7->Od:=λρ=>f (iT O ρ)
def Nl(f:c7->Od):c7->Od:=λρ=>(f ρ).bind λd=>if mz d=true then Y d else Z
def sP{b:Hp}(c:(B.map (·.1)).Nodup)(e:eN G b):eN (eU G B) (eU b B):=λa o h=>by
 rcases oF (a:=a) B with ⟨x,d,rfl⟩|h'
 ·rw[fL c x d] at h ⊢;exact h
 ·rw[fX h'] at h ⊢;exact e a o h
def eY(l:PD X e f):PV X O e (gZ O f) :=
 PE.imp (PE.frame l) <| by rintro σ H Q ⟨ρ,d,G,a,m,k⟩;obtain⟨B,j,h,c⟩:=a.ex;refine⟨G,B,j,h,iT O ρ,d,a.rest,m,λv n b i g=>?_⟩;subst j;exact k v _ n (sP h.nd b) b (ig.CD a.len c a.k9 b g) i
def EB(h:Nl f ρ=Y d):f ρ=Y d/\mz d=true:=by
 obtain⟨x,c,a⟩:=bind_some h;by_cases b:mz x=true
 ·rw[ag b] at a;cases a;exact⟨c,b⟩
 ·rw[aj b] at a;cases a
def Nm(h:PD X e f):PV X O e (Nl f) :=
 PE.imp h <| by rintro σ H Q ⟨ρ,d,G,c,m,k⟩;obtain⟨l,j⟩:=EB m;refine⟨ρ,d,c.full,l,λv n b i=>?_⟩;obtain⟨o,g,_,a⟩:=c.grow b;exact k v n o b g a (i.jV j)
def PF(X:Cx)(e:Expr)(f:c7->Od):Prop:=PE X e (λσ H Q=>∃ρ d,jA X.K H σ ρ/\f ρ=Y d/\KO X.K H d Q)
def Xq(X:Cx)(O:List Nat)(e:Expr)(h:c7->Od):Prop:=PE X e (λσ H Q=>∃ρ d G,ig O X.K σ ρ H G/\h ρ=Y d/\∀v a b c,eN H a->eN G b->ig O X.K σ ρ a b->j4 a c->jB false X.K b d v c->Q v (eU a c))
def lx(p:PF X e f):Xq X O e (gZ O f) :=
 PE.imp (PE.frame p) <| by
  rintro σ H Q ⟨ρ,d,G,c,s,k⟩;obtain⟨B,o,g,i⟩:=c.ex;refine⟨G,B,o,g,iT O ρ,d,c.rest,s,λv a b h q j l=>?_⟩;have n:j4 a (B++b):=q.join l;have m:j4 a (b++B):=n.perm a6 (j.mG.append g.ok);have r:eU (eU a b) B=eU (eU a B) b:=by rw[<-jg,<-jg];exact ie n.nd a6
  rw[r];subst o;exact k v _ a b (sP g.nd h) h (ig.CD c.len i c.k9 h (m.KI g.ok)) (m.KH j.mG) j
def EC:eD->Bool
 |.list ds=>ds.all mz
 |_=>false
def UL(f:c7->Od):c7->Od:=λρ=>(f ρ).bind λd=>if EC d=true then Y d else Z
def UM(r:PF X e f):Xq X O e (UL f) :=
 PE.imp r <| by
  rintro σ H Q ⟨ρ,d,G,l,u,k⟩;obtain⟨x,t,b⟩:=bind_some u;by_cases a:EC x=true
  ·rw[ag a] at b;cases b;refine⟨ρ,d,l.full,t,λv z A j s n=>?_⟩;obtain⟨y,c,_,g⟩:=l.grow j;refine k v z y A j c g s ?_;cases d<;>try (simp[EC] at a;done)
   rename_i B;obtain⟨q,o,rfl,rfl,p⟩:=n.cont rfl;rcases p with ⟨w,m,h,rfl,i⟩ | ⟨_,_,h,_⟩
   ·cases h;exact jB.Xp (.inl ⟨_,m,rfl,rfl,i.jV a⟩)
   ·cases h
  ·rw[aj a] at b;cases b
def qH(m:Bm X es ff):PF X (.List es pos) (fN ff) :=
 PE.imp (GN m) <| by
  rintro σ H Q ⟨ρ,d,j,e,k⟩;obtain⟨h,n,a⟩:=bind_some e;refine⟨ρ,h,j,n,λc o i f=>?_⟩;by_cases b:h.length<=sizeLine
  ·first
   | (rw[ag b] at a;cases a)
   | (cases a)
   refine⟨by rw[<-f.length];exact b,λp l=>?_⟩;exact k (.ref p) o [(p,.lst c)] i ⟨by simp,(λx g=>by simp at g;subst g;exact l),.one aI .nil⟩ (jB.Xp (.inl ⟨_,c,rfl,rfl,f⟩))
  ·rw[aj b] at a;cases a
def yp:PF X (.Dict [] [] pos) (dC (.dict [])) :=
 PE.imp En <| by rintro σ H Q ⟨ρ,d,c,e,k⟩;cases e;intro p b;exact k (.ref p) H [(p,.dK [])] (.refl H) ⟨by simp,(λx a=>by simp at a;subst a;exact b),.one aI .nil⟩ (jB.Xp (.inr ⟨[],[],rfl,rfl,fZ.eP.mpr rfl⟩))
def eE:rP X m O [] fY:=vV.imp IS <| by rintro D σ H ⟨ρ,o,G,a,e,k⟩;cases e;exact k σ H G (.refl G) a
def cn(l:wa X m O st g)(j:rP X m O rest h):rP X m O (st::rest) (eJ g h) :=
 vV.imp (D8 l j) <| by
  rintro D σ H ⟨ρ,o,G,i,e,k⟩;obtain⟨c,n,a⟩:=bind_some e;refine⟨ρ,c,G,i,n,?_⟩;cases c with
  |nx ρ'=>exact λσ' q p f b=>⟨ρ',o,p,b,a,k.later f⟩
  |rt d=>cases a;exact k
  |bk ρ'=>cases a;exact k
  |ct ρ'=>cases a;exact k
def c0(a:wa X m O st g):rP X m O [st] g:=vV.imp (IT a) λD σ H h=>h
def eB(h:PD X e f):wa X .dat O (.Return (Y e) pos) (fC f) :=
 PS.imp (uZ h) <| by rintro D σ H ⟨ρ,o,G,a,e,k⟩;obtain⟨d,c,rfl⟩:=aa.mp e;exact⟨ρ,d,a.o.full,c,λv g b i=>KD.later k (a.o.sub.trans b) |>.here i⟩
def qI(h:PF X e f):wa X .own O (.Return (Y e) pos) (fC f) :=
 PS.imp (uZ h) <| by rintro D σ H ⟨ρ,o,G,a,e,k⟩;obtain⟨d,b,rfl⟩:=aa.mp e;exact⟨ρ,d,a.o.full,b,KO.later k a.o.sub⟩
def ED(i:Nat) {z:Pos} (g:O.Nodup) (w:i∈O:=by decide) (h:kL O=false:=by rfl) (y:X.N[i]?=Y x:=by rfl) (s:Mc X.env.scope x:=by first|exact bW rfl|exact bA (bW rfl)|exact bA (bA rfl)) (u:zg x:=by decide)
  (j:(x==("__classdict__":Str))=false:=by decide):wa X .own O (.Return (Y (.Name x z)) pos) (fC (bS i)) :=
 PS.imp (uZ (qx y s u j)) <| by
  rintro D σ H ⟨ρ,o,G,t,e,k⟩;obtain⟨d,C,rfl⟩:=aa.mp e;obtain⟨v,m,c,l,B,A,f,b,p,n,_,_⟩:=t.o.own g w (join_some C);rw[h] at b;refine⟨v,B,?_⟩;have a:(m++(c++l)).Perm (c++(m++l)):=by rw[<-aV,<-aV];exact cU _ a6
  have r:j4 G (c++(m++l)):=f.perm a (b.mG.append (p.append n));rw[A,ie f.nd a,jg];have q:=r.KI (p.append n);exact(show KO X.K G d D.rt from k) v _ c q.same (r.KH b.mG) (b.same q.same)
def eO{f d:List Stmt}(p:Bl X c gc)(r:rP X m O f g)(q:rP X m O d h):wa X m O (.If c f d pos) (iY gc g h) :=
 PS.imp (Mv p r q) <| by
  rintro D σ H ⟨ρ,o,G,b,e,k⟩;obtain⟨y,s,j⟩:=bind_some e;refine⟨ρ,y,b.o.full,s,λt n=>?_⟩;obtain⟨l,i,_,a⟩:=b.o.grow n;cases y with
  |true=>rw[ag rfl];exact⟨ρ,o,l,⟨a,b.z⟩,j,k.later i⟩
  |false=>rw[aj aB];exact⟨ρ,o,l,⟨a,b.z⟩,j,k.later i⟩
def KJ:wa X m O (.Break pos) (λρ=>Y (.bk ρ)):=PS.imp Mu <| by rintro D σ H ⟨ρ,o,G,a,e,k⟩;cases e;exact k σ H G (.refl G) a
def vc:c7->Option gk:=λ_=>Z
def ro:wa X m O st vc:=PS.imp Ea <| by rintro D σ H ⟨ρ,o,G,a,e,k⟩;cases e
theorem lb.set{K:Fg}{σ:St}{ρ:c7}{H G:Hp}{i:Nat}{d:eD}{v:V}(h:lb m O K σ ρ H G)(b:i∉O)(e:eL K G d v):lb m O K (σ.set i (Y v)) (ρ.set i (Y d)) H G :=
 ⟨h.o.set b e,λk g z=>by obtain⟨a,f,c⟩:=h.z k g z;have j:i≠0:=λq=>b (q▸a);exact⟨a,by rw[av j];exact f,c⟩⟩
noncomputable def fW(f:c7->Od)(i:Nat):c7->Option gk:=λρ=>(f ρ).map λd=>.nx (ρ.set i (Y d))
def eZ(i:Nat) {a:Pos} (r:X.N.Nodup) (p:PV X O e f) (q:i∉O:=by decide) (l:X.N[i]?=Y x:=by rfl) (j:IM X.env.scope x:=by first|exact bW rfl|exact bA rfl) (b:swapsWith e (Y (.Name x a)) pos.line X.env=pure false:=by rfl)
  (n:X.fn x=true\/X.env.scope.names.lookup x=Y .local:=by first|exact .inl rfl|exact .inr rfl|assumption):wa X m O (.Assign [.Name x a] e pos) (fW f i) :=
 PS.imp (Gx r l j p b n) <| by rintro D σ H ⟨ρ,o,G,b,e,k⟩;obtain⟨d,s,rfl⟩:=aa.mp e;exact⟨ρ,d,G,b.o,s,λv t u _ g c h=>k _ t u g (lb.set ⟨c,b.z⟩ q h)⟩
noncomputable def pC(f:c7->Od)(i:Nat):c7->Option gk:=λρ=>(f ρ).bind λd=>if i<ρ.length then Y (.nx (ρ.set i (Y d))) else Z
def md(i:Nat) {a:Pos} (A:X.N.Nodup) (g:O.Nodup) (w:Xq X O e f) (y:i∈O:=by decide) (l:kL O=false:=by rfl) (h0:i≠0\/m=.dat\/m=.own:=by first|exact .inl (by decide)|exact .inr (.inl rfl)|exact .inr (.inr rfl)) (t:X.N[i]?=Y x:=by rfl) (s:IM X.env.scope x:=by first|exact bW rfl|exact bA rfl) (b:swapsWith e (Y (.Name x a)) pos.line X.env=pure false:=by rfl)
  (u:X.fn x=true\/X.env.scope.names.lookup x=Y .local:=by first|exact .inl rfl|exact .inr rfl|assumption):wa X m O (.Assign [.Name x a] e pos) (pC f i) :=
 PS.imp (Gx A t s w b u) <| by
  rintro D σ H ⟨ρ,o,G,b,e,k⟩;obtain⟨d,E,c⟩:=bind_some e;by_cases h:i<ρ.length
  ·rw[ag h] at c;cases c;refine⟨ρ,d,G,b.o,E,λv J K L _ q j C n=>?_⟩;rw[<-l] at n;obtain⟨I,r,B⟩:=j.new g y h n C;refine k _ _ I (q.trans r) ⟨B,λF p z=>?_⟩;rcases h0 with h0|h0|h0
   ·rw[av h0];exact b.z F p z
   ·rw[h0] at z;cases z
   ·rw[h0] at z;cases z
  ·rw[aj h] at c;cases c
def PP(X:Cx)(e:Expr)(π:Pl):Prop:=PE X e (λσ H Q=>∃q,Ao X.K σ H π q/\Q (.ref q) H)
def yq(i:Nat) (d:X.N[i]?=Y x:=by rfl) (b:Mc X.env.scope x:=by first|exact bW rfl|exact bA (bW rfl)|exact bA (bA rfl)) (c:zg x:=by decide)
  (a:(x==("__classdict__":Str))=false:=by decide):PP X (.Name x pos) (.sl i):=PE.imp (qx d b c a) λσ H Q ⟨q,r,k⟩=>⟨_,r,k⟩
def Bq(i:Nat) {c n:Str}{a:Pos} (h:fQ X.K c n) (g:X.N[i]?=Y x:=by rfl) (d:Mc X.env.scope x:=by first|exact bW rfl|exact bA (bW rfl)|exact bA (bA rfl)) (e:zg x:=by decide)
  (b:(x==("__classdict__":Str))=false:=by decide) (f:attributeBase (.Name x a) n X.env (eval (.Name x a) X.env)=eval (.Name x a) X.env:=by rfl):PP X (.Attribute (.Name x a) n pos) (.fl i c n) :=
 PE.imp (Cg (qx g d e b) f) <| by rintro σ H Q ⟨q,⟨C,p,v,o,u,t,s,r⟩,k⟩;obtain⟨w,m,l,j⟩:=h;have:=t.uniq m;subst this;exact⟨_,u,p,C,v,o,_,rfl,s,l,j,r,k⟩
theorem qs.lst{K:Fg}{G:Hp}{b:Lp}{q:Addr}{o:HO}(h:qs K G (.list b) q o):∃a,o=.lst a/\ez K G b a:=by
 rcases h with ⟨d,a,e,c,i⟩ | ⟨_,_,e,_⟩
 ·cases e;exact⟨a,c,i⟩
 ·cases e
def qs.mJ{q:Addr}{o:HO}(h:qs K G (.dict kvs) q o):∃a,o=.dK a/\fZ K G kvs a:=by
 rcases h with ⟨c,d,e,b,i⟩ | ⟨_,a,e,b,i⟩
 ·cases e
 ·cases e;exact⟨a,b,i⟩
def Ao.eq{l:Hp}{π:Pl}{q a:Addr}(h:Ao K σ H π q)(b:Ao K σ l π a)(e:eN H l):q=a:=by
 cases π with
 |sl i=>have n:σ[i]?=Y (Y (.ref q)):=h;have d:σ[i]?=Y (Y (.ref a)):=b;rw[n] at d;cases d;rfl
 |fl i c f=>obtain⟨C,p,w,v,t,y,s,r⟩:=h;obtain⟨z,u,o,m,k,x,j,g⟩:=b;rw[t] at k;cases k;rw[e _ _ s] at j;cases j;rw[r] at g;cases g;rfl
noncomputable def oG(π:Pl)(f:c7->Od):c7->Option gk:=λρ=>(qt π ρ).bind λl=>(f ρ).bind λd=>match l with
 |.list ds=>if ds.length<sizeLine then Y (.nx (va π (.list (ds++[d])) ρ)) else Z
 |_=>Z
def pZ{π:Pl}{a:Pos} (i:O.Nodup) (S:PP X o π) (T:PV X O e f) (E:π.ix∈O:=by decide) (t:v9 O π=false:=by rfl) (n:starEach [e] X.env=(false,eval e X.env)::starEach [] X.env:=by rfl)
  (g:attributeBase o "append" X.env (eval o X.env)=eval o X.env:=by rfl)
  (s:((backTo a (starEach [e] X.env)).all (λx=>!x.1)&&(backToKw a (keywordEach [] X.env)).all (λx=>x.1.isSome)&&decide (([e]:Lx).length+([]:List Keyword).length+(if ([]:List Keyword).isEmpty then 0 else 1)<30))=true:=by rfl)
  (c:(apos.endLine==a.line)=true:=by rfl) (b:(backTo a (starEach [] X.env)).any (·.1)=false:=by rfl)
  (p:swapsWith (.Call (.Attribute o "append" apos) [e] [] a) Z pos.line X.env=pure false:=by rfl):
  wa X m O (.Expr (.Call (.Attribute o "append" apos) [e] [] a) pos) (oG π f) :=
 PS.imp (ri (Bf bu PySem.F.slot_list_append PySem.F.type_list_append Bh S (oA T sM n) g s c n b) p) <| by
  rintro D σ H ⟨ρ,o,G,p,e,k⟩;obtain⟨l,I,U⟩:=bind_some e;obtain⟨d,V,h⟩:=bind_some U;obtain⟨C,rfl⟩:∃C,l=.list C:=by cases l<;>first|exact⟨_,rfl⟩|cases h
  dsimp only at h;by_cases y:C.length<sizeLine
  ·rw[ag y] at h;cases h;obtain⟨q,ob,r,R,N,_⟩:=p.o.place i E I rfl t;obtain⟨J,rfl,i4⟩:=N.lst;refine⟨q,r,.inl ⟨rfl,J,kQ.of R⟩,ρ,d,G,p.o,V,λv H' G' K L A Q=>?_⟩;obtain⟨q',P,M,B,w,W⟩:=A.place i E I rfl t;have:=Ao.eq r M K;subst this;obtain⟨u,rfl,j⟩:=w.lst;refine⟨q,u,v,rfl,rfl,B,by rw[<-j.length];exact y,?_⟩;exact k _ _ G' L ⟨W _ _ (.inl ⟨_,_,rfl,rfl,j.append (ez.cons Q ez.nil)⟩),p.z⟩
  ·rw[aj y] at h;cases h
end
section
variable {m:Md}{a:Expr}{fb fc:c7->Od}{p2:Pos}{rest:List Stmt}{g h:c7->Option gk}{gc:c7->Option Bool}
def QI(π:Pl):c7->Option gk:=λρ=>(qt π ρ).bind λl=>match l with
 |.list ds=>if ds.isEmpty=true then Z else Y (.nx (va π (.list ds.dropLast) ρ))
 |_=>Z
theorem ez.dropLast{K:Fg}{H:Hp}{b:Lp}{a:List V}(h:ez K H b a):ez K H b.dropLast a.dropLast:=by rw[List.dropLast_eq_take,List.dropLast_eq_take,h.length];exact h.take _
def QJ{π:Pl}{a:Pos} (i:O.Nodup) (u:PP X o π) (w:π.ix∈O:=by decide) (n:v9 O π=false:=by rfl)
  (c:attributeBase o "pop" X.env (eval o X.env)=eval o X.env:=by rfl) (b:(apos.endLine==a.line)=true:=by rfl)
  (g:swapsWith (.Call (.Attribute o "pop" apos) [] [] a) Z pos.line X.env=pure false:=by rfl):
  wa X m O (.Expr (.Call (.Attribute o "pop" apos) [] [] a) pos) (QI π) :=
 PS.imp (ri (MU bu PySem.F.slot_list_pop PySem.F.type_list_pop MW u c b) g) <| by
  rintro D σ H ⟨ρ,o,G,g,e,k⟩;obtain⟨l,x,d⟩:=bind_some e;obtain⟨h,rfl⟩:∃h,l=.list h:=by cases l<;>first|exact⟨_,rfl⟩|cases d
  dsimp only at d;by_cases j:h.isEmpty=true
  ·rw[ag j] at d;cases d
  ·rw[aj j] at d;cases d;obtain⟨q,A,r,s,t,y⟩:=g.o.place i w x rfl n;obtain⟨f,rfl,p⟩:=t.lst;have v:f.length - 1<f.length:=by
    have:=p.length;have:h≠[]:=λz=>j (by rw[z];rfl);have:=List.length_pos_iff.mpr this;omega
   exact⟨q,r,.inl ⟨rfl,f,kQ.of s⟩,q,f,_,rfl,rfl,s,aN v,k _ _ G (.refl G) ⟨y _ _ (.inl ⟨_,_,rfl,rfl,p.dropLast⟩),g.z⟩⟩
def Xr:V->V->V->Hp->(Hp->Prop)->Prop:=λo i v H Q=>∃p a k,o=.ref p/\i=kV k/\H p=Y (.dK a)/\a.length<sizeLine/\Q (upd H p (.dK (putK a k v)))
def Nn(r:X.A.units+64<cLine):Cb X Xr:=by intro a s σ H o i v l n u Q I c d b h;obtain⟨p,m,k,rfl,rfl,e,f,q⟩:=h;cases c;exact Kx (by omega) I (Qn.k e f) d b λj g=>⟨_,g,q⟩
def Cb.or{t u:P5}(h:Cb X t)(j:Cb X u):Cb X (λo i v H Q=>t o i v H Q\/u o i v H Q):=λa s σ H o i v f g b Q I e d c q=>q.elim (@h a s σ H o i v f g b Q I e d c) (@j a s σ H o i v f g b Q I e d c)
noncomputable def Ap(k d l:eD):Od:=match l with
 |.list ds=>match k with
  |.int i=>(Gu ds.length i).map λj=>.list (ds.set j d)
  |_=>Z
 |.dict kvs=>if kvs.length<sizeLine/\gE kvs=false then (o9 k).map λ_=>.dict (Ez k d kvs) else Z
 |_=>Z
def wK(π:Pl)(e c:c7->Od):c7->Option gk:=λρ=>(qt π ρ).bind λl=>(c ρ).bind λd=>(e ρ).bind λb=>(Ap b d l).map λa=>.nx (va π a ρ)
theorem ez.set{K:Fg}{H:Hp}{d:eD}{v:V}(i:eL K H d v):∀{c:Lp}{e:List V} (j:Nat),ez K H c e->ez K H (c.set j d) (e.set j v)
 |[],_,_,h=>by rw[ez.eP.mp h];exact ez.nil
 |x::c,_,j,h=>by
  obtain⟨u,r,rfl,a,b⟩:=ez.eF.mp h;cases j with
  |zero=>exact ez.cons i b
  |succ j=>exact ez.cons a (ez.set i j b)
def rp(hu:X.A.units+64<cLine) {π:Pl}{b:Pos} (n:O.Nodup) (ho:PP X o π) (hk:PV X O a fa) (he:PV X O e f) (M:π.ix∈O:=by decide) (x:v9 O π=false:=by rfl)
  (ha:∀v,assign (.Subscript o a b) X.env v=(do
   let ov <-holding [v] (eval o X.env);let iv <-holding [v,ov] (eval a X.env)
   standAt b
   holding [v,ov,iv] (setItem ov iv v)
   release [v,ov,iv] []):=by intro _;rfl)
  (u:swapsWithSole [.Subscript o a b] e pos.line X.env=pure false:=by rfl) (hw:swappedStores [.Subscript o a b] e X.env=pure Z:=by rfl)
  (h1:(assignEach [.Subscript o a b] X.env).map (·.2)=[assign (.Subscript o a b) X.env]:=by rfl):
  wa X m O (.Assign [.Subscript o a b] e pos) (wK π fa f) :=
 PS.imp (My he (Mx ho hk (Cb.or Ei (Nn hu)) ha) u hw h1) <| by
  rintro D σ H ⟨ρ,o,G,u,e,k⟩;obtain⟨l,N,ea⟩:=bind_some e;obtain⟨d,e2,eb⟩:=bind_some ea;obtain⟨J,e3,ec⟩:=bind_some eb;obtain⟨l',g,rfl⟩:=aa.mp ec;have E:vb l=true:=by
   cases l<;>try (simp[Ap] at g;done)
   ·rfl
   ·rename_i c;simp only[Ap] at g;by_cases h:c.length<sizeLine/\gE c=false
    ·show (!gE c)=true;rw[h.2];rfl
    ·rw[aj h] at g;cases g
  refine⟨ρ,d,G,u.o,e2,λv H1 G1 _ I t W=>?_⟩;obtain⟨q,ob,r,hq,oc,_⟩:=t.place n M N E x;refine⟨q,r,ρ,J,G1,t,e3,λkv H2 Q S y C L=>?_⟩;obtain⟨q',U,T,w,i,P⟩:=C.place n M N E x;have:=Ao.eq r T S;subst this;have s:=W.same y;cases l with
  |list ds=>
   obtain⟨R,rfl,p⟩:=i.lst;cases J<;>try (simp[Ap] at g;done)
   rename_i j;simp only[Ap] at g;obtain⟨K,F,rfl⟩:=aa.mp g;refine .inl ⟨q,R,j,K,rfl,eL.eW.mp L,w,by rw[<-p.length];exact F,?_⟩;exact k _ _ Q (I.trans y) ⟨P _ _ (.inl ⟨_,_,rfl,rfl,p.set s K⟩),u.z⟩
  |dict c=>
   obtain⟨B,rfl,p⟩:=i.mJ;simp only[Ap] at g;by_cases h:c.length<sizeLine/\gE c=false
   ·rw[ag h] at g;obtain⟨V,F,rfl⟩:=aa.mp g;have:=gI F;subst this;refine .inr ⟨q,B,V,rfl,hV L,w,by rw[<-p.length];exact h.1,?_⟩;exact k _ _ Q (I.trans y) ⟨P _ _ (.inr ⟨_,_,rfl,rfl,p.put s⟩),u.z⟩
   ·rw[aj h] at g;cases g
  |_=>cases E
noncomputable def tT(π:Pl)(f:c7->Od):c7->Option gk:=λρ=>(qt π ρ).bind λl=>(f ρ).bind λd=>match l,d with
 |.list ds,.list a=>if ds.length+a.length<=sizeLine then Y (.nx (va π (.list (ds++a)) ρ)) else Z
 |_,_=>Z
def He{π:Pl}{a:Pos} (j:O.Nodup) (ho:PP X o π) (he:Xq X O e f) (Q:π.ix∈O:=by decide) (u:v9 O π=false:=by rfl) (p:starEach [e] X.env=(false,eval e X.env)::starEach [] X.env:=by rfl)
  (h:attributeBase o "extend" X.env (eval o X.env)=eval o X.env:=by rfl)
  (t:((backTo a (starEach [e] X.env)).all (λx=>!x.1)&&(backToKw a (keywordEach [] X.env)).all (λx=>x.1.isSome)&&decide (([e]:Lx).length+([]:List Keyword).length+(if ([]:List Keyword).isEmpty then 0 else 1)<30))=true:=by rfl)
  (g:(apos.endLine==a.line)=true:=by rfl) (c:(backTo a (starEach [] X.env)).any (·.1)=false:=by rfl)
  (s:swapsWith (.Call (.Attribute o "extend" apos) [e] [] a) Z pos.line X.env=pure false:=by rfl):
  wa X m O (.Expr (.Call (.Attribute o "extend" apos) [e] [] a) pos) (tT π f) :=
 PS.imp (ri (Bf bu cJ PySem.F.type_list_extend Kt ho (oA he sM p) h t g p c) s) <| by
  rintro D σ H ⟨ρ,o,G,s,e,k⟩;obtain⟨l,R,ea⟩:=bind_some e;obtain⟨d,e2,i⟩:=bind_some ea;obtain⟨L,rfl⟩:∃L,l=.list L:=by cases l<;>first|exact⟨_,rfl⟩|(cases d<;>cases i)
  obtain⟨K,rfl⟩:∃K,d=.list K:=by cases d<;>first|exact⟨_,rfl⟩|cases i
  dsimp only at i;by_cases B:L.length+K.length<=sizeLine
  ·rw[ag B] at i;cases i;obtain⟨q,ob,r,hq,oc,_⟩:=s.o.place j Q R rfl u;obtain⟨S,rfl,i4⟩:=oc.lst;refine⟨q,r,.inl ⟨rfl,S,kQ.of hq⟩,ρ,_,G,s.o,e2,λv H' G' B' T U E J W=>?_⟩;obtain⟨b,ob,rfl,rfl,y⟩:=W.cont rfl;obtain⟨M,rfl,P⟩:=y.lst;obtain⟨G2,N,g2,C⟩:=E.grow J.same;obtain⟨q',ob',V,I,A,cl⟩:=C.place j Q R rfl u;have:=Ao.eq r V (T.trans J.same);subst this;obtain⟨w,rfl,n⟩:=A.lst;refine⟨q,b,w,M,rfl,rfl,I,fL J.nd (b,.lst M) (by simp),by rw[<-n.length,<-P.length];exact B,?_⟩;exact k _ _ G2 (U.trans N) ⟨cl _ _ (.inl ⟨_,_,rfl,rfl,n.append (P.same N)⟩),s.z⟩
  ·rw[aj B] at i;cases i
noncomputable def jy(i:Nat)(c n:Str)(f:c7->Od):c7->Option gk:=λρ=>(ρ[i]?).join.bind λx=>(f ρ).bind λd=>match x with
 |.dict ((.none,.str a)::r)=>if a=c/\lU c n=false/\r.length<1000 then Y (.nx (ρ.set i (Y (.dict ((.none,.str c)::pW n d r))))) else Z
 |_=>Z
theorem iP(i:Nat) {c n:Str}{a P:Pos} (w:O.Nodup) (hC:fQ X.K c n) (he:PV X O e f) (hO:i∈O:=by decide) (hN:X.N[i]?=Y x:=by rfl) (hv:Mc X.env.scope x:=by first|exact bW rfl|exact bA (bW rfl)|exact bA (bA rfl)) (hd:zg x:=by decide)
  (I:(x==("__classdict__":Str))=false:=by decide) (j:swapsWith e (Y (.Attribute (.Name x P) n a)) pos.line X.env=pure false:=by rfl):
  wa X m O (.Assign [.Attribute (.Name x P) n a] e pos) (jy i c n f) :=
 PS.imp (GJ (qx hN hv hd I) he j) <| by
  rintro D σ H ⟨ρ,o,G,j,e,k⟩;obtain⟨y,e1,ea⟩:=bind_some e;obtain⟨d,e2,g⟩:=bind_some ea;obtain⟨C',g1,g2,g3⟩:=hC;split at g
  ·rename_i M r;by_cases E:M=c/\lU c n=false/\r.length<1000
   ·rw[ag E] at g;cases g;obtain⟨rfl,B,A⟩:=E;refine⟨ρ,d,G,j.o,e2,λv H' s _ U F i'=>?_⟩;obtain⟨v0,T,B1,S,e3,L,l,V,k1,W,cl,_⟩:=F.own w hO (join_some e1);obtain⟨C,p,b,J,t,rfl,rfl,R,Q⟩:=V.inst;have:=R.uniq g1;subst this;have q:∀u:HO,T++(((p,u)::(b,HO.own p)::t)++S)=T++(p,u)::((b,HO.own p)::t++S):=λu=>by simp
    rw[q] at L l;refine⟨_,e3,p,C,b,J,rfl,by rw[L];exact fL l.nd (p,.ins C b J) (by simp),g2,g3,by rw[Q.len];exact A,?_⟩;have h:jB (kL O) X.K s (.dict ((.none,.str M)::pW n d r)) (.ref p) ((p,.ins C b (lT n v J))::(b,.own p)::t):=.inr ⟨M,C,p,b,_,_,t,rfl,rfl,rfl,R,Q.put B i'⟩;rw[L,nO l.nd,<-q];exact k _ _ s U ⟨cl s _ _ (.refl s) h (by rw[q];exact l.put (by rw[<-q];exact k1.append (h.mG.append W))),j.z⟩
   ·rw[aj E] at g;cases g
  ·cases g
noncomputable def EE(i:Nat)(c n:Str)(f:c7->Od):c7->Option gk:=λρ=>(ρ[i]?).join.bind λx=>(f ρ).bind λd=>match x with
 |.dict ((.none,.str a)::r)=>if a=c/\lU c n=true/\r.length<1000/\pB n r=Z/\vb d=true/\(pX c n=false\/Hc d=true) then Y (.nx (ρ.set i (Y (.dict ((.none,.str c)::pW n d r))))) else Z
 |_=>Z
theorem tV(i:Nat) {c n:Str}{t ep:Pos} (R:O.Nodup) (hC:fQ X.K c n) (he:Xq X O e f) (hO:i∈O:=by decide) (hN:X.N[i]?=Y x:=by rfl) (hv:Mc X.env.scope x:=by first|exact bW rfl|exact bA (bW rfl)|exact bA (bA rfl)) (hd:zg x:=by decide)
  (hcd:(x==("__classdict__":Str))=false:=by decide) (J:swapsWith e (Y (.Attribute (.Name x ep) n t)) pos.line X.env=pure false:=by rfl):
  wa X m O (.Assign [.Attribute (.Name x ep) n t] e pos) (EE i c n f) :=
 PS.imp (GJ (qx hN hv hd hcd) he J) <| by
  rintro D σ H ⟨ρ,o,G,J,e,k⟩;obtain⟨y,e1,ea⟩:=bind_some e;obtain⟨d,e2,w⟩:=bind_some ea;obtain⟨C',g1,g2,g3⟩:=hC;split at w
  ·rename_i c' r;by_cases hz:c'=c/\lU c n=true/\r.length<1000/\pB n r=Z/\vb d=true/\(pX c n=false\/Hc d=true)
   ·rw[ag hz] at w;cases w;obtain⟨rfl,W,V,U,T,S⟩:=hz;refine⟨ρ,d,G,J.o,e2,λv H' B B2 _ sG hs' fB M=>?_⟩;obtain⟨q,b,rfl,rfl,oc⟩:=M.cont T;obtain⟨v0,l,B1,j,e3,eH,fm,ot,k1,k2,cl,_⟩:=hs'.own R hO (join_some e1);obtain⟨C,p,a,g,h,rfl,rfl,a4,a5⟩:=ot.inst;have:=a4.uniq g1;subst this;have L:∀Q:HO,l++(((p,Q)::(a,HO.own p)::(h++[(q,b)]))++j)=l++(p,Q)::((a,HO.own p)::(h++[(q,b)])++j):=λQ=>by simp
    have u:((q,b)::(l++(((p,HO.ins C a g)::(a,HO.own p)::h)++j))).Perm (l++(((p,HO.ins C a g)::(a,HO.own p)::(h++[(q,b)]))++j)):=by
     have h1:l++(((p,HO.ins C a g)::(a,HO.own p)::(h++[(q,b)]))++j)=(l++((p,HO.ins C a g)::(a,HO.own p)::h))++((q,b)::j):=by simp
     have h2:(q,b)::(l++(((p,HO.ins C a g)::(a,HO.own p)::h)++j))=(q,b)::((l++((p,HO.ins C a g)::(a,HO.own p)::h))++j):=by simp
     rw[h1,h2];exact List.perm_middle.symm
    have P:pV (l++(((p,HO.ins C a g)::(a,HO.own p)::(h++[(q,b)]))++j)):=k1.append ((pV.ins (a5.mG.append (.one oc.frm .nil))).append k2);have F:j4 B ((q,b)::(l++(((p,HO.ins C a g)::(a,HO.own p)::h)++j))):=by have:=fm.join (A:=[(q,b)]) (by rw[<-eH];exact fB);exact this
    have s:=F.perm u P;have I:eU H' [(q,b)]=eU B (l++(((p,HO.ins C a g)::(a,HO.own p)::(h++[(q,b)]))++j)):=by rw[<-ie F.nd u,eH];rfl
    rw[L] at I s;rw[I];refine⟨_,e3,p,C,a,g,rfl,fL s.nd (p,.ins C a g) (by simp),g2,g3,by rw[a5.len];exact V,?_⟩;have E:jB (kL O) X.K B (.dict ((.none,.str c')::pW n d r)) (.ref p) ((p,.ins C a (lT n (.ref q) g))::(a,.own p)::(h++[(q,b)])):=.inr ⟨c',C,p,a,_,_,_,rfl,rfl,rfl,a4,a5.add W (oc.gen S) U⟩;rw[nO s.nd,<-L];exact k _ _ B sG ⟨cl B _ _ (.refl B) E (by rw[L];exact s.put (by rw[<-L];exact k1.append (E.mG.append k2))),J.z⟩
   ·rw[aj hz] at w;cases w
  ·cases w
noncomputable def KL(i:Nat)(c:Int->Int->Int)(f:c7->Od):c7->Option gk:=λρ=>(ρ[i]?).join.bind λx=>(f ρ).bind λd=>match x,d with
 |.int a,.int b=>Y (.nx (ρ.set i (Y (.int (c a b)))))
 |_,_=>Z
def xJ(i:Nat) {a:Pos}{h:Operator}{o:Int->Int->Int} (B:X.N.Nodup) (s:Wf X h (WD o)) (A:PV X O e f) (n:i∉O:=by decide) (t:X.N[i]?=Y x:=by rfl) (r:IM X.env.scope x:=by first|exact bW rfl|exact bA rfl)
  (w:X.fn x=true\/X.env.scope.names.lookup x=Y .local:=by first|exact .inl rfl|exact .inr rfl|assumption):wa X m O (.AugAssign (.Name x a) h e pos) (KL i o f) :=
 PS.imp (Mz B t r A s w) <| by
  rintro D σ H ⟨ρ,L,G,c,e,k⟩;obtain⟨y,J,C⟩:=bind_some e;obtain⟨d,I,g⟩:=bind_some C;obtain⟨j,rfl⟩:∃j,y=.int j:=by cases y<;>first|exact⟨_,rfl⟩|(cases d<;>cases g)
  obtain⟨l,rfl⟩:∃l,d=.int l:=by cases d<;>first|exact⟨_,rfl⟩|cases g
  cases g;obtain⟨v,F,E⟩:=c.o.k9 i _ (join_some J) n;refine⟨v,F,ρ,_,G,c.o,I,λu M K _ p b q=>⟨j,l,eL.eW.mp E,eL.eW.mp q,?_⟩⟩;exact k _ _ K p (lb.set ⟨b,c.z⟩ n (eL.eW.mpr rfl))
inductive Tg where
 |one (i:Nat)|many (is:List Nat)
def Tg.free(O:List Nat):Tg->Prop
 |.one i=>i∉O
 |.many is=>∀i∈is,i∉O
instance {O:List Nat}:(t:Tg)->Decidable (t.free O)
 |.one i=>inferInstanceAs (Decidable (i∉O))
 |.many is=>inferInstanceAs (Decidable (∀i∈is,i∉O))
noncomputable def CF:c7->List Nat->Lp->c7
 |ρ,i::is,d::ds=>CF (ρ.set i (Y d)) is ds
 |ρ,_,_=>ρ
noncomputable def Hf:Tg->eD->c7->Option c7
 |.one i,d,ρ=>Y (ρ.set i (Y d))
 |.many is,.tuple ds,ρ=>if ds.length=is.length then Y (CF ρ is ds) else Z
 |_,_,_=>Z
noncomputable def xK:St->List Nat->List V->St
 |σ,i::is,v::vs=>xK (σ.set i (Y v)) is vs
 |σ,_,_=>σ
def gT(K:Fg):Tg->TG
 |.one i=>IV i
 |.many is=>λv σ H Q=>∃p a,v=.ref p/\qq K H p a/\a.length=is.length/\Q (xK σ is a) H
theorem lb.vd{K:Fg}{H G:Hp}:∀{is:List Nat}{σ:St}{ρ:c7}{b:Lp}{a:List V},lb m O K σ ρ H G->(∀i∈is,i∉O)->ez K G b a->lb m O K (xK σ is a) (CF ρ is b) H G
 |[],σ,ρ,b,a,h,_,_=>by cases b<;>cases a<;>exact h
 |i::is,σ,ρ,[],a,h,_,d=>by rw[ez.eP.mp d];exact h
 |i::is,σ,ρ,d::b,a,h,hi,ds'=>by obtain⟨v,r,rfl,e,c⟩:=ez.eF.mp ds';exact lb.vd (is:=is) (σ:=σ.set i (Y v)) (ρ:=ρ.set i (Y d)) (h.set (hi i (by simp)) e) (λj f=>hi j (ah _ f)) c
def lb.bind{ρ':c7}{a:Tg}{Q:St->Hp->Prop}(h:lb m O K σ ρ H G)(c:a.free O)(i:eL K G d v)(e:Hf a d ρ=Y ρ')(k:∀σ',lb m O K σ' ρ' H G->Q σ' H):gT K a v σ H Q:=by
 cases a with
 |one j=>cases e;exact k _ (h.set c i)
 |many is=>
  cases d<;>try (simp[Hf] at e;done)
  rename_i n;dsimp only[Hf] at e;by_cases b:n.length=is.length
  ·rw[ag b] at e;cases e;obtain⟨p,g,rfl,l,f⟩:=i.gP;exact⟨p,g,rfl,h.o.sub.rL l,by rw[<-f.length];exact b,k _ (h.vd c f)⟩
  ·rw[aj b] at e;cases e
def me(i:Nat)(d:X.N.Nodup)(b:X.N[i]?=Y x:=by rfl)(a:IM X.env.scope x:=by first|exact bW rfl|exact bA rfl)(c:X.fn x=true\/X.env.scope.names.lookup x=Y .local:=by first|exact .inl rfl|exact .inr rfl|assumption):PG X (.Name x pos) (gT X.K (.one i)):=tG d b a c
def nh(i j:Nat) {y:Str}{b a:Pos}{h:Nat} (s:X.calm=true) (f:X.N.Nodup) (o:X.N[i]?=Y x:=by rfl) (n:X.N[j]?=Y y:=by rfl) (l:IM X.env.scope x:=by first|exact bW rfl|exact bA rfl) (k:IM X.env.scope y:=by first|exact bW rfl|exact bA rfl)
  (r:X.fn x=true\/X.env.scope.names.lookup x=Y .local:=by first|exact .inl rfl|exact .inr rfl|assumption) (d:X.fn y=true\/X.env.scope.names.lookup y=Y .local:=by first|exact .inl rfl|exact .inr rfl|assumption)
  (m:(assignEach [.Name x b,.Name y a] X.env).length=2:=by rfl) (c:(assignEach [.Name x b,.Name y a] X.env).findIdx? (·.1)=Z:=by rfl):PG X (.Tuple [.Name x b,.Name y a] h pos) (gT X.K (.many [i,j])) :=
 PG.imp (Mw s (xW (tG f o l r) (xW (tG f n k d) IW)) m c) <| by
  rintro v σ H Q ⟨p,e,u,t,g,q⟩;refine⟨p,e,u,t,g,?_⟩
  match e,g with
  |[v1,v2],_=>exact⟨v1,[v2],rfl,v2,[],rfl,rfl,q⟩
noncomputable def Xs(f:c7->Od)(a:Tg):c7->Option gk:=λρ=>(f ρ).bind λd=>(Hf a d ρ).map .nx
end
section
variable {m:Md}{a:Expr}{fb fc:c7->Od}{p2:Pos}{rest:List Stmt}{g h:c7->Option gk}{gc:c7->Option Bool}
def pa(K:Fg)(J:It)(e:Lp)(G:Hp):Prop :=
 ∀H',eN G H'->(J.stop e.length H')/\∀(i:Nat) (d:eD),e[i]?=Y d->J.go i H'/\∀x b,J.Me i H' x b->eN H' b/\∀c,eN G c->(∀a,H' a=Z->c a=b a)->eL K c d x
def tOI(K:Fg)(q:c7->Option Lp):TI:=λσ G R=>∃ρ b,jA K G σ ρ/\q ρ=Y b/\∀J a,eN G a->pa K J b a->R J a
def Wi(X:Cx)(b a:Expr)(q:c7->Option Lp):Prop:=PI X b a (tOI X.K q)
def QK(h:PD X e f):Wi X tg e (wJ f) :=
 PI.imp (PI.or (Cd h) (MA h)) <| by
  rintro σ H R ⟨ρ,C,u,e,k⟩;obtain⟨d,w,a⟩:=bind_some e;cases d<;>try (simp at a;done)
  ·cases a;refine .inl ⟨ρ,_,u,w,λv t m r=>?_⟩;obtain⟨p,b,rfl,a,j⟩:=eL.fh.mp r;refine⟨p,rfl,⟨b,a⟩,k _ t m λA c=>⟨⟨b,c.seq a,by rw[j.length];exact az _⟩,λi d q=>?_⟩⟩;obtain⟨x,g,s⟩:=j.get q;refine⟨⟨b,x,c.seq a,g⟩,?_⟩;rintro y z ⟨o,n⟩;have:=n b (c.seq a);rw[g] at this;cases this;subst o;exact⟨.refl _,λB l _=>s.same l⟩
  ·cases a;refine .inr ⟨ρ,_,u,w,λv t m r=>?_⟩;obtain⟨p,b,rfl,a,j⟩:=r.gP;refine⟨p,rfl,⟨b,a⟩,k _ t m λA c=>⟨⟨b,c.rL a,by rw[j.length];exact az _⟩,λi d q=>?_⟩⟩;obtain⟨x,g,s⟩:=j.get q;refine⟨⟨b,x,c.rL a,g⟩,?_⟩;rintro y z ⟨o,n⟩;have:=n b (c.rL a);rw[g] at this;cases this;subst o;exact⟨.refl _,λB l _=>s.same l⟩
def POJ(X:Cx)(O:List Nat)(e a:Expr)(q:c7->Option Lp):Prop:=PI X e a (λσ H R=>∃ρ d G,ig O X.K σ ρ H G/\q ρ=Y d/\∀J b c,eN H b->eN G c->ig O X.K σ ρ b c->pa X.K J d c->R J b)
def PQ(O:List Nat)(q:c7->Option Lp):c7->Option Lp:=λρ=>q (iT O ρ)
def qJ{a:Expr}(h:Wi X tg a q):POJ X O tg a (PQ O q) :=
 PI.imp (PI.frame h) <| by rintro σ H R ⟨ρ,j,G,b,i,k⟩;obtain⟨B,g,f,d⟩:=b.ex;refine⟨G,B,g,f,iT O ρ,j,b.rest,i,λJ l c w e=>?_⟩;subst g;exact k J _ l (sP f.nd c) c (ig.CD b.len d b.k9 c e) w
def so(q:c7->Option Lp)(a:Tg)(g:c7->Option gk):c7->Option gk:=λρ=>(q ρ).bind λb=>qr (Hf a) g b ρ
def oH{a:Expr}{t:Tg} (hp:PassesOwn (model X.prog X.w) X.A X.env X.xe) (hc:X.calm=true) (Q:POJ X O tg a q) (hg:PG X tg (gT X.K t)) (hO:t.free O) (hb:rP X m O body g)
  (s:∀x,foldedSetIterable a X.env x=pure x:=by intro _;rfl):wa X m O (.For tg a body [] pos) (so q t g) :=
 PS.imp (GC hp hc Q hg hb s) <| by
  rintro D σ H ⟨ρ,o,G0,s,e,k⟩;obtain⟨b,e1,e2⟩:=bind_some e;refine⟨ρ,b,G0,s.o,e1,λJ H1 L _ E h1 w=>?_⟩;refine⟨λi P σ' v=>P=b.length - i/\i<=b.length/\∃ρ' C,eN L C/\lb m O X.K σ' ρ' v C/\qr (Hf t) g (b.drop i) ρ'=Y o,⟨b.length,by simp,cD _,ρ,L,.refl _,⟨h1,s.z⟩,by simpa using e2⟩,?_⟩;rintro i P σ' v ⟨rfl,Q,ρ',C,r,f,n⟩;obtain⟨W,V⟩:=w v (r.trans f.o.sub);by_cases h:i<b.length
  ·right;have hd:b[i]?=Y b[i]:=aN h;obtain⟨U,T⟩:=V i _ hd;rw[bJ h] at n;unfold qr at n;obtain⟨N,e4,u⟩:=bind_some n;obtain⟨ρ1,e6,e7⟩:=bind_some e4;refine⟨U,λσ3 R=>∃ρ3 B,eN L B/\lb m O X.K σ3 ρ3 R B/\qr (Hf t) g (b.drop (i+1)) ρ3=Y o,by rintro σ3 R ⟨ρ3,B,s3,h3,G⟩;exact⟨b.length - (i+1),by omega,rfl,h,ρ3,B,s3,h3,G⟩,λx H2 y=>?_⟩;obtain⟨r1,r2⟩:=T x H2 y;obtain⟨S,M,g2,F⟩:=f.o.grow r1;have i4:=r2 S (r.trans M) g2;refine lb.bind (m:=m) ⟨F,f.z⟩ hO i4 e6 λσ5 h5=>⟨ρ1,N,S,h5,e7,?_⟩
   have c:=r.trans M;cases N with
   |nx ρ3=>exact λσ6 I p j l=>⟨ρ3,p,c.trans j,l,u⟩
   |ct ρ3=>exact λσ6 I p j l=>⟨ρ3,p,c.trans j,l,u⟩
   |bk ρ3=>cases u;exact λσ6 I p j l=>k σ6 I p (E.trans (c.trans j)) l
   |rt d=>cases u;exact S0.later (E.trans c) k
  ·have G:i=b.length:=by omega
   subst G;rw[dY] at n;cases n;exact .inl ⟨W,k σ' v C (E.trans r) f⟩
noncomputable def ve(c:c7->Option Bool)(g:c7->Option gk):Nat->c7->Option gk
 |0,_=>Z
 |n+1,ρ=>(c ρ).bind λb=>if b=true then (g ρ).bind λo=>match o with
  |.nx ρ'=>ve c g n ρ'
  |.ct ρ'=>ve c g n ρ'
  |.bk ρ'=>Y (.nx ρ')
  |.rt d=>Y (.rt d)
  else Y (.nx ρ)
def Jk:Nat:=1000000
def Hg(c:c7->Option Bool)(g:c7->Option gk):c7->Option gk:=λρ=>ve c g Jk ρ
def Br(L:PassesOwn (model X.prog X.w) X.A X.env X.xe)(M:Bl X c gc)(N:rP X m O body g):wa X m O (.While c body [] pos) (Hg gc g) :=
 PS.imp (Eb L M N) <| by
  rintro D σ H ⟨ρ,o,v,J,e,k⟩;refine⟨λn σ' E=>∃ρ' x,eN v x/\lb m O X.K σ' ρ' E x/\ve gc g n ρ'=Y o,⟨Jk,ρ,v,.refl _,J,e⟩,?_⟩;rintro n σ' E ⟨ρ',x,y,f,t⟩;cases n with
  |zero=>cases t
  |succ n=>
   unfold ve at t;obtain⟨b,Q,s⟩:=bind_some t;refine⟨ρ',b,f.o.full,Q,λR I=>?_⟩;obtain⟨G,h,_,j⟩:=f.o.grow I;cases b with
   |false=>rw[aj aB] at s ⊢;cases s;exact k σ' R G (y.trans h) ⟨j,f.z⟩
   |true=>
    rw[ag rfl] at s ⊢;obtain⟨B,P,r⟩:=bind_some s;refine⟨λσ3 C=>∃ρ3 F,eN v F/\lb m O X.K σ3 ρ3 C F/\ve gc g n ρ3=Y o,λσ3 C q=>⟨n,cF n,q⟩,ρ',B,G,⟨j,f.z⟩,P,?_⟩;have a:=y.trans h;cases B with
    |nx ρ3=>exact λσ6 u p i l=>⟨ρ3,p,a.trans i,l,r⟩
    |ct ρ3=>exact λσ6 u p i l=>⟨ρ3,p,a.trans i,l,r⟩
    |bk ρ3=>cases r;exact λσ6 u p i l=>k σ6 u p (a.trans i) l
    |rt d=>cases r;exact S0.later a k
def Np(h:Bool)(K:Fg)(n:Nat)(f:Lp->Option (eD×eD)):Sp:=λvs H Q _=>∃e a i ds d b G B,vs=e::a/\H=eU G B/\j4 G B/\jB h K G i e B/\ez K G ds a/\ds.length+1=n/\f (i::ds)=Y (d,b) /\
 ∀v c g,eN G c->j4 c g->jB h K c b e g->eL K c d v->Q v (eU c g)
abbrev Xt(K:W.Frag)(n:Nat)(f:List eD->Option (eD×eD)):Sp:=Np false K n f
noncomputable def pD(N:Lr)(g:c7->Option gk):Lp->Option (eD×eD):=λds=>(g (gY N ds)).bind λo=>match o with
 |.rt (.tuple [d,a])=>Y (d,a)
 |.nx ρ=>(ρ[0]?).join.map λa=>(.none,a)
 |_=>Z
noncomputable def mU(f:c7->Od):c7->Option gk:=λρ=>(Nl f ρ).bind λd=>(ρ[0]?).join.map λa=>.rt (.tuple [d,a])
def lb.out{i:V}{r:eD}(j:O.Nodup)(m:lb (.io dp i) O K σ ρ H G)(e:(ρ[0]?).join=Y r):∃c B,eN G c/\H=eU c B/\j4 c B/\jB dp K c r i B:=by
 obtain⟨u,t,s⟩:=m.z dp i rfl;obtain⟨v,g,h,d,q,w,f,b,l,k,_,_⟩:=m.o.own j u (join_some e);rw[s] at b;rw[t] at q;cases q;have a:(g++(h++d)).Perm (h++(g++d)):=by rw[<-aV,<-aV];exact cU _ a6
 have p:j4 G (h++(g++d)):=f.perm a (b.mG.append (l.append k));have n:=p.KI (l.append k);exact⟨eU G (g++d),h,n.same,by rw[w,ie f.nd a,jg],p.KH b.mG,b.same n.same⟩
def jh{g:V}(a:O.Nodup)(h:PD X e f):wa X (.io dp g) O (.Return (Y e) pos) (mU f) :=
 PS.imp (uZ h) <| by rintro D σ H ⟨ρ,o,G,c,e,k⟩;obtain⟨d,A,y⟩:=bind_some e;obtain⟨F,w,rfl⟩:=aa.mp y;obtain⟨u,t⟩:=EB A;refine⟨ρ,d,c.o.full,u,λv I m i=>?_⟩;obtain⟨J,j,_,b⟩:=c.o.grow m;obtain⟨E,B,l,s,q,n⟩:=lb.out (σ:=σ) (ρ:=ρ) a ⟨b,c.z⟩ w;obtain⟨x,C,r,p⟩:=k;cases r;rw[s];exact p v E B (j.trans l) q n (i.jV t)
noncomputable def Nq:c7->Option gk:=λρ=>(ρ[0]?).join.map λa=>.rt (.tuple [.none,a])
def KN{b:V}(a:O.Nodup):wa X (.io dp b) O (.Return Z pos) Nq :=
 PS.imp IU <| by rintro D σ H ⟨ρ,o,G,g,e,k⟩;obtain⟨p,l,rfl⟩:=aa.mp e;obtain⟨n,B,c,j,h,d⟩:=lb.out a g l;obtain⟨x,m,i,f⟩:=k;cases i;rw[j];exact f .k9 n B c h d (eL.g9.mpr rfl)
theorem S1{P:Program}{w:World}{m:Heap}{b:Str}{R:Addr}{N T:Lr}{k:Nat} (F:Jb K x b st R fd) (S:iy N T (eV st)) (hn:n=T.length) (h1:n≠0) (X:(0::O).Nodup) (hO:∀i∈O,n<=i)
  (r:∀(v0:V) (qe:Value) (A:Around) (outer:List Env) (s:Shared) (H:Hp) (E:XK),iD k (A.deeper (envOfC b (eV st) (zB s) R qe)) ->
   rP (u5 uW P w K mg m N b (eV st) R qe A outer s H E).Mt (.io (kL (0::O)) v0) (0::O) (jc st) g):kX P w K mg m uW (k+1) R fd T (Np (kL (0::O)) K n (pD N g)):=by
 refine F.ok S (by rintro vs H Q E ⟨v0,a,f,ds,d,J,G,B,I,_,_,_,i,l,_⟩;rw[I,<-hn,<-l,ax,<-i.length]) ?_;rintro qe A outer s H vs Q E hr ⟨v0,a,f,ds,d,J,G,B,I,eH,M,ot,i,l,e,k⟩;refine⟨_,r v0 qe A outer s H E hr,?_⟩;subst I eH;obtain⟨o,I,t⟩:=bind_some e;have p:ez K (eU G B) (f::ds) (v0::a):=ez.cons (ot.Mf M.same λx hx=>fL M.nd x hx) (i.same M.same);have hd:=pU (N:=N) p;have D:(gY N (f::ds))[0]?=Y (Y f):=rfl;have c:∀j∈O,((gY N (f::ds))[j]?).join=Z:=λj hj=>by
  have:¬ j<(f::ds).length:=by have:=hO j hj;rw[ax];omega
  unfold gY;rw[aK (by simpa using this),bt];split<;>rfl
 have U:∀L:List Nat,(∀j∈L,j∈O)->ik (kL (0::O)) K (lh N (v0::a)) (gY N (f::ds)) G L []:=by
  intro L;induction L with
  |nil=>intro _;rfl
  |cons j L ih=>exact λh=>.inl ⟨c j (h j (by simp)),ih λi hi=>h i (ah _ hi)⟩
 obtain⟨u0,hu0,aa4⟩:=hd.2 0 f D;have v:(lh N (v0::a))[0]?=Y (Y v0):=rfl;refine⟨gY N (f::ds),o,G,⟨⟨hd.1,⟨B,rfl,M,.inr ⟨f,v0,B,[],D,v,by simp,ot,U O λ_ h=>h⟩⟩,λj dj q hj=>?_⟩,λdp1 v1 z=>⟨by simp,by cases z;exact v,by cases z;rfl⟩⟩,I,?_⟩
 ·
  have hj0:j≠0:=λz=>hj (by rw[z];simp);have hd2:=pU (K:=K) (H:=G) (N:=N) (vs:=v0::a) (ds:=.none::ds);have hh:ez K G ds a:=i;cases j with
  |zero=>exact absurd rfl hj0
  |succ j=>
   by_cases C:j<ds.length
   ·have q':ds[j]?=Y dj:=by
     unfold gY at q;rw[ai,bf,bQ,aT (by simpa using C),ay] at q;cases z:ds[j]? with
     |none=>rw[z] at q;cases q
     |some y=>rw[z] at q;cases q;rfl
    obtain⟨u,a1,a2⟩:=hh.get q';refine⟨u,?_,a2⟩;have Xo:j<a.length:=(aA.mp a1).1;unfold lh;rw[ai,bf,bQ,aT (by simpa using Xo),ay,a1];rfl
   ·unfold gY at q;rw[ai,bf,bQ,aK (by simpa using C),bt] at q;split at q<;>cases q
 ·cases o with
  |rt x=>
   split at t
   ·rename_i d1 d2 he;cases he;cases t;exact⟨d,J,rfl,k⟩
   ·rename_i ρ he;cases he
   ·cases t
  |nx ρ'=>obtain⟨d1,e3,e4⟩:=aa.mp t;cases e4;intro σ H' G' sG hs;obtain⟨G2,B2,s2,eH,fm2,W⟩:=lb.out X hs e3;rw[eH];exact k .k9 G2 B2 (sG.trans s2) fm2 W (eL.g9.mpr rfl)
  |bk _=>cases t
  |ct _=>cases t
theorem Hh{P:Program}{w:World}{c:Heap}{a:Str}{r:Addr}{N u:Lr}{k:Nat} (F:Jb K x a st r fd) (S:iy N u (eV st)) (G:n=u.length) (L:∀i∈O,n<=i)
  (f:∀(qe:Value) (A:Around) (outer:List Env) (s:Shared) (H:Hp) (E:XK),iD k (A.deeper (envOfC a (eV st) (zB s) r qe)) ->
   rP (u5 uW P w K mg c N a (eV st) r qe A outer s H E).Mt .dat O (jc st) g):kX P w K mg c uW (k+1) r fd u (SU K n (ic N g)):=by
 refine F.ok S (by rintro vs H Q E ⟨m,d,i,l,_⟩;rw[<-i.length,l,G]) ?_;rintro qe A outer s H vs Q E D ⟨m,d,i,l,e,k⟩;refine⟨_,f qe A outer s H E D,?_⟩;obtain⟨o,R,t⟩:=bind_some e;have y:=pU (N:=N) i;have b:∀i∈O,((gY N m)[i]?).join=Z:=λj I=>by
  have:¬ j<m.length:=by have:=L j I;omega
  unfold gY;rw[aK (by simpa using this),bt];split<;>rfl
 have v:∀p:List Nat,(∀i∈p,i∈O)->ik (kL O) K (lh N vs) (gY N m) H p []:=by
  intro p;induction p with
  |nil=>intro _;rfl
  |cons j p C=>exact λh=>.inl ⟨b j (h j (by simp)),C λi J=>h i (ah _ J)⟩
 refine⟨gY N m,o,H,⟨⟨y.1,⟨[],rfl,j4.nil,v O λ_ h=>h⟩,λi d q _=>y.2 i d q⟩,λU v0 z=>nomatch z⟩,R,?_⟩;cases o with
 |rt V=>cases t;exact k
 |nx ρ'=>cases t;exact λσ T W B M=>k .k9 T (B.trans M.o.sub) (eL.g9.mpr rfl)
 |bk _=>cases t
 |ct _=>cases t
def spF(K:Fg)(n:Nat)(f:Lp->Od):Sp:=λb H Q _=>∃a d,ez K H a b/\a.length=n/\f a=Y d/\KO K H d Q
noncomputable def CG(N:Lr)(g:c7->Option gk):Lp->Od:=λa=>(g (gY N a)).bind λo=>match o with
 |.rt d=>Y d
 |_=>Z
theorem Nr{P:Program}{w:World}{c:Heap}{a:Str}{r:Addr}{N u:Lr}{k:Nat} (F:Jb K x a st r fd) (S:iy N u (eV st)) (D:n=u.length) (J:∀i∈O,n<=i)
  (f:∀(qe:Value) (A:Around) (outer:List Env) (s:Shared) (H:Hp) (E:XK),iD k (A.deeper (envOfC a (eV st) (zB s) r qe)) ->
   rP (u5 uW P w K mg c N a (eV st) r qe A outer s H E).Mt .own O (jc st) g):kX P w K mg c uW (k+1) r fd u (spF K n (CG N g)):=by
 refine F.ok S (by rintro vs H Q E ⟨m,d,i,l,_⟩;rw[<-i.length,l,D]) ?_;rintro qe A outer s H vs Q E C ⟨m,d,i,l,e,k⟩;refine⟨_,f qe A outer s H E C,?_⟩;obtain⟨o,L,t⟩:=bind_some e;have y:=pU (N:=N) i;have b:∀i∈O,((gY N m)[i]?).join=Z:=λj G=>by
  have:¬ j<m.length:=by have:=J j G;omega
  unfold gY;rw[aK (by simpa using this),bt];split<;>rfl
 have v:∀p:List Nat,(∀i∈p,i∈O)->ik (kL O) K (lh N vs) (gY N m) H p []:=by
  intro p;induction p with
  |nil=>intro _;rfl
  |cons j p B=>exact λh=>.inl ⟨b j (h j (by simp)),B λi I=>h i (ah _ I)⟩
 refine⟨gY N m,o,H,⟨⟨y.1,⟨[],rfl,j4.nil,v O λ_ h=>h⟩,λi d q _=>y.2 i d q⟩,λM v0 z=>nomatch z⟩,L,?_⟩;cases o with
 |rt R=>cases t;exact k
 |nx _=>cases t
 |bk _=>cases t
 |ct _=>cases t
end
structure vf (P:Program) (w:World) (K:Fg) (mg:Str->Ow) (base:Heap) (x:Str) (k n:Nat) (f:Lp->Od):Prop where
 ex:∃a fd ps,kX P w K mg base uW k a fd ps (spF K n f)/\mg x=Y (.ref a)/\W.keepIn K (.ref a)=true/\kG K fd ps []
structure Hi (dp:Bool) (P:Program) (w:World) (K:Fg) (mg:Str->Ow) (base:Heap) (x:Str) (k n:Nat) (f:Lp->Option (eD×eD)):Prop where
 ex:∃a fd ps,kX P w K mg base uW k a fd ps (Np dp K n f)/\mg x=Y (.ref a)/\W.keepIn K (.ref a)=true/\kG K fd ps []
abbrev EF:=Hi false
structure vg (P:Program) (w:World) (K:Fg) (mg:Str->Ow) (base:Heap) (c:Str) (k n:Nat) (f:Lp->Option (eD×eD)):Prop where
 ex:∃C a fd ps,jM K c C/\mg c=Y (.ref C)/\Mk K C a/\kX P w K mg base uW k a fd ps (Xt K n f)/\kG K fd ps []
structure je (P:Program) (w:World) (K:Fg) (mg:Str->Ow) (base:Heap) (c m:Str) (k n:Nat) (f:Lp->Od):Prop where
 ex:∃C a fd ps,jM K c C/\GH K C/\GI K C m a/\kX P w K mg base uW k a fd ps (SU K n f)/\kG K fd ps []
section
variable {m:Md}{a:Expr}{fb fc:c7->Od}{p2:Pos}{rest:List Stmt}{g h:c7->Option gk}{ga gc:c7->Option Bool}{j k:Nat}
def KO.kd{Q:VK}(h:KD K H d Q):KO K H d Q:=λv e f s a b=>h v _ (s.trans a.same) (b.Mf a.same λx c=>fL a.nd x c)
def PF.pd(h:PF X e f):PD X e f:=PE.imp h <| by rintro σ H Q ⟨ρ,d,a,e,k⟩;exact⟨ρ,d,a,e,KO.kd k⟩
def CH{F:Lp->Od} (N:vf X.prog X.w X.K X.mg X.base x j n F) (s:iD k X.A) (u:Gl X x) (y:Bm X (e::es) ff) (t:j<=k:=by decide) (h:zg x:=by decide)
  (v:zE e es X:=by rfl) (f:(backTo pos (starEach es X.env)).any (·.1)=false:=by rfl):PF X (.Call (.Name x p) (e::es) [] pos) (jx n F ff):=by
 obtain⟨a,E,D,B,m,o,b⟩:=N.ex;refine PE.imp (xG (B.mono t) s u m o b .nil nS y h v f) ?_;rintro σ H Q ⟨ρ,d,r,e,k⟩;obtain⟨i,z,c⟩:=bind_some e;by_cases g:i.length=n
 ·rw[ag g] at c;exact⟨ρ,i,r,z,λC G l q=>⟨i,d,by rw[aM];exact q,g,c,k.later l⟩⟩
 ·rw[aj g] at c;cases c
def KO.Am{Q:VK}(k:KO K H (.list ds) Q)(e:ez K H ds vs):∀p,H p=Z->Q (.ref p) (upd H p (.lst vs)):=λp h=>
 k (.ref p) H [(p,.lst vs)] (.refl H) ⟨by simp,(λx a=>by simp at a;subst a;exact h),.one aI .nil⟩ (jB.Xp (.inl ⟨_,vs,rfl,rfl,e⟩))
noncomputable def tW(f:c7->Od)(l h:FO):c7->Od:=λρ=>(f ρ).bind λx=>(l ρ).bind λa=>(h ρ).bind λb=>match x with | .list xs=>Y (.list (rN xs a b))|_=>Z
def yr{n o:Option Expr}{l h:FO}(z:PD X e f)(y:Wg X n l)(w:Wg X o h):PF X (.Subscript e (.Slice n o Z p2) pos) (tW f l h) :=
 PE.imp (Eg Ja z y w) <| by
  rintro σ H Q ⟨ρ,d,i,e,k⟩;obtain⟨x,E,D⟩:=bind_some e;obtain⟨a,C,B⟩:=bind_some D;obtain⟨b,A,q⟩:=bind_some B;obtain⟨j,rfl⟩:∃j,x=.list j:=by cases x<;>first|exact⟨_,rfl⟩|cases q
  cases q;refine⟨ρ,_,i,E,λv I g u=>⟨ρ,a,i.same g,C,λG c=>⟨ρ,b,i.same (g.trans c),A,λF m=>?_⟩⟩⟩;obtain⟨p,r,rfl,t,s⟩:=eL.fh.mp (u.same (c.trans m));exact⟨p,r,rfl,t,(k.later (g.trans (c.trans m))).Am (s.cut a b)⟩
def QL:jL X (.type "list") (λxs H Q=>∃a c,ez X.K H a xs/\Je a=Y c/\KO X.K H c Q):=by
 refine jL.imp tL ?_;rintro xs H Q ⟨a,c,i,e,k⟩
 match a,e with
 |[.list ys],e=>cases e;obtain⟨v,rfl,d⟩:=iJ i;obtain⟨p,b,rfl,g,f⟩:=eL.fh.mp d;exact⟨p,b,rfl,.inl g,k.Am f⟩
 |[.tuple ys],e=>cases e;obtain⟨v,rfl,d⟩:=iJ i;obtain⟨p,b,rfl,g,f⟩:=d.gP;exact⟨p,b,rfl,.inr g,k.Am f⟩
noncomputable def yt(c:Str)(n:Nat)(F:Lp->Option (eD×eD))(b:c7->Option Lp):c7->Od:=λρ=>(b ρ).bind λa=>if a.length+1=n then (F (.dict [(.none,.str c)]::a)).bind λr=>match r with|(.none,d)=>Y d|_=>Z else Z
def Jl{c:Str}{C:Addr}(t:jM K c C){F:Lp->Option (eD×eD)}{Q:VK}{E:XK}(p:ez K H ds vs)(s:ds.length+1=n)(A:(F (.dict [(.none,.str c)]::ds)).bind (λr=>match r with|(.none,d)=>Y d|_=>Z)=Y d)(k:KO K H d Q):
  ∀x a,H x=Z->H a=Z->a≠x->Xt K n F (.ref x::(vs++[])) (upd (upd H a (.own x)) x (.ins C a [])) (λv H2=>v=.k9/\Q (.ref x) H2) E:=by
 intro x a q g f;obtain⟨r,z,j⟩:=bind_some A;obtain⟨i,h⟩:=r;have w:i=.none/\h=d:=by cases i<;>first|(cases j;exact⟨rfl,rfl⟩)|cases j
 obtain⟨rfl,rfl⟩:=w;refine⟨.ref x,vs++[],.dict [(.none,.str c)],ds,.none,h,H,[(x,.ins C a []),(a,.own x)],rfl,rfl,⟨?_,λy b=>?_,.ins .nil⟩,.inr ⟨c,C,x,a,[],[],[],rfl,rfl,rfl,t,rfl,rfl⟩,by rw[aM];exact p,s,z,λv B D l u m o=>⟨eL.g9.mp o,k _ B D l u m⟩⟩
 ·simp[Ne.symm f]
 ·rcases ao.mp b with e|b
  ·rw[e];exact q
  ·have:y=(a,HO.own x):=by simpa using b
   rw[this];exact g
def CI{c:Str}{F:Lp->Option (eD×eD)} (N:vg X.prog X.w X.K X.mg X.base c j n F) (s:iD (k+1) X.A) (u:Gl X c) (x:Bm X (e::es) ff) (t:j<=k:=by decide) (i:zg c:=by decide)
  (v:zE e es X:=by rfl) (g:(backTo pos (starEach es X.env)).any (·.1)=false:=by rfl):PF X (.Call (.Name c p) (e::es) [] pos) (yt c n F ff):=by
 obtain⟨C,a,G,E,y,o,M,B,b⟩:=N.ex;refine PE.imp (Cj M (B.mono t) s u o b .nil nS x i v g) ?_;rintro σ H Q ⟨ρ,d,r,e,k⟩;obtain⟨l,z,f⟩:=bind_some e;by_cases h:l.length+1=n
 ·rw[ag h] at f;exact⟨ρ,l,r,z,λD I m q=>Jl y q h f (k.later m)⟩
 ·rw[aj h] at f;cases f
def Nt{c:Str}{F:Lp->Option (eD×eD)}(N:vg X.prog X.w X.K X.mg X.base c j n F)(l:iD (k+1) X.A)(o:Gl X c)(m:j<=k:=by decide)(h:zg c:=by decide):PF X (.Call (.Name c p) [] [] pos) (yt c n F fg):=by
 obtain⟨C,a,v,t,q,i,M,s,b⟩:=N.ex;refine PE.imp (ML M (s.mono m) l o i b .nil nS h) ?_;rintro σ H Q ⟨ρ,d,u,e,k⟩;obtain⟨x,r,f⟩:=bind_some e;cases r;by_cases g:([]:Lp).length+1=n
 ·rw[ag g] at f;exact Jl q ez.nil g f k
 ·rw[aj g] at f;cases f
noncomputable def nZ(c a:Str)(d:eD):Bool:=match d with
 |.dict ((.none,.str b)::r)=>decide (b=c)&&(pB a r).isNone
 |_=>false
noncomputable def f6(c b:Str)(n:Nat)(F:Lp->Od)(f:c7->Od)(e:c7->Option Lp):c7->Od:=λρ=>(f ρ).bind λd=>if nZ c b d=true then (e ρ).bind λa=>if a.length+1=n then F (d::a) else Z else Z
def yu{c e:Str}(h:nZ c e d=true)(i:eL K H d v):∃p C b a,v=.ref p/\jM K c C/\H p=Y (.ins C b a)/\a.lookup e=Z:=by
 unfold nZ at h;split at h
 ·rename_i m r;simp only[bD,cC,dJ] at h;obtain⟨rfl,f⟩:=h;obtain⟨p,C,b,a,l,k,j,g⟩:=i.G4;exact⟨p,C,b,a,l,k,j,g.none f⟩
 ·cases h
def gf{t c:Str}{F:Lp->Od}{pl:Sem Bool} (N:je X.prog X.w X.K X.mg X.base t c j n F) (I:PD X o f) (G:iD k X.A) (M:Bm X (e::es) ff) (L:j<=k:=by decide)
  (l:zE e es X:=by rfl) (m:(backTo pos (starEach es X.env)).any (·.1)=false:=by rfl)
  (E:eval (.Call (.Attribute o c apos) (e::es) [] pos) X.env=(do
   let ov <-eval o X.env
   standAt apos.atName
   let (f,first) <-holding [ov] (getMethod ov c pl)
   callWith pos f first (backTo pos (starEach (e::es) X.env)) (backToKw pos (keywordEach [] X.env))):=by rfl):PD X (.Call (.Attribute o c apos) (e::es) [] pos) (f6 t c n F f ff):=by
 obtain⟨C,a,fd,ps,O,r,J,Fn,b⟩:=N.ex;refine PE.imp (Ci (pl:=pl) I r J (Fn.mono L) G b .nil nS M l m E) ?_;rintro σ H Q ⟨ρ,d,B,e,k⟩;obtain⟨x,V,h⟩:=bind_some e;by_cases i:nZ t c x=true
 ·rw[ag i] at h;obtain⟨s,U,g⟩:=bind_some h;by_cases q:s.length+1=n
  ·rw[ag q] at g;refine⟨ρ,x,B,V,λv H1 y z=>?_⟩;obtain⟨p,C',W,T,rfl,S,R,P⟩:=yu i z;have:=S.uniq O;subst this;exact⟨p,W,T,rfl,R,P,ρ,s,B.same y,U,λvs H2 u D=>⟨x::s,d,by rw[aM];exact ez.cons (z.same u) D,by simpa using q,g,k.later (y.trans u)⟩⟩
  ·rw[aj q] at g;cases g
 ·rw[aj i] at h;cases h
def n1{q c:Str}{F:Lp->Od}{pl:Sem Bool} (N:je X.prog X.w X.K X.mg X.base q c j n F) (z:PD X o f) (y:iD k X.A) (D:j<=k:=by decide)
  (t:eval (.Call (.Attribute o c apos) [] [] pos) X.env=(do
   let ov <-eval o X.env
   standAt apos.atName
   let (f,first) <-holding [ov] (getMethod ov c pl)
   callWith pos f first (backTo pos (starEach [] X.env)) (backToKw pos (keywordEach [] X.env))):=by rfl):PD X (.Call (.Attribute o c apos) [] [] pos) (f6 q c n F f fg):=by
 obtain⟨C,a,T,S,E,m,B,R,b⟩:=N.ex;refine PE.imp (Ed (pl:=pl) z m B (R.mono D) y b .nil nS t) ?_;rintro σ H Q ⟨ρ,d,u,e,k⟩;obtain⟨x,O,h⟩:=bind_some e;by_cases i:nZ q c x=true
 ·rw[ag i] at h;obtain⟨U,M,g⟩:=bind_some h;cases M;by_cases l:([]:Lp).length+1=n
  ·rw[ag l] at g;refine⟨ρ,x,u,O,λv V s r=>?_⟩;obtain⟨p,W,P,L,rfl,J,I,G⟩:=yu i r;have:=J.uniq E;subst this;exact⟨p,P,L,rfl,I,G,[x],d,ez.cons r ez.nil,by simpa using l,g,k.later s⟩
  ·rw[aj l] at g;cases g
 ·rw[aj i] at h;cases h
def PX(X:Cx)(O:List Nat)(e:Expr)(h:c7->Option (eD×c7)):Prop:=PE X e (λσ H Q=>∃ρ d ρ' G,ig O X.K σ ρ H G/\h ρ=Y (d,ρ')/\∀v a b,eN G b->ig O X.K σ ρ' a b->(∀F,eL X.K F d v)->Q v a)
noncomputable def yv(O:List Nat)(i n:Nat)(F:Lp->Option (eD×eD))(b:c7->Option Lp):c7->Option (eD×c7):=λρ=>(ρ[i]?).join.bind λc=>(b (iT O ρ)).bind λa=>if a.length+1=n then (F (c::a)).bind λr=>if mz r.1=true then Y (r.1,ρ.set i (Y r.2)) else Z else Z
def tX(i:Nat) {y:Str}{T:Pos}{F:Lp->Option (eD×eD)} (N:Hi dp X.prog X.w X.K X.mg X.base x j n F) (C:O.Nodup) (hr:iD k X.A) (hg:Gl X x) (ha:Bm X es ff) (hO:i∈O:=by decide) (hj:j<=k:=by decide) (L:kL O=dp:=by rfl)
  (hN:X.N[i]?=Y y:=by rfl) (hv:Mc X.env.scope y:=by first|exact bW rfl|exact bA (bW rfl)|exact bA (bA rfl)) (hd:zg y:=by decide) (P:(y==("__classdict__":Str))=false:=by decide) (M:zg x:=by decide)
  (he:starEach (.Name y T::es) X.env=(false,eval (.Name y T) X.env)::starEach es X.env:=by rfl) (I:(backTo pos (starEach es X.env)).any (·.1)=false:=by rfl):PX X O (.Call (.Name x p) (.Name y T::es) [] pos) (yv O i n F ff):=by
 obtain⟨a,fd,ps,Fn,mm,kp,b⟩:=N.ex;refine PE.imp (PE.frame (xG (Fn.mono hj) hr hg mm kp b .nil nS (oA (qx hN hv hd P) (PA.frame ha) he) M he I)) ?_;rintro σ H Q ⟨ρ,d,ρ',G,hs,e,k⟩;obtain⟨d0,e1,e2⟩:=bind_some e;obtain⟨V,e3,B⟩:=bind_some e2;by_cases J:V.length+1=n
 ·rw[ag J] at B;obtain⟨r,e5,z⟩:=bind_some B;obtain⟨r1,r2⟩:=r;by_cases l:mz r1=true
  ·rw[ag l] at z;cases z;obtain⟨W,g,q,f,e7,eH,fm,u,E,D,cl,_⟩:=hs.own C hO (join_some e1);rw[L] at u cl;have h:(g++(q++f)).Perm ((g++f)++q):=by
    rw[aV];exact cy _ a6
   have f2:j4 G ((g++f)++q):=fm.perm h ((E.append D).append u.mG);have S:=f2.KI u.mG;refine⟨eU G q,g++f,by rw[eH,ie fm.nd h,jg],f2.KH (E.append D),W,e7,G,q,rfl,S,iT O ρ,V,hs.rest,e3,λvs G1 s1 i1 t=>?_⟩;refine⟨W,vs++[],d0,V,r1,r2,G1,q,rfl,rfl,t,u.same s1,by rw[aM];exact i1,J,e5,λv m o s2 R s iv fR=>?_⟩;have sG:eN G m:=s1.trans s2;have f3:j4 m ((g++f)++o):=R.join fR;have c:((g++f)++o).Perm (g++(o++f)):=by rw[aV];exact cy _ a6
   have f4:j4 m (g++(o++f)):=f3.perm c (E.append (s.mG.append D));have U:eU (eU m o) (g++f)=eU m (g++(o++f)):=by rw[<-jg,ie f3.nd c]
   rw[U];exact k v _ m sG (cl m r2 o sG s f4) λF=>iv.jV l
  ·rw[aj l] at z;cases z
 ·rw[aj J] at B;cases B
noncomputable def Hj(h:c7->Option (eD×c7)):c7->Option gk:=λρ=>(h ρ).map λr=>.nx r.2
def KP{h:c7->Option (eD×c7)}(d:PX X O e h)(a:swapsWith e Z pos.line X.env=pure false:=by rfl):wa X m O (.Expr e pos) (Hj h) :=
 PS.imp (ri d a) <| by rintro D σ H ⟨ρ,o,G,a,e,k⟩;obtain⟨r,f,rfl⟩:=aa.mp e;exact⟨ρ,r.1,r.2,G,a.o,f,λv g i c b _=>k σ g i c ⟨b,a.z⟩⟩
noncomputable def EG(h:c7->Option (eD×c7)):c7->Option gk:=λρ=>(h ρ).bind λr=>(r.2[0]?).join.map λa=>.rt (.tuple [r.1,a])
def yw{f:V}{h:c7->Option (eD×c7)}(a:O.Nodup)(n:PX X O e h):wa X (.io dp f) O (.Return (Y e) pos) (EG h) :=
 PS.imp (uZ n) <| by rintro D σ H ⟨ρ,o,G,c,e,k⟩;obtain⟨r,w,u⟩:=bind_some e;obtain⟨A,t,rfl⟩:=aa.mp u;refine⟨ρ,r.1,r.2,G,c.o,w,λv C E g b m=>?_⟩;obtain⟨d,B,i,s,p,j⟩:=lb.out (σ:=σ) (ρ:=r.2) a ⟨b,c.z⟩ t;obtain⟨x,y,q,l⟩:=k;cases q;rw[s];exact l v d B (g.trans i) p j (m d)
def tXT(O:List Nat)(K:Fg)(h:c7->Option (Bool×c7)):TT:=λσ H Q=>∃ρ b ρ' G,ig O K σ ρ H G/\h ρ=Y (b,ρ')/\∀a c,eN G c->ig O K σ ρ' a c->Q b a
def Wj(X:Cx)(O:List Nat)(e:Expr)(h:c7->Option (Bool×c7)):Prop:=PT X e (tXT O X.K h)
def Y9(X:Cx)(O:List Nat)(e:Expr)(h:c7->Option (Bool×c7)):Prop:=PW X e (tXT O X.K h)
noncomputable def hT(h:c7->Option (eD×c7)):c7->Option (Bool×c7):=λρ=>(h ρ).bind λr=>match r with|(.bool b,ρ')=>Y (b,ρ')|_=>Z
def QM{h:c7->Option (eD×c7)}(m:PX X O e h)(j:∀whole,isTrue e X.env whole=(do let v <-whole;standAt e.pos;holding [v] (truthy v)):=by intro _;rfl):Wj X O e (hT h) :=
 PT.imp (x3 m j) <| by
  rintro σ H Q ⟨ρ,b,ρ',G,l,e,k⟩;obtain⟨r,o,c⟩:=bind_some e;obtain⟨d,ρ2⟩:=r;have n:d=.bool b/\ρ2=ρ':=by cases d<;>first|(cases c;exact⟨rfl,rfl⟩)|cases c
  obtain⟨rfl,rfl⟩:=n;exact⟨ρ,_,_,G,l,o,λv f p g a i=>⟨b,M7 (i f) rfl,k f p g a⟩⟩
noncomputable def UN(h:c7->Option (Bool×c7)):c7->Option (Bool×c7):=λρ=>(h ρ).map λr=>(!r.1,r.2)
def QN{h:c7->Option (Bool×c7)}(g:Wj X O a h):Wj X O (.UnaryOp .Not a pos) (UN h) :=
 PT.imp (Gw g) <| by rintro σ H Q ⟨ρ,b,ρ',G,f,e,k⟩;obtain⟨r,j,i⟩:=aa.mp e;cases i;exact⟨ρ,r.1,r.2,G,f,j,λl m d c=>k l m d c⟩
noncomputable def Za(g:c7->Option Bool)(h:c7->Option (Bool×c7)):c7->Option (Bool×c7):=λρ=>(g ρ).bind λb=>if b=true then Y (true,ρ) else h ρ
def QO{h:c7->Option (Bool×c7)}(b:Wj X O a h):Y9 X O (.BoolOp .Or [a] pos) h:=Mq b
def UO{i:Lx}{h:c7->Option (Bool×c7)}(p:Bl X a ga)(o:Y9 X O (.BoolOp .Or (b::i) pos) h):Y9 X O (.BoolOp .Or (a::b::i) pos) (Za ga h) :=
 PW.imp (SE p o) <| by
  rintro σ H Q ⟨ρ,b,ρ',G,j,e,k⟩;obtain⟨y,q,d⟩:=bind_some e;refine⟨ρ,y,j.full,q,λs n=>?_⟩;obtain⟨l,g,_,c⟩:=j.grow n;cases y with
  |false=>rw[aj aB] at d ⊢;exact⟨ρ,b,ρ',l,c,d,λr t m f=>k r t (g.trans m) f⟩
  |true=>rw[ag rfl] at d ⊢;cases d;exact k s l g c
def Xu{h:c7->Option (Bool×c7)}(a:Y9 X O e h):Wj X O e h:=a.pt
noncomputable def QP(c:c7->Option (Bool×c7))(g h:c7->Option gk):c7->Option gk:=λρ=>(c ρ).bind λr=>if r.1=true then g r.2 else h r.2
def QQ{j i:List Stmt}{n:c7->Option (Bool×c7)}(q:Wj X O c n)(t:rP X m O j g)(s:rP X m O i h):wa X m O (.If c j i pos) (QP n g h) :=
 PS.imp (Mv q t s) <| by
  rintro D σ H ⟨ρ,o,G,f,e,k⟩;obtain⟨r,u,d⟩:=bind_some e;obtain⟨b,ρ'⟩:=r;refine⟨ρ,b,ρ',G,f.o,u,λv p l a=>?_⟩;cases b with
  |true=>rw[ag rfl] at d ⊢;exact⟨ρ',o,p,⟨a,f.z⟩,d,k.later l⟩
  |false=>rw[aj aB] at d ⊢;exact⟨ρ',o,p,⟨a,f.z⟩,d,k.later l⟩
end
end L2
namespace L2
open PySem PySem.Spec PyProof.Rows PySem.Builtin PySem.Builtin.Str
theorem Bs:∀(l:List (Str×Tok)),fT ((l.map (·.1)).map V.str) (strValues l)
 |[]=>.nil
 | (x,t)::l=>.cons ⟨t,rfl⟩ (Bs l)
theorem Bt:∀{b:Lr}{a:Lw},fT (b.map V.str) a->∃l:List (Str×Tok),a=strValues l/\l.map (·.1)=b
 |[],_,r=>by cases r;exact⟨[],rfl,rfl⟩
 |x::b,_,r=>by
  rw[ai] at r;cases r with
  |cons h t=>obtain⟨c,rfl⟩:=h;obtain⟨l,rfl,e⟩:=Bt t;exact⟨(x,c)::l,rfl,by simp[e]⟩
noncomputable def qK:Lp->Option Lr
 |[]=>Y []
 |.str x::r=>(qK r).map (x::·)
 |_::_=>Z
theorem wb:∀{b:Lp}{a:Lr},qK b=Y a->b=a.map .str
 |[],_,h=>by cases h;rfl
 |d::r,a,h=>by
  cases d<;>try (simp[qK] at h;done)
  obtain⟨c,e,rfl⟩:=aa.mp (show (qK r).map _=Y a from h);rw[wb e];rfl
theorem yx:∀a:Lr,qK (a.map .str)=Y a
 |[]=>rfl
 |x::a=>by show (qK (a.map .str)).map _=_;rw[yx a];rfl
theorem Bu{K:Fg}{H:Hp}:∀{c:Lr}{d:List V},ez K H (c.map .str) d->d=c.map .str
 |[],_,h=>ez.eP.mp h
 |x::c,_,h=>by obtain⟨v,r,rfl,a,b⟩:=ez.eF.mp h;rw[eL.ft.mp a,Bu b];rfl
theorem p0{K:Fg}{H:Hp}:∀(a:Lr),ez K H (a.map .str) (a.map .str)
 |[]=>ez.nil
 |x::a=>ez.cons (eL.ft.mpr rfl) (p0 a)
section
variable {a:Expr}{fb fc:c7->Od}{p2 fV:Pos}{ga gc:c7->Option Bool}
noncomputable def yy(g:eD->Lp->Od)(f:c7->Od)(a:c7->Option Lp):c7->Od:=λρ=>(f ρ).bind λd=>(a ρ).bind λb=>match d with | .str z=>g (.str z) b|_=>Z
def Hk{a:Str}{n:String}{g:eD->Lp->Od} (j:Slot "str" a n) (p:typeOf (.builtin n)=pure (.type "method_descriptor")) (y:Uj X n (λx vs H Q=>∃d ds c,eL X.K H d x/\ez X.K H ds vs/\g d ds=Y c/\KD X.K H c Q)) (w:PD X o f) (A:Bm X (e::es) ff)
  (i:attributeBase o a X.env (eval o X.env)=eval o X.env:=by rfl)
  (l:((backTo fV (starEach (e::es) X.env)).all (λx=>!x.1)&&(backToKw fV (keywordEach [] X.env)).all (λx=>x.1.isSome)
  &&decide ((e::es).length+([]:List Keyword).length+(if ([]:List Keyword).isEmpty then 0 else 1)<30))=true:=by rfl)
  (h:(apos.endLine==fV.line)=true:=by rfl) (m:zE e es X:=by rfl) (b:(backTo fV (starEach es X.env)).any (·.1)=false:=by rfl):
  PD X (.Call (.Attribute o a apos) (e::es) [] fV) (yy g f ff) :=
 PE.imp (Bf PySem.F.plainAttrs_str j p y w A i l h m b) <| by
  rintro σ H Q ⟨ρ,d,m,e,k⟩;obtain⟨x,D,C⟩:=bind_some e;obtain⟨ds,B,t⟩:=bind_some C;obtain⟨z,rfl⟩:∃z,x=.str z:=by cases x<;>first|exact⟨_,rfl⟩|cases t
  refine⟨ρ,_,m,D,λv G r s=>⟨?_,ρ,ds,m.same r,B,λvs E q u=>⟨_,ds,d,s.same q,u,t,k.later (r.trans q)⟩⟩⟩;rw[eL.ft.mp s];rfl
noncomputable def iK(d:eD)(a:Lp):Od:=match d,a with
 |.str x,[.str y]=>if (y.length==0)=false/\x.length<=sizeLine/\(partsBetween x (occurrences x y 0 x.length (x.length+1)) y.length).length<=sizeLine then Y (.list ((Txt.split x y).map .str)) else Z
 |_,_=>Z
def Nu:Uj X "str.split" (λx vs H Q=>∃d n c,eL X.K H d x/\ez X.K H n vs/\iK d n=Y c/\KD X.K H c Q):=by
 intro a s σ H v vs u D Q I o p h;obtain⟨d,n,F,z,w,e,k⟩:=h;unfold iK at e;split at e
 ·rename_i x y;by_cases j:(y.length==0)=false/\x.length<=sizeLine/\(partsBetween x (occurrences x y 0 x.length (x.length+1)) y.length).length<=sizeLine
  ·rw[ag j] at e;cases e;obtain⟨q,m,b⟩:=j;rw[eL.ft.mp z] at o;obtain⟨t,rfl⟩:=o;obtain⟨C,rfl,r⟩:=iJ w;rw[eL.ft.mp r] at p;obtain⟨E,rfl,t',rfl⟩:=p.one;have f:∀(l:List (Str×Tok)) (i:Nat),l.map (·.1)=Txt.split x y->l.length<=sizeLine->EP X a σ Q (.ref (zB s)) { s with heap:=s.heap.push { cls:=.type "list",data:=.seq (strValues l).toArray },toks:=i }:=λl i A g=>by
    have B:=I.Uo (t':=i) (ys:=(l.map (·.1)).map V.str) (Bs l) (by simpa using g);refine⟨.ref (zB s),_,B,rfl,k.Am ?_ _ I.fresh⟩;rw[A];exact p0 _
   cases h1:(decide (x.length<y.length)||decide (strKind x<strKind y))
   ·cases hf:(occurrences x y 0 x.length (x.length+1)).isEmpty
    ·refine cj dZ (dF _ _ _) dN (dH _ _) (meets_str_split_sep x y t t' h1 q hf m b) ?_;show EP X a σ Q _ { s with toks:=_,heap:=s.heap.push { cls:=.type "list",data:=.seq (strsFrom s.toks (partsBetween x (occurrences x y 0 x.length (x.length+1)) y.length)).toArray } };rw[strsFrom_eq];refine f _ _ ((numbered_texts _ _).trans ((aj (dz h1)).trans (aj (dz hf))).symm) ?_;have:=bw List.length (numbered_texts s.toks (partsBetween x (occurrences x y 0 x.length (x.length+1)) y.length));rw[aL] at this;rw[this];exact b
    ·exact cj dZ (dF _ _ _) dN (dH _ _) (meets_str_split_not_found x y t t' h1 q hf)
      (f [(x,t)] s.toks ((aj (dz h1)).trans (ag hf)).symm (by show 1<=sizeLine;decide))
   ·exact cj dZ (dF _ _ _) dN (dH _ _) (meets_str_split_cannot_occur x y t t' h1)
     (f [(x,t)] s.toks (ag h1).symm (by show 1<=sizeLine;decide))
  ·rw[aj j] at e;cases e
 ·cases e
noncomputable def qf(d:eD)(c:Lp):Od:=match d,c with
 |.str x,[.list b]=>(qK b).bind λa=>if JoinOk x a=true then Y (.str (Txt.join x a)) else Z
 |_,_=>Z
def Jm:Uj X "str.join" (λx vs H Q=>∃d g c,eL X.K H d x/\ez X.K H g vs/\qf d g=Y c/\KD X.K H c Q):=by
 intro m s σ H v vs u L Q I j q h;obtain⟨d,g,O,D,C,e,k⟩:=h;unfold qf at e;split at e
 ·rename_i x N;obtain⟨a,F,b⟩:=bind_some e;by_cases f:JoinOk x a=true
  ·rw[ag f] at b;cases b;have:=wb F;subst this;rw[eL.ft.mp D] at j;obtain⟨t,rfl⟩:=j;obtain⟨J,rfl,B⟩:=iJ C;obtain⟨p,G,rfl,i,z⟩:=eL.fh.mp B;obtain⟨M,rfl,w⟩:=q.one;cases w;rw[Bu z] at i;obtain⟨A,r,y,_⟩:=I.list i;obtain⟨l,rfl,E⟩:=Bt r;exact SC.join y.isList E f λo n=>⟨.str _,H,I.tok n,⟨o,rfl⟩,k.here (eL.ft.mpr rfl)⟩
  ·rw[aj f] at b;cases b
 ·cases e
noncomputable def rQ(x y:eD):Od:=match x,y with
 |.str a,.str b=>Y (.bool (!decide (b.cps.toList<a.cps.toList)))
 |x,y=>Y0 x y
def KQ:lQ X (compareOp .LtE) (λx y H Q=>∃i j,x=.str i/\y=.str j/\Q (.bl (!decide (j.cps.toList<i.cps.toList))) H):=by intro a s σ H x y v u Q I c b h;obtain⟨i,j,rfl,rfl,q⟩:=h;obtain⟨t,rfl⟩:=c;obtain⟨d,rfl⟩:=b;exact PySem.P.le_str (xY I q rfl)
def vh:u7 X (compareOp .LtE) rQ:=by
 refine lQ.imp (lQ.or Xc KQ) ?_;rintro x y H Q ⟨a,b,d,f,c,e,k⟩;unfold rQ at e;split at e
 ·rename_i z n;cases e;exact .inr ⟨z,n,eL.ft.mp f,eL.ft.mp c,k.here (eL.fz.mpr rfl)⟩
 ·exact .inl ⟨a,b,d,f,c,e,k⟩
noncomputable def vi(g a:eD->eD->Od)(e d c:c7->Od):c7->Option Bool:=λρ=>(e ρ).bind λx=>(d ρ).bind λy=>(g x y).bind λr=>(UP r).bind λk=>if k=true then (c ρ).bind λz=>(a y z).bind UP else Y false
where UP:eD->Option Bool | .bool b=>Y b|_=>Z
def Bv{b:Bool}(h:vi.UP d=Y b):d=.bool b:=by cases d<;>first|(cases h;rfl)|cases h
def Bw{l d:CmpOp}{g B:eD->eD->Od} (J:u7 X (compareOp l) g) (o:u7 X (compareOp d) B) (N:PD X a fa) (M:PD X b fb) (L:PD X c fc)
  (K:lastMarks [l,d] [b,c]=false:=by with_unfolding_all rfl):Bl X (.Compare a [l,d] [b,c] pos) (vi g B fa fb fc) :=
 PT.imp (MD J o N M L K) <| by
  rintro σ H Q ⟨ρ,b,n,e,k⟩;obtain⟨x,V,t⟩:=bind_some e;obtain⟨y,U,s⟩:=bind_some t;obtain⟨r,T,q⟩:=bind_some s;obtain⟨m,S,j⟩:=bind_some q;have:=Bv S;subst this;clear e t s q;refine⟨ρ,x,n,V,λv H1 i I=>⟨ρ,y,n.same i,U,λu H2 h A=>⟨x,y,.bool m,I.same h,A,T,λw H3 f G=>⟨m,eL.fz.mp G,?_⟩⟩⟩⟩;cases m with
  |false=>rw[aj aB] at j ⊢;cases j;exact⟨false,rfl,k H3 (i.trans (h.trans f))⟩
  |true=>rw[ag rfl] at j ⊢;obtain⟨z,R,D⟩:=bind_some j;obtain⟨r2,P,O⟩:=bind_some D;have:=Bv O;subst this;exact⟨ρ,z,n.same (i.trans (h.trans f)),R,λw2 H4 p F=>⟨y,z,.bool b,A.same (f.trans p),F,P,λw3 W C E=>⟨b,eL.fz.mp E,k W (i.trans (h.trans (f.trans (p.trans C))))⟩⟩⟩
noncomputable def UQ(f:c7->Od):c7->Od:=λρ=>(f ρ).bind λd=>match d with | .str x=>if x.length<=sizeLine then Y (.str x) else Z|_=>Z
def Nv(h:UQ f ρ=Y d):∃x,f ρ=Y (.str x)/\d=.str x/\x.length<=sizeLine:=by
 obtain⟨x,c,a⟩:=bind_some h;obtain⟨y,rfl⟩:∃y,x=.str y:=by cases x<;>first|exact⟨_,rfl⟩|cases a
 dsimp only at a;by_cases b:y.length<=sizeLine
 ·rw[ag b] at a;cases a;exact⟨y,c,rfl,b⟩
 ·rw[aj b] at a;cases a
def Jn(q:PD X e f):PD X (.FormattedValue e (-1) Z pos) (UQ f):=by
 intro a s σ H Q I ⟨ρ,d,p,u,k⟩;obtain⟨x,r,rfl,o⟩:=Nv u;refine wpAny_FormattedValue_plain (gS (@q a s σ H (λv H'=>v=.str x/\eN H H') I ⟨ρ,_,p,r,λv H' j i=>⟨eL.ft.mp i,j⟩⟩) ?_);rintro v h ⟨y,z,w,l,n,m⟩;subst n;obtain⟨t,rfl⟩:=l;have b:∀g c,EP X a σ Q (.str x g) { h with toks:=c }:=λg c=>⟨.str x,z,w.tok c,⟨g,rfl⟩,(k.later m).here (eL.ft.mpr rfl)⟩
 exact wpAny_formatField_str (b t h.toks) (b _ _) o
def PJ(X:Cx)(e:Lx)(d:c7->Option Str):Prop :=
 ∀(a:Str) (pins:Ax) (s:Shared) (σ:St) (H:Hp) (Q:Str->Shared->Prop),eT X pins σ H s->(∃ρ z,jA X.K H σ ρ/\d ρ=Y z/\(a++z).length<=sizeLine/\∀c b,eN H c->eT X pins σ c b->Q (a++z) b) ->
  Joins (model X.prog X.w) X.A X.xe (evalEach e X.env) a Q s
def yz(a:Str):a++Str.empty=a:=by cases a with|mk c=>show Str.mk (c++#[])=Str.mk c;rw[Array.append_empty]
def pE(a b c:Str):a++b++c=a++(b++c):=by cases a with|mk x=>cases b with|mk y=>cases c with|mk z=>show Str.mk (x++y++z)=Str.mk (x++(y++z));rw[Array.append_assoc]
def oI(a b:Str):(a++b).length=a.length+b.length:=strLen_append ..
def Nw:PJ X [] (λ_=>Y Str.empty):=by intro b a s σ H Q I ⟨ρ,z,d,e,c,k⟩;cases e;have:=k H s (.refl H) I;rw[yz] at this;exact this
noncomputable def wc(f:c7->Od)(g:c7->Option Str):c7->Option Str:=λρ=>(f ρ).bind λd=>(g ρ).bind λz=>match d with | .str y=>Y (y++z)|_=>Z
def rz(B:PD X e f){m:c7->Option Str}(w:PJ X es m)(h:evalEach (e::es) X.env=eval e X.env::evalEach es X.env:=by rfl):PJ X (e::es) (wc f m):=by
 intro b a s σ H Q I ⟨ρ,z,l,F,g,k⟩;obtain⟨d,E,D⟩:=bind_some F;obtain⟨o,C,n⟩:=bind_some D;obtain⟨y,rfl⟩:∃y,d=.str y:=by cases d<;>first|exact⟨_,rfl⟩|cases n
 cases n;rw[h];refine gS (@B a s σ H (λv H'=>v=.str y/\eN H H') I ⟨ρ,_,l,E,λv H' c i=>⟨eL.ft.mp i,c⟩⟩) ?_;rintro v q ⟨x,K,G,r,u,j⟩;subst u;obtain⟨t,rfl⟩:=r;have A:(b++y).length<=sizeLine:=by rw[oI] at g ⊢;rw[oI] at g;omega
 refine⟨y,t,rfl,A,w (b++y) a q σ K Q G ⟨ρ,o,l.same j,C,by rw[pE];exact g,λH' c p J=>?_⟩⟩;rw[pE];exact k H' c (j.trans p) J
noncomputable def Zb(a:c7->Option Str):c7->Od:=λρ=>(a ρ).bind λz=>if z.length<=sizeLine then Y (.str z) else Z
def Jo{h g:Expr}{a:Lx}{i:c7->Option Str}(n:PJ X (h::g::a) i):PD X (.JoinedStr (h::g::a) pos) (Zb i):=by
 intro b s σ H Q I ⟨ρ,d,m,p,k⟩;obtain⟨z,o,f⟩:=bind_some p;by_cases e:z.length<=sizeLine
 ·rw[ag e] at f;cases f;have j:Str.empty++z=z:=by cases z with|mk c=>show Str.mk (#[]++c)=Str.mk c;rw[Array.empty_append]
  refine wpAny_JoinedStr (n Str.empty b s σ H _ I ⟨ρ,z,m,o,by rw[j];exact e,λr t l q=>?_⟩);rw[j];exact⟨e,.str z,r,q.tok _,⟨_,rfl⟩,(k.later l).here (eL.ft.mpr rfl)⟩
 ·rw[aj e] at f;cases f
noncomputable def xN(p:eD->Bool):Lp->Nat->Option Nat
 |[],_=>Z
 |d::ds,k=>if p d=true then Y k else xN p ds (k+1)
noncomputable def CJ(l:eD)(a:Lp):Od:=match l,a with
 |.list xs,[x]=>if SeqAt.shaped x=true/\xs.all SeqAt.shaped=true/\x.depth<=60/\xs.length<=sizeLine then (xN (λy=>eD.eqv y x) xs 0).map λ(j:Nat)=>eD.int (j:Int) else Z
 |_,_=>Z
theorem tY{p:eD->Bool}:∀{a:Lp}{k j:Nat},xN p a k=Y j->k<=j/\j - k<a.length/\(∃d,a[j - k]?=Y d/\p d=true)/\∀i d,i<j - k->a[i]?=Y d->p d=false
 |[],_,_,h=>by cases h
 |x::a,k,j,h=>by
  unfold xN at h;by_cases b:p x=true
  ·rw[ag b] at h;cases h;refine⟨az _,by simp,⟨x,by simp,b⟩,λi d f=>by omega⟩
  ·rw[aj b] at h;obtain⟨o,n,⟨d,m,l⟩,g⟩:=tY h;have e:j - k=(j - (k+1))+1:=by omega
   refine⟨by omega,by rw[e];simpa using n,⟨d,by rw[e];simpa using m,l⟩,λi y f c=>?_⟩;cases i with
   |zero=>simp at c;subst c;simpa using b
   |succ i=>exact g i y (by omega) (by simpa using c)
end
end L2
local macro_rules
| `(zT $a $b) => `(L2.Hk PySem.F.slot_str_split PySem.F.type_str_split L2.Nu $a $b)
namespace PySem
open Builtin
def vj:typeLookup (.type "list") "keys"=pure Z:=by rw[d9,de];kernel_rfl
theorem CK{e:Program}{w:World}{j:Heap}{o:Array GenState}{p:Drawn}{u:Nat}{m:OsState}{r:Array Ow}{h:Array Value}{f:Str}{Q:Ow->Shared->Prop}
    (s:j.get? a=Y { cls:=.type "list",dict:=Z,data:=.seq h n,slots:=r }) (d:typeLookup (.type "list") f=pure Z) (c:(["__module__","__name__","__qualname__","__doc__","__annotations__"]:Lr).contains f=false) (i:A.handled=Z) (b:f.length+100<=sizeLine)
    (k:∀Xi tk' x,Heap.NewExcOf j Xi x "AttributeError"->Q Z ⟨Xi,o,p,tk',m⟩):wpAny (model e w) A (getAttr? (.ref a) f) Q E ⟨j,o,p,u,m⟩:=by
  have q:∀t,Shared.TypeIs ⟨j,o,p,t,m⟩ (.ref a) "list":=λt=>⟨_,s,rfl⟩
  have B:=sub_AttributeError;have z:=F.slot_list_getattribute.lookup;have y:=F.slot_list_getattribute.bind (.ref a);have v:=am_list_getattr_none;unfold getAttr? getAttrBy? getAttrBy
  repeat (any_goals (first
    |assumption
    |exact q _
    | ((with_reducible show wpAny _ _ (call (Value.builtin "list.__getattribute__") _ _) _ _ _)
       refine cj F.slot_list_getattribute (q _) am_entry_list_getattribute (F.args_list_getattribute_2 _ _) (meets_getattribute_miss_list a h n r f _ d c b) ⟨s,i,λXi tk' x g=>?_⟩)
    |wp_step))
  obtain⟨_,_,l⟩:=g.there;show wpAny _ _ (getattributeRaised _ _ _ _ _ _ _) _ _ _;unfold getattributeRaised
  repeat (any_goals (first|assumption|wp_step))
  exact k _ _ _ g.of
namespace F
def kN:entryFor table "dict.update.loop"=Y Builtin.«dict.update.loop»:=entryFor_of_tree (zK 0)
def hG:plainId "dict.update.loop"=true:=by decide +kernel
end F
section
variable {prog:Program}{w:World}{K:Type} [DecidableEq K] {knd:KeyKind prog w K}
inductive mf (knd:KeyKind prog w K) (h:Heap):Lw->List (K×Value)->Prop
 |nil:mf knd h [] []
 |cons {T:Addr}{key v:Value}{k:K}{vs:Lw}{ps:List (K×Value)}:h.IsTuple T #[key,v]->knd.is k key=true->mf knd h vs ps->mf knd h (.ref T::vs) ((k,v)::ps)
def mf.keep{h h':Heap}{d:Lw}{e:List (K×Value)}(x:mf knd h d e)(k:∀b o xs n,h.get? b=Y o->o.data=.seq xs n->h'.get? b=Y o):mf knd h' d e:=by
 induction x with
 |nil=>exact .nil
 |cons a b c g=>obtain⟨o,j,i,n,f⟩:=a;exact .cons ⟨o,k _ _ _ _ j f,i,n,f⟩ b g
def EH(b c:List (K×Value)):List (K×Value):=c.foldl (λa p=>stored a p.1 p.2) b
def Hl(a:List (K×Value))(k:K)(v:Value):(stored a k v).length<=a.length+1:=by unfold stored;split<;>simp
theorem Nx{D I l:Addr}{a:Array Value}{R:Result->Shared->Prop}(hh:A.in1.handled=Z)(j:D≠I)(c:Heap)(H:c.get? D=Z)(t:c.get? I=Z):
  ∀(B:Lw) (ps:List (K×Value)) (i:Nat) (s:Shared) (acc:List (K×Value)),a.toList.drop i=B->mf knd s.heap B ps->(∀b o,c.get? b=Y o->s.heap.get? b=Y o)->s.heap.IsListIter I l i->s.heap.IsList l a->s.heap.DictOf knd D acc->acc.length+ps.length<=sizeLine ->
  (∀p P,p.DictOf knd D (EH acc ps)->(∀b o,c.get? b=Y o->p.get? b=Y o)->R (.ok (.ret .none)) { s with heap:=p,toks:=P }) ->
  codeAny (model prog w) A (.builtin "dict.update.loop" ⟨[.ref D,.ref I,rawInt i,.none],[]⟩) R s
 |[],_,i,s,acc,C,hp,h0,G,M,hd,Q,hR=>by
  cases hp;refine b6 F.kN ?_;rw[bO F.hG _];show wpAny _ A.in1 (pyNext (.ref I)>>=_) _ _ s;have hn:a[i]?=Z:=by have:=List.drop_eq_nil_iff.mp C;simp at this ⊢;omega
  refine ab (cZ hh G M hn λp eb=>?_);show wpAny _ A.in1 (Builtin.Dict.addKeywords D []>>=_) _ _ _;refine ab (au (au ?_));obtain⟨o,N,O,x,r⟩:=hd;exact hR p s.toks ⟨o,N,O,eb _ _ j x,r⟩ λb o e=>eb b o (λz=>by rw[z,t] at e;cases e) (h0 b o e)
 |v::B,_,i,s,acc,C,hp,h0,G,M,hd,Q,hR=>by
  cases hp with
  |@cons T q g k _ ps ht hk hp=>
   refine b6 F.kN ?_;rw[bO F.hG _];show wpAny _ A.in1 (pyNext (.ref I)>>=_) _ _ s;have U:i<a.size:=by have:=bw List.length C;simp at this;omega
   have hx:a[i]?=Y (.ref T):=by have:=bw (·[0]?) C;simpa using this
   have S:a.toList.drop (i+1)=B:=by
    have e:=bJ (l:=a.toList) (i:=i) (by simpa using U);rw[C] at e;injection e with _ f
    exact f.symm
   refine ab (cO G M hx λp hI' sb=>?_);have hT':p.IsTuple T #[q,g]:=by obtain⟨o,d,f,n,y⟩:=ht;refine⟨o,(sb.2 _ λz=>?_).trans d,f,n,y⟩;subst z;obtain⟨oi,u,ci,L⟩:=G;rw[d] at u;cases u;rw[y] at L;cases L
   obtain⟨ot,J,et2,nt,et3⟩:=id hT';show wpAny _ A.in1 (holding [.ref T] _>>=_) _ _ _;refine ab (bg ?_);refine ab (wpAny_tryCatch ?_);unfold Builtin.Dict.pairItems;refine ab (cu (T:="tuple") ⟨ot,J,et2⟩ ?_);have hc1:((Value.type "tuple"==Value.type "list")||(Value.type "tuple"==Value.type "tuple"))=true:=by decide
   simp only[hc1,b8];refine ab ?_;unfold seqItems?;refine ab (wpAny_load J ?_);rw[et3];refine au (au ?_);show wpAny _ _ (holding [q,g] (dictSet D q g)) _ _ _;have X:p.DictOf knd D acc:=by obtain⟨o,N,O,x,r⟩:=id hd;exact⟨o,N,O,(sb.2 _ j).trans x,r⟩
   have nI:∀b o m n,s.heap.get? b=Y o->o.data=.seq m n->b≠I:=λb o m n d f z=>by subst z;obtain⟨oi,u,ci,L⟩:=G;rw[d] at u;cases u;rw[f] at L;cases L
   have nD:∀b o m n,s.heap.get? b=Y o->o.data=.seq m n->b≠D:=λb o m n d f z=>by subst z;obtain⟨o',N,O,x,hx2,E,_⟩:=hd;rw[d] at x;cases x;rw[f] at E;cases E
   refine bg (wpAny_dictSet_pairs hk X (λh2 hd2 h=>?_) (hsz:=by simp at Q;omega));refine au ⟨cx F.hG _,?_⟩;have u:((i:Int)+1)=((i+1:Nat):Int):=by omega
   rw[u];have V:h2.IsList l a:=by obtain⟨o,d,f,n,y⟩:=M;exact⟨o,(h.2 _ (nD _ _ _ _ d y)).trans ((sb.2 _ (nI _ _ _ _ d y)).trans d),f,n,y⟩
   have hI2:h2.IsListIter I l (i+1):=hI'.at λo e=>(h.2 _ (Ne.symm j)).trans e;refine Nx hh j c H t B ps (i+1) { s with heap:=h2,toks:=s.toks+1 } (stored acc k g) S (hp.keep λb o m n d f=>(h.2 _ (nD b o m n d f)).trans ((sb.2 _ (nI b o m n d f)).trans d)) (λb o e=>?_) hI2 V hd2 ?_ λh3 P W k3=>hR h3 P W k3
   ·have b1:b≠I:=λz=>by rw[z,t] at e;cases e
    have b2:b≠D:=λz=>by rw[z,H] at e;cases e
    exact(h.2 b b2).trans ((sb.2 b b1).trans (h0 b o e))
   ·have:=Hl acc k g;simp at Q ⊢;omega
theorem wL{l:Addr}{o:Obj}{a:Array Value}{v:List (K×Value)}{Q:Px} (J:A.handled=Z) (R:s.heap.get? l=Y o) (L:o.cls=.type "list") (i:o.data=.seq a n) (u:o.dict=Z)
  (S:mf knd s.heap a.toList v) (B:v.length<=sizeLine)
  (h:∀h' tk,h'.DictOf knd (zB s) (EH [] v)->(∀b o,s.heap.get? b=Y o->h'.get? b=Y o)->Q (.ref (zB s)) { s with heap:=h',toks:=tk }):
  wpAny (model prog w) A (call (.type "dict") [.ref l]) Q E s:=by
 refine callType_codes (Q₁:=λk f=>k=.ref (zB s)/\f={ s with heap:=s.heap.push { cls:=.type "dict",data:=.dict #[] } }) F.kt_called_dict (F.kt_typeCall_dict_1 _) F.entry_dict_init (kt_code_dict_new _ ⟨rfl,rfl⟩) ?_;rintro k f ⟨rfl,rfl⟩;have c:(s.heap.push { cls:=.type "dict",data:=.dict #[] }).DictOf knd (zB s) []:=Heap.DictOf.new s.heap;obtain⟨oc,od,N,M⟩:=o;simp only at L i u;subst L i u;have d:=af { cls:=.type "dict",data:=.dict #[] } R;refine⟨c.typeIs,F.args_dict_init_2 _ _,?_⟩;unfold Builtin.«dict.__init__»;refine ab ?_;unfold Builtin.Dict.selfAndRest;refine ab (wpAny_notOrdered_dict c.typeIs ?_);show wpAny _ _ (pure ((zB s),[Value.ref l])) _ _ _;refine au ?_;show wpAny _ _ (Builtin.Dict.updateFrom "dict.__init__" (zB s) (.ref l) [] .none) _ _ _;unfold Builtin.Dict.updateFrom;refine ab (cu (T:="list") ⟨_,d,rfl⟩ ?_);rw[ag (by decide)];refine ab (CK d vj (by decide +kernel) (show A.in1.in1.handled=Z from J) (by decide) λj y e1 t=>?_);rw[ag (show (Z:Ow).isNone=true from rfl)];refine ab (eC ?_);have D:j.IsList l a:=⟨_,t.keeps _ _ d,rfl,n,rfl⟩
 refine ab (cP D ?_);refine au ⟨cx F.hG _,?_⟩;have g:(zB s)<j.objs.size:=aq (t.keeps _ _ (aw s.heap (o:={ cls:=.type "dict",data:=.dict #[] }) rfl));have I:∀b p,s.heap.get? b=Y p->(j.push { cls:=.type "list_iterator",data:=.fields #[.ref l,.int 0 0] }).get? b=Y p:=λb p e=>af _ (t.keeps _ _ (af _ e));have H:(j.push { cls:=.type "list_iterator",data:=.fields #[.ref l,.int 0 0] }).DictOf knd (zB s) []:=by obtain⟨O,W,X,U,r⟩:=c;exact⟨O,W,X,af _ (t.keeps _ _ U),r⟩
 have C:(j.push { cls:=.type "list_iterator",data:=.fields #[.ref l,.int 0 0] }).IsList l a:=⟨_,af _ (t.keeps _ _ d),rfl,n,rfl⟩
 exact Nx (knd:=knd) (s:={ s with heap:=j.push { cls:=.type "list_iterator",data:=.fields #[.ref l,.int 0 0] },toks:=y }) (show A.in1.in1.handled=Z from J) (aG g) s.heap (by
   cases q:s.heap.get? (zB s) with
   |none=>rfl
   |some z=>exact absurd (aq q) (aX _)) (by
   cases q:s.heap.get? j.objs.size with
   |none=>rfl
   |some z=>exact absurd (d6 (aq q) g) (aX _)) a.toList v 0 [] rfl (S.keep λb p xs m e _=>I b p e) I ⟨_,aw _ rfl,rfl,rfl⟩ C H (by simpa using B)
  λV x G P=>⟨rfl,h V x G P⟩
end
end PySem
namespace L2
open PySem PySem.Spec PyProof.Rows
noncomputable def tZ:Lp->Option (List (Key×eD))
 |[]=>Y []
 |.tuple [k,d]::r=>(o9 k).bind λy=>(tZ r).map ((y,d)::·)
 |_::_=>Z
def S2(b:List (Key×eD))(a:List (eD×eD)):List (eD×eD):=b.foldl (λa p=>Ez (kH p.1) p.2 a) a
noncomputable def sr(b:List (Key×V))(a:List (Key×V)):List (Key×V):=b.foldl (λa p=>putK a p.1 p.2) a
noncomputable def CL:Lp->Od
 |[.list ds]=>(tZ ds).bind λa=>if a.length<=sizeLine then Y (.dict (S2 a [])) else Z
 |_=>Z
section
theorem EI(I:eT X pins σ H s):∀{j:Lp}{g:List (Key×eD)}{l:List V}{m:Lw},tZ j=Y g->ez X.K H j l->fT l m ->
  ∃(c:List (Key×V)) (ws:List (Key×Value)),mf (fG X.prog X.w) s.heap m ws/\KV c ws/\c.length=g.length/\∀a b,fZ X.K H a b->fZ X.K H (S2 g a) (sr c b)
 |[],_,_,_,e,i,r=>by cases e;rw[ez.eP.mp i] at r;cases r;exact⟨[],[],.nil,.nil,rfl,λa b h=>h⟩
 |d::j,_,_,_,e,i,r=>by
  obtain⟨v,l,rfl,N,M⟩:=ez.eF.mp i;obtain⟨k,f,rfl⟩:∃k f,d=.tuple [k,f]:=by
   unfold tZ at e;split at e
   ·rename_i z;cases z
   ·rename_i k f r z;injection z with o z2;exact⟨k,f,o⟩
   ·cases e
  obtain⟨y,Q,P⟩:=bind_some (show (o9 k).bind (λy=>(tZ j).map ((y,f)::·))=Y _ from e);obtain⟨g,O,rfl⟩:=aa.mp P;cases r with
  |cons B A=>
   obtain⟨c,ws,W,U,S,R⟩:=EI I O M A;obtain⟨T,ts,rfl,x,L⟩:=N.gP;cases B;obtain⟨v1,q,rfl,G,F⟩:=M8 L;obtain⟨J,n,E,_⟩:=I.tuple x;have:=gI Q;subst this;rw[hV G] at n;cases n with
   |@cons _ w1 _ _ D u=>
    cases u with
    |@cons _ p _ _ C t=>cases t;exact⟨(y,q)::c,(y,p)::ws,mf.cons E (lR D) W,Paired.cons ⟨rfl,C⟩ U,by rw[ax,ax,S],λa b h=>R _ _ (h.put F)⟩
def KV.aan{c:List (Key×V)}{e:List (Key×Value)}(r:KV c e):∀{a:List (Key×V)}{b:List (Key×Value)},KV a b->KV (sr c a) (EH b e):=by
 induction r with
 |nil=>exact λh=>h
 |@cons p q c f h t g=>intro a b d;obtain⟨j,i⟩:=h;have:=d.put p.1 i;rw[show sr (p::c) a=sr c (putK a p.1 p.2) from rfl,show EH b (q::f)=EH (stored b q.1 q.2) f from rfl,<-j];exact g this
theorem Bx:∀(b:List (Key×V)) (a:List (Key×V)),(sr b a).length<=a.length+b.length
 |[],a=>by simp[sr]
 |p::b,a=>by have d:=Bx b (putK a p.1 p.2);have c:=oD a p.1 p.2;rw[show sr (p::b) a=sr b (putK a p.1 p.2) from rfl,ax];omega
def QR(K:X.calm=true):yh X (.type "dict") CL:=by
 intro q s σ H S U Q I r h;obtain⟨ds,c,i,e,k⟩:=h;unfold CL at e;split at e
 ·rename_i V;obtain⟨m,M,f⟩:=bind_some e;by_cases g:m.length<=sizeLine
  ·rw[ag g] at f;cases f;obtain⟨v,rfl,L⟩:=iJ i;obtain⟨u,rfl,B⟩:=tH r;obtain⟨p,T,rfl,z,D⟩:=eL.fh.mp L;cases B;obtain⟨E,A,⟨o,n,F,l,j,d⟩,_⟩:=I.list z;obtain⟨b,x,P,t,O,N⟩:=EI I M D A;have hw:x.length=m.length:=by rw[<-t.length,O]
   refine wL (knd:=fG X.prog X.w) (I.ok.hd K) F l d j (by simpa using P) (by rw[hw];exact g) λW y J C=>?_;have G:(sr b []).length<=sizeLine:=by have:=Bx b [];simp at this;omega
   have R:=I.laid (a:=(zB s)) (o:=.dK (sr b [])) (t':=y) C (az _) (Cq G (aQ.mpr (Ne.symm (aG I.big))) (KV.aan t .nil) J);refine⟨.ref (zB s),_,R,rfl,k _ _ (iF I.fresh) (eL.kI.mpr ⟨_,rfl,.inl ⟨_,.inl eR,?_⟩⟩)⟩;exact(N [] [] (fZ.eP.mpr rfl)).same (iF I.fresh)
  ·rw[aj g] at f;cases f
 ·cases e
end
end L2
namespace PySem
open Builtin
section
variable {prog:Program}{w:World}
abbrev aao(a:Program)(w:World)(A:Around)(R:Result->Shared->Prop):Fin->Shared->Prop:=λb c=>match b with
 |.done f=>R (.ok f) c
 |.again d=>d.quiet=true/\codeAny (model a w) A d R c
theorem we{x:Value}{Q:Px}
  (j:∀h2 c,h2.get? (zB s)=Y (zl #[] c)->(∀b o,s.heap.get? b=Y o->h2.get? b=Y o) ->
   wpAny (model prog w) A.in1.in1 (Builtin.List.listExtendWith (.ref (zB s)) x .none) (aao prog w A.in1 (wants (λr s₂=>r=.none/\Q (.ref (zB s)) s₂) E)) (λe s'=>wants (λr s₂=>r=.none/\Q (.ref (zB s)) s₂) E (.error e) s') { s with heap:=h2 }):
  wpAny (model prog w) A (call (.type "list") [x]) Q E s:=by
 refine callType_codes (Q₁:=λf d=>f=.ref (zB s)/\d={ s with heap:=s.heap.push { cls:=.type "list",data:=.seq #[] } }) F.called_list (F.typeCall_list_1 _) F.entry_list_init (code_list_new _ ⟨rfl,rfl⟩) λf d g=>?_;obtain⟨rfl,rfl⟩:=g;have a:(s.heap.push { cls:=.type "list",data:=.seq #[] }).get? (zB s)=Y { cls:=.type "list",data:=.seq #[] }:=aw _ rfl;refine⟨⟨_,a,rfl⟩,F.args_list_init_2 _ _,?_⟩;show wpAny _ A.in1.in1 (do
  let h <-Builtin.List.listItems (.ref (zB s))
  Builtin.List.listUpdate (.ref (zB s)) (λ_=>#[])
  letGo h.toList.reverse
  Builtin.List.listExtendWith (.ref (zB s)) x .none) _ _ _
 refine ab ?_;unfold Builtin.List.listItems;refine ab (eA a rfl (au ?_));show wpAny _ A.in1.in1 (updateSeq (zB s) (λ_=>#[])>>=_) _ _ _;refine ab (bT a rfl (ab (wpAny_letGo ?_)));refine j _ _ (bo (Obj.mapSeq λ_=>(#[]:Array Value)) a rfl) λb o e=>?_;have i:(zB s)≠b:=λz=>aX _ (by have:=aq e;rw[<-z] at this;exact this);exact(a9 _ _ i).trans (af _ e)
variable {K:Type} [DecidableEq K] {knd:KeyKind prog w K}
theorem yA{d:Addr}{a:List (K×Value)}{Q:Px} (X:A.handled=Z) (hS:(d==sysModules)=false) (hd:s.heap.DictOf knd d a) (W:a.length<=sizeLine)
  (h:∀h' tk its c,its.size=a.length->(∀(j:Nat) v,its[j]?=Y v->∃k x,a[j]?=Y (k,x)/\knd.is k v=true)->h'.get? (zB s)=Y (zl its c)->(∀b o,s.heap.get? b=Y o->h'.get? b=Y o)->Q (.ref (zB s)) { s with heap:=h',toks:=tk }):
  wpAny (model prog w) A (call (.type "list") [.ref d]) Q E s:=by
 obtain⟨r,t⟩:=hd.dictAt;have i:d<(zB s):=t.lt_size;refine we λg c B M=>?_;have f:g.DictAt knd d a r:=t.at' λo e=>M _ _ e;have P:Shared.TypeIs { s with heap:=g } (.ref d) "dict":=f.dictOf.typeIs;have l:(zB s)<g.objs.size:=aq B;unfold Builtin.List.listExtendWith;refine ab (cu P ?_);have V:Builtin.List.listSameRef (.ref (zB s)) (.ref d)=false:=by simp[Builtin.List.listSameRef,cE i]
 have U:(Value.type "dict"==Value.type "list")=false:=by decide
 have T:(Value.type "dict"==Value.type "tuple")=false:=by decide
 simp only[V,U,T,dt,bM,dE];refine ab (wpAny_pyIter_dict hS f ?_);refine ab (bg ?_);have p:Shared.TypeIs { s with heap:=g.push { cls:=.type "dict_keyiterator",data:=.fields #[.ref d,.int 0 0,.int a.length 0,.int r 0] } } (.ref d) "dict":=(f.push _).dictOf.typeIs;unfold Builtin.List.listLengthHint;refine ab (dv p F.slot_dict_len.lookup ?_);have R:splitId "dict.__len__"=Y ("dict","__len__"):=by kernel_rfl
 dsimp only;rw[R];dsimp only;refine ab (wpAny_isInstance p isSubtype_dict_dict ?_);rw[aj (by decide),ag (by decide)];refine ab (cu p ?_);show wpAny _ _ (pure false) _ _ _;refine au ?_;rw[ag (by decide)];refine ab (eC (ab ?_));show wpAny _ _ (updateSeq (zB s) (·.push .none)>>=λ_=>updateSeq (zB s) (·.pop)) _ _ _;have y:(g.push { cls:=.type "dict_keyiterator",data:=.fields #[.ref d,.int 0 0,.int a.length 0,.int r 0] }).get? (zB s)=Y (zl #[] c):=af _ B;refine ab (bT y rfl ?_);have u:=bo (Obj.mapSeq (·.push Value.none)) y rfl;refine bT (hz:=by seq_fits) u rfl ?_;have J:=bo (Obj.mapSeq (·.pop)) u rfl;have q:∀b o,b≠(zB s)->(g.push { cls:=.type "dict_keyiterator",data:=.fields #[.ref d,.int 0 0,.int a.length 0,.int r 0] }).get? b=Y o->(((g.push { cls:=.type "dict_keyiterator",data:=.fields #[.ref d,.int 0 0,.int a.length 0,.int r 0] }).update (zB s) (Obj.mapSeq (·.push Value.none))).update (zB s) (Obj.mapSeq (·.pop))).get? b=Y o :=
  λb o N e=>(a9 _ _ (Ne.symm N)).trans ((a9 _ _ (Ne.symm N)).trans e)
 have H:(zB s)∉[g.objs.size,d]:=by
  intro m;rcases ao.mp m with e|m
  ·exact absurd e (aG l)
  ·exact absurd (by simpa using m) (cE i)
 have dI:d≠g.objs.size:=aG (d6 i l);refine au ⟨cx bU _,codeAny_extend_loopS (Walks.dictKeys (knd:=knd) (show A.in1.in1.handled=Z from X) g.objs.size d dI a r).toS W _ H _ a.length 0 _ _ _ rfl (cD _) ⟨?_,?_⟩ J (ItemsOf.nil _) λS L c' C I n=>?_⟩
 ·exact Heap.IsKeyIter.at ⟨_,aw _ rfl,rfl,rfl⟩ λo e=>q _ _ (Ne.symm (aG l)) e
 ·exact(f.push _).at' λo e=>q _ _ (aG i) e
 ·obtain⟨h',g',d',D,G⟩:=S;have eg:g'=s.gens:=C.gens;have ed:d'=s.drawn:=C.drawn;have eo:G=s.os:=C.os;subst eg ed eo;refine⟨rfl,h h' D L c' n.1 (λj v e=>n.2 j v e) I λb o e=>?_⟩;have O:b≠(zB s):=λz=>aX _ (by have:=aq e;rw[z] at this;exact this);have bI:b≠g.objs.size:=λz=>aX g.objs.size (d6 (by have:=aq e;rw[z] at this;exact this) l);refine C.heap b o (by simp[O,bI]) (q b o O (af _ (M b o e)))
end
end PySem
namespace PySem
open Builtin
section
variable {prog:Program}{w:World}
def QS{M:Model}{Q:Option Obj->Shared->Prop}(h:Q (s.heap.get? a) s):wpAny M A (loadIfAlive a) Q E s:=λΓ p b=>by show Sem.wp M Γ (Sem.loadIfAlive a _) _ _ p s;rw[Sem.wp_loadIfAlive];exact h
abbrev vk(h:Heap)(z c a T:Addr)(b:Bool):Prop:=h.get? z=Y { cls:=.type "zip",dict:=Z,data:=.fields #[rawInt T,.bool b,.bool false,.ref c,.ref a],slots:=#[] }
def wg{z e d T:Addr}{b:Bool}{g:Obj}{Q:Bool->Shared->Prop} (a:vk s.heap z e d T b) (h:s.heap.get? T=Y g)
  (k:∀h',vk h' z e d T true->Heap.SameBut z s.heap h'->Q false { s with heap:=h' }):wpAny (model prog w) A (Builtin.SmallTypes.ownedTupleIsFree (.ref z)) Q E s:=by
 unfold Builtin.SmallTypes.ownedTupleIsFree;refine ab (cq a rfl (x:=rawInt T) rfl ?_);show wpAny _ _ (loadIfAlive ((T:Int)).toNat>>=_) _ _ _;refine ab (QS ?_);rw[show ((T:Int)).toNat=T from cV T,h];rw[aj (by simp)];refine ab (cq a rfl (x:=.bool b) rfl ?_);cases b with
 |true=>rw[aj (by decide)];exact au (k _ a (Heap.SameBut.refl _ _))
 |false=>rw[ag (by decide)];refine ab (wpAny_setField_rec a (by simp) λh' c f=>au (k h' c f))
def Hm{z j I T h g n m:Addr}{b:Bool}{M:Obj}{q p:Nat}{K J:Array Value}{x y:Value}{Q:Px} (D:ZipApart z j I h g n m) (B:vk s.heap z j I T b) (W:s.heap.get? T=Y M) (C:IsPair s.heap j (.ref h) (.ref g))
  (S:s.heap.IsListIter h n q) (R:s.heap.IsListIter g m p) (O:s.heap.IsList n K) (N:s.heap.IsList m J) (V:K[q]?=Y x) (U:J[p]?=Y y)
  (k:∀h',vk h' z j I T true->h'.IsListIter h n (q+1)->h'.IsListIter g m (p+1)->IsPair h' (zB s) x y->(∀c o,c≠z->c≠h->c≠g->s.heap.get? c=Y o->h'.get? c=Y o)->Q (.ref (zB s)) { s with heap:=h' }):
  wpAny (model prog w) A (Builtin.«zip.__next__» ⟨[.ref z],[]⟩) (λfin s'=>∃v,fin=.done (.ret v)/\Q v s') E s:=by
 show wpAny _ _ (field (.ref z) 2>>=_) _ _ _;refine ab (cq B rfl (x:=.bool false) rfl ?_);show wpAny _ _ (field (.ref z) 3>>=_) _ _ _;refine ab (cq B rfl (x:=.ref j) rfl (ab (eA C rfl ?_)));show wpAny _ _ (Builtin.SmallTypes.ownedTupleIsFree (.ref z)>>=_) _ _ _;refine ab (wg B W λh1 u a=>?_);rw[aj aB];refine ab ?_;rw[<-Array.forIn_toList];simp only[dw,dG];refine ab (ab (bg ?_));show wpAny _ _ (Builtin.SmallTypes.nextOf (.ref h)>>=_) _ _ _;refine ab (cW (S.extBut a.extBut D.i1z) (O.extBut a.extBut D.l1z) V λX t d=>au (au ?_));dsimp only;refine ab (ab (bg ?_));show wpAny _ _ (Builtin.SmallTypes.nextOf (.ref g)>>=_) _ _ _;refine ab (cW ((R.extBut a.extBut D.i2z).extBut d.extBut D.i12.symm) ((N.extBut a.extBut D.l2z).extBut d.extBut D.l2i1) U λi r f=>au (au (au ?_)));have L:i.objs.size=(zB s):=by rw[f.1,d.1,a.1]
 have P:∀c o,c≠z->c≠h->c≠g->s.heap.get? c=Y o->i.get? c=Y o:=λc o H G F e=>f.extBut _ _ F (d.extBut _ _ G (a.extBut _ _ H e));refine ab (wpAny_newTuple (au ⟨_,rfl,?_⟩) (by show 2<=sizeLine;decide));show Q (.ref i.objs.size) _;rw[L];have l:∀c o,i.get? c=Y o->(i.push { cls:=.type "tuple",data:=.seq #[x,y] }).get? c=Y o:=λc o e=>af _ e;refine k _ (l _ _ (f.extBut _ _ D.i2z.symm (d.extBut _ _ D.i1z.symm u))) ((t.extBut f.extBut D.i12).at λo e=>l _ _ e) (r.at λo e=>l _ _ e) (by rw[<-L];exact aw _ rfl) λc o H G F e=>l _ _ (P c o H G F e)
def Hn{z i K T h g p n:Addr}{b:Bool}{L:Obj}{t r:Nat}{l j:Array Value}{Q:Fin->Shared->Prop} (I:A.handled=Z) (D:ZipApart z i K h g p n) (u:vk s.heap z i K T b) (S:s.heap.get? T=Y L) (B:IsPair s.heap i (.ref h) (.ref g))
  (H:s.heap.IsListIter h p t) (N:s.heap.IsListIter g n r) (G:s.heap.IsList p l) (M:s.heap.IsList n j) (f:l[t]?=Z\/j[r]?=Z)
  (k:∀h' e,(∀c o,c≠z->c≠h->c≠g->s.heap.get? c=Y o->h'.get? c=Y o)->(∃o,h'.get? e=Y o/\o.cls=.type "StopIteration")->E (.ref e) { s with heap:=h' }):
  wpAny (model prog w) A (Builtin.«zip.__next__» ⟨[.ref z],[]⟩) Q E s:=by
 show wpAny _ _ (field (.ref z) 2>>=_) _ _ _;refine ab (cq u rfl (x:=.bool false) rfl ?_);show wpAny _ _ (field (.ref z) 3>>=_) _ _ _;refine ab (cq u rfl (x:=.ref i) rfl (ab (eA B rfl ?_)));show wpAny _ _ (Builtin.SmallTypes.ownedTupleIsFree (.ref z)>>=_) _ _ _;refine ab (wg u S λh1 P a=>?_);rw[aj aB];refine ab ?_;rw[<-Array.forIn_toList];simp only[dw,dG];refine ab (ab (bg ?_));show wpAny _ _ (Builtin.SmallTypes.nextOf (.ref h)>>=_) _ _ _;cases v:l[t]? with
 |none=>exact ab (wpAny_nextOf_list_end I (H.extBut a.extBut D.i1z) (G.extBut a.extBut D.l1z) v λJ e d y=>k J e (λc o F C _ q=>d _ _ C (a.extBut _ _ F q)) y)
 |some x=>have R:j[r]?=Z:=f.resolve_left (by rw[v];exact λq=>nomatch q);refine ab (cW (H.extBut a.extBut D.i1z) (G.extBut a.extBut D.l1z) v λJ O d=>au (au ?_));dsimp only;refine ab (ab (bg ?_));show wpAny _ _ (Builtin.SmallTypes.nextOf (.ref g)>>=_) _ _ _;exact ab (wpAny_nextOf_list_end I ((N.extBut a.extBut D.i2z).extBut d.extBut D.i12.symm) ((M.extBut a.extBut D.l2z).extBut d.extBut D.l2i1) R λU e m y=>k U e (λc o F C V q=>m _ _ V (d.extBut _ _ C (a.extBut _ _ F q))) y)
def CM(S:Addr)(h:Heap)(c b a:Array Value):Prop:=∀(j:Nat) v,a[j]?=Y v->∃T x y,v=.ref T/\c[j]?=Y x/\b[j]?=Y y/\IsPair h T x y/\S<T
theorem CN{S z TI TO T E C P O:Addr}{l r:Array Value}(g:Heap)(hh:A.in1.handled=Z)(D:ZipApart z TI TO E C P O)(B:g.get? S=Z/\g.get? z=Z/\g.get? E=Z/\g.get? C=Z)(X:(∃o,g.get? P=Y o)/\∃o,g.get? O=Y o)(hn:min l.size r.size<=sizeLine):
    ∀(m i:Nat) (s:Shared) (acc:Array Value) (c:Nat) (b:Bool),min l.size r.size - i=m->i<=min l.size r.size->acc.size=i->(∃K,s.heap.get? T=Y K/\∃v n,K.cls=.type "tuple"/\K.data=.seq v n)->vk s.heap z TI TO T b->IsPair s.heap TI (.ref E) (.ref C)->s.heap.IsListIter E P i->s.heap.IsListIter C O i->s.heap.IsList P l->s.heap.IsList O r ->
      s.heap.get? S=Y (zl acc c)->CM S s.heap l r acc->(∀b o,g.get? b=Y o->s.heap.get? b=Y o) ->
      (∀u t c',t.size=min l.size r.size->CM S u l r t->u.get? S=Y (zl t c')->(∀b o,g.get? b=Y o->u.get? b=Y o)->R (.ok (.ret .none)) { s with heap:=u }) ->
      codeAny (model prog w) A (.builtin "list.extend.loop" ⟨[.ref S,.ref z,.none],[]⟩) R s
:=by
  intro m;induction m using Nat.strongRecOn with
  |_ m ih=>
    rintro i s acc c b hm hi ha ⟨K,ht,tv,tn,tc,td⟩ V G j1 j2 m1 m2 hS W Q hR;have tz:s.TypeIs (.ref z) "zip":=⟨_,V,rfl⟩
    refine b6 F.entry_extend_loop ?_;rw[bO bU _];show wpAny _ A.in1 (pyNext (.ref z)>>=_) _ _ s;refine ab ?_;unfold pyNext;have nz:∀a o v n,s.heap.get? a=Y o->o.data=.seq v n->a≠z:=λa o v n f h q=>by subst q;rw[V] at f;cases f;cases h
    have M:∀a o v n,s.heap.get? a=Y o->o.data=.seq v n->a≠E:=λa o v n f h q=>by subst q;obtain⟨o',p,_,e4⟩:=j1;rw[f] at p;cases p;rw[h] at e4;cases e4
    have L:∀a o v n,s.heap.get? a=Y o->o.data=.seq v n->a≠C:=λa o v n f h q=>by subst q;obtain⟨o',p,_,e4⟩:=j2;rw[f] at p;cases p;rw[h] at e4;cases e4
    by_cases SV:i<min l.size r.size
    · obtain⟨x,hx⟩:∃x,l[i]?=Y x:=⟨l[i]'(by omega),by simp⟩
      obtain⟨y,hy⟩:∃y,r[i]?=Y y:=⟨r[i]'(by omega),by simp⟩
      refine ab (wpAny_attempt (cp (name:=zZ "__next__") tz dy
        (dg dy tz F.entry_zip_next (Hm D V ht G j1 j2 m1 m2 hx hy λu hz' j1' j2' hT' U=>au ?_) (F.args_zip_next_1 _))))
      have d:∀a o v n,s.heap.get? a=Y o->o.data=.seq v n->u.get? a=Y o:=λa o v n f h=>U a o (nz a o v n f h) (M a o v n f h) (L a o v n f h) f;have hS':=d _ _ _ _ hS rfl;show wpAny _ A.in1 (updateSeq S (·.push (.ref (zB s)))>>=_) _ _ _;refine ab (bT hS' rfl ?_ (by rw[ha];omega));have I:=bo (Obj.mapSeq (·.push (Value.ref (zB s)))) hS' rfl;have k:∀a o,a≠S->u.get? a=Y o->(u.update S (Obj.mapSeq (·.push (Value.ref (zB s))))).get? a=Y o:=λa o q e=>(a9 _ _ (Ne.symm q)).trans e;refine au ⟨cx bU _,?_⟩;have H:∀a o,s.heap.get? a=Y o->o.cls≠.type "list"->a≠S:=λa o f h q=>by subst q;rw[hS] at f;cases f;exact h rfl
      have l1S:P≠S:=λq=>by obtain⟨o,e⟩:=X.1;rw[q,B.1] at e;cases e
      have l2S:O≠S:=λq=>by obtain⟨o,e⟩:=X.2;rw[q,B.1] at e;cases e
      have zS:z≠S:=H z _ V (by intro q;injection q with q;revert q;decide);have TS:T≠S:=H T _ ht (by rw[tc];intro q;injection q with q;revert q;decide);have TIS:TI≠S:=H TI _ G (by intro q;injection q with q;revert q;decide);have i1S:E≠S:=by obtain⟨o,f,h,p⟩:=id j1;exact H E o f (by rw[h];intro q;injection q with q;revert q;decide)
      have i2S:C≠S:=by obtain⟨o,f,h,p⟩:=id j2;exact H C o f (by rw[h];intro q;injection q with q;revert q;decide)
      have N:(zB s)≠S:=λq=>by have:=aq hS;rw[<-q] at this;exact aX _ this
      refine ih (min l.size r.size - (i+1)) (by omega) (i+1) _ (acc.push (.ref (zB s))) _ true rfl SV (by rw[Array.size_push,ha]) ⟨K,k _ _ TS (d _ _ _ _ ht td),tv,tn,tc,td⟩ (k _ _ zS hz') (k _ _ TIS (d _ _ _ _ G rfl)) (j1'.at λo e=>k _ _ i1S e) (j2'.at λo e=>k _ _ i2S e)
        ?_ ?_ I ?_ (λa o e=>?_) λh2 t c' q1 q2 q3 q4=>hR h2 t c' q1 q2 q3 q4
      · obtain⟨o,f,h,n,p⟩:=m1
        exact⟨o,k _ _ l1S (d _ _ _ _ f p),h,n,p⟩
      · obtain⟨o,f,h,n,p⟩:=m2
        exact⟨o,k _ _ l2S (d _ _ _ _ f p),h,n,p⟩
      · intro j v e
        by_cases hj:j<acc.size
        · have e':acc[j]?=Y v:=by rw[dA] at e;rw[aj (aG hj)] at e;exact e
          obtain⟨T',x',y',r1,r2,r3,r4,r5⟩:=W j v e';exact⟨T',x',y',r1,r2,r3,k _ _ (H _ _ r4 (by intro q;injection q with q;revert q;decide)) (d _ _ _ _ r4 rfl),r5⟩
        · have hj2:j=acc.size:=by
            by_cases q:j=acc.size
            · exact q
            · rw[dA,aj q] at e
              have:acc[j]?=Z:=by simp;omega
              rw[this] at e;cases e
          subst hj2;rw[dA,ag rfl] at e;cases e;rw[ha];exact⟨_,x,y,rfl,hx,hy,k _ _ N hT',aq hS⟩
      · have a1:a≠S:=λq=>by rw[q,B.1] at e;cases e
        have a2:a≠z:=λq=>by rw[q,B.2.1] at e;cases e
        have a3:a≠E:=λq=>by rw[q,B.2.2.1] at e;cases e
        have a4:a≠C:=λq=>by rw[q,B.2.2.2] at e;cases e
        exact k a o a1 (U a o a2 a3 a4 (Q a o e))
    · have J:l[i]?=Z\/r[i]?=Z:=by
        by_cases q:l.size<=i
        · exact .inl (by simp;omega)
        · exact .inr (by simp;omega)
      refine ab (wpAny_attempt (cp (name:=zZ "__next__") tz dy
        (dg dy tz F.entry_zip_next (Hn hh D V ht G j1 j2 m1 m2 J λu e U he=>?_) (F.args_zip_next_1 _))))
      obtain⟨o,ho,hc⟩:=he;refine ab (wpAny_isInstance (T:="StopIteration") (b:=true) ⟨o,ho,hc⟩ isSubtype_stop (au ?_));have d:∀a o v n,s.heap.get? a=Y o->o.data=.seq v n->u.get? a=Y o:=λa o v n f h=>U a o (nz a o v n f h) (M a o v n f h) (L a o v n f h) f;show wpAny _ A.in1 (ret Value.none) _ _ _;refine au (hR u acc c (by omega) (λj v e=>?_) (d _ _ _ _ hS rfl) λa o e=>?_)
      · obtain⟨T',x',y',r1,r2,r3,r4,r5⟩:=W j v e
        exact⟨T',x',y',r1,r2,r3,d _ _ _ _ r4 rfl,r5⟩
      · have a2:a≠z:=λq=>by rw[q,B.2.1] at e;cases e
        have a3:a≠E:=λq=>by rw[q,B.2.2.1] at e;cases e
        have a4:a≠C:=λq=>by rw[q,B.2.2.2] at e;cases e
        exact U a o a2 a3 a4 (Q a o e)
theorem Aq{S z J I E B O N:Addr}{g k:Array Value}{a b:Value}{c:Nat} (d:Heap) (hh:A.in1.handled=Z) (D:ZipApart z J I E B O N) (t:d.get? S=Z/\d.get? z=Z/\d.get? E=Z/\d.get? B=Z) (nTO:d.get? I=Z) (G:(∃o,d.get? O=Y o)/\∃o,d.get? N=Y o) (hn:min g.size k.size<=sizeLine)
  (hz:IsZip s.heap z J I .none) (l:IsPair s.heap J (.ref E) (.ref B)) (H:IsPair s.heap I a b) (j1:s.heap.IsListIter E O 0) (j2:s.heap.IsListIter B N 0) (m1:s.heap.IsList O g) (m2:s.heap.IsList N k)
  (U:s.heap.get? S=Y (zl #[] c)) (kp0:∀b o,d.get? b=Y o->s.heap.get? b=Y o)
  (hR:∀h' its c',its.size=min g.size k.size->CM S h' g k its->h'.get? S=Y (zl its c')->(∀b o,d.get? b=Y o->h'.get? b=Y o)->R (.ok (.ret .none)) { s with heap:=h' }):
  codeAny (model prog w) A (.builtin "list.extend.loop" ⟨[.ref S,.ref z,.none],[]⟩) R s:=by
 refine b6 F.entry_extend_loop ?_;rw[bO bU _];show wpAny _ A.in1 (pyNext (.ref z)>>=_) _ _ s;have M:∀a o,s.heap.get? a=Y o->o.cls≠.type "list"->a≠S:=λa o i m q=>by subst q;rw[U] at i;cases i;exact m rfl
 have l1S:O≠S:=λq=>by obtain⟨o,e⟩:=G.1;rw[q,t.1] at e;cases e
 have l2S:N≠S:=λq=>by obtain⟨o,e⟩:=G.2;rw[q,t.1] at e;cases e
 have X:z≠S:=M z _ hz (by intro q;injection q with q;revert q;decide);have TIS:J≠S:=M J _ l (by intro q;injection q with q;revert q;decide);have W:I≠S:=M I _ H (by intro q;injection q with q;revert q;decide);have C:E≠S:=by obtain⟨o,i,m,V⟩:=id j1;exact M E o i (by rw[m];intro q;injection q with q;revert q;decide)
 have u:B≠S:=by obtain⟨o,i,m,V⟩:=id j2;exact M B o i (by rw[m];intro q;injection q with q;revert q;decide)
 have r:∀h':Heap,(∀c o,c≠z->c≠I->c≠E->c≠B->s.heap.get? c=Y o->h'.get? c=Y o)->∀a o,d.get? a=Y o->h'.get? a=Y o:=λh' h a o e=>
  h a o (λq=>by rw[q,t.2.1] at e;cases e) (λq=>by rw[q,nTO] at e;cases e) (λq=>by rw[q,t.2.2.1] at e;cases e) (λq=>by rw[q,t.2.2.2] at e;cases e) (kp0 a o e)
 by_cases SV:0<min g.size k.size
 ·obtain⟨x,hx⟩:∃x,g[0]?=Y x:=⟨g[0]'(by omega),by simp⟩
  obtain⟨y,hy⟩:∃y,k[0]?=Y y:=⟨k[0]'(by omega),by simp⟩
  refine ab (wpAny_pyNext_zip_item D hz l H j1 j2 m1 m2 hx hy λh' hz' aa5 j1' j2' P sz h=>?_);have Q:h'.get? S=Y (zl #[] c):=h S _ (Ne.symm X) (Ne.symm W) (Ne.symm C) (Ne.symm u) U;show wpAny _ A.in1 (updateSeq S (·.push (.ref (zB s)))>>=_) _ _ _;refine ab (bT Q rfl ?_);have K:=bo (Obj.mapSeq (·.push (Value.ref (zB s)))) Q rfl;have f:∀a o,a≠S->h'.get? a=Y o->(h'.update S (Obj.mapSeq (·.push (Value.ref (zB s))))).get? a=Y o:=λa o q e=>(a9 _ _ (Ne.symm q)).trans e;have p:(zB s)≠S:=λq=>by have:=aq U;rw[<-q] at this;exact aX _ this
  refine au ⟨cx bU _,CN (T:=(zB s)) d hh D t G hn (min g.size k.size - 1) 1 _ #[.ref (zB s)] _ false rfl SV rfl ⟨_,f _ _ p P,_,_,rfl,rfl⟩ (f _ _ X hz') (f _ _ TIS (h J _ D.TIz D.TITO D.TIi1 D.TIi2 l)) (j1'.at λo e=>f _ _ C e) (j2'.at λo e=>f _ _ u e) ?_ ?_ K ?_ (λa o e=>?_) λh2 its c' q1 q2 q3 q4=>hR h2 its c' q1 q2 q3 q4⟩
  ·obtain⟨o,i,m,n,V⟩:=m1;exact⟨o,f _ _ l1S (h _ _ D.l1z D.l1TO D.l1i1 D.l1i2 i),m,n,V⟩
  ·obtain⟨o,i,m,n,V⟩:=m2;exact⟨o,f _ _ l2S (h _ _ D.l2z D.l2TO D.l2i1 D.l2i2 i),m,n,V⟩
  ·intro j v e;cases j with
   |zero=>cases e;exact⟨_,x,y,rfl,hx,hy,f _ _ p P,aq U⟩
   |succ j=>simp at e
  ·exact f a o (λq=>by rw[q,t.1] at e;cases e) (r h' h a o e)
 ·have L:g[0]?=Z\/k[0]?=Z:=by
   by_cases q:g.size<=0
   ·exact .inl (cv (by omega))
   ·exact .inr (cv (by omega))
  refine ab (wpAny_pyNext_zip_end hh D hz l H j1 j2 m1 m2 L λh' h=>?_);show wpAny _ A.in1 (ret Value.none) _ _ _;exact au (hR h' #[] c (by show 0=_;omega) (λj v e=>by simp at e) (h S _ (Ne.symm X) (Ne.symm W) (Ne.symm C) (Ne.symm u) U) (r h' h))
def CO:typeLookup (.type "zip") "__len__"=pure Z:=by rw[d9,de];kernel_rfl
def Ar:typeLookup (.type "zip") "__length_hint__"=pure Z:=by rw[d9,de];kernel_rfl
def As{z u k t r p n:Addr}{m l:Array Value}{a b:Value}{Q:Px} (d:Heap) (hh:A.handled=Z) (D:ZipApart z u k t r p n) (V:d.get? z=Z/\d.get? t=Z/\d.get? r=Z) (y:d.get? k=Z) (C:(∃o,d.get? p=Y o)/\∃o,d.get? n=Y o) (hn:min m.size l.size<=sizeLine) (I:d.objs.size<=(zB s))
  (hz:IsZip s.heap z u k .none) (G:IsPair s.heap u (.ref t) (.ref r)) (F:IsPair s.heap k a b) (j1:s.heap.IsListIter t p 0) (j2:s.heap.IsListIter r n 0) (X:s.heap.IsList p m) (W:s.heap.IsList n l) (B:∀b o,d.get? b=Y o->s.heap.get? b=Y o)
  (h:∀h' its c,its.size=min m.size l.size->CM (zB s) h' m l its->h'.get? (zB s)=Y (zl its c)->(∀b o,d.get? b=Y o->h'.get? b=Y o)->Q (.ref (zB s)) { s with heap:=h' }):
  wpAny (model prog w) A (call (.type "list") [.ref z]) Q E s:=by
 have v:z<(zB s):=aq hz;refine we λH c j K=>?_;have g:IsZip H z u k .none:=K _ _ hz;have x:Shared.TypeIs { s with heap:=H } (.ref z) "zip":=⟨_,g,rfl⟩
 unfold Builtin.List.listExtendWith;refine ab (cu x ?_);have U:Builtin.List.listSameRef (.ref (zB s)) (.ref z)=false:=by simp[Builtin.List.listSameRef,cE v]
 have T:(Value.type "zip"==Value.type "list")=false:=by decide
 have S:(Value.type "zip"==Value.type "tuple")=false:=by decide
 simp only[U,T,S,dt,bM,dE];refine ab (wpAny_pyIter_zip g (ab (bg ?_)));unfold Builtin.List.listLengthHint;refine ab (dv x CO ?_);dsimp only;rw[aj (by decide),aj (by decide)];refine ab (dv x Ar ?_);show wpAny _ _ (pure true) _ _ _;refine au ?_;rw[ag (by decide)];refine ab (eC (ab ?_));show wpAny _ _ (updateSeq (zB s) (·.push .none)>>=λ_=>updateSeq (zB s) (·.pop)) _ _ _;refine ab (bT j rfl ?_);have i:=bo (Obj.mapSeq (·.push Value.none)) j rfl;refine bT (hz:=by seq_fits) i rfl ?_;have J:=bo (Obj.mapSeq (·.pop)) i rfl;have f:∀b o,s.heap.get? b=Y o->((H.update (zB s) (Obj.mapSeq (·.push Value.none))).update (zB s) (Obj.mapSeq (·.pop))).get? b=Y o :=
  λb o e=>by
   have L:(zB s)≠b:=λq=>by have:=aq e;rw[<-q] at this;exact aX _ this
   exact(a9 _ _ L).trans ((a9 _ _ L).trans (K b o e))
 have R:d.get? (zB s)=Z:=by
  cases q:d.get? (zB s) with
  |none=>rfl
  |some o=>have:=aq q;exact absurd (aC this I) (aX _)
 refine au ⟨cx bU _,Aq d (show A.in1.in1.handled=Z from hh) D ⟨R,V⟩ y C hn (f _ _ hz) (f _ _ G) (f _ _ F) (j1.at λo e=>f _ _ e) (j2.at λo e=>f _ _ e) (X.at λo e=>f _ _ e) (W.at λo e=>f _ _ e) J (λb o e=>f b o (B b o e)) λh' its c' P O N M=>⟨rfl,h h' its c' P O N M⟩⟩
end
end PySem
namespace L2
open PySem PySem.Spec PyProof.Rows PySem.Builtin PySem.Builtin.Str
section
variable {h':Heap}
def eT.QT{t':Nat}{i1 i2:Addr}(I:eT X pins σ H s)(k:∀b o,b≠i1->b≠i2->s.heap.get? b=Y o->h'.get? b=Y o)(y:nc X pins H i1)(x:nc X pins H i2):eT X pins σ H { s with heap:=h',toks:=t' }:=by
 obtain⟨t,g,_,i,D,l⟩:=y;obtain⟨p,f,_,h,C,j⟩:=x;have d:∀b u,H b=Y u->b≠i1/\b≠i2:=λb u e=>⟨(λz=>by rw[z,t] at e;cases e),(λz=>by rw[z,p] at e;cases e)⟩
 have a:∀b,b∉[i1,i2]->b≠i1/\b≠i2:=λb hb=>⟨λz=>hb (by simp[z]),λz=>hb (by simp[z])⟩
 refine I.step (g':=s.gens) (d':=s.drawn) (ch:=[i1,i2]) ?_ (λb o _ _ hc e _=>k b o (a b hc).1 (a b hc).2 e) (λb o _ _ hc e _=>⟨o.slots,k b o (a b hc).1 (a b hc).2 e⟩) (λ_ _ _ _ n=>n)
  (λb o hc e=>⟨o,k b o (a b hc).1 (a b hc).2 e⟩) (λ_ _ e=>e) (λ_ _ _ e=>e) (λb ps e=>⟨#[],by rw[e];simp⟩) ?_ ?_ I.bare
 ·intro b hb;rcases ao.mp hb with e|hb
  ·subst e;exact⟨i,g,D,l⟩
  ·have e:b=i2:=by simpa using hb
   subst e;exact⟨h,f,C,j⟩
 ·rintro m ⟨o,A,B,w,r⟩;exact⟨o,A,B,k _ o (Ne.symm g) (Ne.symm f) w,r⟩
 ·intro b u e;refine(I.ir b u e).tF (λc v hc q=>?_) (λ_ q=>q) λ_ _ q=>q;rcases hc with z|z
  ·rw[z] at q ⊢;exact k _ _ (d b u e).1 (d b u e).2 q
  ·exact k _ _ (d c _ z).1 (d c _ z).2 q
end
def Ite(K:Fg)(l:Addr):It where
 go:=λi H=>∃a x,kQ K H l a/\a[i]?=Y x
 Me:=λi H y c=>∃T x,y=.ref T/\H T=Z/\(∀b,kQ K H l b->b[i]?=Y x)/\c=upd H T (.tup [.int (i:Nat),x])
 stop:=λi H=>∃a,kQ K H l a/\a.length<=i
def KS{P:Program}{w:World}{G:Lx}{kt:Nat}{tp:Pos}(l n g:Addr)(C:n≠g):Cc P w K (.Tuple G kt tp) (Ite K l) [n,g] n (λi h=>(∃f,IsEnum h n g (i:Nat) f)/\h.IsListIter g l i) where
 mem:=by simp
 obj:=λi h j b hb=>by
  obtain⟨⟨f,m⟩,y⟩:=j;rcases ao.mp hb with e|hb
  ·subst e;exact⟨_,m,λv z=>by cases z⟩
  ·have e:b=g:=by simpa using hb
   subst e;obtain⟨o,e,c,d⟩:=y;exact⟨o,e,λv z=>by rw[d] at z;cases z⟩
 keep:=λi h h' j k=>⟨by obtain⟨f,m⟩:=j.1;exact⟨f,k n (by simp) _ m⟩,j.2.at λo e=>k g (by simp) o e⟩
 item:=by
  intro X U hw V hc i r s σ H E I R j Q;subst U hw V;obtain⟨⟨f,m⟩,y⟩:=j;obtain⟨xs,x,J,N⟩:=Q;obtain⟨M,L,p,hz⟩:=I.list J;obtain⟨u,hu,ru⟩:=L.get N;refine wpAny_pyNext_enum_item m y p.isList (x:=u) (by simpa using hu) C λh1 S O B hsz kp=>⟨_,rfl,?_⟩
  refine wpAny_letOwnedTupleGo_enum S λh2 T W=>?_;have F:n<(zB s):=aq m;have A:g<(zB s):=by obtain⟨o,e,_⟩:=y;exact aq e
  have I1:=I.laid (a:=(zB s)) (o:=.tup [.int (i:Nat),x]) (t':=s.toks+1) (h':=s.heap.push { cls:=.type "tuple",data:=.seq #[.int i s.toks,u] }) (λ_ _ q=>af _ q) (az _) ⟨by show 2<=sizeLine;decide,[.int i s.toks,u],.cons ⟨_,rfl⟩ (.cons ru .nil),_,aw _ rfl,rfl,0,rfl⟩;have t:∀b∈[n,g],nc X r (upd H (zB s) (.tup [.int (i:Nat),x])) b:=λb hb=>by
   obtain⟨g1,g2⟩:=R b hb;refine⟨?_,g2⟩;have:b≠(zB s):=by
    rcases ao.mp hb with e|hb
    ·rw[e];exact aG F
    ·rw[show b=g by simpa using hb];exact aG A
   rw[eI this];exact g1
  have I2:=I1.QT (h':=h2) (t':=s.toks+1) (i1:=n) (i2:=g) (λb o b1 b2 e=>(W.2 b b1).trans (by
   by_cases hb:b=(zB s)
   ·subst hb;have e':Y o=Y { cls:=.type "tuple",data:=.seq #[.int i s.toks,u] }:=e.symm.trans (aw _ rfl);cases e';exact B
   ·have D:=aq e;rw[cQ] at D;have aa6:b<(zB s):=Nat.lt_of_le_of_ne (Nat.le_of_lt_succ D) hb;have q:s.heap.get? b=Y o:=(Heap.get?_push_ne _ _ _ hb).symm.trans e;exact kp b o b1 b2 q)) (t n (by simp)) (t g (by simp))
  exact⟨.ref (zB s),_,I2,rfl,⟨_,x,rfl,I.fresh,λys hy=>by rw[I.qy hy J];exact N,rfl⟩,⟨⟨u,T⟩,O.at λo e=>(W.2 _ (Ne.symm C)).trans e⟩,λb hb=>(t b hb).1⟩
 done:=by intro X U hw V hc i r s σ H E I R j Q;subst U hw V;obtain⟨⟨f,m⟩,y⟩:=j;obtain⟨xs,J,N⟩:=Q;obtain⟨M,L,p,hz⟩:=I.list J;obtain⟨f0,f1,f2,f3,f4,f5⟩:=R g (by simp);have hl:=L.length;exact wpAny_pyNext_enum_end (I.ok.hd hc) m y p.isList (by simp;omega) λh' eb=>⟨rfl,I.turned (t':=s.toks) (λb o hb e=>eb b o hb e) f0 f1 f3 f4 f5⟩
 self:=λ_ _ _ _ _ j h=>by obtain⟨f,m⟩:=j.1;exact wpAny_pyIter_enum m h
section
variable {a:Expr}{fb fc:c7->Od}{p2 fV:Pos}
def Xv(K:Fg)(c:TE):TI:=λσ H R=>c σ H λv a=>∃l b,v=.ref l/\kQ K a l b/\R (Ite K l) a
def Jp{f:Lx}{t:Nat}{n:Pos}{k:TE}(B:Gl X "enumerate")(A:X.mg "enumerate"=Z)(C:PE X e k)(m:starEach [e] X.env=[(false,eval e X.env)]:=by rfl):PI X (.Tuple f t n) (.Call (.Name "enumerate" p) [e] [] pos) (Xv X.K k):=by
 intro a s σ H R I h;refine aZ (o6 I B A (by rfl) ?_);refine a0 ?_ (by rw[m];rfl) (by rfl);rw[m];refine aS (gS (@C a s σ H _ I h) ?_);rintro v c ⟨x,j,g,o,l,J,F,y,q⟩;refine a8 ?_;subst F;cases o;obtain⟨w,M,r,N⟩:=g.list y;refine call_enumerate_list r.isList λD d i L u=>?_;refine wpAny_pyIter_enum d ?_;have G:eT X a σ j { c with heap:=D }:=g.kept (t':=c.toks) u;have E:∀b,(zB c)<=b->nc X a j b:=λb hb=>g.Aj hb (g.ir.fresh hb);exact⟨_,[(zB c)+1,(zB c)],_,_,j,rfl,G,KS l _ _ (cE (cF _)),⟨⟨_,d⟩,i⟩,λb hb=>E b (by
  rcases ao.mp hb with z|hb
  ·rw[z];exact eh _
  ·rw[show b=(zB c) by simpa using hb];exact az _),q⟩
noncomputable def qL(a:Lp):Lp:=a.zipIdx.map λx=>.tuple [.int x.2,x.1]
noncomputable def Jq(f:c7->Od):c7->Option Lp:=λρ=>(f ρ).bind λd=>match d with | .list ds=>Y (qL ds)|_=>Z
def KU(h:(qL ds)[i]?=Y d):∃x,ds[i]?=Y x/\d=.tuple [.int (i:Nat),x]:=by
 unfold qL at h;rw[ay,List.getElem?_zipIdx] at h;cases q:ds[i]? with
 |none=>rw[q] at h;cases h
 |some x=>rw[q] at h;simp at h;exact⟨x,rfl,h.symm⟩
def wh{c:Hp}{l:Addr}(b:kQ K c l vs)(j:ez K c ds vs):pa K (Ite K l) (qL ds) c:=λu a=>by
 have p:(qL ds).length=ds.length:=by simp[qL]
 refine⟨⟨vs,a.seq b,by rw[p,j.length];exact az _⟩,λi d q=>?_⟩;obtain⟨x,r,rfl⟩:=KU q;obtain⟨v,h,s⟩:=j.get r;refine⟨⟨vs,v,a.seq b,h⟩,?_⟩;rintro y t ⟨T,z,o,f,n,m⟩;have e:=n vs (a.seq b);rw[h] at e;cases e;subst o m;refine⟨iF f,λw k g=>eL.jz.mpr ⟨T,_,rfl,qq.of (by rw[g T f];exact eR),ez.cons (eL.eW.mpr rfl) (ez.cons (s.same k) ez.nil)⟩⟩
end
end L2
namespace L2
open PySem PySem.Spec PyProof.Rows PySem.Builtin PySem.Builtin.Str
def Its(x:Str):It where
 go:=λi _=>i<x.cps.size
 Me:=λi H y a=>a=H/\∃c,x.cps[i]?=Y c/\y=.str ⟨#[c]⟩
 stop:=λi _=>x.cps.size<=i
def EJ{P:Program}{w:World}{D:String}(p:D="str_ascii_iterator"\/D="str_iterator")(x:Str)(t:Tok)(m:Addr):Cc P w K tg (Its x) [m] m (λi h=>h.IsStrIter m D x t i) where
 mem:=by simp
 obj:=λi h f b a=>by
  have e:b=m:=by simpa using a
  subst e;obtain⟨o,e,c,d⟩:=f;exact⟨o,e,λv z=>by rw[d] at z;cases z⟩
 keep:=λi h l f k=>by obtain⟨o,e,r⟩:=f;exact⟨o,k m (by simp) o e,r⟩
 item:=by
  intro X J hw L G i j s σ H E I q f hg;subst J hw L;obtain⟨C,B,O,A,y,u⟩:=q m (by simp);have n:x.cps[i]?=Y (x.cps[i]'hg):=Array.getElem?_eq_getElem hg;rcases p with rfl|rfl
  ·refine wpAny_pyNext_ascii_item f n λl g F=>?_;have N:eT X j σ H { s with heap:=l,toks:=s.toks+1 }:=I.turned (t':=s.toks+1) (λb o a e=>(F.2 b a).trans e) C B A y u;obtain⟨o,e,c,d⟩:=id g;exact⟨_,rfl,xX (s:={ s with heap:=l,toks:=s.toks+1 }) e c d (by decide) ⟨.str _,H,N,⟨_,rfl⟩,⟨rfl,_,n,rfl⟩,g,λb a=>(q b a).1⟩⟩
  ·refine wpAny_pyNext_wide_item f n λl g F=>?_;have N:eT X j σ H { s with heap:=l,toks:=s.toks+1 }:=I.turned (t':=s.toks+1) (λb o a e=>(F.2 b a).trans e) C B A y u;obtain⟨o,e,c,d⟩:=id g;exact⟨_,rfl,xX (s:={ s with heap:=l,toks:=s.toks+1 }) e c d (by decide) ⟨.str _,H,N,⟨_,rfl⟩,⟨rfl,_,n,rfl⟩,g,λb a=>(q b a).1⟩⟩
 done:=by
  intro X J hw L G i j s σ H E I q f hg;subst J hw L;obtain⟨C,B,O,A,y,u⟩:=q m (by simp);have n:x.cps[i]?=Z:=cv hg;rcases p with rfl|rfl
  ·exact wpAny_pyNext_ascii_end (I.ok.hd G) f n λl M=>⟨rfl,I.turned (t':=s.toks) (λb o a e=>M b o a e) C B A y u⟩
  ·exact wpAny_pyNext_wide_end (I.ok.hd G) f n λl M=>⟨rfl,I.turned (t':=s.toks) (λb o a e=>M b o a e) C B A y u⟩
 self:=λ_ _ _ _ _ f h=>by
  rcases p with rfl|rfl
  ·exact wpAny_pyIter_striter_ascii f h
  ·exact wpAny_pyIter_striter_wide f h
section
variable {a:Expr}{fb fc:c7->Od}{p2 fV:Pos}
def UR{g:TE}(l:PE X e g):PI X tg e (λσ H R=>g σ H λv d=>∃x,v=.str x/\R (Its x) d):=by
 intro a s σ H R I h;refine gS (@l a s σ H _ I h) ?_;rintro v c ⟨y,d,f,k,x,n,q⟩;subst n;obtain⟨t,rfl⟩:=k;have j:∀b∈[(zB c)],nc X a d b:=λb m=>by rw[show b=(zB c) by simpa using m];exact f.Aj (az _) (f.ir.fresh (az _))
 cases i:x.cps.all (·<128)
 ·exact wpAny_pyIter_wide i ⟨_,[(zB c)],_,_,d,rfl,f.kept (t':=c.toks) λb o e=>af _ e,EJ (.inr rfl) x t _,⟨_,aw _ rfl,rfl,rfl⟩,j,q⟩
 ·exact wpAny_pyIter_ascii i ⟨_,[(zB c)],_,_,d,rfl,f.kept (t':=c.toks) λb o e=>af _ e,EJ (.inl rfl) x t _,⟨_,aw _ rfl,rfl,rfl⟩,j,q⟩
def sQ(x:Str):Lp:=x.cps.toList.map λc=>.str ⟨#[c]⟩
noncomputable def oJ(f:c7->Od):c7->Option Lp:=λρ=>(f ρ).bind λd=>match d with | .list ds=>Y ds | .tuple ds=>Y ds | .str x=>Y (sQ x)|_=>Z
def Ho(x:Str)(G:Hp):pa K (Its x) (sQ x) G:=λk h=>by
 have f:(sQ x).length=x.cps.size:=by simp[sQ]
 refine⟨by show x.cps.size<=_;rw[f];exact az _,λi d q=>?_⟩;have g:i<x.cps.size:=by have:=(aA.mp q).1;omega
 refine⟨g,?_⟩;rintro y j ⟨e,c,b,a⟩;subst e a;have:d=.str ⟨#[c]⟩:=by unfold sQ at q;rw[ay,Array.getElem?_toList,b] at q;cases q;rfl
 subst this;exact⟨.refl _,λl _ _=>eL.ft.mpr rfl⟩
def n2(h:PD X e f):Wi X tg e (oJ f) :=
 PI.imp (PI.or (QK h) (UR h)) <| by
  rintro σ H R ⟨ρ,g,b,e,k⟩;obtain⟨d,c,a⟩:=bind_some e;cases d with
  |list j=>exact .inl ⟨ρ,g,b,by show (f ρ).bind _=_;rw[c];exact a,k⟩
  |tuple j=>exact .inl ⟨ρ,g,b,by show (f ρ).bind _=_;rw[c];exact a,k⟩
  |str x=>cases a;exact .inr ⟨ρ,_,b,c,λv i l m=>⟨x,eL.ft.mp m,k _ i l (Ho x i)⟩⟩
  |_=>cases a
def EK{a:Lx}{o:Nat}{m:Pos}(s:Gl X "enumerate")(r:X.mg "enumerate"=Z)(h:PD X e f)(b:starEach [e] X.env=[(false,eval e X.env)]:=by rfl):Wi X (.Tuple a o m) (.Call (.Name "enumerate" p) [e] [] pos) (Jq f) :=
 PI.imp (Jp s r h b) <| by
  rintro σ H R ⟨ρ,x,b,e,k⟩;obtain⟨d,u,i⟩:=bind_some e;obtain⟨c,rfl⟩:∃c,d=.list c:=by cases d<;>first|exact⟨_,rfl⟩|cases i
  cases i;refine⟨ρ,_,b,u,λv w n q=>?_⟩;obtain⟨l,j,rfl,g,t⟩:=eL.fh.mp q;exact⟨l,j,rfl,g,k _ w n (wh g t)⟩
noncomputable def kD:Lp->Od
 |[.dict kvs]=>if gE kvs=true then Z else Y (.list (kvs.map (·.1)))
 |ds=>Je ds
def vl{P:Program}{w:World}{k:Key}{v:Value}(h:(fG P w).is k v=true):fO (kV k) v:=by
 rcases iB h with ⟨i,t,rfl,rfl⟩ | ⟨x,t,rfl,rfl⟩
 ·exact⟨t,rfl⟩
 ·exact⟨t,rfl⟩
theorem vm{K:Fg}{H H':Hp}:∀{a:List (eD×eD)}{b:List (Key×V)},fZ K H a b->ez K H' (a.map (·.1)) (b.map λx=>kV x.1)
 |[],_,h=>by rw[fZ.eP.mp h];exact ez.nil
 | (k,d)::r,_,h=>by
  obtain⟨y,v,c,rfl,rfl,i,t⟩:=fZ.eF.mp h;refine ez.cons ?_ (vm t);cases y with
  |inl i=>exact eL.eW.mpr rfl
  |inr x=>exact eL.ft.mpr rfl
theorem By{P:Program}{w:World}:∀{d:List (Key×V)}{c:List (Key×Value)}{its:Lw},KV d c->its.length=c.length->(∀(j:Nat) v,its[j]?=Y v->∃k x,c[j]?=Y (k,x)/\(fG P w).is k v=true)->fT (d.map λx=>kV x.1) its
 |_,_,its,.nil,hl,_=>by
  cases its with
  |nil=>exact .nil
  |cons _ _=>simp at hl
 |_,_,its,.cons (a:=p) (b:=q) h t,hl,hi=>by
  cases its with
  |nil=>simp at hl
  |cons u l=>
   obtain⟨k,x,i,g⟩:=hi 0 u rfl;have f:q=(k,x):=by simpa using i
   refine .cons ?_ (By t (by simpa using hl) λj v e=>hi (j+1) v (by simpa using e));show fO (kV p.1) u;rw[h.1,f];exact vl g
def Ny(F:X.calm=true):jL X (.type "list") (λxs H Q=>∃l c,ez X.K H l xs/\kD l=Y c/\KO X.K H c Q):=by
 have E:jL X (.type "list") (λxs H Q=>∃b d p,xs=[V.ref p]/\Rd H p (.dK d)/\fZ X.K H b d/\KO X.K H (.list (b.map (·.1))) Q):=by intro n s σ H xs T Q I r h;obtain⟨b,d,p,rfl,C,A,k⟩:=h;obtain⟨u,rfl,t⟩:=tH r;cases t;obtain⟨z,G,S,f,N⟩:=sd I.ir C;refine yA (knd:=fG X.prog X.w) (I.ok.hd F) G N (by rw[<-f.length];exact z) λU q its O D g m y=>?_;have B:=By (P:=X.prog) (w:=X.w) (its:=its.toList) f (by simpa using D) (λj v e=>g j v (by simpa using e));have R:=I.laid (a:=(zB s)) (o:=.lst (d.map λx=>kV x.1)) (t':=q) y (az _) ⟨by rw[aL];exact z,its.toList,O,B,by simpa using m⟩;exact⟨.ref (zB s),_,R,rfl,k.Am (vm A) _ I.fresh⟩
 refine jL.imp (jL.or QL E) ?_;rintro xs H Q ⟨l,c,i,e,k⟩;unfold kD at e;split at e
 ·rename_i b;by_cases g:gE b=true
  ·rw[ag g] at e;cases e
  ·rw[aj g] at e;cases e;obtain⟨v,rfl,J⟩:=iJ i;obtain⟨p,d,rfl,M,L⟩:=J.mT (by simpa using g);exact .inr ⟨b,d,p,rfl,M,L,k⟩
 ·exact .inl ⟨l,c,i,e,k⟩
def oK(l:X.calm=true)(i:Gl X "list")(h:X.mg "list"=Z)(m:Bm X (e::es) ff)(j:zE e es X:=by rfl)(a:(backTo pos (starEach es X.env)).any (·.1)=false:=by rfl):
  PF X (.Call (.Name "list" p) (e::es) [] pos) (jP kD ff) :=
 PE.imp (u6 (Ny l) i h (by rfl) m (by decide) (by decide) j a) <| by rintro σ H Q ⟨ρ,d,g,e,k⟩;obtain⟨b,o,n⟩:=bind_some e;exact⟨ρ,b,g,o,λq r c f=>⟨b,d,f,n,k.later c⟩⟩
noncomputable def KW(b a:Lp):Lp:=(b.zip a).map λp=>.tuple [p.1,p.2]
noncomputable def Xw(x y:eD):Od:=match x,y with
 |.list xs,.list ys=>Y (.list (KW xs ys))
 |_,_=>Z
def eT.S3{a:Addr}{u:HO}(I:eT X pins σ H s)(f:nc X pins H a)(g:iR X.prog X.w (upd H a u) s.heap a u):eT X pins σ (upd H a u) s:=by
 obtain⟨j,k,_,h,l,i⟩:=f;have d:∀b v,H b=Y v->upd H a u b=Y v:=λb v e=>by rw[eI (gp e j)];exact e
 have:=I.step (g':=s.gens) (d':=s.drawn) (t':=s.toks) (h':=s.heap) (H':=upd H a u) (ch:=[a]) (λb hb=>by rw[show b=a by simpa using hb];exact⟨h,k,l,i⟩) (λb o _ _ _ e _=>e) (λb o _ _ _ e _=>⟨o.slots,e⟩) (λb o hc _ n=>by rw[eI (λz=>hc (by simp[z]))];exact n)
  (λb o _ e=>⟨o,e⟩) (λb xs e=>d b _ e) (λb o v e=>d b _ e) (λb ps e=>⟨#[],by rw[d b _ e];simp⟩) (λm hm=>hm) ?_ I.bare
 ·exact this
 ·intro b v e;by_cases hb:b=a
  ·subst hb;rw[eR] at e;cases e;exact g
  ·rw[eI hb] at e;exact(I.ir b v e).tF (λ_ _ _ q=>q) (λc q=>d c _ q) λc xs q=>d c _ q
def fO.uniq{x y:V}{u:Value}(a:fO x u)(b:fO y u):x=y:=by have c:=a.abs;rw[b.abs] at c;exact(a7 c).symm
theorem Jr{b:Ax}{σ:St}:∀(m:List (V×V)) (us:Lw) {H:Hp}{s:Shared},eT X b σ H s->us.length=m.length ->
  (∀(j:Nat) (v:Value) (p:V×V),us[j]?=Y v->m[j]?=Y p->∃T x y,v=.ref T/\IsPair s.heap T x y/\fO p.1 x/\fO p.2 y/\(nc X b H T\/∃d c l k,IsPair s.heap T d c/\fO l d/\fO k c/\H T=Y (.tup [l,k]))) ->
  ∃A z,eN H A/\eT X b σ A s/\fT z us/\(∀a,H a=Z->A a=Z\/.ref a∈us)/\∀(j:Nat) (p:V×V),m[j]?=Y p->∃T,z[j]?=Y (.ref T)/\A T=Y (.tup [p.1,p.2])
 |[],us,H,s,I,hl,_=>by
  cases us with
  |nil=>exact⟨H,[],.refl H,I,.nil,(λa h=>.inl h),λj p e=>by simp at e⟩
  |cons _ _=>simp at hl
 |p::m,us,H,s,I,hl,hi=>by
  cases us with
  |nil=>simp at hl
  |cons v us=>
   obtain⟨T,x,y,rfl,E,C,B,M⟩:=hi 0 v p rfl rfl;have first:∃i,eN H i/\eT X b σ i s/\i T=Y (.tup [p.1,p.2])/\∀a,a≠T->i a=H a:=by
    rcases M with f | ⟨d,c,l,k,D,U,S,hT⟩
    ·refine⟨upd H T (.tup [p.1,p.2]),iF f.1,I.S3 f ⟨by show 2<=sizeLine;decide,[x,y],.cons C (.cons B .nil),_,E,rfl,0,rfl⟩,eR,λa F=>eI F⟩
    ·have e:(#[d,c]:Array Value)=#[x,y]:=by
      have W:s.heap.get? T=Y { cls:=.type "tuple",data:=.seq #[d,c] }:=D;have g:s.heap.get? T=Y { cls:=.type "tuple",data:=.seq #[x,y] }:=E;rw[W] at g;injection g with g
      injection g with _ _ g _;injection g
     have e':[d,c]=[x,y]:=by simpa using bw Array.toList e
     injection e' with G t;injection t with t _;subst G t;rw[U.uniq C,S.uniq B] at hT;exact⟨H,.refl H,I,hT,λa _=>rfl⟩
   obtain⟨i,O,I1,hT,n⟩:=first
   obtain⟨H2,z,N,I2,R,fr,L⟩:=Jr m us (H:=i) I1 (by simpa using hl) λj v q G t=>by
    obtain⟨w,d,c,a1,a2,a3,a4,u⟩:=hi (j+1) v q (by simpa using G) (by simpa using t);refine⟨w,d,c,a1,a2,a3,a4,?_⟩;by_cases r:w=T
    ·subst r;exact .inr ⟨x,y,p.1,p.2,E,C,B,hT⟩
    ·rcases u with f | ⟨Q,P,l,k,K,J,b3,b4⟩
     ·exact .inl ⟨by rw[n w r];exact f.1,f.2⟩
     ·exact .inr ⟨Q,P,l,k,K,J,b3,O _ _ b4⟩
   refine⟨H2,.ref T::z,O.trans N,I2,.cons rfl R,λa F=>?_,λj q e=>?_⟩
   ·by_cases o:a=T
    ·exact .inr (by simp[o])
    ·rcases fr a (by rw[n a o];exact F) with h|h
     ·exact .inl h
     ·exact .inr (ah _ h)
   ·cases j with
    |zero=>simp at e;subst e;exact⟨T,rfl,N _ _ hT⟩
    |succ j=>obtain⟨w,K,J⟩:=L j q (by simpa using e);exact⟨w,by simpa using K,J⟩
theorem Hq{m pz:Pos} (hc:X.calm=true) (hgl:Gl X "list") (hml:X.mg "list"=Z) (hgz:Gl X "zip") (hmz:X.mg "zip"=Z) (ha:PD X a fa) (hb:PD X b fb)
  (s1:starEach [.Call (.Name "zip" pz) [a,b] [] m] X.env=[(false,eval (.Call (.Name "zip" pz) [a,b] [] m) X.env)]:=by rfl) (s2:starEach [a,b] X.env=[(false,eval a X.env),(false,eval b X.env)]:=by rfl) (s3:starEach [b] X.env=[(false,eval b X.env)]:=by rfl):
  PF X (.Call (.Name "list" p) [.Call (.Name "zip" pz) [a,b] [] m] [] pos) (d2 Xw fa fb):=by
 intro c s σ H Q I ⟨ρ,d,hs,e,k⟩;obtain⟨x,e1,q1⟩:=bind_some e;obtain⟨y,e2,q2⟩:=bind_some q1;obtain⟨xs,rfl⟩:∃xs,x=.list xs:=by cases x<;>first|exact⟨_,rfl⟩|(cases y<;>cases q2)
 obtain⟨ys,rfl⟩:∃ys,y=.list ys:=by cases y<;>first|exact⟨_,rfl⟩|cases q2
 cases q2;refine aZ (o6 I hgl hml (by rfl) ?_);refine a0 ?_ (by rw[s1];rfl) (by rfl);rw[s1];refine aS ?_;refine aZ (o6 I hgz hmz (by rfl) ?_);refine a0 ?_ (by rw[s2,s3]) (by rw[s3];rfl);rw[s2];refine aS (gS (@ha c s σ H (λv H1=>eN H H1/\eL X.K H1 (.list xs) v) I ⟨ρ,_,hs,e1,λv H1 sH i=>⟨sH,i⟩⟩) ?_);rintro u1 t1 ⟨v1,H1,I1,r1,sH1,i1⟩;refine aS (gS (@hb c t1 σ H1 (λv J=>eN H1 J/\eL X.K J (.list ys) v) I1 ⟨ρ,_,hs.same sH1,e2,λv J sH i=>⟨sH,i⟩⟩) ?_);rintro u2 l ⟨v2,J,W,r2,sH2,i2⟩;refine a8 ?_;obtain⟨l1,M,rfl,sq1,UG⟩:=eL.fh.mp (i1.same sH2);obtain⟨l2,L,rfl,sq2,id2⟩:=eL.fh.mp i2;cases r1;cases r2;obtain⟨G,S,B,z1⟩:=W.list sq1;obtain⟨F,rv2,A,z2⟩:=W.list sq2;have b1:l1<(zB l):=by obtain⟨o,n,e,_⟩:=B;exact aq e
 have b2:l2<(zB l):=by obtain⟨o,n,e,_⟩:=A;exact aq e
 have fr:∀j,(zB l)<=j->l.heap.get? j=Z:=λj hj=>by
  cases q:l.heap.get? j with
  |none=>rfl
  |some o=>exact absurd (aC (aq q) hj) (aX _)
 have hn:min G.toArray.size F.toArray.size<=sizeLine:=by rw[ar,ar,<-S.length];omega
 refine call_zip_2 B.isList A.isList λh' hz hTI hTO j1 j2 sz kp=>a8 ?_;refine As l.heap (W.ok.hd hc) (zipApart_new b1 b2) ⟨fr _ (bX _ _),fr _ (az _),fr _ (bX _ _)⟩ (fr _ (bX _ _)) ⟨by obtain⟨o,_,e,_⟩:=B;exact⟨o,e⟩,by obtain⟨o,_,e,_⟩:=A;exact⟨o,e⟩⟩ hn (by show _<=h'.objs.size;rw[sz];exact bX _ _) hz hTI hTO j1 j2 (Heap.IsList.at B.isList λo e=>kp _ _ e) (Heap.IsList.at A.isList λo e=>kp _ _ e) kp λh2 U cc z D C kp2=>?_;have I3:eT X c σ J { l with heap:=h2 }:=W.kept (t':=l.toks) kp2;have E:U.toList.length=(M.zip L).length:=by rw[List.length_zip,S.length,rv2.length,cm,z,ar,ar]
 have h:∀b,(zB l)<=b->nc X c J b:=λb hb=>W.Aj hb (W.ir.fresh hb);obtain⟨H3,rs,P,I4,R,Gs,at3⟩:=Jr (M.zip L) U.toList I3 E λj v q g1 g2=>by
  obtain⟨T,x,y,O,t2',t3',t4',N⟩:=D j v (by simpa using g1);obtain⟨w1,w2⟩:=q;obtain⟨g3,g4⟩:=List.getElem?_zip_eq_some.mp g2;obtain⟨x',gx,rx⟩:=S.get g3;obtain⟨y',gy,ry⟩:=rv2.get g4;have ex:x'=x:=by have:G.toArray[j]?=Y x:=t2';rw[List.getElem?_toArray,gx] at this;cases this;rfl
  have ey:y'=y:=by have:F.toArray[j]?=Y y:=t3';rw[List.getElem?_toArray,gy] at this;cases this;rfl
  subst ex ey;exact⟨T,x',y',O,t4',rx,ry,.inl (h T (by have:h'.objs.size<T:=N;rw[sz] at this;exact bq (bX _ _) (dB this)))⟩
 have w:H3 h'.objs.size=Z:=by
  rcases Gs h'.objs.size (W.ir.fresh (by rw[sz];exact bX _ _)) with g|g
  ·exact g
  ·obtain⟨j,gj⟩:=List.mem_iff_getElem?.mp g;obtain⟨T,x,y,O,_,_,_,N⟩:=D j _ (by simpa using gj);cases O;exact absurd N (aX _)
 have fS:nc X c H3 h'.objs.size:=⟨w,(h _ (by rw[sz];exact bX _ _)).2⟩
 have rl:rs.length<=sizeLine:=by rw[R.length,cm,z];exact hn
 have I5:=I4.S3 fS (u:=.lst rs) ⟨rl,U.toList,cc,R,by simpa using C⟩;refine⟨.ref h'.objs.size,_,I5,rfl,?_⟩;refine(k.later (sH1.trans (sH2.trans P))).Am ?_ _ w;have go:∀(t f:Lp) (a1 a2:List V) (rr:List V),ez X.K J t a1->ez X.K J f a2->rr.length=(a1.zip a2).length->(∀(j:Nat) (q:V×V),(a1.zip a2)[j]?=Y q->∃T,rr[j]?=Y (.ref T)/\H3 T=Y (.tup [q.1,q.2]))->ez X.K H3 (KW t f) rr:=by
  intro t;induction t with
  |nil=>
   intro f a1 a2 rr h1 h2 z _;rw[ez.eP.mp h1] at z;have:rr=[]:=by simpa using z
   subst this;exact ez.nil
  |cons d1 t ih=>
   intro f a1 a2 rr h1 h2 z C;obtain⟨w1,a1',rfl,g1,g2⟩:=ez.eF.mp h1;cases f with
   |nil=>
    rw[ez.eP.mp h2] at z;have:rr=[]:=by simpa using z
    subst this;exact ez.nil
   |cons d2 f=>
    obtain⟨w2,a2',rfl,g3,g4⟩:=ez.eF.mp h2;cases rr with
    |nil=>simp at z
    |cons r rr=>
     obtain⟨T,t1,l⟩:=C 0 (w1,w2) rfl;have er:r=.ref T:=by simpa using t1
     subst er;refine ez.cons (eL.jz.mpr ⟨T,_,rfl,qq.of l,ez.cons (g1.same P) (ez.cons (g3.same P) ez.nil)⟩) (ih f a1' a2' rr g2 g4 (by simpa using z) λj q e=>?_);obtain⟨T',u1,u2⟩:=C (j+1) q (by simpa using e);exact⟨T',by simpa using u1,u2⟩
 exact go xs ys M L rs UG id2 (by rw[R.length];exact E) at3
end
end L2
namespace PySem
open Builtin
def pF:entryFor table "set.update.loop"=Y Builtin.«set.update.loop»:=entryFor_of_tree (zK 0)
def lV:plainId "set.update.loop"=true:=by decide +kernel
section
variable {prog:Program}{w:World}{K:Type} [DecidableEq K] {knd:KeyKind prog w K}
def sR(a:List K)(k:K):List K:=if k∈a then a else a++[k]
def mV(a b:List K):List K:=b.foldl sR a
def EL(a:List K)(k:K):(sR a k).length<=a.length+1:=by unfold sR;split<;>simp
inductive vn (knd:KeyKind prog w K):Lw->List K->Prop
 |nil:vn knd [] []
 |cons {v:Value}{k:K}{vs:Lw}{ks:List K}:knd.is k v=true->v.scannable=true->vn knd vs ks->vn knd (v::vs) (k::ks)
theorem yB{D I l:Addr}{a:Array Value}{R:Result->Shared->Prop}(hh:A.in1.handled=Z)(d:D≠I)(c:Heap)(F:c.get? D=Z)(u:c.get? I=Z):
  ∀(B:Lw) (ks:List K) (i:Nat) (s:Shared) (acc:List K),a.toList.drop i=B->vn knd B ks->(∀b o,c.get? b=Y o->s.heap.get? b=Y o)->s.heap.IsListIter I l i->s.heap.IsList l a->s.heap.SetOf knd D (λk=>decide (k∈acc)) acc.length->acc.length+ks.length+1<scanBound ->
  (∀j N,j.SetOf knd D (λk=>decide (k∈mV acc ks)) (mV acc ks).length->(∀b o,c.get? b=Y o->j.get? b=Y o)->R (.ok (.ret .none)) { s with heap:=j,toks:=N }) ->
  codeAny (model prog w) A (.builtin "set.update.loop" ⟨[.ref D,.ref I],[]⟩) R s
 |[],_,i,s,acc,C,hp,h0,H,G,hd,hz,V=>by
  cases hp;refine b6 pF ?_;rw[bO lV _];show wpAny _ A.in1 (pyNext (.ref I)>>=_) _ _ s;have hn:a[i]?=Z:=by have:=List.drop_eq_nil_iff.mp C;exact cv (by simpa using this)
  refine ab (cZ hh H G hn λj eb=>?_);show wpAny _ A.in1 (ret Value.none) _ _ _;refine au ?_;obtain⟨o,L,M,t,x,r⟩:=hd;exact V j s.toks ⟨o,L,M,t,eb _ _ d x,r⟩ λb o e=>eb b o (λz=>by rw[z,u] at e;cases e) (h0 b o e)
 |v::B,_,i,s,acc,C,hp,h0,H,G,hd,hz,V=>by
  cases hp with
  |@cons _ k _ ks hk P hp=>
   refine b6 pF ?_;rw[bO lV _];show wpAny _ A.in1 (pyNext (.ref I)>>=_) _ _ s;have Q:i<a.size:=by have:=bw List.length C;simp at this;omega
   have hx:a[i]?=Y v:=by have:=bw (·[0]?) C;simpa using this
   have O:a.toList.drop (i+1)=B:=by
    have e:=bJ (l:=a.toList) (i:=i) (by simpa using Q);rw[C] at e;injection e with _ f
    exact f.symm
   refine ab (cO H G hx λj X sb=>?_);have U:j.SetOf knd D (λk=>decide (k∈acc)) acc.length:=by obtain⟨o,L,M,t,x,r⟩:=id hd;exact⟨o,L,M,t,(sb.2 _ d).trans x,r⟩
   have nI:∀b o y n,s.heap.get? b=Y o->o.data=.seq y n->b≠I:=λb o y n g f z=>by subst z;obtain⟨oi,ei,ci,di⟩:=H;rw[g] at ei;cases ei;rw[f] at di;cases di
   have nD:∀b o y n,s.heap.get? b=Y o->o.data=.seq y n->b≠D:=λb o y n g f z=>by subst z;obtain⟨o',L,M,t,x,_,E,_⟩:=hd;rw[g] at x;cases x;rw[f] at E;cases E
   show wpAny _ A.in1 (holding [v] (setAdd D v)>>=_) _ _ _;refine ab (bg ?_);unfold setAdd;refine bg (ab (knd.pyHash hk ?_));simp only[ax] at hz;refine wpAny_setAddHashed_of (knd:=knd) (s:={ s with heap:=j,toks:=s.toks+1 }) hk P U (by omega) λJ m T=>?_;have p:J.SetOf knd D (λh=>decide (h∈sR acc k)) (sR acc k).length:=by
    have g:(λh=>decide (h∈acc)||decide (h=k))=λh=>decide (h∈sR acc k):=by
     funext h
     unfold sR;by_cases q:k∈acc
     ·rw[ag q];by_cases q2:h=k
      ·subst q2;simp[q]
      ·simp[q2]
     ·rw[aj q];simp
    have f:(if decide (k∈acc)=true then acc.length else acc.length+1)=(sR acc k).length:=by
     unfold sR;by_cases q:k∈acc
     ·simp[q]
     ·simp[q]
    rw[<-g,<-f];exact T
   refine au ⟨cx lV _,?_⟩;have S:J.IsList l a:=by obtain⟨o,g,f,n,e3⟩:=G;exact⟨o,(m.2 _ (nD _ _ _ _ g e3)).trans ((sb.2 _ (nI _ _ _ _ g e3)).trans g),f,n,e3⟩
   have W:J.IsListIter I l (i+1):=X.at λo e=>(m.2 _ (Ne.symm d)).trans e;refine yB hh d c F u B ks (i+1) { s with heap:=J,toks:=s.toks+1 } (sR acc k) O hp (λb o e=>?_) W S p ?_ λh3 N p k3=>V h3 N p k3
   ·have b1:b≠I:=λz=>by rw[z,u] at e;cases e
    have b2:b≠D:=λz=>by rw[z,F] at e;cases e
    exact(m.2 b b2).trans ((sb.2 b b1).trans (h0 b o e))
   ·have:=EL acc k;omega
theorem Au{l:Addr}{o:Obj}{c:Array Value}{u:List K}{Q:Px} (W:A.handled=Z) (T:s.heap.get? l=Y o) (J:o.cls=.type "list") (i:o.data=.seq c n)
  (U:vn knd c.toList u) (D:u.length+1<scanBound)
  (h:∀h' tk,h'.SetOf knd (zB s) (λk=>decide (k∈mV [] u)) (mV [] u).length->(∀b o,s.heap.get? b=Y o->h'.get? b=Y o)->Q (.ref (zB s)) { s with heap:=h',toks:=tk }):
  wpAny (model prog w) A (call (.type "set") [.ref l]) Q E s:=by
 obtain⟨oc,P,O,B⟩:=o;simp only at J i;subst J i;have w1:=F.called_set.made;have w2:=F.called_set.sub;have w3:=F.called_set.notType;have w4:=F.called_set.canCreate;have w5:=F.typeCall_set_1 (.ref l);obtain⟨mc,mt,w6⟩:=F.called_set.mro;refine wpAny_call (codeAny_of_tree ?_);show wpAny _ _ (callAny (.type "set") _) _ _ _;refine au ⟨Code.quiet_builtin _ (by decide +kernel),b6 F.entry_type_call ?_⟩;rw[Around.under_plain (weight_type_call_type "set" [.ref l] []) rfl]
 repeat (any_goals (first|assumption|wp_step))
 refine cR (code_set_new_1 (.ref l) (E:=E) (Q₁:=λv t=>∃a:Bool,v=.ref (zB s)/\t={ s with heap:=s.heap.push { cls:=.type "set",dict:=Z,data:=.set #[] 0 (.fresh 0 0 a) } }) λa=>⟨a,rfl,rfl⟩) λN t1 f=>?_
 match N,f with
 |.error e,f=>exact f
 |.ok .next,f=>exact f.elim
 |.ok .brk,f=>exact f.elim
 |.ok .cont,f=>exact f.elim
 |.ok (.ret v),⟨a,e1,e2⟩=>
  subst e1 e2;have x:(s.heap.push { cls:=.type "set",dict:=Z,data:=.set #[] 0 (.fresh 0 0 a) }).get? (zB s)=Y { cls:=.type "set",dict:=Z,data:=.set #[] 0 (.fresh 0 0 a) }:=aw _ rfl;have H:(s.heap.push { cls:=.type "set",dict:=Z,data:=.set #[] 0 (.fresh 0 0 a) }).get? l=Y { cls:=.type "list",dict:=P,data:=.seq c n,slots:=B }:=af _ T;have L:Shared.TypeIs { s with heap:=s.heap.push { cls:=.type "set",dict:=Z,data:=.set #[] 0 (.fresh 0 0 a) } } (.ref (zB s)) "set":=⟨_,x,rfl⟩
  have w7:=F.called_set.init.lookup;have X:=F.called_set.init.bind (.ref (zB s))
  repeat (any_goals (first|assumption|wp_step))
  refine cR (codeAny_call_builtin (R:=wants (λr t=>r=.none/\∃h' tk,t={ s with heap:=h',toks:=tk }/\h'.SetOf knd (zB s) (λk=>decide (k∈mV [] u)) (mV [] u).length/\∀b o,s.heap.get? b=Y o->h'.get? b=Y o) E) F.called_set.init.plain F.entry_set_init (check_set_init_1 L ?_)) λM t2 d=>?_
  ·have v1:=F.sub_list_set;have v2:=F.sub_list_frozenset;have v3:(Value.type "list"==Value.type "dict")=false:=by decide
   have I:(s.heap.push { cls:=.type "set",dict:=Z,data:=.set #[] 0 (.fresh 0 0 a) }).IsList l c:=⟨_,H,rfl,n,rfl⟩
   unfold Builtin.«set.__init__» noKeywords Builtin.Frozenset.updateFrom;generalize p:pyIter=walk
   wp_walk
   subst p;refine cP I (ab (wpAny_runValue ?_));have y:(zB s)<(s.heap.push { cls:=.type "set",dict:=Z,data:=.set #[] 0 (.fresh 0 0 a) }).objs.size:=aq x;have m:∀j,(zB s)<=j->s.heap.get? j=Z:=λj V=>by
    cases q:s.heap.get? j with
    |none=>rfl
    |some z=>exact absurd (aC (aq q) V) (aX _)
   have C:∀b o,s.heap.get? b=Y o->((s.heap.push { cls:=.type "set",dict:=Z,data:=.set #[] 0 (.fresh 0 0 a) }).push { cls:=.type "list_iterator",data:=.fields #[.ref l,.int 0 0] }).get? b=Y o:=λb o e=>af _ (af _ e);have g:((s.heap.push { cls:=.type "set",dict:=Z,data:=.set #[] 0 (.fresh 0 0 a) }).push { cls:=.type "list_iterator",data:=.fields #[.ref l,.int 0 0] }).SetOf knd (zB s) (λk=>decide (k∈([]:List K))) ([]:List K).length :=
    (funext λk=>by simp:(λ_:K=>false)=λk=>decide (k∈([]:List K)))▸(PyProof.Rows.setObjOf_fresh (knd:=knd) a).setOf (af _ x) (by unfold scanBound;omega)
   refine yB (knd:=knd) (show A.in1.in1.in1.handled=Z from W) (aG y) s.heap (m _ (az _)) (m _ (dB y)) c.toList u 0 _ [] rfl U C ⟨_,aw _ rfl,rfl,rfl⟩ (I.push _) g (by simpa using D) λh' tk G S=>?_;show wpAny _ _ _ _ _ _;refine au ?_;show wpAny _ _ (ret Value.none) _ _ _;exact au ⟨rfl,h',tk,rfl,G,S⟩
  ·match M,d with
   |.error e,d=>exact d
   |.ok .next,d=>exact d.elim
   |.ok .brk,d=>exact d.elim
   |.ok .cont,d=>exact d.elim
   |.ok (.ret v),⟨e3,h',tk,e4,G,C⟩=>
    subst e3 e4
    repeat (any_goals (first|assumption|wp_step))
    exact h _ _ G C
end
end PySem
namespace L2
open PySem PySem.Spec PyProof.Rows PySem.Builtin PySem.Builtin.Str
def sS:Lp->Option (List Key)
 |[]=>Y []
 |d::r=>(o9 d).bind λk=>(sS r).map (k::·)
theorem Js{P:Program}{w:World}{K:Fg}{H:Hp}:∀{f:Lp}{c:List Key}{b:List V}{g:Lw},sS f=Y c->ez K H f b->fT b g->vn (fG P w) g c
 |[],_,_,_,e,i,r=>by cases e;rw[ez.eP.mp i] at r;cases r;exact .nil
 |d::f,_,_,_,e,i,r=>by
  obtain⟨k,o,n⟩:=bind_some e;obtain⟨c,m,rfl⟩:=aa.mp n;obtain⟨v,b,rfl,l,j⟩:=ez.eF.mp i;cases r with
  |cons a h=>
   have:=gI o;subst this;rw[hV l] at a;refine .cons (lR a) ?_ (Js m j h);cases k with
   |inl i=>obtain⟨t,rfl⟩:=a;rfl
   |inr x=>obtain⟨t,rfl⟩:=a;rfl
section
variable {a:Expr}{fb fc:c7->Od}{p2 fV:Pos}
noncomputable def CP(f:c7->Od):c7->Od:=λρ=>(f ρ).bind λd=>match d with
 |.list ds=>(sS ds).bind λa=>if a.length+1<4096 then Y (.int (mV [] a).length) else Z
 |_=>Z
theorem Bz{K:Type}[DecidableEq K]:∀(b a:List K),(mV a b).length<=a.length+b.length
 |[],a=>by simp[mV]
 |k::b,a=>by have d:=Bz b (sR a k);have c:=EL a k;rw[show mV a (k::b)=mV (sR a k) b from rfl,ax];omega
theorem KY{a r:Pos} (hc:X.calm=true) (D:Gl X "len") (A:X.mg "len"=Z) (C:Gl X "set") (z:X.mg "set"=Z) (ha:PD X e f)
  (L:starEach [.Call (.Name "set" r) [e] [] a] X.env=[(false,eval (.Call (.Name "set" r) [e] [] a) X.env)]:=by rfl) (J:starEach [e] X.env=[(false,eval e X.env)]:=by rfl):
  PD X (.Call (.Name "len" p) [.Call (.Name "set" r) [e] [] a] [] pos) (CP f):=by
 intro g s σ H Q I ⟨ρ,d,W,e,k⟩;obtain⟨x,e1,M⟩:=bind_some e;obtain⟨j,rfl⟩:∃j,x=.list j:=by cases x<;>first|exact⟨_,rfl⟩|cases M
 obtain⟨c,e2,m⟩:=bind_some (show (sS j).bind (λc=>if c.length+1<4096 then Y (eD.int (mV [] c).length) else Z)=Y d from M);by_cases y:c.length+1<4096
 ·rw[ag y] at m;cases m;refine aZ (o6 I D A PySem.boot_len ?_);refine df ?_ (by rw[L];rfl) (by rfl);rw[L];refine aS ?_;refine aZ (o6 I C z (by rfl) ?_);refine a0 ?_ (by rw[J];rfl) (by rfl);rw[J];refine aS (gS (@ha g s σ H (λv H1=>eN H H1/\eL X.K H1 (.list j) v) I ⟨ρ,_,W,e1,λv H1 P i=>⟨P,i⟩⟩) ?_);rintro u1 t1 ⟨v1,H1,G,S,q,V⟩;refine a8 ?_;obtain⟨l,ws,rfl,O,u⟩:=eL.fh.mp V;cases S;obtain⟨U,R,⟨o,n,ho,E,_,h⟩,z1⟩:=G.list O;refine Au (knd:=fG X.prog X.w) (G.ok.hd hc) ho E h (by simpa using Js e2 u R) (by unfold scanBound;exact y) λh' N hd T=>a8 ?_;obtain⟨o',F,ep,t,g1,g2,g3,g4,g5,g6,g7,g8⟩:=hd;have b:F.size=(mV [] c).length:=g8;have B:=Bz c ([]:List Key);refine call_len_set g1 g2 g3 g7 (by rw[b];simp at B;omega) ?_;rw[b];exact⟨.int _,H1,(G.kept (t':=N) T).tok _,⟨_,rfl⟩,(k.later q).here (eL.eW.mpr rfl)⟩
 ·rw[aj y] at m;cases m
def Nz(I:eT X pins σ H s){x:eD}{u:Value}(h:SeqAt.shaped x=true)(m:eL X.K H x v)(k:fO v u)(z:A.units+x.depth<cLine):
  ∃e:Value->Bool,∀(d:eD) (w:V) (y:Value),SeqAt.shaped d=true->eL X.K H d w->fO w y->SeqAt.EqAt A s y u (e y)/\e y=eD.eqv d x:=by
 obtain⟨t,j⟩:=I.pT (aO h) m k;refine⟨λy=>@decide (∃d a,Reads s.heap y d a/\SeqAt.shaped d=true/\eD.eqv d x=true) (Classical.propDecidable _),λd w y b n c=>?_⟩;obtain⟨a,f⟩:=I.pT (aO b) n c;have i:@decide (∃d a,Reads s.heap y d a/\SeqAt.shaped d=true/\eD.eqv d x=true) (Classical.propDecidable _)=eD.eqv d x:=by
  cases q:eD.eqv d x with
  |true=>exact @decide_eq_true _ (Classical.propDecidable _) ⟨d,a,f,b,q⟩
  |false=>refine @decide_eq_false _ (Classical.propDecidable _) ?_;rintro⟨p,r,l,o,g⟩;have:=SeqAt.Reads.unique d p y _ _ (aO b) f l;subst this;rw[q] at g;cases g
 refine⟨?_,i⟩;show SeqAt.EqAt A s y u (@decide _ (Classical.propDecidable _));rw[i];refine SeqAt.eqAt_reads d x A s _ _ a t f j (aO b) (aO h) ?_;have:min d.depth x.depth<=x.depth:=dW _ _;omega
theorem EM(hu:X.A.units+64<cLine):Uj X "list.index" (λx vs H Q=>∃d J c,eL X.K H d x/\ez X.K H J vs/\CJ d J=Y c/\KD X.K H c Q):=by
 intro O s σ H v vs u us Q I rx rv h;obtain⟨d,J,cc,i1,i2,e,k⟩:=h;unfold CJ at e;split at e
 ·rename_i r x;by_cases l:SeqAt.shaped x=true/\r.all SeqAt.shaped=true/\x.depth<=60/\r.length<=sizeLine
  ·rw[ag l] at e;obtain⟨j,e1,rfl⟩:=aa.mp e;obtain⟨h1,V,⟨dj,U,h4⟩,T⟩:=tY e1;simp only[Nat.sub_zero] at V U T;obtain⟨p,w,rfl,sq,P⟩:=eL.fh.mp i1;cases rx;obtain⟨v2,rfl,i3⟩:=iJ i2;obtain⟨N,rfl,B⟩:=rv.one;obtain⟨a,f,⟨⟨cls,dd,W,sl⟩,n,R,S,hdd,q⟩,z1⟩:=I.list sq;simp only at S q;subst S q;obtain⟨G,he⟩:=Nz I (A:=X.A.in1) l.1 i3 B (by show X.A.units+1+x.depth<cLine;omega);have sh:∀d∈r,SeqAt.shaped d=true:=bL.mp l.2.1;have b:∀(i:Nat) (y:Value),a[i]?=Y y->∃d,r[i]?=Y d/\SeqAt.EqAt X.A.in1 s y N (G y)/\G y=eD.eqv d x:=λi y t=>by
    have E:i<w.length:=by rw[f.length];exact(aA.mp t).1
    have hw:w[i]?=Y w[i]:=aN E;obtain⟨y',o,z⟩:=f.get hw;rw[t] at o;cases o;obtain⟨d,q,C⟩:=P.get' hw;obtain⟨g,M⟩:=he d _ y (sh d (et q)) C z;exact⟨d,q,g,M⟩
   have hj:j<a.toArray.size:=by rw[ar,<-f.length,<-P.length];exact V
   refine cj F.slot_list_index ⟨_,R,rfl⟩ F.entry_list_index (F.args_list_index_2 _ _) (SeqAt.list_indexAt p a.toArray n dd sl N G j hj ?_ ?_ ?_) ⟨R,λy t=>?_,?_⟩
   ·have h6:=l.2.2.2;have h7:sizeLine<2 ^ 62:=by decide
    omega
   ·obtain⟨d,g,_,L⟩:=b j (a.toArray[j]) (by simp);rw[U] at g;cases g;rw[L];exact h4
   ·intro m hm D;obtain⟨d,g,_,L⟩:=b m (a.toArray[m]) (by simp);rw[L];exact T m d D g
   ·obtain⟨i,hi⟩:=List.mem_iff_getElem?.mp (show y∈a by simpa using t);obtain⟨d,_,M,_⟩:=b i y hi;exact M
   ·exact⟨.int _,H,I.tok _,⟨_,rfl⟩,k.here (eL.eW.mpr rfl)⟩
  ·rw[aj l] at e;cases e
 ·cases e
noncomputable def QU(g:eD->Lp->Od)(f:c7->Od)(a:c7->Option Lp):c7->Od:=λρ=>(f ρ).bind λd=>(a ρ).bind λb=>match d with | .list z=>g (.list z) b|_=>Z
def NA{a:Str}{n:String}{g:eD->Lp->Od} (j:Slot "list" a n) (q:typeOf (.builtin n)=pure (.type "method_descriptor")) (C:Uj X n (λx vs H Q=>∃d ds c,eL X.K H d x/\ez X.K H ds vs/\g d ds=Y c/\KD X.K H c Q)) (B:PD X o f) (D:Bm X (e::es) ff)
  (i:attributeBase o a X.env (eval o X.env)=eval o X.env:=by rfl)
  (l:((backTo fV (starEach (e::es) X.env)).all (λx=>!x.1)&&(backToKw fV (keywordEach [] X.env)).all (λx=>x.1.isSome)
  &&decide ((e::es).length+([]:List Keyword).length+(if ([]:List Keyword).isEmpty then 0 else 1)<30))=true:=by rfl)
  (h:(apos.endLine==fV.line)=true:=by rfl) (m:zE e es X:=by rfl) (b:(backTo fV (starEach es X.env)).any (·.1)=false:=by rfl):
  PD X (.Call (.Attribute o a apos) (e::es) [] fV) (QU g f ff) :=
 PE.imp (Bf bu j q C B D i l h m b) <| by
  rintro σ H Q ⟨ρ,d,m,e,k⟩;obtain⟨x,G,F⟩:=bind_some e;obtain⟨ds,E,u⟩:=bind_some F;obtain⟨z,rfl⟩:∃z,x=.list z:=by cases x<;>first|exact⟨_,rfl⟩|cases u
  refine⟨ρ,_,m,G,λv L s t=>?_⟩;obtain⟨p,vs,rfl,y,I⟩:=eL.fh.mp t;exact⟨.inl ⟨rfl,vs,y⟩,ρ,ds,m.same s,E,λw J r A=>⟨_,ds,d,t.same r,A,u,k.later (s.trans r)⟩⟩
end
end L2
namespace L2
open PySem PySem.Spec PyProof.Rows
section
noncomputable def yC(g:c7->Option Bool)(f:c7->Od)(ρc:c7):Lp->Option Lp
 |[]=>Y []
 |d::ds=>match d with
  |.tuple [a,b]=>(g (Y a::Y b::ρc)).bind λc=>if c then (f (Y a::Y b::ρc)).bind λy=>(yC g f ρc ds).bind λe=>Y (y::e) else yC g f ρc ds
  |_=>Z
def CQ(q:c7->Option Lp)(a:List (Nat×Str))(g:c7->Option Bool)(f:c7->Od):c7->Od:=λρ=>
 (q ρ).bind λb=>if b.length<=sizeLine then (yC g f (pA a ρ) b).map .list else Z
def NB{m a:Expr}{b:Str}{o i r:Pos}{t:Nat}{j:Lx}
  (A:X.calm=true) (S:km scope x) (u:scope.names.lookup b=Y .local) (n:∀p∈scope.names,p.2=.free->∃c,X.env.cells.lookup p.1=Y c) (l:lq X scope iS) (k:(x::b::iS.map (·.2)).Nodup)
  (w:Nb X (.Tuple [.Name x o,.Name b i] t r) a q)
  (v:∀C s H fp,yl (mw X scope C (x::b::iS.map (·.2)) s H fp) j g)
  (y:∀C s H fp,PD (mw X scope C (x::b::iS.map (·.2)) s H fp) m f):KG X (.ListComp m [⟨.Tuple [.Name x o,.Name b i] t r,a,j,0⟩] scope pos) scope a (tD X.K (CQ q iS g f)):=
 (Ew (bd:=Qx 2 (M9 (Jf 0) (M9 (Jf 1) Xg))) (λ_ G ds vs=>ez X.K G ds vs) ez.length (λh s=>h.same s) [x,b] (yC g f) A S n l w (λC s H fp=>Qy rfl (Bn (yi 0 k rfl (.inl (bN S.var)) (.inr (bN S.var))) (Bn (yi 1 k rfl (.inl (bN u)) (.inr (bN u))) Na))) v (λC s H fp=>CC (y C s H fp) rfl) nN (λ_ _ e=>by cases e;rfl) λc d ds D h=>by
  unfold yC at h;split at h
  ·obtain⟨z,B,e⟩:=bind_some h;exact⟨[Y _,Y _],z,rfl,rfl,B,Jg e⟩
  ·cases h).data
def KG.pe2{f a:Expr}{j:Str}{k d l:Pos}{n:Nat}{e:Lx}{t:TE} (h:KG X (.ListComp f [⟨.Tuple [.Name x k,.Name j d] n l,a,e,0⟩] scope pos) scope a t) (S:km scope x) (i:∀p∈scope.names,p.2=.free->∃c,X.env.cells.lookup p.1=Y c)
  (r:∀x,foldedSetIterable a X.env x=pure x:=by intro _;rfl):PE X (.ListComp f [⟨.Tuple [.Name x k,.Name j d] n l,a,e,0⟩] scope pos) t:=by
 intro b s σ H Q I y;rw[eval_ListComp];refine cI (use:=Z) rfl r (o7 i) S.kind S.loc (@h b s σ H Q (compPost (model X.prog X.w) X.A X.xe Z (EP X b σ Q)) I y ?_);intro D C E B F m z v u o q;exact⟨m,v,λG g=>⟨.ref D,B,z.ym u o g,rfl,q⟩⟩
end
section
variable {a:Expr}{rest:Lx}{fb fc:c7->Od}{p2:Pos}
def Xx(d:eD):Option Bool:=match d with | .bool b=>Y b|_=>Z
noncomputable def su(f g:c7->Od):c7->Od:=λρ=>(f ρ).bind λd=>(Xx d).bind λb=>if b then g ρ else Y (.bool false)
def NC{b:Bool}(h:Xx d=Y b):d=.bool b:=by cases d<;>first|(cases h;rfl)|cases h
def ua{b:BoolOp}(h:PD X a f):PD X (.BoolOp b [a] pos) f:=TY h
def p1(j:PD X a fa)(i:PD X (.BoolOp .And (b::rest) pos) fb):PD X (.BoolOp .And (a::b::rest) pos) (su fa fb) :=
 PE.imp (TZ j i) <| by
  rintro σ H Q ⟨ρ,d,g,e,k⟩;obtain⟨x,n,m⟩:=bind_some e;obtain⟨y,l,c⟩:=bind_some m;cases NC l;refine⟨ρ,_,g,n,λv o f h=>⟨y,eL.fz.mp h,?_⟩⟩;cases y with
  |true=>rw[ag rfl] at c ⊢;exact⟨ρ,d,g.same f,c,k.later f⟩
  |false=>rw[aj aB] at c ⊢;cases c;exact k _ o f (eL.fz.mpr rfl)
noncomputable def dIs(x y:eD):Od:=match x,y with | .bool a,.bool b=>Y (.bool (a==b))|_,_=>Z
noncomputable def Hr(x y:eD):Od:=match x,y with | .bool a,.bool b=>Y (.bool (a != b))|_,_=>Z
def Xy:u7 X (compareOp .Is) dIs:=by
 intro f s σ H x y v u Q I b a ⟨d,i,c,h,g,e,k⟩;cases d<;>cases i<;>try (simp[dIs] at e;done)
 cases e;rw[eL.fz.mp h] at b;rw[eL.fz.mp g] at a;cases b;cases a;exact is_bool ⟨.bl _,H,I,rfl,k.here (eL.fz.mpr rfl)⟩
def ND:u7 X (compareOp .IsNot) Hr:=by
 intro f s σ H x y v u Q I b a ⟨d,i,c,h,g,e,k⟩;cases d<;>cases i<;>try (simp[Hr] at e;done)
 cases e;rw[eL.fz.mp h] at b;rw[eL.fz.mp g] at a;cases b;cases a;exact isnot_bool ⟨.bl _,H,I,rfl,k.here (eL.fz.mpr rfl)⟩
noncomputable def p3:Lp->Option (List Bool)
 |[]=>Y []
 |.bool b::r=>(p3 r).map (b::·)
 |_::_=>Z
theorem ub:∀{b:Lp}{a:List Bool},p3 b=Y a->b=a.map .bool
 |[],a,h=>by cases h;rfl
 |d::r,a,h=>by
  cases d<;>try (simp[p3] at h;done)
  obtain⟨c,e,rfl⟩:=aa.mp h;rw[ub e];rfl
noncomputable def NF:Lp->Od | [.list ds]=>(p3 ds).map λa=>.bool (a.all id)|_=>Z
def Hs{c:List Bool}{a:Lw}(i:ez K H (c.map .bool) vs)(r:fT vs a){j:Nat}{v:Value}(e:a[j]?=Y v):∃b,c[j]?=Y b/\v=.bool b:=by
 have n:j<a.length:=(aA.mp e).1;have k:=r.length;have d:=i.length;have f:j<c.length:=by simpa [k,d] using (by rw[aL] at d;omega:j<c.length)
 have q:(c.map eD.bool)[j]?=Y (.bool c[j]):=by rw[ay,aN f];rfl
 obtain⟨x,m,l⟩:=i.get q;obtain⟨u,h,g⟩:=r.get m;rw[e] at h;cases h;rw[eL.fz.mp l] at g;exact⟨_,aN f,g⟩
def Ht(w:X.calm=true):yh X (.builtin "all") NF:=by
 intro j s σ H E G Q I r ⟨D,c,i,e,k⟩
 match D,e with
 |[.list ys],e=>
  obtain⟨d,C,rfl⟩:=aa.mp e;cases ub C;obtain⟨v,rfl,z⟩:=iJ i;obtain⟨p,F,rfl,B,m⟩:=eL.fh.mp z;obtain⟨u,rfl,n⟩:=tH r;cases n;obtain⟨a,h,o,M⟩:=I.list B;have g:=o.isList;have f:p<(zB s):=by obtain⟨_,e,_⟩:=g;exact aq e
  refine call_all_walk (cP g ?_);refine⟨(zB s),[(zB s),p],[(zB s)],a.toArray.size,_,_,λi=>(d[i]?).getD true,rfl,Walks.list (A:=X.A.in1) (I.ok.hd w) _ p (aG f) a.toArray,
   ⟨⟨_,aw _ rfl,rfl,rfl⟩,g.push _⟩,λi v K O P y l=>?_,λN J t=>?_⟩
  ·obtain⟨b,e,rfl⟩:=Hs m h (by simpa using y);simp only[e,Option.getD_some] at l;exact b7 l
  ·have e:((List.range a.toArray.size).all λi=>(d[i]?).getD true)=d.all id:=by
    have L:=h.length;have q:=m.length;rw[aL] at q;rw[ar,show a.length=d.length by omega];exact LSm.range_all d
   rw[e];refine⟨.bl _,H,I.kept λb x e=>?_,rfl,k.here (eL.fz.mpr rfl)⟩;exact t b x (λhm=>by rw[List.mem_singleton.mp hm] at e;exact aX _ (aq e)) (af _ e)
def yD(X:Cx)(a:Scope):Bool:=a.names.all λp=>p.2 != .free||(X.env.kindOf p.1==Y .cell||X.env.kindOf p.1==Y .free)
def pG{i b:Expr}{l:Pos}{c:Lx} (a:List (Nat×Str))
  (r:Nb X (.Name x l) b q)
  (n:∀C s H fp,yl (mw X scope C (x::a.map (·.2)) s H fp) c g)
  (t:∀C s H fp,PD (mw X scope C (x::a.map (·.2)) s H fp) i f)
  (u:X.calm=true:=by rfl) (S:km scope x:=by exact⟨rfl,by decide +kernel,by decide +kernel,rfl,aI⟩) (k:yD X scope=true:=by rfl) (d:lq X scope a:=by repeat' (first|exact aI|refine⟨⟨rfl,.inl rfl,rfl⟩,?_⟩|refine⟨⟨rfl,.inr rfl,rfl⟩,?_⟩)) (j:(x::a.map (·.2)).Nodup:=by decide +kernel)
  (o:∀x,foldedSetIterable b X.env x=pure x:=by intro _;rfl):PD X (.ListComp i [⟨.Name x l,b,c,0⟩] scope pos) (lu q a g f):=by
 intro m s σ H Q I v;refine QB u S (λp hp e=>I.ok.has p.1 ?_) d j r n t o s σ H Q I v;have:=bL.mp k p hp;simp only[Bool.or_eq_true,bne_iff_ne,ne_eq,cg] at this;rcases this with h|h
 ·exact absurd e h
 ·exact h
def lW(I:eT X pins σ H s)(a:yD X scope=true):∀p∈scope.names,p.2=.free->∃c,X.env.cells.lookup p.1=Y c:=λp b e=>I.ok.has p.1 (by
 have:=bL.mp a p b;simp only[Bool.or_eq_true,bne_iff_ne,ne_eq,cg] at this;rcases this with h|h
 ·exact absurd e h
 ·exact h)
end
section
variable {m:Md}{a i:Expr}{fb fc:c7->Od}{p2 fV:Pos}
def kn(d:eD):Option Bool:=match d with
 |.dict kvs=>if gE kvs=true then Z else Y (!kvs.isEmpty)
 |d=>GY d
def vo(f:c7->Od):c7->Option Bool:=λρ=>(f ρ).bind kn
def gA(h:PD X e f)(q:∀whole,isTrue e X.env whole=(do let v <-whole;standAt e.pos;holding [v] (truthy v)):=by intro _;rfl):Bl X e (vo f) :=
 PT.imp (x3 h q) <| by
  rintro σ H Q ⟨ρ,b,o,e,k⟩;obtain⟨d,r,a⟩:=bind_some e;refine⟨ρ,d,o,r,λv s l j=>⟨b,?_,k s l⟩⟩;cases d with
  |dict c=>
   unfold kn at a;by_cases g:gE c=true
   ·dsimp only at a;rw[ag g] at a;cases a
   ·dsimp only at a;rw[aj g] at a;cases a;obtain⟨p,i,rfl,n,m⟩:=j.mT (by simpa using g);refine .inr (.inr ⟨i,n,?_⟩);have:=m.length;cases c<;>cases i<;>first|rfl|(simp at this)
  |_=>exact M7 j a
def CS:eD->Bool
 |.none=>true
 |_=>false
def uc(x y:eD):Od:=match y with
 |.none=>Y (.bool (CS x))
 |y=>dIs x y
def kR(x y:eD):Od:=match y with
 |.none=>Y (.bool (!CS x))
 |y=>Hr x y
def S4(i:eL K H d v):decide (v=.k9)=CS d:=by
 cases d with
 |none=>rw[eL.g9.mp i];rfl
 |bool b=>rw[eL.fz.mp i];rfl
 |int j=>rw[eL.eW.mp i];rfl
 |str x=>rw[eL.ft.mp i];rfl
 |list a=>obtain⟨p,c,rfl,_⟩:=eL.fh.mp i;rfl
 |tuple a=>obtain⟨p,c,rfl,_⟩:=i.gP;rfl
 |dict e=>obtain⟨p,rfl,_⟩:=eL.kI.mp i;rfl
def mK:u7 X (compareOp .Is) uc:=by
 refine lQ.imp (lQ.or Xy Ua) ?_;rintro x y H Q ⟨a,b,d,f,c,e,k⟩;cases b with
 |none=>cases e;exact .inr ⟨eL.g9.mp c,k.here (eL.fz.mpr (by rw[S4 f]))⟩
 |_=>exact .inl ⟨a,_,d,f,c,e,k⟩
def k4:u7 X (compareOp .IsNot) kR:=by
 refine lQ.imp (lQ.or ND P8) ?_;rintro x y H Q ⟨a,b,d,f,c,e,k⟩;cases b with
 |none=>cases e;exact .inr ⟨eL.g9.mp c,k.here (eL.fz.mpr (by rw[S4 f]))⟩
 |_=>exact .inl ⟨a,_,d,f,c,e,k⟩
structure CT (K:Fg) (mg:Str->Ow) (x:Str) (d:eD):Prop where
 ex:∃u v,mg x=Y u/\fO v u/\∀H:Hp,eL K H d v
def n3(c:CT X.K X.mg x d)(a:Gl X x)(b:zg x:=by decide):PD X (.Name x pos) (dC d):=by obtain⟨u,v,h,g,f⟩:=c.ex;exact PE.imp (xD a h g b) <| by rintro σ H Q ⟨ρ,j,i,e,k⟩;cases e;exact k.here (f H)
structure ly (P:Program) (w:World) (K:Fg) (mg:Str->Ow) (x:Str) (kvs:List (eD×eD)):Prop where
 ex:∃(a:Addr) (vs:List (Key×Value)),mg x=Y (.ref a)/\(a==sysModules)=false/\(∀h:Heap,K.In h->h.DictOf (fG P w) a vs) /\
  ∀k:Key,(kM (kH k) kvs=Z/\valueAt vs k=Z)\/∃d v u,kM (kH k) kvs=Y d/\valueAt vs k=Y u/\fO v u/\∀H:Hp,eL K H d v
def S5(a:List (eD×eD))(k:eD):Od:=(o9 k).map λ_=>(kM k a).getD .none
def QV(L:ly X.prog X.w X.K X.mg x kvs)(G:Gl X x)(J:PD X e fb)(j:M1 X (.Name x p) "get" apos e fV)(o:zg x:=by decide):PD X (.Call (.Attribute (.Name x p) "get" apos) [e] [] fV) (λρ=>(fb ρ).bind (S5 kvs)):=by
 obtain⟨a,W,O,N,B,M⟩:=L.ex;intro c s σ H Q I ⟨ρ,d,F,V,k⟩;obtain⟨y,U,T⟩:=bind_some V;obtain⟨z,S,l⟩:=aa.mp T;have:=gI S;subst this;have C:=B s.heap I.xC;refine cA j.base j.Xa j.line bP bp c9 (oz I G O ?_ o);refine⟨C.typeIs,λb q=>?_,?_⟩
 ·cases q;obtain⟨E,_,_,g,f,_⟩:=C;exact⟨E,g,f.2.1⟩
 rw[j.trees];refine bE rfl (b9 (aS (gS (@J c s σ H (λv H1=>eN H H1/\eL X.K H1 (kH z) v) I ⟨ρ,_,F,U,λv H1 m i=>⟨m,i⟩⟩) ?_)));rintro iv t ⟨v,H1,r,u,m,n⟩;refine a8 ?_;rw[hV n] at u;have h:=B t.heap r.xC;refine cG bp h.typeIs bV (cM _ _) (meets_dict_get (fG X.prog X.w) a (lR u) N) ⟨_,h.mapOf,?_⟩;have A:=k.later m;rcases M z with ⟨g,f⟩ | ⟨d',D,u',g,f,R,P⟩
 ·rw[g] at l;subst l;rw[f];exact⟨.k9,H1,r.tok _,rfl,A.here (eL.g9.mpr rfl)⟩
 ·rw[g] at l;subst l;rw[f];exact⟨D,H1,r.tok _,R,A.here (P H1)⟩
noncomputable def NG(a:List (eD×eD))(k:eD):Od:=(o9 k).map λ_=>.bool (kM k a).isSome
def Hu(a:List (eD×eD))(k:eD):Od:=(o9 k).bind λ_=>kM k a
def NH(z:ly X.prog X.w X.K X.mg x kvs)(r:Gl X x)(u:PD X i fb)(g:Ek i)(h:zg x:=by decide):PD X (.Subscript (.Name x p) i pos) (λρ=>(fb ρ).bind (Hu kvs)):=by
 obtain⟨U,O,C,S,B,A⟩:=z.ex;intro a s σ H Q I ⟨ρ,d,q,N,k⟩;obtain⟨y,M,L⟩:=bind_some N;obtain⟨m,J,c⟩:=bind_some L;have:=gI J;subst this;refine Cr PySem.F.slot_dict_getitem.lookup g (oz I r C (gS (@u a s σ H (λv H1=>eN H H1/\eL X.K H1 (kH m) v) I ⟨ρ,_,q,M,λv H1 e i=>⟨e,i⟩⟩) ?_) h);rintro R t ⟨v,H1,n,l,e,f⟩;rw[hV f] at l;have b:=B t.heap n.xC;refine⟨b.typeIs,?_⟩;rcases A m with ⟨j,_⟩ | ⟨T,o,P,j,G,E,D⟩
 ·rw[j] at c;cases c
 ·rw[j] at c;cases c;exact dX (lR l) b.mapOf G ⟨o,H1,n.tok _,E,(k.later e).here (D H1)⟩
end
def aap{n:Int}{t:Tok}(h:mg x=Y (.int n t)):CT K mg x (.int n):=⟨_,.int n,h,⟨t,rfl⟩,λH=>eL.eW.mpr rfl⟩
def Xz{b:Array Value}{c:List V}(h:K.lookup a=Y (zy b n))(d:b.size<=sizeLine)(e:fT c b.toList)(H:Hp):qq K H a c:=.inr ⟨_,b,n,h,rfl,rfl,d,e⟩
def n4{b:Array Value}{xs:Lr}(h:K.lookup a=Y (zy b n))(c:b.size<=sizeLine)(d:fT (xs.map V.str) b.toList)(H:Hp):eL K H (.tuple (xs.map .str)) (.ref a) :=
 eL.jz.mpr ⟨a,_,rfl,Xz h c d H,p0 xs⟩
def KZ(P:Params)(x:Str)(t:Tok)(v:Value):DictEntry:={ hash:=eD.keyHash P x,key:=.str x t,val:=v }
def wj(w:World)(x:Str):eD.keyHash w.params x=TJ w (.inr x):=by
 first
 |rfl
 | (unfold eD.keyHash TJ hashStr;rfl)
theorem BA{P:Program}{w:World}:∀(l:List (Str×Tok×Value×eD)),Pairs (fG P w) (l.map λq=>KZ w.params q.1 q.2.1 q.2.2.1) (l.map λq=>((.inr q.1:Key),q.2.2.1))
 |[]=>.nil
 |q::l=>.cons (mu P w q.1 q.2.1) rfl (BA l)
theorem EN{K:Fg}(k:Key):∀(l:List (Str×Tok×Value×eD)),(∀q∈l,∃v,fO v q.2.2.1/\∀H:Hp,eL K H q.2.2.2 v) ->
  (kM (kH k) (l.map λq=>(.str q.1,q.2.2.2))=Z/\valueAt (l.map λq=>((.inr q.1:Key),q.2.2.1)) k=Z)\/∃d v u,kM (kH k) (l.map λq=>(.str q.1,q.2.2.2))=Y d/\valueAt (l.map λq=>((.inr q.1:Key),q.2.2.1)) k=Y u/\fO v u/\∀H:Hp,eL K H d v
 |[],_=>.inl ⟨rfl,rfl⟩
 |q::l,hv=>by
  by_cases e:(.inr q.1:Key)=k
  ·right;obtain⟨v,g,f⟩:=hv q (by simp);have a:nU (.str q.1) (kH k)=true:=by rw[show eD.str q.1=kH (.inr q.1) from rfl,kY];exact bF e
   exact⟨q.2.2.2,v,q.2.2.1,by simp[kM,a],by simp[valueAt,bH,e],g,f⟩
  ·have a:¬ nU (.str q.1) (kH k)=true:=by rw[show eD.str q.1=kH (.inr q.1) from rfl,kY];simp[e]
   rcases EN k l (λz h=>hv z (ah _ h)) with ⟨c,b⟩ | ⟨d,v,u,c,b,i⟩
   ·exact .inl ⟨by rw[ai];unfold kM;rw[aj a];exact c,by simp only[valueAt,ai,bH,aU e];exact b⟩
   ·exact .inr ⟨d,v,u,by rw[ai];unfold kM;rw[aj a];exact c,by simp only[valueAt,ai,bH,aU e];exact b,i⟩
def CU{P:Program}{w:World}{l:List (Str×Tok×Value×eD)} (g:mg x=Y (.ref a)) (m:(a==sysModules)=false)
  (i:K.lookup a=Y { cls:=.type "dict",data:=.dict (l.map λq=>KZ w.params q.1 q.2.1 q.2.2.1).toArray n }) (d:(l.map (·.1)).Nodup) (f:∀q∈l,∃v,fO v q.2.2.1/\∀H:Hp,eL K H q.2.2.2 v):
  ly P w K mg x (l.map λq=>(.str q.1,q.2.2.2)):=by
 refine⟨a,l.map λq=>(.inr q.1,q.2.2.1),g,m,λh o=>?_,λk=>EN k l f⟩;refine⟨_,_,n,o a _ i,⟨rfl,rfl,rfl⟩,rfl,λe j=>?_,by simpa using BA l,?_⟩
 ·have c:e∈l.map λq=>KZ w.params q.1 q.2.1 q.2.2.1:=by simpa using j
  obtain⟨q,_,rfl⟩:=aP.mp c;exact⟨.inr q.1,mu P w q.1 q.2.1,wj w q.1⟩
 ·rw[cX];have:((λx:Key×Value=>x.1)∘λq:Str×Tok×Value×eD=>((.inr q.1:Key),q.2.2.1))=(λz:Str=>(.inr z:Key))∘(·.1):=rfl;rw[this,<-cX];exact dO _ (λa b h z=>h (by injection z)) d
section
variable {m:Md}{a i:Expr}{fb fc:c7->Od}{p2 fV:Pos}{rest:List Stmt}{g h:c7->Option gk}
def PS.frame{t:TS}(h:PS X st t):PS X st (λD σ H=>∃G B,H=eU G B/\j4 G B/\t { nx:=λσ' a=>j4 a B->D.nx σ' (eU a B),rt:=λv a=>j4 a B->D.rt v (eU a B),bk:=λσ' a=>j4 a B->D.bk σ' (eU a B),ct:=λσ' a=>j4 a B->D.ct σ' (eU a B) } σ G):=by
 intro g s σ H D I ⟨G,B,k,f,i⟩;subst k;obtain⟨m,l,_,_,b⟩:=Ey f.ok I f;refine gS (@h _ s σ G _ l i) λj e q=>?_;cases j with
 |next=>obtain⟨σ',a,J,q⟩:=q;obtain⟨c,d⟩:=b a e σ' J;exact⟨σ',_,d,q c⟩
 |brk=>obtain⟨σ',a,J,q⟩:=q;obtain⟨c,d⟩:=b a e σ' J;exact⟨σ',_,d,q c⟩
 |cont=>obtain⟨σ',a,J,q⟩:=q;obtain⟨c,d⟩:=b a e σ' J;exact⟨σ',_,d,q c⟩
 |ret u=>obtain⟨v,σ',a,J,r,q⟩:=q;obtain⟨c,d⟩:=b a e σ' J;exact⟨v,σ',_,d,r,q c⟩
def NI(i:Nat) {y:Str}{J c:Pos}{l b:Expr}{r:Pos}{h:Lx} (a:List (Nat×Str)) {g:c7->Option Bool} (W:X.N.Nodup)
  (Q:Nb X (.Name x r) b q)
  (P:∀C s H fp,yl (mw X scope C (x::a.map (·.2)) s H fp) h g)
  (R:∀C s H fp,PD (mw X scope C (x::a.map (·.2)) s H fp) l f) (V:i∉O:=by decide)
  (T:X.calm=true:=by rfl) (S:km scope x:=by exact⟨rfl,by decide +kernel,by decide +kernel,rfl,aI⟩) (n:yD X scope=true:=by rfl) (p:lq X scope a:=by repeat' (first|exact aI|refine⟨⟨rfl,.inl rfl,rfl⟩,?_⟩|refine⟨⟨rfl,.inr rfl,rfl⟩,?_⟩)) (w:(x::a.map (·.2)).Nodup:=by decide +kernel)
  (A:X.N[i]?=Y y:=by rfl) (M:X.env.scope.names.lookup y=Y .local:=by rfl) (u:swapsWith (.ListComp l [⟨.Name x r,b,h,0⟩] scope pos) (Y (.Name y J)) c.line X.env=pure true:=by rfl)
  (j:∀x,foldedSetIterable b X.env x=pure x:=by intro _;rfl):wa X m O (.Assign [.Name y J] (.ListComp l [⟨.Name x r,b,h,0⟩] scope pos) c) (fW (gZ O (lu q a g f)) i):=by
 intro K s σ H D I U;refine PS.imp (PS.frame (Ji (Jh T S (lW I n) p w Q P R) S (lW I n) W A M u j)) (?_) s σ H D I U;rintro D σ H ⟨ρ,o,G,j,e,k⟩;obtain⟨d,e1,rfl⟩:=aa.mp e;obtain⟨B,eH,fm,t⟩:=j.o.ex;refine⟨G,B,eH,fm,iT O ρ,d,j.o.rest,e1,λv G' F L E=>?_⟩;exact k _ _ G' F (lb.set ⟨ig.CD j.o.len t j.o.k9 F E,j.z⟩ V L)
def BB{j b:Expr}{c:Str}{l d m:Pos}{o:Nat}{e:Lx} (a:List (Nat×Str)) {g:c7->Option Bool}
  (t:Nb X (.Tuple [.Name x l,.Name c d] o m) b q)
  (p:∀C s H fp,yl (mw X scope C (x::c::a.map (·.2)) s H fp) e g)
  (u:∀C s H fp,PD (mw X scope C (x::c::a.map (·.2)) s H fp) j f)
  (v:X.calm=true:=by rfl) (S:km scope x:=by exact⟨rfl,by decide +kernel,by decide +kernel,rfl,aI⟩) (y:scope.names.lookup c=Y .local:=by rfl) (h:yD X scope=true:=by rfl) (i:lq X scope a:=by repeat' (first|exact aI|refine⟨⟨rfl,.inl rfl,rfl⟩,?_⟩|refine⟨⟨rfl,.inr rfl,rfl⟩,?_⟩)) (k:(x::c::a.map (·.2)).Nodup:=by decide +kernel)
  (r:∀x,foldedSetIterable b X.env x=pure x:=by intro _;rfl):PD X (.ListComp j [⟨.Tuple [.Name x l,.Name c d] o m,b,e,0⟩] scope pos) (CQ q a g f):=by
 intro n s σ H Q I w;exact KG.pe2 (NB v S y (lW I h) i k t p u) S (lW I h) r s σ H Q I w
section
variable {O':List Nat}{j:Nat}
theorem ik.snoc{l:Bool}(e:(ρ[j]?).join=Z):∀{k:List Nat}{B:List (Addr×HO)},ik l K σ ρ G k B↔ik l K σ ρ G (k++[j]) B
 |[],B=>⟨λh=>.inl ⟨e,h⟩,λh=>by
   rcases h with ⟨_,h⟩ | ⟨d,v,g,f,a,_⟩
   ·exact h
   ·rw[a] at e;cases e⟩
 |i::k,B=>by
  constructor
  ·rintro(⟨a,b⟩ | ⟨d,v,g,f,a,b,c,q,t⟩)
   ·exact .inl ⟨a,(ik.snoc e).mp b⟩
   ·exact .inr ⟨d,v,g,f,a,b,c,q,(ik.snoc e).mp t⟩
  ·rintro(⟨a,b⟩ | ⟨d,v,g,f,a,b,c,q,t⟩)
   ·exact .inl ⟨a,(ik.snoc e).mpr b⟩
   ·exact .inr ⟨d,v,g,f,a,b,c,q,(ik.snoc e).mpr t⟩
def ig.freeze(r:(O'++[j]).Nodup)(l:kL (O'++[j])=kL O')(h:ig (O'++[j]) K σ ρ H G):∃D,eN G D/\ig O' K σ ρ H D:=by
 have I:j∉O':=by rw[br] at r;exact λz=>r.2.2 j z j (by simp) rfl
 cases hd:(ρ[j]?).join with
 |none=>
  obtain⟨B,w,f,b⟩:=h.ex;rw[l] at b;refine⟨G,.refl G,h.len,⟨B,w,f,(ik.snoc hd).mpr b⟩,λi d q k=>?_⟩;by_cases a:i=j
  ·subst a;rw[q] at hd;cases hd
  ·exact h.k9 i d q (by simp[k,a])
 |some d=>
  have e:=join_some hd;obtain⟨v,o,g,n,M,L,f,p,A,y,_,O⟩:=h.own r (by simp) e;have c:(o++(g++n)).Perm ((o++n)++g):=by rw[aV];exact cy _ a6
  have C:j4 G ((o++n)++g):=f.perm c ((A.append y).append p.mG);have m:=C.KI p.mG;have t:=O (eU G g) m.same (C.KH (A.append y));have w:H=eU (eU G g) (o++n):=by rw[L,ie f.nd c,jg]
  rw[<-w] at t;have F:j<ρ.length:=(aA.mp e).1;obtain⟨B,J,u,b⟩:=t.ex;rw[l] at b;have s:((ρ.set j Z)[j]?).join=Z:=by rw[aE F];rfl
  refine⟨eU G g,m.same,h.len,⟨B,J,u,((ik.snoc s).mpr b).other λi k=>?_⟩,λi N q k=>?_⟩
  ·have:j≠i:=λz=>I (z▸k);exact⟨(av this).symm,rfl⟩
  ·by_cases a:i=j
   ·subst a;rw[e] at q;cases q;exact⟨v,M,p.Mf m.same λx E=>fL m.nd x E⟩
   ·exact t.k9 i N (by rw[av (Ne.symm a)];exact q) (by simp[k,a])
def ig.NJ(m:j∉O')(k:kL (O'++[j])=kL O')(h:ig O' K σ ρ H G):ig (O'++[j]) K σ (ρ.set j Z) H G:=by
 obtain⟨B,n,f,a⟩:=h.ex;rw[<-k] at a;have c:((ρ.set j Z)[j]?).join=Z:=by
  by_cases l:j<ρ.length
  ·rw[aE l];rfl
  ·rw[b5 (by simpa using l)];rfl
 refine⟨by simpa using h.len,⟨B,n,f,(ik.snoc c).mp (a.other λi b=>?_)⟩,λi d q b=>?_⟩
 ·have:j≠i:=λz=>m (z▸b);exact⟨av this,rfl⟩
 ·have g:i∉O':=λz=>b (by simp[z]);have e:j≠i:=λz=>b (by simp[z]);rw[av e] at q;exact h.k9 i d q g
end
noncomputable def Hv(j:Nat):gk->gk
 |.nx ρ=>.nx (ρ.set j Z)
 |.bk ρ=>.bk (ρ.set j Z)
 |.ct ρ=>.ct (ρ.set j Z)
 |.rt d=>.rt d
def QW(j:Nat)(g:c7->Option gk):c7->Option gk:=λρ=>(g ρ).map (Hv j)
def wm{O':List Nat}(j:Nat){i:List Stmt}(r:(O'++[j]).Nodup)(y:j≠0)(h:rP X m O' i g)(c:kL (O'++[j])=kL O':=by rfl):rP X m (O'++[j]) i (QW j g) :=
 vV.imp h <| by
  rintro D σ H ⟨ρ,o,G,u,e,k⟩;have x:j∉O':=by rw[br] at r;exact λz=>r.2.2 j z j (by simp) rfl
  obtain⟨t,A,rfl⟩:=aa.mp e;obtain⟨F,n,s⟩:=u.o.freeze r c;have v:∀(σ':St),(∀b a,m=.io b a->0∈O'++[j]/\σ'[0]?=Y (Y a)/\kL (O'++[j])=b)->∀b a,m=.io b a->0∈O'/\σ'[0]?=Y (Y a)/\kL O'=b:=λσ' w b a q=>by
   obtain⟨E,C,B⟩:=w b a q;refine⟨?_,C,c▸B⟩;rcases aR.mp E with z|z
   ·exact z
   ·exact absurd (by simpa using z:0=j).symm y
  have p:∀(σ':St) (ρ':c7) (H' f:Hp),lb m O' X.K σ' ρ' H' f->lb m (O'++[j]) X.K σ' (ρ'.set j Z) H' f:=λσ' ρ' H' f q=>⟨q.o.NJ x c,λb a z=>⟨by simp[(q.z b a z).1],(q.z b a z).2.1,c▸(q.z b a z).2.2⟩⟩
  refine⟨ρ,t,F,⟨s,v σ u.z⟩,A,?_⟩;cases t with
  |nx ρ'=>exact λσ' H' f l q=>k σ' H' f (n.trans l) (p _ _ _ _ q)
  |bk ρ'=>exact λσ' H' f l q=>k σ' H' f (n.trans l) (p _ _ _ _ q)
  |ct ρ'=>exact λσ' H' f l q=>k σ' H' f (n.trans l) (p _ _ _ _ q)
  |rt d=>exact S0.later n k
end
section
variable {m:Md}{a i:Expr}{fb fc:c7->Od}{p2 fV:Pos}
def mh{n:Int}{j:Nat}{q:Pos}:PD X (.UnaryOp .USub (.Constant (.int n) j q) pos) (zI (-n)) :=
 PE.imp (WI T9 ek) <| by rintro σ H Q ⟨ρ,d,c,e,k⟩;cases e;exact⟨ρ,_,c,rfl,λv f a b=>⟨_,eL.eW.mp b,k _ f a (eL.eW.mpr rfl)⟩⟩
theorem QX(F:ly X.prog X.w X.K X.mg x kvs)(D:Gl X x)(E:PD X a fa)(C:behindInMarks .In (.Name x p)=false:=by with_unfolding_all rfl)(c:zg x:=by decide):Bl X (.Compare a [.In] [.Name x p] pos) (fB (λρ=>(fa ρ).bind (NG kvs))):=by
 obtain⟨m,n,M,L,J,G⟩:=F.ex;have A:lQ X (compareOp .In) (λy z H Q=>∃k:Key,y=kV k/\z=.ref m/\Q (.bl (valueAt n k).isSome) H):=by intro j s σ H y z v u Q I t r ⟨k,h,g,q⟩;subst h g;cases r;exact wpAny_in_of (lR t) L (J s.heap I.xC).mapOf ⟨.bl _,H,I.tok _,rfl,q⟩
 refine PT.imp (xE A E (xD (v:=.ref m) D M rfl c) C) ?_;rintro σ H Q ⟨ρ,d,B,h,k⟩;obtain⟨y,g,P⟩:=bind_some (xI h);obtain⟨l,O,N⟩:=aa.mp P;have:=gI O;subst this;refine⟨ρ,_,B,g,λv R o i=>⟨l,hV i,rfl,?_⟩⟩;have b:=k R o;cases N;rcases G l with ⟨f,e⟩ | ⟨W,S,T,f,e,V,U⟩
 ·rw[f] at b;rw[e];exact⟨_,rfl,b⟩
 ·rw[f] at b;rw[e];exact⟨_,rfl,b⟩
def XA(w:PF X e f):PV X O e (UL f) :=
 PE.imp w <| by
  rintro σ H Q ⟨ρ,d,G,p,B,k⟩;obtain⟨x,A,b⟩:=bind_some B;by_cases a:EC x=true
  ·rw[ag a] at b;cases b;refine⟨ρ,d,p.full,A,λv E F n j r=>?_⟩;have m:eN H (eU E F):=n.trans j.same;obtain⟨D,g,y,h⟩:=p.grow m;refine k v _ D m g h ?_;cases d<;>try (simp[EC] at a;done)
   rename_i I;obtain⟨q,o,rfl,rfl,s⟩:=r.cont rfl;rcases s with ⟨C,c,l,rfl,i⟩ | ⟨_,_,l,_⟩
   ·cases l;have t:H q=Z:=by
     cases u:H q with
     |none=>rfl
     |some z=>have:=n _ _ u;rw[j.free (q,.lst c) (by simp)] at this;cases this
    exact eL.fh.mpr ⟨q,c,rfl,.inl (.inl (by rw[y q t];exact fL j.nd (q,.lst c) (by simp))),i.jV a⟩
   ·cases l
  ·rw[aj a] at b;cases b
end
section
open PySem.AutoSeq1 Builtin
def QY(p:Addr)(a:Array Value)(j:Nat)(q:Addr)(b:Array Value)(k:Nat)(i:Array Ow)(u:¬(!a.isEmpty&&Builtin.List.listTooLong (a.size+b.size))=true)(n:a.size<=sizeLine)(m:a.size+b.size<=sizeLine+1):
  Meets (Builtin.«list.extend» ⟨[.ref p,.ref q],[]⟩) (λ_ R s=>
   s.heap.get? p=Y ⟨.type "list",Z,.seq a j,#[]⟩/\s.heap.get? q=Y ⟨.type "list",Z,.seq b k,i⟩ /\
   R (.ok (.ret Value.none)) { s with heap:=s.heap.update p (Obj.mapSeq λz=>z++b),toks:=s.toks }) :=
 .of_wp λe w A R s h=>by
  obtain⟨t,g,d,o,r⟩:=s;obtain⟨f,l,h⟩:=h;have C:=PySem.AutoSeq1.idx_int;have B:=PySem.AutoSeq1.sub_tuple_tuple;have y:=PySem.AutoSeq1.sub_list_list;have x:=PySem.AutoSeq1.sub_tuple_list;have v:=PySem.AutoSeq1.sub_list_tuple;have c:(a++b).size<=sizeLine+1:=by rw[Array.size_append];exact m
  wp_walk using (bT f rfl (hz:=n) (_hz':=c)),wpAny_loadPart' f,wpAny_loadPart' l
  exact⟨_,rfl,h⟩
end
section
variable {m:Md}{a i:Expr}{fb fc:c7->Od}{p2 fV:Pos}
noncomputable def yE:Lp->Od
 |[.int i]=>Y (.int i)
 |[.bool b]=>Y (.int (if b then 1 else 0))
 |_=>Z
def Hw:yh X (.type "int") yE:=by
 refine jL.imp Kn ?_;rintro f H Q ⟨d,c,i,e,k⟩
 match d,e with
 |[.int j],e=>cases e;obtain⟨v,rfl,a⟩:=iJ i;exact .inl ⟨j,by rw[eL.eW.mp a],k.here (eL.eW.mpr rfl)⟩
 |[.bool b],e=>cases e;obtain⟨v,rfl,a⟩:=iJ i;exact .inr ⟨b,by rw[eL.fz.mp a],k.here (eL.eW.mpr rfl)⟩
def XB(K:Fg):V->List V->Hp->VK->Prop:=λx d H Q=>∃l b c a,x=.ref l/\d=[.ref b]/\H l=Y (.lst c)/\kQ K H b a/\c.length+a.length<=sizeLine/\Q .k9 (upd H l (.lst (c++a)))
def QZ:YX X "list.extend" (XB X.K):=by
 intro h s σ H x O v P Q I p t ⟨l,b,N,M,E,G,k,D,R,q⟩;subst E G;cases p;obtain⟨u,rfl,w⟩:=t.one;cases w;obtain⟨z,c,n,r,S,e⟩:=I.Ks k;obtain⟨a,g,⟨⟨L,T,m,o⟩,B,J,j,d,i⟩,C⟩:=I.list D;simp only at j d i;subst j d i;have A:=r.length;have y:=g.length;have f:c.toArray.size+a.toArray.size<=sizeLine:=by rw[ar,ar];omega
 refine cj cJ ⟨_,e,rfl⟩ PySem.F.entry_list_extend (PySem.F.args_list_extend_2 _ _) (QY l c.toArray n b a.toArray B o (by rw[ya f,Bool.and_false];exact aB) (by rw[ar];omega) (by omega)) ⟨e,J,?_⟩;refine⟨.k9,_,I.Qj (its':=c++a) k e (by simp) (r.append g) ?_,rfl,q⟩;rw[bh];omega
def EO{π:Pl} (i:O.Nodup) (W:PP X o π) (he:PV X O e f) (J:π.ix∈O:=by decide) (u:v9 O π=false:=by rfl) (n:starEach [e] X.env=(false,eval e X.env)::starEach [] X.env:=by rfl)
  (g:attributeBase o "extend" X.env (eval o X.env)=eval o X.env:=by rfl)
  (t:((backTo fV (starEach [e] X.env)).all (λx=>!x.1)&&(backToKw fV (keywordEach [] X.env)).all (λx=>x.1.isSome)&&decide (([e]:Lx).length+([]:List Keyword).length+(if ([]:List Keyword).isEmpty then 0 else 1)<30))=true:=by rfl)
  (c:(apos.endLine==fV.line)=true:=by rfl) (a:(backTo fV (starEach [] X.env)).any (·.1)=false:=by rfl)
  (s:swapsWith (.Call (.Attribute o "extend" apos) [e] [] fV) Z pos.line X.env=pure false:=by rfl):
  wa X m O (.Expr (.Call (.Attribute o "extend" apos) [e] [] fV) pos) (tT π f) :=
 PS.imp (ri (Bf bu cJ PySem.F.type_list_extend QZ W (oA he sM n) g t c n a) s) <| by
  rintro D σ H ⟨ρ,o,G,s,e,k⟩;obtain⟨l,K,ea⟩:=bind_some e;obtain⟨d,e2,h⟩:=bind_some ea;obtain⟨E,rfl⟩:∃E,l=.list E:=by cases l<;>first|exact⟨_,rfl⟩|(cases d<;>cases h)
  obtain⟨C,rfl⟩:∃C,d=.list C:=by cases d<;>first|exact⟨_,rfl⟩|cases h
  dsimp only at h;by_cases A:E.length+C.length<=sizeLine
  ·rw[ag A] at h;cases h;obtain⟨q,ob,r,V,S,_⟩:=s.o.place i J K rfl u;obtain⟨M,rfl,i4⟩:=S.lst;refine⟨q,r,.inl ⟨rfl,M,kQ.of V⟩,ρ,_,G,s.o,e2,λv H' G' P Q p U=>?_⟩;obtain⟨b,L,rfl,N,I⟩:=eL.fh.mp U;obtain⟨q',T,R,B,y,cl⟩:=p.place i J K rfl u;have:=Ao.eq r R P;subst this;obtain⟨w,rfl,j⟩:=y.lst;refine⟨q,b,w,L,rfl,rfl,B,p.sub.seq N,by rw[<-j.length,<-I.length];exact A,?_⟩;exact k _ _ G' Q ⟨cl _ _ (.inl ⟨_,_,rfl,rfl,j.append I⟩),s.z⟩
  ·rw[aj A] at h;cases h
def US(π:Pl):c7->Option gk:=λρ=>(qt π ρ).bind λl=>match l with
 |.list _=>Y (.nx (va π (.list []) ρ))
 |_=>Z
end
def Itw(K:Fg)(l:Addr)(n:Nat):It where
 go:=λi H=>i<n/\∃a,kQ K H l a/\a.length=n
 Me:=λi H y b=>b=H/\i<n/\∀a,kQ K H l a->a[n - 1 - i]?=Y y
 stop:=λi _=>n<=i
def NK{P:Program}{w:World}(l m:Addr)(n:Nat):Cc P w K tg (Itw K l n) [m] m (λi h=>i<=n/\h.IsRevIter m l ((n:Int) - 1 - (i:Int))) where
 mem:=by simp
 obj:=λi h f b p=>by
  have e:b=m:=by simpa using p
  subst e;obtain⟨_,o,e,c,d⟩:=f;exact⟨o,e,λv z=>by rw[d] at z;cases z⟩
 keep:=λi h r f k=>⟨f.1,f.2.at λo e=>k m (by simp) o e⟩
 item:=by
  intro X A hw B N i g s σ H E I q f y;subst A hw B;obtain⟨hi,t,M,hl⟩:=y;obtain⟨J,G,f2,F,D,C⟩:=q m (by simp);obtain⟨T,Q,S,hz⟩:=I.list M;have W:n - 1 - i<t.length:=by omega
  have L:t[n - 1 - i]?=Y t[n - 1 - i]:=aN W;obtain⟨u,V,R⟩:=Q.get L;have ei:(n:Int) - 1 - (i:Int)=((n - 1 - i:Nat):Int):=by omega
  have a:=f.2;rw[ei] at a;refine wpAny_pyNext_rev_item a S.isList (x:=u) (by simpa using V) λr j O=>?_;have I1:eT X g σ H { s with heap:=r,toks:=s.toks }:=I.turned (t':=s.toks) (λb o p e=>(O.2 b p).trans e) J G F D C;obtain⟨o,e,c,d⟩:=id j;have ej:((n - 1 - i:Nat):Int) - 1=(n:Int) - 1 - ((i+1:Nat):Int):=by omega
  rw[ej] at j;exact⟨_,rfl,xX (s:={ s with heap:=r,toks:=s.toks }) e c d (by decide) ⟨_,H,I1,R,⟨rfl,hi,λys U=>by rw[I.qy U M];exact L⟩,⟨by omega,j⟩,λb p=>(q b p).1⟩⟩
 done:=by
  intro X A hw B N i g s σ H E I q f y;subst A hw B;obtain⟨J,G,f2,F,D,C⟩:=q m (by simp);have hg':n<=i:=y;have:(n:Int) - 1 - (i:Int)=-1:=by have:=f.1;omega
  have a:=f.2;rw[this] at a;exact wpAny_pyNext_rev_end (I.ok.hd N) a λr eb=>⟨rfl,I.turned (t':=s.toks) (λb o p e=>eb b o p e) J G F D C⟩
 self:=λ_ _ _ _ _ f h=>wpAny_pyIter_revIter f.2 h
section
variable {m:Md}{a:Expr}{fb fc:c7->Od}{p2 fV:Pos}
def UT{j:TE}(z:Gl X "reversed")(w:X.mg "reversed"=Z)(A:PE X e j)(m:starEach [e] X.env=[(false,eval e X.env)]:=by rfl):PI X tg (.Call (.Name "reversed" p) [e] [] pos) (λσ H R=>j σ H λv f=>∃l g,v=.ref l/\kQ X.K f l g/\R (Itw X.K l g.length) f):=by
 intro c s σ H R I h;refine aZ (o6 I z w (by rfl) ?_);refine a0 ?_ (by rw[m];rfl) (by rfl);rw[m];refine aS (gS (@A c s σ H _ I h) ?_);rintro v a ⟨x,f,i,r,l,g,C,u,q⟩;refine a8 ?_;subst C;cases r;obtain⟨d,n,t,E⟩:=i.list u;have y:=n.length;refine call_reversed_list t.isList ?_;have k:({ a with heap:=a.heap.push (revObj l ((d.toArray.size:Int) - 1)) }:Shared).heap.IsRevIter (zB a) l ((g.length:Int) - 1 - ((0:Nat):Int)):=⟨_,aw _ rfl,rfl,by simp[revObj,y]⟩
 refine wpAny_pyIter_revIter k ?_;have D:eT X c σ f { a with heap:=a.heap.push (revObj l ((d.toArray.size:Int) - 1)) }:=i.kept (t':=a.toks) λb o e=>af _ e;exact⟨_,[(zB a)],_,_,f,rfl,D,NK l _ _,⟨cD _,k⟩,λb B=>(by rw[show b=(zB a) by simpa using B];exact i.Aj (az _) (i.ir.fresh (az _))),q⟩
noncomputable def Q0(f:c7->Od):c7->Option Lp:=λρ=>(f ρ).bind λd=>match d with | .list ds=>Y ds.reverse|_=>Z
def Hx{a:Hp}{l:Addr}(j:kQ K a l vs)(h:ez K a ds vs):pa K (Itw K l vs.length) ds.reverse a:=λs b=>by have e:=h.length;refine⟨by show vs.length<=_;simp[e],λi d q=>?_⟩;have f:i<ds.reverse.length:=(aA.mp q).1;rw[List.length_reverse] at f;refine⟨⟨by omega,vs,b.seq j,rfl⟩,?_⟩;rintro y r ⟨n,p,m⟩;subst n;refine⟨.refl _,λt k _=>?_⟩;have c:=m vs (b.seq j);rw[List.getElem?_reverse f] at q;obtain⟨v,g,o⟩:=h.get q;rw[e] at g;rw[g] at c;cases c;exact o.same k
def Jt(q:Gl X "reversed")(o:X.mg "reversed"=Z)(h:PD X e f)(a:starEach [e] X.env=[(false,eval e X.env)]:=by rfl):Wi X tg (.Call (.Name "reversed" p) [e] [] pos) (Q0 f) :=
 PI.imp (UT q o h a) <| by
  rintro σ H R ⟨ρ,t,a,e,k⟩;obtain⟨d,r,g⟩:=bind_some e;obtain⟨b,rfl⟩:∃b,d=.list b:=by cases d<;>first|exact⟨_,rfl⟩|cases g
  cases g;refine⟨ρ,_,a,r,λv s j n=>?_⟩;obtain⟨l,i,rfl,c,m⟩:=eL.fh.mp n;exact⟨l,i,rfl,c,k _ s j (Hx c m)⟩
end
end L2
namespace L2
open PySem PySem.Spec PyProof.Rows PySem.Builtin PySem.Builtin.Str
section
variable {m:Md}{a:Expr}{p2:Pos}{sts:List Stmt}
noncomputable def aaq(f:c7->Od):c7->Od:=λρ=>(f ρ).bind λd=>match d with | .list xs=>Y (.list xs.reverse)|_=>Z
end
end L2
namespace L2
open PySem PySem.Spec PyProof.Rows
section
variable {m:Md}{a:Expr}{fb fc fk:c7->Od}{p2 fV:Pos}
def XC(e:(B.map (·.1)).Nodup)(f:∀x∈B,H x.1=Y x.2):∃G,H=eU G B/\(∀x∈B,G x.1=Z)/\∀a,(∀x∈B,x.1≠a)->G a=H a:=by
 let G:Hp:=λa=>if (∃x∈B,x.1=a) then Z else H a
 have d:∀a,(∀x∈B,x.1≠a)->G a=H a:=λa c=>aj λ⟨x,b,z⟩=>c x b z;have g:∀x∈B,G x.1=Z:=λx b=>ag ⟨x,b,rfl⟩;exact⟨G,rn e f λa c=>(d a c).symm,g,d⟩
end
section
variable {m:Md}{a:Expr}{fb fc:c7->Od}{p2 fV:Pos}
def CV(x k z:eD):Od:=match x with
 |.dict kvs=>if gE kvs=true then Z else (o9 k).bind λ_=>Y ((kM k kvs).getD z)
 |_=>Z
noncomputable def d3(g:eD->eD->eD->Od)(c b a:c7->Od):c7->Od:=λρ=>(c ρ).bind λx=>(b ρ).bind λy=>(a ρ).bind λz=>g x y z
def NL(T:X.A.units+64<cLine)(L:PD X o fa)(K:PD X e fb)(J:PD X c fc)(m:M2 X o "get" apos e c fV):PD X (.Call (.Attribute o "get" apos) [e,c] [] fV) (d3 CV fa fb fc) :=
 PE.imp (M4 (by omega) L K J m) λσ H Q h=>by
  obtain⟨ρ,d,n,e,k⟩:=h;obtain⟨x,P,e⟩:=bind_some e;obtain⟨y,O,e⟩:=bind_some e;obtain⟨z,R,e⟩:=bind_some e;refine⟨ρ,x,n,P,λv H1 i I=>?_⟩;obtain⟨a,rfl⟩:∃a,x=.dict a:=by cases x<;>first|exact⟨_,rfl⟩|(simp[CV] at e)
  unfold CV at e;by_cases q:gE a=true
  ·dsimp only at e;rw[ag q] at e;cases e
  ·dsimp only at e;rw[aj q] at e;obtain⟨D,N,f⟩:=bind_some e;obtain⟨p,E,rfl,B,M⟩:=I.mT (by simpa using q);refine⟨p,rfl,.inl ⟨E,B⟩,ρ,y,n.same i,O,λu W b G=>⟨ρ,z,n.same (i.trans b),R,λw V g F=>?_⟩⟩;have:=gI N;subst this;rw[hV G];refine⟨_,pw.r (g.rd (b.rd B)),?_⟩;have s:=M.same (b.trans g);have t:=k.later (i.trans (b.trans g));rcases s.val (y:=D) with ⟨l,j⟩ | ⟨U,S,l,j,C⟩
   ·rw[l] at f;cases f;rw[j];exact t.here F
   ·rw[l] at f;cases f;rw[j];exact t.here C
end
section
variable {m:Md}{a:Expr}{fb fc:c7->Od}{p2 fV:Pos}
end
structure yF (P:Program) (w:World) (K:Fg) (mg:Str->Ow) (base:Heap) (c m:Str) (k n:Nat) (f:Lp->Od):Prop where
 ex:∃C a fd ps,jM K c C/\GH K C/\GI K C m a/\kX P w K mg base uW k a fd ps (spF K n f)/\kG K fd ps []
section
variable {m:Md}{a:Expr}{fb fc:c7->Od}{p2 fV:Pos}{j k:Nat}
def Q1{t c:Str}{F:Lp->Od}{pl:Sem Bool} (N:yF X.prog X.w X.K X.mg X.base t c j n F) (I:PD X o f) (G:iD k X.A) (M:Bm X (e::es) ff) (L:j<=k:=by decide)
  (l:zE e es X:=by rfl) (m:(backTo pos (starEach es X.env)).any (·.1)=false:=by rfl)
  (E:eval (.Call (.Attribute o c apos) (e::es) [] pos) X.env=(do
   let ov <-eval o X.env
   standAt apos.atName
   let (f,first) <-holding [ov] (getMethod ov c pl)
   callWith pos f first (backTo pos (starEach (e::es) X.env)) (backToKw pos (keywordEach [] X.env))):=by rfl):PF X (.Call (.Attribute o c apos) (e::es) [] pos) (f6 t c n F f ff):=by
 obtain⟨C,a,fd,ps,O,r,J,Fn,b⟩:=N.ex;refine PE.imp (Ci (pl:=pl) I r J (Fn.mono L) G b .nil nS M l m E) ?_;rintro σ H Q ⟨ρ,d,B,e,k⟩;obtain⟨x,V,h⟩:=bind_some e;by_cases i:nZ t c x=true
 ·rw[ag i] at h;obtain⟨s,U,g⟩:=bind_some h;by_cases q:s.length+1=n
  ·rw[ag q] at g;refine⟨ρ,x,B,V,λv H1 y z=>?_⟩;obtain⟨p,C',W,T,rfl,S,R,P⟩:=yu i z;have:=S.uniq O;subst this;exact⟨p,W,T,rfl,R,P,ρ,s,B.same y,U,λvs H2 u D=>⟨x::s,d,by rw[aM];exact ez.cons (z.same u) D,by simpa using q,g,k.later (y.trans u)⟩⟩
  ·rw[aj q] at g;cases g
 ·rw[aj i] at h;cases h
noncomputable def K0(x y:eD):Od:=match x,y with
 |.list xs,.int k=>if 0<=k/\k<=1000/\xs.length<=1000 then Y (.list (List.replicate k.toNat xs).flatten) else Z
 |_,_=>Z
theorem ez.rep{K:Fg}{H:Hp}{b:Lp}{a:List V}(h:ez K H b a):∀k:Nat,ez K H (List.replicate k b).flatten (List.replicate k a).flatten
 |0=>ez.nil
 |k+1=>by rw[bG,bG,cb,cb];exact h.append (ez.rep h k)
def NM(G:PF X a fa)(F:PD X b fb):PF X (.BinOp a .Mult b pos) (d2 K0 fa fb) :=
 PE.imp (SG Up G F) <| by
  rintro σ H Q ⟨ρ,d,w,e,k⟩;obtain⟨x,L,e⟩:=bind_some e;obtain⟨y,K,c⟩:=bind_some e;obtain⟨i,rfl⟩:∃i,x=.list i:=by cases x<;>first|exact⟨_,rfl⟩|(cases y<;>cases c)
  obtain⟨n,rfl⟩:∃n,y=.int n:=by cases y<;>first|exact⟨_,rfl⟩|cases c
  dsimp only[K0] at c;by_cases s:0<=n/\n<=1000/\i.length<=1000
  ·rw[ag s] at c;cases c;refine⟨ρ,_,w,L,λv O P o h A=>?_⟩;obtain⟨q,M,rfl,rfl,B⟩:=A.cont rfl;obtain⟨f,rfl,r⟩:=B.lst;refine⟨ρ,_,w.same (o.trans h.same),K,λu z j C=>?_⟩;have D:z q=Y (.lst f):=j _ _ (fL h.nd (q,.lst f) (by simp));have N:=r.length;have g:(2:Int) ^ 63=9223372036854775808:=by decide
   have m:f.length*n.toNat<=sizeLine:=by
    have J:f.length<=1000:=by omega
    have I:n.toNat<=1000:=by omega
    exact bq (Nat.mul_le_mul J I) (by decide)
   have l:=(r.same (h.same.trans j)).rep n.toNat;refine⟨q,n,f,rfl,eL.eW.mp C,D,by rw[g];omega,by rw[g];omega,m,λp E=>?_⟩;exact k (.ref p) z [(p,.lst (List.replicate n.toNat f).flatten)] (o.trans (h.same.trans j)) ⟨by simp,(λx t=>by simp at t;subst t;exact E),.one aI .nil⟩ (jB.Xp (.inl ⟨_,_,rfl,rfl,l⟩))
  ·rw[aj s] at c;cases c
end
section
variable {a:Expr}{fb:c7->Od}
end
def Q2:Nat->(Lw->Prop)->Prop
 |0,p=>p []
 |n+1,p=>∀v,Q2 n λa=>p (v::a)
theorem Q2.all:∀{n:Nat}{p:Lw->Prop},Q2 n p->∀a:Lw,a.length=n->p a
 |0,_,h,[],_=>h
 |_+1,_,h,v::a,e=>(h v).all a (Nat.succ.inj e)
def K1(x q:Str)(a:Stmt)(d:Lr):Prop:=∀(f b e:Value) (an:Option Addr) (qe ct:Value),Q2 d.length λc=>bindArgs (W.fnOf x q (oB a) (jc a) (eV a) .none f b e an qe ct) ⟨c,[]⟩=pure (d.zip c)
theorem K1.to{q:Str}{d:Lr}(h:K1 x q st d)(F:Jb K x q st a fd):kG K fd d []:=F.binds λi b g k c j f e=>(h i b g k c j).all f e
def gB(K:Fg)(c:Str->Ow)(x:Str)(b:Stmt):Prop:=∃a d,c x=Y (.ref a)/\Jb K x x b a d
def n5(K:Fg)(c m q:Str)(b:Stmt):Prop:=∃C a d,jM K c C/\GH K C/\GI K C m a/\Jb K m q b a d
def wM(K:Fg)(d:Str->Ow)(c q:Str)(b:Stmt):Prop:=∃C a e,jM K c C/\d c=Y (.ref C)/\Mk K C a/\Jb K "__init__" q b a e
section
variable {h:Heap}{c m q:Str}{C f:Addr}{od an:Option Addr}{sl:Array Ow}{oc kV dc pm cd ct:Value}
def fnAt(X:K.In h)(G:h.Ns mainGlobals mg)(a:W.nsIn K mainGlobals x=Y (Y (.ref f)))(l:K.lookup f=Y ⟨oc,od,.func (W.fnOf x x (oB st) (jc st) (eV st) .none kV dc pm an cd ct),sl⟩)(c:W.codeIn K cd x=true)(k:W.keepIn K (.ref f)=true):gB K mg x st :=
 ⟨f,_,W.mg_of X G a,GV l c k⟩
def intAt{n:Int}{t:Tok}(X:K.In h)(G:h.Ns mainGlobals mg)(a:W.nsIn K mainGlobals x=Y (Y (.int n t))):CT K mg x (.int n):=aap (W.mg_of X G a)
def XD(a:W.nsIn K mainGlobals c=Y (Y (.ref C))) (p:W.plainGet K C Str.empty=true) (d:W.hasDictIn K C=true) (o:W.plainOver K C=true) (s:W.findIn K (.ref C) "__setattr__"=Y (Y (.builtin "object.__setattr__")))
  (n:W.findIn K (.ref C) x=Y Z):fQ K c x:=⟨C,a,⟨p,d,o,s⟩,n⟩
def aar(a:W.nsIn K mainGlobals c=Y (Y (.ref C))) (p:W.plainGet K C Str.empty=true) (d:W.hasDictIn K C=true) (o:W.plainOver K C=true) (s:W.findIn K (.ref C) "__setattr__"=Y (Y (.builtin "object.__setattr__")))
  (n:W.findIn K (.ref C) m=Y (Y (.ref f))) (i:W.isFn K (.ref f)=true) (l:K.lookup f=Y ⟨oc,od,.func (W.fnOf m q (oB st) (jc st) (eV st) .none kV dc pm an cd ct),sl⟩) (e:W.codeIn K cd q=true) (k:W.keepIn K (.ref f)=true):n5 K c m q st :=
 ⟨C,f,_,a,⟨p,d,o,s⟩,⟨n,i,k⟩,GV l e k⟩
def UU(X:K.In h) (G:h.Ns mainGlobals mg) (a:W.nsIn K mainGlobals c=Y (Y (.ref C))) (m:W.makesIn K C=true) (b:W.keepIn K (.ref C)=true)
  (n:W.findIn K (.ref C) "__init__"=Y (Y (.ref f))) (i:W.isFn K (.ref f)=true) (l:K.lookup f=Y ⟨oc,od,.func (W.fnOf "__init__" q (oB st) (jc st) (eV st) .none kV dc pm an cd ct),sl⟩) (e:W.codeIn K cd q=true) (k:W.keepIn K (.ref f)=true):wM K mg c q st :=
 ⟨C,f,_,a,W.mg_of X G a,⟨m,n,i,b⟩,GV l e k⟩
end
section
variable {P:Program}{w:World}{base:Heap}{c m q:Str}{N:Lr}{k:Nat}{g:c7->Option gk}{fa:Addr}
abbrev yG(P:Program)(w:World)(K:W.Frag)(f:Str->Option Value)(c:Heap)(q:Str)(d:Stmt)(N:List Str)(k:Nat)(h:V->Md)(O:List Nat)(g:c7->Option gk):Prop :=
 ∀{v0:V}{e:Addr}{b:Value}{A:Around}{a:List Env}{s:Shared}{H:Hp}{E:XK},iD k (A.deeper (envOfC q (eV d) (zB s) e b))->(A.deeper (envOfC q (eV d) (zB s) e b)).units+64<cLine->N.Nodup->O.Nodup ->
  rP (u5 uW P w K f c N q (eV d) e b A a s H E).Mt (h v0) O (jc d) g
theorem gN(O:List Nat) (F:gB K mg x st) (f:yG P w K mg base x st N k (λ_=>.dat) O g) (S:iy N (N.take n) (eV st):=by exact⟨rfl,rfl,rfl,by decide +kernel,rfl,by decide +kernel,by decide +kernel⟩) (e:n=(N.take n).length:=by rfl) (h:∀i∈O,n<=i:=by decide) (c:O.Nodup:=by decide)
  (o:K1 x x st (N.take n):=by intro _ _ _ _ _ _;(repeat' intro _);exact rfl):qE P w K mg base x (k+1) n (ic N g):=by
 obtain⟨a,l,j,F⟩:=F;exact⟨a,l,N.take n,Hh F S e h λm A b s H E d=>f (v0:=.k9) d d.units S.nd c,j,F.kp,o.to F⟩
theorem Hy(O:List Nat) (F:gB K mg x st) (f:yG P w K mg base x st N k (λ_=>.own) O g) (S:iy N (N.take n) (eV st):=by exact⟨rfl,rfl,rfl,by decide +kernel,rfl,by decide +kernel,by decide +kernel⟩) (e:n=(N.take n).length:=by rfl) (h:∀i∈O,n<=i:=by decide) (c:O.Nodup:=by decide)
  (o:K1 x x st (N.take n):=by intro _ _ _ _ _ _;(repeat' intro _);exact rfl):vf P w K mg base x (k+1) n (CG N g):=by
 obtain⟨a,l,j,F⟩:=F;exact⟨a,l,N.take n,Nr F S e h λm A b s H E d=>f (v0:=.k9) d d.units S.nd c,j,F.kp,o.to F⟩
theorem ER(O:List Nat) (F:gB K mg x st) (f:yG P w K mg base x st N k (.io (kL (0::O))) (0::O) g) (S:iy N (N.take n) (eV st):=by exact⟨rfl,rfl,rfl,by decide +kernel,rfl,by decide +kernel,by decide +kernel⟩) (e:n=(N.take n).length:=by rfl) (h:∀i∈O,n<=i:=by decide) (b:(0::O).Nodup:=by decide) (j:n≠0:=by decide)
  (p:K1 x x st (N.take n):=by intro _ _ _ _ _ _;(repeat' intro _);exact rfl):Hi (kL (0::O)) P w K mg base x (k+1) n (pD N g):=by
 obtain⟨a,l,m,F⟩:=F;exact⟨a,l,N.take n,S1 F S e j b h λq o A c s H E d=>f d d.units S.nd b,m,F.kp,p.to F⟩
def CW(O:List Nat) (F:wM K mg c q st) (l:yG P w K mg base q st N k (.io (kL (0::O))) (0::O) g) (S:iy N (N.take n) (eV st):=by exact⟨rfl,rfl,rfl,by decide +kernel,rfl,by decide +kernel,by decide +kernel⟩) (h:n=(N.take n).length:=by rfl) (m:∀i∈O,n<=i:=by decide) (b:(0::O).Nodup:=by decide) (o:n≠0:=by decide) (j:kL (0::O)=false:=by rfl)
  (v:K1 "__init__" q st (N.take n):=by intro _ _ _ _ _ _;(repeat' intro _);exact rfl):vg P w K mg base c (k+1) n (pD N g):=by
 obtain⟨C,a,p,t,r,M,F⟩:=F;have f:=S1 F S h o b m λx u A d s H E e=>l e e.units S.nd b;rw[j] at f;exact⟨C,a,p,N.take n,t,r,M,f,v.to F⟩
def pH(O:List Nat) (F:n5 K c m q st) (h:yG P w K mg base q st N k (λ_=>.dat) O g) (S:iy N (N.take n) (eV st):=by exact⟨rfl,rfl,rfl,by decide +kernel,rfl,by decide +kernel,by decide +kernel⟩) (f:n=(N.take n).length:=by rfl) (j:∀i∈O,n<=i:=by decide) (d:O.Nodup:=by decide)
  (t:K1 m q st (N.take n):=by intro _ _ _ _ _ _;(repeat' intro _);exact rfl):je P w K mg base c m (k+1) n (ic N g):=by
 obtain⟨C,a,l,p,o,M,F⟩:=F;exact⟨C,a,l,N.take n,p,o,M,Hh F S f j λr A b s H E e=>h (v0:=.k9) e e.units S.nd d,t.to F⟩
def UW(O:List Nat) (F:n5 K c m q st) (h:yG P w K mg base q st N k (λ_=>.own) O g) (S:iy N (N.take n) (eV st):=by exact⟨rfl,rfl,rfl,by decide +kernel,rfl,by decide +kernel,by decide +kernel⟩) (f:n=(N.take n).length:=by rfl) (j:∀i∈O,n<=i:=by decide) (d:O.Nodup:=by decide)
  (t:K1 m q st (N.take n):=by intro _ _ _ _ _ _;(repeat' intro _);exact rfl):yF P w K mg base c m (k+1) n (CG N g):=by
 obtain⟨C,a,l,p,o,M,F⟩:=F;exact⟨C,a,l,N.take n,p,o,M,Nr F S f j λr A b s H E e=>h (v0:=.k9) e e.units S.nd d,t.to F⟩
theorem UX{b:Str} (O:List Nat) (h:mg x=Y (.ref fa)) (F:gB K mg x st) (q:∀base:Heap,yG P w K mg base x st (b::N) k (λ_=>.dat) O g) (S:iy (b::N) [b] (eV st):=by exact⟨rfl,rfl,rfl,by decide +kernel,rfl,by decide +kernel,by decide +kernel⟩) (r:∀i∈O,1<=i:=by decide) (f:O.Nodup:=by decide)
  (y:K1 x x st [b]:=by intro _ _ _ _ _ _;(repeat' intro _);exact rfl):∃d:FuncData,(∀(s:Shared) (u:Value),BindsTo s d ⟨[u],[]⟩ [(b,u)])/\∀base:Heap,K.In base->base.Ns mainGlobals mg->kX P w K mg base uW (k+1) fa d [b] (SU K 1 (ic (b::N) g)):=by
 obtain⟨a,d,t,F⟩:=F;cases h.symm.trans t;refine⟨d,λs u=>?_,λbase _ _=>Hh F S rfl r λc A e s H E l=>q base (v0:=.k9) l l.units S.nd f⟩;obtain⟨C,B,o,j,m,z,c,v,n,rfl,D,p⟩:=F.ex;exact .of_eq (y o j m z c v u)
variable {a:Expr}{fa fb:c7->Od}
def iZ(d:X.A.units+64<cLine)(g:PD X a fa)(f:PD X b fb)(e:tK b:=by exact λ_ _=>rfl)(c:Ek b:=by exact λ_ _=>rfl):PD X (.Subscript a b pos) (zX fa fb):=UI d g f e c
def fD{c:CmpOp}{g:eD->eD->Od}(d:u7 X (compareOp c) g)(h:PD X a fa)(f:PD X b fb)(e:behindInMarks c b=false:=by first|exact MC _|with_unfolding_all rfl):Bl X (.Compare a [c] [b] pos) (fB (d2 g fa fb)):=Qt d h f e
def ni{c:CmpOp}{g:eD->eD->Od}(d:u7 X (compareOp c) g)(h:PD X a fa)(f:PD X b fb)(e:behindInMarks c b=false:=by first|exact MC _|with_unfolding_all rfl):PD X (.Compare a [c] [b] pos) (d2 g fa fb):=Ux d h f e
noncomputable def NN:Lx->Option Lr
 |[]=>Y []
 |.Constant (.str x) _ _::es=>(NN es).map (x::·)
 |_=>Z
def S6:Lr->c7->Option Lp
 |[]=>fg
 |x::xs=>eK (zA x) (S6 xs)
def lz(a:Lr)(h:NN es=Y a):Bm X es (S6 a):=by
 induction es generalizing a with
 |nil=>cases h;exact iV
 |cons e es c=>
  unfold NN at h;split at h
  ·rename_i z;cases z
  ·rename_i z;cases z;obtain⟨b,e,rfl⟩:=aa.mp h;exact c5 c6 (c b e)
  ·cases h
end
section
def eT.told(I:eT X pins σ H s) {u u':HO} (k:H a=Y u) (C:∀b,u≠.own b) (l:∀xs,u≠.tup xs) (B:∀ps,u≠.PZ ps) (t:∀o v,X.H₀ a≠Y (.tE o v))
  (h:∀H',iR X.prog X.w H' s.heap a u'):eT X pins σ (upd H a u') s:=by
 have g:∀b,H b=Z->b≠a:=λb e z=>by subst z;rw[k] at e;cases e
 have f:∀b o,H b=Y o->o≠u->b≠a:=λb o e n z=>by subst z;rw[k] at e;exact n (a7 e).symm
 refine⟨I.ok,I.os,I.bare,⟨I.base.keep,I.base.slot,λb o e n y=>?_,I.base.there,λb xs e=>?_,λb o v e=>?_,λb ps e=>?_⟩,I.loc,I.cell,?_,λx c e=>?_,λp A=>?_,λb o e=>?_,I.len⟩
 ·have:=I.base.free b o e n y;rw[eI (g b this)];exact this
 ·have:=I.base.uY b xs e;rw[eI (f b _ this (l xs).symm)];exact this
 ·rw[eI (λz:b=a=>t o v (by rw[<-z];exact e))];exact I.base.sI b o v e
 ·obtain⟨d,this⟩:=I.base.wH b ps e;exact⟨d,by rw[eI (f b _ this (B _).symm)];exact this⟩
 ·rw[eI (g _ I.free)];exact I.free
 ·rw[eI (g _ (I.mR x c e))];exact I.mR x c e
 ·obtain⟨r,i,m⟩:=I.pin p A;exact⟨r,by rw[eI (g _ i)];exact i,m⟩
 ·by_cases j:b=a
  ·subst j;rw[eR] at e;cases e;exact h _
  ·rw[eI j] at e;exact(I.ir b o e).tF (λc v _ q=>q) (λc q=>by rw[eI (f c _ q (C b).symm)];exact q) λc xs q=>by rw[eI (f c _ q (l xs).symm)];exact q
theorem Paired.at'{α β:Type}{F:α->β->Prop}:∀{d:List α}{c:List β}{i:Nat}{a:α}{b:β},Paired F d c->d[i]?=Y a->c[i]?=Y b->F a b
 |_,_,i,_,_,.nil,h,_=>by simp at h
 |_,_,0,_,_,.cons r _,h,h'=>by simp at h h';subst h h';exact r
 |_,_,i+1,_,_,.cons _ t,h,h'=>Paired.at' t (by simpa using h) (by simpa using h')
def XE(a:Addr)(c:Obj)(b:List (Key×V)):It :=
 ⟨λi H=>H a=Y (.tE c (.dK b))/\i<b.length,λi H x H'=>H'=H/\∃y v,b[i]?=Y (y,v)/\x=kV y,λi H=>H a=Y (.tE c (.dK b))/\b.length<=i⟩
def BC{P:Program}{w:World}{h:Heap}{g:Obj}{k:Array DictEntry}{l:Nat}(x:iR P w H h a (.tE g (.dK kv)))(j:g.data=.dict k l):
  ∃e,KV kv e/\h.DictAt (fG P w) a e l:=by
 obtain⟨i,z,p,e,f,o,m,n,b,c,d,r⟩:=x;rw[i] at b;cases b;rw[j] at d;cases d;exact⟨e,f,g,k,i,c,j,r⟩
def K2{P:Program}{w:World}(a p:Addr)(R:Obj)(m:List (Key×V)):Cc P w K tg (XE a R m) [p] p (λi h=>∃t n,R.data=.dict t n/\h.IsKeyIter p a i m.length n) where
 mem:=by simp
 obj:=by
  rintro i h ⟨t,n,_,o,e,c,d⟩ b r;have e':b=p:=by simpa using r
  subst e';exact⟨o,e,λv z=>by rw[d] at z;cases z⟩
 keep:=λi h B ⟨t,n,q,f⟩ k=>⟨t,n,q,f.at λo e=>k p (by simp) o e⟩
 item:=by intro X F hw G W i l s σ H E I A ⟨t,n,x,f⟩ ⟨D,U⟩;subst F hw G;obtain⟨j,g,Q⟩:=BC (I.ir a _ D) x;have y:m.length=j.length:=cf g;obtain⟨O,N,f2,M,L,J⟩:=A p (by simp);have T:m[i]?=Y m[i]:=aN U;have S:j[i]?=Y j[i]:=aN (by omega);have hr:=Paired.at' g T S;rw[y] at f;refine wpAny_pyNext_dict_item f Q (k:=j[i].1) (v:=j[i].2) (by rw[S]) λC B hy u sb=>?_;have I1:eT X l σ H { s with heap:=B }:=I.turned (t':=s.toks) (λb o r e=>(sb.2 b r).trans e) O N M L J;obtain⟨o,e,c,d⟩:=id u;exact⟨C,rfl,xX (s:={ s with heap:=B }) e c d (by decide) ⟨kV j[i].1,H,I1,vl hy,⟨rfl,m[i].1,m[i].2,T,by rw[hr.1]⟩,⟨t,n,x,by rw[y];exact u⟩,λb r=>(A b r).1⟩⟩
 done:=by intro X F hw G W i l s σ H E I A ⟨t,n,x,f⟩ ⟨D,U⟩;subst F hw G;obtain⟨j,g,Q⟩:=BC (I.ir a _ D) x;have y:m.length=j.length:=cf g;obtain⟨O,N,f2,M,L,J⟩:=A p (by simp);rw[y] at f;exact wpAny_pyNext_dict_end (I.ok.hd W) f Q (b5 (by omega)) λB eb=>⟨rfl,I.turned (t':=s.toks) (λb o r e=>eb b o r e) O N M L J⟩
 self:=λ_ _ _ _ _ ⟨_,_,_,f⟩ h=>wpAny_pyIter_keyiter f h
def Q3{E:TE}(M:PE X e E):PI X tg e (λσ H R=>E σ H λv n=>∃a i,v=.ref a/\Rd n a (.dK i)/\(∀g,n a=Y (.tE g (.dK i))->R (XE a g i) n) /\
  ∀g,n a=Y (.dK i)->(∀o v,X.H₀ a≠Y (.tE o v))->R (XE a g i) (upd n a (.tE g (.dK i)))):=by
 intro f s σ H R I h;refine gS (@M f s σ H _ I h) ?_;rintro v k ⟨y,n,A,J,a,i,P,j,L,K⟩;subst P;cases J;have G:∀{m:Hp}{g:Obj},eT X f σ m k->m a=Y (.tE g (.dK i))->R (XE a g i) m->(zw X) (pyIter (.ref a)) (ZR X f σ tg R) X.xe k:=λ{m g} x e2 q=>by
  obtain⟨t,z,B,D,l,o,u,C,p,c,d,r⟩:=(show iR X.prog X.w m k.heap a (.tE g (.dK i)) from x.ir a _ e2)
  rw[t] at p;cases p;have O:∀b∈[(zB k)],nc X f m b:=λb N=>by rw[show b=(zB k) by simpa using N];exact x.Aj (az _) (x.ir.fresh (az _))
  refine wpAny_pyIter_dict (knd:=fG X.prog X.w) B ⟨g,u,t,c,d,r⟩ ?_;exact⟨_,[(zB k)],_,_,m,rfl,x.kept (t':=k.toks) λb o e=>af _ e,K2 a _ g i,⟨u,C,d,_,aw _ rfl,rfl,by rw[cf l];rfl⟩,O,q⟩
 rcases j with j | ⟨g,j⟩
 ·obtain⟨z,B,D,l,o,u,C,t,r⟩:=(show iR X.prog X.w n k.heap a (.dK i) from A.ir a _ j)
  have F:∀o v,X.H₀ a≠Y (.tE o v):=λo v e=>by have:=A.base.sI a o v e;rw[j] at this;cases this
  exact G (A.told (u':=.tE o (.dK i)) j (λ_ q=>by cases q) (λ_ q=>by cases q) (λ_ q=>by cases q) F λQ=>⟨t,z,B,D,l,o,u,C,t,r⟩) eR (K o j F)
 ·exact G A j (L g j)
def Q4{t:TS}(h:PS X st t):PS X st (λD σ H=>t { D with nx:=λσ' b=>D.nx σ' b\/∃a e d,b a=Y (.tE e (.dK d))/\(∀o v,X.H₀ a≠Y (.tE o v))/\D.nx σ' (upd b a (.dK d)) } σ H):=by
 intro c s σ H D I m;refine gS (@h c s σ H _ I m) λf k q=>?_;cases f with
 |next=>
  obtain⟨σ',b,i,q | ⟨a,e,d,j,l,q⟩⟩:=q
  ·exact⟨σ',b,i,q⟩
  ·obtain⟨_,g⟩:=(show iR X.prog X.w b k.heap a (.tE e (.dK d)) from i.ir a _ j)
   exact⟨σ',_,i.told (u':=.dK d) j (λ_ q=>by cases q) (λ_ q=>by cases q) (λ_ q=>by cases q) l λ_=>g,q⟩
 |brk=>exact q
 |cont=>exact q
 |ret v=>exact q
end
def Hz(u:HO)(a:List (Key×V)):Prop:=u=.dK a\/∃o,u=.tE o (.dK a)
def ES{u g:HO}(j:G a=Y u)(i:Hz u kv)(e:Hz g kv):Al K G (upd G a g):=by
 have c:∀{b:Addr}{v:HO},G b=Y v->(∀kv,¬ Hz v kv)->b≠a:=λ{b v} h n z=>by subst z;rw[j] at h;cases h;exact n _ i
 refine⟨λ{b xs} h=>?_,λ{b xs} h=>?_,λ{b d} h=>?_,λ{b C dx fs} h=>?_⟩
 ·rcases h with (h | ⟨o,h⟩)|h
  ·exact .inl (.inl (by rw[eI (c h λ_ z=>by rcases z with z | ⟨_,z⟩<;>cases z)];exact h))
  ·exact .inl (.inr ⟨o,by rw[eI (c h λ_ z=>by rcases z with z | ⟨_,z⟩<;>cases z)];exact h⟩)
  ·exact .inr h
 ·rcases h with (h | ⟨o,h⟩)|h
  ·exact .inl (.inl (by rw[eI (c h λ_ z=>by rcases z with z | ⟨_,z⟩<;>cases z)];exact h))
  ·exact .inl (.inr ⟨o,by rw[eI (c h λ_ z=>by rcases z with z | ⟨_,z⟩<;>cases z)];exact h⟩)
  ·exact .inr h
 ·by_cases f:b=a
  ·subst f;have:d=kv:=by
    rcases h with h | ⟨o,h⟩<;>rw[j] at h<;>cases h<;>rcases i with z | ⟨_,z⟩<;>cases z<;>rfl
   subst this;rcases e with z | ⟨o,z⟩<;>subst z
   ·exact .inl eR
   ·exact .inr ⟨o,eR⟩
  ·rcases h with h | ⟨o,h⟩
   ·exact .inl (by rw[eI f];exact h)
   ·exact .inr ⟨o,by rw[eI f];exact h⟩
 ·rw[eI (c h λ_ z=>by rcases z with z | ⟨_,z⟩<;>cases z)];exact h
section
variable {m:Md}{a:Expr}{g:c7->Option gk}
def wo{n:Hp}{a:Addr}{c:Obj}(g:G a=Y (.tE c (.dK kv)))(e:fZ K n kvs kv):pa K (XE a c kv) (kvs.map (·.1)) G:=λH' b=>by
 have f:kvs.length=kv.length:=e.length;refine⟨⟨b _ _ g,by simp[f]⟩,λi d q=>⟨⟨b _ _ g,?_⟩,λx r ⟨l,y,v,k,j⟩=>?_⟩⟩
 ·have:=(aA.mp q).1;simpa [f] using this
 ·subst l j;refine⟨.refl _,λo _ _=>?_⟩;obtain⟨p,h,m⟩:=(vm (H':=o) e).get q;rw[ay,k] at h;cases h;exact m
end
inductive MV where
 |d (x:eD)
 |l (n:Nat)
 |t (xs:List MV)
inductive MO where
 |lst (xs:List MV)
 |mJ (kvs:List (Key×MV))
 |ins (c:Str) (fs:List (Str×MV))
 |gone
abbrev MH:=List MO
abbrev MR:=List (Option MV)
abbrev AL:=List (Addr×Addr)
mutual
def gR (K:Fg) (G:Hp) (as:AL):MV->V->Prop
  |.d x,v=>eL K G x v
  |.l n,v=>∃a,as[n]?=Y a/\v=.ref a.1
  |.t xs,v=>∃p vs,v=.ref p/\qq K G p vs/\fA K G as xs vs
def fA (K:Fg) (G:Hp) (as:AL):List MV->List V->Prop
  |[],vs=>vs=[]
  |x::xs,vs=>∃v r,vs=v::r/\gR K G as x v/\fA K G as xs r
end
def pj(c b:AL):Prop:=∀(n:Nat) (a:Addr×Addr),c[n]?=Y a->b[n]?=Y a
def pj.refl(a:AL):pj a a:=λ_ _ h=>h
def pj.trans{a b c:AL}(h:pj a b)(h':pj b c):pj a c:=λn x e=>h' n x (h n x e)
def pj.snoc{b:AL}{x:Addr×Addr}:pj b (b++[x]):=λn a e=>by rw[aT (aA.mp e).1];exact e
section
variable {G':Hp}{as ET:AL}
def gR.gU{x:eD}:gR K G as (.d x) v↔eL K G x v:=by unfold gR;exact cB
def gR.kA:gR K G as (.l n) v↔∃a,as[n]?=Y a/\v=.ref a.1:=by unfold gR;exact cB
def gR.wq{a:List MV}:gR K G as (.t a) v↔∃p b,v=.ref p/\qq K G p b/\fA K G as a b:=by unfold gR;exact cB
def fA.eP:fA K G as [] vs↔vs=[]:=by unfold fA;exact cB
def fA.eF{x:MV}{a:List MV}:fA K G as (x::a) vs↔∃v r,vs=v::r/\gR K G as x v/\fA K G as a r:=by
 constructor
 ·intro h;unfold fA at h;exact h
 ·intro h;unfold fA;exact h
mutual
theorem gR.mono (e:Al K G G') (x:pj as ET):∀{m:MV}{v:V},gR K G as m v->gR K G' ET m v
  |.d _,_,h=>gR.gU.mpr ((gR.gU.mp h).sim e)
  |.l _,_,h=>by
    obtain⟨a,e1,e2⟩:=gR.kA.mp h
    exact gR.kA.mpr ⟨a,x _ _ e1,e2⟩
  |.t _,_,h=>by
    obtain⟨p,vs,e1,e2,e3⟩:=gR.wq.mp h
    exact gR.wq.mpr ⟨p,vs,e1,e.rL e2,fA.mono e x e3⟩
theorem fA.mono (e:Al K G G') (x:pj as ET):∀{ms:List MV}{vs:List V},fA K G as ms vs->fA K G' ET ms vs
  |[],_,h=>fA.eP.mpr (fA.eP.mp h)
  |_::_,_,h=>by
    obtain⟨v,r,e1,e2,e3⟩:=fA.eF.mp h
    exact fA.eF.mpr ⟨v,r,e1,gR.mono e x e2,fA.mono e x e3⟩
end
def fA.nil:fA K G as [] []:=fA.eP.mpr rfl
def fA.cons{x:MV}{xs:List MV}{v:V}{vs:List V}(h:gR K G as x v)(t:fA K G as xs vs):fA K G as (x::xs) (v::vs):=fA.eF.mpr ⟨v,vs,rfl,h,t⟩
theorem fA.length:∀{xs:List MV}{vs:List V},fA K G as xs vs->xs.length=vs.length
 |[],_,h=>by rw[fA.eP.mp h];rfl
 |_::_,_,h=>by obtain⟨v,r,rfl,_,t⟩:=fA.eF.mp h;simp[t.length]
theorem fA.get:∀{c:List MV}{vs:List V}{i:Nat}{x:MV},fA K G as c vs->c[i]?=Y x->∃v,vs[i]?=Y v/\gR K G as x v
 |[],_,_,_,_,e=>by simp at e
 |_::_,_,i,_,h,e=>by
  obtain⟨v,r,rfl,d,t⟩:=fA.eF.mp h;cases i with
  |zero=>simp at e;subst e;exact⟨v,rfl,d⟩
  |succ i=>obtain⟨u,a,b⟩:=t.get (by simpa using e);exact⟨u,by simpa using a,b⟩
theorem fA.append:∀{b a:List MV}{c d:List V},fA K G as b c->fA K G as a d->fA K G as (b++a) (c++d)
 |[],_,_,_,h,h'=>by rw[fA.eP.mp h];exact h'
 |_::_,_,_,_,h,h'=>by obtain⟨v,r,rfl,e,t⟩:=fA.eF.mp h;exact fA.cons e (t.append h')
theorem fA.set:∀{a:List MV}{b:List V}{i:Nat}{x:MV}{v:V},fA K G as a b->gR K G as x v->fA K G as (a.set i x) (b.set i v)
 |[],_,_,_,_,h,_=>by rw[fA.eP.mp h];exact fA.nil
 |_::_,_,i,_,_,h,h'=>by
  obtain⟨v,r,rfl,c,t⟩:=fA.eF.mp h;cases i with
  |zero=>exact fA.cons h' t
  |succ i=>exact fA.cons c (t.set h')
theorem fA.dropLast:∀{a:List MV}{b:List V},fA K G as a b->fA K G as a.dropLast b.dropLast
 |[],_,h=>by rw[fA.eP.mp h];exact fA.nil
 |[_],_,h=>by obtain⟨v,r,rfl,c,t⟩:=fA.eF.mp h;rw[fA.eP.mp t];exact fA.nil
 |_::_::_,_,h=>by obtain⟨v,r,rfl,c,t⟩:=fA.eF.mp h;obtain⟨e,g,rfl,d,f⟩:=fA.eF.mp t;exact fA.cons c (fA.dropLast t)
def lg(K:Fg)(G:Hp)(c:AL){κ:Type}(b:List (κ×MV))(a:List (κ×V)):Prop:=a.map (·.1)=b.map (·.1)/\fA K G c (b.map (·.2)) (a.map (·.2))
theorem lg.mono{κ:Type}{b:List (κ×MV)}{a:List (κ×V)}(e:Al K G G')(x:pj as ET)(h:lg K G as b a):lg K G' ET b a:=⟨h.1,h.2.mono e x⟩
theorem lg.nil{κ:Type}:lg K G as ([]:List (κ×MV)) []:=⟨rfl,fA.nil⟩
theorem lg.cases{κ:Type}{k:κ}{x:MV}{c:List (κ×MV)}{b:List (κ×V)}(h:lg K G as ((k,x)::c) b):∃v r,b=(k,v)::r/\gR K G as x v/\lg K G as c r:=by
 obtain⟨a,d⟩:=h;cases b with
 |nil=>cases a
 |cons y r=>obtain⟨j,v⟩:=y;obtain⟨f,g,e,i,t⟩:=fA.eF.mp d;simp at a e;obtain⟨rfl,a⟩:=a;obtain⟨rfl,rfl⟩:=e;exact⟨v,r,rfl,i,a,t⟩
theorem lg.cons{κ:Type}{k:κ}{x:MV}{v:V}{b:List (κ×MV)}{a:List (κ×V)}(i:gR K G as x v)(h:lg K G as b a):lg K G as ((k,x)::b) ((k,v)::a):=⟨by simp[h.1],fA.cons i h.2⟩
def lg.CY{κ:Type}{a:List (κ×V)}(h:lg K G as ([]:List (κ×MV)) a):a=[]:=by simpa using h.1
theorem lg.length{κ:Type}{b:List (κ×MV)}{a:List (κ×V)}(h:lg K G as b a):b.length=a.length:=by simpa using (bw List.length h.1).symm
noncomputable def ud(f:Str):List (Str×MV)->Option MV
 |[]=>Z
 | (g,x)::r=>if g=f then Y x else ud f r
noncomputable def Ju(f:Str)(y:MV):List (Str×MV)->List (Str×MV)
 |[]=>[(f,y)]
 | (g,x)::r=>if g=f then (g,y)::r else (g,x)::Ju f y r
theorem lg.look{f:Str}{x:MV}:∀{d:List (Str×MV)}{c:List (Str×V)},lg K G as d c->ud f d=Y x->∃v,c.lookup f=Y v/\gR K G as x v
 |[],_,_,e=>by cases e
 | (g,y)::r,_,h,e=>by
  obtain⟨v,j,rfl,i,t⟩:=h.cases;by_cases q:g=f
  ·simp only[ud,ag q] at e;cases e;exact⟨v,by rw[aW,cg.mpr q.symm],i⟩
  ·simp only[ud,aj q] at e;obtain⟨u,a,b⟩:=t.look e;exact⟨u,by rw[aW,aQ.mpr (λz=>q z.symm)];exact a,b⟩
theorem lg.put{f:Str}{y:MV}{u:V}(i:gR K G as y u):∀{b:List (Str×MV)}{a:List (Str×V)},lg K G as b a->lg K G as (Ju f y b) (lT f u a)
 |[],_,h=>by rw[h.CY];exact lg.cons i lg.nil
 | (g,x)::r,_,h=>by
  obtain⟨v,d,rfl,c,t⟩:=h.cases;unfold Ju lT;by_cases q:g=f
  ·rw[ag q,ag q];exact lg.cons i t
  ·rw[aj q,aj q];exact lg.cons c (t.put i)
noncomputable def yH(k:Key)(a:List (Key×MV)):Option MV:=(a.find? λb=>decide (b.1=k)).map (·.2)
noncomputable def BE(k:Key)(v:MV)(a:List (Key×MV)):List (Key×MV) :=
 if (a.any λb=>decide (b.1=k))=true then a.map (λb=>if b.1=k then (b.1,v) else b) else a++[(k,v)]
def HB(k:Key)(a:List (Key×MV)):List (Key×MV):=a.filter λb=>decide (b.1≠k)
theorem lg.val{k:Key}:∀{d:List (Key×MV)}{f:List (Key×V)},lg K G as d f->(yH k d=Z/\mv f k=Z)\/∃x v,yH k d=Y x/\mv f k=Y v/\gR K G as x v
 |[],_,h=>by rw[h.CY];exact .inl ⟨rfl,rfl⟩
 | (y,x)::r,_,h=>by
  obtain⟨v,l,rfl,i,t⟩:=h.cases;by_cases e:y=k
  ·exact .inr ⟨x,v,by simp[yH,e],by simp[mv,e],i⟩
  ·rcases lg.val (k:=k) t with ⟨a,b⟩ | ⟨g,j,a,b,c⟩
   ·exact .inl ⟨by simpa [yH,e] using a,by simpa [mv,e] using b⟩
   ·exact .inr ⟨g,j,by simpa [yH,e] using a,by simpa [mv,e] using b,c⟩
theorem lg.any{k:Key}:∀{a:List (Key×MV)}{b:List (Key×V)},lg K G as a b->(b.any λx=>decide (x.1=k))=a.any λx=>decide (x.1=k)
 |[],_,h=>by rw[h.CY];rfl
 | (y,x)::r,_,h=>by obtain⟨v,c,rfl,i,t⟩:=h.cases;simp only[bz,t.any]
theorem lg.snoc{κ:Type}{k:κ}{y:MV}{u:V}(i:gR K G as y u):∀{a:List (κ×MV)}{b:List (κ×V)},lg K G as a b->lg K G as (a++[(k,y)]) (b++[(k,u)])
 |[],_,h=>by rw[h.CY];exact lg.cons i lg.nil
 | (_,_)::_,_,h=>by obtain⟨v,d,rfl,c,t⟩:=h.cases;exact lg.cons c (t.snoc i)
theorem lg.UY{k:Key}{y:MV}{u:V}(i:gR K G as y u):∀{a:List (Key×MV)}{b:List (Key×V)},lg K G as a b->lg K G as (a.map λx=>if x.1=k then (x.1,y) else x) (b.map λx=>if x.1=k then (x.1,u) else x)
 |[],_,h=>by rw[h.CY];exact lg.nil
 | (z,_)::_,_,h=>by
  obtain⟨v,d,rfl,c,t⟩:=h.cases;simp only[ai];by_cases e:z=k
  ·simp only[ag e];exact lg.cons i (t.UY i)
  ·simp only[aj e];exact lg.cons c (t.UY i)
theorem lg.putK{k:Key}{y:MV}{u:V}{a:List (Key×MV)}{b:List (Key×V)}(i:gR K G as y u)(h:lg K G as a b):lg K G as (BE k y a) (L2.putK b k u):=by
 unfold BE L2.putK;rw[h.any];split
 ·exact h.UY i
 ·exact h.snoc i
theorem lg.drop{k:Key}:∀{a:List (Key×MV)}{b:List (Key×V)},lg K G as a b->lg K G as (HB k a) (yb b k)
 |[],_,h=>by rw[h.CY];exact lg.nil
 | (z,_)::_,_,h=>by
  obtain⟨v,d,rfl,c,t⟩:=h.cases;unfold HB yb;by_cases e:z=k
  ·simp only[dn,e,ne_eq,not_true_eq_false,decide_false,bM,dE];exact t.drop
  ·simp only[dn,e,ne_eq,not_false_eq_true,decide_true,b8];exact lg.cons c t.drop
def PR(K:Fg)(G:Hp)(b:AL)(a:Addr×Addr):MO->List (Addr×HO)->Prop
 |.lst xs,B=>∃d,B=[(a.1,.lst d)]/\fA K G b xs d
 |.mJ kvs,B=>∃e,B=[(a.1,.dK e)]/\lg K G b kvs e
 |.ins c fs,B=>∃C f,B=[(a.1,.ins C a.2 f),(a.2,.own a.1)]/\jM K c C/\lg K G b fs f
 |.gone,B=>B=[]
def EU(K:Fg)(G:Hp)(b:AL):AL->MH->List (Addr×HO)->Prop
 |[],μ,B=>μ=[]/\B=[]
 |a::l,μ,B=>∃o μ' d c,μ=o::μ'/\B=d++c/\PR K G b a o d/\EU K G b l μ' c
theorem PR.mono{a:Addr×Addr}{o:MO}{B:List (Addr×HO)}(e:Al K G G')(x:pj as ET)(h:PR K G as a o B):PR K G' ET a o B:=by
 cases o with
 |lst k=>obtain⟨vs,d,b⟩:=h;exact⟨vs,d,b.mono e x⟩
 |mJ f=>obtain⟨g,d,b⟩:=h;exact⟨g,d,b.mono e x⟩
 |ins c l=>obtain⟨C,i,d,b,j⟩:=h;exact⟨C,i,d,b,j.mono e x⟩
 |gone=>exact h
def PR.mG{a:Addr×Addr}{o:MO}(h:PR K G as a o B):pV B:=by
 cases o with
 |lst d=>obtain⟨e,rfl,_⟩:=h;exact .one aI .nil
 |mJ b=>obtain⟨f,rfl,_⟩:=h;exact .one aI .nil
 |ins c i=>obtain⟨C,g,rfl,_⟩:=h;exact .ins .nil
 |gone=>cases (show B=[] from h);exact .nil
theorem EU.mono(e:Al K G G')(x:pj as ET):∀{l:AL}{μ:MH}{B:List (Addr×HO)},EU K G as l μ B->EU K G' ET l μ B
 |[],_,_,h=>h
 |_::_,_,_,⟨o,μ',B1,B2,e1,e2,e3,t⟩=>⟨o,μ',B1,B2,e1,e2,e3.mono e x,EU.mono e x t⟩
theorem EU.mG:∀{l:AL}{μ:MH}{B:List (Addr×HO)},EU K G as l μ B->pV B
 |[],_,_,h=>by rw[h.2];exact .nil
 |_::_,_,_,⟨o,μ',B1,B2,e1,e2,e3,t⟩=>by rw[e2];exact e3.mG.append t.mG
theorem EU.len:∀{l:AL}{μ:MH}{B:List (Addr×HO)},EU K G as l μ B->l.length=μ.length
 |[],_,_,h=>by rw[h.1];rfl
 |_::_,_,_,⟨o,μ',B1,B2,e1,e2,e3,t⟩=>by rw[e1];simp[t.len]
theorem EU.at{o:MO}:∀{l:AL}{μ:MH}{B:List (Addr×HO)}{n:Nat},EU K G as l μ B->μ[n]?=Y o ->
  ∃a g d f,l[n]?=Y a/\B=g++(d++f)/\pV g/\pV f/\PR K G as a o d/\∀c b,PR K G as a c b->EU K G as l (μ.set n c) (g++(b++f))
 |[],_,_,_,h,e=>by rw[h.1] at e;cases e
 |a::l,_,_,0,⟨o1,μ',d,B2,e1,e2,e3,t⟩,e=>by subst e1 e2;cases e;exact⟨a,[],d,B2,rfl,rfl,.nil,t.mG,e3,λc b h=>⟨c,μ',b,B2,rfl,rfl,h,t⟩⟩
 |a::l,_,_,n+1,⟨o1,μ',d,B2,e1,e2,e3,t⟩,e=>by subst e1 e2;obtain⟨q,g,b,f,p,rfl,m,k,j,i⟩:=t.at (n:=n) (by simpa using e);exact⟨q,d++g,b,f,by simpa using p,by simp,e3.mG.append m,k,j,λc B h=>⟨o1,μ'.set n c,d,g++(B++f),rfl,by simp,e3,i c B h⟩⟩
theorem EU.snoc{a:Addr×Addr}{o:MO}{B':List (Addr×HO)}(b:PR K G as a o B'):∀{l:AL}{μ:MH}{B:List (Addr×HO)},EU K G as l μ B->EU K G as (l++[a]) (μ++[o]) (B++B')
 |[],_,_,h=>by rw[h.1,h.2];exact⟨o,[],B',[],rfl,by simp,b,rfl,rfl⟩
 |_::_,_,_,⟨o1,μ',B1,B2,e1,e2,e3,t⟩=>⟨o1,μ'++[o],B1,B2++B',by rw[e1];rfl,by rw[e2];simp,e3,t.snoc b⟩
structure iE (K:Fg) (μ:MH) (H G:Hp) (as:AL):Prop where
 ex:∃B,H=eU G B/\j4 G B/\EU K G as as μ B
structure iQ (K:Fg) (σ:St) (ρ:MR) (μ:MH) (H G:Hp) (as:AL):Prop where
 h:iE K μ H G as
 len:σ.length=ρ.length
 loc:∀(i:Nat) (x:MV),ρ[i]?=Y (Y x)->∃v,σ[i]?=Y (Y v)/\gR K G as x v
variable {μ:MH}{ρ:MR}
def iE.sub(h:iE K μ H G as):eN G H:=by obtain⟨B,rfl,f,_⟩:=h.ex;intro b o e;rw[fX λx a z=>by have:=f.free x a;rw[z,e] at this;cases this];exact e
theorem iE.lst{n:Nat}{g:List MV}(h:iE K μ H G as)(e:μ[n]?=Y (.lst g)):∃a d,as[n]?=Y a/\H a.1=Y (.lst d)/\fA K G as g d /\
  ∀c b,fA K G as c b->iE K (μ.set n (.lst c)) (upd H a.1 (.lst b)) G as:=by
 obtain⟨B,rfl,f,m⟩:=h.ex;obtain⟨a,r,s,q,p,rfl,o,l,⟨d,rfl,k⟩,j⟩:=m.at e;refine⟨a,d,p,fL f.nd (a.1,.lst d) (by simp),k,λc b i=>⟨_,nO f.nd,f.put ?_,j (.lst c) [(a.1,.lst b)] ⟨b,rfl,i⟩⟩⟩;exact o.append (.one aI l)
theorem iE.mJ{n:Nat}{kvs:List (Key×MV)}(h:iE K μ H G as)(e:μ[n]?=Y (.mJ kvs)):∃a d,as[n]?=Y a/\H a.1=Y (.dK d)/\lg K G as kvs d /\
  ∀b c,lg K G as b c->iE K (μ.set n (.mJ b)) (upd H a.1 (.dK c)) G as:=by
 obtain⟨B,rfl,f,m⟩:=h.ex;obtain⟨a,q,r,p,o,rfl,l,k,⟨d,rfl,j⟩,g⟩:=m.at e;refine⟨a,d,o,fL f.nd (a.1,.dK d) (by simp),j,λb c i=>⟨_,nO f.nd,f.put ?_,g (.mJ b) [(a.1,.dK c)] ⟨c,rfl,i⟩⟩⟩;exact l.append (.one aI k)
theorem iE.ins{n:Nat}{c:Str}{l:List (Str×MV)}(h:iE K μ H G as)(e:μ[n]?=Y (.ins c l)):∃a C g,as[n]?=Y a/\H a.1=Y (.ins C a.2 g)/\jM K c C/\lg K G as l g /\
  ∀d b,lg K G as d b->iE K (μ.set n (.ins c d)) (upd H a.1 (.ins C a.2 b)) G as:=by
 obtain⟨B,rfl,f,m⟩:=h.ex;obtain⟨a,t,u,s,r,rfl,q,p,⟨C,g,rfl,k,j⟩,o⟩:=m.at e;refine⟨a,C,g,r,fL f.nd (a.1,.ins C a.2 g) (by simp),k,j,λd b i=>⟨_,nO f.nd,f.put ?_,o (.ins c d) [(a.1,.ins C a.2 b),(a.2,.own a.1)] ⟨C,b,rfl,k,i⟩⟩⟩;exact q.append (.ins p)
end
end L2
variable  {gc:L2.MR->L2.MH->Option (Bool×L2.MH)}
local macro_rules
| `(zd $a) => `(some (.d $a))
namespace L2
open PySem PySem.Spec PyProof.Rows
section
variable {G' H':Hp}{as ET:AL}{μ μ':MH}{ρ:MR}
def iE.new{a:Addr×Addr}{o:MO}{B':List (Addr×HO)}(h:iE K μ H G as)(m:PR K G (as++[a]) a o B')(g:j4 H B'):iE K (μ++[o]) (eU H B') G (as++[a]):=by
 obtain⟨B,rfl,f,c⟩:=h.ex;have d:=f.join g;have b:(B'++B).Perm (B++B'):=a6;refine⟨⟨B++B',?_,d.perm b (c.mG.append m.mG),?_⟩⟩
 ·rw[<-jg];exact ie d.nd b
 ·exact EU.snoc m (c.mono (eN.refl G).sim pj.snoc)
def iE.Jv(h:iE K μ H G as)(e:eN H H'):∃b,eN G b/\(∀a,H a=Z->b a=H' a)/\iE K μ H' b as:=by
 obtain⟨B,rfl,f,j⟩:=h.ex;obtain⟨b,l,k,i⟩:=XC (H:=H') f.nd λx c=>e _ _ (fL f.nd x c);have g:eN G b:=λa o q=>by
  have d:∀x∈B,x.1≠a:=λx c z=>by have:=f.free x c;rw[z,q] at this;cases this
  rw[i a d];exact e _ _ (by rw[fX d];exact q)
 exact⟨b,g,λa d=>i a λx c z=>(by have:=fL (G:=G) f.nd x c;rw[z,d] at this;cases this),⟨B,l,⟨f.nd,k,f.ok⟩,j.mono g.sim (pj.refl _)⟩⟩
def iE.grow(h:iE K μ H G as)(e:eN H H'):∃c,eN G c/\iE K μ H' c as:=by obtain⟨c,a,_,b⟩:=h.Jv e;exact⟨c,a,b⟩
theorem iQ.mono(h:iQ K σ ρ μ H G as)(e:Al K G G')(x:pj as ET)(c:iE K μ' H' G' ET):iQ K σ ρ μ' H' G' ET :=
 ⟨c,h.len,λi y q=>by obtain⟨v,a,b⟩:=h.loc i y q;exact⟨v,a,b.mono e x⟩⟩
theorem iQ.set{i:Nat}{x:MV}{v:V}(h:iQ K σ ρ μ H G as)(e:gR K G as x v):iQ K (σ.set i (Y v)) (ρ.set i (Y x)) μ H G as:=by
 refine⟨h.h,by simpa using h.len,λj y q=>?_⟩;by_cases c:i=j
 ·subst c;have d:i<ρ.length:=by
   have:=(aA.mp q).1;simpa using this
  rw[aE d] at q;cases q;exact⟨v,aE (by rw[h.len];exact d),e⟩
 ·rw[av c] at q;obtain⟨u,a,b⟩:=h.loc j y q;exact⟨u,by rw[av c];exact a,b⟩
def vp{α β:Type}(f:α->Option β):List α->Option (List β)
 |[]=>Y []
 |x::xs=>(f x).bind λy=>(vp f xs).map (y::·)
noncomputable def kB(μ:MH):Nat->MV->Od
 |0,_=>Z
 |_+1,.d x=>Y x
 |n+1,.t xs=>(vp (kB μ n) xs).map .tuple
 |n+1,.l k=>(μ[k]?).bind λo=>match o with
  |.lst xs=>(vp (kB μ n) xs).map .list
  |.mJ kvs=>(vp (λq=>(kB μ n q.2).map λy=>(kH q.1,y)) kvs).map .dict
  |.ins c fs=>(vp (λq=>(kB μ n q.2).map λy=>(eD.str q.1,y)) fs).map λr=>.dict ((.none,.str c)::r)
  |.gone=>Z
def ue(μ:MH)(ρ:MR):c7:=ρ.map λo=>o.bind (kB μ 9)
theorem vq{f:MV->Od}(c:∀m d v,f m=Y d->gR K G as m v->eL K H d v):∀{a:List MV}{g:Lp}{b:List V},vp f a=Y g->fA K G as a b->ez K H g b
 |[],_,_,e,h=>by cases e;rw[fA.eP.mp h];exact ez.nil
 |x::a,_,_,e,h=>by obtain⟨y,l,k⟩:=bind_some e;obtain⟨n,j,rfl⟩:=aa.mp k;obtain⟨v,r,rfl,i,t⟩:=fA.eF.mp h;exact ez.cons (c _ _ _ l i) (vq c j t)
theorem n6(h:iE K μ H G as):∀(n:Nat) (m:MV) (d:eD) (v:V),kB μ n m=Y d->gR K G as m v->eL K H d v
 |0,_,_,_,e,_=>by cases e
 |n+1,.d x,_,_,e,i=>by cases e;exact(gR.gU.mp i).same h.sub
 |n+1,.t xs,_,_,e,i=>by obtain⟨u,f,rfl⟩:=aa.mp e;obtain⟨p,w,rfl,b,g⟩:=gR.wq.mp i;exact eL.jz.mpr ⟨p,w,rfl,h.sub.rL b,vq (n6 h n) f g⟩
 |n+1,.l k,_,_,e,i=>by
  obtain⟨a,F,rfl⟩:=gR.kA.mp i;obtain⟨o,f,b⟩:=bind_some e;cases o with
  |lst xs=>obtain⟨u,g,rfl⟩:=aa.mp b;obtain⟨N,w,j,r,q,_⟩:=h.lst f;rw[F] at j;cases j;exact eL.fh.mpr ⟨a.1,w,rfl,kQ.of r,vq (n6 h n) g q⟩
  |mJ s=>
   obtain⟨u,g,rfl⟩:=aa.mp b;obtain⟨N,J,j,r,q,_⟩:=h.mJ f;rw[F] at j;cases j;refine eL.kI.mpr ⟨a.1,rfl,.inl ⟨J,.inl r,?_⟩⟩;clear f r b e;induction s generalizing J u with
   |nil=>cases g;rw[q.CY];exact fZ.eP.mpr rfl
   |cons y s D=>obtain⟨B,x⟩:=y;obtain⟨v,A,rfl,E,t⟩:=q.cases;obtain⟨z,f,b⟩:=bind_some g;obtain⟨O,Q,rfl⟩:=aa.mp b;obtain⟨R,I,rfl⟩:=aa.mp f;exact fZ.eF.mpr ⟨B,v,A,rfl,rfl,n6 h n _ _ _ I E,by apply D<;>assumption⟩
  |ins c M=>
   obtain⟨u,g,rfl⟩:=aa.mp b;obtain⟨N,C,L,j,r,P,q,_⟩:=h.ins f;rw[F] at j;cases j;refine eL.kI.mpr ⟨a.1,rfl,.inr ⟨c,C,a.2,L,P,r,px.eF.mpr ⟨rfl,rfl,?_⟩⟩⟩;clear f r b e;induction M generalizing L u with
   |nil=>cases g;rw[q.CY];exact kj.eP.mpr rfl
   |cons y M D=>obtain⟨B,x⟩:=y;obtain⟨v,A,rfl,E,t⟩:=q.cases;obtain⟨z,f,b⟩:=bind_some g;obtain⟨O,Q,rfl⟩:=aa.mp b;obtain⟨R,I,rfl⟩:=aa.mp f;exact kj.eF.mpr ⟨B,v,A,rfl,rfl,n6 h n _ _ _ I E,by apply D<;>assumption⟩
  |gone=>cases b
def iQ.view(h:iQ K σ ρ μ H G as):jA K H σ (ue μ ρ):=by refine⟨by rw[h.len];simp[ue],λi d q=>?_⟩;unfold ue at q;rw[ay] at q;obtain⟨o,f,e⟩:=aa.mp q;obtain⟨m,rfl,c⟩:=bind_some e;obtain⟨v,a,b⟩:=h.loc i m f;exact⟨v,a,n6 h.h 9 m d v c b⟩
def K3:eD->Bool
 |.tuple xs=>xs.all mz
 |d=>mz d
def vr(d:pV B){p:Addr}{o:HO}(f:j4 G B)(h:eU G B p=Y o)(g:∀xs,o≠.lst xs)(j:∀kv,o≠.dK kv)(i:∀C dx fs,o≠.ins C dx fs)(e:∀x,o≠.own x):G p=Y o:=by
 rcases oF (a:=p) B with ⟨x,b,rfl⟩|k
 ·rw[fL f.nd x b] at h;cases h;exfalso;clear f;induction d with
  |nil=>cases b
  |@one q u r l _ c=>
   rcases ao.mp b with rfl|b
   ·cases u<;>first|exact g _ rfl|exact j _ rfl|exact l
   ·exact c b
  |@ins q C dx fs r _ c=>
   rcases ao.mp b with rfl|b
   ·exact i _ _ _ rfl
   ·rcases ao.mp b with rfl|b
    ·exact e _ rfl
    ·exact c b
 ·rw[fX k] at h;exact h
def iE.imm(h:iE K μ H G as)(b:K3 d=true)(i:eL K H d v):eL K G d v:=by
 cases d with
 |tuple g=>
  obtain⟨p,c,rfl,e1,e⟩:=i.gP;obtain⟨B,rfl,f,a⟩:=h.ex;refine eL.jz.mpr ⟨p,c,rfl,?_,e.jV b⟩;rcases e1 with (e1 | ⟨o,e1⟩)|e1
  ·exact .inl (.inl (vr a.mG f e1 (by intro _ z;cases z) (by intro _ z;cases z) (by intro _ _ _ z;cases z) (by intro _ z;cases z)))
  ·exact .inl (.inr ⟨o,vr a.mG f e1 (by intro _ z;cases z) (by intro _ z;cases z) (by intro _ _ _ z;cases z) (by intro _ z;cases z)⟩)
  ·exact .inr e1
 |_=>exact i.jV b
mutual
def uf:MV->Od
  |.d x=>Y x
  |.l _=>Z
  |.t xs=>(yI xs).map .tuple
def yI:List MV->Option Lp
  |[]=>Y []
  |x::xs=>(uf x).bind λy=>(yI xs).map (y::·)
end
mutual
theorem gR.dat:∀{m:MV}{d:eD}{v:V},uf m=Y d->gR K G as m v->eL K G d v
  |.d _,_,_,e,i=>by unfold uf at e;cases e;exact gR.gU.mp i
  |.l _,_,_,e,_=>by unfold uf at e;cases e
  |.t xs,_,_,e,i=>by
    unfold uf at e
    obtain⟨ds,e1,rfl⟩:=aa.mp e
    obtain⟨p,vs,rfl,e2,e3⟩:=gR.wq.mp i
    exact eL.jz.mpr ⟨p,vs,rfl,e2,fA.dat e1 e3⟩
theorem fA.dat:∀{ms:List MV}{ds:Lp}{vs:List V},yI ms=Y ds->fA K G as ms vs->ez K G ds vs
  |[],_,_,e,i=>by unfold yI at e;cases e;rw[fA.eP.mp i];exact ez.nil
  |x::xs,_,_,e,i=>by
    unfold yI at e
    obtain⟨y,e1,e2⟩:=bind_some e
    obtain⟨ys,e3,rfl⟩:=aa.mp e2
    obtain⟨v,r,rfl,i1,t⟩:=fA.eF.mp i
    exact ez.cons (gR.dat e1 i1) (fA.dat e3 t)
end
def wO(ρ:MR):c7:=ρ.map λo=>o.bind uf
theorem iQ.dat(h:iQ K σ ρ μ H G as):jA K G σ (wO ρ):=by refine⟨by rw[h.len];simp[wO],λi d q=>?_⟩;unfold wO at q;rw[ay] at q;obtain⟨o,f,e⟩:=aa.mp q;obtain⟨m,rfl,c⟩:=bind_some e;obtain⟨v,a,b⟩:=h.loc i m f;exact⟨v,a,gR.dat c b⟩
end
abbrev MF:=MR->MH->Option (MV×MH)
def KM(K:Fg)(σ:St)(ρ:MR)(G:Hp)(d:AL)(μ':MH)(v:MV)(Q:VK):Prop:=∀u c b a,eN G b->pj d a->iQ K σ ρ μ' c b a->gR K b a v u->Q u c
def PM(X:Cx)(e:Expr)(f:MF):Prop:=PE X e (λσ H Q=>∃ρ μ v μ' G as,iQ X.K σ ρ μ H G as/\f ρ μ=Y (v,μ')/\KM X.K σ ρ G as μ' v Q)
def Q5(X:Cx)(g:Lx)(f:MR->MH->Option (List MV×MH)):Prop:=PA X g (λσ H Q=>∃ρ μ vs μ' G d,iQ X.K σ ρ μ H G d/\f ρ μ=Y (vs,μ') /\
 ∀c e b a,eN G b->pj d a->iQ X.K σ ρ μ' e b a->fA X.K b a vs c->Q c e)
def Q6(X:Cx)(e:Expr)(f:MR->MH->Option (Bool×MH)):Prop:=PT X e (λσ H Q=>∃ρ μ b μ' G c,iQ X.K σ ρ μ H G c/\f ρ μ=Y (b,μ')/\∀d g a,eN G g->pj c a->iQ X.K σ ρ μ' d g a->Q b d)
section
variable {a:Expr}{fb fc:c7->Od}{ma mb mc m:MF}{ff:MR->MH->Option (List MV×MH)}{ep fV:Pos}{gc:c7->Option Bool}
def KM.later{ρ:MR}{d:Hp}{c a:AL}{μ':MH}{v:MV}{Q:VK}(k:KM K σ ρ G c μ' v Q)(e:eN G d)(x:pj c a):KM K σ ρ d a μ' v Q:=λu f g b s y h i=>k u f g b (e.trans s) (x.trans y) h i
noncomputable def ew(i:Nat):MF:=λρ μ=>(ρ[i]?).join.map λv=>(v,μ)
def c4(i:Nat)(h:X.N[i]?=Y x:=by rfl)(f:Mc X.env.scope x:=by first|exact bW rfl|exact bA (bW rfl)|exact bA (bA rfl))(g:zg x:=by decide)(a:(x==("__classdict__":Str))=false:=by decide):PM X (.Name x pos) (ew i) :=
 PE.imp (qx h f g a) <| by rintro σ H Q ⟨ρ,μ,v,μ',G,n,b,e,k⟩;obtain⟨m,l,j⟩:=aa.mp e;cases j;obtain⟨u,d,c⟩:=b.loc i v (join_some l);exact⟨u,d,k u H G n (.refl _) (.refl _) b c⟩
noncomputable def gm(f:c7->Od):MF:=λρ μ=>(f (wO ρ)).map λd=>(.d d,μ)
def eX(h:PD X e f):PM X e (gm f) :=
 PE.imp (PE.frame h) <| by rintro σ H Q ⟨ρ,μ,v,μ',G,o,b,e,k⟩;obtain⟨d,n,m⟩:=aa.mp e;cases m;obtain⟨B,l,j,g⟩:=b.h.ex;exact⟨G,B,l,j,wO ρ,d,b.dat,n,λu p a i c=>k u _ p o a (.refl _) (b.mono a.sim (.refl _) ⟨B,rfl,c,g.mono a.sim (.refl _)⟩) (gR.gU.mpr i)⟩
def kc(f:c7->Od):MF:=λρ μ=>(f (ue μ ρ)).bind λd=>if K3 d=true then Y (.d d,μ) else Z
def ia(h:PD X e f):PM X e (kc f) :=
 PE.imp h <| by
  rintro σ H Q ⟨ρ,μ,v,μ',G,n,b,e,k⟩;obtain⟨d,m,a⟩:=bind_some e;by_cases c:K3 d=true
  ·rw[ag c] at a;cases a;refine⟨ue μ ρ,d,b.view,m,λu o l i=>?_⟩;obtain⟨p,g,j⟩:=b.h.grow l;exact k u o p n g (.refl _) (b.mono g.sim (.refl _) j) (gR.gU.mpr (j.imm c i))
  ·rw[aj c] at a;cases a
def iz(g:c7->Option Bool):MR->MH->Option (Bool×MH):=λρ μ=>(g (ue μ ρ)).map λb=>(b,μ)
def gq(h:Bl X e gc):Q6 X e (iz gc) :=
 PT.imp h <| by rintro σ H Q ⟨ρ,μ,b,μ',G,l,a,e,k⟩;obtain⟨d,j,i⟩:=aa.mp e;cases i;refine⟨ue μ ρ,b,a.view,j,λm f=>?_⟩;obtain⟨n,c,g⟩:=a.h.grow f;exact k m n l c (.refl _) (a.mono c.sim (.refl _) g)
noncomputable def g0(c n:Str)(m:MF):MF:=λρ μ=>(m ρ μ).bind λr=>match r.1 with
 |.l k=>(r.2[k]?).bind λo=>match o with
  |.ins a fs=>if a=c then (ud n fs).map λv=>(v,r.2) else Z
  |_=>Z
 |_=>Z
def fH{c n:Str}(I:fQ X.K c n)(E:PM X e m)(F:attributeBase e n X.env (eval e X.env)=eval e X.env:=by rfl):PM X (.Attribute e n pos) (g0 c n m) :=
 PE.imp (Cg E F) <| by
  rintro σ H Q ⟨ρ,μ,v,μ',G,V,D,e,k⟩;obtain⟨⟨x,μ1⟩,T,o⟩:=bind_some e;cases x with
  |l j=>
   obtain⟨z,S,b⟩:=bind_some o;cases z with
   |ins U fs=>
    dsimp only at b;by_cases d:U=c
    ·rw[ag d] at b;subst d;obtain⟨y,R,P⟩:=aa.mp b;cases P;refine⟨ρ,μ,_,_,G,V,D,T,λu W G1 f q p i B=>?_⟩;obtain⟨a,O,rfl⟩:=gR.kA.mp B;obtain⟨a',C,N,g,t,r,s,_⟩:=i.h.ins S;rw[O] at g;cases g;obtain⟨C',M,L,J⟩:=I;have:=r.uniq M;subst this;obtain⟨w,l,A⟩:=s.look R;exact⟨a.1,C,a.2,N,w,rfl,t,L,J,l,k w W G1 f q p i A⟩
    ·rw[aj d] at b;cases b
   |_=>cases b
  |_=>cases o
def qM(a:Lr)(n:Str)(m:MF):MF:=λρ μ=>(m ρ μ).bind λr=>(uf r.1).bind λd=>(jb a n d).map λx=>(.d x,r.2)
def mj{cs:Lr}{n:Str}(D:∀c∈cs,fQ X.K c n)(A:PM X e m)(B:attributeBase e n X.env (eval e X.env)=eval e X.env:=by rfl):PM X (.Attribute e n pos) (qM cs n m) :=
 PE.imp (Cg A B) <| by
  rintro σ H Q ⟨ρ,μ,v,μ',G,U,z,e,k⟩;obtain⟨⟨x,μ1⟩,S,R⟩:=bind_some e;obtain⟨d,P,O⟩:=bind_some R;obtain⟨y,a,N⟩:=aa.mp O;cases N;refine⟨ρ,μ,_,_,G,U,z,S,λu V W g o j i t=>?_⟩;have s:=gR.dat P t;unfold jb at a;split at a
  ·rename_i c r;by_cases b:c∈cs
   ·rw[ag b] at a;obtain⟨p,C,T,M,rfl,f,F,E⟩:=s.G4;obtain⟨C',L,J,I⟩:=D c b;have:=f.uniq L;subst this;obtain⟨w,l,q⟩:=E.get a;exact⟨p,C,T,M,w,rfl,i.h.sub _ _ F,J,I,l,k w V W g o j i (gR.gU.mpr q)⟩
   ·rw[aj b] at a;cases a
  ·cases a
end
abbrev mH:=List MV->MH->Option (MV×MH)
def Wl(K:Fg)(n:Nat)(F:mH):Sp:=λf H Q _=>∃b μ r μ' G c,fA K G c b f/\b.length=n/\iE K μ H G c/\F b μ=Y (r,μ')/\∀u e d a,eN G d->pj c a->iE K μ' e d a->gR K d a r u->Q u e
structure mM (P:Program) (w:World) (K:Fg) (mg:Str->Ow) (base:Heap) (x:Str) (k n:Nat) (F:mH):Prop where
 ex:∃a fd ps,kX P w K mg base uW k a fd ps (Wl K n F)/\mg x=Y (.ref a)/\W.keepIn K (.ref a)=true/\kG K fd ps []
structure ug (P:Program) (w:World) (K:Fg) (mg:Str->Ow) (base:Heap) (c:Str) (k n:Nat) (F:mH):Prop where
 ex:∃C a fd ps,jM K c C/\mg c=Y (.ref C)/\Mk K C a/\kX P w K mg base uW k a fd ps (Wl K n F)/\kG K fd ps []
structure sv (P:Program) (w:World) (K:Fg) (mg:Str->Ow) (base:Heap) (c m:Str) (k n:Nat) (F:mH):Prop where
 ex:∃C a fd ps,jM K c C/\GH K C/\GI K C m a/\kX P w K mg base uW k a fd ps (Wl K n F)/\kG K fd ps []
section
variable {a:Expr}{fb fc:c7->Od}{ma mb mc m:MF}{ff:MR->MH->Option (List MV×MH)}{ep fV:Pos}{gc:c7->Option Bool}{j k:Nat}{F:mH}
abbrev yJ:=MR->MH->Option (List MV×MH)
def eM:yJ:=λ_ μ=>Y ([],μ)
def fi:Q5 X [] eM:=PA.imp sM <| by rintro σ H Q ⟨ρ,μ,c,μ',G,b,a,e,k⟩;cases e;exact k [] H G b (.refl _) (.refl _) a fA.nil
noncomputable def dr(m:MF)(a:yJ):yJ:=λρ μ=>(m ρ μ).bind λr=>(a ρ r.2).map λq=>(r.1::q.1,q.2)
def en(p:PM X e m)(o:Q5 X es ff)(n:zE e es X:=by rfl):Q5 X (e::es) (dr m ff) :=
 PA.imp (oA p o n) <| by rintro σ H Q ⟨ρ,μ,D,μ',G,y,l,e,k⟩;obtain⟨⟨x,μ1⟩,w,v⟩:=bind_some e;obtain⟨⟨C,μ2⟩,t,s⟩:=aa.mp v;cases s;exact⟨ρ,μ,_,_,G,y,l,w,λu E B b h f r j=>⟨ρ,μ1,_,_,B,b,r,t,λg z A a d c q i=>k (u::g) z A a (h.trans d) (f.trans c) q (fA.cons (j.mono d.sim c) i)⟩⟩
def HC{ρ:MR}{μ μ':MH}{b:AL}{a:List MV}{v:MV}{Q:VK}{E:XK}(h:iQ K σ ρ μ H G b)(i:fA K G b a vs)(j:a.length=n)(e:F a μ=Y (v,μ'))(k:KM K σ ρ G b μ' v Q):Wl K n F vs H Q E :=
 ⟨a,μ,v,μ',G,b,i,j,h.h,e,λu m o c f d l g=>k u m o c f d (h.mono f.sim d l) g⟩
noncomputable def Mg(n:Nat)(F:mH)(a:yJ):MF:=λρ μ=>(a ρ μ).bind λr=>if r.1.length=n then F r.1 r.2 else Z
def nj(N:mM X.prog X.w X.K X.mg X.base x j n F) (o:iD k X.A) (t:Gl X x) (z:Q5 X (e::es) ff) (s:j<=k:=by decide) (f:zg x:=by decide)
  (u:zE e es X:=by rfl) (c:(backTo pos (starEach es X.env)).any (·.1)=false:=by rfl):PM X (.Call (.Name x p) (e::es) [] pos) (Mg n F ff):=by
 obtain⟨a,M,L,I,q,r,y⟩:=N.ex;refine PE.imp (xG (I.mono s) o t q r y .nil nS z f u c) ?_;rintro σ H Q ⟨ρ,μ,v,μ',G,E,m,e,k⟩;obtain⟨⟨g,μ1⟩,C,b⟩:=bind_some e;by_cases d:g.length=n
 ·simp only[ag d] at b;exact⟨ρ,μ,g,μ1,G,E,m,C,λJ O P D i h B l=>HC B (by rw[aM];exact l) d b (k.later i h)⟩
 ·simp only[aj d] at b;cases b
noncomputable def BF(c a:Str)(μ:MH):MV->Bool
 |.l k=>match μ[k]? with
  |some (.ins c' fs)=>decide (c'=c)&&(ud a fs).isNone
  |_=>false
 |_=>false
def EV{μ:MH}{s:AL}{c f:Str}{r:MV}(h:BF c f μ r=true)(B:iE K μ H G s)(i:gR K G s r v):∃p C E b,v=.ref p/\jM K c C/\H p=Y (.ins C E b)/\b.lookup f=Z:=by
 cases r with
 |l k=>
  unfold BF at h;dsimp only at h;split at h
  ·rename_i J b e;simp only[bD,cC,dJ] at h;obtain⟨rfl,d⟩:=h;obtain⟨a,D,rfl⟩:=gR.kA.mp i;obtain⟨L,C,o,n,m,u,j,_⟩:=B.ins e;rw[D] at n;cases n;refine⟨a.1,C,a.2,o,rfl,u,m,?_⟩;clear e m;induction b generalizing o with
   |nil=>rw[j.CY];rfl
   |cons y b A=>
    obtain⟨g,x⟩:=y;obtain⟨w,F,rfl,I,t⟩:=j.cases;by_cases q:g=f
    ·simp only[ud,ag q] at d;cases d
    ·simp only[ud,aj q] at d;rw[aW,aQ.mpr (λz=>q z.symm)];exact A d _ t
  ·cases h
 |_=>cases h
noncomputable def gg(c a:Str)(n:Nat)(F:mH)(m:MF)(b:yJ):MF:=λρ μ=>(m ρ μ).bind λr=>if BF c a r.2 r.1=true then (b ρ r.2).bind λq=>if q.1.length+1=n then F (r.1::q.1) q.2 else Z else Z
def gF{t c:Str}{pl:Sem Bool} (N:sv X.prog X.w X.K X.mg X.base t c j n F) (V:PM X o m) (U:iD k X.A) (ha:Q5 X (e::es) ff) (hj:j<=k:=by decide)
  (l:zE e es X:=by rfl) (q:(backTo pos (starEach es X.env)).any (·.1)=false:=by rfl)
  (T:eval (.Call (.Attribute o c apos) (e::es) [] pos) X.env=(do
   let ov <-eval o X.env
   standAt apos.atName
   let (f,first) <-holding [ov] (getMethod ov c pl)
   callWith pos f first (backTo pos (starEach (e::es) X.env)) (backToKw pos (keywordEach [] X.env))):=by rfl):PM X (.Call (.Attribute o c apos) (e::es) [] pos) (gg t c n F m ff):=by
 obtain⟨C,a,fd,ps,hC,s,W,Fn,b⟩:=N.ex;refine PE.imp (Ci (pl:=pl) V s W (Fn.mono hj) U b .nil nS ha l q T) ?_;rintro σ H Q ⟨ρ,μ,v,μ',G,as,S,e,k⟩;obtain⟨⟨x,μ1⟩,e1,g⟩:=bind_some e;by_cases i:BF t c μ1 x=true
 ·simp only[ag i] at g;obtain⟨⟨P,μ2⟩,e3,d⟩:=bind_some g;by_cases r:P.length+1=n
  ·simp only[ag r] at d;refine⟨ρ,μ,_,_,G,as,S,e1,λu H1 G1 y J I E D=>?_⟩;obtain⟨p,C',dx,fs,rfl,O,M,L⟩:=EV i E.h D;have:=O.uniq hC;subst this;exact⟨p,dx,fs,rfl,M,L,ρ,μ1,_,_,G1,y,E,e3,λus H2 G2 as2 B z h2 R=>HC h2 (by rw[aM];exact fA.cons (D.mono B.sim z) R) (by simpa using r) d (k.later (J.trans B) (I.trans z))⟩
  ·simp only[aj r] at d;cases d
 ·simp only[aj i] at g;cases g
def il{s c:Str}{pl:Sem Bool} (N:sv X.prog X.w X.K X.mg X.base s c j n F) (T:PM X o m) (S:iD k X.A) (V:j<=k:=by decide)
  (R:eval (.Call (.Attribute o c apos) [] [] pos) X.env=(do
   let ov <-eval o X.env
   standAt apos.atName
   let (f,first) <-holding [ov] (getMethod ov c pl)
   callWith pos f first (backTo pos (starEach [] X.env)) (backToKw pos (keywordEach [] X.env))):=by rfl):PM X (.Call (.Attribute o c apos) [] [] pos) (gg s c n F m eM):=by
 obtain⟨C,a,fd,ps,W,q,U,Fn,b⟩:=N.ex;refine PE.imp (Ed (pl:=pl) T q U (Fn.mono V) S b .nil nS R) ?_;rintro σ H Q ⟨ρ,μ,v,μ',G,as,P,e,k⟩;obtain⟨⟨x,μ1⟩,e1,g⟩:=bind_some e;by_cases i:BF s c μ1 x=true
 ·simp only[ag i] at g;obtain⟨⟨ms,μ2⟩,e3,d⟩:=bind_some g;cases e3;by_cases l:([]:List MV).length+1=n
  ·simp only[ag l] at d;refine⟨ρ,μ,_,_,G,as,P,e1,λu H1 G1 t I E r D=>?_⟩;obtain⟨p,C',dx,fs,rfl,M,L,J⟩:=EV i r.h D;have:=M.uniq W;subst this;exact⟨p,dx,fs,rfl,L,J,[x],μ1,v,μ',G1,t,fA.cons D fA.nil,by simpa using l,r.h,d,λu H' G' y B z h' O=>k u H' G' y (I.trans B) (E.trans z) (r.mono B.sim z h') O⟩
  ·simp only[aj l] at d;cases d
 ·simp only[aj i] at g;cases g
noncomputable def qN(c:Str)(n:Nat)(F:mH)(a:yJ):MF:=λρ μ=>(a ρ μ).bind λr=>if r.1.length+1=n then (F (.l r.2.length::r.1) (r.2++[.ins c []])).bind λq=>match q.1 with | .d .none=>Y (.l r.2.length,q.2)|_=>Z else Z
def NO{A:Str}{C:Addr} (P:jM K A C) {ρ:MR}{μ μ':MH}{c:AL}{m:List MV}{v:MV}{Q:VK}{E:XK} (s:iQ K σ ρ μ H G c) (i:fA K G c m vs) (O:m.length+1=n)
  (e:((F (.l μ.length::m) (μ++[.ins A []])).bind λq=>match q.1 with | .d .none=>Y (MV.l μ.length,q.2)|_=>Z)=Y (v,μ')) (k:KM K σ ρ G c μ' v Q):
  ∀x b,H x=Z->H b=Z->b≠x->Wl K n F (.ref x::(vs++[])) (upd (upd H b (.own x)) x (.ins C b [])) (λv H2=>v=.k9/\Q (.ref x) H2) E:=by
 intro x b M w t;obtain⟨⟨r,μ1⟩,T,z⟩:=bind_some e;have S:r=.d .none/\v=.l μ.length/\μ'=μ1:=by
  rcases r with r|_|_<;>try (cases z;done)
  cases r<;>first|(cases z;done)|skip
  cases z;exact⟨rfl,rfl,rfl⟩
 obtain⟨rfl,rfl,rfl⟩:=S;have f:c.length=μ.length:=by obtain⟨B,_,_,J⟩:=s.h.ex;exact J.len
 have N:=s.h.new (a:=(x,b)) (o:=.ins A []) (B':=[(x,.ins C b []),(b,.own x)]) ⟨C,[],rfl,P,lg.nil⟩ ⟨by simp[Ne.symm t],λy p=>by
  rcases ao.mp p with e|p
  ·rw[e];exact M
  ·have:y=(b,HO.own x):=by simpa using p
   rw[this];exact w,.ins .nil⟩
 have g:(c++[(x,b)])[μ.length]?=Y (x,b):=by rw[<-f];simp
 refine⟨_,_,_,_,G,c++[(x,b)],fA.cons (gR.kA.mpr ⟨(x,b),g,rfl⟩) (by rw[aM];exact i.mono (eN.refl G).sim pj.snoc),by simpa using O,N,T,λu U V D I j R L=>⟨eL.g9.mp (gR.gU.mp L),?_⟩⟩;exact k _ U V D I (pj.snoc.trans j) (s.mono I.sim (pj.snoc.trans j) R) (gR.kA.mpr ⟨(x,b),j _ _ g,rfl⟩)
def xO{c:Str} (N:ug X.prog X.w X.K X.mg X.base c j n F) (s:iD (k+1) X.A) (u:Gl X c) (y:Q5 X (e::es) ff) (t:j<=k:=by decide) (h:zg c:=by decide)
  (x:zE e es X:=by rfl) (f:(backTo pos (starEach es X.env)).any (·.1)=false:=by rfl):PM X (.Call (.Name c p) (e::es) [] pos) (qN c n F ff):=by
 obtain⟨C,a,P,O,z,o,M,J,b⟩:=N.ex;refine PE.imp (Cj M (J.mono t) s u o b .nil nS y h x f) ?_;rintro σ H Q ⟨ρ,μ,v,μ',G,I,r,e,k⟩;obtain⟨⟨i,μ1⟩,D,d⟩:=bind_some e;by_cases g:i.length+1=n
 ·simp only[ag g] at d;exact⟨ρ,μ,i,μ1,G,I,r,D,λL R S E m l B q=>NO z B q g d (k.later m l)⟩
 ·simp only[aj g] at d;cases d
def pI:MF:=λ_ μ=>Y (.l μ.length,μ++[.lst []])
def nk:PM X (.List [] pos) pI :=
 PE.imp (GN fi) <| by
  rintro σ H Q ⟨ρ,μ,v,μ',G,s,n,e,k⟩;cases e;refine⟨ρ,μ,[],μ,G,s,n,rfl,λt u g d j i c m=>?_⟩;rw[fA.eP.mp m];refine⟨cD _,λq p=>?_⟩;have b:d.length=μ.length:=by obtain⟨B,_,_,l⟩:=c.h.ex;exact l.len
  have r:=c.h.new (a:=(q,q)) (o:=.lst []) (B':=[(q,.lst [])]) ⟨[],rfl,fA.nil⟩ ⟨by simp,(λy f=>by simp at f;subst f;exact p),.one aI .nil⟩;exact k _ _ g _ j (i.trans pj.snoc) (c.mono (eN.refl g).sim pj.snoc r) (gR.kA.mpr ⟨(q,q),by rw[<-b];simp,rfl⟩)
def oM:MF:=λ_ μ=>Y (.l μ.length,μ++[.mJ []])
def nq:PM X (.Dict [] [] pos) oM :=
 PE.imp En <| by
  rintro σ H Q ⟨ρ,μ,v,μ',G,j,c,e,k⟩;cases e;intro q g;have b:j.length=μ.length:=by obtain⟨B,_,_,f⟩:=c.h.ex;exact f.len
  have i:=c.h.new (a:=(q,q)) (o:=.mJ []) (B':=[(q,.dK [])]) ⟨[],rfl,lg.nil⟩ ⟨by simp,(λy d=>by simp at d;subst d;exact g),.one aI .nil⟩;exact k _ _ G _ (.refl _) pj.snoc (c.mono (eN.refl G).sim pj.snoc i) (gR.kA.mpr ⟨(q,q),by rw[<-b];simp,rfl⟩)
noncomputable def K4(a:yJ):MF:=λρ μ=>(a ρ μ).bind λr=>if r.1.length<=sizeLine then Y (.t r.1,r.2) else Z
def HE{x1}(h:Q5 X es ff):PM X (.Tuple es x1 pos) (K4 ff) :=
 PE.imp (MI h) <| by
  rintro σ H Q ⟨ρ,μ,v,μ',G,y,s,e,k⟩;obtain⟨⟨i,μ1⟩,x,a⟩:=bind_some e;by_cases d:i.length<=sizeLine
  ·simp only[ag d] at a;cases a;refine⟨ρ,μ,i,_,G,y,s,x,λb A C g p x1 m j=>⟨by rw[<-j.length];exact d,λq t=>?_⟩⟩;obtain⟨n,c,l⟩:=m.h.grow (iF (o:=.tup b) t);have u:n q=Y (.tup b):=by
    obtain⟨B,w,f,r⟩:=l.ex;exact vr r.mG f (by rw[<-w];exact eR) (by intro _ z;cases z) (by intro _ z;cases z) (by intro _ _ _ z;cases z) (by intro _ z;cases z)
   exact k _ _ n g (p.trans c) x1 (m.mono c.sim (.refl _) l) (gR.wq.mpr ⟨q,b,rfl,.inl (.inl u),j.mono c.sim (.refl _)⟩)
  ·simp only[aj d] at a;cases a
end
inductive Q7 where
 |nx (ρ:MR) (μ:MH)
 |rt (v:MV) (μ:MH)
 |bk (ρ:MR) (μ:MH)
 |ct (ρ:MR) (μ:MH)
abbrev MS:=MR->MH->Option Q7
def NP(K:Fg)(G:Hp)(d:AL)(D:Ah):Q7->Prop
 |.nx ρ μ=>∀σ c b a,eN G b->pj d a->iQ K σ ρ μ c b a->D.nx σ c
 |.bk ρ μ=>∀σ c b a,eN G b->pj d a->iQ K σ ρ μ c b a->D.bk σ c
 |.ct ρ μ=>∀σ c b a,eN G b->pj d a->iQ K σ ρ μ c b a->D.ct σ c
 |.rt v μ=>∀u c b a,eN G b->pj d a->iE K μ c b a->gR K b a v u->D.rt u c
def NP.later{k:Hp}{j g:AL}{D:Ah}(e:eN G k)(x:pj j g):∀{o:Q7},NP K G j D o->NP K k g D o
 |.nx _ _,h=>λσ d f a c b q=>h σ d f a (e.trans c) (x.trans b) q
 |.bk _ _,h=>λσ d f a c b q=>h σ d f a (e.trans c) (x.trans b) q
 |.ct _ _,h=>λσ d f a c b q=>h σ d f a (e.trans c) (x.trans b) q
 |.rt _ _,h=>λu d f a c b q i=>h u d f a (e.trans c) (x.trans b) q i
def tU(K:Fg)(g:MS):TS:=λD σ H=>∃ρ μ o G a,iQ K σ ρ μ H G a/\g ρ μ=Y o/\NP K G a D o
def PU(X:Cx)(a:Stmt)(g:MS):Prop:=PS X a (tU X.K g)
def Jw(X:Cx)(a:List Stmt)(g:MS):Prop:=vV X a (tU X.K g)
section
variable {a:Expr}{fb fc:c7->Od}{ma mb mc m mo:MF}{ff:yJ}{ep fV:Pos}{rest:List Stmt}{g h:MS}{j k:Nat}{F:mH}
noncomputable def qu:MS:=λρ μ=>Y (.nx ρ μ)
def j5:Jw X [] qu:=vV.imp IS <| by rintro D σ H ⟨ρ,μ,o,G,b,a,e,k⟩;cases e;exact k σ H G b (.refl _) (.refl _) a
noncomputable def fe(g h:MS):MS:=λρ μ=>(g ρ μ).bind λo=>match o with
 |.nx ρ' μ'=>h ρ' μ'
 |o=>Y o
def ee(m:PU X st g)(l:Jw X rest h):Jw X (st::rest) (fe g h) :=
 vV.imp (D8 m l) <| by
  rintro D σ H ⟨ρ,μ,o,G,p,j,e,k⟩;obtain⟨d,n,a⟩:=bind_some e;refine⟨ρ,μ,d,G,p,j,n,?_⟩;cases d with
  |nx ρ' μ'=>exact λσ' r q c i f b=>⟨ρ',μ',o,q,c,b,a,k.later i f⟩
  |rt _ _=>cases a;exact k
  |bk _ _=>cases a;exact k
  |ct _ _=>cases a;exact k
def eG(a:PU X st g):Jw X [st] g:=vV.imp (IT a) λD σ H h=>h
noncomputable def vt(a:MR->MH->Option (Bool×MH))(g h:MS):MS:=λρ μ=>(a ρ μ).bind λr=>if r.1=true then g ρ r.2 else h ρ r.2
def kC{f d:List Stmt}(p:Q6 X c gc)(r:Jw X f g)(q:Jw X d h):PU X (.If c f d pos) (vt gc g h) :=
 PS.imp (Mv p r q) <| by
  rintro D σ H ⟨ρ,μ,o,G,t,n,e,k⟩;obtain⟨⟨y,μ1⟩,s,l⟩:=bind_some e;refine⟨ρ,μ,y,μ1,G,t,n,s,λu m a i b j=>?_⟩;cases y with
  |true=>rw[ag rfl];exact⟨ρ,μ1,o,m,a,j,l,k.later i b⟩
  |false=>rw[aj aB];exact⟨ρ,μ1,o,m,a,j,l,k.later i b⟩
def Jx:PU X (.Pass pos) qu:=PS.imp P2 <| by rintro D σ H ⟨ρ,μ,o,G,b,a,e,k⟩;cases e;exact k σ H G b (.refl _) (.refl _) a
def EW:PU X (.Continue pos) (λρ μ=>Y (.ct ρ μ)):=PS.imp D9 <| by rintro D σ H ⟨ρ,μ,o,G,b,a,e,k⟩;cases e;exact k σ H G b (.refl _) (.refl _) a
def CZ:MS:=λ_ _=>Z
def NQ:PU X st CZ:=PS.imp Ea <| by rintro D σ H ⟨ρ,μ,o,G,b,a,e,k⟩;cases e
def K5{l:List Stmt}:Jw X l CZ:=by intro a s σ H D I ⟨ρ,μ,o,G,c,b,e,k⟩;cases e
noncomputable def ju(m:MF)(i:Nat):MS:=λρ μ=>(m ρ μ).map λr=>.nx (ρ.set i (Y r.1)) r.2
def gC(i:Nat) {a:Pos} (q:X.N.Nodup) (p:PM X e m) (l:X.N[i]?=Y x:=by rfl) (g:IM X.env.scope x:=by first|exact bW rfl|exact bA rfl) (j:swapsWith e (Y (.Name x a)) pos.line X.env=pure false:=by rfl)
  (n:X.fn x=true\/X.env.scope.names.lookup x=Y .local:=by first|exact .inl rfl|exact .inr rfl|assumption):PU X (.Assign [.Name x a] e pos) (ju m i) :=
 PS.imp (Gx q l g p j n) <| by rintro D σ H ⟨ρ,μ,o,G,t,h,e,k⟩;obtain⟨⟨v,μ1⟩,s,rfl⟩:=aa.mp e;exact⟨ρ,μ,v,μ1,G,t,h,s,λu w y b d c r f=>k _ w y b d c (r.set f)⟩
noncomputable def gW(m:MF):MS:=λρ μ=>(m ρ μ).map λr=>.nx ρ r.2
def fU(h:PM X e m)(f:swapsWith e Z pos.line X.env=pure false:=by rfl):PU X (.Expr e pos) (gW m) :=
 PS.imp (ri h f) <| by rintro D σ H ⟨ρ,μ,o,G,j,d,e,k⟩;obtain⟨⟨v,μ1⟩,i,rfl⟩:=aa.mp e;exact⟨ρ,μ,v,μ1,G,j,d,i,λu l n a c b g p=>k _ l n a c b g⟩
noncomputable def sT(m:MF):MS:=λρ μ=>(m ρ μ).map λr=>.rt r.1 r.2
def mN(h:PM X e m):PU X (.Return (Y e) pos) (sT m) :=
 PS.imp (uZ h) <| by rintro D σ H ⟨ρ,μ,o,G,j,f,e,k⟩;obtain⟨⟨v,μ1⟩,i,rfl⟩:=aa.mp e;exact⟨ρ,μ,v,μ1,G,j,f,i,λu l n a c b g d=>k u l n a c b g.h d⟩
def Jy:PU X (.Return Z pos) (λ_ μ=>Y (.rt (.d .none) μ)):=PS.imp IU <| by rintro D σ H ⟨ρ,μ,o,G,b,a,e,k⟩;cases e;exact k .k9 H G b (.refl _) (.refl _) a.h (gR.gU.mpr (eL.g9.mpr rfl))
noncomputable def NR(c n:Str)(v:MV)(r:MV)(μ:MH):Option MH:=match r with
 |.l k=>(μ[k]?).bind λo=>match o with
  |.ins a fs=>if a=c/\fs.length<1000 then Y (μ.set k (.ins c (Ju n v fs))) else Z
  |_=>Z
 |_=>Z
def Jz{c n:Str}{v r:MV}{μ μ':MH}{f:AL}{uv i:V}(h:NR c n v r μ=Y μ')(x:iE K μ H G f)(u:gR K G f v uv)(w:gR K G f r i):
  ∃p C o e,i=.ref p/\H p=Y (.ins C o e)/\jM K c C/\e.length<1000/\iE K μ' (upd H p (.ins C o (lT n uv e))) G f:=by
 cases r with
 |l k=>
  obtain⟨t,A,b⟩:=bind_some h;cases t with
  |ins B e=>
   dsimp only at b;by_cases d:B=c/\e.length<1000
   ·rw[ag d] at b;cases b;obtain⟨rfl,d⟩:=d;obtain⟨a,z,rfl⟩:=gR.kA.mp w;obtain⟨D,C,y,m,s,q,j,g⟩:=x.ins A;rw[z] at m;cases m;exact⟨a.1,C,a.2,y,rfl,s,q,by rw[<-j.length];exact d,g _ _ (j.put u)⟩
   ·rw[aj d] at b;cases b
  |_=>cases b
 |_=>cases h
noncomputable def hY(c n:Str)(a m:MF):MS:=λρ μ=>(m ρ μ).bind λr=>(a ρ r.2).bind λq=>(NR c n r.1 q.1 q.2).map λμ'=>.nx ρ μ'
def gs{c n:Str}{a:Pos}(F:fQ X.K c n)(B:PM X o mo)(E:PM X e m)(A:swapsWith e (Y (.Attribute o n a)) pos.line X.env=pure false:=by rfl):PU X (.Assign [.Attribute o n a] e pos) (hY c n mo m) :=
 PS.imp (GJ B E A) <| by rintro D σ H ⟨ρ,μ,oo,G,U,z,e,k⟩;obtain⟨⟨v,μ1⟩,S,P⟩:=bind_some e;obtain⟨⟨r,μ2⟩,R,O⟩:=bind_some P;obtain⟨μ3,Q,rfl⟩:=aa.mp O;refine⟨ρ,μ,v,μ1,G,U,z,S,λW H1 V d q l I y=>⟨ρ,μ1,r,μ2,V,d,I,R,λur H2 j b g f i x=>?_⟩⟩;obtain⟨p,C,T,N,rfl,w,u,t,s⟩:=Jz Q i.h (y.mono g.sim f) x;obtain⟨C',M,L,J⟩:=F;have:=u.uniq M;subst this;exact⟨p,C,T,N,rfl,w,L,J,t,k _ _ j b (q.trans g) (l.trans f) (i.mono (eN.refl j).sim (.refl _) s)⟩
noncomputable def XF(v r:MV)(μ:MH):Option MH:=match r with
 |.l k=>(μ[k]?).bind λo=>match o with
  |.lst xs=>if xs.length<sizeLine then Y (μ.set k (.lst (xs++[v]))) else Z
  |_=>Z
 |_=>Z
noncomputable def BG(μ:MH):MV->Bool
 |.l k=>match μ[k]? with
  |some (.lst _)=>true
  |_=>false
 |_=>false
noncomputable def ko(a m:MF):MF:=λρ μ=>(a ρ μ).bind λr=>if BG r.2 r.1=true then (m ρ r.2).bind λq=>(XF q.1 r.1 q.2).map λμ'=>(.d .none,μ') else Z
def NS{r:MV}{μ:MH}{f:AL}{c:V}(h:BG μ r=true)(j:iE K μ H G f)(i:gR K G f r c):∃p b,c=.ref p/\H p=Y (.lst b):=by
 cases r with
 |l k=>
  unfold BG at h;dsimp only at h;split at h
  ·rename_i n e;obtain⟨a,m,rfl⟩:=gR.kA.mp i;obtain⟨o,b,d,g,_⟩:=j.lst e;rw[m] at d;cases d;exact⟨a.1,b,rfl,g⟩
  ·cases h
 |_=>cases h
def jW(ho:PM X o mo) (he:PM X e m) (i:starEach [e] X.env=(false,eval e X.env)::starEach [] X.env:=by rfl)
  (d:attributeBase o "append" X.env (eval o X.env)=eval o X.env:=by rfl)
  (j:((backTo fV (starEach [e] X.env)).all (λx=>!x.1)&&(backToKw fV (keywordEach [] X.env)).all (λx=>x.1.isSome)&&decide (([e]:Lx).length+([]:List Keyword).length+(if ([]:List Keyword).isEmpty then 0 else 1)<30))=true:=by rfl)
  (c:(apos.endLine==fV.line)=true:=by rfl) (b:(backTo fV (starEach [] X.env)).any (·.1)=false:=by rfl):
  PM X (.Call (.Attribute o "append" apos) [e] [] fV) (ko mo m) :=
 PE.imp (Bf bu PySem.F.slot_list_append PySem.F.type_list_append Bh ho (oA he sM i) d j c i b) <| by
  rintro σ H Q ⟨ρ,μ,v,μ',G,as,V,e,k⟩;obtain⟨⟨r,μ1⟩,e1,f⟩:=bind_some e;by_cases t:BG μ1 r=true
  ·simp only[ag t] at f;obtain⟨⟨y,μ2⟩,e2,eb⟩:=bind_some f;obtain⟨μ3,J,e4⟩:=aa.mp eb;cases e4;refine⟨ρ,μ,r,μ1,G,as,V,e1,λur H1 G1 w R M I D=>?_⟩;obtain⟨p,O,rfl,W⟩:=NS t I.h D;refine⟨.inl ⟨rfl,O,kQ.of W⟩,ρ,μ1,y,μ2,G1,w,I,e2,λP H2 K u A z E U=>?_⟩;have q:=D.mono A.sim z;cases r with
   |l kk=>
    obtain⟨T,e5,g⟩:=bind_some J;cases T with
    |lst L=>
     dsimp only at g;by_cases s:L.length<sizeLine
     ·rw[ag s] at g;cases g;obtain⟨a,f,er⟩:=gR.kA.mp q;cases er;obtain⟨a',N,C,S,B,n⟩:=E.h.lst e5;rw[f] at C;cases C;exact⟨a.1,N,P,rfl,rfl,S,by rw[<-B.length];exact s,k .k9 _ K u (R.trans A) (M.trans z) (E.mono (eN.refl K).sim (.refl _) (n _ _ (B.append (fA.cons U fA.nil)))) (gR.gU.mpr (eL.g9.mpr rfl))⟩
     ·rw[aj s] at g;cases g
    |_=>cases g
   |_=>cases J
  ·simp only[aj t] at f;cases f
end
section
variable {a:Expr}{ma mb mc m mo mk:MF}{ff:yJ}{ep fV:Pos}{rest:List Stmt}{g h:MS}{j k:Nat}{F:mH}
noncomputable def NT(b:MF):MF:=λρ μ=>(b ρ μ).bind λr=>match r.1 with
 |.l k=>(r.2[k]?).bind λa=>match a with
  |.lst xs=>(xs[xs.length - 1]?).map λv=>(v,r.2.set k (.lst xs.dropLast))
  |_=>Z
 |_=>Z
def C0(D:PM X o mo)(c:attributeBase o "pop" X.env (eval o X.env)=eval o X.env:=by rfl)(b:(apos.endLine==fV.line)=true:=by rfl):PM X (.Call (.Attribute o "pop" apos) [] [] fV) (NT mo) :=
 PE.imp (MU bu PySem.F.slot_list_pop PySem.F.type_list_pop MW D c b) <| by
  rintro σ H Q ⟨ρ,μ,v,μ',G,M,C,e,k⟩;obtain⟨⟨r,μ1⟩,L,s⟩:=bind_some e;refine⟨ρ,μ,r,μ1,G,M,C,L,λO S t g x w n B=>?_⟩;cases r with
  |l P=>
   obtain⟨z,K,q⟩:=bind_some s;cases z with
   |lst N=>obtain⟨y,J,I⟩:=aa.mp q;cases I;obtain⟨a,E,rfl⟩:=gR.kA.mp B;obtain⟨R,i,m,j,d,f⟩:=n.h.lst K;rw[E] at m;cases m;obtain⟨u,p,A⟩:=d.get J;rw[d.length] at p;exact⟨.inl ⟨rfl,i,kQ.of j⟩,a.1,i,u,rfl,rfl,j,p,k u _ t g x w (n.mono (eN.refl t).sim (.refl _) (f _ _ d.dropLast)) A⟩
   |_=>cases q
  |_=>cases s
def XG(a v r:MV)(μ:MH):Option MH:=match r with
 |.l n=>(μ[n]?).bind λb=>match b with
  |.lst xs=>match a with
   |.d (.int i)=>(Gu xs.length i).map λj=>μ.set n (.lst (xs.set j v))
   |_=>Z
  |.mJ kvs=>if kvs.length<sizeLine then ((uf a).bind o9).map λy=>μ.set n (.mJ (BE y v kvs)) else Z
  |_=>Z
 |_=>Z
def rR(a b m:MF):MS:=λρ μ=>(m ρ μ).bind λv=>(a ρ v.2).bind λr=>(b ρ r.2).bind λq=>(XG q.1 v.1 r.1 q.2).map λμ'=>.nx ρ μ'
def lX(E:X.A.units+64<cLine) {b:Pos} (ho:PM X o mo) (hk:PM X a mk) (he:PM X e m)
  (ha:∀v,assign (.Subscript o a b) X.env v=(do
   let ov <-holding [v] (eval o X.env);let iv <-holding [v,ov] (eval a X.env)
   standAt b
   holding [v,ov,iv] (setItem ov iv v)
   release [v,ov,iv] []):=by intro _;rfl)
  (hs:swapsWithSole [.Subscript o a b] e pos.line X.env=pure false:=by rfl) (hw:swappedStores [.Subscript o a b] e X.env=pure Z:=by rfl)
  (F:(assignEach [.Subscript o a b] X.env).map (·.2)=[assign (.Subscript o a b) X.env]:=by rfl):PU X (.Assign [.Subscript o a b] e pos) (rR mo mk m) :=
 PS.imp (My he (Mx ho hk (Cb.or Ei (Nn E)) ha) hs hw F) <| by
  rintro D σ H ⟨ρ,μ,oo,G,as,E,e,k⟩;obtain⟨⟨v,μ1⟩,e1,ea⟩:=bind_some e;obtain⟨⟨r,μ2⟩,e2,eb⟩:=bind_some ea;obtain⟨⟨t,μ3⟩,e3,ec⟩:=bind_some eb;obtain⟨μ4,P,rfl⟩:=aa.mp ec;refine⟨ρ,μ,v,μ1,G,as,E,e1,λuv H1 G1 K M L F i1=>⟨ρ,μ1,r,μ2,G1,K,F,e2,λur H2 G2 J y x h2 W=>⟨ρ,μ2,t,μ3,G2,J,h2,e3,λuk H3 w p s q u N=>?_⟩⟩⟩;have iv:=i1.mono (y.trans s).sim (x.trans q);have V:=W.mono s.sim q;cases r with
  |l n=>
   obtain⟨R,O,c⟩:=bind_some P;obtain⟨a,j,rfl⟩:=gR.kA.mp V;cases R with
   |lst xs=>
    rcases t with t|_|_<;>try (cases c;done)
    cases t with
    |int i=>obtain⟨U,I,rfl⟩:=aa.mp c;obtain⟨a',Q,g,z,f,d⟩:=u.h.lst O;rw[j] at g;cases g;exact .inl ⟨a.1,Q,i,U,rfl,eL.eW.mp (gR.gU.mp N),z,by rw[<-f.length];exact I,k _ _ w p (M.trans (y.trans s)) (L.trans (x.trans q)) (u.mono (eN.refl w).sim (.refl _) (d _ _ (f.set iv)))⟩
    |_=>cases c
   |mJ B=>
    dsimp only at c;by_cases C:B.length<sizeLine
    ·rw[ag C] at c;obtain⟨S,I,rfl⟩:=aa.mp c;obtain⟨dk,e8,e9⟩:=bind_some I;have:=gI e9;subst this;obtain⟨a',T,g,z,f,d⟩:=u.h.mJ O;rw[j] at g;cases g;exact .inr ⟨a.1,T,S,rfl,hV (gR.dat e8 N),z,by rw[<-f.length];exact C,k _ _ w p (M.trans (y.trans s)) (L.trans (x.trans q)) (u.mono (eN.refl w).sim (.refl _) (d _ _ (f.putK iv)))⟩
    ·rw[aj C] at c;cases c
   |_=>cases c
  |_=>cases P
noncomputable def UZ(μ:MH):MV->Bool
 |.l k=>match μ[k]? with
  |some (.mJ _)=>true
  |_=>false
 |_=>false
def S7(b c m:MF):MF:=λρ μ=>(b ρ μ).bind λr=>if UZ r.2 r.1=true then (c ρ r.2).bind λq=>(m ρ q.2).bind λw=>((uf q.1).bind o9).bind λy=>match r.1 with
 |.l n=>(w.2[n]?).bind λa=>match a with
  |.mJ kvs=>match yH y kvs with
   |some v=>Y (v,w.2.set n (.mJ (HB y kvs)))
   |none=>Y (w.1,w.2)
  |_=>Z
 |_=>Z else Z
def Q8(ho:PM X o mo)(hk:PM X a mk)(he:PM X e m)(M:M2 X o "pop" apos a e fV:=by exact⟨rfl,rfl,rfl,rfl⟩):PM X (.Call (.Attribute o "pop" apos) [a,e] [] fV) (S7 mo mk m) :=
 PE.imp (M5 ho hk he M) <| by
  rintro σ H Q ⟨ρ,μ,v,μ',G,as,hu,e,k⟩;obtain⟨⟨r,μ1⟩,e1,p⟩:=bind_some e;by_cases c:UZ μ1 r=true
  ·simp only[ag c] at p;obtain⟨⟨V,μ2⟩,e2,eb⟩:=bind_some p;obtain⟨⟨w,μ3⟩,e3,ec⟩:=bind_some eb;obtain⟨C,e4,ed⟩:=bind_some ec;obtain⟨dk,e8,e9⟩:=bind_some e4;have:=gI e9;subst this;refine⟨ρ,μ,r,μ1,G,as,hu,e1,λur H1 G1 K R O S i1=>?_⟩;cases r with
   |l nn=>
    obtain⟨a,i,rfl⟩:=gR.kA.mp i1;have F:Eo H1 a.1:=by
     unfold UZ at c;dsimp only at c;split at c
     ·rename_i D e;obtain⟨a',E,g,A,_⟩:=S.h.mJ e;rw[i] at g;cases g;exact .inl ⟨E,.inl A⟩
     ·cases c
    refine⟨a.1,rfl,F,ρ,μ1,V,μ2,G1,K,S,e2,λuk H2 G2 J P s h2 i2=>⟨ρ,μ2,w,μ3,G2,J,h2,e3,λT H3 L j u q I W=>?_⟩⟩;obtain⟨U,e5,d⟩:=bind_some ed;cases U with
    |mJ D=>
     obtain⟨a',E,g,A,x,B⟩:=I.h.mJ e5;rw[(s.trans q) _ _ i] at g;cases g;refine⟨E,C,A,hV ((gR.dat e8 i2).same u),λy n=>?_,λn=>?_⟩
     ·rcases x.val (k:=C) with ⟨f,b⟩ | ⟨z,t,f,b,N⟩
      ·rw[n] at b;cases b
      ·rw[n] at b;cases b;dsimp only at d;rw[f] at d;cases d;exact k y _ L j (R.trans (P.trans u)) (O.trans (s.trans q)) (I.mono (eN.refl L).sim (.refl _) (B _ _ x.drop)) N
     ·rcases x.val (k:=C) with ⟨f,b⟩ | ⟨z,t,f,b,N⟩
      ·dsimp only at d;rw[f] at d;cases d;exact k T H3 L j (R.trans (P.trans u)) (O.trans (s.trans q)) I W
      ·rw[n] at b;cases b
    |_=>cases d
   |_=>cases c
  ·simp only[aj c] at p;cases p
noncomputable def JA(c n:Str)(a:Int->Int->Int)(e m:MF):MS:=λρ μ=>(e ρ μ).bind λr=>match r.1 with
 |.l k=>(r.2[k]?).bind λb=>match b with
  |.ins f fs=>if f=c then (ud n fs).bind λy=>(m ρ r.2).bind λq=>match y,q.1 with
   |.d (.int i),.d (.int j)=>(NR c n (.d (.int (a i j))) (.l k) q.2).map λμ'=>.nx ρ μ'
   |_,_=>Z else Z
  |_=>Z
 |_=>Z
theorem K6{c n:Str}{d:Pos}{B:Operator}{g:Int->Int->Int}(hC:fQ X.K c n)(ho:PM X o mo)(he:PM X e m)(j:Wf X B (WD g)):PU X (.AugAssign (.Attribute o n d) B e pos) (JA c n g mo m) :=
 PS.imp (Kq ho he j) <| by
  rintro D σ H ⟨ρ,μ,oo,G,as,hu,e,k⟩;obtain⟨⟨r,μ1⟩,e1,M⟩:=bind_some e;cases r with
  |l kk=>
   obtain⟨ob,e2,b⟩:=bind_some M;cases ob with
   |ins c' fs=>
    dsimp only at b;by_cases p:c'=c
    ·rw[ag p] at b;subst p;obtain⟨y,e3,ec⟩:=bind_some b;obtain⟨⟨q,μ2⟩,e4,f⟩:=bind_some ec;refine⟨ρ,μ,_,μ1,G,as,hu,e1,λur H1 G1 v T S J F=>?_⟩;obtain⟨a,t,rfl⟩:=gR.kA.mp F;obtain⟨a',C,fv,A,W,U,V,_⟩:=J.h.ins e2;rw[t] at A;cases A;obtain⟨C',L,g2,g3⟩:=hC;have:=U.uniq L;subst this;obtain⟨w,l,iw⟩:=V.look e3;refine⟨a.1,C,a.2,fv,w,rfl,W,g2,g3,l,ρ,μ1,q,μ2,G1,v,J,e4,λuq H2 N u z x I i2=>?_⟩;rcases y with y|_|_<;>try (cases f;done)
     cases y with
     |int i=>
      rcases q with q|_|_<;>try (cases f;done)
      cases q with
      |int E=>obtain⟨μ4,e6,rfl⟩:=aa.mp f;refine⟨i,E,eL.eW.mp (gR.gU.mp iw),eL.eW.mp (gR.gU.mp i2),?_⟩;obtain⟨p',C2,dx,s,er,R,Q,P,O⟩:=Jz (K:=X.K) e6 I.h (uv:=.int (g i E)) (gR.gU.mpr (eL.eW.mpr rfl)) (F.mono z.sim x);cases er;have:=Q.uniq L;subst this;exact⟨dx,s,R,P,k _ _ N u (T.trans z) (S.trans x) (I.mono (eN.refl N).sim (.refl _) O)⟩
      |_=>cases f
     |_=>cases f
    ·rw[aj p] at b;cases b
   |_=>cases b
  |_=>cases M
end
section
variable {G' H':Hp}{as ET:AL}{μ μ':MH}{ρ:MR}
noncomputable def xP:MR->List Nat->List MV->MR
 |ρ,i::is,v::vs=>xP (ρ.set i (Y v)) is vs
 |ρ,_,_=>ρ
noncomputable def C1:Tg->MV->MR->Option MR
 |.one i,v,ρ=>Y (ρ.set i (Y v))
 |.many is,.t xs,ρ=>if xs.length=is.length then Y (xP ρ is xs) else Z
 |.many is,.d (.tuple ds),ρ=>if ds.length=is.length then Y (xP ρ is (ds.map .d)) else Z
 |_,_,_=>Z
theorem iQ.vd:∀{is:List Nat}{σ:St}{ρ:MR}{b:List MV}{a:List V},iQ K σ ρ μ H G as->fA K G as b a->iQ K (xK σ is a) (xP ρ is b) μ H G as
 |[],σ,ρ,b,a,h,_=>by cases b<;>cases a<;>exact h
 |i::is,σ,ρ,[],a,h,d=>by rw[fA.eP.mp d];exact h
 |i::is,σ,ρ,m::b,a,h,ds=>by obtain⟨v,r,rfl,e,c⟩:=fA.eF.mp ds;exact iQ.vd (is:=is) (h.set e) c
def uh(h:ez K G ds vs):fA K G as (ds.map .d) vs:=by
 induction ds generalizing vs with
 |nil=>rw[ez.eP.mp h];exact fA.nil
 |cons d ds a=>obtain⟨v,r,rfl,i,t⟩:=ez.eF.mp h;exact fA.cons (gR.gU.mpr i) (a t)
def iQ.bind{ρ':MR}{f:Tg}{m:MV}{Q:St->Hp->Prop}(h:iQ K σ ρ μ H G as)(i:gR K G as m v)(e:C1 f m ρ=Y ρ')(k:∀σ',iQ K σ' ρ' μ H G as->Q σ' H):gT K f v σ H Q:=by
 cases f with
 |one j=>cases e;exact k _ (h.set i)
 |many is=>
  rcases m with d|_|xs
  ·cases d with
   |tuple l=>
    dsimp only[C1] at e;by_cases a:l.length=is.length
    ·rw[ag a] at e;cases e;obtain⟨p,c,rfl,g,b⟩:=(gR.gU.mp i).gP;exact⟨p,c,rfl,h.h.sub.rL g,by rw[<-b.length];exact a,k _ (h.vd (uh b))⟩
    ·rw[aj a] at e;cases e
   |_=>cases e
  ·cases e
  ·dsimp only[C1] at e;by_cases a:xs.length=is.length
   ·rw[ag a] at e;cases e;obtain⟨p,c,rfl,g,b⟩:=gR.wq.mp i;exact⟨p,c,rfl,h.h.sub.rL g,by rw[<-b.length];exact a,k _ (h.vd b)⟩
   ·rw[aj a] at e;cases e
noncomputable def nr(a:MV->MR->Option MR)(g:MS):List MV->MS
 |[],ρ,μ=>Y (.nx ρ μ)
 |m::ms,ρ,μ=>((a m ρ).bind λρ1=>g ρ1 μ).bind λo=>match o with
  |.nx ρ' μ'=>nr a g ms ρ' μ'
  |.ct ρ' μ'=>nr a g ms ρ' μ'
  |.bk ρ' μ'=>Y (.nx ρ' μ')
  |.rt v μ'=>Y (.rt v μ')
def C3(K:Fg)(J:It)(f:List MV)(G:Hp)(g:AL):Prop :=
 ∀b,eN G b->J.stop f.length b/\∀(i:Nat) (m:MV),f[i]?=Y m->J.go i b/\∀x d,J.Me i b x d->eN b d/\∀e c,eN G e->pj g c->(∀a,b a=Z->e a=d a)->gR K e c m x
def pa.u{J:It}(w:pa K J ds G):C3 K J (ds.map .d) G as:=λH' s'=>by obtain⟨f,e⟩:=w H' s';refine⟨by simpa using f,λi m q=>?_⟩;rw[ay] at q;obtain⟨d,j,rfl⟩:=aa.mp q;obtain⟨c,a⟩:=e i d j;exact⟨c,λx b y=>⟨(a x b y).1,λl k g _ h=>gR.gU.mpr ((a x b y).2 l g h)⟩⟩
def rA{J:It}{t:Tg}{c:List MV}{g:MS}{o:Q7}{D:Ah}(w:C3 K J c G as)(h1:iQ K σ ρ μ H G as)(e2:nr (C1 t) g c ρ μ=Y o)(k:NP K G as D o):
  ∃W:Nat->Nat->St->Hp->Prop,(∃n,W 0 n σ H)/\∀i n σ H,W i n σ H ->
   (J.stop i H/\D.nx σ H)\/(J.go i H/\∃N:St->Hp->Prop,(∀σ' d,N σ' d->∃R,R<n/\W (i+1) R σ' d)/\∀x d,J.Me i H x d->gT K t x σ d λσ2 P=>tU K g { D with nx:=N,ct:=N,bk:=D.nx } σ2 P):=by
 refine⟨λi n σ' d=>n=c.length - i/\i<=c.length/\∃ρ' μ' F b,eN G F/\pj as b/\iQ K σ' ρ' μ' d F b/\nr (C1 t) g (c.drop i) ρ' μ'=Y o,⟨c.length,by simp,cD _,ρ,μ,G,as,.refl _,.refl _,h1,by simpa using e2⟩,?_⟩;rintro i n σ' d ⟨rfl,hi,ρ',μ',F,b,B,s,f,z⟩;obtain⟨w1,w2⟩:=w d (B.trans f.h.sub);by_cases p:i<c.length
 ·right;have hd:c[i]?=Y c[i]:=aN p;obtain⟨X,V⟩:=w2 i _ hd;rw[bJ p] at z;unfold nr at z;obtain⟨Q,e4,C⟩:=bind_some z;obtain⟨ρ1,e6,e7⟩:=bind_some e4;refine⟨X,λσ3 S=>∃ρ3 μ3 E j,eN G E/\pj as j/\iQ K σ3 ρ3 μ3 S E j/\nr (C1 t) g (c.drop (i+1)) ρ3 μ3=Y o,by rintro σ3 S ⟨ρ3,μ3,E,j,s3,U,h3,O⟩;exact⟨c.length - (i+1),by omega,rfl,p,ρ3,μ3,E,j,s3,U,h3,O⟩,λx P y=>?_⟩;obtain⟨r1,r2⟩:=V x P y;obtain⟨T,I,g2,M⟩:=f.h.Jv r1;have L:=f.mono I.sim (.refl _) M;have i4:=r2 T b (B.trans I) s g2;refine iQ.bind L i4 e6 λσ5 h5=>⟨ρ1,μ',Q,T,b,h5,e7,?_⟩
  have e:=B.trans I;cases Q with
  |nx ρ3 μ3=>exact λσ6 A r a m l q=>⟨ρ3,μ3,r,a,e.trans m,s.trans l,q,C⟩
  |ct ρ3 μ3=>exact λσ6 A r a m l q=>⟨ρ3,μ3,r,a,e.trans m,s.trans l,q,C⟩
  |bk ρ3 μ3=>cases C;exact λσ6 A r a m l q=>k σ6 A r a (e.trans m) (s.trans l) q
  |rt v μ3=>cases C;exact λu A r a m l q i6=>k u A r a (e.trans m) (s.trans l) q i6
 ·have O:i=c.length:=by omega
  subst O;rw[dY] at z;cases z;exact .inl ⟨w1,k σ' d F b B s f⟩
def iE.tell{u e:HO}(h:iE K μ H G as)(i:G a=Y u)(k:Hz u kv)(f:Hz e kv):iE K μ (upd H a e) (upd G a e) as:=by
 obtain⟨B,rfl,d,j⟩:=h.ex;have g:∀x∈B,x.1≠a:=λx c z=>by have:=d.free x c;rw[z,i] at this;cases this
 refine⟨⟨B,?_,⟨d.nd,λx c=>by rw[eI (g x c)];exact d.free x c,d.ok⟩,j.mono (ES i k f) (.refl _)⟩⟩
 funext b
 rcases oF (a:=b) B with ⟨x,c,rfl⟩|h'
 ·rw[fL d.nd x c,eI (g x c),fL d.nd x c]
 ·rw[fX h'];unfold upd;split
  ·rfl
  ·rw[fX h']
theorem iQ.tell{a:Addr}{d:List (Key×V)}{u c:HO}(h:iQ K σ ρ μ H G as)(f:G a=Y u)(e:Hz u d)(b:Hz c d):iQ K σ ρ μ (upd H a c) (upd G a c) as:=h.mono (ES f e b) (.refl _) (h.h.tell f e b)
end
section
variable {a:Expr}{fs:c7->Option Lp}{ma mb mc m mo mk:MF}{ff:yJ}{ep fV:Pos}{rest:List Stmt}{g h:MS}{j k:Nat}{F:mH}
def XH(X:Cx)(g b:Expr)(q:yJ):Prop:=PI X g b (λσ H R=>∃ρ μ d μ' G e,iQ X.K σ ρ μ H G e/\q ρ μ=Y (d,μ')/\∀J f c a,eN G c->pj e a->iQ X.K σ ρ μ' f c a->C3 X.K J d c a->R J f)
noncomputable def C4(q:c7->Option Lp):yJ:=λρ μ=>(q (wO ρ)).map λa=>(a.map .d,μ)
def C5{a:Expr}(g:Wi X tg a q):XH X tg a (C4 q) :=
 PI.imp (PI.frame g) <| by rintro σ H R ⟨ρ,μ,r,μ',G,o,c,e,k⟩;obtain⟨n,m,l⟩:=aa.mp e;cases l;obtain⟨B,j,i,f⟩:=c.h.ex;exact⟨G,B,j,i,wO ρ,n,c.dat,m,λJ p b w d=>k J _ p o b (.refl _) (c.mono b.sim (.refl _) ⟨B,rfl,d,f.mono b.sim (.refl _)⟩) w.u⟩
noncomputable def NU(m:MF):yJ:=λρ μ=>(m ρ μ).bind λr=>match r.1 with
 |.d (.list ds)=>Y (ds.map .d,r.2)
 |_=>Z
def JB(h:PM X e m):XH X tg e (NU m) :=
 PI.imp (Cd h) <| by
  rintro σ H R ⟨ρ,μ,I,μ',G,D,A,e,k⟩;obtain⟨⟨r,μ1⟩,C,f⟩:=bind_some e;refine⟨ρ,μ,r,μ1,G,D,A,C,λu E F g s o l x=>?_⟩;rcases r with d|_|_<;>try (cases f;done)
  cases d with
  |list J=>cases f;obtain⟨q,a,rfl,b,j⟩:=eL.fh.mp (gR.gU.mp x);refine⟨q,rfl,⟨a,l.h.sub.seq b⟩,k _ E F g s o l (pa.u λL c=>⟨⟨a,c.seq b,by rw[j.length];exact az _⟩,λi d w=>?_⟩)⟩;obtain⟨y,n,B⟩:=j.get w;refine⟨⟨a,y,c.seq b,n⟩,?_⟩;rintro z K ⟨v,t⟩;have:=t a (c.seq b);rw[n] at this;cases this;subst v;exact⟨.refl _,λM p _=>B.same p⟩
  |_=>cases f
def vu(q:yJ)(t:Tg)(g:MS):MS:=λρ μ=>(q ρ μ).bind λr=>nr (C1 t) g r.1 ρ r.2
def qO{a:Expr}{t:Tg}{q:yJ} (i:PassesOwn (model X.prog X.w) X.A X.env X.xe) (m:X.calm=true) (j:XH X tg a q) (l:PG X tg (gT X.K t)) (n:Jw X body g)
  (h:∀x,foldedSetIterable a X.env x=pure x:=by intro _;rfl):PU X (.For tg a body [] pos) (vu q t g) :=
 PS.imp (GC i m j l n h) <| by rintro D σ H ⟨ρ,μ,o,G,v,f,e,k⟩;obtain⟨⟨d,μ1⟩,s,r⟩:=bind_some e;exact⟨ρ,μ,d,μ1,G,v,f,s,λJ y z u c b p w=>rA w p r (k.later c b)⟩
def EX(m:MF)(t:Tg)(g:MS):MS:=λρ μ=>(m ρ μ).bind λr=>match r.1 with
 |.d (.dict kvs)=>if gE kvs=true then Z else (nr (C1 t) g (kvs.map λx=>.d x.1) ρ r.2).bind λo=>match o with
  |.nx ρ' μ'=>Y (.nx ρ' μ')
  |_=>Z
 |_=>Z
def JC{i:Expr}{t:Tg} (hp:PassesOwn (model X.prog X.w) X.A X.env X.xe) (hc:X.calm=true) (hi:PM X i m) (hg:PG X tg (gT X.K t)) (z:Jw X body g)
  (hs:∀x,foldedSetIterable i X.env x=pure x:=by intro _;rfl):PU X (.For tg i body [] pos) (EX m t g) :=
 PS.imp (Q4 (GC hp hc (Q3 hi) hg z hs)) <| by
  rintro D σ H ⟨ρ,μ,o,G,as,W,e,k⟩;obtain⟨⟨r,μ1⟩,e1,p⟩:=bind_some e;rcases r with d|_|_<;>try (cases p;done)
  obtain⟨c,rfl⟩:∃c,d=.dict c:=by cases d<;>first|exact⟨_,rfl⟩|cases p
  dsimp only at p;by_cases n:gE c=true
  ·rw[ag n] at p;cases p
  rw[aj n] at p;obtain⟨R,N,e4⟩:=bind_some p;obtain⟨ρN,μN,rfl,rfl⟩:∃ρN μN,R=.nx ρN μN/\o=.nx ρN μN:=by cases R<;>cases e4;exact⟨_,_,rfl,rfl⟩
  have em:(c.map λx=>MV.d x.1)=(c.map (·.1)).map .d:=by simp
  rw[em] at N;refine⟨ρ,μ,.d (.dict c),μ1,G,as,W,e1,λv H1 J as1 Q P y U=>?_⟩;obtain⟨a,l,rfl,f,S⟩:=(gR.gU.mp U).mT (by simpa using n);refine⟨a,l,rfl,y.h.sub.rd f,λj E=>?_,λj E V=>?_⟩
  ·have F:J a=Y (.tE j (.dK l)):=by
    rcases f with f | ⟨o,f⟩
    ·have:=y.h.sub _ _ f;rw[E] at this;cases this
    ·have:=y.h.sub _ _ f;rw[E] at this;cases this;exact f
   exact rA (wo F S).u y N λσ' T O s C L I=>.inl (k σ' T O s (Q.trans C) (P.trans L) I)
  ·have F:J a=Y (.dK l):=by
    rcases f with f | ⟨o,f⟩
    ·exact f
    ·have:=y.h.sub _ _ f;rw[E] at this;cases this
   refine rA (wo (G:=upd J a (.tE j (.dK l))) eR S).u (y.tell F (.inl rfl) (.inr ⟨j,rfl⟩)) N λσ' T O s C L I=>.inr ?_;have B:=C _ _ (eR (H:=J) (a:=a) (o:=.tE j (.dK l)));refine⟨a,j,l,I.h.sub _ _ B,V,k σ' _ (upd O a (.dK l)) s (λb o q=>?_) (P.trans L) (I.tell B (.inr ⟨j,rfl⟩) (.inl rfl))⟩;have M:=Q b o q;by_cases z:b=a
   ·subst z;rw[F] at M;cases M;exact eR
   ·rw[eI z];exact C b o (by rw[eI z];exact M)
noncomputable def EY(m:MF):MR->MH->Option (Bool×MH):=λρ μ=>(m ρ μ).bind λr=>match r.1 with
 |.d (.bool b)=>Y (b,r.2)
 |_=>Z
def JD(h:PM X e m)(l:∀whole,isTrue e X.env whole=(do let v <-whole;standAt e.pos;holding [v] (truthy v)):=by intro _;rfl):Q6 X e (EY m) :=
 PT.imp (x3 h l) <| by
  rintro σ H Q ⟨ρ,μ,b,μ',G,p,j,e,k⟩;obtain⟨⟨r,μ1⟩,o,a⟩:=bind_some e;refine⟨ρ,μ,r,μ1,G,p,j,o,λu q s c g f n i=>?_⟩;rcases r with d|_|_<;>try (cases a;done)
  cases d with
  |bool t=>cases a;rw[eL.fz.mp (gR.gU.mp i)];exact⟨b,rfl,k q s c g f n⟩
  |_=>cases a
noncomputable def S8(a:MR->MH->Option (Bool×MH)):MR->MH->Option (Bool×MH):=λρ μ=>(a ρ μ).map λr=>(!r.1,r.2)
def Q9(h:Q6 X a gc):Q6 X (.UnaryOp .Not a pos) (S8 gc) :=
 PT.imp (Gw h) <| by rintro σ H Q ⟨ρ,μ,b,μ',G,m,g,e,k⟩;obtain⟨⟨y,μ1⟩,l,j⟩:=aa.mp e;cases j;exact⟨ρ,μ,y,μ1,G,m,g,l,λn o c f d i=>k n o c f d i⟩
noncomputable def jC(a:MR->MH->Option (Bool×MH))(g:MS):Nat->MS
 |0,_,_=>Z
 |n+1,ρ,μ=>(a ρ μ).bind λr=>if r.1=true then (g ρ r.2).bind λo=>match o with
  |.nx ρ' μ'=>jC a g n ρ' μ'
  |.ct ρ' μ'=>jC a g n ρ' μ'
  |.bk ρ' μ'=>Y (.nx ρ' μ')
  |.rt v μ'=>Y (.rt v μ')
  else Y (.nx ρ r.2)
def yK(a:MR->MH->Option (Bool×MH))(g:MS):MS:=jC a g Jk
def EZ(T:PassesOwn (model X.prog X.w) X.A X.env X.xe)(U:Q6 X c gc)(V:Jw X body g):PU X (.While c body [] pos) (yK gc g) :=
 PS.imp (Eb T U V) <| by
  rintro D σ H ⟨ρ,μ,o,G,C,S,e,k⟩;refine⟨λn σ' O=>∃ρ' μ' x f,eN G x/\pj C f/\iQ X.K σ' ρ' μ' O x f/\jC gc g n ρ' μ'=Y o,⟨Jk,ρ,μ,G,C,.refl _,.refl _,S,e⟩,?_⟩;rintro n σ' O ⟨ρ',μ',x,f,I,E,z,B⟩;cases n with
  |zero=>cases B
  |succ n=>
   unfold jC at B;obtain⟨⟨y,μ1⟩,e2,t⟩:=bind_some B;refine⟨ρ',μ',y,μ1,x,f,z,e2,λH1 Q p J F M=>?_⟩;cases y with
   |true=>
    simp only[b8] at t;obtain⟨L,W,s⟩:=bind_some t;have d:=I.trans J;have b:=E.trans F;rw[ag rfl];refine⟨λσ3 N=>∃ρ3 μ3 P m,eN G P/\pj C m/\iQ X.K σ3 ρ3 μ3 N P m/\jC gc g n ρ3 μ3=Y o,λσ3 N q=>⟨n,cF n,q⟩,ρ',μ1,L,Q,p,M,W,?_⟩;cases L with
    |nx ρ3 μ3=>exact λσ6 r l a i h j=>⟨ρ3,μ3,l,a,d.trans i,b.trans h,j,s⟩
    |ct ρ3 μ3=>exact λσ6 r l a i h j=>⟨ρ3,μ3,l,a,d.trans i,b.trans h,j,s⟩
    |bk ρ3 μ3=>cases s;exact λσ6 r l a i h j=>k σ6 r l a (d.trans i) (b.trans h) j
    |rt v μ3=>cases s;exact λu r l a i h j R=>k u r l a (d.trans i) (b.trans h) j R
   |false=>simp only[bM,dE] at t;cases t;rw[aj aB];exact k σ' H1 Q p (I.trans J) (E.trans F) M
end
def sU(N:Lr)(a:List MV):MR:=a.map Y++List.replicate (N.length - a.length) Z
def yL{b:AL}{μ:MH}{N:Lr}{a:List MV}(i:fA K G b a vs)(h:iE K μ H G b):iQ K (lh N vs) (sU N a) μ H G b:=by
 have d:=i.length;refine⟨h,by simp[lh,sU,d],λj m q=>?_⟩;unfold sU at q;by_cases c:j<a.length
 ·rw[aT (by simpa using c),ay] at q;obtain⟨l,k,g⟩:=aa.mp q;cases g;obtain⟨v,f,e⟩:=i.get k;refine⟨v,?_,e⟩;unfold lh;rw[aT (by simp;omega),ay,f];rfl
 ·rw[aK (by simpa using c),bt] at q;split at q<;>cases q
noncomputable def ji(N:Lr)(g:MS):mH:=λa μ=>(g (sU N a) μ).bind λo=>match o with
 |.rt v μ'=>Y (v,μ')
 |.nx _ μ'=>Y (.d .none,μ')
 |_=>Z
noncomputable def BH(N:Lr)(g:MS):Lp->Od:=λa=>(g (sU N (a.map .d)) []).bind λo=>match o with
 |.rt v μ'=>kB μ' 9 v
 |.nx _ _=>Y .none
 |_=>Z
def iE.empty:iE K [] H H []:=⟨[],rfl,j4.nil,rfl,rfl⟩
section
variable {P:Program}{w:World}{base:Heap}{qual:Str}{fa:Addr}{N ps:Lr}{k:Nat}{g:MS}
theorem C6(F:Jb K x qual st fa fd) (S:iy N ps (eV st)) (B:n=ps.length)
  (a:∀(qe:Value) (A:Around) (outer:List Env) (s:Shared) (H:Hp) (E:XK),iD k (A.deeper (envOfC qual (eV st) (zB s) fa qe)) ->
   Jw (u5 uW P w K mg base N qual (eV st) fa qe A outer s H E).Mt (jc st) g):kX P w K mg base uW (k+1) fa fd ps (Wl K n (ji N g)):=by
 refine F.ok S (by rintro vs H Q E ⟨q,μ,r,μ',G,t,i,l,_⟩;rw[<-i.length,l,B]) ?_;rintro qe A outer s H vs Q E z ⟨q,μ,r,μ',G,t,i,l,C,e,k⟩;refine⟨_,a qe A outer s H E z,?_⟩;obtain⟨o,D,c⟩:=bind_some e;refine⟨sU N q,μ,o,G,t,yL i C,D,?_⟩;cases o with
 |rt v μ1=>cases c;exact λu m p b f d j y=>k u m p b f d j y
 |nx ρ' μ1=>cases c;exact λσ m p b f d j=>k .k9 m p b f d j.h (gR.gU.mpr (eL.g9.mpr rfl))
 |bk _ _=>cases c
 |ct _ _=>cases c
theorem NV(F:Jb K x qual st fa fd) (S:iy N ps (eV st)) (y:n=ps.length)
  (a:∀(qe:Value) (A:Around) (outer:List Env) (s:Shared) (H:Hp) (E:XK),iD k (A.deeper (envOfC qual (eV st) (zB s) fa qe)) ->
   Jw (u5 uW P w K mg base N qual (eV st) fa qe A outer s H E).Mt (jc st) g):kX P w K mg base uW (k+1) fa fd ps (SU K n (BH N g)):=by
 refine F.ok S (by rintro vs H Q E ⟨p,d,i,l,_⟩;rw[<-i.length,l,y]) ?_;rintro qe A outer s H vs Q E t ⟨p,d,i,l,e,k⟩;refine⟨_,a qe A outer s H E t,?_⟩;obtain⟨o,z,c⟩:=bind_some e;refine⟨sU N (p.map .d),[],o,H,[],yL (uh i) iE.empty,z,?_⟩;cases o with
 |rt v μ1=>exact λu m B j f q b r=>k u m (f.trans b.sub) (n6 b 9 v d u c r)
 |nx ρ' μ1=>cases c;exact λσ m B j f q b=>k .k9 m (f.trans b.h.sub) (eL.g9.mpr rfl)
 |bk _ _=>cases c
 |ct _ _=>cases c
abbrev JE(P:Program)(w:World)(K:W.Frag)(f:Str->Option Value)(c:Heap)(q:Str)(d:Stmt)(N:List Str)(k:Nat)(g:MS):Prop :=
 ∀{e:Addr}{b:Value}{A:Around}{a:List Env}{s:Shared}{H:Hp}{E:XK},iD k (A.deeper (envOfC q (eV d) (zB s) e b))->(A.deeper (envOfC q (eV d) (zB s) e b)).units+64<cLine->N.Nodup ->
  Jw (u5 uW P w K f c N q (eV d) e b A a s H E).Mt (jc d) g
variable {c m q:Str}
theorem jD(F:gB K mg x st) (e:JE P w K mg base x st N k g) (S:iy N (N.take n) (eV st):=by exact⟨rfl,rfl,rfl,by decide +kernel,rfl,by decide +kernel,by decide +kernel⟩) (d:n=(N.take n).length:=by rfl)
  (j:K1 x x st (N.take n):=by intro _ _ _ _ _ _;(repeat' intro _);exact rfl):mM P w K mg base x (k+1) n (ji N g):=by
 obtain⟨a,h,f,F⟩:=F;exact⟨a,h,N.take n,C6 F S d λi A b s H E c=>e c c.units S.nd,f,F.kp,j.to F⟩
theorem JF(F:gB K mg x st) (e:JE P w K mg base x st N k g) (S:iy N (N.take n) (eV st):=by exact⟨rfl,rfl,rfl,by decide +kernel,rfl,by decide +kernel,by decide +kernel⟩) (d:n=(N.take n).length:=by rfl)
  (j:K1 x x st (N.take n):=by intro _ _ _ _ _ _;(repeat' intro _);exact rfl):qE P w K mg base x (k+1) n (BH N g):=by
 obtain⟨a,h,f,F⟩:=F;exact⟨a,h,N.take n,NV F S d λi A b s H E c=>e c c.units S.nd,f,F.kp,j.to F⟩
def pJ(F:wM K mg c q st) (f:JE P w K mg base q st N k g) (S:iy N (N.take n) (eV st):=by exact⟨rfl,rfl,rfl,by decide +kernel,rfl,by decide +kernel,by decide +kernel⟩) (e:n=(N.take n).length:=by rfl)
  (m:K1 "__init__" q st (N.take n):=by intro _ _ _ _ _ _;(repeat' intro _);exact rfl):ug P w K mg base c (k+1) n (ji N g):=by
 obtain⟨C,a,h,j,i,M,F⟩:=F;exact⟨C,a,h,N.take n,j,i,M,C6 F S e λl A b s H E d=>f d d.units S.nd,m.to F⟩
def sV(F:n5 K c m q st) (f:JE P w K mg base q st N k g) (S:iy N (N.take n) (eV st):=by exact⟨rfl,rfl,rfl,by decide +kernel,rfl,by decide +kernel,by decide +kernel⟩) (e:n=(N.take n).length:=by rfl)
  (o:K1 m q st (N.take n):=by intro _ _ _ _ _ _;(repeat' intro _);exact rfl):sv P w K mg base c m (k+1) n (ji N g):=by
 obtain⟨C,a,h,j,i,M,F⟩:=F;exact⟨C,a,h,N.take n,j,i,M,C6 F S e λl A b s H E d=>f d d.units S.nd,o.to F⟩
end
section
variable {j k:Nat}{F:mH}
def sW(c:Str)(n:Nat)(F:mH)(b:c7->Option Lp):c7->Od:=λρ=>(b ρ).bind λa=>if a.length+1=n then (F (.l 0::a.map .d) [.ins c []]).bind λq=>match q.1 with
 |.d .none=>kB q.2 9 (.l 0)
 |_=>Z else Z
def E1{f:Str} (N:ug X.prog X.w X.K X.mg X.base f j n F) (R:iD (k+1) X.A) (U:Gl X f) (W:Bm X (e::es) ff) (T:j<=k:=by decide) (s:zg f:=by decide)
  (V:zE e es X:=by rfl) (i:(backTo pos (starEach es X.env)).any (·.1)=false:=by rfl):PD X (.Call (.Name f p) (e::es) [] pos) (sW f n F ff):=by
 obtain⟨C,a,fd,ps,hC,I,M,Fn,b⟩:=N.ex;refine PE.imp (Cj M (Fn.mono T) R U I b .nil nS W s V i) ?_;rintro σ H Q ⟨ρ,d,P,e,k⟩;obtain⟨z,e1,g⟩:=bind_some e;by_cases m:z.length+1=n
 ·rw[ag m] at g;refine⟨ρ,z,P,e1,λvs B E J x c O q l=>?_⟩;obtain⟨⟨r,μ1⟩,e3,t⟩:=bind_some g;rcases r with r|_|_<;>try (cases t;done)
  cases r<;>try (cases t;done)
  have S:=(iE.empty (K:=X.K) (H:=B)).new (a:=(x,c)) (o:=.ins f []) (B':=[(x,.ins C c []),(c,.own x)]) ⟨C,[],rfl,hC,lg.nil⟩ ⟨by simp[Ne.symm l],λy h=>by
   rcases ao.mp h with e|h
   ·rw[e];exact O
   ·have:y=(c,HO.own x):=by simpa using h
    rw[this];exact q,.ins .nil⟩
  refine⟨_,_,_,_,B,[(x,c)],fA.cons (gR.kA.mpr ⟨(x,c),rfl,rfl⟩) (by rw[aM];exact uh J),by simpa using m,S,e3,λu H' G' ET G D v L=>⟨eL.g9.mp (gR.gU.mp L),?_⟩⟩;exact k _ H' (E.trans (G.trans v.sub)) (n6 v 9 _ _ _ t (gR.kA.mpr ⟨(x,c),D _ _ rfl,rfl⟩))
 ·rw[aj m] at g;cases g
end
def pK{α:Type}(y:Str):List (Str×α)->Option α
 |[]=>Z
 | (z,v)::r=>if z=y then Y v else pK y r
structure yM (P:Program) (w:World) (K:Fg) (mg:Str->Ow) (x:Str) (l:List (Str×Str)):Prop where
 ex:∃(a:Addr) (vs:List (Key×Value)),mg x=Y (.ref a)/\(a==sysModules)=false/\(∀h:Heap,K.In h->h.DictOf (fG P w) a vs)/\(∀i,valueAt vs (.inl i)=Z) /\
  ∀y:Str,(pK y l=Z/\valueAt vs (.inr y)=Z)\/∃fn fa,pK y l=Y fn/\valueAt vs (.inr y)=Y (.ref fa)/\mg fn=Y (.ref fa)
def U0{P:Program}{w:World}{l:List (Str×Tok×Addr×Str)} (p:mg x=Y (.ref a)) (s:(a==sysModules)=false)
  (g:K.lookup a=Y { cls:=.type "dict",data:=.dict (l.map λq=>KZ w.params q.1 q.2.1 (.ref q.2.2.1)).toArray n }) (d:(l.map (·.1)).Nodup) (f:∀q∈l,mg q.2.2.2=Y (.ref q.2.2.1)):
  yM P w K mg x (l.map λq=>(q.1,q.2.2.2)):=by
 refine⟨a,l.map λq=>(.inr q.1,.ref q.2.2.1),p,s,λh A=>?_,λi=>?_,λy=>?_⟩
 ·refine⟨_,_,n,A a _ g,⟨rfl,rfl,rfl⟩,rfl,λe r=>?_,?_,?_⟩
  ·have j:e∈l.map λq=>KZ w.params q.1 q.2.1 (.ref q.2.2.1):=by simpa using r
   obtain⟨q,_,rfl⟩:=aP.mp j;exact⟨.inr q.1,mu P w q.1 q.2.1,wj w q.1⟩
  ·have:∀l:List (Str×Tok×Addr×Str),Pairs (fG P w) (l.map λq=>KZ w.params q.1 q.2.1 (.ref q.2.2.1)) (l.map λq=>((.inr q.1:Key),Value.ref q.2.2.1)):=by
    intro l;induction l with
    |nil=>exact .nil
    |cons q l c=>exact .cons (mu P w q.1 q.2.1) rfl c
   simpa using this l
  ·rw[cX];have:((λx:Key×Value=>x.1)∘λq:Str×Tok×Addr×Str=>((.inr q.1:Key),Value.ref q.2.2.1))=(λz:Str=>(.inr z:Key))∘(·.1):=rfl;rw[this,<-cX];exact dO _ (λa b h z=>h (by injection z)) d
 ·clear g d f;induction l with
  |nil=>rfl
  |cons q l c=>simpa [valueAt] using c
 ·clear g d;induction l with
  |nil=>exact .inl ⟨rfl,rfl⟩
  |cons q l c=>
   by_cases e:q.1=y
   ·exact .inr ⟨q.2.2.2,q.2.2.1,by simp[pK,e],by simp[valueAt,e],f q (by simp)⟩
   ·rcases c λq o=>f q (ah _ o) with ⟨m,k⟩ | ⟨t,u,m,k,v⟩
    ·exact .inl ⟨by simp[pK,e,m],by simpa [valueAt,e] using k⟩
    ·exact .inr ⟨t,u,by simp[pK,e,m],by simpa [valueAt,e] using k,v⟩
section
variable {a i:Expr}{mi:MF}{ff:yJ}{sp:Pos}{j k:Nat}
noncomputable def NW(l:List (Str×Str))(k:eD):Od:=match k with
 |.str y=>Y (.bool (pK y l).isSome)
 |_=>Z
def K7{l:List (Str×Str)}(J:yM X.prog X.w X.K X.mg x l)(F:Gl X x)(G:PD X a fa)(E:behindInMarks .In (.Name x p)=false:=by with_unfolding_all rfl)(c:zg x:=by decide):Bl X (.Compare a [.In] [.Name x p] pos) (fB (λρ=>(fa ρ).bind (NW l))):=by
 obtain⟨o,r,O,N,M,_,L⟩:=J.ex;have C:lQ X (compareOp .In) (λy z H Q=>∃k:Key,y=kV k/\z=.ref o/\Q (.bl (valueAt r k).isSome) H):=by intro m s σ H y z v u Q I B A ⟨k,j,h,q⟩;subst j h;cases A;exact wpAny_in_of (lR B) N (M s.heap I.xC).mapOf ⟨.bl _,H,I.tok _,rfl,q⟩
 refine PT.imp (xE C G (xD (v:=.ref o) F O rfl c) E) ?_;rintro σ H Q ⟨ρ,d,D,j,k⟩;obtain⟨y,h,n⟩:=bind_some (xI j);obtain⟨z,rfl⟩:∃z,y=.str z:=by cases y<;>first|exact⟨_,rfl⟩|cases n
 cases n;refine⟨ρ,_,D,h,λv P t i=>⟨.inr z,eL.ft.mp i,rfl,?_⟩⟩;have b:=k P t;rcases L z with ⟨g,e⟩ | ⟨fn,f,g,e,g3⟩
 ·rw[g] at b;rw[e];exact⟨_,rfl,b⟩
 ·rw[g] at b;rw[e];exact⟨_,rfl,b⟩
noncomputable def S9(n:Nat)(a:List (Str×Str×mH))(b:MF)(c:yJ):MF:=λρ μ=>(b ρ μ).bind λr=>match r.1 with
 |.d (.str y)=>(pK y a).bind λF=>(c ρ r.2).bind λq=>if q.1.length=n then F.2 q.1 q.2 else Z
 |_=>Z
def K8{c:List (Str×Str×mH)}{y:Str}{F:Str×mH}(h:pK y c=Y F):pK y (c.map λq=>(q.1,q.2.1))=Y F.1/\(y,F)∈c:=by
 induction c with
 |nil=>cases h
 |cons q t d=>
  unfold pK at h;by_cases e:q.1=y
  ·rw[ag e] at h;cases h;exact⟨by simp[pK,e],by rw[<-e];simp⟩
  ·rw[aj e] at h;obtain⟨a,b⟩:=d h;exact⟨by simp[pK,e,a],ah _ b⟩
def Ra{c:List (Str×Str×mH)} (hC:yM X.prog X.w X.K X.mg x (c.map λq=>(q.1,q.2.1))) (hF:∀q∈c,mM X.prog X.w X.K X.mg X.base q.2.1 j n q.2.2) (hr:iD k X.A) (hg:Gl X x) (hi:PM X i mi) (ha:Q5 X (e::es) ff) (hj:j<=k:=by decide)
  (C:Ek i:=by exact λ_ _=>rfl) (L:zg x:=by decide) (he:zE e es X:=by rfl) (D:(backTo pos (starEach es X.env)).any (·.1)=false:=by rfl)
  (ht:eval (.Call (.Subscript (.Name x p) i sp) (e::es) [] pos) X.env=(do callWith pos (<-eval (.Subscript (.Name x p) i sp) X.env) [] (backTo pos (starEach (e::es) X.env)) (backToKw pos (keywordEach [] X.env))):=by rfl):
  PM X (.Call (.Subscript (.Name x p) i sp) (e::es) [] pos) (S9 n c mi ff):=by
 obtain⟨ad,vs,M,S,h3,_,h4⟩:=hC.ex;intro b s σ H Q I ⟨ρ,μ,v,μ',G,U,hu,e1,k⟩;obtain⟨⟨r,μ1⟩,e2,N⟩:=bind_some e1;rcases r with r|_|_<;>try (cases N;done)
 cases r with
 |str y=>
  obtain⟨F,e4,e5⟩:=bind_some N;obtain⟨⟨P,μ2⟩,e6,m⟩:=bind_some e5;by_cases J:P.length=n
  ·simp only[ag J] at m;obtain⟨R,l2⟩:=K8 e4;rcases h4 y with ⟨g,_⟩ | ⟨fn,f,g,g2,g3⟩
   ·rw[R] at g;cases g
   rw[R] at g;cases g;obtain⟨T,fd,ps,Fn,hm,hk,hb⟩:=(hF _ l2).ex;have ef:T=f:=by have:(Value.ref T)=.ref f:=a7 (hm.symm.trans g3);cases this;rfl
   subst ef;refine Call_ (Cr PySem.F.slot_dict_getitem.lookup C (oz I hg M (gS (@hi b s σ H (λu H1=>∃d a,eN G d/\pj U a/\iQ X.K σ ρ μ1 H1 d a/\u=.str y) I ⟨ρ,μ,_,_,G,U,hu,e2,λu H1 d a l z M i1=>⟨d,a,l,z,M,eL.ft.mp (gR.gU.mp i1)⟩⟩) ?_) L)) ht;rintro iv t ⟨u,H1,o,r1,d,a,l,z,B,eu⟩;subst eu;have h:=h3 t.heap o.xC;refine⟨h.typeIs,?_⟩;refine dX (lR (k:=.inr y) r1) h.mapOf g2 ?_;have I2:=o.tok (t.toks+1);refine W.callWith_K (h₀:=X.base) o.ok.mod.TR hk (gS (@ha pos b _ σ H1 _ (o.tok _) ⟨ρ,μ1,P,μ2,d,a,B,e6,λO H2 G2 as2 s2 x2 S i2=>HC (E:=λ_ _ _=>False) S (vs:=O++[]) (by rw[aM];exact i2) J m (k.later (l.trans s2) (z.trans x2))⟩) ?_) he D;rintro O l ⟨ws,H2,V,rr,q⟩;refine⟨V.xC,?_⟩;exact x8 (Fn.mono hj) hr hb .nil nS V rr q
  ·simp only[aj J] at m;cases m
 |_=>cases N
end
section
variable {a i:Expr}{rest:Lx}{g:eD->eD->Od}{ma mb mc m mo mk:MF}{ff:yJ}{sp:Pos}{ga gb:MR->MH->Option (Bool×MH)}{j k:Nat}
def Zc(r q:MV)(μ:MH):Option MV:=match r with
 |.l n=>match μ[n]? with
  |some (.lst xs)=>match q with
   |.d (.int i)=>tJ xs i
   |_=>Z
  |some (.mJ kvs)=>((uf q).bind o9).bind λy=>yH y kvs
  |_=>Z
 |.t xs=>match q with
  |.d (.int i)=>tJ xs i
  |_=>Z
 |.d (.list ds)=>match q with
  |.d (.int i)=>(tJ ds i).map .d
  |_=>Z
 |.d (.tuple ds)=>match q with
  |.d (.int i)=>(tJ ds i).map .d
  |_=>Z
 |.d (.dict kvs)=>if gE kvs=true then Z else (uf q).bind λy=>(o9 y).bind λ_=>(kM y kvs).map .d
 |_=>Z
def Av(b a:MF):MF:=λρ μ=>(b ρ μ).bind λr=>(a ρ r.2).bind λq=>(Zc r.1 q.1 q.2).map λv=>(v,q.2)
def xQ{as:AL}{a:List MV}{i:Int}{m:MV}(h:fA K G as a vs)(e:tJ a i=Y m):∃v,tJ vs i=Y v/\gR K G as m v:=by obtain⟨j,f,d⟩:=bind_some e;obtain⟨v,c,b⟩:=h.get d;exact⟨v,by show (Gu vs.length i).bind _=_;rw[<-h.length,f];exact c,b⟩
def JG{i:Int}(e:tJ ds i=Y d):tJ (ds.map MV.d) i=zd d:=by obtain⟨j,b,a⟩:=bind_some e;show (Gu (ds.map MV.d).length i).bind _=_;rw[aL,b];show (ds.map MV.d)[j]?=_;rw[ay,a];rfl
def k5(R:X.A.units+64<cLine)(ha:PM X a ma)(hb:PM X b mb)(hs:tK b:=by exact λ_ _=>rfl)(hs2:Ek b:=by exact λ_ _=>rfl):PM X (.Subscript a b pos) (Av ma mb) :=
 PE.imp (PE.or (PE.or (MP I7 ha hb hs) (MP MQ ha hb hs)) (Jc (by omega) ha hb hs2)) <| by
  rintro σ H Q ⟨ρ,μ,v,μ',G,as,R,e,k⟩;obtain⟨⟨r,μ1⟩,W,e2⟩:=bind_some e;obtain⟨⟨q,μ2⟩,U,e4⟩:=bind_some e2;obtain⟨y,f,e6⟩:=aa.mp e4;cases e6;have M:∀{i:Int}{K:Fg}{G:Hp}{as:AL}{u:V},gR K G as (.d (.int i)) u->u=.int i:=λh=>eL.eW.mp (gR.gU.mp h);unfold Zc at f;cases r with
  |l nn=>
   dsimp only at f;split at f
   ·rename_i xs N;split at f
    ·rename_i i;refine .inl (.inl ⟨ρ,μ,_,_,G,as,R,W,λu H1 L j x s F E=>⟨ρ,μ1,_,_,L,j,F,U,λw I J c n m o D=>?_⟩⟩);obtain⟨a,ea,rfl⟩:=gR.kA.mp (E.mono n.sim m);obtain⟨a',O,q1,C,B,_⟩:=o.h.lst N;rw[ea] at q1;cases q1;obtain⟨t,g,P⟩:=xQ B f;exact⟨a.1,O,_,t,rfl,M D,kQ.of C,g,k t I J c (x.trans n) (s.trans m) o P⟩
    ·cases f
   ·rename_i kvs N;obtain⟨ky,e8,e9⟩:=bind_some f;obtain⟨dk,T,g⟩:=bind_some e8;have:=gI g;subst this;refine .inr ⟨ρ,μ,_,_,G,as,R,W,λu H1 L j x s F E=>⟨ρ,μ1,_,_,L,j,F,U,λw I J c n m o D=>?_⟩⟩;obtain⟨a,ea,rfl⟩:=gR.kA.mp (E.mono n.sim m);obtain⟨a',kv,q1,C,B,_⟩:=o.h.mJ N;rw[ea] at q1;cases q1;rcases B.val (k:=ky) with ⟨p,_⟩ | ⟨z,t,p,z2,z3⟩
    ·rw[e9] at p;cases p
    ·rw[e9] at p;cases p;rw[hV (gR.dat T D)];exact⟨a.1,t,rfl,by rw[<-z2];exact pw.k C,k t I J c (x.trans n) (s.trans m) o z3⟩
   ·cases f
  |t xs=>
   dsimp only at f;split at f
   ·refine .inl (.inr ⟨ρ,μ,_,_,G,as,R,W,λu H1 L j x s F E=>⟨ρ,μ1,_,_,L,j,F,U,λw I J c n m o D=>?_⟩⟩);obtain⟨q,O,rfl,C,B⟩:=gR.wq.mp (E.mono n.sim m);obtain⟨t,g,P⟩:=xQ B f;exact⟨q,O,_,t,rfl,M D,o.h.sub.rL C,g,k t I J c (x.trans n) (s.trans m) o P⟩
   ·cases f
  |d dd=>
   cases dd with
   |list ds=>
    dsimp only at f;split at f
    ·obtain⟨z,N,rfl⟩:=aa.mp f;refine .inl (.inl ⟨ρ,μ,_,_,G,as,R,W,λu H1 L j x s F E=>⟨ρ,μ1,_,_,L,j,F,U,λw I J c n m o D=>?_⟩⟩);obtain⟨q,O,rfl,C,B⟩:=eL.fh.mp (gR.gU.mp (E.mono n.sim m));obtain⟨t,g,P⟩:=xQ (uh (as:=c) B) (JG N);exact⟨q,O,_,t,rfl,M D,o.h.sub.seq C,g,k t I J c (x.trans n) (s.trans m) o P⟩
    ·cases f
   |tuple ds=>
    dsimp only at f;split at f
    ·obtain⟨z,N,rfl⟩:=aa.mp f;refine .inl (.inr ⟨ρ,μ,_,_,G,as,R,W,λu H1 L j x s F E=>⟨ρ,μ1,_,_,L,j,F,U,λw I J c n m o D=>?_⟩⟩);obtain⟨q,O,rfl,C,B⟩:=(gR.gU.mp (E.mono n.sim m)).gP;obtain⟨t,g,P⟩:=xQ (uh (as:=c) B) (JG N);exact⟨q,O,_,t,rfl,M D,o.h.sub.rL C,g,k t I J c (x.trans n) (s.trans m) o P⟩
    ·cases f
   |dict kvs=>
    dsimp only at f;by_cases S:gE kvs=true
    ·rw[ag S] at f;cases f
    rw[aj S] at f;obtain⟨dk,N,e8⟩:=bind_some f;obtain⟨ky,e9,T⟩:=bind_some e8;obtain⟨z,g,rfl⟩:=aa.mp T;have:=gI e9;subst this;refine .inr ⟨ρ,μ,_,_,G,as,R,W,λu H1 L j x s F E=>⟨ρ,μ1,_,_,L,j,F,U,λw I J c n m o D=>?_⟩⟩;obtain⟨q,kv,rfl,C,B⟩:=(gR.gU.mp (E.mono n.sim m)).mT (by simpa using S);rcases B.val (y:=ky) with ⟨p,_⟩ | ⟨d',t,p,z2,z3⟩
    ·rw[g] at p;cases p
    ·rw[g] at p;cases p;rw[hV (gR.dat N D)];exact⟨q,t,rfl,by rw[<-z2];exact pw.r (o.h.sub.rd C),k t I J c (x.trans n) (s.trans m) o (gR.gU.mpr z3)⟩
   |_=>cases f
noncomputable def m2(g:eD->eD->Od)(b a:MF):MF:=λρ μ=>(b ρ μ).bind λr=>(a ρ r.2).bind λq=>(uf r.1).bind λx=>(uf q.1).bind λy=>(g x y).map λd=>(.d d,q.2)
noncomputable def Rb(n:Nat)(f:Lp->Od)(b:yJ):MF:=λρ μ=>(b ρ μ).bind λr=>(yI r.1).bind λa=>if a.length=n then (f a).map λd=>(.d d,r.2) else Z
def HF(m:MF):yJ:=λρ μ=>(m ρ μ).bind λr=>match r.1 with
 |.d (.list ds)=>Y ((qL ds).map .d,r.2)
 |_=>Z
def NX{a:Lx}{q:Nat}{n:Pos}(x:Gl X "enumerate")(w:X.mg "enumerate"=Z)(h:PM X e m)(v:starEach [e] X.env=[(false,eval e X.env)]:=by rfl):XH X (.Tuple a q n) (.Call (.Name "enumerate" p) [e] [] pos) (HF m) :=
 PI.imp (Jp x w h v) <| by
  rintro σ H R ⟨ρ,μ,D,μ',G,A,t,e,k⟩;obtain⟨⟨r,μ1⟩,z,b⟩:=bind_some e;refine⟨ρ,μ,r,μ1,G,A,t,z,λu B C c o i f s=>?_⟩;rcases r with d|_|_<;>try (cases b;done)
  cases d with
  |list E=>cases b;obtain⟨l,j,rfl,g,y⟩:=eL.fh.mp (gR.gU.mp s);exact⟨l,j,rfl,f.h.sub.seq g,k _ B C c o i f (wh g y).u⟩
  |_=>cases b
noncomputable def Ta(m:MF):MF:=λρ μ=>(m ρ μ).bind λr=>match r.1 with
 |.l n=>match r.2[n]? with
  |some (.lst xs)=>(yI xs).map λa=>(.d (.list a),r.2)
  |_=>Z
 |_=>Z
def Rc(E:Gl X "list")(C:X.mg "list"=Z)(h:PM X e m)(q:starEach [e] X.env=(false,eval e X.env)::starEach [] X.env:=by rfl)(f:(backTo pos (starEach [] X.env)).any (·.1)=false:=by rfl):PM X (.Call (.Name "list" p) [e] [] pos) (Ta m) :=
 PE.imp (u6 tL E C (by rfl) (en h fi q) (by decide) (by decide) q f) <| by
  rintro σ H Q ⟨ρ,μ,v,μ',G,N,B,e,k⟩;obtain⟨⟨r,μ1⟩,M,b⟩:=bind_some e;refine⟨ρ,μ,[r],μ1,G,N,B,by show (m ρ μ).bind _=_;rw[M];rfl,λR W G1 i t s g A=>?_⟩;obtain⟨u,S,rfl,z,y⟩:=fA.eF.mp A;rw[fA.eP.mp y];cases r with
  |l T=>
   dsimp only at b;split at b
   ·rename_i P L;obtain⟨U,K,J⟩:=aa.mp b;cases J;obtain⟨a,I,rfl⟩:=gR.kA.mp z;obtain⟨V,c,j,x,w,_⟩:=g.h.lst L;rw[I] at j;cases j;refine⟨a.1,c,rfl,.inl (kQ.of x),λl n=>?_⟩;obtain⟨O,d,F,D⟩:=g.h.Jv (iF (o:=.lst c) n);exact k _ _ O i (t.trans d) s (g.mono d.sim (.refl _) D) (gR.gU.mpr (eL.fh.mpr ⟨l,c,rfl,kQ.of (by rw[F l n];exact eR),(fA.dat K w).same d⟩))
   ·cases b
  |_=>cases b
end
section
variable {a i:Expr}{rest:Lx}{m:MF}{sp:Pos}{ga gb:MR->MH->Option (Bool×MH)}
def Zd(X:Cx)(e:Expr)(f:MR->MH->Option (Bool×MH)):Prop:=PW X e (λσ H Q=>∃ρ μ b μ' G c,iQ X.K σ ρ μ H G c/\f ρ μ=Y (b,μ')/\∀d g a,eN G g->pj c a->iQ X.K σ ρ μ' d g a->Q b d)
def XI(h:Zd X e ga):Q6 X e ga:=h.pt
def NY(h:Q6 X a ga):Zd X (.BoolOp .And [a] pos) ga:=IQ h
noncomputable def Tb(b a:MR->MH->Option (Bool×MH)):MR->MH->Option (Bool×MH):=λρ μ=>(b ρ μ).bind λr=>if r.1=true then a ρ r.2 else Y (false,r.2)
def Rf(p:Q6 X a ga)(o:Zd X (.BoolOp .And (b::rest) pos) gb):Zd X (.BoolOp .And (a::b::rest) pos) (Tb ga gb) :=
 PW.imp (Mr p o) <| by
  rintro σ H Q ⟨ρ,μ,y,μ',G,s,n,e,k⟩;obtain⟨⟨z,μ1⟩,r,i⟩:=bind_some e;refine⟨ρ,μ,z,μ1,G,s,n,r,λu j c g f h=>?_⟩;cases z with
  |true=>rw[ag rfl];exact⟨ρ,μ1,y,μ',j,c,h,i,λt v d m l q=>k t v d (g.trans m) (f.trans l) q⟩
  |false=>rw[aj aB];cases i;exact k u j c g f h
noncomputable def XJ(a:Nat)(b:Int->Int->Int)(m:MF):MS:=λρ μ=>(ρ[a]?).join.bind λy=>(m ρ μ).bind λq=>match y,q.1 with
 |.d (.int i),.d (.int j)=>Y (.nx (ρ.set a (zd (.int (b i j)))) q.2)
 |_,_=>Z
def U1(c:Nat) {a:Pos}{f:Operator}{g:Int->Int->Int} (z:X.N.Nodup) (r:Wf X f (WD g)) (w:PM X e m) (s:X.N[c]?=Y x:=by rfl) (p:IM X.env.scope x:=by first|exact bW rfl|exact bA rfl)
  (t:X.fn x=true\/X.env.scope.names.lookup x=Y .local:=by first|exact .inl rfl|exact .inr rfl|assumption):PU X (.AugAssign (.Name x a) f e pos) (XJ c g m) :=
 PS.imp (Mz z s p w r t) <| by
  rintro D σ H ⟨ρ,μ,L,G,J,h,e,k⟩;obtain⟨y,I,B⟩:=bind_some e;obtain⟨⟨q,μ1⟩,F,b⟩:=bind_some B;rcases y with y|_|_<;>try (cases b;done)
  cases y with
  |int i=>
   rcases q with q|_|_<;>try (cases b;done)
   cases q with
   |int j=>cases b;obtain⟨v,E,C⟩:=h.loc c _ (join_some I);refine⟨v,E,ρ,μ,_,_,G,J,h,F,λu M K d n l A o=>⟨i,j,eL.eW.mp (gR.gU.mp C),eL.eW.mp (gR.gU.mp o),?_⟩⟩;exact k _ _ K d n l (A.set (gR.gU.mpr (eL.eW.mpr rfl)))
   |_=>cases b
  |_=>cases b
end
def mM.up{P:Program}{w:World}{b:Heap}{k c:Nat}{F:mH}(h:mM P w K mg b x k n F)(e:k<=c):mM P w K mg b x c n F:=by obtain⟨a,f,d,g,r⟩:=h.ex;exact⟨a,f,d,g.mono e,r⟩
section
variable {a:Expr}
def BI(a:List (eD×eD))(k:eD):Od:=(o9 k).map λ_=>.bool (!(kM k a).isSome)
theorem HG(F:ly X.prog X.w X.K X.mg x kvs)(D:Gl X x)(E:PD X a fa)(C:behindInMarks .NotIn (.Name x p)=false:=by with_unfolding_all rfl)(c:zg x:=by decide):Bl X (.Compare a [.NotIn] [.Name x p] pos) (fB (λρ=>(fa ρ).bind (BI kvs))):=by
 obtain⟨m,n,M,L,J,G⟩:=F.ex;have A:lQ X (compareOp .NotIn) (λy z H Q=>∃k:Key,y=kV k/\z=.ref m/\Q (.bl (!(valueAt n k).isSome)) H):=by intro j s σ H y z v u Q I t r ⟨k,h,g,q⟩;subst h g;cases r;exact wpAny_notIn_of (lR t) L (J s.heap I.xC).mapOf ⟨.bl _,H,I.tok _,rfl,q⟩
 refine PT.imp (xE A E (xD (v:=.ref m) D M rfl c) C) ?_;rintro σ H Q ⟨ρ,d,B,h,k⟩;obtain⟨y,g,P⟩:=bind_some (xI h);obtain⟨l,O,N⟩:=aa.mp P;have:=gI O;subst this;refine⟨ρ,_,B,g,λv R o i=>⟨l,hV i,rfl,?_⟩⟩;have b:=k R o;cases N;rcases G l with ⟨f,e⟩ | ⟨W,S,T,f,e,V,U⟩
 ·rw[f] at b;rw[e];exact⟨_,rfl,b⟩
 ·rw[f] at b;rw[e];exact⟨_,rfl,b⟩
end
section
variable {ff:yJ}{j k:Nat}
theorem C7{f:Lp->Od} (N:vf X.prog X.w X.K X.mg X.base x j n f) (hr:iD k X.A) (hg:Gl X x) (ha:Q5 X (e::es) ff) (hj:j<=k:=by decide) (D:zg x:=by decide)
  (he:zE e es X:=by rfl) (z:(backTo pos (starEach es X.env)).any (·.1)=false:=by rfl):PM X (.Call (.Name x p) (e::es) [] pos) (Rb n f ff):=by
 obtain⟨a,fd,ps,Fn,hm,hk,hb⟩:=N.ex;intro l s σ H Q I ⟨ρ,μ,v,μ',G,O,hu,e1,k⟩;obtain⟨⟨V,μ1⟩,e2,e3⟩:=bind_some e1;obtain⟨F,e4,q⟩:=bind_some e3;by_cases C:F.length=n
 ·rw[ag C] at q;obtain⟨d,e6,e7⟩:=aa.mp q;cases e7;refine aZ (oz I hg hm ?_ D);refine W.callWith_K (h₀:=X.base) I.ok.mod.TR hk (gS (@ha pos l s σ H (λus H1=>∃g b,eN G g/\pj O b/\iQ X.K σ ρ μ1 H1 g b/\ez X.K g F us) I ⟨ρ,μ,V,μ1,G,O,hu,e2,λus H1 g b L S o y=>⟨g,b,L,S,o,fA.dat e4 y⟩⟩) ?_) he z;rintro us L ⟨vs,H1,P,r,g,b,T,R,o,y⟩;refine⟨P.xC,?_⟩;obtain⟨B,eH,M,mb⟩:=o.h.ex;subst eH;obtain⟨PB,I2,_,_,m⟩:=Ey M.ok P M;refine gS (x8 (Q:=λu i=>eN g i/\eL X.K i d u) (E:=E0) (Fn.mono hj) hr hb .nil nS I2 r ⟨F,d,by rw[aM];exact y,C,e6,KO.kd λu i t i'=>⟨t,i'⟩⟩) ?_;rintro w t ⟨u,i,J,U,c,iu⟩;obtain⟨f',J'⟩:=m i t σ J;exact⟨u,eU i B,J',U,k u _ i b (T.trans c) R (o.mono c.sim (.refl _) ⟨B,rfl,f',mb.mono c.sim (.refl _)⟩) (gR.gU.mpr iu)⟩
 ·rw[aj C] at q;cases q
end
section
variable {a:Expr}{fb:c7->Od}
abbrev FF:=(c7->Option eD)×(c7->Option eD)
def C8:List FF->c7->Option (List (Key×eD))
 |[],_=>Y []
 | (k,v)::r,ρ=>(k ρ).bind λx=>(v ρ).bind λy=>(o9 x).bind λz=>(C8 r ρ).map λq=>(z,y)::q
def Tc(a:List FF):c7->Od:=λρ=>(C8 a ρ).bind λq=>if (q.map (·.1)).Nodup then Y (.dict (q.map λx=>(kH x.1,x.2))) else Z
def Ze(K:Fg)(f:c7->Od):TE:=λσ H Q=>∃G B,H=eU G B/\j4 G B/\tD K f σ G λv a=>j4 a B->Q v (eU a B)
def Zf(X:Cx)(a:Pos)(c:List (Option Expr))(b:Lx)(d:List FF):Prop:=W8 X a c b (d.map λg=>(Ze X.K g.1,Ze X.K g.2))
def Rh:Zf X pos [] [] []:=Qp
def qP{d:List (Option Expr)}{c:Lx}{e:List FF}(g:PD X a fa)(f:PD X b fb)(h:Zf X pos d c e):Zf X pos (Y a::d) (b::c) ((fa,fb)::e):=MZ (PE.frame g) (PE.frame f) h
theorem E2{K:Fg}{B:List (Addr×HO)}{σ:St}{ρ:c7}:∀{c:List FF}{q:List (Key×eD)}{G:Hp}{Q:List (V×V)->Hp->Prop},j4 G B->jA K G σ ρ->C8 c ρ=Y q ->
  (∀(a:List (Key×V)) G',eN G G'->j4 G' B->fZ K G' (q.map λx=>(kH x.1,x.2)) a->a.map (·.1)=q.map (·.1)->Q (a.map λx=>(kV x.1,x.2)) (eU G' B))->Cs (c.map λg=>(Ze K g.1,Ze K g.2)) σ (eU G B) Q
 |[],_,G,Q,fm,hs,e,k=>by cases e;exact k [] G (.refl _) fm (fZ.eP.mpr rfl) rfl
 | (f,g)::c,_,G,Q,fm,hs,e,k=>by obtain⟨x,w,e⟩:=bind_some e;obtain⟨y,t,e⟩:=bind_some e;obtain⟨z,s,e⟩:=bind_some e;obtain⟨q,r,rfl⟩:=aa.mp e;have:=gI s;subst this;refine⟨G,B,rfl,fm,ρ,_,hs,w,λv C b o i=>⟨C,B,rfl,i,ρ,_,hs.same b,t,λu D l n h=>?_⟩⟩;refine E2 h (hs.same (b.trans l)) r λa A j d m p=>?_;rw[hV o];exact k ((z,u)::a) A (b.trans (l.trans j)) d (fZ.eF.mpr ⟨z,u,a,rfl,rfl,n.same j,m⟩) (by simp[p])
theorem ui:∀(b a:List (Key×V)),((a++b).map (·.1)).Nodup->qD a b=a++b
 |[],a,_=>by simp[qD]
 | (k,v)::r,a,h=>by
  have d:(a.any λx=>decide (x.1=k))=false:=by rw[List.any_eq_false];intro x c z;rw[bR,br] at h;exact h.2.2 _ (aP.mpr ⟨x,c,rfl⟩) k (by simp) (of_decide_eq_true z)
  show qD (putK a k v) r=_;unfold putK;rw[d,aj aB,ui r (a++[(k,v)]) (by simpa using h)];simp
def Ri{f:List (Option Expr)}{o:Lx}{a:List FF}(h:Zf X pos f o a)(j:f.all (·.isSome)=true)(I:f.length=o.length)(K:f≠[])(t:f.length<=15)(J:a.length<=15:=by simp):PD X (.Dict f o pos) (Tc a) :=
 PE.imp (Qq h j I K t) <| by
  rintro σ H Q ⟨ρ,d,E,e,k⟩;obtain⟨q,z,n⟩:=bind_some e;by_cases s:(q.map (·.1)).Nodup
  ·rw[ag s] at n;cases n;intro p G;have L:j4 H [(p,HO.dK [])]:=⟨by simp,(λx w=>by simp at w;subst w;exact G),.one aI .nil⟩
   refine E2 (B:=[(p,HO.dK [])]) L E z λb l A u C y=>?_;have r:l p=Z:=u.free (p,.dK []) (by simp);have i:b.length=q.length:=by simpa using bw List.length y
   have F:∀{a:List FF}{q:List (Key×eD)},C8 a ρ=Y q->q.length=a.length:=by
    intro a;induction a with
    |nil=>intro q e;cases e;rfl
    |cons g a D=>intro q e;obtain⟨_,_,e⟩:=bind_some e;obtain⟨_,_,e⟩:=bind_some e;obtain⟨_,_,e⟩:=bind_some e;obtain⟨O,N,rfl⟩:=aa.mp e;simp[D N]
   refine⟨eR,b,rfl,by rw[i,F z];exact J,?_⟩;rw[ui b [] (by rw[bB,y];exact s),bB];have M:upd (eU l [(p,HO.dK [])]) p (.dK b)=upd l p (.dK b):=by
    funext c
    by_cases m:c=p
    ·subst m;rw[eR,eR]
    ·rw[eI m,eI m];exact eI m
   rw[M];have v:eN l (upd l p (.dK b)):=iF r;exact k _ _ (A.trans v) (eL.kI.mpr ⟨p,rfl,.inl ⟨b,.inl eR,C.same v⟩⟩)
  ·rw[aj s] at n;cases n
end
section
variable {h':Heap}
def eT.JH{t':Nat}{ch:List Addr}(I:eT X pins σ H s)(k:∀b o,b∉ch->s.heap.get? b=Y o->h'.get? b=Y o)(f:∀b∈ch,nc X pins H b):eT X pins σ H { s with heap:=h',toks:=t' }:=by
 have a:∀b u,H b=Y u->b∉ch:=λb u e d=>by rw[(f b d).1] at e;cases e
 refine I.step (g':=s.gens) (d':=s.drawn) (ch:=ch) ?_ (λb o _ _ hc e _=>k b o hc e) (λb o _ _ hc e _=>⟨o.slots,k b o hc e⟩) (λ_ _ _ _ n=>n) (λb o hc e=>⟨o,k b o hc e⟩) (λ_ _ e=>e) (λ_ _ _ e=>e) (λb ps e=>⟨#[],by rw[e];simp⟩) ?_ ?_ I.bare
 ·intro b d;obtain⟨w,i,_,g,t,h⟩:=f b d;exact⟨g,i,t,h⟩
 ·rintro m ⟨o,l,p,j,r⟩;exact⟨o,l,p,k _ o (λz=>(f _ z).2.1 rfl) j,r⟩
 ·intro b u e;refine(I.ir b u e).tF (λc v hc q=>?_) (λ_ q=>q) λ_ _ q=>q;rcases hc with z|z
  ·rw[z] at q ⊢;exact k _ _ (a b u e) q
  ·exact k _ _ (a c _ z) q
def eT.JI{t':Nat}{ch:List Addr}{u v:Value}{x y:V} (I:eT X pins σ H s) (f:∀b∈ch,nc X pins H b) (j:∀b∈ch,b<(zB s)) (i:fO x u) (h:fO y v)
  (l:h'.get? (zB s)=Y { cls:=.type "tuple",data:=.seq #[u,v] }) (k:∀b o,b∉ch->s.heap.get? b=Y o->h'.get? b=Y o):
  eT X pins σ (upd H (zB s) (.tup [x,y])) { s with heap:=h',toks:=t' }/\∀b∈ch,nc X pins (upd H (zB s) (.tup [x,y])) b:=by
 have r:=I.laid (a:=(zB s)) (o:=.tup [x,y]) (t':=t') (h':=s.heap.push { cls:=.type "tuple",data:=.seq #[u,v] }) (λ_ _ q=>af _ q) (az _) ⟨by show 2<=sizeLine;decide,[u,v],.cons i (.cons h .nil),_,aw _ rfl,rfl,0,rfl⟩;have c:∀b∈ch,nc X pins (upd H (zB s) (.tup [x,y])) b:=λb d=>by obtain⟨n,m⟩:=f b d;exact⟨by rw[eI (aG (j b d))];exact n,m⟩
 refine⟨eT.JH (s:={ s with heap:=s.heap.push { cls:=.type "tuple",data:=.seq #[u,v] },toks:=t' }) (h':=h') (t':=t') (ch:=ch) r (λb o d e=>?_) c,c⟩;have e:(s.heap.push { cls:=.type "tuple",data:=.seq #[u,v] }).get? b=Y o:=e;by_cases g:b=(zB s)
 ·subst g;have p:Y o=Y { cls:=.type "tuple",data:=.seq #[u,v] }:=e.symm.trans (aw _ rfl);cases p;exact l
 ·exact k b o d ((Heap.get?_push_ne _ _ _ g).symm.trans e)
end
def Itz(K:Fg)(d c:Addr):It where
 go:=λi H=>∃b a x y,kQ K H d b/\kQ K H c a/\b[i]?=Y x/\a[i]?=Y y
 Me:=λi H v e=>∃T x y,v=.ref T/\H T=Z/\(∀b,kQ K H d b->b[i]?=Y x)/\(∀a,kQ K H c a->a[i]?=Y y)/\e=upd H T (.tup [x,y])
 stop:=λi H=>∃b a,kQ K H d b/\kQ K H c a/\(b.length<=i\/a.length<=i)
def NZ(z f e d c j g:Addr)(i:Nat)(h:Heap):Prop:=IsZip h z f e .none/\IsPair h f (.ref d) (.ref c)/\(∃a b,IsPair h e a b)/\h.IsListIter d j i/\h.IsListIter c g i
def NZ.obj{z e d i1 i2 j g:Addr}{h:Heap}(f:NZ z e d i1 i2 j g i h):∀b∈[z,e,d,i1,i2],∃o,h.get? b=Y o/\∀v,o.data≠.cell v:=by
 obtain⟨k,l,⟨a,b,m⟩,⟨t,p,w,r⟩,⟨s,n,u,q⟩⟩:=f;intro b c;simp at c;rcases c with rfl|rfl|rfl|rfl|rfl
 ·exact⟨_,k,λv z=>by cases z⟩
 ·exact⟨_,l,λv z=>by cases z⟩
 ·exact⟨_,m,λv z=>by cases z⟩
 ·exact⟨_,p,λv z=>by rw[r] at z;cases z⟩
 ·exact⟨_,n,λv z=>by rw[q] at z;cases z⟩
theorem N1{P:Program}{w:World}{M:Lx}{kt:Nat}{tp:Pos}(z r q p n O N:Addr)(D:ZipApart z r q p n O N):Cc P w K (.Tuple M kt tp) (Itz K O N) [z,r,q,p,n] z (NZ z r q p n O N) where
 mem:=by simp
 obj:=λi h d=>d.obj
 keep:=λi h h' d k=>by obtain⟨f,A,⟨a,b,L⟩,F,C⟩:=d;exact⟨k _ (by simp) _ f,k _ (by simp) _ A,⟨a,b,k _ (by simp) _ L⟩,F.at λo e=>k _ (by simp) o e,C.at λo e=>k _ (by simp) o e⟩
 item:=by
  intro X hP hw hK hc i B s σ H E I hf d W;subst hP hw hK;have lt:∀b∈[z,r,q,p,n],b<(zB s):=λb c=>by obtain⟨o,e,_⟩:=d.obj b c;exact aq e
  obtain⟨f,A,⟨a,b,L⟩,F,C⟩:=d;obtain⟨xs,ys,x,y,j,g,hx,hy⟩:=W;obtain⟨J,m,S,z1⟩:=I.list j;obtain⟨G,l,R,z2⟩:=I.list g;obtain⟨u,hu,ru⟩:=m.get hx;obtain⟨v,hv,rv⟩:=l.get hy;refine wpAny_pyNext_zip_item D f A L F C S.isList R.isList (x:=u) (y:=v) (by simpa using hu) (by simpa using hv) λh1 U hO1 k1 k2 hT1 sz Q=>⟨_,rfl,?_⟩
  refine wpAny_letOwnedTupleGo_zip U λh2 T t=>?_;have ne:∀{b},b∈[z,r,q,p,n]->(zB s)≠b:=λc=>cE (lt _ c);have kk:∀b o,b∉[z,r,q,p,n]->s.heap.get? b=Y o->h2.get? b=Y o:=λb o c e=>by simp at c;exact(t.2 b c.1).trans (Q b o c.1 c.2.2.1 c.2.2.2.1 c.2.2.2.2 e)
  obtain⟨I2,fp2⟩:=I.JI (h':=h2) (t':=s.toks) hf lt ru rv ((t.2 _ (ne (by simp))).trans hT1) kk;exact⟨.ref (zB s),_,I2,rfl,⟨_,x,y,rfl,I.fresh,λzs f=>by rw[I.qy f j];exact hx,λzs f=>by rw[I.qy f g];exact hy,rfl⟩,
   ⟨T,(t.2 _ D.TIz).trans (Q _ _ D.TIz D.TITO D.TIi1 D.TIi2 A),⟨u,v,(t.2 _ D.TOz).trans hO1⟩,k1.at λo e=>(t.2 _ D.i1z).trans e,k2.at λo e=>(t.2 _ D.i2z).trans e⟩,λb c=>(fp2 b c).1⟩
 done:=by
  intro X hP hw hK hc i B s σ H E I hf d W;subst hP hw hK;obtain⟨f,A,⟨a,b,L⟩,F,C⟩:=d;obtain⟨xs,ys,j,g,V⟩:=W;obtain⟨J,m,S,z1⟩:=I.list j;obtain⟨G,l,R,z2⟩:=I.list g;have O:=m.length;have N:=l.length;refine wpAny_pyNext_zip_end (I.ok.hd hc) D f A L F C S.isList R.isList ?_ λh' Q=>⟨rfl,I.JH (t':=s.toks) (ch:=[z,r,q,p,n]) (λb o c e=>?_) hf⟩
  ·rcases V with V|V
   ·exact .inl (by simp;omega)
   ·exact .inr (by simp;omega)
  ·simp at c;exact Q b o c.1 c.2.2.1 c.2.2.2.1 c.2.2.2.2 e
 self:=λ_ _ _ _ _ d h=>wpAny_pyIter_zip d.1 h
section
variable {a:Expr}{ta tb:TE}
def U2{k:Lx}{V:Nat}{N:Pos}(hg:Gl X "zip")(hm:X.mg "zip"=Z)(ha:PE X a ta)(t:PE X b tb)(C:starEach [a,b] X.env=[(false,eval a X.env),(false,eval b X.env)]:=by rfl)(B:starEach [b] X.env=[(false,eval b X.env)]:=by rfl):
  PI X (.Tuple k V N) (.Call (.Name "zip" p) [a,b] [] pos) (λσ H R=>ta σ H λv A=>tb σ A λu m=>∃f d J G,v=.ref f/\u=.ref d/\kQ X.K m f J/\kQ X.K m d G/\R (Itz X.K f d) m):=by
 intro c s σ H R I h;refine aZ (o6 I hg hm (by rfl) ?_);refine a0 ?_ (by rw[C,B]) (by rw[B];rfl);rw[C];refine aS (gS (@ha c s σ H _ I h) ?_);rintro u1 O ⟨v1,A,I1,T,U⟩;refine aS (gS (@t c O σ A _ I1 U) ?_);rintro u2 r ⟨v2,m,l,S,f,d,M,L,e1,e2,x,w,q⟩;refine a8 ?_;subst e1 e2;cases T;cases S;obtain⟨E,Q,i,z1⟩:=l.list x;obtain⟨D,P,g,z2⟩:=l.list w;have b1:f<(zB r):=by obtain⟨o,n,e,_⟩:=i;exact aq e
 have b2:d<(zB r):=by obtain⟨o,n,e,_⟩:=g;exact aq e
 refine call_zip_2 i.isList g.isList λh' F z y j1 j2 sz W=>?_;refine wpAny_pyIter_zip F ?_;refine⟨_,_,_,_,m,rfl,l.kept (t':=r.toks) W,N1 _ _ _ _ _ f d (zipApart_new b1 b2),⟨F,z,⟨_,_,y⟩,j1,j2⟩,λb t=>?_,q⟩;have j:(zB r)<=b:=by simp at t;rcases t with rfl|rfl|rfl|rfl|rfl<;>simp
 exact l.Aj j (l.ir.fresh j)
end
theorem HH{m l:Addr}{f e:Lp}{b a:List V}(h:kQ K G m b)(g:kQ K G l a)(o:ez K G f b)(n:ez K G e a):pa K (Itz K m l) (KW f e) G:=λO c=>by
 have J:=o.length;have I:=n.length;refine⟨⟨b,a,c.seq h,c.seq g,?_⟩,λi d q=>?_⟩
 ·simp[KW];omega
 ·unfold KW at q;rw[ay] at q;obtain⟨⟨M,L⟩,E,rfl⟩:=aa.mp q;obtain⟨D,C⟩:=List.getElem?_zip_eq_some.mp E;obtain⟨t,r,H⟩:=o.get D;obtain⟨s,p,F⟩:=n.get C;refine⟨⟨b,a,t,s,c.seq h,c.seq g,r,p⟩,?_⟩;rintro x N ⟨T,u,v,A,k,z,y,w⟩;have:=z _ (c.seq h);rw[r] at this;cases this;have:=y _ (c.seq g);rw[p] at this;cases this;subst A w;refine⟨iF k,λP j B=>?_⟩;exact eL.jz.mpr ⟨T,[_,_],rfl,.inl (.inl (by rw[B T k];exact eR)),ez.cons (H.same j) (ez.cons (F.same j) ez.nil)⟩
section
variable {a:Expr}{ma mb mc m mo mk:MF}{ff:yJ}{ep fV:Pos}{rest:List Stmt}{g h:MS}
def N2(b a:MF):yJ:=λρ μ=>(b ρ μ).bind λr=>(a ρ r.2).bind λq=>match r.1,q.1 with
 |.d (.list xs),.d (.list ys)=>Y ((KW xs ys).map .d,q.2)
 |_,_=>Z
def JK{c:Lx}{E:Nat}{v:Pos}(L:Gl X "zip")(K:X.mg "zip"=Z)(N:PM X a ma)(M:PM X b mb)(y:starEach [a,b] X.env=[(false,eval a X.env),(false,eval b X.env)]:=by rfl)(x:starEach [b] X.env=[(false,eval b X.env)]:=by rfl):
  XH X (.Tuple c E v) (.Call (.Name "zip" p) [a,b] [] pos) (N2 ma mb) :=
 PI.imp (U2 L K N M y x) <| by
  rintro σ H R ⟨ρ,μ,ms,μ',G,T,J,e,k⟩;obtain⟨⟨r,μ1⟩,S,Q⟩:=bind_some e;obtain⟨⟨q,μ2⟩,P,d⟩:=bind_some Q;refine⟨ρ,μ,r,μ1,G,T,J,S,λu H1 W l z t O I=>⟨ρ,μ1,q,μ2,W,l,O,P,λw U V j m s i F=>?_⟩⟩;dsimp only at d;split at d
  ·cases d;obtain⟨D,g,rfl,o,B⟩:=eL.fh.mp ((gR.gU.mp I).same m);obtain⟨C,f,rfl,n,A⟩:=eL.fh.mp (gR.gU.mp F);exact⟨D,C,g,f,rfl,rfl,i.h.sub.seq o,i.h.sub.seq n,k _ U V j (z.trans m) (t.trans s) i (HH o n B A).u⟩
  ·cases d
end
theorem iE.XM{K:Fg}{μ:MH}{H G:Hp}{e:AL}(h:iE K μ H G e):∀{a:Lp}{b:List V},a.all K3=true->ez K H a b->ez K G a b
 |[],_,_,i=>by rw[ez.eP.mp i];exact ez.nil
 |d::a,_,hd,i=>by obtain⟨v,r,rfl,c,t⟩:=ez.eF.mp i;rw[List.all_cons,bD] at hd;exact ez.cons (h.imm hd.1 c) (h.XM hd.2 t)
def N3(f:c7->Od):MF:=λρ μ=>(f (ue μ ρ)).bind λd=>match d with
 |.list ds=>if ds.all K3=true then Y (.d d,μ) else Z
 |_=>Z
section
def N4(O:Nat) {y:Str}{L c:Pos}{j b:Expr}{t:Pos}{i:Lx} (a:List (Nat×Str)) (hN:X.N.Nodup)
  (l:Nb X (.Name x t) b q)
  (W:∀C s H fp,yl (mw X scope C (x::a.map (·.2)) s H fp) i g)
  (he:∀C s H fp,PD (mw X scope C (x::a.map (·.2)) s H fp) j f)
  (hc:X.calm=true:=by rfl) (S:km scope x:=by exact⟨rfl,by decide +kernel,by decide +kernel,rfl,aI⟩) (m:yD X scope=true:=by rfl) (n:lq X scope a:=by repeat' (first|exact aI|refine⟨⟨rfl,.inl rfl,rfl⟩,?_⟩|refine⟨⟨rfl,.inr rfl,rfl⟩,?_⟩)) (A:(x::a.map (·.2)).Nodup:=by decide +kernel)
  (B:X.N[O]?=Y y:=by rfl) (V:X.env.scope.names.lookup y=Y .local:=by rfl) (z:swapsWith (.ListComp j [⟨.Name x t,b,i,0⟩] scope pos) (Y (.Name y L)) c.line X.env=pure true:=by rfl)
  (hs:∀x,foldedSetIterable b X.env x=pure x:=by intro _;rfl):PU X (.Assign [.Name y L] (.ListComp j [⟨.Name x t,b,i,0⟩] scope pos) c) (ju (N3 (lu q a g f)) O):=by
 intro M s σ H D I hQ;refine PS.imp (Ji (Ex (λ_ G ds vs=>ez X.K G ds vs) ez.length (λh s=>h.same s) hc S (lW I m) n A l W λC s H fp=>CC (he C s H fp) rfl) S (lW I m) hN B V z hs) (?_) s σ H D I hQ;rintro D σ H ⟨ρ,μ,o,G,as,w,e,k⟩;obtain⟨⟨v,μ1⟩,e1,rfl⟩:=aa.mp e;obtain⟨d,e2,r⟩:=bind_some e1;refine⟨ue μ ρ,d,w.view,e2,ez.nil,λU R p vs ed J P u=>?_⟩;subst ed;dsimp only at r;by_cases l:U.all K3=true
 ·rw[ag l] at r;cases r;have F:eN R (upd R p (.lst vs)):=iF P;obtain⟨T,E,gG,Q⟩:=w.h.Jv (J.trans F);have hH:H p=Z:=by
   cases q:H p with
   |none=>rfl
   |some o=>have:=J _ _ q;rw[P] at this;cases this
  have hl:kQ X.K T p vs:=kQ.of (by rw[gG p hH];exact eR);exact k _ _ T as E (.refl _) (iQ.set (w.mono E.sim (.refl _) Q) (gR.gU.mpr (eL.fh.mpr ⟨p,vs,rfl,hl,Q.XM l (u.same F)⟩)))
 ·rw[aj l] at r;cases r
end
def Zg(a:List (Key×V)):It where
 go:=λi _=>i<a.length
 Me:=λi H x b=>∃T y v,x=.ref T/\H T=Z/\a[i]?=Y (y,v)/\b=upd H T (.tup [kV y,v])
 stop:=λi _=>a.length<=i
section
variable {te:TE}{fV:Pos}
def Rj{K:Lx}{kt:Nat}{tp:Pos}{g:TG}{tb:TS} (hp:PassesOwn (model X.prog X.w) X.A X.env X.xe) (hc:X.calm=true) (ho:PE X o te) (hg:PG X (.Tuple K kt tp) g) (r:vV X body tb)
  (P:attributeBase o "items" X.env (eval o X.env)=eval o X.env) (O:(apos.endLine==fV.line)=true)
  (hs:∀x,foldedSetIterable (.Call (.Attribute o "items" apos) [] [] fV) X.env x=pure x):PS X (.For (.Tuple K kt tp) (.Call (.Attribute o "items" apos) [] [] fV) body [] pos)
   (λD σ H=>te σ H λv H1=>∃a j Q,v=.ref a/\H1=upd Q a (.dK j)/\Q a=Z/\∃W:Nat->Nat->St->Hp->Prop,(∃m,W 0 m σ Q)/\∀i m σ H,W i m σ H ->
    ((Zg j).stop i H/\(H a=Z->D.nx σ (upd H a (.dK j))))\/((Zg j).go i H/\∃N:St->Hp->Prop,(∀σ' l,N σ' l->∃m',m'<m/\W (i+1) m' σ' l)/\∀x l,(Zg j).Me i H x l->g x σ l λσ2 H2=>tb { nx:=N,ct:=N,bk:=λσ H=>H a=Z->D.nx σ (upd H a (.dK j)),rt:=λ_ _=>False } σ2 H2)):=by
 intro c s σ H D I h;refine wpAny_For ?_ hs;refine cA (T:="dict") (id:="dict.items") P rfl O bP PySem.F.slot_dict_items PySem.F.type_dict_items (gS (@ho c s σ H _ I h) ?_);rintro u q ⟨v,H1,I1,r1,a,j,Q,ev,eH,hn,W,⟨m0,w0⟩,S⟩;subst ev eH;cases r1;obtain⟨z,hS,p,rel,dd⟩:=mT I1.ir eR;obtain⟨t,G,L⟩:=SX I1 hn aI;refine⟨dd.typeIs,dd.mapOf.noDict,?_⟩;show wpAny _ _ (callWith fV (.builtin "dict.items") [.ref a] [] []) _ _ q;refine method_meetsIn PySem.F.slot_dict_items PySem.F.entry_dict_items rfl (PySem.evalArgs_none ⟨rfl,dd.typeIs,PySem.F.args_dict_items_1 _,_,meets_dict_items (fG X.prog X.w) a hS,⟨p,dd⟩,?_⟩);obtain⟨ep,hat⟩:=dd.dictAt;refine wpAny_pyIter_items (knd:=fG X.prog X.w) (d:=a) (kvs:=p) (ep:=ep) ⟨_,aw _ rfl,rfl,rfl⟩ (hat.push _) ?_;have hob:q.heap.get? a=Y t:=(G.pin (a,t) (by simp)).1;have aas:∀{h:Heap},h.get? a=Y t->h.DictAt (fG X.prog X.w) a p ep:=λ{h} e=>hat.at λo e'=>by rw[hob] at e';cases e';exact e
 have hlen:j.length=p.length:=cf rel;have sz:(q.heap.push { cls:=.type "dict_items",data:=.fields #[.ref a] }).objs.size=(zB q)+1:=cQ ..;have fp:∀{l:Hp},l ((q.heap.push { cls:=.type "dict_items",data:=.fields #[.ref a] }).objs.size)=Z->nc X (c++[(a,t)]) l ((q.heap.push { cls:=.type "dict_items",data:=.fields #[.ref a] }).objs.size):=λZE=>G.Aj (by rw[sz];exact eh _) ZE;have it0:Q ((q.heap.push { cls:=.type "dict_items",data:=.fields #[.ref a] }).objs.size)=Z:=G.ir.fresh (by rw[sz];exact eh _);have I3:eT X (c++[(a,t)]) σ Q { q with heap:=(q.heap.push { cls:=.type "dict_items",data:=.fields #[.ref a] }).push { cls:=.type "dict_itemiterator",data:=.fields #[.none,.bool false,.ref a,.int 0 0,.int p.length 0,.int ep 0,.none,.none] } } :=
  G.kept (t':=q.toks) λb u e=>af _ (af _ e)
 have it3:IsItemIter ((q.heap.push { cls:=.type "dict_items",data:=.fields #[.ref a] }).push { cls:=.type "dict_itemiterator",data:=.fields #[.none,.bool false,.ref a,.int 0 0,.int p.length 0,.int ep 0,.none,.none] }) ((q.heap.push { cls:=.type "dict_items",data:=.fields #[.ref a] }).objs.size) a 0 p.length ep .none .none:=aw _ rfl;generalize (q.heap.push { cls:=.type "dict_items",data:=.fields #[.ref a] }).objs.size=it at fp it0 it3 ⊢;refine codeAny_forLoop_any (λn s'=>∃i σ' l,eT X (c++[(a,t)]) σ' l s'/\(∃ok ov,IsItemIter s'.heap it a i p.length ep ok ov)/\l it=Z/\W i n σ' l) ?_ m0 ⟨0,σ,Q,I3,⟨_,_,it3⟩,it0,w0⟩;rintro n R ⟨i,σ3,H3,I4,⟨ok,ov,st⟩,fr3,w3⟩;have da:=aas (I4.pin (a,t) (by simp)).1;rcases S i n σ3 H3 w3 with ⟨U,qn⟩ | ⟨go,N,hN,V⟩
 ·have aa2:j.length<=i:=U;refine bj hp (wpAny_pyNext_items_end (I4.ok.hd hc) st da (b5 (by omega)) λh' eb=>?_);obtain⟨f0,f1,f2,f3,f4,f5⟩:=fp fr3;have I5:eT X (c++[(a,t)]) σ3 H3 { R with heap:=h' }:=I4.turned (t':=R.toks) (λb o r e=>eb b o r e) f0 f1 f3 f4 f5;obtain⟨M,I6⟩:=L H3 _ σ3 I5;exact cK ⟨σ3,_,I6,qn M⟩
 ·have go':i<j.length:=go;have hk:j[i]?=Y j[i]:=aN go';have hv:p[i]?=Y p[i]:=aN (by omega);have hr:=Paired.at' rel hk hv;refine bj hp (wpAny_pyNext_items_item st da (k:=p[i].1) (v:=p[i].2) (by rw[hv]) λkey h1 hy heo hT hsz kp=>?_);refine bj hp (wpAny_letOwnedTupleGo_items heo λh2 he2 sb=>?_);have ilt:it<(zB R):=aq st;have fpi:∀b∈[it],nc X (c++[(a,t)]) H3 b:=λb r=>by rw[show b=it by simpa using r];exact fp fr3
  obtain⟨I5,fp5⟩:=I4.JI (h':=h2) (t':=R.toks) (ch:=[it]) (x:=kV j[i].1) (y:=j[i].2) fpi (λb r=>by rw[show b=it by simpa using r];exact ilt) (by rw[hr.1];exact vl hy) hr.2 ((sb.2 _ (cE ilt)).trans hT)
   λb o r e=>(sb.2 b (by simpa using r)).trans (kp b o (by simpa using r) e)
  have I5':=I5.pinned (fp:=[it]) fp5 λb r=>by rw[show b=it by simpa using r];exact⟨_,he2,λv z=>by cases z⟩
  refine bj hp (gS (@hg _ _ σ3 _ (.ref (zB R)) (.ref (zB R)) _ I5' rfl (V _ _ ⟨_,j[i].1,j[i].2,rfl,I4.fresh,hk,rfl⟩)) ?_);rintro _ s6 ⟨σ6,H6,I6,q6⟩;refine bj hp (gS (@r _ s6 σ6 H6 _ I6 q6) λf s7 J=>?_);have B:∀{σ7:St}{C:Hp},eT X ((c++[(a,t)])++u3 [it] h2) σ7 C s7->N σ7 C->∃m,m<n/\∃i σ' l,eT X (c++[(a,t)]) σ' l s7/\(∃ok ov,IsItemIter s7.heap it a i p.length ep ok ov)/\l it=Z/\W i m σ' l:=λ{σ7 C} E n7=>by obtain⟨m',hm,w7⟩:=hN σ7 C n7;have pi:=E.pin (it,_) (ak _ (ak _ (nQ (by simp) he2)));exact⟨m',hm,i+1,σ7,C,E.nR,⟨_,_,pi.1⟩,pi.2.1,w7⟩
  cases f with
  |next=>obtain⟨σ7,C,E,n7⟩:=J;exact B E n7
  |cont=>obtain⟨σ7,C,E,n7⟩:=J;exact B E n7
  |brk=>obtain⟨σ7,C,E,J⟩:=J;obtain⟨M,I8⟩:=L C _ σ7 E.nR;exact⟨σ7,_,I8,J M⟩
  |ret v=>obtain⟨x7,σ7,C,E,r7,J⟩:=J;exact J.elim
end
section
variable {G' H':Hp}{as ET:AL}{μ μ':MH}{ρ:MR}
def iE.XN{c:List (Key×MV)}(h:iE K μ H G as)(e:μ[n]?=Y (.mJ c)):∃a b k,as[n]?=Y a/\H=upd k a.1 (.dK b)/\k a.1=Z/\lg K G as c b/\iE K (μ.set n .gone) k G as:=by
 obtain⟨B,rfl,f,m⟩:=h.ex;obtain⟨a,g,u,d,t,rfl,o,l,⟨b,rfl,s⟩,r⟩:=m.at e;have p:(g++([(a.1,HO.dK b)]++d)).Perm ((a.1,HO.dK b)::(g++d)):=by simpa using List.perm_middle
 have j:=f.perm p (.one aI (o.append l));have q:=bc.mp (show (a.1::(g++d).map (·.1)).Nodup from j.nd);refine⟨a,b,eU G (g++d),t,ie f.nd p,?_,s,⟨g++d,rfl,⟨q.2,λx i=>j.free x (ah _ i),o.append l⟩,by have:=r .gone [] rfl;simpa using this⟩⟩;rw[fX λx i z=>q.1 (aP.mpr ⟨x,i,z⟩)];exact j.free (a.1,.dK b) (by simp)
def iE.back{a:Addr×Addr}{kvs:List (Key×MV)}(h:iE K μ H G as)(e:μ[n]?=Y .gone)(t:as[n]?=Y a)(g:H a.1=Z)(i:lg K G as kvs kv):iE K (μ.set n (.mJ kvs)) (upd H a.1 (.dK kv)) G as:=by
 obtain⟨B,rfl,f,m⟩:=h.ex;obtain⟨u,d,v,c,j,rfl,r,q,rfl,p⟩:=m.at e;rw[t] at j;cases j;have l:∀x∈d++([]++c),x.1≠a.1:=λx b z=>by have:=fL (G:=G) f.nd x b;rw[z,g] at this;cases this
 have s:G a.1=Z:=by rw[fX l] at g;exact g
 have k:((a.1,HO.dK kv)::(d++([]++c))).Perm (d++([(a.1,HO.dK kv)]++c)):=by simpa using List.perm_middle.symm
 have o:j4 G ((a.1,HO.dK kv)::(d++([]++c))):=⟨bc.mpr ⟨λz=>by obtain⟨x,b,e⟩:=aP.mp z;exact l x b e,f.nd⟩,λx b=>by
  rcases ao.mp b with e|b
  ·rw[e];exact s
  ·exact f.free x b,.one aI f.ok⟩
 exact⟨_,ie o.nd k,o.perm k (r.append (.one aI q)),p (.mJ kvs) [(a.1,.dK kv)] ⟨kv,rfl,i⟩⟩
def K9(y:Key):eL K G (kH y) (kV y):=by
 cases y with
 |inl i=>exact eL.eW.mpr rfl
 |inr x=>exact eL.ft.mpr rfl
def C9{a:List (Key×MV)}(i:lg K G as a kv):C3 K (Zg kv) (a.map λx=>.t [.d (kH x.1),x.2]) G as:=λE B=>by
 have w:=i.length;refine⟨by show kv.length<=_;simp[w],λj m q=>?_⟩;rw[ay] at q;obtain⟨⟨k,x⟩,b,rfl⟩:=aa.mp q;have C:=(aA.mp b).1;refine⟨by show j<kv.length;omega,?_⟩;rintro z D ⟨T,y,v,o,e,c,n⟩;subst o n;have p:y=k:=by
  have f:(kv.map (·.1))[j]?=Y y:=by rw[ay,c];rfl
  rw[i.1,ay,b] at f;exact(a7 f).symm
 subst p;refine⟨iF e,λF A l h s=>?_⟩;obtain⟨u,g,r⟩:=i.2.get (i:=j) (x:=x) (by rw[ay,b];rfl);rw[ay,c] at g;cases g;exact gR.wq.mpr ⟨T,[kV y,v],rfl,.inl (.inl (by rw[s T e];exact eR)),fA.cons (gR.gU.mpr (K9 y)) (fA.cons (r.mono l.sim h) fA.nil)⟩
end
section
variable {mo:MF}{fV:Pos}{g:MS}
def Td(m:MF)(t:Tg)(g:MS):MS:=λρ μ=>(m ρ μ).bind λr=>match r.1 with
 |.l n=>match r.2[n]? with
  |some (.mJ kvs)=>(nr (C1 t) g (kvs.map λx=>.t [.d (kH x.1),x.2]) ρ (r.2.set n .gone)).bind λq=>match q with
   |.nx ρ' μ'=>match μ'[n]? with
    |some .gone=>Y (.nx ρ' (μ'.set n (.mJ kvs)))
    |_=>Z
   |_=>Z
  |_=>Z
 |_=>Z
def Rl{b:Lx}{z:Nat}{s:Pos}{t:Tg} (R:PassesOwn (model X.prog X.w) X.A X.env X.xe) (V:X.calm=true) (S:PM X o mo) (U:PG X (.Tuple b z s) (gT X.K t)) (W:Jw X body g)
  (d:attributeBase o "items" X.env (eval o X.env)=eval o X.env:=by rfl) (c:(apos.endLine==fV.line)=true:=by rfl)
  (Q:∀x,foldedSetIterable (.Call (.Attribute o "items" apos) [] [] fV) X.env x=pure x:=by intro _;rfl):PU X (.For (.Tuple b z s) (.Call (.Attribute o "items" apos) [] [] fV) body [] pos) (Td mo t g) :=
 PS.imp (Rj R V S U W d c Q) <| by
  rintro D σ H ⟨ρ,μ,oo,G,as,P,e,k⟩;obtain⟨⟨r,μ1⟩,e1,j⟩:=bind_some e;refine⟨ρ,μ,r,μ1,G,as,P,e1,λu H1 G1 as1 L J C N=>?_⟩;cases r with
  |l n=>
   dsimp only at j;split at j
   ·rename_i M e3;obtain⟨q,e4,i⟩:=bind_some j;cases q with
    |nx ρN μN=>
     dsimp only at i;split at i
     ·rename_i e6;cases i;obtain⟨a,y,H0,F,eH,T,B,h0⟩:=C.h.XN e3;obtain⟨a',f,rfl⟩:=gR.kA.mp N;rw[F] at f;cases f;refine⟨a.1,y,H0,rfl,eH,T,?_⟩;exact rA (D:={ nx:=λσ H=>H a.1=Z->D.nx σ (upd H a.1 (.dK y)),rt:=λ_ _=>False,bk:=λ_ _=>False,ct:=λ_ _=>False }) (C9 B) (C.mono (eN.refl G1).sim (.refl _) h0) e4 λσ' H' I p v m E O=>
       k σ' _ I p (L.trans v) (J.trans m) (E.mono (eN.refl I).sim (.refl _) (E.h.back e6 (m _ _ F) O (B.mono v.sim m)))
     ·cases i
    |_=>cases i
   ·cases j
  |_=>cases j
end
end L2
section
noncomputable section
namespace L2
open PySem PySem.Spec PyProof.Rows PySem.StrLaws PySem.Builtin PySem.Builtin.Str
theorem uj{c:Nat}:∀(f d i g:List Nat),c∉f->c∉d->f++c::i=d++c::g->f=d/\i=g
 |[],[],_,_,_,_,h=>by simp at h;exact⟨rfl,h⟩
 |[],a::d,_,_,_,h2,h=>by simp at h;exact absurd h.1 (by intro e;subst e;simp at h2)
 |a::f,[],_,_,h1,_,h=>by simp at h;exact absurd h.1 (by intro e;subst e;simp at h1)
 |a::f,b::d,i,g,h1,h2,h=>by simp only[bf,List.cons.injEq] at h;simp only[ao,not_or] at h1 h2;obtain⟨k,j⟩:=uj f d i g h1.2 h2.2 h.2;exact⟨by rw[h.1,k],j⟩
def yN{c:Nat}(a d b:List Nat)(e:c∉a)(h:a=d++c::b):False:=e (by rw[h];simp)
def k6(c:Nat)(a b:Str)(r:Lr):(Str.join ⟨#[c]⟩ (a::b::r)).cps.toList=a.cps.toList++c::(Str.join ⟨#[c]⟩ (b::r)).cps.toList:=by show (a++(⟨#[c]⟩:Str)++Str.join ⟨#[c]⟩ (b::r)).cps.toList=_;simp[Str.cps_append]
theorem qQ(c:Nat):∀(g f:Lr),g≠[]->f≠[]->(∀p∈g,c∉p.cps.toList)->(∀p∈f,c∉p.cps.toList)->Str.join ⟨#[c]⟩ g=Str.join ⟨#[c]⟩ f->g=f
 |[],_,h,_,_,_,_=>absurd rfl h
 |_::_,[],_,h,_,_,_=>absurd rfl h
 |[a],[b],_,_,_,_,h=>by have:a=b:=h;rw[this]
 |[a],b::i::r,_,_,h1,_,h=>by have e:=bw (λz:Str=>z.cps.toList) h;simp only[k6] at e;exact(yN _ _ _ (h1 a (by simp)) e).elim
 |a::a2::r,[b],_,_,_,d,h=>by have e:=bw (λz:Str=>z.cps.toList) h;simp only[k6] at e;exact(yN _ _ _ (d b (by simp)) e.symm).elim
 |a::a2::r,b::i::t,_,_,h1,d,h=>by have e:=bw (λz:Str=>z.cps.toList) h;simp only[k6] at e;obtain⟨m,l⟩:=uj _ _ _ _ (h1 a (by simp)) (d b (by simp)) e;have k:a=b:=Str.ext' (dq.mp m);have j:=qQ c (a2::r) (i::t) (by simp) (by simp) (λp hp=>h1 p (by simp[hp])) (λp hp=>d p (by simp[hp])) (Str.ext' (dq.mp l));rw[k,j]
def yO(x y:Str):Txt.split x y≠[]:=by
 unfold Txt.split;split
 ·simp
 ·split
  ·simp
  ·rw[partsBetween_eq];obtain⟨p,r,e⟩:=partsFrom_ne x y.length 0 (occurrences x y 0 x.length (x.length+1));rw[e];simp
def sX(c:Nat)(a:Lr)(b:a≠[])(h:∀p∈a,c∉p.cps.toList):Txt.split (Str.join ⟨#[c]⟩ a) ⟨#[c]⟩=a :=
 qQ c _ _ (yO _ _) b (λp hp=>split_free _ c p hp) h (join_split _ _)
theorem kO(x:Str)(w:Nat):∀(b:List Nat) (a:Nat),(partsFrom x w a b).length=b.length+1
 |[],_=>rfl
 |c::r,a=>by show (strSub x a c::partsFrom x w (c+w) r).length=_;simp[kO x w r]
def Dc(c:Nat)(a:Lr)(b:a≠[])(h:∀p∈a,c∉p.cps.toList)(d:(Str.join ⟨#[c]⟩ a).length<=1000000):
  iK (.str (Str.join ⟨#[c]⟩ a)) [.str ⟨#[c]⟩]=Y (.list (a.map .str)):=by
 have e:=occ_length_le_len (Str.join ⟨#[c]⟩ a) ⟨#[c]⟩ 0 (Str.join ⟨#[c]⟩ a).length ((Str.join ⟨#[c]⟩ a).length+1);show (if _ then _ else Z)=_;rw[ag ⟨rfl,by rw[sizeLine_eq];omega,by rw[partsBetween_eq,kO,sizeLine_eq];omega⟩,sX c a b h]
end L2
end
noncomputable section
namespace K10
open PySem L2
def i0(i:Nat):Stmt:=PySem.Challenge.pw_pointsure_k10_faults.main.body.getD i (.Pass ⟨0,0,0,0⟩)
noncomputable def Dd:List (eD×eD):=[((.str "new"),(.tuple [(.str "X"),(.str "KIND")])),((.str "row"),(.tuple [(.str "X")])),((.str "func"),(.tuple [(.str "X"),(.str "FUNCTION"),(.str "A")])),((.str "copy"),(.tuple [(.str "X"),(.str "Y")])),((.str "take"),(.tuple [(.str "X"),(.str "Y"),(.str "FIELD")])),((.str "put"),(.tuple [(.str "Y"),(.str "FIELD"),(.str "X")])),((.str "push"),(.tuple [(.str "Y"),(.str "X")])),((.str "pull"),(.tuple [(.str "X"),(.str "Y")])),((.str "do"),(.tuple [(.str "X"),(.str "Y"),(.str "A")])),((.str "ask"),(.tuple [(.str "X"),(.str "Y"),(.str "METHOD"),(.str "A")])),((.str "straight"),(.tuple [(.str "X"),(.str "Y"),(.str "KIND"),(.str "METHOD"),(.str "A")])),((.str "give"),(.tuple [(.str "X")])),((.str "tell"),(.tuple [(.str "X")])),((.str "rest"),(.tuple [])),((.str "check"),(.tuple [(.str "Y"),(.str "FIELD")])),((.str "fresh"),(.tuple [(.str "X"),(.str "KIND")])),((.str "own"),(.tuple [(.str "X"),(.str "Y"),(.str "FIELD")])),((.str "place"),(.tuple [(.str "Y"),(.str "FIELD"),(.str "X")]))]
noncomputable def nu:List (eD×eD):=[((.str "choose"),(.tuple [])),((.str "some"),(.tuple [(.str "X")])),((.str "same"),(.tuple [(.str "X"),(.str "Y")]))]
noncomputable def xS:List (eD×eD):=[((.str "take"),(.str "record")),((.str "put"),(.str "record")),((.str "check"),(.str "record")),((.str "ask"),(.str "record")),((.str "straight"),(.str "record")),((.str "push"),(.str "row")),((.str "pull"),(.str "row")),((.str "do"),(.str "func")),((.str "own"),(.str "mark")),((.str "place"),(.str "mark"))]
noncomputable def rB:List (Str×Str):=[("new","do_new"),("row","do_row_thing"),("func","do_func"),("copy","do_copy"),("take","do_take"),("put","do_put"),("push","do_push"),("pull","do_pull"),("tell","do_tell"),("rest","do_nothing"),("check","do_nothing"),("fresh","do_fresh"),("own","do_own"),("place","do_place")]
abbrev La:Stmt:=i0 88
def Lb:c7->Option gk :=
(eJ (fW (gZ [] (zX (fN (eK (fN fg) (eK (fN (zC "x" fg)) (zQ (fN (zC "x" (zC "x" fg))))))) (bS 3))) 4)
(eJ (fW (gZ [] (fN (eK (fN (zC "take" (zC "x" (zC "y" (zQ (bS 1)))))) (eK (fN (zC "put" (zC "y" (eK (bS 1) (zC "x" fg))))) (eK (fN (zC "check" (zC "y" (zQ (bS 1))))) (eK (fN (zC "push" (zC "y" (zC "x" fg)))) (zQ (fN (zC "pull" (zC "x" (zC "y" fg))))))))))) 5)
(eJ (fW (gZ [] (d2 i5 (bS 5) (fN (eK (d2 i5 (fN (zC "do" (zC "x" (zC "y" fg)))) (bS 4)) (eK (d2 i5 (fN (zC "ask" (zC "x" (zC "y" (zQ (bS 2)))))) (bS 4)) (zQ (fN (zC "own" (zC "x" (zC "y" (zQ (bS 1)))))))))))) 5)
(eJ (fW (gZ [] (d2 i5 (bS 5) (fN (eK (d2 i5 (fN (zC "straight" (zC "x" (zC "y" (zC "ka" (zC "m" fg)))))) (bS 4)) (eK (fN (zC "place" (zC "y" (eK (bS 1) (zC "x" fg))))) (zQ (fN (zC "copy" (zC "x" (zC "y" fg)))))))))) 5)
(eJ (fW (gZ [] (d2 i5 (bS 5) (fN (eK (fN (zC "give" (zC "y" fg))) (eK (fN (zC "rest" fg)) (zQ (d2 i5 (fN (zC "straight" (zC "x" (zC "y" (zC "kb" (zC "o" fg)))))) (bS 4)))))))) 5)
(fC (zX (bS 5) (bS 0))))))))
def pL:Lp->Od:=ic ["_law_form","_law_f","_law_method","_law_many","_law_handed","_law_some"] Lb
abbrev wQ:Stmt:=i0 89
def wR:c7->Option gk :=
(eJ (iY (fB (d2 uX (zX (bS 0) (zI 0)) (i9 (zC "copy" (zC "give" (zC "rest" fg))))))
(fC (zA ""))
fY)
(eJ (iY (fB (d2 jN (bS 1) (zI 0)))
(fC (zA "none"))
fY)
(eJ (fW (gZ [] (Tc [((zA "do"),(fN (zQ (zI 4)))),((zA "push"),(fN (zQ (zI 3)))),((zA "pull"),(fN (zQ (zI 3)))),((zA "own"),(fN (eK (zI 5) (zQ (zI 6))))),((zA "place"),(fN (eK (zI 5) (zQ (zI 6)))))])) 2)
(eJ (iY (fB (d2 nX (bS 1) (d3 CV (bS 2) (zX (bS 0) (zI 0)) (fN (eK (zI 1) (zQ (zI 2)))))))
(fC (zA "sort"))
fY)
(fC (zA ""))))))
def qg:Lp->Od:=ic ["_law_words","_law_sort","_law_fine"] wR
abbrev HI:Stmt:=i0 90
def HJ:c7->Option gk :=
(eJ (fW (gZ [] (jx 2 qg (eK (bS 0) (zQ (bS 1))))) 5)
(eJ (iY (fB (d2 v5 (bS 5) (zA "")))
(fC (bS 5))
fY)
(eJ (iY (fB (d2 uX (zX (bS 0) (zI 0)) (i9 (zC "take" (zC "put" (zC "check" (zC "own" (zC "place" fg))))))))
(eJ (fW (gZ [] (d2 i5 (fN (zC "f" fg)) (d2 K0 (fN (zC "h" fg)) (jP yE (zQ (d2 uX (bS 1) (i9 (eK (zI 2) (zQ (zI 6)))))))))) 6)
(fC (zX (fN (zC "field" (zC "" fg))) (jP yE (zQ (d2 uX (bS 2) (bS 6)))))))
fY)
(eJ (iY (nT (fB (d2 jN (zX (bS 0) (zI 0)) (zA "ask"))) (fB (d2 v5 (bS 3) (zA "m"))))
(fC (zA "method"))
fY)
(eJ (iY (nT (fB (d2 uX (zX (bS 0) (zI 0)) (i9 (zC "do" (zC "ask" (zC "straight" fg)))))) (fB (d2 v5 (bS 4) (zI 1))))
(fC (zA "count"))
fY)
(fC (zA "")))))))
def p4:Lp->Od:=ic ["_law_words","_law_sort","_law_f","_law_method","_law_many","_law_word_here","_law_fields"] HJ
abbrev Lc:Stmt:=i0 24
def Ld:c7->Option gk :=
(eJ (iY (fB (d2 uX (zX (bS 0) (zI 0)) (dC (.tuple [(.str "if"),(.str "while")]))))
(eJ (iY (nT (fB (d2 Uz (zN (bS 0)) (zI 1))) (fB (λρ=>((zX (bS 0) (zI 1)) ρ).bind (NG nu))))
(fC (d2 i5 (i9 (zC "CONDITION" fg)) (λρ=>((zX (bS 0) (zI 1)) ρ).bind (Hu nu))))
fY)
(fC (dC .none)))
fY)
(fC (λρ=>((zX (bS 0) (zI 0)) ρ).bind (S5 Dd))))
def rD:Lp->Od:=ic ["words"] Ld
abbrev HK:Stmt:=i0 25
def Aw:c7->Option gk :=
(oG (.sl 1) (gZ [1] (zA "A")))
def HL:c7->Option gk :=
(eJ (pC (gZ [1] (jP kD (zQ (jx 1 rD (zQ (bS 0)))))) 1)
(eJ (Hg (fB (d2 KA (zN (bS 1)) (d2 Kz (zN (bS 0)) (zI 1)))) Aw)
(fC (d2 Xw (bS 1) (j3 (bS 0) (kK (zI 1)) kJ)))))
def p5:Lp->Od:=ic ["words","form"] HL
abbrev HM:Stmt:=gn (i0 20) 0
def Ay:c7->Option Bool:=(fB (d2 jN (bS 0) (zA "A")))
def Az:c7->Od:=(bS 1)
def AA:c7->Option Bool:=(fB (d2 uX (bS 0) (i9 (zC "X" (zC "Y" (zC "A" fg))))))
def AB:c7->Od:=(bS 1)
def HN:c7->Option gk :=
(eJ (fW (gZ [0] (jP CL (zQ (jx 1 p5 (zQ (bS 1)))))) 2)
(eJ (jy 0 "Row" "word" (gZ [0] (zX (bS 1) (zI 0))))
(eJ (jy 0 "Row" "condition" (gZ [0] (d2 nV (bS 2) (zA "CONDITION"))))
(eJ (jy 0 "Row" "x" (gZ [0] (d2 nV (bS 2) (zA "X"))))
(eJ (jy 0 "Row" "y" (gZ [0] (d2 nV (bS 2) (zA "Y"))))
(eJ (jy 0 "Row" "kind" (gZ [0] (d2 nV (bS 2) (zA "KIND"))))
(eJ (jy 0 "Row" "field" (gZ [0] (d2 nV (bS 2) (zA "FIELD"))))
(eJ (jy 0 "Row" "method" (gZ [0] (d2 nV (bS 2) (zA "METHOD"))))
(eJ (jy 0 "Row" "function" (gZ [0] (d2 nV (bS 2) (zA "FUNCTION"))))
(eJ (jy 0 "Row" "handed" (gZ [0] (CQ (wJ (jx 1 p5 (zQ (bS 1)))) [] Ay Az)))
(jy 0 "Row" "names" (gZ [0] (CQ (wJ (jx 1 p5 (zQ (bS 1)))) [] AA AB)))))))))))))
def n8:Lp->Option (eD×eD):=pD ["self","words","parts"] HN
abbrev sY:Stmt:=gn (i0 71) 5
def n9:c7->Option gk :=
(fC (zX (zX (eS ["Program"] "numbered" (bS 0)) (bS 1)) (zI 2)))
def jE:Lp->Od:=ic ["self","number"] n9
abbrev wU:Stmt:=gn (i0 71) 1
def qh:c7->Option gk :=
(fC (eS ["Program"] "text" (bS 0)))
def gX:Lp->Od:=ic ["self"] qh
abbrev wV:Stmt:=i0 10
def oa:c7->Option Bool:=(λ_=>Y true)
def oe:c7->Od:=(yy iK (bS 0) (zC " " fg))
def qi:c7->Option gk :=
(fC (lu (wJ (yy iK (f6 "Program" "shown" 1 gX (bS 0) fg) (zC "\n" fg))) [] oa oe))
def jR:Lp->Od:=ic ["program"] qi
abbrev sZ:Stmt:=i0 12
def tf:c7->Option gk :=
(eJ (iY (nT (vo (bS 0)) (fB (d2 jN (zX (bS 0) (zI 0)) (zA "of"))))
(fC (i9 (eK (zX (bS 0) (zI 1)) (zQ (j3 (bS 0) (kK (zI 3)) kJ)))))
fY)
(fC (i9 (eK (dC .none) (zQ (j3 (bS 0) (kK (zI 1)) kJ))))))
def og:Lp->Od:=ic ["words"] tf
abbrev De:Stmt:=i0 11
def qj:c7->Option gk :=
(eJ (iY (fB (d2 v5 (zX (bS 2) (zI 0)) (zA "kind")))
(λρ=>Y (.bk ρ))
fY)
(wK (.sl 1) (gZ [1] (zX (bS 2) (zI 1))) (gZ [1] (jx 1 og (zQ (j3 (bS 2) (kK (zI 2)) kJ))))))
def um:c7->Option gk :=
(eJ (pC (gZ [1] (dC (.dict []))) 1)
(eJ (so (PQ [1] (oJ (jx 1 jR (zQ (bS 0))))) (.one 2) qj)
(fC (bS 1))))
def kq:Lp->Od:=ic ["program","table","words"] um
abbrev AD:Stmt:=i0 8
def pb:c7->Option gk :=
(fC (Zb (wc (UQ (bS 0)) (wc (zA ".") (wc (UQ (bS 1)) (λ_=>Y Str.empty))))))
def iC:Lp->Od:=ic ["kind","method"] pb
abbrev E3:Stmt:=i0 9
def qR:c7->Option gk :=
(eJ (iY (fB (d2 jN (zX (bS 0) (zI 0)) (zA "method")))
(fC (jx 2 iC (eK (zX (bS 0) (zI 1)) (zQ (zX (bS 0) (zI 2))))))
fY)
(eJ (iY (fB (d2 jN (zX (bS 0) (zI 0)) (zA "func")))
(fC (zX (bS 0) (zI 1)))
fY)
(fC (zA "main"))))
def gu:Lp->Od:=ic ["head"] qR
abbrev Df:Stmt:=i0 14
def fP:c7->Option gk :=
(iY (fB (d2 jN (zX (bS 3) (zI 0)) (zA "end")))
(KL 2 (λi j=>i - j) (gZ [1] (zI 1)))
(iY (nT (fB (d2 jN (bS 2) (zI 0))) (fB (d2 v5 (zX (bS 3) (zI 0)) (zA "kind"))))
(eJ (wK (.sl 1) (gZ [1] (jx 1 gu (zQ (bS 3)))) (gZ [1] (bS 3)))
(fW (gZ [1] (zI 1)) 2))
(iY (fB (d2 uX (zX (bS 3) (zI 0)) (i9 (zC "if" (zC "while" fg)))))
(KL 2 (λi j=>i+j) (gZ [1] (zI 1)))
fY)))
def uo:c7->Option gk :=
(eJ (pC (gZ [1] (dC (.dict []))) 1)
(eJ (fW (gZ [1] (zI 0)) 2)
(eJ (so (PQ [1] (oJ (jx 1 jR (zQ (bS 0))))) (.one 3) fP)
(fC (bS 1)))))
def iA:Lp->Od:=ic ["program","heads","depth","words"] uo
abbrev rS:Stmt:=gn (i0 71) 4
def mW:c7->Option gk :=
(fC (jP kD (zQ (zX (zX (eS ["Program"] "numbered" (bS 0)) (bS 1)) (zI 1)))))
def ip:Lp->Od:=CG ["self","number"] mW
abbrev AE:Stmt:=i0 6
def AF:c7->Option gk :=
(eJ (iY (fB (d2 jN (zX (bS 0) (zI 0)) (zA "method")))
(fC (jP kD (zQ (j3 (bS 0) (kK (zI 3)) kJ))))
fY)
(eJ (pC (gZ [1] (jP kD (zQ (j3 (bS 0) (kK (zI 2)) kJ)))) 1)
(eJ (iY (fB (d2 uX (zA "keeps") (bS 1)))
(fC (tW (bS 1) kJ (kK (QU CJ (bS 1) (zC "keeps" fg)))))
fY)
(fC (bS 1)))))
def pf:Lp->Od:=CG ["head","names"] AF
abbrev E4:Stmt:=i0 7
def E5:c7->Option gk :=
(eJ (iY (Cy (fB (d2 v5 (zX (bS 0) (zI 0)) (zA "func"))) (fB (d2 nX (zA "keeps") (j3 (bS 0) (kK (zI 2)) kJ))))
(fC (fN fg))
fY)
(eJ (fW (gZ [] (jP kD (zQ (j3 (bS 0) (kK (zI 2)) kJ)))) 1)
(fC (tW (bS 1) (kK (d2 i5 (QU CJ (bS 1) (zC "keeps" fg)) (zI 1))) kJ))))
def k7:Lp->Od:=CG ["head","names"] E5
abbrev uu:Stmt:=i0 13
def qS:c7->Option gk :=
(eJ (oG (.sl 2) (gZ [2] (bS 3)))
(fW (gZ [2] (zX (zX (bS 0) (bS 3)) (zI 0))) 3))
def uw:c7->Option gk :=
(eJ (pC (gZ [2] (fN fg)) 2)
(eJ (fW (gZ [2] (bS 1)) 3)
(eJ (Hg (fB (d2 kR (bS 3) (dC .none))) qS)
(fC (bS 2)))))
def lA:Lp->Od:=ic ["table","kind","line","one"] uw
abbrev E6:Stmt:=i0 4
def yP:c7->Option gk :=
(tT (.sl 2) (gZ [2] (zX (zX (bS 0) (bS 3)) (zI 1))))
def E7:c7->Option gk :=
(eJ (pC (gZ [2] (fN fg)) 2)
(eJ (so (PQ [2] (Q0 (jx 2 lA (eK (bS 0) (zQ (bS 1)))))) (.one 3) yP)
(fC (bS 2))))
def wt:Lp->Od:=CG ["table","kind","fields","one"] E7
abbrev rT:Stmt:=gn (i0 71) 3
def mX:c7->Option gk :=
(fC (zN (eS ["Program"] "numbered" (bS 0))))
def fK:Lp->Od:=ic ["self"] mX
abbrev yQ:Stmt:=gn (i0 37) 0
def lB:c7->Option Bool:=(λ_=>Y true)
def j6:c7->Od:=(yt "Row" 2 n8 (zQ (f6 "Program" "row_words" 2 ip (bS 1) (zQ (bS 0)))))
def j7:c7->Option Bool:=(λ_=>Y true)
def iW:c7->Od:=(f6 "Program" "row_body" 2 jE (bS 1) (zQ (bS 0)))
def oN:MS :=
(fe (rR (g0 "Outline" "params" (ew 0)) (ew 2) (Rb 1 pf (dr (Av (g0 "Outline" "heads" (ew 0)) (ew 2)) eM)))
(fe (rR (g0 "Outline" "kept" (ew 0)) (ew 2) (Rb 1 k7 (dr (Av (g0 "Outline" "heads" (ew 0)) (ew 2)) eM)))
(rR (g0 "Outline" "own_rows" (ew 0)) (ew 2) pI)))
def oP:MS :=
(gW (ko (Av (g0 "Outline" "own_rows" (ew 0)) (ew 2)) (ew 3)))
def oQ:MS :=
(rR (g0 "Outline" "fields" (ew 0)) (ew 4) (Rb 2 wt (dr (g0 "Outline" "table" (ew 0)) (dr (ew 4) eM))))
def lC:MS :=
(fe (hY "Outline" "rows" (ew 0) (gm (lu (ng (f6 "Program" "many_rows" 1 fK (bS 1) fg)) [(1,"program")] lB j6)))
(fe (hY "Outline" "homes" (ew 0) (gm (lu (ng (f6 "Program" "many_rows" 1 fK (bS 1) fg)) [(1,"program")] j7 iW)))
(fe (hY "Outline" "table" (ew 0) (gm (jx 1 kq (zQ (bS 1)))))
(fe (hY "Outline" "heads" (ew 0) (gm (jx 1 iA (zQ (bS 1)))))
(fe (hY "Outline" "params" (ew 0) oM)
(fe (hY "Outline" "kept" (ew 0) oM)
(fe (hY "Outline" "own_rows" (ew 0) oM)
(fe (EX (g0 "Outline" "heads" (ew 0)) (.one 2) oN)
(fe (vu (HF (g0 "Outline" "homes" (ew 0))) (.many [3,2]) oP)
(fe (hY "Outline" "fields" (ew 0) oM)
(EX (g0 "Outline" "table" (ew 0)) (.one 4) oQ)))))))))))
def lD:mH:=ji ["self","program","body","number","kind"] lC
abbrev Dg:Stmt:=i0 35
def f7:MS :=
(fe (ju (gm (yy iK (bS 4) (zC " " fg))) 5)
(fe (ju (gm (zX (bS 5) (zI 0))) 6)
(fe (vt (iz (sO (vo (bS 2))))
(fe (vt (iz (fB (d2 v5 (bS 6) (zA "kind"))))
(fe (gW (ko (ew 1) (K4 (dr (ew 5) (dr pI eM)))))
(gW (ko (ew 2) (gm (dC .none)))))
qu)
(λρ μ=>Y (.ct ρ μ)))
qu)
(fe (vt (iz (fB (d2 jN (bS 6) (zA "end"))))
(ju (K4 (dr (ew 6) (dr (NT (ew 2)) eM))) 7)
(vt (iz (fB (d2 jN (bS 6) (zA "else"))))
(ju (gm (i9 (eK (bS 6) (zQ (dC .none))))) 7)
(fe (ju (gm (i9 (eK (bS 6) (zQ (bS 3))))) 7)
(fe (vt (iz (fB (d2 uX (bS 6) (dC (.tuple [(.str "if"),(.str "while")])))))
(gW (ko (ew 2) (gm (dIf (fB (d2 jN (bS 6) (zA "while"))) (bS 3) (dC .none)))))
qu)
(XJ 3 (λi j=>i+j) (gm (zI 1)))))))
(vt (iz (vo (bS 2)))
(gW (ko (Av (Av (ew 1) (gm (zI (-1)))) (gm (zI 1))) (ew 7)))
qu)))))
def nv:MS :=
(fe (ju pI 1)
(fe (ju pI 2)
(fe (ju (gm (zI 0)) 3)
(fe (vu (C4 (oJ (yy iK (f6 "Program" "shown" 1 gX (bS 0) fg) (zC "\n" fg)))) (.one 4) f7)
(sT (ew 1))))))
def kr:Lp->Od:=BH ["program","bodies","blocks","number","row","words","word","mark"] nv
abbrev vv:Stmt:=gn (i0 34) 1
def iq:MS :=
(vt (iz (fB (d2 jN (bS 4) (zA "end"))))
(fe (gW (ko (ew 3) (gm (i9 (eK (bS 2) (zQ (bS 2)))))))
(vt (iz (fB (d2 kR (bS 5) (dC .none))))
(ju (ew 5) 2)
qu))
(vt (iz (fB (d2 jN (bS 4) (zA "else"))))
(fe (rR (ew 3) (gm (zI (-1))) (kc (i9 (eK (zX (zX (bS 3) (zI (-1))) (zI 0)) (zQ (bS 2))))))
(ju (Av (Av (ew 3) (gm (zI (-1)))) (gm (zI 0))) 2))
(fe (rR (g0 "Flow" "behind" (ew 0)) (ew 5) (ew 2))
(fe (rR (g0 "Flow" "otherwise" (ew 0)) (ew 5) (ew 2))
(fe (vt (iz (fB (d2 uX (bS 4) (dC (.tuple [(.str "if"),(.str "while")])))))
(rR (g0 "Flow" "otherwise" (ew 0)) (ew 5) (Av (NT (ew 3)) (gm (zI 1))))
qu)
(ju (ew 5) 2))))))
def ku:MS :=
(fe (ju (gm (dC .none)) 2)
(fe (ju pI 3)
(fe (vu (C4 (Q0 (bS 1))) (.many [4,5]) iq)
(sT (ew 2)))))
def jj:mH:=ji ["self","marks","follows","blocks","word","number"] ku
abbrev E8:Stmt:=gn (i0 34) 0
def jk:MS :=
(rR (g0 "Flow" "first" (ew 0)) (gm (jx 1 gu (zQ (bS 2)))) (gg "Flow" "join_rows" 2 jj (ew 0) (dr (ew 3) eM)))
def oR:MS :=
(fe (hY "Flow" "first" (ew 0) oM)
(fe (hY "Flow" "behind" (ew 0) oM)
(fe (hY "Flow" "otherwise" (ew 0) oM)
(vu (C4 (oJ (jx 1 kr (zQ (bS 1))))) (.many [2,3]) jk))))
def oS:mH:=ji ["self","program","head","marks"] oR
abbrev Dh:Stmt:=gn (i0 41) 0
def nA:MS :=
(fe (hY "State" "outline" (ew 0) (gm (sW "Outline" 2 lD (zQ (bS 1)))))
(fe (hY "State" "flow" (ew 0) (gm (sW "Flow" 2 oS (zQ (bS 1)))))
(fe (hY "State" "inputs" (ew 0) (gm (jP kD (zQ (bS 2)))))
(fe (hY "State" "used" (ew 0) (gm (zI 0)))
(fe (hY "State" "fuel" (ew 0) (ew 3))
(fe (hY "State" "stack" (ew 0) pI)
(fe (hY "State" "made" (ew 0) pI)
(fe (hY "State" "shown_texts" (ew 0) pI)
(hY "State" "ended" (ew 0) (gm (dC .none)))))))))))
def jF:mH:=ji ["self","program","inputs","fuel"] nA
abbrev E9:Stmt:=gn (i0 39) 0
def Fb:MS :=
(fe (hY "Call" "body" (ew 0) (ew 1))
(fe (hY "Call" "path" (ew 0) (ew 2))
(fe (hY "Call" "row" (ew 0) (ew 3))
(hY "Call" "named" (ew 0) oM))))
def wu:mH:=ji ["self","body","path","row"] Fb
abbrev Fc:Stmt:=i0 60
def Fd:MS :=
(fe (ju (qN "Call" 4 wu (dr (ew 1) (dr (ew 2) (dr (Av (qM ["Flow"] "first" (g0 "State" "flow" (ew 0))) (ew 1)) eM)))) 3)
(fe (gW (ko (g0 "State" "stack" (ew 0)) (ew 3)))
(sT (ew 3))))
def oT:mH:=ji ["state","body","path","call"] Fd
abbrev Fe:Stmt:=gn (i0 41) 1
def Ff:c7->Option gk :=
(fC (zX (eS ["State"] "stack" (bS 0)) (zI (-1))))
def qT:Lp->Od:=ic ["self"] Ff
def Fh:MS :=
(sT (Av (g0 "State" "stack" (ew 0)) (gm (zI (-1)))))
def gv:mH:=ji ["self"] Fh
abbrev vw:Stmt:=gn (i0 39) 1
def vx:MS :=
(vt (iz (fB (d2 uc (bS 2) (dC .none))))
(gW (S7 (g0 "Call" "named" (ew 0)) (ew 1) (gm (dC .none))))
(rR (g0 "Call" "named" (ew 0)) (ew 1) (ew 2)))
def fx:mH:=ji ["self","name","value"] vx
abbrev ux:Stmt:=gn (i0 37) 3
def uy:c7->Option gk :=
(eJ (iY (nT (vi rQ KA (zI 0) (bS 1) (zN (eS ["Outline"] "rows" (bS 0)))) (fB (d2 jN (eS ["Row"] "word" (zX (eS ["Outline"] "rows" (bS 0)) (bS 1))) (bS 2))))
(fC (zX (eS ["Outline"] "rows" (bS 0)) (bS 1)))
fY)
(fC (dC .none)))
def lE:Lp->Od:=ic ["self","number","word"] uy
abbrev rV:Stmt:=gn (i0 37) 4
def rW:c7->Option gk :=
(eJ (fW (gZ [] (f6 "Outline" "made_by" 3 lE (bS 0) (eK (bS 1) (zC "new" fg)))) 2)
(eJ (iY (fB (d2 uc (bS 2) (dC .none)))
(fC (dC .none))
fY)
(fC (eS ["Row"] "kind" (bS 2)))))
def mY:Lp->Od:=ic ["self","number","row"] rW
abbrev wW:Stmt:=gn (i0 41) 4
def wX:c7->Option gk :=
(eJ (iY (fB (d2 uc (bS 1) (dC .none)))
(fC (dC .none))
fY)
(eJ (iY (fB (d2 jN (zX (bS 1) (zI 0)) (zA "mark")))
(fC (zX (bS 1) (zI 1)))
fY)
(fC (f6 "Outline" "made_kind" 2 mY (eS ["State"] "outline" (bS 0)) (zQ (eS ["Call","Thing"] "row" (zX (eS ["State"] "made" (bS 0)) (zX (bS 1) (zI 1)))))))))
def kS:Lp->Od:=ic ["self","value"] wX
abbrev vy:Stmt:=gn (i0 41) 3
def vz:c7->Option gk :=
(eJ (iY (Cy (fB (d2 uc (bS 1) (dC .none))) (fB (d2 v5 (zX (bS 1) (zI 0)) (zA "thing"))))
(fC (dC .none))
fY)
(fC (zX (eS ["State"] "made" (bS 0)) (zX (bS 1) (zI 1)))))
def kx:Lp->Od:=ic ["self","value"] vz
def vA:MS :=
(fe (vt (iz (Cy (fB (d2 uc (bS 1) (dC .none))) (fB (d2 v5 (zX (bS 1) (zI 0)) (zA "thing")))))
(sT (gm (dC .none)))
qu)
(sT (Av (g0 "State" "made" (ew 0)) (gm (zX (bS 1) (zI 1))))))
def gJ:mH:=ji ["self","value"] vA
abbrev pM:Stmt:=gn (i0 37) 5
def pN:c7->Option gk :=
(eJ (fW (gZ [] (f6 "Outline" "made_by" 3 lE (bS 0) (eK (bS 1) (zC "func" fg)))) 2)
(eJ (iY (fB (d2 uc (bS 2) (dC .none)))
(fC (dC .none))
fY)
(fC (eS ["Row"] "function" (bS 2)))))
def jl:Lp->Od:=ic ["self","number","row"] pN
abbrev AG:Stmt:=i0 43
def AH:c7->Option gk :=
(eJ (iY (fB (d2 uc (bS 1) (dC .none)))
(fC (zA "none"))
fY)
(eJ (fW (gZ [] (f6 "State" "kind_of" 2 kS (bS 0) (zQ (bS 1)))) 2)
(eJ (iY (fB (d2 kR (bS 2) (dC .none)))
(fC (bS 2))
fY)
(eJ (fW (gZ [] (f6 "State" "thing_of" 2 kx (bS 0) (zQ (bS 1)))) 3)
(eJ (iY (fB (d2 jN (eS ["Thing"] "form" (bS 3)) (zA "row")))
(fC (zA "row"))
fY)
(fC (f6 "Outline" "made_function" 2 jl (eS ["State"] "outline" (bS 0)) (zQ (eS ["Thing"] "row" (bS 3))))))))))
def ph:Lp->Od:=ic ["state","value","kind","thing"] AH
abbrev HP:Stmt:=i0 63
def HQ:MS :=
(fe (gW (NT (g0 "State" "stack" (ew 0))))
(fe (vt (iz (sO (vo (eS ["State"] "stack" (bS 0)))))
(fe (hY "State" "ended" (ew 0) (kc (i9 (zC "given" (zQ (jx 2 ph (eK (bS 0) (zQ (bS 1)))))))))
(λ_ μ=>Y (.rt (.d .none) μ)))
qu)
(fe (ju (gg "State" "top" 1 gv (ew 0) eM) 2)
(fe (gW (gg "Call" "give_name" 3 fx (ew 2) (dr (qM ["Row"] "x" (Av (qM ["Outline"] "rows" (g0 "State" "outline" (ew 0))) (g0 "Call" "row" (ew 2)))) (dr (ew 1) eM))))
(hY "Call" "row" (ew 2) (Av (qM ["Flow"] "behind" (g0 "State" "flow" (ew 0))) (g0 "Call" "row" (ew 2))))))))
def ti:mH:=ji ["state","value","call"] HQ
abbrev Fi:Stmt:=i0 62
def yR:MS :=
(gW (Mg 2 ti (dr (ew 0) (dr (gm (dC .none)) eM))))
def Fj:MS :=
(yK (iz (nT (vo (eS ["State"] "stack" (bS 0))) (fB (d2 uc (eS ["Call"] "row" (f6 "State" "top" 1 qT (bS 0) fg)) (dC .none))))) yR)
def oU:mH:=ji ["state"] Fj
abbrev yS:Stmt:=gn (i0 65) 0
def lF:MS :=
(fe (hY "Machine" "state" (ew 0) (qN "State" 4 jF (dr (ew 1) (dr (ew 2) (dr (ew 3) eM)))))
(fe (gW (Mg 3 oT (dr (g0 "Machine" "state" (ew 0)) (dr (gm (zA "main")) (dr (gm (i9 fg)) eM)))))
(gW (Mg 1 oU (dr (g0 "Machine" "state" (ew 0)) eM)))))
def iL:mH:=ji ["self","program","inputs","fuel"] lF
abbrev vB:Stmt:=gn (i0 41) 2
def vC:c7->Option gk :=
(fC (d2 nV (eS ["Call"] "named" (zX (eS ["State"] "stack" (bS 0)) (zI (-1)))) (bS 1)))
def fq:Lp->Od:=ic ["self","name"] vC
abbrev Le:Stmt:=i0 31
def Lf:c7->Option gk :=
(eJ (iY (fB (d2 jN (zX (bS 1) (zI 0)) (zA "mark")))
(fC (zA "mark"))
fY)
(fC (eS ["Thing"] "form" (f6 "State" "thing_of" 2 kx (bS 0) (zQ (bS 1))))))
def BJ:Lp->Od:=ic ["state","value"] Lf
abbrev HR:Stmt:=i0 5
def AI:c7->Option gk :=
(eJ (fW (gZ [] (jx 2 iC (eK (bS 4) (zQ (bS 3))))) 5)
(iY (fB (d2 uX (bS 5) (bS 1)))
(fC (bS 5))
fY))
def HS:c7->Option gk :=
(eJ (so (PQ [] (oJ (jx 2 lA (eK (bS 0) (zQ (bS 2)))))) (.one 4) AI)
(fC (dC .none)))
def yU:Lp->Od:=ic ["table","heads","kind","method","one","body"] HS
abbrev wY:Stmt:=gn (i0 37) 1
def wZ:c7->Option gk :=
(fC (jx 4 yU (eK (eS ["Outline"] "table" (bS 0)) (eK (eS ["Outline"] "heads" (bS 0)) (eK (bS 1) (zQ (bS 2)))))))
def qk:Lp->Od:=ic ["self","kind","method"] wZ
abbrev Lg:Stmt:=i0 32
def Lh:c7->Option gk :=
(eJ (iY (fB (d2 jN (eS ["Row"] "word" (bS 1)) (zA "do")))
(fC (f6 "Outline" "made_function" 2 jl (eS ["State"] "outline" (bS 0)) (zQ (eS ["Call","Thing"] "row" (f6 "State" "thing_of" 2 kx (bS 0) (zQ (bS 2)))))))
fY)
(eJ (iY (fB (d2 jN (eS ["Row"] "word" (bS 1)) (zA "ask")))
(fC (f6 "Outline" "found" 3 qk (eS ["State"] "outline" (bS 0)) (eK (f6 "State" "kind_of" 2 kS (bS 0) (zQ (bS 2))) (zQ (eS ["Row"] "method" (bS 1))))))
fY)
(fC (jx 2 iC (eK (eS ["Row"] "kind" (bS 1)) (zQ (eS ["Row"] "method" (bS 1))))))))
def vD:Lp->Od:=ic ["state","row","value"] Lh
abbrev w8:Stmt:=gn (i0 37) 2
def w9:c7->Option gk :=
(fC (su (d2 uX (bS 1) (eS ["Outline"] "params" (bS 0))) (d2 jN (zN (zX (eS ["Outline"] "params" (bS 0)) (bS 1))) (zN (eS ["Row"] "handed" (bS 2))))))
def ql:Lp->Od:=ic ["self","body","row"] w9
abbrev Di:Stmt:=i0 30
def Dj:c7->Option gk :=
(eJ (iY (fB (d2 uc (bS 2) (dC .none)))
(fC (zA "none"))
fY)
(eJ (iY (fB (d2 v5 (jx 2 BJ (eK (bS 0) (zQ (bS 2)))) (λρ=>((eS ["Row"] "word" (bS 1)) ρ).bind (Hu xS))))
(fC (zA "sort"))
fY)
(eJ (iY (nT (fB (d2 kR (eS ["Row"] "field" (bS 1)) (dC .none))) (fB (d2 nX (eS ["Row"] "field" (bS 1)) (zX (eS ["Outline"] "fields" (eS ["State"] "outline" (bS 0))) (f6 "State" "kind_of" 2 kS (bS 0) (zQ (bS 2)))))))
(fC (zA "field"))
fY)
(eJ (iY (fB (d2 uX (eS ["Row"] "word" (bS 1)) (dC (.tuple [(.str "do"),(.str "ask"),(.str "straight")]))))
(eJ (fW (gZ [] (jx 3 vD (eK (bS 0) (eK (bS 1) (zQ (bS 2)))))) 3)
(eJ (iY (fB (d2 uc (bS 3) (dC .none)))
(fC (zA "method"))
fY)
(iY (sO (vo (f6 "Outline" "takes" 3 ql (eS ["State"] "outline" (bS 0)) (eK (bS 3) (zQ (bS 1))))))
(fC (zA "count"))
fY)))
fY)
(fC (dC .none))))))
def uz:Lp->Od:=ic ["state","row","value","goal"] Dj
abbrev N5:Stmt:=i0 29
def N6:c7->Option gk :=
(eJ (fW (gZ [] (zX (eS ["Outline"] "rows" (eS ["State"] "outline" (bS 0))) (bS 1))) 2)
(eJ (iY (fB (λρ=>((eS ["Row"] "word" (bS 2)) ρ).bind (BI xS)))
(fC (dC .none))
fY)
(eJ (fW (gZ [] (f6 "State" "value_of" 2 fq (bS 0) (zQ (eS ["Row"] "y" (bS 2))))) 3)
(eJ (fW (gZ [] (jx 3 uz (eK (bS 0) (eK (bS 2) (zQ (bS 3)))))) 4)
(eJ (iY (fB (d2 kR (bS 4) (dC .none)))
(fC (i9 (zC "fault" (eK (bS 1) (zQ (bS 4))))))
fY)
(eJ (iY (nT (fB (d2 uX (eS ["Row"] "word" (bS 2)) (dC (.tuple [(.str "do"),(.str "ask"),(.str "straight")])))) (fB (d2 Y1 (zN (eS ["State"] "stack" (bS 0))) (zI 30))))
vc
fY)
(fC (dC .none))))))))
def Fm:Lp->Od:=ic ["state","number","row","value","word"] N6
abbrev Fo:Stmt:=i0 61
def yV:c7->Option Bool:=(λ_=>Y true)
def yW:c7->Od:=(f6 "State" "value_of" 2 fq (bS 1) (zQ (bS 0)))
def yX:MS :=
(gW (gg "Call" "give_name" 3 fx (ew 6) (dr (ew 7) (dr (ew 8) eM))))
def yY:MS :=
(gW (gg "Call" "give_name" 3 fx (ew 6) (dr (ew 9) (dr (ew 8) eM))))
def Fp:MS :=
(fe (ju (kc (f6 "State" "value_of" 2 fq (bS 0) (zQ (eS ["Row"] "y" (bS 1))))) 3)
(fe (ju (kc (jx 3 vD (eK (bS 0) (eK (bS 1) (zQ (bS 3)))))) 4)
(fe (ju (N3 (lu (wJ (eS ["Row"] "handed" (bS 1))) [(0,"state")] yV yW)) 5)
(fe (ju (Mg 3 oT (dr (ew 0) (dr (ew 4) (dr (kc (d2 i5 (eS ["Call"] "path" (f6 "State" "top" 1 qT (bS 0) fg)) (i9 (zQ (bS 2))))) eM)))) 6)
(fe (vu (N2 (Av (qM ["Outline"] "params" (g0 "State" "outline" (ew 0))) (ew 4)) (ew 5)) (.many [7,8]) yX)
(fe (vt (iz (fB (d2 v5 (eS ["Row"] "word" (bS 1)) (zA "do"))))
(fe (gW (gg "Call" "give_name" 3 fx (ew 6) (dr (gm (zA "self")) (dr (ew 3) eM))))
(λ_ μ=>Y (.rt (.d .none) μ)))
qu)
(Td (g0 "Thing" "slots" (gg "State" "thing_of" 2 gJ (ew 0) (dr (ew 3) eM))) (.many [9,8]) yY)))))))
def wx:mH:=ji ["state","row","number","value","body","handed","call","name","one","kept"] Fp
abbrev Dk:Stmt:=gn (i0 40) 0
def Dl:MS :=
(fe (hY "Thing" "row" (ew 0) (ew 1))
(fe (hY "Thing" "path" (ew 0) (ew 2))
(fe (hY "Thing" "form" (ew 0) (ew 3))
(fe (hY "Thing" "slots" (ew 0) oM)
(hY "Thing" "members" (ew 0) pI)))))
def uA:mH:=ji ["self","row","path","form"] Dl
abbrev tj:Stmt:=gn (i0 41) 5
def tm:MS :=
(fe (gW (ko (g0 "State" "made" (ew 0)) (qN "Thing" 4 uA (dr (ew 1) (dr (g0 "Call" "path" (gg "State" "top" 1 gv (ew 0) eM)) (dr (ew 2) eM))))))
(sT (kc (i9 (zC "thing" (zQ (d2 Kz (zN (eS ["State"] "made" (bS 0))) (zI 1))))))))
def jG:mH:=ji ["self","row","form"] tm
abbrev N7:Stmt:=i0 44
def Fq:MS :=
(rR (g0 "Thing" "slots" (ew 4)) (ew 5) (gm (dC .none)))
def N8:MS :=
(fe (ju (gg "State" "make_thing" 3 jG (ew 0) (dr (ew 2) (dr (gm (zA "record")) eM))) 3)
(fe (ju (gg "State" "thing_of" 2 gJ (ew 0) (dr (ew 3) eM)) 4)
(fe (vu (NU (Av (qM ["Outline"] "fields" (g0 "State" "outline" (ew 0))) (gm (eS ["Row"] "kind" (bS 1))))) (.one 5) Fq)
(gW (gg "Call" "give_name" 3 fx (gg "State" "top" 1 gv (ew 0) eM) (dr (gm (eS ["Row"] "x" (bS 1))) (dr (ew 3) eM)))))))
def Fs:mH:=ji ["state","row","number","value","thing","field"] N8
abbrev yZ:Stmt:=i0 45
def y0:MS :=
(gW (gg "Call" "give_name" 3 fx (gg "State" "top" 1 gv (ew 0) eM) (dr (gm (eS ["Row"] "x" (bS 1))) (dr (gg "State" "make_thing" 3 jG (ew 0) (dr (ew 2) (dr (gm (zA "row")) eM))) eM))))
def qU:mH:=ji ["state","row","number"] y0
abbrev Li:Stmt:=i0 46
def Dm:MS :=
(rR (g0 "Thing" "slots" (ew 4)) (ew 5) (kc (f6 "State" "value_of" 2 fq (bS 0) (zQ (bS 6)))))
def Lj:MS :=
(fe (ju (gg "State" "make_thing" 3 jG (ew 0) (dr (ew 2) (dr (gm (zA "func")) eM))) 3)
(fe (ju (gg "State" "thing_of" 2 gJ (ew 0) (dr (ew 3) eM)) 4)
(fe (vu (N2 (Av (qM ["Outline"] "kept" (g0 "State" "outline" (ew 0))) (gm (eS ["Row"] "function" (bS 1)))) (gm (eS ["Row"] "handed" (bS 1)))) (.many [5,6]) Dm)
(gW (gg "Call" "give_name" 3 fx (gg "State" "top" 1 gv (ew 0) eM) (dr (gm (eS ["Row"] "x" (bS 1))) (dr (ew 3) eM)))))))
def BK:mH:=ji ["state","row","number","value","thing","kept","name"] Lj
abbrev Lk:Stmt:=i0 47
def Ll:MS :=
(gW (gg "Call" "give_name" 3 fx (gg "State" "top" 1 gv (ew 0) eM) (dr (gm (eS ["Row"] "x" (bS 1))) (dr (kc (f6 "State" "value_of" 2 fq (bS 0) (zQ (eS ["Row"] "y" (bS 1))))) eM))))
def BL:mH:=ji ["state","row","number"] Ll
abbrev Lm:Stmt:=i0 48
def Ln:MS :=
(fe (ju (gg "State" "thing_of" 2 gJ (ew 0) (dr (kc (f6 "State" "value_of" 2 fq (bS 0) (zQ (eS ["Row"] "y" (bS 1))))) eM)) 3)
(gW (gg "Call" "give_name" 3 fx (gg "State" "top" 1 gv (ew 0) eM) (dr (gm (eS ["Row"] "x" (bS 1))) (dr (Av (g0 "Thing" "slots" (ew 3)) (gm (eS ["Row"] "field" (bS 1)))) eM)))))
def BM:mH:=ji ["state","row","number","thing"] Ln
abbrev N9:Stmt:=i0 49
def Oa:MS :=
(fe (ju (gg "State" "thing_of" 2 gJ (ew 0) (dr (kc (f6 "State" "value_of" 2 fq (bS 0) (zQ (eS ["Row"] "y" (bS 1))))) eM)) 3)
(rR (g0 "Thing" "slots" (ew 3)) (gm (eS ["Row"] "field" (bS 1))) (kc (f6 "State" "value_of" 2 fq (bS 0) (zQ (eS ["Row"] "x" (bS 1)))))))
def Ft:mH:=ji ["state","row","number","thing"] Oa
abbrev Lo:Stmt:=i0 50
def Lq:MS :=
(fe (ju (gg "State" "thing_of" 2 gJ (ew 0) (dr (kc (f6 "State" "value_of" 2 fq (bS 0) (zQ (eS ["Row"] "y" (bS 1))))) eM)) 3)
(gW (ko (g0 "Thing" "members" (ew 3)) (kc (f6 "State" "value_of" 2 fq (bS 0) (zQ (eS ["Row"] "x" (bS 1))))))))
def BN:mH:=ji ["state","row","number","thing"] Lq
abbrev Ls:Stmt:=i0 51
def Lu:MS :=
(fe (ju (gg "State" "thing_of" 2 gJ (ew 0) (dr (kc (f6 "State" "value_of" 2 fq (bS 0) (zQ (eS ["Row"] "y" (bS 1))))) eM)) 3)
(fe (ju (gm (dC .none)) 4)
(fe (vt (iz (vo (eS ["Thing"] "members" (bS 3))))
(ju (NT (g0 "Thing" "members" (ew 3))) 4)
qu)
(gW (gg "Call" "give_name" 3 fx (gg "State" "top" 1 gv (ew 0) eM) (dr (gm (eS ["Row"] "x" (bS 1))) (dr (ew 4) eM)))))))
def BO:mH:=ji ["state","row","number","thing","value"] Lu
abbrev Lv:Stmt:=i0 52
def Ly:MS :=
(gW (ko (g0 "State" "shown_texts" (ew 0)) (kc (jx 2 ph (eK (bS 0) (zQ (f6 "State" "value_of" 2 fq (bS 0) (zQ (eS ["Row"] "x" (bS 1))))))))))
def BP:mH:=ji ["state","row","number"] Ly
abbrev Dn:Stmt:=i0 53
def Dp:MS :=
qu
def p6:mH:=ji ["state","row","number"] Dp
abbrev Fv:Stmt:=i0 2
def Fw:c7->Option gk :=
(fC (Zb (wc (UQ (bS 0)) (wc (zA ".") (wc (UQ (bS 1)) (λ_=>Y Str.empty))))))
def oV:Lp->Od:=ic ["name","field"] Fw
abbrev HU:Stmt:=i0 54
def AJ:MS :=
(gW (gg "Call" "give_name" 3 fx (gg "State" "top" 1 gv (ew 0) eM) (dr (gm (jx 2 oV (eK (eS ["Row"] "x" (bS 1)) (zQ (bS 3))))) (dr (gm (dC .none)) eM))))
def HV:MS :=
(fe (gW (gg "Call" "give_name" 3 fx (gg "State" "top" 1 gv (ew 0) eM) (dr (gm (eS ["Row"] "x" (bS 1))) (dr (gm (i9 (zC "mark" (zQ (eS ["Row"] "kind" (bS 1)))))) eM))))
(vu (NU (Av (qM ["Outline"] "fields" (g0 "State" "outline" (ew 0))) (gm (eS ["Row"] "kind" (bS 1))))) (.one 3) AJ))
def y1:mH:=ji ["state","row","number","field"] HV
abbrev Ob:Stmt:=i0 55
def Oc:MS :=
(gW (gg "Call" "give_name" 3 fx (gg "State" "top" 1 gv (ew 0) eM) (dr (gm (eS ["Row"] "x" (bS 1))) (dr (kc (f6 "State" "value_of" 2 fq (bS 0) (zQ (jx 2 oV (eK (eS ["Row"] "y" (bS 1)) (zQ (eS ["Row"] "field" (bS 1)))))))) eM))))
def Fx:mH:=ji ["state","row","number"] Oc
abbrev HW:Stmt:=i0 56
def HX:MS :=
(gW (gg "Call" "give_name" 3 fx (gg "State" "top" 1 gv (ew 0) eM) (dr (gm (jx 2 oV (eK (eS ["Row"] "y" (bS 1)) (zQ (eS ["Row"] "field" (bS 1)))))) (dr (kc (f6 "State" "value_of" 2 fq (bS 0) (zQ (eS ["Row"] "x" (bS 1))))) eM))))
def y2:mH:=ji ["state","row","number"] HX
abbrev Lz:Stmt:=i0 59
def LA:MS :=
CZ
def BQ:mH:=ji ["state","row","one","other"] LA
abbrev Oe:Stmt:=i0 58
noncomputable def JL:List (Str×Str×mH):=[("new","do_new",Fs),("row","do_row_thing",qU),("func","do_func",BK),("copy","do_copy",BL),("take","do_take",BM),("put","do_put",Ft),("push","do_push",BN),("pull","do_pull",BO),("tell","do_tell",BP),("rest","do_nothing",p6),("check","do_nothing",p6),("fresh","do_fresh",y1),("own","do_own",Fx),("place","do_place",y2)]
def Of:MS :=
(fe (ju (Av (qM ["Outline"] "rows" (g0 "State" "outline" (ew 0))) (ew 1)) 2)
(fe (ju (gg "State" "top" 1 gv (ew 0) eM) 3)
(fe (vt (iz (fB (d2 uX (eS ["Row"] "word" (bS 2)) (dC (.tuple [(.str "do"),(.str "ask"),(.str "straight")])))))
(gW (Mg 3 wx (dr (ew 0) (dr (ew 2) (dr (ew 1) eM)))))
(vt (iz (fB (d2 jN (eS ["Row"] "word" (bS 2)) (zA "give"))))
(gW (Mg 2 ti (dr (ew 0) (dr (kc (f6 "State" "value_of" 2 fq (bS 0) (zQ (eS ["Row"] "x" (bS 2))))) eM))))
(vt (Tb (iz (fB (d2 uX (eS ["Row"] "word" (bS 2)) (dC (.tuple [(.str "if"),(.str "while")]))))) (S8 (EY (Mg 2 BQ (dr (ew 0) (dr (ew 2) eM))))))
CZ
(fe (vt (iz (fB (λρ=>((eS ["Row"] "word" (bS 2)) ρ).bind (NW rB))))
(gW (S9 3 JL (gm (eS ["Row"] "word" (bS 2))) (dr (ew 0) (dr (ew 2) (dr (ew 1) eM)))))
qu)
(hY "Call" "row" (ew 3) (Av (qM ["Flow"] "behind" (g0 "State" "flow" (ew 0))) (ew 1)))))))
(gW (Mg 1 oU (dr (ew 0) eM))))))
def Fy:mH:=ji ["state","number","row","call"] Of
abbrev y3:Stmt:=gn (i0 65) 1
def y4:MS :=
(fe (ju (g0 "Machine" "state" (ew 0)) 1)
(fe (vt (iz (fB (d2 kR (eS ["State"] "ended" (bS 1)) (dC .none))))
(sT (gm (dC (.bool false))))
qu)
(fe (vt (iz (fB (d2 rQ (eS ["State"] "fuel" (bS 1)) (zI 0))))
(fe (hY "State" "ended" (ew 1) (gm (i9 (zC "dry" fg))))
(sT (gm (dC (.bool true)))))
qu)
(fe (JA "State" "fuel" (λi j=>i - j) (ew 1) (gm (zI 1)))
(fe (ju (g0 "Call" "row" (gg "State" "top" 1 gv (ew 1) eM)) 2)
(fe (hY "State" "ended" (ew 1) (kc (jx 2 Fm (eK (bS 1) (zQ (bS 2))))))
(fe (vt (iz (fB (d2 uc (eS ["State"] "ended" (bS 1)) (dC .none))))
(gW (Mg 2 Fy (dr (ew 1) (dr (ew 2) eM))))
qu)
(sT (gm (dC (.bool true)))))))))))
def lG:mH:=ji ["self","state","number"] y4
abbrev y7:Stmt:=gn (i0 65) 2
def y8:MS :=
(sT (Ta (g0 "State" "shown_texts" (g0 "Machine" "state" (ew 0)))))
def lH:mH:=ji ["self"] y8
abbrev AK:Stmt:=gn (i0 65) 3
def AM:c7->Option gk :=
(fC (eS ["State"] "ended" (eS ["Machine"] "state" (bS 0))))
def ml:Lp->Od:=ic ["self"] AM
abbrev AN:Stmt:=i0 66
def fI:MS :=
qu
def sC:MS :=
(fe (ju (qN "Machine" 4 iL (dr (ew 0) (dr (ew 1) (dr (ew 2) eM)))) 3)
(fe (yK (EY (gg "Machine" "step" 1 lG (ew 3) eM)) fI)
(sT (K4 (dr (gg "Machine" "told" 1 lH (ew 3) eM) (dr (kc (f6 "Machine" "end" 1 ml (bS 3) fg)) eM))))))
def jX:Lp->Od:=BH ["program","inputs","fuel","machine"] sC
abbrev y9:Stmt:=gn (i0 75) 0
def za:c7->Option gk :=
(eJ (EE 0 "Reading" "fields" (gZ [0] (dC (.dict []))))
(eJ (EE 0 "Reading" "heads" (gZ [0] (dC (.dict []))))
(eJ (jy 0 "Reading" "body" (gZ [0] (dC .none)))
(eJ (EE 0 "Reading" "blocks" (gZ [0] (fN fg)))
(eJ (jy 0 "Reading" "over" (gZ [0] (dC (.bool false))))
(EE 0 "Reading" "later" (gZ [0] (fN fg))))))))
def oh:Lp->Option (eD×eD):=pD ["self"] za
abbrev xa:Stmt:=i0 72
def fy:c7->Option gk :=
(eJ (fW (gZ [1] (yy iK (bS 5) (zC " " fg))) 6)
(iY (fB (d2 jN (zX (bS 6) (zI 0)) (zA "end")))
(KL 3 (λi j=>i - j) (gZ [1] (zI 1)))
(iY (fB (d2 Uz (bS 3) (zI 0)))
(eJ (iY (fB (d2 v5 (zX (bS 6) (zI 0)) (zA "else")))
(wK (.sl 1) (Nl (zN (bS 1))) (gZ [1] (i9 (eK (bS 4) (eK (bS 6) (zQ (bS 2)))))))
fY)
(iY (fB (d2 uX (zX (bS 6) (zI 0)) (dC (.tuple [(.str "if"),(.str "while")]))))
(KL 3 (λi j=>i+j) (gZ [1] (zI 1)))
fY))
(iY (fB (d2 v5 (zX (bS 6) (zI 0)) (zA "kind")))
(eJ (fW (gZ [1] (jx 1 gu (zQ (bS 6)))) 2)
(fW (gZ [1] (zI 1)) 3))
fY))))
def qm:c7->Option gk :=
(eJ (pC (gZ [1] (dC (.dict []))) 1)
(eJ (fW (gZ [1] (dC .none)) 2)
(eJ (fW (gZ [1] (zI 0)) 3)
(eJ (so (PQ [1] (Jq (yy iK (bS 0) (zC "\n" fg)))) (.many [4,5]) fy)
(fC (bS 1))))))
def jS:Lp->Od:=ic ["text","rows","body","depth","line","row","words"] qm
abbrev zb:Stmt:=gn (i0 71) 0
def qV:c7->Option gk :=
(eJ (jy 0 "Program" "text" (gZ [0] (bS 1)))
(eJ (jy 0 "Program" "numbered" (gZ [0] (jx 1 jS (zQ (bS 1)))))
(jy 0 "Program" "body_texts" (UL (jP kD (zQ (jx 1 iA (zQ (bS 0)))))))))
def ke:Lp->Option (eD×eD):=pD ["self","text"] qV
abbrev qW:Stmt:=i0 85
def kf:c7->Option gk :=
(eJ (iY (fB (d2 jN (eS ["Row"] "word" (bS 1)) (zA "straight")))
(fC (d2 uX (jx 2 iC (eK (eS ["Row"] "kind" (bS 1)) (zQ (eS ["Row"] "method" (bS 1))))) (eS ["Reading"] "heads" (bS 0))))
fY)
(eJ (iY (Cy (fB (d2 jN (eS ["Row"] "function" (bS 1)) (zA "main"))) (fB (d2 nX (eS ["Row"] "function" (bS 1)) (eS ["Reading"] "heads" (bS 0)))))
(fC (dC (.bool false)))
fY)
(fC (d2 jN (zN (jx 1 k7 (zQ (zX (eS ["Reading"] "heads" (bS 0)) (eS ["Row"] "function" (bS 1)))))) (zN (eS ["Row"] "handed" (bS 1)))))))
def hZ:Lp->Od:=ic ["reading","row"] kf
abbrev AO:Stmt:=i0 83
def mn:c7->Option gk :=
(eJ (iY (vo (eS ["Reading"] "blocks" (bS 0)))
(eJ (QI (.fl 0 "Reading" "blocks"))
Nq)
fY)
(eJ (jy 0 "Reading" "over" (Nl (d2 jN (eS ["Reading"] "body" (bS 0)) (zA "main"))))
(jy 0 "Reading" "body" (gZ [0] (dC .none)))))
def jY:Lp->Option (eD×eD):=pD ["reading"] mn
abbrev xb:Stmt:=i0 84
def mO:c7->Option gk :=
(eJ (iY (Cy (sO (vo (eS ["Reading"] "blocks" (bS 0)))) (fB (d2 v5 (zX (eS ["Reading"] "blocks" (bS 0)) (zI (-1))) (zA "if"))))
(mU (dC (.bool false)))
fY)
(eJ (wK (.fl 0 "Reading" "blocks") (gZ [0] (zI (-1))) (gZ [0] (zA "else")))
(mU (dC (.bool true)))))
def kT:Lp->Option (eD×eD):=pD ["reading"] mO
abbrev Dq:Stmt:=i0 21
def jT:c7->Option gk :=
(iY (sO (vi rQ rQ (zA "a") (bS 1) (zA "z")))
(fC (dC (.bool false)))
fY)
def uB:c7->Option gk :=
(eJ (so (PQ [] (oJ (bS 0))) (.one 1) jT)
(fC (d2 v5 (bS 0) (zA ""))))
def nB:Lp->Od:=ic ["word","sign"] uB
abbrev LB:Stmt:=i0 22
def BR:c7->Option gk :=
(fC (su (d2 rQ (zN (bS 0)) (zI 8)) (jx 1 nB (zQ (bS 0)))))
def nP:Lp->Od:=ic ["word"] BR
abbrev Og:Stmt:=i0 23
def wy:c7->Option Bool:=(λ_=>Y true)
def wz:c7->Od:=(jx 1 nP (zQ (bS 0)))
def Oh:c7->Option gk :=
(eJ (iY (Cy (sO (vo (bS 0))) (sO (vo (jP NF (zQ (lu (wJ (bS 0)) [] wy wz))))))
(fC (dC (.bool false)))
fY)
(eJ (fW (gZ [] (jx 1 rD (zQ (bS 0)))) 1)
(eJ (iY (fB (d2 uc (bS 1) (dC .none)))
(fC (dC (.bool false)))
fY)
(eJ (iY (nT (vo (bS 1)) (fB (d2 jN (zX (bS 1) (zI (-1))) (zA "A"))))
(fC (d2 Y1 (zN (bS 0)) (zN (bS 1))))
fY)
(fC (d2 jN (zN (bS 0)) (d2 i5 (zN (bS 1)) (zI 1))))))))
def uC:Lp->Od:=ic ["words","form"] Oh
abbrev zc:Stmt:=i0 82
def jm:c7->Option gk :=
(eJ (iY (fB (d2 jN (bS 2) (fN (zC "end" fg))))
(eJ (Hj (yv [0] 0 1 jY fg))
(mU (dC (.bool true))))
fY)
(eJ (iY (fB (d2 jN (bS 2) (fN (zC "else" fg))))
(EG (yv [0] 0 1 kT fg))
fY)
(eJ (iY (sO (vo (jx 1 uC (zQ (bS 2)))))
(mU (dC (.bool false)))
fY)
(eJ (fW (gZ [0] (yt "Row" 2 n8 (zQ (bS 2)))) 3)
(eJ (iY (nT (fB (d2 kR (eS ["Row"] "kind" (bS 3)) (dC .none))) (fB (d2 nX (eS ["Row"] "kind" (bS 3)) (eS ["Reading"] "fields" (bS 0)))))
(mU (dC (.bool false)))
fY)
(eJ (iY (fB (d2 uX (eS ["Row"] "word" (bS 3)) (dC (.tuple [(.str "if"),(.str "while")]))))
(oG (.fl 0 "Reading" "blocks") (gZ [0] (eS ["Row"] "word" (bS 3))))
fY)
(eJ (iY (fB (d2 uX (eS ["Row"] "word" (bS 3)) (i9 (zC "func" (zC "straight" fg)))))
(oG (.fl 0 "Reading" "later") (gZ [0] (i9 (eK (bS 1) (zQ (bS 3))))))
fY)
(mU (d2 rQ (zN (eS ["Reading"] "blocks" (bS 0))) (zI 8))))))))))
def gw:Lp->Option (eD×eD):=pD ["reading","line","words","row"] jm
abbrev HY:Stmt:=i0 81
def ze:c7->Option gk :=
(fC (d2 jN (CP (bS 0)) (zN (bS 0))))
def oj:Lp->Od:=ic ["names"] ze
abbrev Dr:Stmt:=i0 78
def p7:c7->Option gk :=
(eJ (iY (Cy (vo (eS ["Reading"] "heads" (bS 0))) (Cy (fB (d2 KA (zN (bS 1)) (zI 2))) (fB (d2 uX (zX (bS 1) (zI 1)) (eS ["Reading"] "fields" (bS 0))))))
(mU (dC (.bool false)))
fY)
(eJ (fW (gZ [0,3] (j3 (bS 1) (kK (zI 2)) kJ)) 2)
(eJ (pC (gZ [0,3] (fN fg)) 3)
(eJ (iY (nT (vo (bS 2)) (fB (d2 jN (zX (bS 2) (zI 0)) (zA "of"))))
(eJ (iY (Cy (fB (d2 KA (zN (bS 2)) (zI 2))) (fB (d2 nX (zX (bS 2) (zI 1)) (eS ["Reading"] "fields" (bS 0)))))
(mU (dC (.bool false)))
fY)
(eJ (pC (UL (jP kD (zQ (zX (eS ["Reading"] "fields" (bS 0)) (zX (bS 2) (zI 1)))))) 3)
(fW (gZ [0,3] (j3 (bS 2) (kK (zI 2)) kJ)) 2)))
fY)
(eJ (iY (nT (vo (bS 2)) (Cy (fB (d2 v5 (zX (bS 2) (zI 0)) (zA "fields"))) (fB (d2 KA (zN (bS 2)) (zI 2)))))
(mU (dC (.bool false)))
fY)
(eJ (tT (.sl 3) (gZ [0,3] (tW (bS 2) (kK (zI 1)) kJ)))
(QW 3 (eJ (wK (.fl 0 "Reading" "fields") (gZ [0] (zX (bS 1) (zI 1))) (gZ [0] (bS 3)))
(mU (jx 1 oj (zQ (bS 3))))))))))))
def nE:Lp->Option (eD×eD):=pD ["reading","words","behind","fields"] p7
abbrev uD:Stmt:=i0 80
def uE:c7->Option gk :=
(eJ (iY (nT (fB (d2 jN (zX (bS 0) (zI 0)) (zA "func"))) (nT (fB (d2 uX (zA "keeps") (j3 (bS 0) (kK (zI 2)) kJ))) (sO (vo (jx 1 k7 (zQ (bS 0)))))))
(fC (dC (.bool false)))
fY)
(eJ (fW (gZ [] (d2 i5 (jx 1 pf (zQ (bS 0))) (jx 1 k7 (zQ (bS 0))))) 1)
(fC (su (d2 nX (zA "self") (bS 1)) (jx 1 oj (zQ (bS 1)))))))
def lI:Lp->Od:=ic ["words","names"] uE
abbrev LC:Stmt:=i0 79
def LD:c7->Option gk :=
(eJ (iY (fB (d2 jN (zX (bS 1) (zI 0)) (zA "func")))
(fC (su (d2 Uz (zN (bS 1)) (zI 1)) (su (d2 v5 (zX (bS 1) (zI 1)) (zA "main")) (jx 1 lI (zQ (bS 1))))))
fY)
(eJ (iY (fB (d2 jN (zX (bS 1) (zI 0)) (zA "method")))
(fC (su (d2 Uz (zN (bS 1)) (zI 2)) (su (d2 uX (zX (bS 1) (zI 1)) (eS ["Reading"] "fields" (bS 0))) (jx 1 lI (zQ (bS 1))))))
fY)
(fC (d2 jN (bS 1) (fN (zC "main" fg))))))
def vE:Lp->Od:=ic ["reading","words"] LD
abbrev Fz:Stmt:=i0 77
def mB:c7->Option gk :=
(eJ (iY (vo (eS ["Reading"] "over" (bS 0)))
(mU (dC (.bool false)))
fY)
(eJ (iY (fB (d2 kR (eS ["Reading"] "body" (bS 0)) (dC .none)))
(EG (yv [0] 0 3 gw (eK (bS 1) (zQ (bS 2)))))
fY)
(eJ (iY (fB (d2 jN (zX (bS 2) (zI 0)) (zA "kind")))
(EG (yv [0] 0 2 nE (zQ (bS 2))))
fY)
(eJ (iY (Cy (sO (vo (jx 2 vE (eK (bS 0) (zQ (bS 2)))))) (fB (d2 uX (jx 1 gu (zQ (bS 2))) (eS ["Reading"] "heads" (bS 0)))))
(mU (dC (.bool false)))
fY)
(eJ (jy 0 "Reading" "body" (gZ [0] (jx 1 gu (zQ (bS 2)))))
(eJ (wK (.fl 0 "Reading" "heads") (Nl (eS ["Reading"] "body" (bS 0))) (gZ [0] (bS 2)))
(mU (dC (.bool true)))))))))
def gK:Lp->Option (eD×eD):=pD ["reading","line","words"] mB
abbrev zf:Stmt:=i0 76
def oW:c7->Option Bool:=(λ_=>Y true)
def oX:c7->Od:=(yy iK (bS 0) (zC " " fg))
def oY:c7->Option Bool:=(λ_=>Y true)
def oZ:c7->Od:=(jx 1 nP (zQ (bS 0)))
def iX:c7->Option gk :=
(QP (Za (sO (vo (jP NF (zQ (lu (wJ (bS 4)) [] oY oZ))))) (UN (hT (yv [1] 1 3 gK (eK (bS 3) (zQ (bS 4)))))))
vc
fY)
def j8:c7->Option gk :=
(iY (sO (vo (jx 2 hZ (eK (bS 1) (zQ (bS 5))))))
vc
fY)
def qX:c7->Option gk :=
(eJ (pC (gZ [1] (yt "Reading" 1 oh fg)) 1)
(eJ (fW (gZ [1] (lu (wJ (yy iK (bS 0) (zC "\n" fg))) [] oW oX)) 2)
(eJ (so (PQ [1] (Jq (bS 2))) (.many [3,4]) iX)
(eJ (iY (sO (vo (eS ["Reading"] "over" (bS 1))))
vc
fY)
(QW 1 (eJ (so (PQ [] (oJ (eS ["Reading"] "later" (bS 1)))) (.many [3,5]) j8)
(fC (yt "Program" 2 ke (zQ (bS 0))))))))))
def iM:Lp->Od:=ic ["text","reading","rows","line","words","row"] qX
abbrev Ds:Stmt:=i0 87
def Dt:c7->Option gk :=
(eJ (fW (gZ [] (fN (eK (fN fg) (eK (fN (zC "new y ka" fg)) (eK (fN (zC "new y kb" fg)) (eK (fN (zC "row y" fg)) (eK (fN (zC "func y fa" fg)) (eK (fN (zC "fresh y ka" fg)) (zQ (fN (zC "fresh y kb" fg))))))))))) 1)
(fC (zX (bS 1) (bS 0))))
def nH:Lp->Od:=ic ["_law_sort","_law_some"] Dt
abbrev FA:Stmt:=i0 91
def qY:c7->Option gk :=
(eJ (fW (gZ [] (d2 rM (bS 0) (zI 7))) 1)
(eJ (fW (gZ [] (d2 rM (d2 tN (bS 0) (zI 7)) (zI 14))) 2)
(eJ (fW (gZ [] (zX (fN (zC "f" (zC "h" (zC "g" fg)))) (d2 rM (d2 tN (bS 0) (zI 98)) (zI 3)))) 3)
(eJ (fW (gZ [] (zX (fN (zC "m" (zC "m" (zC "n" fg)))) (d2 rM (d2 tN (bS 0) (zI 294)) (zI 3)))) 4)
(eJ (fW (gZ [] (zX (fN (eK (zI 1) (eK (zI 0) (eK (zI 1) (zQ (zI 2)))))) (d2 rM (d2 tN (bS 0) (zI 882)) (zI 4)))) 5)
(eJ (fW (gZ [] (jx 4 pL (eK (bS 2) (eK (bS 3) (eK (bS 4) (zQ (bS 5))))))) 6)
(eJ (fW (gZ [] (d2 K0 (fN (zC "rest" fg)) (d2 rM (d2 tN (bS 0) (zI 3528)) (zI 3)))) 7)
(eJ (fW (gZ [] (fN (zC "kind ka fields f" (zC "kind kb of ka fields h" fg)))) 8)
(eJ (fW (gZ [] (fN (zC "func fa p" (zC "give p" (zC "end" (zC "method ka m p" (zC "tell self" (zC "give self" (zC "end" (zC "method kb o p" (zC "end" fg))))))))))) 9)
(eJ (fW (gZ [] (d2 i5 (d2 i5 (bS 7) (jx 1 nH (zQ (bS 1)))) (fN (zQ (yy qf (zA " ") (zQ (bS 6))))))) 10)
(eJ (fW (gZ [] (d2 i5 (d2 i5 (d2 i5 (d2 i5 (bS 8) (bS 9)) (fN (zC "main" fg))) (bS 10)) (fN (zC "tell x" (zC "end" fg))))) 11)
(eJ (fW (gZ [] (jx 5 p4 (eK (bS 6) (eK (bS 1) (eK (bS 3) (eK (bS 4) (zQ (bS 5)))))))) 12)
(eJ (fW (gZ [] (zX (fN (zC "none" (zC "ka" (zC "kb" (zC "row" (zC "fa" (zC "ka" (zC "kb" fg)))))))) (bS 1))) 13)
(eJ (fW (gZ [] (d2 Kz (d2 i5 (zI 3) (zN (bS 10))) (zI 1))) 14)
(eJ (fW (gZ [] (jx 3 jX (eK (jx 1 iM (zQ (yy qf (zA "\n") (zQ (bS 11))))) (eK (fN fg) (zQ (zI 50)))))) 15)
(eJ (iY (fB (d2 v5 (bS 12) (zA "")))
(fC (d2 jN (bS 15) (i9 (eK (fN fg) (zQ (i9 (zC "fault" (eK (bS 14) (zQ (bS 12))))))))))
fY)
(eJ (iY (fB (d2 jN (zX (bS 6) (zI 0)) (zA "give")))
(fC (d2 jN (bS 15) (i9 (eK (fN fg) (zQ (i9 (zC "given" (zQ (bS 13)))))))))
fY)
(eJ (iY (Cy (fB (d2 jN (zX (bS 6) (zI 0)) (zA "ask"))) (nT (fB (d2 jN (zX (bS 6) (zI 0)) (zA "straight"))) (fB (d2 jN (zX (bS 6) (zI 4)) (zA "m")))))
(fC (d2 jN (bS 15) (i9 (eK (fN (eK (bS 13) (zQ (bS 13)))) (zQ (i9 (zC "given" (zC "none" fg))))))))
fY)
(fC (d2 jN (bS 15) (i9 (eK (fN (zQ (zX (fN (eK (bS 13) (zC "none" fg))) (jP yE (zQ (d2 v5 (zX (bS 6) (zI 0)) (zA "copy"))))))) (zQ (i9 (zC "given" (zC "none" fg))))))))))))))))))))))))))
def o2:Lp->Od:=ic ["_law_cell","_law_sort","_law_form","_law_f","_law_method","_law_many","_law_words","_law_ahead","_law_kinds","_law_bodies","_law_rows","_law_lines","_law_word_here","_law_shown","_law_number","_law_found"] qY
abbrev XO:Stmt:=i0 92
def uF:c7->Option Bool:=(λ_=>Y true)
def om:c7->Od:=(jx 1 o2 (zQ (bS 0)))
def Te:c7->Option gk :=
(fC (jP NF (zQ (lu (wJ (d2 i5 (fN (zQ (zI 0))) (j3 (bS 0) kJ (kK (zI 63))))) [] uF om))))
def JM:Lp->Od:=ic ["_law_script"] Te
structure Md (P:Program) (w:World) (K:Fg) (mg:Str->Ow):Prop where
 all:mg "all"=Z
 dict:mg "dict"=Z
 enumerate:mg "enumerate"=Z
 int:mg "int"=Z
 len:mg "len"=Z
 list:mg "list"=Z
 range:mg "range"=Z
 reversed:mg "reversed"=Z
 set:mg "set"=Z
 zip:mg "zip"=Z
 FC:fQ K "Call" "body"
 nJ:fQ K "Call" "named"
 qZ:fQ K "Call" "path"
 jH:fQ K "Call" "row"
 mq:fQ K "Flow" "behind"
 p8:fQ K "Flow" "first"
 lY:fQ K "Flow" "otherwise"
 iU:fQ K "Machine" "state"
 jn:fQ K "Outline" "fields"
 jU:fQ K "Outline" "heads"
 qo:fQ K "Outline" "homes"
 oq:fQ K "Outline" "kept"
 kZ:fQ K "Outline" "own_rows"
 jo:fQ K "Outline" "params"
 iN:fQ K "Outline" "rows"
 kU:fQ K "Outline" "table"
 q0:fQ K "Program" "body_texts"
 jI:fQ K "Program" "numbered"
 q5:fQ K "Program" "text"
 gL:fQ K "Reading" "blocks"
 jq:fQ K "Reading" "body"
 hE:fQ K "Reading" "fields"
 ij:fQ K "Reading" "heads"
 mP:fQ K "Reading" "later"
 lJ:fQ K "Reading" "over"
 xc:fQ K "Row" "condition"
 kg:fQ K "Row" "field"
 jr:fQ K "Row" "function"
 lK:fQ K "Row" "handed"
 jJ:fQ K "Row" "kind"
 nK:fQ K "Row" "method"
 FD:fQ K "Row" "names"
 gd:fQ K "Row" "word"
 jf:fQ K "Row" "x"
 mr:fQ K "Row" "y"
 ja:fQ K "State" "ended"
 nL:fQ K "State" "flow"
 p9:fQ K "State" "fuel"
 zh:fQ K "State" "inputs"
 kz:fQ K "State" "made"
 fJ:fQ K "State" "outline"
 kE:fQ K "State" "shown_texts"
 hI:fQ K "State" "stack"
 Du:fQ K "State" "used"
 qa:fQ K "Thing" "form"
 kW:fQ K "Thing" "members"
 Dv:fQ K "Thing" "path"
 o3:fQ K "Thing" "row"
 jZ:fQ K "Thing" "slots"
 rB:yM P w K mg "DEEDS" rB
 j0:CT K mg "BLOCK_WORDS" (.tuple [(.str "if"),(.str "while")])
 vF:CT K mg "CALLERS" (.tuple [(.str "do"),(.str "ask"),(.str "straight")])
 uG:ly P w K mg "CONDITIONS" nu
 Rm:ly P w K mg "FORMS" Dd
 AQ:CT K mg "MOST_BLOCKS" (.int 8)
 Dw:CT K mg "MOST_CALLS" (.int 30)
 JN:ly P w K mg "SORTS" xS
 LF:gB K mg "_law_row" La
 xf:gB K mg "_law_sort_word" wQ
 HZ:gB K mg "_law_word" HI
 LG:gB K mg "form_of" Lc
 H7:gB K mg "parts_of" HK
 Ia:wM K mg "Row" "Row.__init__" HM
 tq:n5 K "Program" "row_body" "Program.row_body" sY
 xg:n5 K "Program" "shown" "Program.shown" wU
 xh:gB K mg "rows_of_words" wV
 tr:gB K mg "elder_and_fields" sZ
 Dx:gB K mg "kind_table" De
 AR:gB K mg "method_body" AD
 FI:gB K mg "head_body" E3
 Dy:gB K mg "body_heads" Df
 rX:n5 K "Program" "row_words" "Program.row_words" rS
 AU:gB K mg "head_params" AE
 FJ:gB K mg "head_kept" E4
 uH:gB K mg "kind_and_elders" uu
 FK:gB K mg "fields_by" E6
 rY:n5 K "Program" "many_rows" "Program.many_rows" rT
 zj:wM K mg "Outline" "Outline.__init__" yQ
 Dz:gB K mg "body_marks" Dg
 vG:n5 K "Flow" "join_rows" "Flow.join_rows" vv
 FN:wM K mg "Flow" "Flow.__init__" E8
 DA:wM K mg "State" "State.__init__" Dh
 FP:wM K mg "Call" "Call.__init__" E9
 FQ:gB K mg "call_body" Fc
 wA:n5 K "State" "top" "State.top" Fe
 vH:n5 K "Call" "give_name" "Call.give_name" vw
 uI:n5 K "Outline" "made_by" "Outline.made_by" ux
 rZ:n5 K "Outline" "made_kind" "Outline.made_kind" rV
 xi:n5 K "State" "kind_of" "State.kind_of" wW
 pO:n5 K "State" "thing_of" "State.thing_of" vy
 pP:n5 K "Outline" "made_function" "Outline.made_function" pM
 AV:gB K mg "shown_value" AG
 Ib:gB K mg "end_call" HP
 FR:gB K mg "end_calls" Fi
 zk:wM K mg "Machine" "Machine.__init__" yS
 vI:n5 K "State" "value_of" "State.value_of" vB
 LH:gB K mg "sort_of" Le
 Ic:gB K mg "found_by" HR
 xj:n5 K "Outline" "found" "Outline.found" wY
 LI:gB K mg "goal_of" Lg
 xk:n5 K "Outline" "takes" "Outline.takes" w8
 DB:gB K mg "fault_word" Di
 Oi:gB K mg "end_at" N5
 FT:gB K mg "call_goal" Fo
 DC:wM K mg "Thing" "Thing.__init__" Dk
 tu:n5 K "State" "make_thing" "State.make_thing" tj
 Oj:gB K mg "do_new" N7
 zm:gB K mg "do_row_thing" yZ
 LJ:gB K mg "do_func" Li
 LK:gB K mg "do_copy" Lk
 LL:gB K mg "do_take" Lm
 Ol:gB K mg "do_put" N9
 LM:gB K mg "do_push" Lo
 LN:gB K mg "do_pull" Ls
 LO:gB K mg "do_tell" Lv
 DD:gB K mg "do_nothing" Dn
 FU:gB K mg "own_field" Fv
 Ie:gB K mg "do_fresh" HU
 Om:gB K mg "do_own" Ob
 Ig:gB K mg "do_place" HW
 LP:gB K mg "is_true" Lz
 Oo:gB K mg "do_row" Oe
 zo:n5 K "Machine" "step" "Machine.step" y3
 zp:n5 K "Machine" "told" "Machine.told" y7
 AW:n5 K "Machine" "end" "Machine.end" AK
 AX:gB K mg "run_program" AN
 zq:wM K mg "Reading" "Reading.__init__" y9
 xl:gB K mg "numbered_rows" xa
 zr:wM K mg "Program" "Program.__init__" zb
 q7:gB K mg "names_what_is_told" qW
 AY:gB K mg "close_block" AO
 xm:gB K mg "turns_to_else" xb
 DE:gB K mg "is_letters" Dq
 LQ:gB K mg "is_name" LB
 Oq:gB K mg "is_row" Og
 zt:gB K mg "reads_within" zc
 Ih:gB K mg "are_once" HY
 DF:gB K mg "reads_kind" Dr
 uJ:gB K mg "are_heads_names" uD
 LR:gB K mg "is_head" LC
 FV:gB K mg "reads_row" Fz
 zu:gB K mg "read_program" zf
 DG:gB K mg "_law_making" Ds
 FW:gB K mg "_law_right" FA
 XP:gB K mg "law" XO
section
variable {P:Program}{w:World}{base:Heap} (M:Md P w K mg)
include M
def Ii:qE P w K mg base "_law_row" 1 4 pL :=
 gN [] M.LF λd b a c=>(cn (eZ 4 a (eY (iZ b (fu (c5 (fu iV) (c5 (fu (zO c6)) (zO (fu (c5 c6 (zO c6))))))) (bb 3))))
  (cn (eZ 5 a (eY (fu (c5 (fu (c5 c6 (c5 c6 (c5 c6 (zO (bb 1)))))) (c5 (fu (c5 c6 (c5 c6 (c5 (bb 1) (zO c6))))) (c5 (fu (c5 c6 (c5 c6 (zO (bb 1))))) (c5 (fu (lz ["push","y","x"] rfl)) (zO (fu (lz ["pull","x","y"] rfl))))))))))
  (cn (eZ 5 a (eY (hU i8 (bb 5) (fu (c5 (hU i8 (fu (lz ["do","x","y"] rfl)) (bb 4)) (c5 (hU i8 (fu (c5 c6 (c5 c6 (c5 c6 (zO (bb 2)))))) (bb 4)) (zO (fu (c5 c6 (c5 c6 (c5 c6 (zO (bb 1)))))))))))))
  (cn (eZ 5 a (eY (hU i8 (bb 5) (fu (c5 (hU i8 (fu (lz ["straight","x","y","ka","m"] rfl)) (bb 4)) (c5 (fu (c5 c6 (c5 c6 (c5 (bb 1) (zO c6))))) (zO (fu (lz ["copy","x","y"] rfl)))))))))
  (cn (eZ 5 a (eY (hU i8 (bb 5) (fu (c5 (fu (c5 c6 (zO c6))) (c5 (fu (zO c6)) (zO (hU i8 (fu (lz ["straight","x","y","kb","o"] rfl)) (bb 4)))))))))
  (c0 (eB (iZ b (bb 5) (bb 0)))))))))
def vJ:qE P w K mg base "_law_sort_word" 1 2 qg :=
 gN [] M.xf λd a c b=>(cn (eO (fD (jQ a) (iZ a (bb 0) ek) (gH (lz ["copy","give","rest"] rfl)))
  (c0 (eB c6))
  eE)
  (cn (eO (fD (gz a) (bb 1) ek)
  (c0 (eB c6))
  eE)
  (cn (eZ 2 c (eY (Ri (qP c6 (fu (zO ek)) (qP c6 (fu (zO ek)) (qP c6 (fu (zO ek)) (qP c6 (fu (c5 ek (zO ek))) (qP c6 (fu (c5 ek (zO ek))) Rh))))) rfl rfl (by simp) (by simp))))
  (cn (eO (fD (nY a) (bb 1) (NL a (bb 2) (iZ a (bb 0) ek) (fu (c5 ek (zO ek))) ⟨rfl,rfl,rfl,rfl⟩))
  (c0 (eB c6))
  eE)
  (c0 (eB c6))))))
def FX:qE P w K mg base "_law_word" 2 5 p4 :=
 gN [] M.HZ λd a b c=>(cn (eZ 5 b (eY (fE (vJ M) d rfl (c5 (bb 0) (zO (bb 1))))))
  (cn (eO (fD (lj a) (bb 5) c6)
  (c0 (eB (bb 5)))
  eE)
  (cn (eO (fD (jQ a) (iZ a (bb 0) ek) (gH (lz ["take","put","check","own","place"] rfl)))
  (cn (eZ 6 b (eY (hU i8 (fu (zO c6)) (PF.pd (NM (qH (zO c6)) (rm Hw rfl M.int (by rfl) (zO (ni (jQ a) (bb 1) (gH (c5 ek (zO ek)))))))))))
  (c0 (eB (iZ a (fu (c5 c6 (zO c6))) (rm Hw rfl M.int (by rfl) (zO (ni (jQ a) (bb 2) (bb 6))))))))
  eE)
  (cn (eO (jw (jd (fD (gz a) (iZ a (bb 0) ek) c6) (iG (fD (lj a) (bb 3) c6))))
  (c0 (eB c6))
  eE)
  (cn (eO (jw (jd (fD (jQ a) (iZ a (bb 0) ek) (gH (lz ["do","ask","straight"] rfl))) (iG (fD (lj a) (bb 4) ek))))
  (c0 (eB c6))
  eE)
  (c0 (eB c6)))))))
def zx:qE P w K mg base "form_of" 1 1 rD :=
 gN [] M.LG λd a c b=>(cn (eO (fD (jQ a) (iZ a (bb 0) ek) (n3 M.j0 rfl))
  (cn (eO (jw (jd (fD Jd (zL M.len (bb 0)) ek) (iG (QX M.uG rfl (iZ a (bb 0) ek)))))
  (c0 (eB (hU i8 (gH (zO c6)) (NH M.uG rfl (iZ a (bb 0) ek) (λ_ _=>rfl)))))
  eE)
  (c0 (eB fM)))
  eE)
  (c0 (eB (QV M.Rm rfl (iZ a (bb 0) ek) ⟨rfl,rfl,rfl,rfl⟩))))
def q8:qE P w K mg base "parts_of" 2 1 p5 :=
 gN [1] M.H7 λc d b a=>(cn (md 1 b a (lx (oK rfl rfl M.list (zO (fE (zx M) c rfl (zO (bb 0)))))))
  (cn (Br aH (fD Ep (zL M.len (bb 1)) (hU GX (zL M.len (bb 0)) ek))
  (c0 (pZ a (yq 1) (eY c6))))
  (c0 (eB (PF.pd (Hq rfl rfl M.list rfl M.zip (bb 1) (jO (bb 0) (iI ek) iH)))))))
def wB:vg P w K mg base "Row" 3 2 n8 :=
 CW [] M.Ia λd b e a=>(cn (eZ 2 e (eY (rm (QR rfl) rfl M.dict (by rfl) (zO (fE (q8 M) d rfl (zO (bb 1)))))))
  (cn (iP 0 (c:="Row") a M.gd (eY (iZ b (bb 1) ek)))
  (cn (iP 0 (c:="Row") a M.xc (eY (my b (bb 2) c6 ⟨rfl,rfl,rfl,rfl⟩)))
  (cn (iP 0 (c:="Row") a M.jf (eY (my b (bb 2) c6 ⟨rfl,rfl,rfl,rfl⟩)))
  (cn (iP 0 (c:="Row") a M.mr (eY (my b (bb 2) c6 ⟨rfl,rfl,rfl,rfl⟩)))
  (cn (iP 0 (c:="Row") a M.jJ (eY (my b (bb 2) c6 ⟨rfl,rfl,rfl,rfl⟩)))
  (cn (iP 0 (c:="Row") a M.kg (eY (my b (bb 2) c6 ⟨rfl,rfl,rfl,rfl⟩)))
  (cn (iP 0 (c:="Row") a M.nK (eY (my b (bb 2) c6 ⟨rfl,rfl,rfl,rfl⟩)))
  (cn (iP 0 (c:="Row") a M.jr (eY (my b (bb 2) c6 ⟨rfl,rfl,rfl,rfl⟩)))
  (cn (iP 0 (c:="Row") a M.lK (eY (BB [] (oE (fE (q8 M) d rfl (zO (bb 1)))) (λ_ _ _ _=>(Eu (fD (gz b) (bb 0) c6))) (λ_ _ _ _=>(bb 1)))))
  (c0 (iP 0 (c:="Row") a M.FD (eY (BB [] (oE (fE (q8 M) d rfl (zO (bb 1)))) (λ_ _ _ _=>(Eu (fD (jQ b) (bb 0) (gH (lz ["X","Y","A"] rfl))))) (λ_ _ _ _=>(bb 1))))))))))))))))
def r0:je P w K mg base "Program" "row_body" 1 2 jE :=
 pH [] M.tq λd a c b=>(c0 (eB (iZ a (iZ a (zP "Program" M.jI (bb 0)) (bb 1)) ek)))
def pQ:je P w K mg base "Program" "shown" 1 1 gX :=
 pH [] M.xg λd c b a=>(c0 (eB (zP "Program" M.q5 (bb 0))))
def pR:qE P w K mg base "rows_of_words" 2 1 jR :=
 gN [] M.xh λb d c a=>(c0 (eB (pG [] (oE (zT (n1 (pQ M) (bb 0) b) (zO c6))) (λ_ _ _ _=>mx) (λ_ _ _ _=>(zT (bb 0) (zO c6))))))
def r8:qE P w K mg base "elder_and_fields" 1 1 og :=
 gN [] M.tr λd a c b=>(cn (eO (jw (jd (gA (bb 0)) (iG (fD (gz a) (iZ a (bb 0) ek) c6))))
  (c0 (eB (gH (c5 (iZ a (bb 0) ek) (zO (jO (bb 0) (iI ek) iH))))))
  eE)
  (c0 (eB (gH (c5 fM (zO (jO (bb 0) (iI ek) iH)))))))
def AZ:qE P w K mg base "kind_table" 3 1 kq :=
 gN [1] M.Dx λd b c a=>(cn (md 1 c a (lx yp))
  (cn (oH aH rfl (qJ (n2 (fE (pR M) d rfl (zO (bb 0))))) (me 2 c) (by decide)
  (cn (eO (fD (lj b) (iZ b (bb 2) ek) c6)
  (c0 KJ)
  eE)
  (c0 (rp b a (yq 1) (eY (iZ b (bb 2) ek)) (eY (fE (r8 M) d rfl (zO (jO (bb 2) (iI ek) iH))))))))
  (c0 (eB (bb 1)))))
def lL:qE P w K mg base "method_body" 1 2 iC :=
 gN [] M.AR λd c b a=>(c0 (eB (Jo (rz (Jn (bb 0)) (rz c6 (rz (Jn (bb 1)) Nw))))))
def lM:qE P w K mg base "head_body" 2 1 gu :=
 gN [] M.FI λc a d b=>(cn (eO (fD (gz a) (iZ a (bb 0) ek) c6)
  (c0 (eB (fE (lL M) c rfl (c5 (iZ a (bb 0) ek) (zO (iZ a (bb 0) ek))))))
  eE)
  (cn (eO (fD (gz a) (iZ a (bb 0) ek) c6)
  (c0 (eB (iZ a (bb 0) ek)))
  eE)
  (c0 (eB c6))))
def sD:qE P w K mg base "body_heads" 3 1 iA :=
 gN [1] M.Dy λd a b c=>(cn (md 1 b c (lx yp))
  (cn (eZ 2 b (eY ek))
  (cn (oH aH rfl (qJ (n2 (fE (pR M) d rfl (zO (bb 0))))) (me 3 b) (by decide)
  (c0 (eO (fD (gz a) (iZ a (bb 3) ek) c6)
  (c0 (xJ 2 b Gz (eY ek)))
  (c0 (eO (jw (jd (fD (gz a) (bb 2) ek) (iG (fD (lj a) (iZ a (bb 3) ek) c6))))
  (cn (rp a c (yq 1) (eY (fE (lM M) d rfl (zO (bb 3)))) (eY (bb 3)))
  (c0 (eZ 2 b (eY ek))))
  (c0 (eO (fD (jQ a) (iZ a (bb 3) ek) (gH (c5 c6 (zO c6))))
  (c0 (xJ 2 b Gy (eY ek)))
  eE)))))))
  (c0 (eB (bb 1))))))
def q9:yF P w K mg base "Program" "row_words" 1 2 ip :=
 UW [] M.rX λd a c b=>(c0 (qI (oK rfl rfl M.list (zO (iZ a (iZ a (zP "Program" M.jI (bb 0)) (bb 1)) ek)))))
def rf:vf P w K mg base "head_params" 1 1 pf :=
 Hy [1] M.AU λd b c a=>(cn (eO (fD (gz b) (iZ b (bb 0) ek) c6)
  (c0 (qI (oK rfl rfl M.list (zO (jO (bb 0) (iI ek) iH)))))
  eE)
  (cn (md 1 c a (lx (oK rfl rfl M.list (zO (jO (bb 0) (iI ek) iH)))))
  (cn (eO (fD (jQ b) c6 (bb 1))
  (c0 (qI (yr (bb 1) iH (iI (NA PySem.F.slot_list_index PySem.F.type_list_index (EM b) (bb 1) (zO c6))))))
  eE)
  (c0 (ED 1 a)))))
def nM:vf P w K mg base "head_kept" 1 1 k7 :=
 Hy [] M.FJ λd a c b=>(cn (eO (jw (mI (fD (lj a) (iZ a (bb 0) ek) c6) (ll (fD (nY a) c6 (jO (bb 0) (iI ek) iH)))))
  (c0 (qI (qH iV)))
  eE)
  (cn (eZ 1 c (eY (PF.pd (oK rfl rfl M.list (zO (jO (bb 0) (iI ek) iH))))))
  (c0 (qI (yr (bb 1) (iI (hU i8 (NA PySem.F.slot_list_index PySem.F.type_list_index (EM a) (bb 1) (zO c6)) ek)) iH)))))
def ou:qE P w K mg base "kind_and_elders" 1 2 lA :=
 gN [2] M.uH λd c b a=>(cn (md 2 b a (lx (qH iV)))
  (cn (eZ 3 b (eY (bb 1)))
  (cn (Br aH (fD k4 (bb 3) fM)
  (cn (pZ a (yq 2) (eY (bb 3)))
  (c0 (eZ 3 b (eY (iZ c (iZ c (bb 0) (bb 3)) ek))))))
  (c0 (eB (bb 2))))))
def DH:vf P w K mg base "fields_by" 2 2 wt :=
 Hy [2] M.FK λd c b a=>(cn (md 2 b a (lx (qH iV)))
  (cn (oH aH rfl (qJ (Jt rfl M.reversed (fE (ou M) d rfl (c5 (bb 0) (zO (bb 1)))))) (me 3 b) (by decide)
  (c0 (EO a (yq 2) (eY (iZ c (iZ c (bb 0) (bb 3)) ek)))))
  (c0 (ED 2 a))))
def mD:je P w K mg base "Program" "many_rows" 1 1 fK :=
 pH [] M.rY λd c b a=>(c0 (eB (zL M.len (zP "Program" M.jI (bb 0)))))
def xn:ug P w K mg base "Outline" 5 2 lD :=
 pJ M.zj λa b c=>(ee (gs M.iN (c4 0) (eX (pG [(1,"program")] (yj rfl M.range (n1 (mD M) (bb 1) a)) (λ_ _ _ _=>mx) (λ_ _ _ _=>(PF.pd (CI (wB M) a rfl (zO (PF.pd (Q1 (q9 M) (bb 1) a (zO (bb 0)))))))))))
  (ee (gs M.qo (c4 0) (eX (pG [(1,"program")] (yj rfl M.range (n1 (mD M) (bb 1) a)) (λ_ _ _ _=>mx) (λ_ _ _ _=>(gf (r0 M) (bb 1) a (zO (bb 0)))))))
  (ee (gs M.kU (c4 0) (eX (fE (AZ M) a rfl (zO (bb 1)))))
  (ee (gs M.jU (c4 0) (eX (fE (sD M) a rfl (zO (bb 1)))))
  (ee (gs M.jo (c4 0) nq)
  (ee (gs M.oq (c4 0) nq)
  (ee (gs M.kZ (c4 0) nq)
  (ee (JC aH rfl (fH M.jU (c4 0)) (me 2 c)
  (ee (lX b (fH M.jo (c4 0)) (c4 2) (C7 (rf M) a rfl (en (k5 b (fH M.jU (c4 0)) (c4 2)) fi)))
  (ee (lX b (fH M.oq (c4 0)) (c4 2) (C7 (nM M) a rfl (en (k5 b (fH M.jU (c4 0)) (c4 2)) fi)))
  (eG (lX b (fH M.kZ (c4 0)) (c4 2) nk)))))
  (ee (qO aH rfl (NX rfl M.enumerate (fH M.qo (c4 0))) (nh 3 2 rfl c)
  (eG (fU (jW (k5 b (fH M.kZ (c4 0)) (c4 2)) (c4 3)))))
  (ee (gs M.jn (c4 0) nq)
  (eG (JC aH rfl (fH M.kU (c4 0)) (me 4 c)
  (eG (lX b (fH M.jn (c4 0)) (c4 4) (C7 (DH M) a rfl (en (fH M.kU (c4 0)) (en (c4 4) fi)))))))))))))))))
def A0:qE P w K mg base "body_marks" 2 1 kr :=
 JF M.Dz λc b a=>(ee (gC 1 a nk)
  (ee (gC 2 a nk)
  (ee (gC 3 a (eX ek))
  (ee (qO aH rfl (C5 (n2 (zT (n1 (pQ M) (bb 0) c) (zO c6)))) (me 4 a)
  (ee (gC 5 a (eX (zT (bb 4) (zO c6))))
  (ee (gC 6 a (eX (iZ b (bb 5) ek)))
  (ee (kC (gq (kl (gA (bb 2))))
  (ee (kC (gq (fD (lj b) (bb 6) c6))
  (ee (fU (jW (c4 1) (HE (en (c4 5) (en nk fi)))))
  (eG (fU (jW (c4 2) (eX fM)))))
  j5)
  (eG EW))
  j5)
  (ee (kC (gq (fD (gz b) (bb 6) c6))
  (eG (gC 7 a (HE (en (c4 6) (en (C0 (c4 2)) fi)))))
  (eG (kC (gq (fD (gz b) (bb 6) c6))
  (eG (gC 7 a (eX (gH (c5 (bb 6) (zO fM))))))
  (ee (gC 7 a (eX (gH (c5 (bb 6) (zO (bb 3))))))
  (ee (kC (gq (fD (jQ b) (bb 6) (n3 M.j0 rfl)))
  (eG (fU (jW (c4 2) (eX (Xe (fD (gz b) (bb 6) c6) (bb 3) fM)))))
  j5)
  (eG (U1 3 a Gy (eX ek))))))))
  (eG (kC (gq (gA (bb 2)))
  (eG (fU (jW (k5 b (k5 b (c4 1) (eX mh)) (eX ek)) (c4 7))))
  j5)))))))
  (eG (mN (c4 1)))))))
def uK:sv P w K mg base "Flow" "join_rows" 1 2 jj :=
 sV M.vG λc a b=>(ee (gC 2 b (eX fM))
  (ee (gC 3 b nk)
  (ee (qO aH rfl (C5 (Jt rfl M.reversed (bb 1))) (nh 4 5 rfl b)
  (eG (kC (gq (fD (gz a) (bb 4) c6))
  (ee (fU (jW (c4 3) (eX (gH (c5 (bb 2) (zO (bb 2)))))))
  (eG (kC (gq (fD k4 (bb 5) fM))
  (eG (gC 2 b (c4 5)))
  j5)))
  (eG (kC (gq (fD (gz a) (bb 4) c6))
  (ee (lX a (c4 3) (eX mh) (ia (gH (c5 (iZ a (iZ a (bb 3) mh) ek) (zO (bb 2))))))
  (eG (gC 2 b (k5 a (k5 a (c4 3) (eX mh)) (eX ek)))))
  (ee (lX a (fH M.mq (c4 0)) (c4 5) (c4 2))
  (ee (lX a (fH M.lY (c4 0)) (c4 5) (c4 2))
  (ee (kC (gq (fD (jQ a) (bb 4) (n3 M.j0 rfl)))
  (eG (lX a (fH M.lY (c4 0)) (c4 5) (k5 a (C0 (c4 3)) (eX ek))))
  j5)
  (eG (gC 2 b (c4 5)))))))))))
  (eG (mN (c4 2))))))
def DI:ug P w K mg base "Flow" 3 2 oS :=
 pJ M.FN λa c b=>(ee (gs M.p8 (c4 0) nq)
  (ee (gs M.mq (c4 0) nq)
  (ee (gs M.lY (c4 0) nq)
  (eG (qO aH rfl (C5 (n2 (fE (A0 M) a rfl (zO (bb 1))))) (nh 2 3 rfl b)
  (eG (lX c (fH M.p8 (c4 0)) (eX (fE (lM M) a rfl (zO (bb 2)))) (gF (uK M) (c4 0) a (en (c4 3) fi)))))))))
def A1:ug P w K mg base "State" 7 4 jF :=
 pJ M.DA λa c b=>(ee (gs M.fJ (c4 0) (eX (E1 (xn M) a rfl (zO (bb 1)))))
  (ee (gs M.nL (c4 0) (eX (E1 (DI M) a rfl (zO (bb 1)))))
  (ee (gs M.zh (c4 0) (eX (PF.pd (oK rfl rfl M.list (zO (bb 2))))))
  (ee (gs M.Du (c4 0) (eX ek))
  (ee (gs M.p9 (c4 0) (c4 3))
  (ee (gs M.hI (c4 0) nk)
  (ee (gs M.kz (c4 0) nk)
  (ee (gs M.kE (c4 0) nk)
  (eG (gs M.ja (c4 0) (eX fM)))))))))))
def DJ:ug P w K mg base "Call" 1 4 wu :=
 pJ M.FP λc b a=>(ee (gs M.FC (c4 0) (c4 1))
  (ee (gs M.qZ (c4 0) (c4 2))
  (ee (gs M.jH (c4 0) (c4 3))
  (eG (gs M.nJ (c4 0) nq)))))
def uL:mM P w K mg base "call_body" 3 3 oT :=
 jD M.FQ λc b a=>(ee (gC 3 a (xO (DJ M) c rfl (en (c4 1) (en (c4 2) (en (k5 b (mj (cs:=["Flow"]) (ae.mpr ⟨M.p8,aJ _⟩) (fH M.nL (c4 0))) (c4 1)) fi)))))
  (ee (fU (jW (fH M.hI (c4 0)) (c4 3)))
  (eG (mN (c4 3)))))
def uM:je P w K mg base "State" "top" 1 1 qT :=
 pH [] M.wA λd b c a=>(c0 (eB (iZ b (zP "State" M.hI (bb 0)) mh)))
def gi:sv P w K mg base "State" "top" 1 1 gv :=
 sV M.wA λc a b=>(eG (mN (k5 a (fH M.hI (c4 0)) (eX mh))))
def fw:sv P w K mg base "Call" "give_name" 1 3 fx :=
 sV M.vH λc a b=>(eG (kC (gq (fD mK (bb 2) fM))
  (eG (fU (Q8 (fH M.nJ (c4 0)) (c4 1) (eX fM))))
  (eG (lX a (fH M.nJ (c4 0)) (c4 1) (c4 2)))))
def ow:je P w K mg base "Outline" "made_by" 1 3 lE :=
 pH [] M.uI λd a c b=>(cn (eO (jw (jd (Bw vh Ep ek (bb 1) (zL M.len (zP "Outline" M.iN (bb 0)))) (iG (fD (gz a) (zP "Row" M.gd (iZ a (zP "Outline" M.iN (bb 0)) (bb 1))) (bb 2)))))
  (c0 (eB (iZ a (zP "Outline" M.iN (bb 0)) (bb 1))))
  eE)
  (c0 (eB fM)))
def rg:je P w K mg base "Outline" "made_kind" 2 2 mY :=
 pH [] M.rZ λc d b a=>(cn (eZ 2 b (eY (gf (ow M) (bb 0) c (c5 (bb 1) (zO c6)))))
  (cn (eO (fD mK (bb 2) fM)
  (c0 (eB fM))
  eE)
  (c0 (eB (zP "Row" M.jJ (bb 2))))))
def lZ:je P w K mg base "State" "kind_of" 3 2 kS :=
 pH [] M.xi λc a d b=>(cn (eO (fD mK (bb 1) fM)
  (c0 (eB fM))
  eE)
  (cn (eO (fD (gz a) (iZ a (bb 1) ek) c6)
  (c0 (eB (iZ a (bb 1) ek)))
  eE)
  (c0 (eB (gf (rg M) (zP "State" M.fJ (bb 0)) c (zO (Ha (cs:=["Call","Thing"]) (ae.mpr ⟨M.jH,ae.mpr ⟨M.o3,aJ _⟩⟩) (iZ a (zP "State" M.kz (bb 0)) (iZ a (bb 1) ek)))))))))
def lN:je P w K mg base "State" "thing_of" 1 2 kx :=
 pH [] M.pO λd a c b=>(cn (eO (jw (mI (fD mK (bb 1) fM) (ll (fD (lj a) (iZ a (bb 1) ek) c6))))
  (c0 (eB fM))
  eE)
  (c0 (eB (iZ a (zP "State" M.kz (bb 0)) (iZ a (bb 1) ek)))))
def gQ:sv P w K mg base "State" "thing_of" 1 2 gJ :=
 sV M.pO λc a b=>(ee (kC (gq (jw (mI (fD mK (bb 1) fM) (ll (fD (lj a) (iZ a (bb 1) ek) c6)))))
  (eG (mN (eX fM)))
  j5)
  (eG (mN (k5 a (fH M.kz (c4 0)) (eX (iZ a (bb 1) ek))))))
def kP:je P w K mg base "Outline" "made_function" 2 2 jl :=
 pH [] M.pP λc d b a=>(cn (eZ 2 b (eY (gf (ow M) (bb 0) c (c5 (bb 1) (zO c6)))))
  (cn (eO (fD mK (bb 2) fM)
  (c0 (eB fM))
  eE)
  (c0 (eB (zP "Row" M.jr (bb 2))))))
def rh:qE P w K mg base "shown_value" 4 2 ph :=
 gN [] M.AV λa d b c=>(cn (eO (fD mK (bb 1) fM)
  (c0 (eB c6))
  eE)
  (cn (eZ 2 b (eY (gf (lZ M) (bb 0) a (zO (bb 1)))))
  (cn (eO (fD k4 (bb 2) fM)
  (c0 (eB (bb 2)))
  eE)
  (cn (eZ 3 b (eY (gf (lN M) (bb 0) a (zO (bb 1)))))
  (cn (eO (fD (gz d) (zP "Thing" M.qa (bb 3)) c6)
  (c0 (eB c6))
  eE)
  (c0 (eB (gf (kP M) (zP "State" M.fJ (bb 0)) a (zO (zP "Thing" M.o3 (bb 3)))))))))))
def wC:mM P w K mg base "end_call" 5 2 ti :=
 jD M.Ib λa b c=>(ee (fU (C0 (fH M.hI (c4 0))))
  (ee (kC (gq (kl (gA (zP "State" M.hI (bb 0)))))
  (ee (gs M.ja (c4 0) (ia (gH (c5 c6 (zO (fE (rh M) a rfl (c5 (bb 0) (zO (bb 1)))))))))
  (eG Jy))
  j5)
  (ee (gC 2 c (il (gi M) (c4 0) a))
  (ee (fU (gF (fw M) (c4 2) a (en (mj (cs:=["Row"]) (ae.mpr ⟨M.jf,aJ _⟩) (k5 b (mj (cs:=["Outline"]) (ae.mpr ⟨M.iN,aJ _⟩) (fH M.fJ (c4 0))) (fH M.jH (c4 2)))) (en (c4 1) fi))))
  (eG (gs M.jH (c4 2) (k5 b (mj (cs:=["Flow"]) (ae.mpr ⟨M.mq,aJ _⟩) (fH M.nL (c4 0))) (fH M.jH (c4 2)))))))))
def uN:mM P w K mg base "end_calls" 6 1 oU :=
 jD M.FR λa c b=>(eG (EZ aH (gq (jw (jd (gA (zP "State" M.hI (bb 0))) (iG (fD mK (zP "Call" M.jH (n1 (uM M) (bb 0) a)) fM)))))
  (eG (fU (nj (wC M) a rfl (en (c4 0) (en (eX fM) fi)))))))
def xo:ug P w K mg base "Machine" 9 4 iL :=
 pJ M.zk λa c b=>(ee (gs M.iU (c4 0) (xO (A1 M) a rfl (en (c4 1) (en (c4 2) (en (c4 3) fi)))))
  (ee (fU (nj (uL M) a rfl (en (fH M.iU (c4 0)) (en (eX c6) (en (eX (gH iV)) fi)))))
  (eG (fU (nj (uN M) a rfl (en (fH M.iU (c4 0)) fi))))))
def fj:je P w K mg base "State" "value_of" 1 2 fq :=
 pH [] M.vI λd a c b=>(c0 (eB (my a (zP "Call" M.nJ (iZ a (zP "State" M.hI (bb 0)) mh)) (bb 1) ⟨rfl,rfl,rfl,rfl⟩)))
def Ij:qE P w K mg base "sort_of" 2 2 BJ :=
 gN [] M.LH λc a d b=>(cn (eO (fD (gz a) (iZ a (bb 1) ek) c6)
  (c0 (eB c6))
  eE)
  (c0 (eB (zP "Thing" M.qa (gf (lN M) (bb 0) c (zO (bb 1)))))))
def FY:qE P w K mg base "found_by" 2 4 yU :=
 gN [] M.Ic λb d a c=>(cn (oH aH rfl (qJ (n2 (fE (ou M) b rfl (c5 (bb 0) (zO (bb 2)))))) (me 4 a) (by decide)
  (cn (eZ 5 a (eY (fE (lL M) b rfl (c5 (bb 4) (zO (bb 3))))))
  (c0 (eO (fD (jQ d) (bb 5) (bb 1))
  (c0 (eB (bb 5)))
  eE))))
  (c0 (eB fM)))
def vK:je P w K mg base "Outline" "found" 3 3 qk :=
 pH [] M.xj λb d c a=>(c0 (eB (fE (FY M) b rfl (c5 (zP "Outline" M.kU (bb 0)) (c5 (zP "Outline" M.jU (bb 0)) (c5 (bb 1) (zO (bb 2))))))))
def zz:qE P w K mg base "goal_of" 4 3 vD :=
 gN [] M.LI λa b d c=>(cn (eO (fD (gz b) (zP "Row" M.gd (bb 1)) c6)
  (c0 (eB (gf (kP M) (zP "State" M.fJ (bb 0)) a (zO (Ha (cs:=["Call","Thing"]) (ae.mpr ⟨M.jH,ae.mpr ⟨M.o3,aJ _⟩⟩) (gf (lN M) (bb 0) a (zO (bb 2))))))))
  eE)
  (cn (eO (fD (gz b) (zP "Row" M.gd (bb 1)) c6)
  (c0 (eB (gf (vK M) (zP "State" M.fJ (bb 0)) a (c5 (gf (lZ M) (bb 0) a (zO (bb 2))) (zO (zP "Row" M.nK (bb 1)))))))
  eE)
  (c0 (eB (fE (lL M) a rfl (c5 (zP "Row" M.jJ (bb 1)) (zO (zP "Row" M.nK (bb 1)))))))))
def vL:je P w K mg base "Outline" "takes" 1 3 ql :=
 pH [] M.xk λd a c b=>(c0 (eB (p1 (ni (jQ a) (bb 1) (zP "Outline" M.jo (bb 0))) (ua (ni (gz a) (zL M.len (iZ a (zP "Outline" M.jo (bb 0)) (bb 1))) (zL M.len (zP "Row" M.lK (bb 2))))))))
def A2:qE P w K mg base "fault_word" 5 3 uz :=
 gN [] M.DB λb a d c=>(cn (eO (fD mK (bb 2) fM)
  (c0 (eB c6))
  eE)
  (cn (eO (fD (lj a) (fE (Ij M) b rfl (c5 (bb 0) (zO (bb 2)))) (NH M.JN rfl (zP "Row" M.gd (bb 1)) (λ_ _=>rfl)))
  (c0 (eB c6))
  eE)
  (cn (eO (jw (jd (fD k4 (zP "Row" M.kg (bb 1)) fM) (iG (fD (nY a) (zP "Row" M.kg (bb 1)) (iZ a (zP "Outline" M.jn (zP "State" M.fJ (bb 0))) (gf (lZ M) (bb 0) b (zO (bb 2))))))))
  (c0 (eB c6))
  eE)
  (cn (eO (fD (jQ a) (zP "Row" M.gd (bb 1)) (n3 M.vF rfl))
  (cn (eZ 3 d (eY (fE (zz M) b rfl (c5 (bb 0) (c5 (bb 1) (zO (bb 2)))))))
  (cn (eO (fD mK (bb 3) fM)
  (c0 (eB c6))
  eE)
  (c0 (eO (kl (gA (gf (vL M) (zP "State" M.fJ (bb 0)) b (c5 (bb 3) (zO (bb 1))))))
  (c0 (eB c6))
  eE))))
  eE)
  (c0 (eB fM))))))
def LS:qE P w K mg base "end_at" 6 2 Fm :=
 gN [] M.Oi λc b a d=>(cn (eZ 2 a (eY (iZ b (zP "Outline" M.iN (zP "State" M.fJ (bb 0))) (bb 1))))
  (cn (eO (HG M.JN rfl (zP "Row" M.gd (bb 2)))
  (c0 (eB fM))
  eE)
  (cn (eZ 3 a (eY (gf (fj M) (bb 0) c (zO (zP "Row" M.mr (bb 2))))))
  (cn (eZ 4 a (eY (fE (A2 M) c rfl (c5 (bb 0) (c5 (bb 2) (zO (bb 3)))))))
  (cn (eO (fD k4 (bb 4) fM)
  (c0 (eB (gH (c5 c6 (c5 (bb 1) (zO (bb 4)))))))
  eE)
  (cn (eO (jw (jd (fD (jQ b) (zP "Row" M.gd (bb 2)) (n3 M.vF rfl)) (iG (fD SN (zL M.len (zP "State" M.hI (bb 0))) (n3 M.Dw rfl)))))
  (c0 ro)
  eE)
  (c0 (eB fM))))))))
def DK:mM P w K mg base "call_goal" 5 3 wx :=
 jD M.FT λa c b=>(ee (gC 3 b (ia (gf (fj M) (bb 0) a (zO (zP "Row" M.mr (bb 1))))))
  (ee (gC 4 b (ia (fE (zz M) a rfl (c5 (bb 0) (c5 (bb 1) (zO (bb 3)))))))
  (ee (N4 5 [(0,"state")] b (oE (zP "Row" M.lK (bb 1))) (λ_ _ _ _=>mx) (λ_ _ _ _=>(gf (fj M) (bb 1) a (zO (bb 0)))))
  (ee (gC 6 b (nj (uL M) a rfl (en (c4 0) (en (c4 4) (en (ia (hU i8 (zP "Call" M.qZ (n1 (uM M) (bb 0) a)) (gH (zO (bb 2))))) fi)))))
  (ee (qO aH rfl (JK rfl M.zip (k5 c (mj (cs:=["Outline"]) (ae.mpr ⟨M.jo,aJ _⟩) (fH M.fJ (c4 0))) (c4 4)) (c4 5)) (nh 7 8 rfl b)
  (eG (fU (gF (fw M) (c4 6) a (en (c4 7) (en (c4 8) fi))))))
  (ee (kC (gq (fD (lj c) (zP "Row" M.gd (bb 1)) c6))
  (ee (fU (gF (fw M) (c4 6) a (en (eX c6) (en (c4 3) fi))))
  (eG Jy))
  j5)
  (eG (Rl aH rfl (fH M.jZ (gF (gQ M) (c4 0) a (en (c4 3) fi))) (nh 9 8 rfl b)
  (eG (fU (gF (fw M) (c4 6) a (en (c4 9) (en (c4 8) fi)))))))))))))
def A3:ug P w K mg base "Thing" 1 4 uA :=
 pJ M.DC λc b a=>(ee (gs M.o3 (c4 0) (c4 1))
  (ee (gs M.Dv (c4 0) (c4 2))
  (ee (gs M.qa (c4 0) (c4 3))
  (ee (gs M.jZ (c4 0) nq)
  (eG (gs M.kW (c4 0) nk))))))
def kF:sv P w K mg base "State" "make_thing" 3 3 jG :=
 sV M.tu λa c b=>(ee (fU (jW (fH M.kz (c4 0)) (xO (A3 M) a rfl (en (c4 1) (en (fH M.qZ (il (gi M) (c4 0) a)) (en (c4 2) fi))))))
  (eG (mN (ia (gH (c5 c6 (zO (hU GX (zL M.len (zP "State" M.kz (bb 0))) ek))))))))
def LU:mM P w K mg base "do_new" 4 3 Fs :=
 jD M.Oj λa c b=>(ee (gC 3 b (gF (kF M) (c4 0) a (en (c4 2) (en (eX c6) fi))))
  (ee (gC 4 b (gF (gQ M) (c4 0) a (en (c4 3) fi)))
  (ee (qO aH rfl (JB (k5 c (mj (cs:=["Outline"]) (ae.mpr ⟨M.jn,aJ _⟩) (fH M.fJ (c4 0))) (eX (zP "Row" M.jJ (bb 1))))) (me 5 b)
  (eG (lX c (fH M.jZ (c4 4)) (c4 5) (eX fM))))
  (eG (fU (gF (fw M) (il (gi M) (c4 0) a) a (en (eX (zP "Row" M.jf (bb 1))) (en (c4 3) fi))))))))
def xp:mM P w K mg base "do_row_thing" 4 3 qU :=
 jD M.zm λa c b=>(eG (fU (gF (fw M) (il (gi M) (c4 0) a) a (en (eX (zP "Row" M.jf (bb 1))) (en (gF (kF M) (c4 0) a (en (c4 2) (en (eX c6) fi))) fi)))))
def Ik:mM P w K mg base "do_func" 4 3 BK :=
 jD M.LJ λa c b=>(ee (gC 3 b (gF (kF M) (c4 0) a (en (c4 2) (en (eX c6) fi))))
  (ee (gC 4 b (gF (gQ M) (c4 0) a (en (c4 3) fi)))
  (ee (qO aH rfl (JK rfl M.zip (k5 c (mj (cs:=["Outline"]) (ae.mpr ⟨M.oq,aJ _⟩) (fH M.fJ (c4 0))) (eX (zP "Row" M.jr (bb 1)))) (eX (zP "Row" M.lK (bb 1)))) (nh 5 6 rfl b)
  (eG (lX c (fH M.jZ (c4 4)) (c4 5) (ia (gf (fj M) (bb 0) a (zO (bb 6)))))))
  (eG (fU (gF (fw M) (il (gi M) (c4 0) a) a (en (eX (zP "Row" M.jf (bb 1))) (en (c4 3) fi))))))))
def Il:mM P w K mg base "do_copy" 2 3 BL :=
 jD M.LK λa c b=>(eG (fU (gF (fw M) (il (gi M) (c4 0) a) a (en (eX (zP "Row" M.jf (bb 1))) (en (ia (gf (fj M) (bb 0) a (zO (zP "Row" M.mr (bb 1))))) fi)))))
def Im:mM P w K mg base "do_take" 2 3 BM :=
 jD M.LL λa c b=>(ee (gC 3 b (gF (gQ M) (c4 0) a (en (ia (gf (fj M) (bb 0) a (zO (zP "Row" M.mr (bb 1))))) fi)))
  (eG (fU (gF (fw M) (il (gi M) (c4 0) a) a (en (eX (zP "Row" M.jf (bb 1))) (en (k5 c (fH M.jZ (c4 3)) (eX (zP "Row" M.kg (bb 1)))) fi))))))
def LV:mM P w K mg base "do_put" 2 3 Ft :=
 jD M.Ol λa c b=>(ee (gC 3 b (gF (gQ M) (c4 0) a (en (ia (gf (fj M) (bb 0) a (zO (zP "Row" M.mr (bb 1))))) fi)))
  (eG (lX c (fH M.jZ (c4 3)) (eX (zP "Row" M.kg (bb 1))) (ia (gf (fj M) (bb 0) a (zO (zP "Row" M.jf (bb 1))))))))
def Io:mM P w K mg base "do_push" 2 3 BN :=
 jD M.LM λa c b=>(ee (gC 3 b (gF (gQ M) (c4 0) a (en (ia (gf (fj M) (bb 0) a (zO (zP "Row" M.mr (bb 1))))) fi)))
  (eG (fU (jW (fH M.kW (c4 3)) (ia (gf (fj M) (bb 0) a (zO (zP "Row" M.jf (bb 1)))))))))
def Ip:mM P w K mg base "do_pull" 2 3 BO :=
 jD M.LN λa c b=>(ee (gC 3 b (gF (gQ M) (c4 0) a (en (ia (gf (fj M) (bb 0) a (zO (zP "Row" M.mr (bb 1))))) fi)))
  (ee (gC 4 b (eX fM))
  (ee (kC (gq (gA (zP "Thing" M.kW (bb 3))))
  (eG (gC 4 b (C0 (fH M.kW (c4 3)))))
  j5)
  (eG (fU (gF (fw M) (il (gi M) (c4 0) a) a (en (eX (zP "Row" M.jf (bb 1))) (en (c4 4) fi))))))))
def Iq:mM P w K mg base "do_tell" 5 3 BP :=
 jD M.LO λa c b=>(eG (fU (jW (fH M.kE (c4 0)) (ia (fE (rh M) a rfl (c5 (bb 0) (zO (gf (fj M) (bb 0) a (zO (zP "Row" M.jf (bb 1)))))))))))
def A4:mM P w K mg base "do_nothing" 1 3 p6 :=
 jD M.DD λc b a=>(eG Jx)
def qb:qE P w K mg base "own_field" 1 2 oV :=
 gN [] M.FU λd c b a=>(c0 (eB (Jo (rz (Jn (bb 0)) (rz c6 (rz (Jn (bb 1)) Nw))))))
def FZ:mM P w K mg base "do_fresh" 2 3 y1 :=
 jD M.Ie λa c b=>(ee (fU (gF (fw M) (il (gi M) (c4 0) a) a (en (eX (zP "Row" M.jf (bb 1))) (en (eX (gH (c5 c6 (zO (zP "Row" M.jJ (bb 1)))))) fi))))
  (eG (qO aH rfl (JB (k5 c (mj (cs:=["Outline"]) (ae.mpr ⟨M.jn,aJ _⟩) (fH M.fJ (c4 0))) (eX (zP "Row" M.jJ (bb 1))))) (me 3 b)
  (eG (fU (gF (fw M) (il (gi M) (c4 0) a) a (en (eX (fE (qb M) a rfl (c5 (zP "Row" M.jf (bb 1)) (zO (bb 3))))) (en (eX fM) fi))))))))
def LW:mM P w K mg base "do_own" 2 3 Fx :=
 jD M.Om λa c b=>(eG (fU (gF (fw M) (il (gi M) (c4 0) a) a (en (eX (zP "Row" M.jf (bb 1))) (en (ia (gf (fj M) (bb 0) a (zO (fE (qb M) a rfl (c5 (zP "Row" M.mr (bb 1)) (zO (zP "Row" M.kg (bb 1)))))))) fi)))))
def F1:mM P w K mg base "do_place" 2 3 y2 :=
 jD M.Ig λa c b=>(eG (fU (gF (fw M) (il (gi M) (c4 0) a) a (en (eX (fE (qb M) a rfl (c5 (zP "Row" M.mr (bb 1)) (zO (zP "Row" M.kg (bb 1)))))) (en (ia (gf (fj M) (bb 0) a (zO (zP "Row" M.jf (bb 1))))) fi)))))
def Ir:mM P w K mg base "is_true" 1 2 BQ :=
 jD M.LP λc b a=>K5
def LX:mM P w K mg base "do_row" 7 2 Fy :=
 jD M.Oo λa b c=>(ee (gC 2 c (k5 b (mj (cs:=["Outline"]) (ae.mpr ⟨M.iN,aJ _⟩) (fH M.fJ (c4 0))) (c4 1)))
  (ee (gC 3 c (il (gi M) (c4 0) a))
  (ee (kC (gq (fD (jQ b) (zP "Row" M.gd (bb 2)) (n3 M.vF rfl)))
  (eG (fU (nj (DK M) a rfl (en (c4 0) (en (c4 2) (en (c4 1) fi))))))
  (eG (kC (gq (fD (gz b) (zP "Row" M.gd (bb 2)) c6))
  (eG (fU (nj (wC M) a rfl (en (c4 0) (en (ia (gf (fj M) (bb 0) a (zO (zP "Row" M.jf (bb 2))))) fi)))))
  (eG (kC (XI (Rf (gq (fD (jQ b) (zP "Row" M.gd (bb 2)) (n3 M.j0 rfl))) (NY (Q9 (JD (nj (Ir M) a rfl (en (c4 0) (en (c4 2) fi))))))))
  (eG NQ)
  (ee (kC (gq (K7 M.rB rfl (zP "Row" M.gd (bb 2))))
  (eG (fU (Ra (j:=5) M.rB (by intro q d;simp only[JL,ao,bY,d4] at d;rcases d with rfl|rfl|rfl|rfl|rfl|rfl|rfl|rfl|rfl|rfl|rfl|rfl|rfl|rfl<;>first|exact((LU M)).up (by decide)|exact((xp M)).up (by decide)|exact((Ik M)).up (by decide)|exact((Il M)).up (by decide)|exact((Im M)).up (by decide)|exact((LV M)).up (by decide)|exact((Io M)).up (by decide)|exact((Ip M)).up (by decide)|exact((Iq M)).up (by decide)|exact((A4 M)).up (by decide)|exact((FZ M)).up (by decide)|exact((LW M)).up (by decide)|exact((F1 M)).up (by decide)) a rfl (eX (zP "Row" M.gd (bb 2))) (en (c4 0) (en (c4 2) (en (c4 1) fi))))))
  j5)
  (eG (gs M.jH (c4 3) (k5 b (mj (cs:=["Flow"]) (ae.mpr ⟨M.mq,aJ _⟩) (fH M.nL (c4 0))) (c4 1))))))))))
  (eG (fU (nj (uN M) a rfl (en (c4 0) fi)))))))
def xq:sv P w K mg base "Machine" "step" 8 1 lG :=
 sV M.zo λa c b=>(ee (gC 1 b (fH M.iU (c4 0)))
  (ee (kC (gq (fD k4 (zP "State" M.ja (bb 1)) fM))
  (eG (mN (eX k0)))
  j5)
  (ee (kC (gq (fD vh (zP "State" M.p9 (bb 1)) ek))
  (ee (gs M.ja (c4 1) (eX (gH (zO c6))))
  (eG (mN (eX k0))))
  j5)
  (ee (K6 M.p9 (c4 1) (eX ek) Gz)
  (ee (gC 2 b (fH M.jH (il (gi M) (c4 1) a)))
  (ee (gs M.ja (c4 1) (ia (fE (LS M) a rfl (c5 (bb 1) (zO (bb 2))))))
  (ee (kC (gq (fD mK (zP "State" M.ja (bb 1)) fM))
  (eG (fU (nj (LX M) a rfl (en (c4 1) (en (c4 2) fi)))))
  j5)
  (eG (mN (eX k0))))))))))
def xr:sv P w K mg base "Machine" "told" 1 1 lH :=
 sV M.zp λc b a=>(eG (mN (Rc rfl M.list (fH M.kE (fH M.iU (c4 0))))))
def zD:je P w K mg base "Machine" "end" 1 1 ml :=
 pH [] M.AW λd c b a=>(c0 (eB (zP "State" M.ja (zP "Machine" M.iU (bb 0)))))
def zF:qE P w K mg base "run_program" 11 3 jX :=
 JF M.AX λa c b=>(ee (gC 3 b (xO (xo M) a rfl (en (c4 0) (en (c4 1) (en (c4 2) fi)))))
  (ee (EZ aH (JD (il (xq M) (c4 3) a))
  (eG Jx))
  (eG (mN (HE (en (il (xr M) (c4 3) a) (en (ia (n1 (zD M) (bb 3) a)) fi)))))))
def xt:vg P w K mg base "Reading" 1 1 oh :=
 CW [] M.zq λe d b a=>(cn (tV 0 (c:="Reading") a M.hE (lx yp))
  (cn (tV 0 (c:="Reading") a M.ij (lx yp))
  (cn (iP 0 (c:="Reading") a M.jq (eY fM))
  (cn (tV 0 (c:="Reading") a M.gL (lx (qH iV)))
  (cn (iP 0 (c:="Reading") a M.lJ (eY k0))
  (c0 (tV 0 (c:="Reading") a M.mP (lx (qH iV)))))))))
def vM:qE P w K mg base "numbered_rows" 3 1 jS :=
 gN [1] M.xl λd b a c=>(cn (md 1 a c (lx yp))
  (cn (eZ 2 a (eY fM))
  (cn (eZ 3 a (eY ek))
  (cn (oH aH rfl (qJ (EK rfl M.enumerate (zT (bb 0) (zO c6)))) (nh 4 5 rfl a) (by decide)
  (cn (eZ 6 a (eY (zT (bb 5) (zO c6))))
  (c0 (eO (fD (gz b) (iZ b (bb 6) ek) c6)
  (c0 (xJ 3 a Gz (eY ek)))
  (c0 (eO (fD Jd (bb 3) ek)
  (cn (eO (fD (lj b) (iZ b (bb 6) ek) c6)
  (c0 (rp b c (yq 1) (Nm (zL M.len (bb 1))) (eY (gH (c5 (bb 4) (c5 (bb 6) (zO (bb 2))))))))
  eE)
  (c0 (eO (fD (jQ b) (iZ b (bb 6) ek) (n3 M.j0 rfl))
  (c0 (xJ 3 a Gy (eY ek)))
  eE)))
  (c0 (eO (fD (lj b) (iZ b (bb 6) ek) c6)
  (cn (eZ 2 a (eY (fE (lM M) d rfl (zO (bb 6)))))
  (c0 (eZ 3 a (eY ek))))
  eE))))))))
  (c0 (eB (bb 1)))))))
def xu:vg P w K mg base "Program" 4 2 ke :=
 CW [] M.zr λb e d a=>(cn (iP 0 (c:="Program") a M.q5 (eY (bb 1)))
  (cn (iP 0 (c:="Program") a M.jI (eY (fE (vM M) b rfl (zO (bb 1)))))
  (c0 (iP 0 (c:="Program") a M.q0 (XA (oK rfl rfl M.list (zO (fE (sD M) b rfl (zO (bb 0))))))))))
def qv:qE P w K mg base "names_what_is_told" 2 2 hZ :=
 gN [] M.q7 λb a d c=>(cn (eO (fD (gz a) (zP "Row" M.gd (bb 1)) c6)
  (c0 (eB (ni (jQ a) (fE (lL M) b rfl (c5 (zP "Row" M.jJ (bb 1)) (zO (zP "Row" M.nK (bb 1))))) (zP "Reading" M.ij (bb 0)))))
  eE)
  (cn (eO (jw (mI (fD (gz a) (zP "Row" M.jr (bb 1)) c6) (ll (fD (nY a) (zP "Row" M.jr (bb 1)) (zP "Reading" M.ij (bb 0))))))
  (c0 (eB k0))
  eE)
  (c0 (eB (ni (gz a) (zL M.len (PF.pd (CH (nM M) b rfl (zO (iZ a (zP "Reading" M.ij (bb 0)) (zP "Row" M.jr (bb 1))))))) (zL M.len (zP "Row" M.lK (bb 1))))))))
def zG:EF P w K mg base "close_block" 1 1 jY :=
 ER [] M.AY λe b d a=>(cn (eO (gA (zP "Reading" M.gL (bb 0)))
  (cn (QJ a (Bq 0 (c:="Reading") M.gL))
  (c0 (KN a)))
  eE)
  (cn (iP 0 (c:="Reading") a M.lJ (Nm (ni (gz b) (zP "Reading" M.jq (bb 0)) c6)))
  (c0 (iP 0 (c:="Reading") a M.jq (eY fM)))))
def vN:EF P w K mg base "turns_to_else" 1 1 kT :=
 ER [] M.xm λe b d a=>(cn (eO (jw (mI (kl (gA (zP "Reading" M.gL (bb 0)))) (ll (fD (lj b) (iZ b (zP "Reading" M.gL (bb 0)) mh) c6))))
  (c0 (jh a k0))
  eE)
  (cn (rp b a (Bq 0 (c:="Reading") M.gL) (eY mh) (eY c6))
  (c0 (jh a k0))))
def A5:qE P w K mg base "is_letters" 1 1 nB :=
 gN [] M.DE λd c b a=>(cn (oH aH rfl (qJ (n2 (bb 0))) (me 1 b) (by decide)
  (c0 (eO (kl (Bw vh vh c6 (bb 1) c6))
  (c0 (eB k0))
  eE)))
  (c0 (eB (ni (lj c) (bb 0) c6))))
def zH:qE P w K mg base "is_name" 2 1 nP :=
 gN [] M.LQ λb d c a=>(c0 (eB (p1 (ni vh (zL M.len (bb 0)) ek) (ua (fE (A5 M) b rfl (zO (bb 0)))))))
def LY:qE P w K mg base "is_row" 3 1 uC :=
 gN [] M.Oq λb a d c=>(cn (eO (jw (mI (kl (gA (bb 0))) (ll (kl (gA (tP (Ht rfl) rfl M.all (by rfl) (zO (pG [] (oE (bb 0)) (λ_ _ _ _=>mx) (λ_ _ _ _=>(fE (zH M) b rfl (zO (bb 0))))))))))))
  (c0 (eB k0))
  eE)
  (cn (eZ 1 d (eY (fE (zx M) b rfl (zO (bb 0)))))
  (cn (eO (fD mK (bb 1) fM)
  (c0 (eB k0))
  eE)
  (cn (eO (jw (jd (gA (bb 1)) (iG (fD (gz a) (iZ a (bb 1) mh) c6))))
  (c0 (eB (ni SN (zL M.len (bb 0)) (zL M.len (bb 1)))))
  eE)
  (c0 (eB (ni (gz a) (zL M.len (bb 0)) (hU i8 (zL M.len (bb 1)) ek))))))))
def xv:EF P w K mg base "reads_within" 5 3 gw :=
 ER [] M.zt λd b e a=>(cn (eO (fD (gz b) (bb 2) (fu (zO c6)))
  (cn (KP (tX 0 (zG M) a d rfl iV))
  (c0 (jh a k0)))
  eE)
  (cn (eO (fD (gz b) (bb 2) (fu (zO c6)))
  (c0 (yw a (tX 0 (vN M) a d rfl iV)))
  eE)
  (cn (eO (kl (gA (fE (LY M) d rfl (zO (bb 2)))))
  (c0 (jh a k0))
  eE)
  (cn (eZ 3 e (eY (PF.pd (CI (wB M) d rfl (zO (bb 2))))))
  (cn (eO (jw (jd (fD k4 (zP "Row" M.jJ (bb 3)) fM) (iG (fD (nY b) (zP "Row" M.jJ (bb 3)) (zP "Reading" M.hE (bb 0))))))
  (c0 (jh a k0))
  eE)
  (cn (eO (fD (jQ b) (zP "Row" M.gd (bb 3)) (n3 M.j0 rfl))
  (c0 (pZ a (Bq 0 (c:="Reading") M.gL) (eY (zP "Row" M.gd (bb 3)))))
  eE)
  (cn (eO (fD (jQ b) (zP "Row" M.gd (bb 3)) (gH (c5 c6 (zO c6))))
  (c0 (pZ a (Bq 0 (c:="Reading") M.mP) (eY (gH (c5 (bb 1) (zO (bb 3)))))))
  eE)
  (c0 (jh a (ni vh (zL M.len (zP "Reading" M.gL (bb 0))) (n3 M.AQ rfl)))))))))))
def wD:qE P w K mg base "are_once" 1 1 oj :=
 gN [] M.Ih λd b c a=>(c0 (eB (ni (gz b) (KY rfl rfl M.len rfl M.set (bb 0)) (zL M.len (bb 0)))))
def A6:EF P w K mg base "reads_kind" 2 2 nE :=
 ER [3] M.DF λe b d a=>(cn (eO (jw (mI (gA (zP "Reading" M.ij (bb 0))) (mI (fD Ep (zL M.len (bb 1)) ek) (ll (fD (jQ b) (iZ b (bb 1) ek) (zP "Reading" M.hE (bb 0)))))))
  (c0 (jh a k0))
  eE)
  (cn (eZ 2 d (eY (jO (bb 1) (iI ek) iH)))
  (cn (md 3 d a (lx (qH iV)))
  (cn (eO (jw (jd (gA (bb 2)) (iG (fD (gz b) (iZ b (bb 2) ek) c6))))
  (cn (eO (jw (mI (fD Ep (zL M.len (bb 2)) ek) (ll (fD (nY b) (iZ b (bb 2) ek) (zP "Reading" M.hE (bb 0))))))
  (c0 (jh a k0))
  eE)
  (cn (md 3 d a (UM (oK rfl rfl M.list (zO (iZ b (zP "Reading" M.hE (bb 0)) (iZ b (bb 2) ek))))))
  (c0 (eZ 2 d (eY (jO (bb 2) (iI ek) iH))))))
  eE)
  (cn (eO (jw (jd (gA (bb 2)) (iG (jw (mI (fD (lj b) (iZ b (bb 2) ek) c6) (ll (fD Ep (zL M.len (bb 2)) ek)))))))
  (c0 (jh a k0))
  eE)
  (cn (He a (yq 3) (lx (yr (bb 2) (iI ek) iH)))
  (wm (O':=[0]) 3 (by decide) (by decide)
  (have a:([0]:List Nat).Nodup:=by decide
  (cn (rp b a (Bq 0 (c:="Reading") M.hE) (eY (iZ b (bb 1) ek)) (eY (bb 3)))
  (c0 (jh a (fE (wD M) e rfl (zO (bb 3))))))))))))))
def ox:qE P w K mg base "are_heads_names" 2 1 lI :=
 gN [] M.uJ λb a d c=>(cn (eO (jw (jd (fD (gz a) (iZ a (bb 0) ek) c6) (jd (fD (jQ a) c6 (jO (bb 0) (iI ek) iH)) (iG (kl (gA (PF.pd (CH (nM M) b rfl (zO (bb 0))))))))))
  (c0 (eB k0))
  eE)
  (cn (eZ 1 d (eY (hU i8 (PF.pd (CH (rf M) b rfl (zO (bb 0)))) (PF.pd (CH (nM M) b rfl (zO (bb 0)))))))
  (c0 (eB (p1 (ni (nY a) c6 (bb 1)) (ua (fE (wD M) b rfl (zO (bb 1)))))))))
def Iu:qE P w K mg base "is_head" 3 2 vE :=
 gN [] M.LR λb a d c=>(cn (eO (fD (gz a) (iZ a (bb 1) ek) c6)
  (c0 (eB (p1 (ni Jd (zL M.len (bb 1)) ek) (p1 (ni (lj a) (iZ a (bb 1) ek) c6) (ua (fE (ox M) b rfl (zO (bb 1))))))))
  eE)
  (cn (eO (fD (gz a) (iZ a (bb 1) ek) c6)
  (c0 (eB (p1 (ni Jd (zL M.len (bb 1)) ek) (p1 (ni (jQ a) (iZ a (bb 1) ek) (zP "Reading" M.hE (bb 0))) (ua (fE (ox M) b rfl (zO (bb 1))))))))
  eE)
  (c0 (eB (ni (gz a) (bb 1) (fu (zO c6)))))))
def DL:EF P w K mg base "reads_row" 6 3 gK :=
 ER [] M.FV λb d e a=>(cn (eO (gA (zP "Reading" M.lJ (bb 0)))
  (c0 (jh a k0))
  eE)
  (cn (eO (fD k4 (zP "Reading" M.jq (bb 0)) fM)
  (c0 (yw a (tX 0 (xv M) a b rfl (c5 (bb 1) (zO (bb 2))))))
  eE)
  (cn (eO (fD (gz d) (iZ d (bb 2) ek) c6)
  (c0 (yw a (tX 0 (A6 M) a b rfl (zO (bb 2)))))
  eE)
  (cn (eO (jw (mI (kl (gA (fE (Iu M) b rfl (c5 (bb 0) (zO (bb 2)))))) (ll (fD (jQ d) (fE (lM M) b rfl (zO (bb 2))) (zP "Reading" M.ij (bb 0))))))
  (c0 (jh a k0))
  eE)
  (cn (iP 0 (c:="Reading") a M.jq (eY (fE (lM M) b rfl (zO (bb 2)))))
  (cn (rp d a (Bq 0 (c:="Reading") M.ij) (Nm (zP "Reading" M.jq (bb 0))) (eY (bb 2)))
  (c0 (jh a k0))))))))
def xw:qE P w K mg base "read_program" 7 1 iM :=
 gN [1] M.zu λb d c a=>(cn (md 1 c a (lx (Nt (xt M) b rfl)))
  (cn (NI 2 [] c (oE (zT (bb 0) (zO c6))) (λ_ _ _ _=>mx) (λ_ _ _ _=>(zT (bb 0) (zO c6))))
  (cn (oH aH rfl (qJ (EK rfl M.enumerate (bb 2))) (nh 3 4 rfl c) (by decide)
  (c0 (QQ (Xu (UO (kl (gA (tP (Ht rfl) rfl M.all (by rfl) (zO (pG [] (oE (bb 4)) (λ_ _ _ _=>mx) (λ_ _ _ _=>(fE (zH M) b rfl (zO (bb 0))))))))) (QO (QN (QM (tX 1 (DL M) a b rfl (c5 (bb 3) (zO (bb 4)))))))))
  (c0 ro)
  eE)))
  (cn (eO (kl (gA (zP "Reading" M.lJ (bb 1))))
  (c0 ro)
  eE)
  (wm (O':=[]) 1 (by decide) (by decide)
  (have a:([]:List Nat).Nodup:=by decide
  (cn (oH aH rfl (qJ (n2 (zP "Reading" M.mP (bb 1)))) (nh 3 5 rfl c) (by decide)
  (c0 (eO (kl (gA (fE (qv M) b rfl (c5 (bb 1) (zO (bb 5))))))
  (c0 ro)
  eE)))
  (c0 (eB (PF.pd (CI (xu M) b rfl (zO (bb 0)))))))))))))
def A7:qE P w K mg base "_law_making" 1 1 nH :=
 gN [] M.DG λd c b a=>(cn (eZ 1 b (eY (fu (c5 (fu iV) (c5 (fu (zO c6)) (c5 (fu (zO c6)) (c5 (fu (zO c6)) (c5 (fu (zO c6)) (c5 (fu (zO c6)) (zO (fu (zO c6))))))))))))
  (c0 (eB (iZ c (bb 1) (bb 0)))))
def DM:qE P w K mg base "_law_right" 12 1 o2 :=
 gN [] M.FW λc a b d=>(cn (eZ 1 b (eY (hU u9 (bb 0) ek)))
  (cn (eZ 2 b (eY (hU u9 (hU yf (bb 0) ek) ek)))
  (cn (eZ 3 b (eY (iZ a (fu (lz ["f","h","g"] rfl)) (hU u9 (hU yf (bb 0) ek) ek))))
  (cn (eZ 4 b (eY (iZ a (fu (lz ["m","m","n"] rfl)) (hU u9 (hU yf (bb 0) ek) ek))))
  (cn (eZ 5 b (eY (iZ a (fu (c5 ek (c5 ek (c5 ek (zO ek))))) (hU u9 (hU yf (bb 0) ek) ek))))
  (cn (eZ 6 b (eY (fE (Ii M) c rfl (c5 (bb 2) (c5 (bb 3) (c5 (bb 4) (zO (bb 5))))))))
  (cn (eZ 7 b (eY (PF.pd (NM (qH (zO c6)) (hU u9 (hU yf (bb 0) ek) ek)))))
  (cn (eZ 8 b (eY (fu (c5 c6 (zO c6)))))
  (cn (eZ 9 b (eY (fu (lz ["func fa p","give p","end","method ka m p","tell self","give self","end","method kb o p","end"] rfl))))
  (cn (eZ 10 b (eY (hU i8 (hU i8 (bb 7) (fE (A7 M) c rfl (zO (bb 1)))) (fu (zO (Hk PySem.F.slot_str_join PySem.F.type_str_join Jm c6 (zO (bb 6))))))))
  (cn (eZ 11 b (eY (hU i8 (hU i8 (hU i8 (hU i8 (bb 8) (bb 9)) (fu (zO c6))) (bb 10)) (fu (c5 c6 (zO c6))))))
  (cn (eZ 12 b (eY (fE (FX M) c rfl (c5 (bb 6) (c5 (bb 1) (c5 (bb 3) (c5 (bb 4) (zO (bb 5)))))))))
  (cn (eZ 13 b (eY (iZ a (fu (lz ["none","ka","kb","row","fa","ka","kb"] rfl)) (bb 1))))
  (cn (eZ 14 b (eY (hU GX (hU i8 ek (zL M.len (bb 10))) ek)))
  (cn (eZ 15 b (eY (fE (zF M) c rfl (c5 (fE (xw M) c rfl (zO (Hk PySem.F.slot_str_join PySem.F.type_str_join Jm c6 (zO (bb 11))))) (c5 (fu iV) (zO ek))))))
  (cn (eO (fD (lj a) (bb 12) c6)
  (c0 (eB (ni (gz a) (bb 15) (gH (c5 (fu iV) (zO (gH (c5 c6 (c5 (bb 14) (zO (bb 12)))))))))))
  eE)
  (cn (eO (fD (gz a) (iZ a (bb 6) ek) c6)
  (c0 (eB (ni (gz a) (bb 15) (gH (c5 (fu iV) (zO (gH (c5 c6 (zO (bb 13))))))))))
  eE)
  (cn (eO (jw (mI (fD (gz a) (iZ a (bb 6) ek) c6) (ll (jw (jd (fD (gz a) (iZ a (bb 6) ek) c6) (iG (fD (gz a) (iZ a (bb 6) ek) c6)))))))
  (c0 (eB (ni (gz a) (bb 15) (gH (c5 (fu (c5 (bb 13) (zO (bb 13)))) (zO (gH (c5 c6 (zO c6)))))))))
  eE)
  (c0 (eB (ni (gz a) (bb 15) (gH (c5 (fu (zO (iZ a (fu (c5 (bb 13) (zO c6))) (rm Hw rfl M.int (by rfl) (zO (ni (lj a) (iZ a (bb 6) ek) c6)))))) (zO (gH (c5 c6 (zO c6)))))))))))))))))))))))))))
def U3{d:Addr}(b:mg "law"=Y (.ref d)):∃c:FuncData,(∀(s:Shared) (u:Value),BindsTo s c ⟨[u],[]⟩ [("_law_script",u)])/\∀a:Heap,K.In a->a.Ns mainGlobals mg->kX P w K mg a uW 13 d c ["_law_script"] (SU K 1 JM) :=
 UX [] b M.XP λ_=>λf h g e=>(c0 (eB (tP (Ht rfl) rfl M.all (by rfl) (zO (pG [] (oE (hU i8 (fu (zO ek)) (jO (bb 0) iH (iI ek)))) (λ_ _ _ _=>mx) (λ_ _ _ _=>(fE (DM M) f rfl (zO (bb 0)))))))))
end
section
variable {P:Program}{w:World}{h:Heap}{A:Addr}{N:Nat}
def LZ{B y x v u t s r q p d c b a:Addr}{O M L J I H F E D C i g f e:Tok} (X:K.In h) (G:h.Ns mainGlobals mg) (k:W.nsIn K mainGlobals "DEEDS"=Y (Y (.ref A))) (z:(A==sysModules)=false) (l:K.lookup A=Y { cls:=.type "dict",data:=.dict #[⟨eD.keyHash w.params "new",.str "new" O,.ref B⟩,⟨eD.keyHash w.params "row",.str "row" M,.ref y⟩,⟨eD.keyHash w.params "func",.str "func" L,.ref x⟩,⟨eD.keyHash w.params "copy",.str "copy" J,.ref v⟩,⟨eD.keyHash w.params "take",.str "take" I,.ref u⟩,⟨eD.keyHash w.params "put",.str "put" H,.ref t⟩,⟨eD.keyHash w.params "push",.str "push" F,.ref s⟩,⟨eD.keyHash w.params "pull",.str "pull" E,.ref r⟩,⟨eD.keyHash w.params "tell",.str "tell" D,.ref q⟩,⟨eD.keyHash w.params "rest",.str "rest" C,.ref p⟩,⟨eD.keyHash w.params "check",.str "check" i,.ref d⟩,⟨eD.keyHash w.params "fresh",.str "fresh" g,.ref c⟩,⟨eD.keyHash w.params "own",.str "own" f,.ref b⟩,⟨eD.keyHash w.params "place",.str "place" e,.ref a⟩] N })
  (l0:W.nsIn K mainGlobals "do_new"=Y (Y (.ref B)))
  (l1:W.nsIn K mainGlobals "do_row_thing"=Y (Y (.ref y)))
  (l2:W.nsIn K mainGlobals "do_func"=Y (Y (.ref x)))
  (l3:W.nsIn K mainGlobals "do_copy"=Y (Y (.ref v)))
  (V:W.nsIn K mainGlobals "do_take"=Y (Y (.ref u)))
  (U:W.nsIn K mainGlobals "do_put"=Y (Y (.ref t)))
  (T:W.nsIn K mainGlobals "do_push"=Y (Y (.ref s)))
  (S:W.nsIn K mainGlobals "do_pull"=Y (Y (.ref r)))
  (R:W.nsIn K mainGlobals "do_tell"=Y (Y (.ref q)))
  (Q:W.nsIn K mainGlobals "do_nothing"=Y (Y (.ref p)))
  (o:W.nsIn K mainGlobals "do_nothing"=Y (Y (.ref d)))
  (n:W.nsIn K mainGlobals "do_fresh"=Y (Y (.ref c)))
  (m:W.nsIn K mainGlobals "do_own"=Y (Y (.ref b)))
  (j:W.nsIn K mainGlobals "do_place"=Y (Y (.ref a))):yM P w K mg "DEEDS" rB :=
 U0 (P:=P) (l:=[("new",O,B,"do_new"),("row",M,y,"do_row_thing"),("func",L,x,"do_func"),("copy",J,v,"do_copy"),("take",I,u,"do_take"),("put",H,t,"do_put"),("push",F,s,"do_push"),("pull",E,r,"do_pull"),("tell",D,q,"do_tell"),("rest",C,p,"do_nothing"),("check",i,d,"do_nothing"),("fresh",g,c,"do_fresh"),("own",f,b,"do_own"),("place",e,a,"do_place")]) (W.mg_of X G k) z l (by show (["new","row","func","copy","take","put","push","pull","tell","rest","check","fresh","own","place"]:Lr).Nodup;decide +kernel) (ae.mpr ⟨W.mg_of X G l0,ae.mpr ⟨W.mg_of X G l1,ae.mpr ⟨W.mg_of X G l2,ae.mpr ⟨W.mg_of X G l3,ae.mpr ⟨W.mg_of X G V,ae.mpr ⟨W.mg_of X G U,ae.mpr ⟨W.mg_of X G T,ae.mpr ⟨W.mg_of X G S,ae.mpr ⟨W.mg_of X G R,ae.mpr ⟨W.mg_of X G Q,ae.mpr ⟨W.mg_of X G o,ae.mpr ⟨W.mg_of X G n,ae.mpr ⟨W.mg_of X G m,ae.mpr ⟨W.mg_of X G j,aJ _⟩⟩⟩⟩⟩⟩⟩⟩⟩⟩⟩⟩⟩⟩)
def xx{b a:Tok}(X:K.In h)(G:h.Ns mainGlobals mg)(k:W.nsIn K mainGlobals "BLOCK_WORDS"=Y (Y (.ref A)))(l:K.lookup A=Y (zy #[.str "if" b,.str "while" a] N)):CT K mg "BLOCK_WORDS" (.tuple [(.str "if"),(.str "while")]) :=
 ⟨.ref A,.ref A,W.mg_of X G k,rfl,n4 (xs:=["if","while"]) l (by show 2<=sizeLine;decide) (.cons ⟨_,rfl⟩ (.cons ⟨_,rfl⟩ .nil))⟩
def F2{c b a:Tok}(X:K.In h)(G:h.Ns mainGlobals mg)(k:W.nsIn K mainGlobals "CALLERS"=Y (Y (.ref A)))(l:K.lookup A=Y (zy #[.str "do" c,.str "ask" b,.str "straight" a] N)):CT K mg "CALLERS" (.tuple [(.str "do"),(.str "ask"),(.str "straight")]) :=
 ⟨.ref A,.ref A,W.mg_of X G k,rfl,n4 (xs:=["do","ask","straight"]) l (by show 3<=sizeLine;decide) (.cons ⟨_,rfl⟩ (.cons ⟨_,rfl⟩ (.cons ⟨_,rfl⟩ .nil)))⟩
def zJ{f e d:Addr}{o n m:Nat}{j i c g b a:Tok} (X:K.In h) (G:h.Ns mainGlobals mg) (k:W.nsIn K mainGlobals "CONDITIONS"=Y (Y (.ref A))) (z:(A==sysModules)=false) (l:K.lookup A=Y { cls:=.type "dict",data:=.dict #[⟨eD.keyHash w.params "choose",.str "choose" j,.ref f⟩,⟨eD.keyHash w.params "some",.str "some" i,.ref e⟩,⟨eD.keyHash w.params "same",.str "same" g,.ref d⟩] N })
  (r:K.lookup f=Y (zy #[] o))
  (q:K.lookup e=Y (zy #[.str "X" c] n))
  (p:K.lookup d=Y (zy #[.str "X" b,.str "Y" a] m)):ly P w K mg "CONDITIONS" nu :=
 CU (P:=P) (l:=[("choose",j,.ref f,.tuple (([]:Lr).map .str)),("some",i,.ref e,.tuple ((["X"]:Lr).map .str)),("same",g,.ref d,.tuple ((["X","Y"]:Lr).map .str))]) (W.mg_of X G k) z l (by show (["choose","some","same"]:Lr).Nodup;decide +kernel) (ae.mpr ⟨⟨.ref f,rfl,n4 (xs:=[]) r (by show 0<=sizeLine;decide) .nil⟩,ae.mpr ⟨⟨.ref e,rfl,n4 (xs:=["X"]) q (by show 1<=sizeLine;decide) (.cons ⟨_,rfl⟩ .nil)⟩,ae.mpr ⟨⟨.ref d,rfl,n4 (xs:=["X","Y"]) p (by show 2<=sizeLine;decide) (.cons ⟨_,rfl⟩ (.cons ⟨_,rfl⟩ .nil))⟩,aJ _⟩⟩⟩)
def L0{V0 V1 V2 V3 V4 V5 V6 V7 V8 V9 i g f e d c b a:Addr}{m0 m1 m2 m3 m4 m5 m6 m7 m8 m9 m10 m11 m12 m13 m14 m15 m16 m17:Nat}{t0 aat aau t1 aav t2 aaw aax aay t3 aaz aaA t4 aaB aaC aaD t5 aaE V U t6 T S t7 R Q t8 O M L t9 J I H F Zh E D C B y Zi x Zj v Zk Zl u t Zm s r t16 q p o t17 n m j:Tok} (X:K.In h) (G:h.Ns mainGlobals mg) (k:W.nsIn K mainGlobals "FORMS"=Y (Y (.ref A))) (z:(A==sysModules)=false) (l:K.lookup A=Y { cls:=.type "dict",data:=.dict #[⟨eD.keyHash w.params "new",.str "new" t0,.ref V0⟩,⟨eD.keyHash w.params "row",.str "row" t1,.ref V1⟩,⟨eD.keyHash w.params "func",.str "func" t2,.ref V2⟩,⟨eD.keyHash w.params "copy",.str "copy" t3,.ref V3⟩,⟨eD.keyHash w.params "take",.str "take" t4,.ref V4⟩,⟨eD.keyHash w.params "put",.str "put" t5,.ref V5⟩,⟨eD.keyHash w.params "push",.str "push" t6,.ref V6⟩,⟨eD.keyHash w.params "pull",.str "pull" t7,.ref V7⟩,⟨eD.keyHash w.params "do",.str "do" t8,.ref V8⟩,⟨eD.keyHash w.params "ask",.str "ask" t9,.ref V9⟩,⟨eD.keyHash w.params "straight",.str "straight" Zh,.ref i⟩,⟨eD.keyHash w.params "give",.str "give" Zi,.ref g⟩,⟨eD.keyHash w.params "tell",.str "tell" Zj,.ref f⟩,⟨eD.keyHash w.params "rest",.str "rest" Zk,.ref e⟩,⟨eD.keyHash w.params "check",.str "check" Zl,.ref d⟩,⟨eD.keyHash w.params "fresh",.str "fresh" Zm,.ref c⟩,⟨eD.keyHash w.params "own",.str "own" t16,.ref b⟩,⟨eD.keyHash w.params "place",.str "place" t17,.ref a⟩] N })
  (l0:K.lookup V0=Y (zy #[.str "X" aat,.str "KIND" aau] m0))
  (l1:K.lookup V1=Y (zy #[.str "X" aav] m1))
  (l2:K.lookup V2=Y (zy #[.str "X" aaw,.str "FUNCTION" aax,.str "A" aay] m2))
  (l3:K.lookup V3=Y (zy #[.str "X" aaz,.str "Y" aaA] m3))
  (l4:K.lookup V4=Y (zy #[.str "X" aaB,.str "Y" aaC,.str "FIELD" aaD] m4))
  (l5:K.lookup V5=Y (zy #[.str "Y" aaE,.str "FIELD" V,.str "X" U] m5))
  (l6:K.lookup V6=Y (zy #[.str "Y" T,.str "X" S] m6))
  (l7:K.lookup V7=Y (zy #[.str "X" R,.str "Y" Q] m7))
  (l8:K.lookup V8=Y (zy #[.str "X" O,.str "Y" M,.str "A" L] m8))
  (l9:K.lookup V9=Y (zy #[.str "X" J,.str "Y" I,.str "METHOD" H,.str "A" F] m9))
  (l10:K.lookup i=Y (zy #[.str "X" E,.str "Y" D,.str "KIND" C,.str "METHOD" B,.str "A" y] m10))
  (l11:K.lookup g=Y (zy #[.str "X" x] m11))
  (l12:K.lookup f=Y (zy #[.str "X" v] m12))
  (l13:K.lookup e=Y (zy #[] m13))
  (l14:K.lookup d=Y (zy #[.str "Y" u,.str "FIELD" t] m14))
  (l15:K.lookup c=Y (zy #[.str "X" s,.str "KIND" r] m15))
  (l16:K.lookup b=Y (zy #[.str "X" q,.str "Y" p,.str "FIELD" o] m16))
  (l17:K.lookup a=Y (zy #[.str "Y" n,.str "FIELD" m,.str "X" j] m17)):ly P w K mg "FORMS" Dd :=
 CU (P:=P) (l:=[("new",t0,.ref V0,.tuple ((["X","KIND"]:Lr).map .str)),("row",t1,.ref V1,.tuple ((["X"]:Lr).map .str)),("func",t2,.ref V2,.tuple ((["X","FUNCTION","A"]:Lr).map .str)),("copy",t3,.ref V3,.tuple ((["X","Y"]:Lr).map .str)),("take",t4,.ref V4,.tuple ((["X","Y","FIELD"]:Lr).map .str)),("put",t5,.ref V5,.tuple ((["Y","FIELD","X"]:Lr).map .str)),("push",t6,.ref V6,.tuple ((["Y","X"]:Lr).map .str)),("pull",t7,.ref V7,.tuple ((["X","Y"]:Lr).map .str)),("do",t8,.ref V8,.tuple ((["X","Y","A"]:Lr).map .str)),("ask",t9,.ref V9,.tuple ((["X","Y","METHOD","A"]:Lr).map .str)),("straight",Zh,.ref i,.tuple ((["X","Y","KIND","METHOD","A"]:Lr).map .str)),("give",Zi,.ref g,.tuple ((["X"]:Lr).map .str)),("tell",Zj,.ref f,.tuple ((["X"]:Lr).map .str)),("rest",Zk,.ref e,.tuple (([]:Lr).map .str)),("check",Zl,.ref d,.tuple ((["Y","FIELD"]:Lr).map .str)),("fresh",Zm,.ref c,.tuple ((["X","KIND"]:Lr).map .str)),("own",t16,.ref b,.tuple ((["X","Y","FIELD"]:Lr).map .str)),("place",t17,.ref a,.tuple ((["Y","FIELD","X"]:Lr).map .str))]) (W.mg_of X G k) z l (by show (["new","row","func","copy","take","put","push","pull","do","ask","straight","give","tell","rest","check","fresh","own","place"]:Lr).Nodup;decide +kernel) (ae.mpr ⟨⟨.ref V0,rfl,n4 (xs:=["X","KIND"]) l0 (by show 2<=sizeLine;decide) (.cons ⟨_,rfl⟩ (.cons ⟨_,rfl⟩ .nil))⟩,ae.mpr ⟨⟨.ref V1,rfl,n4 (xs:=["X"]) l1 (by show 1<=sizeLine;decide) (.cons ⟨_,rfl⟩ .nil)⟩,ae.mpr ⟨⟨.ref V2,rfl,n4 (xs:=["X","FUNCTION","A"]) l2 (by show 3<=sizeLine;decide) (.cons ⟨_,rfl⟩ (.cons ⟨_,rfl⟩ (.cons ⟨_,rfl⟩ .nil)))⟩,ae.mpr ⟨⟨.ref V3,rfl,n4 (xs:=["X","Y"]) l3 (by show 2<=sizeLine;decide) (.cons ⟨_,rfl⟩ (.cons ⟨_,rfl⟩ .nil))⟩,ae.mpr ⟨⟨.ref V4,rfl,n4 (xs:=["X","Y","FIELD"]) l4 (by show 3<=sizeLine;decide) (.cons ⟨_,rfl⟩ (.cons ⟨_,rfl⟩ (.cons ⟨_,rfl⟩ .nil)))⟩,ae.mpr ⟨⟨.ref V5,rfl,n4 (xs:=["Y","FIELD","X"]) l5 (by show 3<=sizeLine;decide) (.cons ⟨_,rfl⟩ (.cons ⟨_,rfl⟩ (.cons ⟨_,rfl⟩ .nil)))⟩,ae.mpr ⟨⟨.ref V6,rfl,n4 (xs:=["Y","X"]) l6 (by show 2<=sizeLine;decide) (.cons ⟨_,rfl⟩ (.cons ⟨_,rfl⟩ .nil))⟩,ae.mpr ⟨⟨.ref V7,rfl,n4 (xs:=["X","Y"]) l7 (by show 2<=sizeLine;decide) (.cons ⟨_,rfl⟩ (.cons ⟨_,rfl⟩ .nil))⟩,ae.mpr ⟨⟨.ref V8,rfl,n4 (xs:=["X","Y","A"]) l8 (by show 3<=sizeLine;decide) (.cons ⟨_,rfl⟩ (.cons ⟨_,rfl⟩ (.cons ⟨_,rfl⟩ .nil)))⟩,ae.mpr ⟨⟨.ref V9,rfl,n4 (xs:=["X","Y","METHOD","A"]) l9 (by show 4<=sizeLine;decide) (.cons ⟨_,rfl⟩ (.cons ⟨_,rfl⟩ (.cons ⟨_,rfl⟩ (.cons ⟨_,rfl⟩ .nil))))⟩,ae.mpr ⟨⟨.ref i,rfl,n4 (xs:=["X","Y","KIND","METHOD","A"]) l10 (by show 5<=sizeLine;decide) (.cons ⟨_,rfl⟩ (.cons ⟨_,rfl⟩ (.cons ⟨_,rfl⟩ (.cons ⟨_,rfl⟩ (.cons ⟨_,rfl⟩ .nil)))))⟩,ae.mpr ⟨⟨.ref g,rfl,n4 (xs:=["X"]) l11 (by show 1<=sizeLine;decide) (.cons ⟨_,rfl⟩ .nil)⟩,ae.mpr ⟨⟨.ref f,rfl,n4 (xs:=["X"]) l12 (by show 1<=sizeLine;decide) (.cons ⟨_,rfl⟩ .nil)⟩,ae.mpr ⟨⟨.ref e,rfl,n4 (xs:=[]) l13 (by show 0<=sizeLine;decide) .nil⟩,ae.mpr ⟨⟨.ref d,rfl,n4 (xs:=["Y","FIELD"]) l14 (by show 2<=sizeLine;decide) (.cons ⟨_,rfl⟩ (.cons ⟨_,rfl⟩ .nil))⟩,ae.mpr ⟨⟨.ref c,rfl,n4 (xs:=["X","KIND"]) l15 (by show 2<=sizeLine;decide) (.cons ⟨_,rfl⟩ (.cons ⟨_,rfl⟩ .nil))⟩,ae.mpr ⟨⟨.ref b,rfl,n4 (xs:=["X","Y","FIELD"]) l16 (by show 3<=sizeLine;decide) (.cons ⟨_,rfl⟩ (.cons ⟨_,rfl⟩ (.cons ⟨_,rfl⟩ .nil)))⟩,ae.mpr ⟨⟨.ref a,rfl,n4 (xs:=["Y","FIELD","X"]) l17 (by show 3<=sizeLine;decide) (.cons ⟨_,rfl⟩ (.cons ⟨_,rfl⟩ (.cons ⟨_,rfl⟩ .nil)))⟩,aJ _⟩⟩⟩⟩⟩⟩⟩⟩⟩⟩⟩⟩⟩⟩⟩⟩⟩⟩)
def L1{x m v j u i t g s f r e q d p c o b n a:Tok}(X:K.In h)(G:h.Ns mainGlobals mg)(k:W.nsIn K mainGlobals "SORTS"=Y (Y (.ref A)))(z:(A==sysModules)=false)(l:K.lookup A=Y { cls:=.type "dict",data:=.dict #[⟨eD.keyHash w.params "take",.str "take" x,.str "record" m⟩,⟨eD.keyHash w.params "put",.str "put" v,.str "record" j⟩,⟨eD.keyHash w.params "check",.str "check" u,.str "record" i⟩,⟨eD.keyHash w.params "ask",.str "ask" t,.str "record" g⟩,⟨eD.keyHash w.params "straight",.str "straight" s,.str "record" f⟩,⟨eD.keyHash w.params "push",.str "push" r,.str "row" e⟩,⟨eD.keyHash w.params "pull",.str "pull" q,.str "row" d⟩,⟨eD.keyHash w.params "do",.str "do" p,.str "func" c⟩,⟨eD.keyHash w.params "own",.str "own" o,.str "mark" b⟩,⟨eD.keyHash w.params "place",.str "place" n,.str "mark" a⟩] N }):ly P w K mg "SORTS" xS :=
 CU (P:=P) (l:=[("take",x,.str "record" m,.str "record"),("put",v,.str "record" j,.str "record"),("check",u,.str "record" i,.str "record"),("ask",t,.str "record" g,.str "record"),("straight",s,.str "record" f,.str "record"),("push",r,.str "row" e,.str "row"),("pull",q,.str "row" d,.str "row"),("do",p,.str "func" c,.str "func"),("own",o,.str "mark" b,.str "mark"),("place",n,.str "mark" a,.str "mark")]) (W.mg_of X G k) z l (by show (["take","put","check","ask","straight","push","pull","do","own","place"]:Lr).Nodup;decide +kernel) (ae.mpr ⟨⟨.str "record",⟨_,rfl⟩,λ_=>eL.ft.mpr rfl⟩,ae.mpr ⟨⟨.str "record",⟨_,rfl⟩,λ_=>eL.ft.mpr rfl⟩,ae.mpr ⟨⟨.str "record",⟨_,rfl⟩,λ_=>eL.ft.mpr rfl⟩,ae.mpr ⟨⟨.str "record",⟨_,rfl⟩,λ_=>eL.ft.mpr rfl⟩,ae.mpr ⟨⟨.str "record",⟨_,rfl⟩,λ_=>eL.ft.mpr rfl⟩,ae.mpr ⟨⟨.str "row",⟨_,rfl⟩,λ_=>eL.ft.mpr rfl⟩,ae.mpr ⟨⟨.str "row",⟨_,rfl⟩,λ_=>eL.ft.mpr rfl⟩,ae.mpr ⟨⟨.str "func",⟨_,rfl⟩,λ_=>eL.ft.mpr rfl⟩,ae.mpr ⟨⟨.str "mark",⟨_,rfl⟩,λ_=>eL.ft.mpr rfl⟩,ae.mpr ⟨⟨.str "mark",⟨_,rfl⟩,λ_=>eL.ft.mpr rfl⟩,aJ _⟩⟩⟩⟩⟩⟩⟩⟩⟩⟩)
end
open PySem L2 PySem.StrLaws PySem.Builtin PySem.Builtin.Str
open PySem
def Tf(i:Nat)(ρ:c7):bS i ρ=(ρ[i]?).join:=rfl
def U4(d:eD)(ρ:c7):dC d ρ=Y d:=rfl
def F4(o:eD->eD->Od)(f g:c7->Od)(ρ:c7):d2 o f g ρ=(f ρ).bind λx=>(g ρ).bind λy=>o x y:=rfl
def aaF(n:Nat)(f:Lp->Od)(a:c7->Option Lp)(ρ:c7):jx n f a ρ=(a ρ).bind λb=>if b.length=n then f b else Z:=rfl
def Ot(f:Lp->Od)(a:c7->Option Lp)(ρ:c7):jP f a ρ=(a ρ).bind f:=rfl
def Iv(ρ:c7):fg ρ=Y []:=rfl
def DN(f:c7->Od)(a:c7->Option Lp)(ρ:c7):eK f a ρ=(f ρ).bind λx=>(a ρ).bind λb=>Y (x::b):=rfl
def XQ(b:c7->Option Lp)(ρ:c7):i9 b ρ=(b ρ).bind λa=>if a.length<=sizeLine then Y (.tuple a) else Z:=rfl
def XR(b:c7->Option Lp)(ρ:c7):fN b ρ=(b ρ).bind λa=>if a.length<=sizeLine then Y (.list a) else Z:=rfl
def Rn(f:c7->Od)(l h:FO)(ρ:c7):j3 f l h ρ=(f ρ).bind λx=>(l ρ).bind λa=>(h ρ).bind λb=>SQ x a b:=rfl
def Ro(f:c7->Od)(ρ:c7):kK f ρ=(f ρ).bind λd=>match d with | .int i=>Y (Y i)|_=>Z:=rfl
def Rp(ρ:c7):kJ ρ=Y Z:=rfl
def Ou(f:c7->Od)(l h:FO)(ρ:c7):tW f l h ρ=(f ρ).bind λx=>(l ρ).bind λa=>(h ρ).bind λb=>match x with | .list xs=>Y (.list (rN xs a b))|_=>Z:=rfl
def aaG(o:eD->Lp->Od)(f:c7->Od)(a:c7->Option Lp)(ρ:c7):yy o f a ρ=(f ρ).bind λd=>(a ρ).bind λb=>match d with | .str z=>o (.str z) b|_=>Z:=rfl
def XS(o:eD->Lp->Od)(f:c7->Od)(a:c7->Option Lp)(ρ:c7):QU o f a ρ=(f ρ).bind λd=>(a ρ).bind λb=>match d with | .list z=>o (.list z) b|_=>Z:=rfl
def Th(a:Lr)(n:Str)(f:c7->Od)(ρ:c7):eS a n f ρ=(f ρ).bind (jb a n):=rfl
def DO(q:c7->Option Lp)(a:List (Nat×Str))(g:c7->Option Bool)(f:c7->Od)(ρ:c7):lu q a g f ρ=(q ρ).bind λb=>if b.length<=sizeLine then (lS g f (pA a ρ) b).map .list else Z:=rfl
def Ov(f:c7->Od)(ρ:c7):wJ f ρ=(f ρ).bind λd=>match d with | .list ds=>Y ds | .tuple ds=>Y ds|_=>Z:=rfl
def U5(f:c7->Od)(ρ:c7):oJ f ρ=(f ρ).bind λd=>match d with | .list ds=>Y ds | .tuple ds=>Y ds | .str x=>Y (sQ x)|_=>Z:=rfl
def XT(f:c7->Od)(ρ:c7):fC f ρ=(f ρ).map .rt:=rfl
def Iw(f:c7->Od)(i:Nat)(ρ:c7):fW f i ρ=(f ρ).map λd=>.nx (ρ.set i (Y d)):=rfl
def U6(f:c7->Od)(i:Nat)(ρ:c7):pC f i ρ=(f ρ).bind λd=>if i<ρ.length then Y (.nx (ρ.set i (Y d))) else Z:=rfl
def XU(ρ:c7):fY ρ=Y (.nx ρ):=rfl
def Ox(O:List Nat)(f:c7->Od)(ρ:c7):gZ O f ρ=f (iT O ρ):=rfl
def Ti(f:c7->Od)(ρ:c7):Nl f ρ=(f ρ).bind λd=>if mz d=true then Y d else Z:=rfl
def XW(f:c7->Od)(ρ:c7):UL f ρ=(f ρ).bind λd=>if EC d=true then Y d else Z:=rfl
def XX(O:List Nat)(f:c7->Option Lp)(ρ:c7):PQ O f ρ=f (iT O ρ):=rfl
def aaH(f:c7->Od)(ρ:c7):fB f ρ=(f ρ).bind λd=>match d with | .bool b=>Y b|_=>Z:=rfl
def XY(f:c7->Od)(ρ:c7):vo f ρ=(f ρ).bind kn:=rfl
def U7(f:c7->Option Bool)(ρ:c7):sO f ρ=(f ρ).map (!·):=rfl
def XZ(i:Nat)(o:Int->Int->Int)(f:c7->Od)(ρ:c7):KL i o f ρ=(ρ[i]?).join.bind λx=>(f ρ).bind λd=>match x,d with | .int a,.int b=>Y (.nx (ρ.set i (Y (.int (o a b)))))|_,_=>Z:=rfl
def F5(π:Pl)(b a:c7->Od)(ρ:c7):wK π b a ρ=(qt π ρ).bind λl=>(a ρ).bind λd=>(b ρ).bind λe=>(Ap e d l).map λc=>.nx (va π c ρ):=rfl
def Oy(π:Pl)(f:c7->Od)(ρ:c7):oG π f ρ=(qt π ρ).bind λl=>(f ρ).bind λd=>match l with | .list ds=>if ds.length<sizeLine then Y (.nx (va π (.list (ds++[d])) ρ)) else Z|_=>Z:=rfl
def X0(f:c7->Od)(a:Tg)(ρ:c7):Xs f a ρ=(f ρ).bind λd=>(Hf a d ρ).map .nx:=rfl
def X1(q:c7->Option Lp)(a:Tg)(g:c7->Option gk)(ρ:c7):so q a g ρ=(q ρ).bind λb=>qr (Hf a) g b ρ:=rfl
def Oz(f:c7->Od)(ρ:c7):mU f ρ=(Nl f ρ).bind λd=>(ρ[0]?).join.map λa=>.rt (.tuple [d,a]):=rfl
def vO(i:Nat)(c n:Str)(f:c7->Od)(ρ:c7):jy i c n f ρ=(ρ[i]?).join.bind λx=>(f ρ).bind λd=>match x with | .dict ((.none,.str c')::r)=>if c'=c/\lU c n=false/\r.length<1000 then Y (.nx (ρ.set i (Y (.dict ((.none,.str c)::pW n d r))))) else Z|_=>Z:=rfl
def U8(c a:Str)(n:Nat)(F:Lp->Od)(f:c7->Od)(b:c7->Option Lp)(ρ:c7):f6 c a n F f b ρ=(f ρ).bind λd=>if nZ c a d=true then (b ρ).bind λe=>if e.length+1=n then F (d::e) else Z else Z:=rfl
def OA(c:Str)(n:Nat)(F:Lp->Option (eD×eD))(a:c7->Option Lp)(ρ:c7):yt c n F a ρ=(a ρ).bind λb=>if b.length+1=n then (F (.dict [(.none,.str c)]::b)).bind λr=>match r with|(.none,d)=>Y d|_=>Z else Z:=rfl
def aaI(a:c7->Option Str)(ρ:c7):Zb a ρ=(a ρ).bind λz=>if z.length<=sizeLine then Y (.str z) else Z:=rfl
def aaJ(f:c7->Od)(a:c7->Option Str)(ρ:c7):wc f a ρ=(f ρ).bind λd=>(a ρ).bind λz=>match d with | .str y=>Y (y++z)|_=>Z:=rfl
def aaK(f:c7->Od)(ρ:c7):UQ f ρ=(f ρ).bind λd=>match d with | .str x=>if x.length<=sizeLine then Y (.str x) else Z|_=>Z:=rfl
def Rq(O:List Nat)(i n:Nat)(F:Lp->Option (eD×eD))(a:c7->Option Lp)(ρ:c7):yv O i n F a ρ=(ρ[i]?).join.bind λc=>(a (iT O ρ)).bind λb=>if b.length+1=n then (F (c::b)).bind λr=>if mz r.1=true then Y (r.1,ρ.set i (Y r.2)) else Z else Z:=rfl
def U9(h:c7->Option (eD×c7))(ρ:c7):EG h ρ=(h ρ).bind λr=>(r.2[0]?).join.map λa=>.rt (.tuple [r.1,a]):=rfl
def aaL(h:c7->Option (eD×c7))(ρ:c7):hT h ρ=(h ρ).bind λr=>match r with|(.bool b,ρ')=>Y (b,ρ')|_=>Z:=rfl
def Va(h:c7->Option (Bool×c7))(ρ:c7):UN h ρ=(h ρ).map λr=>(!r.1,r.2):=rfl
def Ru(ρ:c7):vc ρ=Z:=rfl
def X2(T:String)(f:c7->Od)(ρ:c7):aab T f ρ=(f ρ).bind λd=>if SR d then Z else Y (.bool (Y3 d==T||(Y3 d=="bool"&&T=="int"))):=rfl
def aaM(f:c7->Od)(ρ:c7):ng f ρ=(f ρ).bind λd=>match d with | .int j=>if -(2 ^ 62)<=j/\j<2 ^ 62 then Y (sg 0 j.toNat) else Z|_=>Z:=rfl
def Vb(f:c7->Od)(ρ:c7):Jq f ρ=(f ρ).bind λd=>match d with | .list ds=>Y (qL ds)|_=>Z:=rfl
def X3(f:c7->Od)(ρ:c7):aaq f ρ=(f ρ).bind λd=>match d with | .list xs=>Y (.list xs.reverse)|_=>Z:=rfl
def Vc(f:c7->Od)(ρ:c7):Q0 f ρ=(f ρ).bind λd=>match d with | .list ds=>Y ds.reverse|_=>Z:=rfl
def X4(π:Pl)(f:c7->Od)(ρ:c7):tT π f ρ=(qt π ρ).bind λl=>(f ρ).bind λd=>match l,d with | .list ds,.list es=>if ds.length+es.length<=sizeLine then Y (.nx (va π (.list (ds++es)) ρ)) else Z|_,_=>Z:=rfl
def Rv(π:Pl)(ρ:c7):US π ρ=(qt π ρ).bind λl=>match l with | .list _=>Y (.nx (va π (.list []) ρ))|_=>Z:=rfl
def Zn(h:c7->Option gk):Option gk->Option gk
 |some (.nx ρ)=>h ρ
 |o=>o
def JO(g h:c7->Option gk)(ρ:c7):eJ g h ρ=Zn h (g ρ):=by
 unfold eJ Zn;cases g ρ with
 |none=>rfl
 |some o=>cases o<;>rfl
def OB(h:c7->Option gk)(ρ:c7):Zn h (Y (.nx ρ))=h ρ:=rfl
def OC(h:c7->Option gk)(d:eD):Zn h (Y (.rt d))=Y (.rt d):=rfl
def Mi(c:Option Bool)(g h:c7->Option α)(ρ:c7):Option α:=match c with
 |some true=>g ρ
 |some false=>h ρ
 |none=>none
def X5{α:Type}(g h:c7->Option α)(ρ:c7):Mi (Y true) g h ρ=g ρ:=rfl
def X6{α:Type}(g h:c7->Option α)(ρ:c7):Mi (Y false) g h ρ=h ρ:=rfl
def Vd(c:c7->Option Bool)(g h:c7->Option gk)(ρ:c7):iY c g h ρ=Mi (c ρ) g h ρ:=by unfold iY Mi;rcases c ρ with _|_|_<;>rfl
def X7(f g:c7->Option Bool)(ρ:c7):nT f g ρ=Mi (f ρ) g (λ_=>Y false) ρ:=by unfold nT Mi;rcases f ρ with _|_|_<;>rfl
def aaN(f g:c7->Option Bool)(ρ:c7):Cy f g ρ=Mi (f ρ) (λ_=>Y true) g ρ:=by unfold Cy Mi;rcases f ρ with _|_|_<;>rfl
def Ve(f g:c7->Od)(ρ:c7):su f g ρ=Mi ((f ρ).bind Xx) g (λ_=>Y (.bool false)) ρ:=by
 unfold su Mi;rcases f ρ with _|d
 ·rfl
 ·simp only[aD];rcases Xx d with _|_|_<;>rfl
def X8(b:Bool):Xx (.bool b)=Y b:=rfl
noncomputable def F7:Option gk->Od
 |some (.rt d)=>Y d
 |some (.nx _)=>Y .none
 |_=>Z
def OD(N:Lr)(g:c7->Option gk)(a:Lp):ic N g a=F7 (g (gY N a)):=by
 unfold ic F7;cases g (gY N a) with
 |none=>rfl
 |some o=>cases o<;>rfl
def Rw(d:eD):F7 (Y (.rt d))=Y d:=rfl
def Rx(ρ:c7):F7 (Y (.nx ρ))=Y .none:=rfl
noncomputable def Vf:Option gk->Od
 |some (.rt d)=>Y d
 |_=>Z
def Vg(N:Lr)(g:c7->Option gk)(a:Lp):CG N g a=Vf (g (gY N a)):=by
 unfold CG Vf;cases g (gY N a) with
 |none=>rfl
 |some o=>cases o<;>rfl
def Ry(d:eD):Vf (Y (.rt d))=Y d:=rfl
noncomputable def Iy:Option gk->Option (eD×eD)
 |some (.rt (.tuple [d,d0]))=>Y (d,d0)
 |some (.nx ρ)=>(ρ[0]?).join.map λd0=>(.none,d0)
 |_=>Z
def vP(N:Lr)(g:c7->Option gk)(e:Lp):pD N g e=Iy (g (gY N e)):=by
 unfold pD;cases g (gY N e) with
 |none=>rfl
 |some o=>cases o<;>first|rfl|(rename_i d;cases d<;>first|rfl|(rename_i l;rcases l with _ | ⟨a,_ | ⟨b,_ | ⟨c,l⟩⟩⟩<;>rfl))
def uO(a b:eD):Iy (Y (.rt (.tuple [a,b])))=Y (a,b):=rfl
def Rz(ρ:c7):Iy (Y (.nx ρ))=(ρ[0]?).join.map λa=>(.none,a):=rfl
def DP(N:Lr)(a:Lp):gY N a=a.map Y++List.replicate (N.length - a.length) Z:=rfl
def er0(ρ:c7):iT [] ρ=ρ:=rfl
def er1(i:Nat)(O:List Nat)(ρ:c7):iT (i::O) ρ=(iT O ρ).set i Z:=rfl
def X9(i:Nat)(ρ:c7):qt (.sl i) ρ=(ρ[i]?).join:=rfl
def Ya(i:Nat)(d:eD)(ρ:c7):va (.sl i) d ρ=ρ.set i (Y d):=rfl
def sizeLine_eq:sizeLine=16777216:=by decide
def j9{a b:Prop}(x:a)(y:b):a/\b:=⟨x,y⟩
def evQ:=j9 @Tf (j9 @U4 (j9 @F4 (j9 @aaF (j9 @Ot (j9 @Iv (j9 @DN (j9 @XQ (j9 @XR (j9 @Rn (j9 @Ro (j9 @Rp (j9 @Ou (j9 @aaG (j9 @XS (j9 @Th (j9 @DO (j9 @Ov (j9 @U5 (j9 @XT (j9 @Iw (j9 @U6 (j9 @XU (j9 @Ox (j9 @Ti (j9 @XW (j9 @XX (j9 @aaH (j9 @XY (j9 @U7 (j9 @XZ (j9 @Oy (j9 @X0 (j9 @X1 (j9 @Oz (j9 @U8 (j9 @OA (j9 @aaI (j9 @aaJ (j9 @aaK (j9 @Rq (j9 @U9 (j9 @aaL (j9 @Va (j9 @Ru (j9 @X2 (j9 @Vb (j9 @X3 (j9 @Vc (j9 @X4 (j9 @Rv (j9 @JO (j9 @OB (j9 @OC (j9 @X5 (j9 @X6 (j9 @Vd (j9 @X7 (j9 @aaN (j9 @Ve (j9 @X8 (j9 @OD (j9 @Rw (j9 @Rx (j9 @Vg (j9 @Ry (j9 @vP (j9 @uO (j9 @Rz (j9 @DP (j9 @er0 (j9 @er1 (j9 @X9 (j9 @Ya @sizeLine_eq)))))))))))))))))))))))))))))))))))))))))))))))))))))))))))))))))))))))))
local macro_rules
  | `(tactic| simp? only [$a,*]) => `(tactic| simp only [$a,*, evQ, List.map_cons, List.map_nil, List.length_cons, List.length_nil, List.cons_append, List.nil_append, List.getElem?_cons_zero, List.getElem?_cons_succ, List.getElem?_nil, Option.join_some, Option.join_none, Option.bind_some, Option.bind_none, Option.map_some, Option.map_none, List.set_cons_zero, List.set_cons_succ, List.replicate_zero, List.replicate_succ, Nat.reduceAdd, Nat.reduceSub, Nat.reduceLeDiff, Nat.reduceLT, Nat.reduceEqDiff, Nat.zero_add, ↓reduceIte, if_true, if_false, Bool.not_true, Bool.not_false, reduceCtorEq, and_self, and_true, true_and, Nat.zero_le])
def OE:zZ "\n"=⟨#[10]⟩:=by decide +kernel
def tw:zZ " "=⟨#[32]⟩:=by decide +kernel
theorem uj{c:Nat}:∀(f d i g:List Nat),c∉f->c∉d->f++c::i=d++c::g->f=d/\i=g
 |[],[],_,_,_,_,h=>by simp at h;exact⟨rfl,h⟩
 |[],a::d,_,_,_,h2,h=>by simp at h;exact absurd h.1 (by intro e;subst e;simp at h2)
 |a::f,[],_,_,h1,_,h=>by simp at h;exact absurd h.1 (by intro e;subst e;simp at h1)
 |a::f,b::d,i,g,h1,h2,h=>by simp only[bf,List.cons.injEq] at h;simp only[ao,not_or] at h1 h2;obtain⟨k,j⟩:=uj f d i g h1.2 h2.2 h.2;exact⟨by rw[h.1,k],j⟩
def yN{c:Nat}(a d b:List Nat)(e:c∉a)(h:a=d++c::b):False:=e (by rw[h];simp)
def k6(c:Nat)(a b:Str)(r:Lr):(Str.join ⟨#[c]⟩ (a::b::r)).cps.toList=a.cps.toList++c::(Str.join ⟨#[c]⟩ (b::r)).cps.toList:=by show (a++(⟨#[c]⟩:Str)++Str.join ⟨#[c]⟩ (b::r)).cps.toList=_;simp[Str.cps_append]
theorem qQ(c:Nat):∀(g f:Lr),g≠[]->f≠[]->(∀p∈g,c∉p.cps.toList)->(∀p∈f,c∉p.cps.toList)->Str.join ⟨#[c]⟩ g=Str.join ⟨#[c]⟩ f->g=f
 |[],_,h,_,_,_,_=>absurd rfl h
 |_::_,[],_,h,_,_,_=>absurd rfl h
 |[a],[b],_,_,_,_,h=>by have:a=b:=h;rw[this]
 |[a],b::i::r,_,_,h1,_,h=>by have e:=bw (λz:Str=>z.cps.toList) h;simp only[k6] at e;exact(yN _ _ _ (h1 a (by simp)) e).elim
 |a::a2::r,[b],_,_,_,d,h=>by have e:=bw (λz:Str=>z.cps.toList) h;simp only[k6] at e;exact(yN _ _ _ (d b (by simp)) e.symm).elim
 |a::a2::r,b::i::t,_,_,h1,d,h=>by have e:=bw (λz:Str=>z.cps.toList) h;simp only[k6] at e;obtain⟨m,l⟩:=uj _ _ _ _ (h1 a (by simp)) (d b (by simp)) e;have k:a=b:=Str.ext' (dq.mp m);have j:=qQ c (a2::r) (i::t) (by simp) (by simp) (λp hp=>h1 p (by simp[hp])) (λp hp=>d p (by simp[hp])) (Str.ext' (dq.mp l));rw[k,j]
def yO(x y:Str):Txt.split x y≠[]:=by
 unfold Txt.split;split
 ·simp
 ·split
  ·simp
  ·rw[partsBetween_eq];obtain⟨p,r,e⟩:=partsFrom_ne x y.length 0 (occurrences x y 0 x.length (x.length+1));rw[e];simp
def sX(c:Nat)(a:Lr)(b:a≠[])(h:∀p∈a,c∉p.cps.toList):Txt.split (Str.join ⟨#[c]⟩ a) ⟨#[c]⟩=a :=
 qQ c _ _ (yO _ _) b (λp hp=>split_free _ c p hp) h (join_split _ _)
theorem kO(x:Str)(w:Nat):∀(b:List Nat) (a:Nat),(partsFrom x w a b).length=b.length+1
 |[],_=>rfl
 |c::r,a=>by show (strSub x a c::partsFrom x w (c+w) r).length=_;simp[kO x w r]
abbrev wl(a:List Str):eD:=.list (a.map .str)
def Dc(c:Nat)(a:Lr)(b:a≠[])(h:∀p∈a,c∉p.cps.toList)(d:(Str.join ⟨#[c]⟩ a).length<=1000000):
  iK (.str (Str.join ⟨#[c]⟩ a)) [.str ⟨#[c]⟩]=Y (wl a):=by
 have e:=occ_length_le_len (Str.join ⟨#[c]⟩ a) ⟨#[c]⟩ 0 (Str.join ⟨#[c]⟩ a).length ((Str.join ⟨#[c]⟩ a).length+1);show (if _ then _ else Z)=_;rw[ag ⟨rfl,by rw[sizeLine_eq];omega,by rw[partsBetween_eq,kO,sizeLine_eq];omega⟩,sX c a b h]
def OF(c:Nat)(a:Lr){B:Nat}(b:∀y∈a,y.length<=B)(h:a.length*B+a.length<=1000000):
  qf (.str ⟨#[c]⟩) [wl a]=Y (.str (Str.join ⟨#[c]⟩ a)):=by
 show (qK (a.map .str)).bind (λtexts=>if JoinOk ⟨#[c]⟩ texts=true then Y (eD.str (Txt.join ⟨#[c]⟩ texts)) else Z)=_;rw[yx];have:JoinOk ⟨#[c]⟩ a=true:=by unfold JoinOk;rw[joinFits b (by show _+a.length*1<=_;omega)];rfl
 show (if JoinOk ⟨#[c]⟩ a=true then Y (eD.str (glued ⟨#[c]⟩ a)) else Z)=_;rw[ag this,glued_eq_join]
def F8(c:Nat)(a:Lr){B:Nat}(b:∀y∈a,y.length<=B):(Str.join ⟨#[c]⟩ a).length<=a.length*B+a.length:=by have d:=join_length_le ⟨#[c]⟩ a;have e:=sumLen_le a b;have:(⟨#[c]⟩:Str).length=1:=rfl;rw[this] at d;omega
theorem BS(c k:Nat)(e:k≠c):∀d:Lr,(∀p∈d,k∉p.cps.toList)->k∉(Str.join ⟨#[c]⟩ d).cps.toList
 |[],_=>by simp[Str.join,Str.empty]
 |[a],h=>h a (by simp)
 |a::b::r,h=>by rw[k6];have:=BS c k e (b::r) (λp hp=>h p (by simp[hp]));have f:=h a (by simp);simp only[aR,ao,not_or];exact⟨f,e,this⟩
def sE(x:Str):Bool:=decide (1<=x.length)&&decide (x.length<=8)&&x.cps.toList.all λc=>decide (97<=c)&&decide (c<=122)
def zU:sE x=true↔1<=x.length/\x.length<=8/\∀c∈x.cps.toList,97<=c/\c<=122:=by simp only[sE,bD,cC,bL,and_assoc]
def JP(h:sE x=true){c:Nat}(b:c<97):c∉x.cps.toList:=λa=>by have:=((zU.mp h).2.2 c a).1;omega
def Tj(h:sE x=true):eD.strOk x=true:=by unfold eD.strOk;rw[Array.all_eq_true_iff_forall_mem];intro c a;have:=((zU.mp h).2.2 c (by simpa using a)).2;simp;omega
def mE(h:eD.strOk x=true):SeqAt.shaped (.str x)=true:=by simp[SeqAt.shaped,eD.canLay0,eD.depth,h]
def OG(a b:Str):eD.eqv (.str a) (.str b)=(a==b):=by rw[eD.eqv]
def Vh{a b:Str}(d:eD.strOk a=true)(c:eD.strOk b=true):jN (.str a) (.str b)=Y (.bool (a==b)):=by rw[jN,ag ⟨mE d,mE c⟩,OG]
def Yb{a b:Str}(d:eD.strOk a=true)(c:eD.strOk b=true):v5 (.str a) (.str b)=Y (.bool (!(a==b))):=by rw[v5,ag ⟨mE d,mE c⟩,OG]
theorem zV:∀a:Lr,eD.depthAll (a.map .str)=0
 |[]=>by simp[eD.depthAll]
 |w::a=>by simp[eD.depthAll,eD.depth,zV a]
def BU{a:Lr}(h:∀w∈a,eD.strOk w=true):SeqAt.shaped (wl a)=true:=by
 have:eD.canLayAll0 (a.map .str)=true:=by rw[PyProof.Rows.canLayAll_strs'];simpa using h
 simp[SeqAt.shaped,eD.canLay0,eD.depth,this,zV]
theorem wF:∀d c:Lr,eD.eqvAll (d.map .str) (c.map .str)=decide (d=c)
 |[],[]=>by rw[bC,eD.eqvAll];rfl
 |[],b::c=>by rw[bC,ai,eD.eqvAll];simp
 |a::d,[]=>by rw[bC,ai,eD.eqvAll];simp
 |a::d,b::c=>by
  rw[ai,ai,eD.eqvAll,OG,wF d c];by_cases e:a=b
  ·subst e;simp
  ·simp[e]
def Vi(b a:Lr):eD.eqv (wl b) (wl a)=decide (b=a):=by rw[eD.eqv,wF]
def OH{b a:Lr}(d:∀w∈b,eD.strOk w=true)(c:∀w∈a,eD.strOk w=true):jN (wl b) (wl a)=Y (.bool (decide (b=a))):=by rw[jN,ag ⟨BU d,BU c⟩,Vi]
def lt1(c d:Nat):decide (([c]:List Nat)<[d])=decide (c<d):=by rw[lt_cons_cons];simp
def Yc:zZ "a"=⟨#[97]⟩:=by decide +kernel
def Yd:zZ "z"=⟨#[122]⟩:=by decide +kernel
def L3{c:Nat}(h:97<=c/\c<=122)(x:eD):jT [Y x,Y (.str ⟨#[c]⟩)]=Y (.nx [Y x,Y (.str ⟨#[c]⟩)]):=by
 have d:rQ (.str ⟨#[97]⟩) (.str ⟨#[c]⟩)=Y (.bool true):=by show Y (eD.bool (!decide (([c]:List Nat)<[97])))=_;rw[lt1,aU (by omega)];rfl
 have b:rQ (.str ⟨#[c]⟩) (.str ⟨#[122]⟩)=Y (.bool true):=by show Y (eD.bool (!decide (([122]:List Nat)<[c])))=_;rw[lt1,aU (by omega)];rfl
 have a:vi rQ rQ (zA "a") (bS 1) (zA "z") [Y x,Y (.str ⟨#[c]⟩)]=Y true:=by simp only[vi,dC,bS,Yc,Yd,bQ,cN,Option.join_some,aD,d,b];rfl
 simp? only[jT,a]
theorem zW(x:eD):∀(l:List Nat) (o:Od),(∀c∈l,97<=c/\c<=122)->∃a,qr (Hf (.one 1)) jT (l.map λc=>.str ⟨#[c]⟩) [Y x,o]=Y (.nx [Y x,a])
 |[],o,_=>⟨o,rfl⟩
 |c::l,o,h=>by obtain⟨a,e⟩:=zW x l (Y (.str ⟨#[c]⟩)) λz b=>h z (by simp[b]);refine⟨a,?_⟩;rw[ai,qr];show ((jT [Y x,Y (.str ⟨#[c]⟩)])).bind _=_;rw[L3 (h c (by simp))];exact e
def OI:eD.strOk (zZ "")=true:=by decide +kernel
def RA(h:sE x=true):nP [.str x]=Y (.bool true):=by
 obtain⟨i,l,g⟩:=zU.mp h;obtain⟨k,e⟩:=zW (.str x) x.cps.toList Z g;have a:(x==zZ "")=false:=by rw[aQ];intro z;subst z;exact absurd i (by decide +kernel)
 have f:nB [.str x]=Y (.bool true):=by
  simp? only[nB,uB]
  rw[show sQ x=x.cps.toList.map λc=>eD.str ⟨#[c]⟩ from rfl,e]
  simp? only[Yb (Tj h) OI,a]
 have b:(x.length:Int)<=8:=by omega
 have d:x.length<=16777216:=by omega
 have j:rQ (.int x.length) (.int 8)=Y (.bool true):=by simp[rQ,Y0,dI,b]
 simp? only[nP,BR,qG,Qv,ag d,f,j]
def k8(a b:String):jN (.str (zZ a)) (.str (zZ b))=Y (.bool (a==b)):=by rw[Vh (eQ a) (eQ b),lp]
def o4(a b:String):v5 (.str (zZ a)) (.str (zZ b))=Y (.bool (!(a==b))):=by rw[Yb (eQ a) (eQ b),lp]
def OJ(l:Lp)(i:Int):pY (.list l) (.int i)=tJ l i:=rfl
def ixT(l:Lp)(i:Int):pY (.tuple l) (.int i)=tJ l i:=rfl
def Tn(a:α)(l:List α):tJ (a::l) 0=Y a:=by
 have:(0:Int)<((l.length:Nat):Int)+1:=by omega
 simp[tJ,Gu,this]
def Wm(a b:α)(l:List α):tJ (a::b::l) 1=Y b:=by
 have:(1:Int)<((l.length:Nat):Int)+1+1:=by omega
 simp[tJ,Gu,this]
def at2(a b c:α)(l:List α):tJ (a::b::c::l) 2=Y c:=by
 have:(2:Int)<((l.length:Nat):Int)+1+1+1:=by omega
 simp[tJ,Gu,this]
def F9(n d:Nat)(v:Int):HT.ki n d (Y v)=if v<0 then (v+(n:Int)).toNat else min v.toNat n:=rfl
def Ga(l:List α)(k:Nat)(a:k<=l.length):rN l (Y (k:Int)) Z=l.drop k:=by unfold rN;rw[F9,aj (by omega)];simp only[HT.ki];rw[cV,Nat.min_eq_left a,List.take_of_length_le];simp
def Ye(a b:α)(l:List α):rN (a::b::l) (Y 2) Z=l:=by have:=Ga (a::b::l) 2 (by simp);simpa using this
def JQ(l:Lp):kD [.list l]=Y (.list l):=rfl
def slL(l:Lp)(a b:Option Int):SQ (.list l) a b=Y (.list (rN l a b)):=rfl
def Iz(l:Lp):qG [.list l]=Y (.int l.length):=rfl
def o5(x y:eD):uX x y=(nW x y).map .bool:=rfl
def zY(x y:eD):nX x y=(nW x y).map λb=>.bool (!b):=rfl
def kw(a:Lr):Lr:=if a=[] then [] else zZ "keeps"::a
def RB(f:Str)(r:Lr):gu [wl (zZ "func"::f::r)]=Y (.str f):=by
 have b:("func"=="method")=false:=by decide
 have a:("func"=="func")=true:=by decide
 simp? only[gu,qR,wl,OJ,Tn,Wm,k8,b,a]
def RC(k m:Str)(r:Lr)(f:k.length<=8)(e:m.length<=8):gu [wl (zZ "method"::k::m::r)]=Y (.str (k++(zZ "."++m))):=by
 have d:("method"=="method")=true:=by decide
 have c:k.length<=16777216:=by omega
 have b:m.length<=16777216:=by omega
 have a:(k++(zZ "."++m)).length<=16777216:=by rw[cY,cY,show (zZ ".").length=1 by decide +kernel];omega
 simp? only[gu,qR,iC,pb,wl,OJ,Tn,Wm,at2,k8,d,ag c,ag b,ag a,Str.append_empty]
def JR:gu [wl ["main"]]=Y (.str "main"):=by kernel_rfl
theorem BV:∀a:Lr,sS (a.map .str)=Y (a.map .inr)
 |[]=>rfl
 |w::a=>by show ((o9 (.str w)).bind λk=>(sS (a.map .str)).map (k::·))=_;rw[BV a];rfl
theorem z0{K:Type}[DecidableEq K]:∀(b a:List K),(a++b).Nodup->mV a b=a++b
 |[],a,_=>by simp[mV]
 |k::b,a,h=>by
  have c:k∉a:=λz=>by rw[br] at h;exact h.2.2 k z k (by simp) rfl
  show mV (sR a k) b=_;have e:sR a k=a++[k]:=by simp[sR,c]
  rw[e,z0 b (a++[k]) (by simpa using h)];simp
def RD{c:Lr}(h:c.Nodup)(g:c.length<=900):oj [wl c]=Y (.bool true):=by
 have d:(c.map (Sum.inr:Str->Key)).Nodup:=by unfold List.Nodup at h ⊢;exact dO _ (λa b q z=>q (by injection z)) h
 have f:CP (bS 0) [Y (.list (c.map .str))]=Y (.int c.length):=by show (sS (c.map .str)).bind _=_;rw[BV];show (if _ then _ else Z)=_;rw[ag (by rw[aL];omega),z0 _ _ (by simpa using d)];simp
 have e:jN (zi c.length) (zi c.length)=Y (.bool true):=by rw[jN,ag ⟨by rfl,by rfl⟩,eD.eqv];simp
 simp? only[oj,ze,wl,f,Iz,aL,e]
noncomputable def gD(H:List (Str×eD)):eD:=.dict (H.map λp=>(.str p.1,p.2))
theorem BW{t:Str}:∀{H:List (Str×eD)},t∉H.map (·.1)->kM (.str t) (H.map λp=>(.str p.1,p.2))=Z
 |[],_=>rfl
 |p::H,h=>by simp only[ai,ao,not_or] at h;rw[ai,kM,aj (by show ¬ (decide (p.1=t))=true;simpa using λz:p.1=t=>h.1 z.symm)];exact BW h.2
theorem BX{t:Str}{d:eD}:∀{H:List (Str×eD)},(H.map (·.1)).Nodup->(t,d)∈H->kM (.str t) (H.map λp=>(.str p.1,p.2))=Y d
 |[],_,h=>by simp at h
 |p::H,nd,h=>by
  rw[ai,bc] at nd;rw[ai,kM];rcases ao.mp h with e|e
  ·subst e;rw[ag (by show (decide (t=t))=true;simp)]
  ·have:p.1≠t:=λz=>nd.1 (by rw[z];exact aP.mpr ⟨(t,d),e,rfl⟩);rw[aj (by show ¬ (decide (p.1=t))=true;simpa using this)];exact BX nd.2 e
theorem Gb{t:Str}:∀{H:List (Str×eD)},t∉H.map (·.1)->((H.map λp=>((.str p.1:eD),p.2)).any λx=>nU x.1 (.str t))=false
 |[],_=>rfl
 |p::H,h=>by
  simp only[ai,ao,not_or] at h;rw[ai,bz,Gb h.2];have:nU (.str p.1) (.str t)=false:=by show decide (p.1=t)=false;simpa using λz:p.1=t=>h.1 z.symm
  rw[this];rfl
def xT(H:List (Str×eD)):gE (H.map λp=>((.str p.1:eD),p.2))=false:=by cases H<;>rfl
def IA{t:Str}{H:List (Str×eD)}(h:t∉H.map (·.1))(a:H.length<=900):Ap (.str t) d (gD H)=Y (gD (H++[(t,d)])):=by show (if _ then _ else Z)=_;rw[ag ⟨by rw[aL,sizeLine_eq];omega,xT H⟩];show Y (eD.dict (Ez (.str t) d _))=_;rw[Ez,aj (by rw[Gb h];simp)];simp[gD]
theorem JS{t:Str}:∀{H:List (Str×eD)},t∈H.map (·.1)->(kM (.str t) (H.map λp=>(.str p.1,p.2))).isSome=true
 |[],h=>by simp at h
 |p::H,h=>by
  rw[ai,kM];by_cases q:p.1=t
  ·rw[ag (by show (decide (p.1=t))=true;simpa using q)];rfl
  ·rw[aj (by show ¬ (decide (p.1=t))=true;simpa using q)];refine JS ?_;rw[ai] at h;rcases ao.mp h with e|e
   ·exact absurd e.symm q
   ·exact e
def BY{t:Str}{H:List (Str×eD)}:nW (.str t) (gD H)=Y (decide (t∈H.map (·.1))):=by
 show (if gE _=true then Z else _)=_;rw[aj (by rw[xT];simp)];show Y (kM (.str t) _).isSome=_;by_cases h:t∈H.map (·.1)
 ·rw[bF h,JS h]
 ·rw[aU h,BW h];rfl
def To{t:Str}{H:List (Str×eD)}(a:(H.map (·.1)).Nodup)(h:(t,d)∈H):pY (gD H) (.str t)=Y d:=by show (if gE _=true then Z else _)=_;rw[aj (by rw[xT];simp)];exact BX a h
def RE(H:List (Str×eD)):kD [gD H]=Y (wl (H.map (·.1))):=by show (if gE _=true then Z else _)=_;rw[aj (by rw[xT];simp)];simp[wl,dP]
def DQ:kR .none .none=Y (.bool false):=rfl
def DR(t:Str):kR (.str t) .none=Y (.bool true):=rfl
def DS(b:Bool):kn (.bool b)=Y b:=rfl
def lO(b:Bool):mz (.bool b)=true:=rfl
def Vj(b:Str):mz (.str b)=true:=rfl
def Vk(b:Int):mz (.int b)=true:=rfl
def JT:mz .none=true:=rfl
def JU(a:Lr):EC (wl a)=true:=by simp[EC,wl,mz]
def RF(l:List α)(a:α):tJ (l++[a]) (-1)=Y a:=by
 have c:(1:Int)<=(l.length:Int)+1:=by omega
 have b:(-1+((l.length:Int)+1)).toNat=l.length:=by omega
 simp[tJ,Gu,c,b]
def js{a:BD}{g:c7->Option gk}{ρ1:c7}(h:(a d ρ).bind g=Y (.nx ρ1)):qr a g (d::ds) ρ=qr a g ds ρ1:=by rw[qr,h];rfl
def kh{A B:c7->Option gk}{ρ0 ρ1:c7}{o:Option gk}(b:A ρ0=Y (.nx ρ1))(a:B ρ1=o):eJ A B ρ0=o:=by rw[JO,b,OB,a]
def RG{c:c7->Option Bool}{A B:c7->Option gk}{o:Option gk}(b:c ρ=Y true)(a:A ρ=o):iY c A B ρ=o:=by rw[Vd,b,X5,a]
def z4{c:c7->Option Bool}{A B:c7->Option gk}{o:Option gk}(b:c ρ=Y false)(a:B ρ=o):iY c A B ρ=o:=by rw[Vd,b,X6,a]
def jK(h:f (iT O ρ)=Y d):fW (gZ O f) i ρ=Y (.nx (ρ.set i (Y d))):=by rw[Iw,Ox,h];rfl
def eqI(i j:Int):jN (.int i) (.int j)=Y (.bool (i==j)):=by rw[jN,ag ⟨by rfl,by rfl⟩,eD.eqv]
def IB(k m:Str):Str:=k++(zZ "."++m)
def ln(a:Lr):Str:=Str.join ⟨#[32]⟩ a
def GR(a:Lr):Prop:=a≠[]/\(∀w∈a,sE w=true)/\a.length<=12
def GR.len{a:Lr}(h:GR a):(Str.join ⟨#[32]⟩ a).length<=108:=by have:=F8 32 a (B:=8) λw hw=>(zU.mp (h.2.1 w hw)).2.1;have:=h.2.2;omega
def GR.split{a:Lr}(h:GR a):iK (.str (Str.join ⟨#[32]⟩ a)) [.str ⟨#[32]⟩]=Y (wl a) :=
 Dc 32 a h.1 (λw hw=>JP (h.2.1 w hw) (by decide)) (by have:=h.len;omega)
def GR.ok{a:Lr}(h:GR a):∀w∈a,eD.strOk w=true:=λw hw=>Tj (h.2.1 w hw)
structure Hb (t:Str) (ws:Lr):Prop where
 hd:(∃r,ws=zZ "func"::t::r)\/(∃k m r,ws=zZ "method"::k::m::r/\t=IB k m/\k.length<=8/\m.length<=8)\/(ws=[zZ "main"]/\t=zZ "main")
 tok:eD.strOk t=true
def Hb.Tp{t:Str}{a:Lr}(h:Hb t a):gu [wl a]=Y (.str t):=by
 rcases h.hd with ⟨r,rfl⟩ | ⟨k,m,r,rfl,rfl,c,b⟩ | ⟨rfl,rfl⟩
 ·exact RB t r
 ·exact RC k m r c b
 ·exact JR
theorem Hb.w0{t:Str}{a:Lr}(h:Hb t a):∃(w0:String) (r:Lr),a=zZ w0::r/\(w0="func"\/w0="method"\/w0="main"):=by
 rcases h.hd with ⟨r,rfl⟩ | ⟨k,m,r,rfl,_⟩ | ⟨rfl,_⟩
 ·exact⟨"func",_,rfl,.inl rfl⟩
 ·exact⟨"method",_,rfl,.inr (.inl rfl)⟩
 ·exact⟨"main",_,rfl,.inr (.inr rfl)⟩
inductive Wk:Nat->Str->List Lr->List (Str×Lr)->List (Lr×Str)->Prop
 |nil (b:Str):Wk 0 b [] [] []
 |kind (b:Str) (r:Lr) {rest:List Lr}{hs:List (Str×Lr)}{ns:List (Lr×Str)}:Wk 0 b rest hs ns->Wk 0 b ((zZ "kind"::r)::rest) hs ns
 |head (b:Str) {t:Str}{ws:Lr}{rest:List Lr}{hs:List (Str×Lr)}{ns:List (Lr×Str)}:Hb t ws->Wk 1 t rest hs ns->Wk 0 b (ws::rest) ((t,ws)::hs) ns
 |fin {d:Nat}{b:Str}{rest:List Lr}{hs:List (Str×Lr)}{ns:List (Lr×Str)}:Wk d b rest hs ns->Wk (d+1) b ([zZ "end"]::rest) hs ns
 |Zo {d:Nat}{b:Str}{rest:List Lr}{hs:List (Str×Lr)}{ns:List (Lr×Str)}:Wk (d+1) b rest hs ns->Wk (d+1) b ([zZ "else"]::rest) hs ns
 |row {d:Nat}{b:Str} (w0:String) (r:Lr) (bl:Bool) {rest:List Lr}{hs:List (Str×Lr)}{ns:List (Lr×Str)}:(w0=="end")=false->(w0=="else")=false->(w0=="if"||w0=="while")=bl ->
   Wk (if bl then d+2 else d+1) b rest hs ns->Wk (d+1) b ((zZ w0::r)::rest) hs ((zZ w0::r,b)::ns)
def BZ(w0:String):nW (.str (zZ w0)) (.tuple [.str (zZ "if"),.str (zZ "while")])=Y (w0=="if"||w0=="while"):=by
 show (if _ then _ else Z)=_;rw[ag ⟨mE (eQ _),by simp[mE (eQ _)],by simp[eD.depth]⟩];simp only[bz,List.any_nil,dt,OG,lp]
 congr 1
 rw[dR,dR (b:="while")]
abbrev r9:=Int×(List Str×Str)
noncomputable def OK(i:Nat)(x:r9):eD×eD:=(.int (i:Int),.tuple [.int x.1,wl x.2.1,.str x.2.2])
noncomputable def rE:Nat->List r9->List (eD×eD)
 |_,[]=>[]
 |i,x::r=>OK i x::rE (i+1) r
theorem JV:∀(E:List r9) (i:Nat) (x:r9),rE i (E++[x])=rE i E++[OK (i+E.length) x]
 |[],i,x=>rfl
 |y::E,i,x=>by
  rw[bf,rE,rE,JV E (i+1) x,bf,ax]
  congr 4;omega
theorem DT:∀(E:List r9) (i:Nat),(rE i E).length=E.length
 |[],_=>rfl
 |y::E,i=>by rw[rE,ax,DT E,ax]
def z5(E:List r9)(i:Nat):gE (rE i E)=false:=by cases E<;>rfl
theorem JW:∀(E:List r9) (i n:Nat),i+E.length<=n->((rE i E).any λx=>nU x.1 (zi n))=false
 |[],_,_,_=>rfl
 |y::E,i,n,h=>by
  rw[ax] at h;rw[rE,bz,JW E (i+1) n (by omega)];have:nU (zi i) (zi n)=false:=by show decide ((i:Int)=(n:Int))=false;exact aU (by omega)
  show (nU (zi i) (zi n)||false)=false;rw[this];rfl
theorem JX:∀(E:List r9) (i k:Nat) (x:r9),E[k]?=Y x->kM (zi (i+k:Nat)) (rE i E)=Y (.tuple [.int x.1,wl x.2.1,.str x.2.2])
 |[],_,_,_,h=>by simp at h
 |y::E,i,0,x,h=>by rw[cN] at h;cases h;rw[rE,OK,kM,ag (by show decide ((i:Int)=((i+0:Nat):Int))=true;simp)]
 |y::E,i,k+1,x,h=>by rw[bQ] at h;rw[rE,OK,kM,aj (by show ¬ decide ((i:Int)=((i+(k+1):Nat):Int))=true;simp;omega)];have:=JX E (i+1) k x h;rwa[show i+1+k=i+(k+1) by omega] at this
def OM(E:List r9):qG [.dict (rE 0 E)]=Y (zi E.length):=by show (if gE _=true then Z else Y (eD.int ((rE 0 E).length:Int)))=_;rw[aj (by rw[z5];simp),DT]
def Vl(E:List r9)(x:r9)(a:E.length<=900):Ap (zi E.length) (.tuple [.int x.1,wl x.2.1,.str x.2.2]) (.dict (rE 0 E))=Y (.dict (rE 0 (E++[x]))):=by show (if _ then _ else Z)=_;rw[ag ⟨by rw[DT,sizeLine_eq];omega,z5 E 0⟩];show Y (eD.dict (Ez _ _ _))=_;rw[Ez,aj (by rw[JW E 0 E.length (by omega)];simp),JV,OK,d7]
def Tq{E:List r9}{k:Nat}{x:r9}(h:E[k]?=Y x):pY (.dict (rE 0 E)) (zi k)=Y (.tuple [.int x.1,wl x.2.1,.str x.2.2]):=by show (if gE _=true then Z else _)=_;rw[aj (by rw[z5];simp)];have:=JX E 0 k x h;rw[d7] at this;exact this
def Yf:Uz (.int 0) (.int 0)=Y (.bool false):=by kernel_rfl
def gtS(d:Nat):Uz (zi (d+1:Nat)) (.int 0)=Y (.bool true):=by show Y (eD.bool (decide ((0:Int)<((d+1:Nat):Int))))=_;rw[bF (by omega)]
def Yg:jN (.int 0) (.int 0)=Y (.bool true):=by kernel_rfl
def eqS(d:Nat):jN (zi (d+1:Nat)) (.int 0)=Y (.bool false):=by
 rw[eqI]
 congr 2
def B0(d:Nat):(((d+1:Nat):Int) - 1)=(d:Int):=by omega
def B3(d:Nat):((d:Nat):Int)+1=((d+1:Nat):Int):=by omega
def vQ(k:Nat)(a:List Lr):Lp:=((a.map λb=>eD.str (Str.join ⟨#[32]⟩ b)).zipIdx k).map λx=>.tuple [.int x.2,x.1]
def mF(k:Nat)(b:Lr)(a:List Lr):vQ k (b::a)=.tuple [.int (k:Int),.str (Str.join ⟨#[32]⟩ b)]::vQ (k+1) a:=by simp[vQ,List.zipIdx_cons]
def qp(a:Str)(r:Lr):pY (wl (a::r)) (.int 0)=Y (.str a):=by simp only[wl,ai,OJ,Tn]
def RH(v:eD):∀{d:Nat}{b:Str}{c:List Lr}{A:List (Str×Lr)}{z:List (Lr×Str)},Wk d b c A z->∀(k:Nat) (E:List r9) (bd:eD) (l r w:Od),(0<d->bd=.str b)->E.length+c.length<=900->(∀f∈c,GR f) ->
  ∃n s q p o,n.map (·.2)=z/\qr (Hf (.many [4,5])) fy (vQ k c) [Y v,Y (.dict (rE 0 E)),Y bd,Y (zi d),l,r,w]=Y (.nx [Y v,Y (.dict (rE 0 (E++n))),s,Y (.int 0),q,p,o]):=by
 intro d b c A z h;induction h with
 |nil b=>intro k E bd l r w _ _ _;exact⟨[],Y bd,l,r,w,rfl,by rw[aM];rfl⟩
 |@kind b i j A z G x=>
  intro k E bd l r w B u m;have g:=m _ (aY ..);obtain⟨n,s,q,p,o,y,e⟩:=x (k+1) E bd (Y (zi k)) (Y (.str (Str.join ⟨#[32]⟩ (zZ "kind"::i)))) (Y (wl (zZ "kind"::i))) (by omega) (by simp at u ⊢;omega) λf hw=>m f (ah _ hw);refine⟨n,s,q,p,o,y,?_⟩;rw[mF,js ?_,e];show fy [Y v,Y (.dict (rE 0 E)),Y bd,Y (.int 0),Y (zi k),Y (.str (Str.join ⟨#[32]⟩ (zZ "kind"::i))),w]=_;have C:("kind"=="end")=false:=by decide
  have K:(!("kind"=="kind"))=false:=by decide
  simp? only[fy,tw,g.split,qp,k8,o4,C,K,Yf]
  rfl
 |@head b t f j A z O G x=>
  intro k E bd l r w B u m;have g:=m _ (aY ..);obtain⟨n,s,q,p,o,y,e⟩:=x (k+1) E (.str t) (Y (zi k)) (Y (.str (Str.join ⟨#[32]⟩ f))) (Y (wl f)) (λ_=>rfl) (by simp at u ⊢;omega) λf hw=>m f (ah _ hw);refine⟨n,s,q,p,o,y,?_⟩;rw[mF,js ?_,e];show fy [Y v,Y (.dict (rE 0 E)),Y bd,Y (.int 0),Y (zi k),Y (.str (Str.join ⟨#[32]⟩ f)),w]=_;obtain⟨a,r,R,hw⟩:=O.w0;have H:(a=="end")=false:=by rcases hw with rfl|rfl|rfl<;>decide
  have F:(a=="kind")=false:=by rcases hw with rfl|rfl|rfl<;>decide
  have C:pY (wl f) (.int 0)=Y (.str (zZ a)):=by rw[R];exact qp _ _
  simp? only[fy,tw,g.split,C,k8,o4,H,F,Yf,O.Tp]
  rfl
 |@fin d b j A z G x=>
  intro k E bd l r w B u m;have g:=m _ (aY ..);obtain⟨n,s,q,p,o,y,e⟩:=x (k+1) E bd (Y (zi k)) (Y (.str (Str.join ⟨#[32]⟩ [zZ "end"]))) (Y (wl [zZ "end"])) (λ_=>B (by omega)) (by simp at u ⊢;omega) λf hw=>m f (ah _ hw);refine⟨n,s,q,p,o,y,?_⟩;rw[mF,js ?_,e];show fy [Y v,Y (.dict (rE 0 E)),Y bd,Y (zi (d+1:Nat)),Y (zi k),Y (.str (Str.join ⟨#[32]⟩ [zZ "end"])),w]=_;have C:("end"=="end")=true:=by decide
  simp? only[fy,tw,g.split,qp,k8,o4,C,B0]
 |@Zo d b j A z G x=>
  intro k E bd l r w B u m;have g:=m _ (aY ..);obtain⟨n,s,q,p,o,y,e⟩:=x (k+1) E bd (Y (zi k)) (Y (.str (Str.join ⟨#[32]⟩ [zZ "else"]))) (Y (wl [zZ "else"])) (λ_=>B (by omega)) (by simp at u ⊢;omega) λf hw=>m f (ah _ hw);refine⟨n,s,q,p,o,y,?_⟩;rw[mF,js ?_,e];show fy [Y v,Y (.dict (rE 0 E)),Y bd,Y (zi (d+1:Nat)),Y (zi k),Y (.str (Str.join ⟨#[32]⟩ [zZ "else"])),w]=_;have C:("else"=="end")=false:=by decide
  have K:(!("else"=="else"))=false:=by decide
  have S:("else"=="if"||"else"=="while")=false:=by decide
  simp? only[fy,tw,g.split,qp,k8,o4,C,K,gtS,o5,BZ,S]
 |@row d b a i T j A z H F P G x=>
  intro k E bd l r w B u m;have g:=m _ (aY ..);have J:=B (by omega);subst J;obtain⟨n,s,q,p,o,y,e⟩:=x (k+1) (E++[((k:Int),(zZ a::i,b))]) (.str b) (Y (zi k)) (Y (.str (Str.join ⟨#[32]⟩ (zZ a::i)))) (Y (wl (zZ a::i))) (λ_=>rfl) (by simp at u ⊢;omega) λf hw=>m f (ah _ hw);refine⟨((k:Int),(zZ a::i,b))::n,s,q,p,o,by rw[ai,y],?_⟩;rw[aV,List.singleton_append] at e;rw[mF,js ?_,e];show fy [Y v,Y (.dict (rE 0 E)),Y (.str b),Y (zi (d+1:Nat)),Y (zi k),Y (.str (Str.join ⟨#[32]⟩ (zZ a::i))),w]=_;have N:E.length<=900:=by simp at u;omega
  have L:=Vl E ((k:Int),(zZ a::i,b)) N;have M:=OM E;have I:=BZ a;rw[P] at I;have D:wK (.sl 1) (Nl (zN (bS 1))) (gZ [1] (i9 (eK (bS 4) (eK (bS 6) (zQ (bS 2)))))) [Y v,Y (.dict (rE 0 E)),Y (.str b),Y (zi (d+1:Nat)),Y (zi k),Y (.str (Str.join ⟨#[32]⟩ (zZ a::i))),Y (wl (zZ a::i))] =
    Y (.nx [Y v,Y (.dict (rE 0 (E++[((k:Int),(zZ a::i,b))]))),Y (.str b),Y (zi (d+1:Nat)),Y (zi k),Y (.str (Str.join ⟨#[32]⟩ (zZ a::i))),Y (wl (zZ a::i))]):=by
   simp? only[F5,M,L,Vk]
  have Q:(!(a=="else"))=true:=by rw[F];rfl
  cases T with
  |false=>simp? only[fy,tw,g.split,qp,k8,o4,H,F,gtS,D,o5,I,bM]
  |true=>simp? only[fy,tw,g.split,qp,k8,o4,H,F,gtS,D,o5,I,B3]
def hg(hs:List (Str×Lr)):List (Str×eD):=hs.map λp=>(p.1,wl p.2)
def rF(a:List (Str×Lr)):(hg a).map (·.1)=a.map (·.1):=by simp[hg,dP]
def RI(m:Od):∀{d:Nat}{b:Str}{a:List Lr}{i:List (Str×Lr)}{n:List (Lr×Str)},Wk d b a i n->∀(H:List (Str×eD)) (w:Od),(H.map (·.1)++i.map (·.1)).Nodup->H.length+a.length<=900 ->
  ∃f,qr (Hf (.one 3)) fP (a.map wl) [m,Y (gD H),Y (zi d),w]=Y (.nx [m,Y (gD (H++hg i)),Y (.int 0),f]):=by
 intro d b a i n h;induction h with
 |nil b=>intro H w _ _;exact⟨w,by rw[show hg []=[] from rfl,aM];rfl⟩
 |@kind b q c i n s k=>
  intro H w g j;obtain⟨f,e⟩:=k H (Y (wl (zZ "kind"::q))) g (by simp at j ⊢;omega);refine⟨f,?_⟩;rw[ai,js ?_,e];show fP [m,Y (gD H),Y (.int 0),Y (wl (zZ "kind"::q))]=_;have o:("kind"=="end")=false:=by decide
  have E:(!("kind"=="kind"))=false:=by decide
  have x:("kind"=="if"||"kind"=="while")=false:=by decide
  simp? only[fP,qp,k8,o4,o,E,Yg,o5,BZ,x]
  rfl
 |@head b t p c i n O s k=>
  intro H w g j;have A:t∉H.map (·.1):=λz=>by rw[br] at g;exact g.2.2 t z t (by simp) rfl
  obtain⟨f,e⟩:=k (H++[(t,wl p)]) (Y (wl p)) (by simpa using g) (by simp at j ⊢;omega);refine⟨f,?_⟩;have D:H++hg ((t,p)::i)=H++[(t,wl p)]++hg i:=by simp[hg]
  rw[ai,js ?_,e,D];show fP [m,Y (gD H),Y (.int 0),Y (wl p)]=_;obtain⟨l,r,C,hw⟩:=O.w0;have u:(l=="end")=false:=by rcases hw with rfl|rfl|rfl<;>decide
  have y:(l=="kind")=false:=by rcases hw with rfl|rfl|rfl<;>decide
  have o:pY (wl p) (.int 0)=Y (.str (zZ l)):=by rw[C];exact qp _ _
  simp? only[fP,F5,o,k8,o4,u,y,Yg,O.Tp,IA A (show H.length<=900 by simp at j;omega)]
  rfl
 |@fin d b c i n s k=>
  intro H w g j;obtain⟨f,e⟩:=k H (Y (wl [zZ "end"])) g (by simp at j ⊢;omega);refine⟨f,?_⟩;rw[ai,js ?_,e];show fP [m,Y (gD H),Y (zi (d+1:Nat)),Y (wl [zZ "end"])]=_;have o:("end"=="end")=true:=by decide
  simp? only[fP,qp,k8,o4,o,B0]
 |@Zo d b c i n s k=>
  intro H w g j;obtain⟨f,e⟩:=k H (Y (wl [zZ "else"])) g (by simp at j ⊢;omega);refine⟨f,?_⟩;rw[ai,js ?_,e];show fP [m,Y (gD H),Y (zi (d+1:Nat)),Y (wl [zZ "else"])]=_;have o:("else"=="end")=false:=by decide
  have x:("else"=="if"||"else"=="while")=false:=by decide
  simp? only[fP,qp,k8,o4,o,eqS,o5,BZ,x]
 |@row d b l q F c i n u y B s k=>
  intro H w g j;obtain⟨f,e⟩:=k H (Y (wl (zZ l::q))) g (by simp at j ⊢;omega);refine⟨f,?_⟩;rw[ai,js ?_,e];show fP [m,Y (gD H),Y (zi (d+1:Nat)),Y (wl (zZ l::q))]=_;have v:=BZ l;rw[B] at v;cases F with
  |false=>simp? only[fP,qp,k8,o4,u,eqS,o5,v,bM]
  |true=>simp? only[fP,qp,k8,o4,u,eqS,o5,v,B3]
def ON(l:Lp)(a d:eD):Ap (.int (-1)) d (.list (l++[a]))=Y (.list (l++[d])):=by
 have c:(1:Int)<=(l.length:Int)+1:=by omega
 have b:(-1+((l.length:Int)+1)).toNat=l.length:=by omega
 show (Gu _ (-1)).map _=_;simp[Gu,c,b]
def DU(b a:Lr):wl (b++a)=.list (b.map .str++a.map .str):=by simp[wl]
def RJ(B:Lr)(b:Str):pY (wl (B++[b])) (.int (-1))=Y (.str b):=by rw[DU];exact RF _ _
def ok1(s:String):∀w∈[zZ s],eD.strOk w=true:=by intro w hw;simp at hw;subst hw;exact eQ _
def OO{a b:String}(h:(a==b)=false):zZ a≠zZ b:=by intro z;have:=lp a b;rw[z] at this;simp at this;rw[this] at h;simp at h
def tx(a:List Lr):Str:=Str.join ⟨#[10]⟩ (a.map ln)
structure Rt (rows:List Lr) (hs:List (Str×Lr)) (ns:List (Lr×Str)):Prop where
 wk:Wk 0 ⟨#[]⟩ rows hs ns
 gr:∀ws∈rows,GR ws
 nd:(hs.map (·.1)).Nodup
 tok:∀w∈hs.map (·.1),eD.strOk w=true
 len:rows.length<=800
 ne:rows≠[]
def Pr(a:List (eD×eD)):eD:=.dict ((.none,.str "Program")::a)
def RK(a:eD)(x:Str):Prop:=jb ["Program"] "text" a=Y (.str x)/\nZ "Program" "shown" a=true
def Gd{a:eD}(h:RK a x):gX [a]=Y (.str x):=by
 simp? only[gX,qh,h.1]
structure Yh (ws:Lr):Prop where
 line:10∉(ln ws).cps.toList
 len:(ln ws).length<=108
 split:iK (.str (ln ws)) [.str ⟨#[32]⟩]=Y (wl ws)
def GR.line{a:Lr}(h:GR a):10∉(ln a).cps.toList:=BS 32 10 (by decide) a λw hw=>JP (h.2.1 w hw) (by decide)
def GR.lnr{a:Lr}(h:GR a):Yh a:=⟨h.line,h.len,h.split⟩
theorem wG(T:c7->Option Bool)(C:c7->Od)(b:T=λ_=>Y true)(c:C=yy iK (bS 0) (zC (zZ " ") fg)):∀{a:List Lr},(∀ws∈a,Yh ws)->lS T C [] ((a.map ln).map .str)=Y (a.map wl)
 |[],_=>rfl
 |ws::a,h=>by
  have d:=wG T C b c λx (f:x∈a)=>h x (by simp[f]);have g:=h ws (by simp);have e:C [Y (.str (ln ws))]=Y (wl ws):=by
   rw[c]
   simp? only[tw]
   exact g.split
  have i:T [Y (.str (ln ws))]=Y true:=by rw[b]
  rw[ai,ai,lS,i]
  simp? only[e,d]
def JY(h:∀ws∈rows,Yh ws):∀y∈rows.map ln,y.length<=108:=by intro y a;obtain⟨ws,hw,rfl⟩:=aP.mp a;exact(h ws hw).len
def L4(h:∀ws∈rows,Yh ws)(b:rows.length<=800)(a:rows≠[]):iK (.str (tx rows)) [.str (zZ "\n")]=Y (wl (rows.map ln)):=by
 rw[OE];refine Dc 10 (rows.map ln) (by simpa using a) (λp hp=>?_) ?_
 ·obtain⟨ws,hw,rfl⟩:=aP.mp hp;exact(h ws hw).line
 ·have:=F8 10 (rows.map ln) (JY h);rw[aL] at this;omega
def OP(h:∀ws∈rows,Yh ws)(a:rows.length<=800):qf (.str (zZ "\n")) [wl (rows.map ln)]=Y (.str (tx rows)):=by rw[OE];exact OF 10 (rows.map ln) (JY h) (by rw[aL];omega)
def z6(T:c7->Option Bool)(C:c7->Od)(a:T=λ_=>Y true)(b:C=yy iK (bS 0) (zC (zZ " ") fg))(h:∀ws∈rows,GR ws):lS T C [] ((rows.map ln).map .str)=Y (rows.map wl):=wG T C a b λws hw=>(h ws hw).lnr
def uP(h:∀ws∈rows,GR ws)(b:rows.length<=800)(a:rows≠[]):iK (.str (tx rows)) [.str (zZ "\n")]=Y (wl (rows.map ln)):=L4 (λws hw=>(h ws hw).lnr) b a
def RL(h:∀ws∈rows,GR ws)(a:rows.length<=800):qf (.str (zZ "\n")) [wl (rows.map ln)]=Y (.str (tx rows)):=OP (λws hw=>(h ws hw).lnr) a
section
variable {hs:List (Str×Lr)}{ns:List (Lr×Str)}
def JZ(H:Rt rows hs ns){a:eD}(b:RK a (tx rows)):jR [a]=Y (.list (rows.map wl)):=by
 have f:=H.len;have e:=uP H.gr H.len H.ne;have d:=z6 oa oe rfl rfl H.gr;have c:((rows.map ln).map eD.str).length<=16777216:=by simp;omega
 simp? only[jR,qi,b.2,Gd b,e,ag c,pA,d]
def Ge(H:Rt rows hs ns){pr:eD}(c:RK pr (tx rows)):iA [pr]=Y (gD (hg hs)):=by
 have d:=JZ H c;have f:=H.len;obtain⟨e,a⟩:=RI (Y pr) H.wk [] Z (by simpa using H.nd) (by simp;omega);have b:eD.dict []=gD []:=rfl;rw[bB] at a
 simp? only[iA,uo,d,b]
 rw[show eD.int 0=.int ((0:Nat):Int) from rfl,a]
 simp? only[U4]
noncomputable def prog(a:List Lr)(b:List (Str×Lr))(E:List r9):eD:=Pr [(.str "text",.str (tx a)),(.str "numbered",.dict (rE 0 E)),(.str "body_texts",wl (b.map (·.1)))]
def Gf(H:Rt rows hs ns):∃E,E.map (·.2)=ns/\jS [.str (tx rows)]=Y (.dict (rE 0 E)):=by
 have g:=H.len;have b:=uP H.gr H.len H.ne;obtain⟨E,h,f,d,c,a,e⟩:=RH (.str (tx rows)) H.wk 0 [] .none Z Z Z (by omega) (by simp;omega) H.gr;refine⟨E,a,?_⟩;have q:qL ((rows.map ln).map eD.str)=vQ 0 rows:=by unfold qL vQ;rw[cX];rfl
 rw[bB,show rE 0 []=[] from rfl,show eD.int ((0:Nat):Int)=.int 0 from rfl] at e
 simp? only[jS,qm,b,q,e]
def RM{x:eD}(h:f [Y (Pr []),Y x]=Y d):jy 0 "Program" "text" f [Y (Pr []),Y x]=Y (.nx [Y (Pr [(.str "text",d)]),Y x]):=by rw[vO,h];kernel_rfl
def RN{a x:eD}(h:f [Y (Pr [(.str "text",a)]),Y x]=Y d):jy 0 "Program" "numbered" f [Y (Pr [(.str "text",a)]),Y x]=Y (.nx [Y (Pr [(.str "text",a),(.str "numbered",d)]),Y x]):=by rw[vO,h];kernel_rfl
def RO{a b x:eD}(h:f [Y (Pr [(.str "text",a),(.str "numbered",b)]),Y x]=Y d):jy 0 "Program" "body_texts" f [Y (Pr [(.str "text",a),(.str "numbered",b)]),Y x]=Y (.nx [Y (Pr [(.str "text",a),(.str "numbered",b),(.str "body_texts",d)]),Y x]):=by rw[vO,h];kernel_rfl
def RP(H:Rt rows hs ns):∃E,E.map (·.2)=ns/\ke [Pr [],.str (tx rows)]=Y (.none,prog rows hs E):=by
 obtain⟨E,d,f⟩:=Gf H;refine⟨E,d,?_⟩;have e:=Ge H (pr:=Pr [(.str "text",.str (tx rows)),(.str "numbered",.dict (rE 0 E))]) ⟨by kernel_rfl,by kernel_rfl⟩;have c:(gZ [0] (bS 1)) [Y (Pr []),Y (.str (tx rows))]=Y (.str (tx rows)):=rfl;have b:(gZ [0] (jx 1 jS (zQ (bS 1)))) [Y (Pr [(.str "text",.str (tx rows))]),Y (.str (tx rows))]=Y (.dict (rE 0 E)):=by
  simp? only[f]
 have a:(UL (jP kD (zQ (jx 1 iA (zQ (bS 0)))))) [Y (Pr [(.str "text",.str (tx rows)),(.str "numbered",.dict (rE 0 E))]),Y (.str (tx rows))]=Y (wl (hs.map (·.1))):=by
  simp? only[e,RE,rF,JU]
 simp? only[ke,qV,vP,DP,JO,RM c,RN b,RO a]
 rfl
def DV(E:List r9):RK (prog rows hs E) (tx rows):=⟨by kernel_rfl,by kernel_rfl⟩
def z7(E:List r9):jb ["Program"] "numbered" (prog rows hs E)=Y (.dict (rE 0 E)):=by kernel_rfl
end
def Wq(h:n<=1000):(-(2 ^ 62)<=(n:Int)/\(n:Int)<2 ^ 62):=by
 have e:(2:Int) ^ 62=4611686018427387904:=by decide
 rw[e];omega
def aaO{j:Int}(h:f ρ=Y (.int j))(a:-(2 ^ 62)<=j/\j<2 ^ 62):ng f ρ=Y (sg 0 j.toNat):=by rw[aaM,h];simp only[aD];rw[ag a]
def IC(n:Nat):sg 0 n=(List.range' 0 n).map λ(i:Nat)=>eD.int (i:Int):=by unfold sg;rw[List.range_eq_range'];refine List.map_congr_left λa _=>?_;rw[Int.zero_add]
def Tr(a:n<=1000)(ρ:c7)(f:c7->Od)(h:f ρ=Y (zi n)):ng f ρ=Y ((List.range' 0 n).map λ(i:Nat)=>eD.int (i:Int)):=by rw[aaO h (Wq a),cV,IC]
section
variable {hs:List (Str×Lr)}{ns:List (Lr×Str)}
def RQ(E:List r9):nZ "Program" "row_words" (prog rows hs E)=true:=by kernel_rfl
def Vm(E:List r9):nZ "Program" "row_body" (prog rows hs E)=true:=by kernel_rfl
def OQ(E:List r9):nZ "Program" "many_rows" (prog rows hs E)=true:=by kernel_rfl
end
section
structure KR where
 nm:Str
 el:Option Str
 own:Lr
def B4:Option Str->Lr
 |none=>[]
 |some j=>[zZ "of",j]
def xU:Lr->Lr
 |[]=>[]
 |a::l=>zZ "fields"::a::l
def lP(r:KR):Lr:=zZ "kind"::r.nm::(B4 r.el++xU r.own)
def aaP(a:α)(l:List α):rN (a::l) (Y 1) Z=l:=by have:=Ga (a::l) 1 (by simp);simpa using this
def DW:kn (.list [])=Y false:=rfl
def Gg(a:eD)(l:Lp):kn (.list (a::l))=Y true:=rfl
noncomputable def Rg(a hs b bl la:eD)(ov:Bool):eD:=.dict [(.none,.str "Reading"),(.str "fields",a),(.str "heads",hs),(.str "body",b),(.str "blocks",bl),(.str "over",.bool ov),(.str "later",la)]
abbrev R0:eD:=Rg (gD []) (gD []) .none (.list []) (.list []) false
variable {la:eD}
def uQ(c a b bl:eD)(ov:Bool):jb ["Reading"] "over" (Rg c a b bl la ov)=Y (.bool ov):=by kernel_rfl
def rG(d c b e:eD)(a:Bool):jb ["Reading"] "body" (Rg d c b e la a)=Y b:=by kernel_rfl
def uR(d a b e:eD)(c:Bool):jb ["Reading"] "heads" (Rg d a b e la c)=Y a:=by kernel_rfl
def rH(a d b e:eD)(c:Bool):jb ["Reading"] "fields" (Rg a d b e la c)=Y a:=by kernel_rfl
def rJ(e d b a:eD)(c:Bool):jb ["Reading"] "blocks" (Rg e d b a la c)=Y a:=by kernel_rfl
def OR(c a b bl:eD)(ov:Bool):jb ["Reading"] "later" (Rg c a b bl la ov)=Y la:=by kernel_rfl
def ID{e c b g:eD}{a:Bool}{x y:Od}(h:f [Y (Rg e c b g la a),x,y]=Y d):
  jy 0 "Reading" "body" f [Y (Rg e c b g la a),x,y]=Y (.nx [Y (Rg e c d g la a),x,y]):=by
 rw[vO,h];kernel_rfl
def Gh{h g:c7->Od}{c b f:eD}{H:List (Str×eD)}{t:Str}{a:Bool}{x y:Od}(l:h [Y (Rg c (gD H) b f la a),x,y]=Y (.str t))(k:g [Y (Rg c (gD H) b f la a),x,y]=Y d)(i:t∉H.map (·.1))(j:H.length<=900):
  wK (.fl 0 "Reading" "heads") h g [Y (Rg c (gD H) b f la a),x,y]=Y (.nx [Y (Rg c (gD (H++[(t,d)])) b f la a),x,y]):=by
 have e:qt (.fl 0 "Reading" "heads") [Y (Rg c (gD H) b f la a),x,y]=Y (gD H):=by kernel_rfl
 rw[F5,e,l,k];simp only[aD,IA i j,cw]
 kernel_rfl
theorem DX{h g:c7->Od}{c b f:eD}{t:Str}{a:Bool}{x y z:Od}(l:h [Y (Rg (gD F) c b f la a),x,y,z]=Y (.str t))(k:g [Y (Rg (gD F) c b f la a),x,y,z]=Y d)(i:t∉F.map (·.1))(j:F.length<=900):
  wK (.fl 0 "Reading" "fields") h g [Y (Rg (gD F) c b f la a),x,y,z]=Y (.nx [Y (Rg (gD (F++[(t,d)])) c b f la a),x,y,z]):=by
 have e:qt (.fl 0 "Reading" "fields") [Y (Rg (gD F) c b f la a),x,y,z]=Y (gD F):=by kernel_rfl
 rw[F5,e,l,k];simp only[aD,IA i j,cw]
 kernel_rfl
structure Vn (F:eD) (t:Str) (ws:Lr):Prop where
 nm:∀w∈ws,sE w=true
 hd:∃w0 r,ws=zZ w0::r/\(w0="func"\/w0="method"\/w0="main")
 len:ws.length<=12
 Tp:gu [wl ws]=Y (.str t)
 ish:∀hs b bl la ov,vE [Rg F hs b bl la ov,wl ws]=Y (.bool true)
 tok:eD.strOk t=true
def RR{F:eD}{t:Str}{a:Lr}(O:Vn F t a){H:List (Str×eD)}(c:t∉H.map (·.1))(e:H.length<=900)(i:Int):
  gK [Rg F (gD H) .none (.list []) la false,.int i,wl a]=Y (.bool true,Rg F (gD (H++[(t,wl a)])) (.str t) (.list []) la false):=by
 obtain⟨b,r,g,hw⟩:=O.hd;have f:(b=="kind")=false:=by rcases hw with rfl|rfl|rfl<;>decide
 have m:pY (wl a) (.int 0)=Y (.str (zZ b)):=by rw[g];simp only[wl,ai,OJ,Tn]
 have l:=O.ish (gD H) .none (.list []) la false;have d:=BY (t:=t) (H:=H);rw[aU c] at d;have k:(gZ [0] (jx 1 gu (zQ (bS 2)))) [Y (Rg F (gD H) .none (.list []) la false),Y (.int i),Y (wl a)]=Y (.str t):=by
  simp? only[O.Tp]
 have j:(Nl (eS ["Reading"] "body" (bS 0))) [Y (Rg F (gD H) (.str t) (.list []) la false),Y (.int i),Y (wl a)]=Y (.str t):=by
  simp? only[rG,Vj]
 have h:(gZ [0] (bS 2)) [Y (Rg F (gD H) (.str t) (.list []) la false),Y (.int i),Y (wl a)]=Y (wl a):=by
  simp? only[U4]
 simp? only[gK,mB,uQ,rG,uR,DS,DQ,m,k8,f,l,O.Tp,o5,d,ID k,Gh j h c e,lO]
def ltI{i j:Int}(h:¬ i<j):KA (.int i) (.int j)=Y (.bool false):=by simp[KA,dI,h]
def Vo:kn (gD [])=Y false:=by kernel_rfl
def Ts(j:Nat)(g:c7->Option gk)(ρ:c7):QW j g ρ=(g ρ).map (Hv j):=rfl
def RS(b:Lr):rN ((xU b).map eD.str) (Y 1) Z=b.map .str:=by
 cases b with
 |nil=>rfl
 |cons a l=>rw[xU,ai,aaP]
def Yi{a b c d:Od}{x:eD}(h:f [Z,b,c,Z]=Y x):fW (gZ [0,3] f) 2 [a,b,c,d]=Y (.nx [a,b,Y x,d]):=by rw[Iw,Ox,er1,er1,er0];show (f [Z,b,c,Z]).map _=_;rw[h];rfl
theorem OS{r:KR}{a:eD}(e:r.nm∉F.map (·.1))(f:kn a=Y false){b j:eD}{d:Bool}:
  (Cy (vo (eS ["Reading"] "heads" (bS 0))) (Cy (fB (d2 KA (zN (bS 1)) (zI 2))) (fB (d2 uX (zX (bS 1) (zI 1)) (eS ["Reading"] "fields" (bS 0)))))) [Y (Rg (gD F) a b j la d),Y (wl (lP r)),Z,Z]=Y false:=by
 have i:pY (wl (lP r)) (.int 1)=Y (.str (r.nm)):=by simp only[lP,wl,ai,OJ,Wm]
 have h:qG [wl (lP r)]=Y (.int (((lP r).map eD.str).length:Int)):=Iz _;have g:KA (.int (((lP r).map eD.str).length:Int)) (.int 2)=Y (.bool false):=ltI (by simp[lP];omega);have c:=BY (t:=r.nm) (H:=F);rw[aU e] at c
 simp? only[uR,f,h,g,i,rH,o5,c]
def Zp(F:List (Str×eD))(b:Option Str)(a:Lr):Prop:=match b with
 |none=>a=[]
 |some j=>(j,wl a)∈F
theorem OT{i:Option Str}{c d:Lr}(q:(F.map (·.1)).Nodup)(k:Zp F i d){g b h w:eD}{f:Bool}:
  (iY (nT (vo (bS 2)) (fB (d2 jN (zX (bS 2) (zI 0)) (zA "of"))))
   (eJ (iY (Cy (fB (d2 KA (zN (bS 2)) (zI 2))) (fB (d2 nX (zX (bS 2) (zI 1)) (eS ["Reading"] "fields" (bS 0)))))
   (mU (dC (.bool false)))
   fY)
   (eJ (pC (UL (jP kD (zQ (zX (eS ["Reading"] "fields" (bS 0)) (zX (bS 2) (zI 1)))))) 3)
   (fW (gZ [0,3] (j3 (bS 2) (kK (zI 2)) kJ)) 2)))
   fY) [Y (Rg (gD F) g b h la f),Y w,Y (wl (B4 i++xU c)),Y (wl [])]=Y (.nx [Y (Rg (gD F) g b h la f),Y w,Y (wl (xU c)),Y (wl d)]):=by
 cases i with
 |none=>
  have e:d=[]:=k;subst e;refine z4 ?_ ?_
  ·cases c with
   |nil=>simp? only[B4,xU,wl,DW]
   |cons a l=>
    have p:("fields"=="of")=false:=by decide
    simp? only[B4,xU,wl,Gg,OJ,Tn,k8,p]
  ·rfl
 |some j=>
  have e:(j,wl d)∈F:=k;have o:("of"=="of")=true:=by decide
  have y:pY (wl (B4 (Y j)++xU c)) (.int 0)=Y (.str (zZ "of")):=by simp only[B4,wl,bf,ai,OJ,Tn]
  have n:pY (wl (B4 (Y j)++xU c)) (.int 1)=Y (.str (j)):=by simp only[B4,wl,bf,ai,OJ,Wm]
  have x:SQ (wl (B4 (Y j)++xU c)) (Y 2) Z=Y (wl (xU c)):=by simp only[B4,wl,bf,bB,ai,slL,Ye]
  have v:kn (wl (B4 (Y j)++xU c))=Y true:=rfl;have u:qG [wl (B4 (Y j)++xU c)]=Y (.int (((B4 (Y j)++xU c).map eD.str).length:Int)):=Iz _;have s:KA (.int (((B4 (Y j)++xU c).map eD.str).length:Int)) (.int 2)=Y (.bool false):=ltI (by simp[B4];omega);have m:=BY (t:=j) (H:=F);rw[bF (aP.mpr ⟨_,e,rfl⟩)] at m;have r:=To q e;refine RG ?_ (kh (ρ1:=[Y (Rg (gD F) g b h la f),Y w,Y (wl (B4 (Y j)++xU c)),Y (wl [])]) (z4 ?_ rfl) (kh (ρ1:=[Y (Rg (gD F) g b h la f),Y w,Y (wl (B4 (Y j)++xU c)),Y (wl d)]) ?_ (Yi ?_)))
  ·simp? only[v,y,k8,o]
  ·simp? only[u,s,n,rH,zY,m]
  ·simp? only[rH,n,r,JQ,JU]
  ·simp? only[x]
theorem RT{r:KR}{b:Lr}{c:eD}(j:(F.map (·.1)).Nodup)(e:r.nm∉F.map (·.1))(u:kn c=Y false)(n:Zp F r.el b)(k:(b++r.own).Nodup)(m:F.length<=900)(s:b.length+r.own.length<=900):
  nE [Rg (gD F) c .none (.list []) la false,wl (lP r)]=Y (.bool true,Rg (gD (F++[(r.nm,wl (b++r.own))])) c .none (.list []) la false):=by
 have z:(b.map eD.str).length+(r.own.map eD.str).length<=16777216:=by simp;omega
 have w:pY (wl (lP r)) (.int 1)=Y (.str (r.nm)):=by simp only[lP,wl,ai,OJ,Wm]
 have v:SQ (wl (lP r)) (Y 2) Z=Y (wl (B4 r.el++xU r.own)):=by simp only[lP,wl,ai,slL,Ye]
 have i:=RD k (by simpa using s);have g:p7 [Y (Rg (gD F) c .none (.list []) la false),Y (wl (lP r)),Z,Z]=Y (.rt (.tuple [.bool true,Rg (gD (F++[(r.nm,wl (b++r.own))])) c .none (.list []) la false])):=by
  refine kh (z4 (OS e u) rfl) (kh (Yi (x:=wl (B4 r.el++xU r.own)) ?_) (kh (ρ1:=[Y (Rg (gD F) c .none (.list []) la false),Y (wl (lP r)),Y (wl (B4 r.el++xU r.own)),Y (wl [])]) ?_ (kh (OT j n) (kh (ρ1:=[Y (Rg (gD F) c .none (.list []) la false),Y (wl (lP r)),Y (wl (xU r.own)),Y (wl b)]) (z4 ?_ rfl) (kh (ρ1:=[Y (Rg (gD F) c .none (.list []) la false),Y (wl (lP r)),Y (wl (xU r.own)),Y (wl (b++r.own))]) ?_ ?_)))))
  ·simp? only[v]
  ·simp? only[U4];rfl
  ·have p:r.own=[]\/∃a l,r.own=a::l:=by cases r.own<;>simp
   rcases p with q | ⟨a,l,q⟩
   ·rw[q];simp? only[xU,wl,DW]
   ·have h:(!("fields"=="fields"))=false:=by decide
    have f:KA (zi ((l.map eD.str).length+1+1:Nat)) (.int 2)=Y (.bool false):=ltI (by omega);rw[q];simp? only[xU,wl,Gg,OJ,Tn,o4,h,Iz,f]
  ·simp? only[wl,RS,ag z,bR]
  ·rw[Ts,kh (DX (t:=r.nm) (d:=wl (b++r.own)) ?_ ?_ e m) (o:=Y (.rt (.tuple [.bool true,Rg (gD (F++[(r.nm,wl (b++r.own))])) c .none (.list []) la false]))) ?_]
   ·rfl
   ·simp? only[w]
   ·simp? only[U4]
   ·simp? only[i,lO]
 rw[nE,vP];show Iy (p7 [Y (Rg (gD F) c .none (.list []) la false),Y (wl (lP r)),Z,Z])=_;rw[g,uO]
theorem RU{r:KR}{a:Lr}{b:eD}(d:(F.map (·.1)).Nodup)(f:r.nm∉F.map (·.1))(k:kn b=Y false)(h:Zp F r.el a)(e:(a++r.own).Nodup)(g:F.length<=900)(j:a.length+r.own.length<=900)(i:Int):
  gK [Rg (gD F) b .none (.list []) la false,.int i,wl (lP r)]=Y (.bool true,Rg (gD (F++[(r.nm,wl (a++r.own))])) b .none (.list []) la false):=by
 have c:("kind"=="kind")=true:=by decide
 have m:pY (wl (lP r)) (.int 0)=Y (.str (zZ "kind")):=by simp only[lP,wl,ai,OJ,Tn]
 have l:=RT (la:=la) d f k h e g j
 simp? only[gK,mB,uQ,rG,DS,DQ,m,k8,c,l,lO]
def J0(h:c7->Option (eD×c7))(ρ:c7):Hj h ρ=(h ρ).map λr=>.nx r.2:=rfl
def OU{c a b e:eD}{g d:Bool}(h:f [Y (Rg c a b e la g)]=Y (.bool d)):
  jy 0 "Reading" "over" f [Y (Rg c a b e la g)]=Y (.nx [Y (Rg c a b e la d)]):=by
 rw[vO,h];kernel_rfl
def OV{e c b g:eD}{a:Bool}(h:f [Y (Rg e c b g la a)]=Y d):
  jy 0 "Reading" "body" f [Y (Rg e c b g la a)]=Y (.nx [Y (Rg e c d g la a)]):=by
 rw[vO,h];kernel_rfl
def OW{t:Str}(b:eD.strOk t=true)(F a:eD):
  jY [Rg F a (.str t) (.list []) la false]=Y (.none,Rg F a .none (.list []) la (t==zZ "main")):=by
 have d:(Nl (d2 jN (eS ["Reading"] "body" (bS 0)) (zA "main"))) [Y (Rg F a (.str t) (.list []) la false)]=Y (.bool (t==zZ "main")):=by
  simp? only[rG,Vh b (eQ _),lO]
 have c:(gZ [0] (dC .none)) [Y (Rg F a (.str t) (.list []) la (t==zZ "main"))]=Y .none:=rfl
 simp? only[jY,mn,rJ,DW,OU d,OV c]
def RV:jN (.list [.str "end"]) (.list [.str "end"])=Y (.bool true):=by kernel_rfl
def Vp{t:Str}(a:eD.strOk t=true)(F hs:eD)(i:Int):
  gK [Rg F hs (.str t) (.list []) la false,.int i,wl ["end"]]=Y (.bool true,Rg F hs .none (.list []) la (t==zZ "main")):=by
 have b:gw [Rg F hs (.str t) (.list []) la false,.int i,.list [.str "end"]]=Y (.bool true,Rg F hs .none (.list []) la (t==zZ "main")):=by
  simp? only[gw,jm,RV,J0,OW a,JT,lO]
 simp? only[gK,mB,wl,uQ,rG,DS,DR,b,lO]
theorem vR(T:c7->Option Bool)(C:c7->Od)(b:T=λ_=>Y true)(c:C=jx 1 nP (zQ (bS 0))):∀(a:Lr),(∀w∈a,sE w=true)->lS T C [] (a.map .str)=Y (a.map λ_=>.bool true)
 |[],_=>rfl
 |w::a,h=>by
  have d:=vR T C b c a λz f=>h z (by simp[f]);have e:C [Y (.str w)]=Y (.bool true):=by rw[c];simp? only[RA (h w (by simp))]
  have g:T [Y (.str w)]=Y true:=by rw[b]
  rw[ai,lS,g]
  simp? only[e,d]
theorem z8{α:Type}:∀a:List α,p3 (a.map λ_=>eD.bool true)=Y (a.map λ_=>true)
 |[]=>rfl
 |w::a=>by show (p3 (a.map λ_=>eD.bool true)).map (true::·)=_;rw[z8 a];rfl
def z9(a:List α):NF [.list (a.map λ_=>eD.bool true)]=Y (.bool true):=by show (p3 (a.map λ_=>eD.bool true)).map _=_;rw[z8];simp
def Reads:Nat->eD->List Lr->eD->Prop
 |_,R,[],R'=>R=R'
 |n,R,ws::r,R'=>∃a,(∀w∈ws,sE w=true)/\gK [R,.int (n:Int),wl ws]=Y (.bool true,a)/\Reads (n+1) a r R'
theorem Reads.app:∀{d e:List Lr}{n:Nat}{R g f:eD},Reads n R d g->Reads (n+d.length) g e f->Reads n R (d++e) f
 |[],_,_,_,_,_,h1,h2=>by cases h1;exact h2
 |_::d,_,n,_,_,_,⟨Q,a,b,c⟩,h2=>⟨Q,a,b,c.app (by rw[ax] at h2;rwa[show n+1+d.length=n+(d.length+1) by omega])⟩
def IE:∀w∈[zZ "end"],sE w=true:=by intro w hw;simp at hw;subst hw;decide +kernel
def RW:∀w∈[zZ "else"],sE w=true:=by intro w hw;simp at hw;subst hw;decide +kernel
def brX(c:Option (Bool×c7))(g h:c7->Option gk):Option gk:=match c with
 |some (true,ρ)=>g ρ
 |some (false,ρ)=>h ρ
 |none=>Z
def Tt(g h:c7->Option gk)(ρ:c7):brX (Y (false,ρ)) g h=h ρ:=rfl
def Yj(c:c7->Option (Bool×c7))(g h:c7->Option gk)(ρ:c7):QP c g h ρ=brX (c ρ) g h:=by unfold QP brX;rcases c ρ with _ | ⟨_|_,ρ'⟩<;>rfl
def Yk(g:c7->Option Bool)(h:c7->Option (Bool×c7))(ρ:c7):Za g h ρ=Mi (g ρ) (λρ=>Y (true,ρ)) h ρ:=by unfold Za Mi;rcases g ρ with _|_|_<;>rfl
def L5{a:Lr}{R d b rw:eD}{c:Od}{i:Int}(h:∀w∈a,sE w=true)(hw:a.length<=900)(e:gK [R,.int i,wl a]=Y (.bool true,d)):
  iX [Y b,Y R,Y rw,Y (.int i),Y (wl a),c]=Y (.nx [Y b,Y d,Y rw,Y (.int i),Y (wl a),c]):=by
 have j:=vR oY oZ rfl rfl a h;have g:=z9 a;have f:a.length<=16777216:=by omega
 simp? only[iX,Yj,Tt,Yk,wl,aL,ag f,pA,j,g,DS]
 rw[show (eD.list (List.map eD.str a))=wl a from rfl,e]
 simp? only[lO,Tt]
theorem B5(g rw:eD)(c:Od):∀(d:List Lr) (n:Nat) (R f:eD) (a b:Od),Reads n R d f->(∀ws∈d,ws.length<=900) ->
  ∃j i,qr (Hf (.many [3,4])) iX (((d.map wl).zipIdx n).map λx=>.tuple [.int x.2,x.1]) [Y g,Y R,Y rw,a,b,c]=Y (.nx [Y g,Y f,Y rw,j,i,c])
 |[],n,R,f,a,b,h,_=>by cases h;exact⟨a,b,rfl⟩
 |ws::d,n,R,f,a,b,⟨R1,h1,h2,h3⟩,hl=>by obtain⟨j,i,e⟩:=B5 g rw c d (n+1) R1 f (Y (.int n)) (Y (wl ws)) h3 λx k=>hl x (by simp[k]);refine⟨j,i,?_⟩;rw[ai,List.zipIdx_cons,ai,qr];show (iX [Y g,Y R,Y rw,Y (.int n),Y (wl ws),c]).bind _=_;rw[L5 h1 (hl ws (by simp)) h2];exact e
end
def Vq{b:Lr}(h:b≠[]):kn (wl b)=Y true:=by
 cases b with
 |nil=>exact absurd rfl h
 |cons a l=>rfl
def RX(F:eD):Vn F (zZ "main") [zZ "main"] :=
 ⟨by intro w hw;simp at hw;subst hw;decide +kernel,⟨"main",[],rfl,.inr (.inr rfl)⟩,by decide,JR,λc b d la a=>by kernel_rfl,eQ _⟩
noncomputable def gO(w:String)(c x y k e m d:eD)(b a:Lp):eD:=.dict [(.none,.str "Row"),(.str "word",.str (zZ w)),(.str "condition",c),(.str "x",x),(.str "y",y),(.str "kind",k),(.str "field",e),(.str "method",m),(.str "function",d),(.str "handed",.list b),(.str "names",.list a)]
def oy(w:String)(c x y k e m d:eD)(b a:Lp):jb ["Row"] "word" (gO w c x y k e m d b a)=Y (.str (zZ w)):=by kernel_rfl
def uS(w:String)(c x y k e m d:eD)(b a:Lp):jb ["Row"] "kind" (gO w c x y k e m d b a)=Y k:=by kernel_rfl
def Aa(w:String)(c x y k e m d:eD)(b a:Lp):jb ["Row"] "method" (gO w c x y k e m d b a)=Y m:=by kernel_rfl
def Ab(w:String)(c x y k e m a:eD)(d b:Lp):jb ["Row"] "function" (gO w c x y k e m a d b)=Y a:=by kernel_rfl
def Ac(w:String)(c x y k e m d:eD)(a b:Lp):jb ["Row"] "handed" (gO w c x y k e m d a b)=Y (.list a):=by kernel_rfl
def OX:c7->Option gk:=(eJ (fW (gZ [] (jx 1 rD (zQ (bS 0)))) 1)
(eJ (iY (fB (d2 uc (bS 1) (dC .none)))
(fC (dC (.bool false)))
fY)
(eJ (iY (nT (vo (bS 1)) (fB (d2 jN (zX (bS 1) (zI (-1))) (zA "A"))))
(fC (d2 Y1 (zN (bS 0)) (zN (bS 1))))
fY)
(fC (d2 jN (zN (bS 0)) (d2 i5 (zN (bS 1)) (zI 1)))))))
def IF{a:Lr}(g:GR a):uC [wl a]=F7 (OX [Y (wl a),Z]):=by
 have e:=vR wy wz rfl rfl a g.2.1;have d:=z9 a;have c:(a.map eD.str).length<=16777216:=by have:=g.2.2;rw[aL];omega
 have b:=Vq g.1;show ic _ (eJ _ OX) _=_;rw[OD,DP];refine bw F7 (kh (ρ1:=[Y (wl a),Z]) ?_ rfl);simp only[wl] at b
 simp? only[wl,b,ag c,pA,e,d,DS]
local macro_rules
| `(zR 0) => `(⟨⟨_, rfl⟩, fun h => (IF h).trans (by kernel_rfl), by kernel_rfl, uS .., oy ..⟩)
structure ib (ws:Lr) (w0:String) (kd:Option Str) (row:eD):Prop where
 hd:∃r,ws=zZ w0::r
 isr:GR ws->uC [wl ws]=Y (.bool true)
 ini:n8 [.dict [(.none,.str "Row")],wl ws]=Y (.none,row)
 kd:jb ["Row"] "kind" row=Y (kd.elim .none .str)
 wd:jb ["Row"] "word" row=Y (.str (zZ w0))
def Vr(a b:Str):ib [zZ "new",a,b] "new" (Y b) (gO "new" .none (.str (a)) .none (.str (b)) .none .none .none [] [.str a]):=zR 0
def Vs(a:Str):ib [zZ "row",a] "row" Z (gO "row" .none (.str (a)) .none .none .none .none .none [] [.str a]):=zR 0
def OY(a b:Str):ib [zZ "func",a,b] "func" Z (gO "func" .none (.str (a)) .none .none .none .none (.str (b)) [] [.str a]):=zR 0
def OZ(a b c:Str):ib [zZ "func",a,b,c] "func" Z (gO "func" .none (.str (a)) .none .none .none .none (.str (b)) [.str c] [.str a,.str c]):=zR 0
def O0(a b c d:Str):ib [zZ "func",a,b,c,d] "func" Z (gO "func" .none (.str (a)) .none .none .none .none (.str (b)) [.str c,.str d] [.str a,.str c,.str d]):=zR 0
def RY(a b:Str):ib [zZ "copy",a,b] "copy" Z (gO "copy" .none (.str (a)) (.str (b)) .none .none .none .none [] [.str a,.str b]):=zR 0
def RZ(a b c:Str):ib [zZ "take",a,b,c] "take" Z (gO "take" .none (.str (a)) (.str (b)) .none (.str (c)) .none .none [] [.str a,.str b]):=zR 0
def Vt(a b c:Str):ib [zZ "put",a,b,c] "put" Z (gO "put" .none (.str (c)) (.str (a)) .none (.str (b)) .none .none [] [.str a,.str c]):=zR 0
def R3(a b:Str):ib [zZ "push",a,b] "push" Z (gO "push" .none (.str (b)) (.str (a)) .none .none .none .none [] [.str a,.str b]):=zR 0
def R5(a b:Str):ib [zZ "pull",a,b] "pull" Z (gO "pull" .none (.str (a)) (.str (b)) .none .none .none .none [] [.str a,.str b]):=zR 0
def Vu(a b:Str):ib [zZ "do",a,b] "do" Z (gO "do" .none (.str (a)) (.str (b)) .none .none .none .none [] [.str a,.str b]):=zR 0
def Vv(a b c:Str):ib [zZ "do",a,b,c] "do" Z (gO "do" .none (.str (a)) (.str (b)) .none .none .none .none [.str c] [.str a,.str b,.str c]):=zR 0
def Vw(a b c d:Str):ib [zZ "do",a,b,c,d] "do" Z (gO "do" .none (.str (a)) (.str (b)) .none .none .none .none [.str c,.str d] [.str a,.str b,.str c,.str d]):=zR 0
def R6(a b c:Str):ib [zZ "ask",a,b,c] "ask" Z (gO "ask" .none (.str (a)) (.str (b)) .none .none (.str (c)) .none [] [.str a,.str b]):=zR 0
def R7(a b c d:Str):ib [zZ "ask",a,b,c,d] "ask" Z (gO "ask" .none (.str (a)) (.str (b)) .none .none (.str (c)) .none [.str d] [.str a,.str b,.str d]):=zR 0
def R8(a b c d e:Str):ib [zZ "ask",a,b,c,d,e] "ask" Z (gO "ask" .none (.str (a)) (.str (b)) .none .none (.str (c)) .none [.str d,.str e] [.str a,.str b,.str d,.str e]):=zR 0
def DY(a b c d:Str):ib [zZ "straight",a,b,c,d] "straight" (Y c) (gO "straight" .none (.str (a)) (.str (b)) (.str (c)) .none (.str (d)) .none [] [.str a,.str b]):=zR 0
def DZ(a b c d e:Str):ib [zZ "straight",a,b,c,d,e] "straight" (Y c) (gO "straight" .none (.str (a)) (.str (b)) (.str (c)) .none (.str (d)) .none [.str e] [.str a,.str b,.str e]):=zR 0
def D0(a b c d e f:Str):ib [zZ "straight",a,b,c,d,e,f] "straight" (Y c) (gO "straight" .none (.str (a)) (.str (b)) (.str (c)) .none (.str (d)) .none [.str e,.str f] [.str a,.str b,.str e,.str f]):=zR 0
def R9(a:Str):ib [zZ "give",a] "give" Z (gO "give" .none (.str (a)) .none .none .none .none .none [] [.str a]):=zR 0
def Sa(a:Str):ib [zZ "tell",a] "tell" Z (gO "tell" .none (.str (a)) .none .none .none .none .none [] [.str a]):=zR 0
def Sb:ib [zZ "rest"] "rest" Z (gO "rest" .none .none .none .none .none .none .none [] []):=zR 0
def O1(a b:Str):ib [zZ "check",a,b] "check" Z (gO "check" .none .none (.str (a)) .none (.str (b)) .none .none [] [.str a]):=zR 0
def O2(a b:Str):ib [zZ "fresh",a,b] "fresh" (Y b) (gO "fresh" .none (.str (a)) .none (.str (b)) .none .none .none [] [.str a]):=zR 0
def Vx(a b c:Str):ib [zZ "own",a,b,c] "own" Z (gO "own" .none (.str (a)) (.str (b)) .none (.str (c)) .none .none [] [.str a,.str b]):=zR 0
def O3(a b c:Str):ib [zZ "place",a,b,c] "place" Z (gO "place" .none (.str (c)) (.str (a)) .none (.str (b)) .none .none [] [.str a,.str c]):=zR 0
def D1:ib [zZ "if",zZ "choose"] "if" Z (gO "if" (.str (zZ "choose")) .none .none .none .none .none .none [] []):=zR 0
def IG(a:Str):ib [zZ "if",zZ "some",a] "if" Z (gO "if" (.str (zZ "some")) (.str (a)) .none .none .none .none .none [] [.str a]):=zR 0
def IH(a b:Str):ib [zZ "if",zZ "same",a,b] "if" Z (gO "if" (.str (zZ "same")) (.str (a)) (.str (b)) .none .none .none .none [] [.str a,.str b]):=zR 0
def xy:ib [zZ "while",zZ "choose"] "while" Z (gO "while" (.str (zZ "choose")) .none .none .none .none .none .none [] []):=zR 0
def A8(a:Str):ib [zZ "while",zZ "some",a] "while" Z (gO "while" (.str (zZ "some")) (.str (a)) .none .none .none .none .none [] [.str a]):=zR 0
def A9(a b:Str):ib [zZ "while",zZ "same",a,b] "while" Z (gO "while" (.str (zZ "same")) (.str (a)) (.str (b)) .none .none .none .none [] [.str a,.str b]):=zR 0
def D2{i g b d:eD}{a:Lr}{c:Bool}{w:Str}{x y z:Od}(h:f [Y (Rg i g b (wl a) d c),x,y,z]=Y (.str w))(j:a.length<=900):
  oG (.fl 0 "Reading" "blocks") f [Y (Rg i g b (wl a) d c),x,y,z]=Y (.nx [Y (Rg i g b (wl (a++[w])) d c),x,y,z]):=by
 have e:qt (.fl 0 "Reading" "blocks") [Y (Rg i g b (wl a) d c),x,y,z]=Y (.list (a.map .str)):=by kernel_rfl
 have z:(a.map eD.str).length<sizeLine:=by rw[sizeLine_eq,aL];omega
 rw[Oy,e,h];simp only[aD,ag z,DU,ai,bC]
 kernel_rfl
def Gi{g c b i:eD}{L:Lp}{a:Bool}{x y z:Od}(h:f [Y (Rg g c b i (.list L) a),x,y,z]=Y d)(j:L.length<=900):
  oG (.fl 0 "Reading" "later") f [Y (Rg g c b i (.list L) a),x,y,z]=Y (.nx [Y (Rg g c b i (.list (L++[d])) a),x,y,z]):=by
 have e:qt (.fl 0 "Reading" "later") [Y (Rg g c b i (.list L) a),x,y,z]=Y (.list L):=by kernel_rfl
 have z:L.length<sizeLine:=by rw[sizeLine_eq];omega
 rw[Oy,e,h];simp only[aD,ag z]
 kernel_rfl
def Yl(w0:String):nW (.str (zZ w0)) (.tuple [.str (zZ "func"),.str (zZ "straight")])=Y (w0=="func"||w0=="straight"):=by
 show (if _ then _ else Z)=_;rw[ag ⟨mE (eQ _),by simp[mE (eQ _)],by simp[eD.depth]⟩];simp only[bz,List.any_nil,dt,OG,lp]
 congr 1
 rw[dR,dR (b:="straight")]
def le8(h:n<=8):rQ (zi n) (.int 8)=Y (.bool true):=by
 have:(n:Int)<=8:=by omega
 simp[rQ,Y0,dI,this]
section
variable {hs:eD}{t:Str}{bs:Lr}{L:Lp}
theorem Sd{a w:eD}{i:Int}{b:Option Str}(h:jb ["Row"] "kind" a=Y (b.elim .none .str))(c:∀k,b=Y k->k∈F.map (·.1)){R:eD}(d:jb ["Reading"] "fields" R=Y (gD F)):
  (nT (fB (d2 kR (eS ["Row"] "kind" (bS 3)) (dC .none))) (fB (d2 nX (eS ["Row"] "kind" (bS 3)) (eS ["Reading"] "fields" (bS 0))))) [Y R,Y (.int i),Y w,Y a]=Y false:=by
 cases b with
 |none=>simp only[Option.elim] at h;simp? only[h,DQ]
 |some k=>
  simp only[Option.elim] at h;have e:=BY (t:=k) (H:=F);rw[bF (c k rfl)] at e
  simp? only[h,DR,d,zY,e]
theorem B6{b:Lr}{w0:String}{n:Option Str}{a:eD}(O:ib b w0 n a)(g:GR b)(B:(w0=="end")=false)(A:(w0=="else")=false)(x:∀k,n=Y k->k∈F.map (·.1)){c d:Bool}(w:(w0=="if"||w0=="while")=c)(v:(w0=="func"||w0=="straight")=d)(o:(if c then bs++[zZ w0] else bs).length<=8)(y:L.length<=900)(i:Int):
  gw [Rg (gD F) hs (.str t) (wl bs) (.list L) false,.int i,wl b]=Y (.bool true,Rg (gD F) hs (.str t) (wl (if c then bs++[zZ w0] else bs)) (.list (if d then L++[.tuple [.int i,a]] else L)) false):=by
 obtain⟨r,p⟩:=O.hd;have q:=OH g.ok (ok1 "end");rw[aU (by intro z;rw[p] at z;injection z with z _;exact OO B z)] at q;have m:=OH g.ok (ok1 "else");rw[aU (by intro z;rw[p] at z;injection z with z _;exact OO A z)] at m;have s:jN (wl b) (.list [.str (zZ "end")])=Y (.bool false):=q;have e:jN (wl b) (.list [.str (zZ "else")])=Y (.bool false):=m;have j:=BZ w0;have h:=Yl w0;rw[w] at j;rw[v] at h;have l:bs.length<=900:=by cases c<;>simp at o<;>omega
 have f:=O.ini;have C:jm [Y (Rg (gD F) hs (.str t) (wl bs) (.list L) false),Y (.int i),Y (wl b),Z]=Y (.rt (.tuple [.bool true,Rg (gD F) hs (.str t) (wl (if c then bs++[zZ w0] else bs)) (.list (if d then L++[.tuple [.int i,a]] else L)) false])):=by
  refine kh (z4 (by simp? only[s]) rfl) (kh (z4 (by simp? only[e]) rfl) (kh (z4 (by simp? only[O.isr g,DS]) rfl) (kh (ρ1:=[Y (Rg (gD F) hs (.str t) (wl bs) (.list L) false),Y (.int i),Y (wl b),Y a]) ?_ (kh (z4 (Sd O.kd x (rH ..)) rfl) (kh (ρ1:=[Y (Rg (gD F) hs (.str t) (wl (if c then bs++[zZ w0] else bs)) (.list L) false),Y (.int i),Y (wl b),Y a]) ?_ (kh (ρ1:=[Y (Rg (gD F) hs (.str t) (wl (if c then bs++[zZ w0] else bs)) (.list (if d then L++[.tuple [.int i,a]] else L)) false),Y (.int i),Y (wl b),Y a]) ?_ ?_))))))
  ·simp? only[f]
  ·cases c with
   |false=>exact z4 (by simp? only[O.wd,o5,j]) rfl
   |true=>exact RG (by simp? only[O.wd,o5,j]) (D2 (by simp? only[O.wd]) l)
  ·cases d with
   |false=>exact z4 (by simp? only[O.wd,o5,h]) rfl
   |true=>exact RG (by simp? only[O.wd,o5,h]) (Gi (by simp? only[U4]) y)
  ·have u:qG [wl (if c then bs++[zZ w0] else bs)]=Y (.int ((if c then bs++[zZ w0] else bs).length:Int)):=by rw[Iz,aL]
   simp only[Oz,Ti,F4,Ot,DN,Th,Tf,Iv,U4,cN,Option.join_some,aD,rJ,u,le8 o,lO,b8,cw]
 rw[gw,vP];show Iy (jm [Y (Rg (gD F) hs (.str t) (wl bs) (.list L) false),Y (.int i),Y (wl b),Z])=_;rw[C,uO]
def rK{R b:eD}{e c:eD}{a:Lr}{i:Int}(d:R=Rg (gD F) hs (.str t) e c false)(h:gw [R,.int i,wl a]=Y (.bool true,b)):gK [R,.int i,wl a]=Y (.bool true,b):=by
 subst d
 simp? only[gK,mB,uQ,rG,DS,DR,h,lO]
def Vy{A B:c7->Option gk}{ρ0:c7}(a:A ρ0=Y (.rt d)):eJ A B ρ0=Y (.rt d):=by rw[JO,a,OC]
def Gj(a:Lr)(x:Str):kn (wl (a++[x]))=Y true:=by cases a<;>rfl
def Vz(x:Str)(i:Int):gw [Rg (gD F) hs (.str t) (wl (bs++[x])) (.list L) false,.int i,wl [zZ "end"]]=Y (.bool true,Rg (gD F) hs (.str t) (wl bs) (.list L) false):=by
 have c:jY [Rg (gD F) hs (.str t) (wl (bs++[x])) (.list L) false]=Y (.none,Rg (gD F) hs (.str t) (wl bs) (.list L) false):=by
  have b:mn [Y (Rg (gD F) hs (.str t) (wl (bs++[x])) (.list L) false)]=Y (.rt (.tuple [.none,Rg (gD F) hs (.str t) (wl bs) (.list L) false])):=by
   have p:QI (.fl 0 "Reading" "blocks") [Y (Rg (gD F) hs (.str t) (wl (bs++[x])) (.list L) false)]=Y (.nx [Y (Rg (gD F) hs (.str t) (wl bs) (.list L) false)]):=by
    have e:qt (.fl 0 "Reading" "blocks") [Y (Rg (gD F) hs (.str t) (wl (bs++[x])) (.list L) false)]=Y (wl (bs++[x])):=by kernel_rfl
    unfold QI;rw[e,DU];have a:(bs.map eD.str++[eD.str x]).isEmpty=false:=by simp
    simp only[aD,ai,bC,List.dropLast_concat,a,bM,dE]
    kernel_rfl
   refine Vy (RG ?_ (kh p rfl))
   simp? only[rJ,Gj]
  rw[jY,vP];show Iy (mn [Y (Rg (gD F) hs (.str t) (wl (bs++[x])) (.list L) false)])=_;rw[b,uO]
 have q:jN (wl [zZ "end"]) (.list [.str (zZ "end")])=Y (.bool true):=by kernel_rfl
 simp? only[gw,jm,q,J0,c,JT,lO]
def VA(i:Int):gw [Rg (gD F) hs (.str t) (wl (bs++[zZ "if"])) (.list L) false,.int i,wl [zZ "else"]]=Y (.bool true,Rg (gD F) hs (.str t) (wl (bs++[zZ "else"])) (.list L) false):=by
 have c:kT [Rg (gD F) hs (.str t) (wl (bs++[zZ "if"])) (.list L) false]=Y (.bool true,Rg (gD F) hs (.str t) (wl (bs++[zZ "else"])) (.list L) false):=by
  have d:(!("if"=="if"))=false:=by decide
  have p:wK (.fl 0 "Reading" "blocks") (gZ [0] (zI (-1))) (gZ [0] (zA "else")) [Y (Rg (gD F) hs (.str t) (wl (bs++[zZ "if"])) (.list L) false)]=Y (.nx [Y (Rg (gD F) hs (.str t) (wl (bs++[zZ "else"])) (.list L) false)]):=by
   have e:qt (.fl 0 "Reading" "blocks") [Y (Rg (gD F) hs (.str t) (wl (bs++[zZ "if"])) (.list L) false)]=Y (wl (bs++[zZ "if"])):=by kernel_rfl
   rw[F5,e]
   simp? only[DU,ON]
   kernel_rfl
  have b:mO [Y (Rg (gD F) hs (.str t) (wl (bs++[zZ "if"])) (.list L) false)]=Y (.rt (.tuple [.bool true,Rg (gD F) hs (.str t) (wl (bs++[zZ "else"])) (.list L) false])):=by
   refine kh (z4 ?_ rfl) (kh p rfl)
   simp? only[rJ,Gj,RJ,o4,d]
  rw[kT,vP];show Iy (mO [Y (Rg (gD F) hs (.str t) (wl (bs++[zZ "if"])) (.list L) false)])=_;rw[b,uO]
 have q:jN (wl [zZ "else"]) (.list [.str (zZ "end")])=Y (.bool false):=by kernel_rfl
 have a:jN (wl [zZ "else"]) (.list [.str (zZ "else")])=Y (.bool true):=by kernel_rfl
 simp? only[gw,jm,q,a,c,lO]
end
inductive Rk (K:Lr) (M:List (Str×Str)) (Fu:List (Str×Nat)):String->Lr->Prop
 |new {x k:Str}:k∈K->Rk K M Fu "new" [x,k]
 |fresh {x k:Str}:k∈K->Rk K M Fu "fresh" [x,k]
 |row {x:Str}:Rk K M Fu "row" [x]
 |give {x:Str}:Rk K M Fu "give" [x]
 |tell {x:Str}:Rk K M Fu "tell" [x]
 |take {x y z:Str}:Rk K M Fu "take" [x,y,z]
 |own {x y z:Str}:Rk K M Fu "own" [x,y,z]
 |put {x y z:Str}:Rk K M Fu "put" [x,y,z]
 |place {x y z:Str}:Rk K M Fu "place" [x,y,z]
 |check {x y:Str}:Rk K M Fu "check" [x,y]
 |push {x y:Str}:Rk K M Fu "push" [x,y]
 |pull {x y:Str}:Rk K M Fu "pull" [x,y]
 |copy {x y:Str}:Rk K M Fu "copy" [x,y]
 |rest:Rk K M Fu "rest" []
 |ask {x y m:Str}{hs:Lr}:hs.length<=2->Rk K M Fu "ask" (x::y::m::hs)
 |Zq {x y:Str}{hs:Lr}:hs.length<=2->Rk K M Fu "do" (x::y::hs)
 |uT {x y k m:Str}{hs:Lr}:hs.length<=2->k∈K->(k,m)∈M->Rk K M Fu "straight" (x::y::k::m::hs)
 |func {x f:Str}{hs:Lr}:hs.length<=2->(f,hs.length)∈Fu->Rk K M Fu "func" (x::f::hs)
inductive Ck:Lr->Prop
 |choose:Ck [zZ "choose"]
 |some {x:Str}:Ck [zZ "some",x]
 |same {x y:Str}:Ck [zZ "same",x,y]
inductive Bk (K:Lr) (M:List (Str×Str)) (Fu:List (Str×Nat)):Lr->List Lr->Lr->Prop
 |nil (bs:Lr):Bk K M Fu bs [] bs
 |row {bs O4:Lr}{w:String}{r:Lr}{rest:List Lr}:Rk K M Fu w r->Bk K M Fu bs rest O4->Bk K M Fu bs ((zZ w::r)::rest) O4
 |blk {bs O4:Lr}{w:String}{r:Lr}{rest:List Lr}:w="if"\/w="while"->Ck r->bs.length<8->Bk K M Fu (bs++[zZ w]) rest O4->Bk K M Fu bs ((zZ w::r)::rest) O4
 |Zo {bs O4:Lr}{rest:List Lr}:Bk K M Fu (bs++[zZ "else"]) rest O4->Bk K M Fu (bs++[zZ "if"]) ([zZ "else"]::rest) O4
 |fin {bs O4:Lr}{x:Str}{rest:List Lr}:Bk K M Fu bs rest O4->Bk K M Fu (bs++[x]) ([zZ "end"]::rest) O4
def Lt(M:List (Str×Str))(Fu:List (Str×Nat))(e:eD):Prop:=∃i a,e=.tuple [.int i,a] /\
  ((∃k m,(k,m)∈M/\jb ["Row"] "word" a=Y (.str (zZ "straight"))/\jb ["Row"] "kind" a=Y (.str k)/\jb ["Row"] "method" a=Y (.str m)) \/
   (∃f n b,(f,n)∈Fu/\jb ["Row"] "word" a=Y (.str (zZ "func"))/\jb ["Row"] "function" a=Y (.str f)/\jb ["Row"] "handed" a=Y (.list b)/\b.length=n))
section
variable {K:Lr}{M:List (Str×Str)}{Fu:List (Str×Nat)}
structure Rr (K:Lr) (M:List (Str×Str)) (Fu:List (Str×Nat)) (ws:Lr) (w:String):Prop where
 ok:∃kd row,ib ws w kd row/\(∀k,kd=Y k->k∈K)/\∀i:Int,(w=="func"||w=="straight")=true->Lt M Fu (.tuple [.int i,row])
 e1:(w=="end")=false
 e2:(w=="else")=false
def Rk.ok{w:String}{r:Lr}(h:Rk K M Fu w r):Rr K M Fu (zZ w::r) w/\(w=="if"||w=="while")=false:=by
 cases h with
 |new j=>exact⟨⟨⟨_,_,Vr _ _,λk e=>by injection e with e;subst e;exact j,λi z=>absurd z (by decide)⟩,by decide,by decide⟩,by decide⟩
 |fresh j=>exact⟨⟨⟨_,_,O2 _ _,λk e=>by injection e with e;subst e;exact j,λi z=>absurd z (by decide)⟩,by decide,by decide⟩,by decide⟩
 |row=>exact⟨⟨⟨_,_,Vs _,by simp,λi z=>absurd z (by decide)⟩,by decide,by decide⟩,by decide⟩
 |give=>exact⟨⟨⟨_,_,R9 _,by simp,λi z=>absurd z (by decide)⟩,by decide,by decide⟩,by decide⟩
 |tell=>exact⟨⟨⟨_,_,Sa _,by simp,λi z=>absurd z (by decide)⟩,by decide,by decide⟩,by decide⟩
 |take=>exact⟨⟨⟨_,_,RZ _ _ _,by simp,λi z=>absurd z (by decide)⟩,by decide,by decide⟩,by decide⟩
 |own=>exact⟨⟨⟨_,_,Vx _ _ _,by simp,λi z=>absurd z (by decide)⟩,by decide,by decide⟩,by decide⟩
 |put=>exact⟨⟨⟨_,_,Vt _ _ _,by simp,λi z=>absurd z (by decide)⟩,by decide,by decide⟩,by decide⟩
 |place=>exact⟨⟨⟨_,_,O3 _ _ _,by simp,λi z=>absurd z (by decide)⟩,by decide,by decide⟩,by decide⟩
 |check=>exact⟨⟨⟨_,_,O1 _ _,by simp,λi z=>absurd z (by decide)⟩,by decide,by decide⟩,by decide⟩
 |push=>exact⟨⟨⟨_,_,R3 _ _,by simp,λi z=>absurd z (by decide)⟩,by decide,by decide⟩,by decide⟩
 |pull=>exact⟨⟨⟨_,_,R5 _ _,by simp,λi z=>absurd z (by decide)⟩,by decide,by decide⟩,by decide⟩
 |copy=>exact⟨⟨⟨_,_,RY _ _,by simp,λi z=>absurd z (by decide)⟩,by decide,by decide⟩,by decide⟩
 |rest=>exact⟨⟨⟨_,_,Sb ,by simp,λi z=>absurd z (by decide)⟩,by decide,by decide⟩,by decide⟩
 |@ask x y m hs g=>
  rcases hs with _ | ⟨a,_ | ⟨b,_ | ⟨c,l⟩⟩⟩
  ·exact⟨⟨⟨_,_,R6 _ _ _,by simp,λi z=>absurd z (by decide)⟩,by decide,by decide⟩,by decide⟩
  ·exact⟨⟨⟨_,_,R7 _ _ _ _,by simp,λi z=>absurd z (by decide)⟩,by decide,by decide⟩,by decide⟩
  ·exact⟨⟨⟨_,_,R8 _ _ _ _ _,by simp,λi z=>absurd z (by decide)⟩,by decide,by decide⟩,by decide⟩
  ·simp at g
 |@Zq x y hs g=>
  rcases hs with _ | ⟨a,_ | ⟨b,_ | ⟨c,l⟩⟩⟩
  ·exact⟨⟨⟨_,_,Vu _ _,by simp,λi z=>absurd z (by decide)⟩,by decide,by decide⟩,by decide⟩
  ·exact⟨⟨⟨_,_,Vv _ _ _,by simp,λi z=>absurd z (by decide)⟩,by decide,by decide⟩,by decide⟩
  ·exact⟨⟨⟨_,_,Vw _ _ _ _,by simp,λi z=>absurd z (by decide)⟩,by decide,by decide⟩,by decide⟩
  ·simp at g
 |@uT x y k m hs g j d=>
  rcases hs with _ | ⟨a,_ | ⟨b,_ | ⟨c,l⟩⟩⟩
  ·exact⟨⟨⟨_,_,DY _ _ _ _,λk e=>by injection e with e;subst e;exact j,λi _=>⟨i,_,rfl,.inl ⟨k,m,d,oy ..,uS ..,Aa ..⟩⟩⟩,by decide,by decide⟩,by decide⟩
  ·exact⟨⟨⟨_,_,DZ _ _ _ _ _,λk e=>by injection e with e;subst e;exact j,λi _=>⟨i,_,rfl,.inl ⟨k,m,d,oy ..,uS ..,Aa ..⟩⟩⟩,by decide,by decide⟩,by decide⟩
  ·exact⟨⟨⟨_,_,D0 _ _ _ _ _ _,λk e=>by injection e with e;subst e;exact j,λi _=>⟨i,_,rfl,.inl ⟨k,m,d,oy ..,uS ..,Aa ..⟩⟩⟩,by decide,by decide⟩,by decide⟩
  ·simp at g
 |@func x f hs g d=>
  rcases hs with _ | ⟨a,_ | ⟨b,_ | ⟨c,l⟩⟩⟩
  ·exact⟨⟨⟨_,_,OY _ _,by simp,λi _=>⟨i,_,rfl,.inr ⟨f,_,_,d,oy ..,Ab ..,Ac ..,rfl⟩⟩⟩,by decide,by decide⟩,by decide⟩
  ·exact⟨⟨⟨_,_,OZ _ _ _,by simp,λi _=>⟨i,_,rfl,.inr ⟨f,_,_,d,oy ..,Ab ..,Ac ..,rfl⟩⟩⟩,by decide,by decide⟩,by decide⟩
  ·exact⟨⟨⟨_,_,O0 _ _ _ _,by simp,λi _=>⟨i,_,rfl,.inr ⟨f,_,_,d,oy ..,Ab ..,Ac ..,rfl⟩⟩⟩,by decide,by decide⟩,by decide⟩
  ·simp at g
def Ck.ok{w:String}(hw:w="if"\/w="while"){r:Lr}(h:Ck r):Rr K M Fu (zZ w::r) w/\(w=="if"||w=="while")=true/\(w=="func"||w=="straight")=false:=by
 rcases hw with rfl|rfl
 ·refine⟨⟨?_,by decide,by decide⟩,by decide,by decide⟩;cases h with
  |choose=>exact⟨_,_,D1,by simp,λi z=>absurd z (by decide)⟩
  |some=>exact⟨_,_,IG _,by simp,λi z=>absurd z (by decide)⟩
  |same=>exact⟨_,_,IH _ _,by simp,λi z=>absurd z (by decide)⟩
 ·refine⟨⟨?_,by decide,by decide⟩,by decide,by decide⟩;cases h with
  |choose=>exact⟨_,_,xy,by simp,λi z=>absurd z (by decide)⟩
  |some=>exact⟨_,_,A8 _,by simp,λi z=>absurd z (by decide)⟩
  |same=>exact⟨_,_,A9 _ _,by simp,λi z=>absurd z (by decide)⟩
end
section
variable {K:Lr}{M:List (Str×Str)}{Fu:List (Str×Nat)}
theorem Gk{b:Lr}{w:String}(O:Rr K M Fu b w)(q:∀k∈K,k∈F.map (·.1))(g:GR b){h:Bool}(j:(w=="if"||w=="while")=h){hs:eD}{t:Str}{bs:Lr}{L:Lp}(m:(if h then bs++[zZ w] else bs).length<=8)(p:L.length<=900)(a:∀e∈L,Lt M Fu e)(n:Nat):
  ∃i,(∀e∈i,Lt M Fu e)/\i.length<=L.length+1/\gK [Rg (gD F) hs (.str t) (wl bs) (.list L) false,.int (n:Int),wl b]=Y (.bool true,Rg (gD F) hs (.str t) (wl (if h then bs++[zZ w] else bs)) (.list i) false):=by
 obtain⟨r,c,o,l,f⟩:=O.ok;cases d:(w=="func"||w=="straight") with
 |false=>exact⟨L,a,by omega,rK rfl (B6 o g O.e1 O.e2 (λk e=>q k (l k e)) j d m p n)⟩
 |true=>
  refine⟨L++[.tuple [.int (n:Int),c]],λe he=>?_,by simp,rK rfl (B6 o g O.e1 O.e2 (λk e=>q k (l k e)) j d m p n)⟩;rcases aR.mp he with he|he
  ·exact a e he
  ·simp at he;subst he;exact f n d
theorem II{bs a:Lr}(h:Bk K M Fu bs rows a)(y:∀k∈K,k∈F.map (·.1)){hs:eD}{t:Str}:bs.length<=8->(∀f∈rows,GR f)->∀(n:Nat) (L:Lp),(∀e∈L,Lt M Fu e)->L.length+rows.length<=900 ->
  ∃d,(∀e∈d,Lt M Fu e)/\d.length<=L.length+rows.length/\Reads n (Rg (gD F) hs (.str t) (wl bs) (.list L) false) rows (Rg (gD F) hs (.str t) (wl a) (.list d) false):=by
 induction h with
 |nil bs=>intro _ _ n L g _;exact⟨L,g,by simp,rfl⟩
 |@row bs a w r b k _ i=>intro l c n L g j;obtain⟨O,p⟩:=k.ok;simp only[ax] at j;obtain⟨v,u,A,s⟩:=Gk O y (c _ (aY ..)) p (hs:=hs) (t:=t) (bs:=bs) (L:=L) (by simpa using l) (by omega) g n;obtain⟨d,o,q,m⟩:=i l (λf hw=>c f (ah _ hw)) (n+1) v u (by omega);exact⟨d,o,by simp only[ax];omega,_,(c _ (aY ..)).2.1,s,m⟩
 |@blk bs a w r b hw k z _ i=>intro l c n L g j;obtain⟨O,p,_⟩:=k.ok (K:=K) (M:=M) (Fu:=Fu) hw;simp only[ax] at j;obtain⟨v,u,A,s⟩:=Gk O y (c _ (aY ..)) p (hs:=hs) (t:=t) (bs:=bs) (L:=L) (by simp;omega) (by omega) g n;obtain⟨d,o,q,m⟩:=i (by simp;omega) (λf hw=>c f (ah _ hw)) (n+1) v u (by omega);exact⟨d,o,by simp only[ax];omega,_,(c _ (aY ..)).2.1,s,m⟩
 |@Zo bs a b _ i=>intro l c n L g j;simp only[ax] at j;obtain⟨d,o,q,m⟩:=i (by simpa using l) (λf hw=>c f (ah _ hw)) (n+1) L g (by omega);exact⟨d,o,by simp only[ax];omega,_,RW,rK rfl (VA n),m⟩
 |@fin bs a x b _ i=>intro l c n L g j;simp only[ax] at j;obtain⟨d,o,q,m⟩:=i (by simp at l;omega) (λf hw=>c f (ah _ hw)) (n+1) L g (by omega);exact⟨d,o,by simp only[ax];omega,_,IE,rK rfl (Vz x n),m⟩
structure Bo where
 t:Str
 hd:Lr
 rows:List Lr
def Bo.txt(b:Bo):List Lr:=b.hd::(b.rows++[[zZ "end"]])
def Bo.ent(b:Bo):Str×Lr:=(b.t,b.hd)
structure L6 (K:Lr) (M:List (Str×Str)) (Fu:List (Str×Nat)) (F:List (Str×eD)) (b:Bo):Prop where
 hd:Vn (gD F) b.t b.hd
 gr:∀ws∈b.rows,GR ws
 bk:Bk K M Fu [] b.rows []
 hb:Hb b.t b.hd
 gh:GR b.hd
theorem B7(g:∀k∈K,k∈F.map (·.1)){b:Bo}(O:L6 K M Fu F b){H:List (Str×eD)}(c:b.t∉H.map (·.1))(d:H.length<=900)(n:Nat)(L:Lp)(f:∀e∈L,Lt M Fu e)(l:L.length+b.txt.length<=900):
  ∃a,(∀e∈a,Lt M Fu e)/\a.length<=L.length+b.txt.length/\Reads n (Rg (gD F) (gD H) .none (wl []) (.list L) false) b.txt (Rg (gD F) (gD (H++[(b.t,wl b.hd)])) .none (wl []) (.list a) (b.t==zZ "main")):=by
 have j:b.txt.length=b.rows.length+2:=by simp[Bo.txt]
 obtain⟨a,i,m,h⟩:=II O.bk g (hs:=gD (H++[(b.t,wl b.hd)])) (t:=b.t) (by simp) O.gr (n+1) L f (by omega);refine⟨a,i,by omega,_,O.hd.nm,RR (la:=.list L) O.hd c d n,h.app ⟨_,IE,Vp O.hd.tok (gD F) _ _,rfl⟩⟩
theorem uU(d:∀k∈K,k∈F.map (·.1)):∀(a:List Bo) (H:List (Str×eD)) (n:Nat) (L:Lp),(∀b∈a,L6 K M Fu F b/\b.t≠zZ "main")->(H.map (·.1)++a.map (·.t)).Nodup->H.length+a.length<=900->(∀e∈L,Lt M Fu e)->L.length+(a.flatMap Bo.txt).length<=900 ->
  ∃c,(∀e∈c,Lt M Fu e)/\c.length<=L.length+(a.flatMap Bo.txt).length/\Reads n (Rg (gD F) (gD H) .none (wl []) (.list L) false) (a.flatMap Bo.txt) (Rg (gD F) (gD (H++hg (a.map Bo.ent))) .none (wl []) (.list c) false)
 |[],H,n,L,_,_,_,hL,_=>⟨L,hL,by simp,by rw[bC,show hg []=[] from rfl,aM];rfl⟩
 |b::a,H,n,L,ho,nd,hl,hL,h9=>by
  have o:=ho b (by simp);have h:b.t∉H.map (·.1):=λz=>by rw[br] at nd;exact nd.2.2 b.t z b.t (by simp) rfl
  rw[dQ,bh] at h9;obtain⟨q,l,s,f⟩:=B7 d o.1 h (by omega) n L hL (by omega);have p:(b.t==zZ "main")=false:=by simpa using o.2
  rw[p] at f;obtain⟨c,j,r,i⟩:=uU d a (H++[(b.t,wl b.hd)]) (n+b.txt.length) q (λx g=>ho x (by simp[g])) (by simpa using nd) (by simp at hl ⊢;omega) l (by omega);refine⟨c,j,by rw[dQ,bh];omega,?_⟩;rw[dQ];have m:H++hg ((b::a).map Bo.ent)=H++[(b.t,wl b.hd)]++hg (a.map Bo.ent):=by simp[hg,Bo.ent]
  rw[m];exact f.app i
structure Se (M:List (Str×Str)) (Fu:List (Str×Nat)) (H:List (Str×eD)):Prop where
 nd:(H.map (·.1)).Nodup
 m:∀k m,(k,m)∈M->IB k m∈H.map (·.1)/\k.length<=8/\m.length<=8
 f:∀f n,(f,n)∈Fu->eD.strOk f=true/\f≠zZ "main"/\∃ws ks,(f,wl ws)∈H/\k7 [wl ws]=Y (wl ks)/\ks.length=n
def Ym(k m:Str)(e:k.length<=8)(d:m.length<=8):iC [.str k,.str m]=Y (.str (IB k m)):=by
 have c:k.length<=16777216:=by omega
 have b:m.length<=16777216:=by omega
 have a:(k++(zZ "."++m)).length<=16777216:=by rw[cY,cY,show (zZ ".").length=1 by decide +kernel];omega
 simp? only[iC,pb,ag c,ag b,ag a,Str.append_empty,IB]
def O5{H:List (Str×eD)}(T:Se M Fu H){e:eD}(x:Lt M Fu e){F b bl la:eD}{ov:Bool}:∃i a,e=.tuple [.int i,a]/\hZ [Rg F (gD H) b bl la ov,a]=Y (.bool true):=by
 obtain⟨i,a,rfl,h⟩:=x;refine⟨i,a,rfl,?_⟩;rcases h with ⟨k,m,v,l,j,g⟩ | ⟨f,n,y,w,l,j,g,z⟩
 ·obtain⟨q,p,d⟩:=T.m k m v;have o:("straight"=="straight")=true:=by decide
  have c:=BY (t:=IB k m) (H:=H);rw[bF q] at c
  simp? only[hZ,kf,l,k8,o,j,g,Ym k m p d,uR,o5,c]
 ·obtain⟨q,p,I,u,d,G,E⟩:=T.f f n w;have o:("func"=="straight")=false:=by decide
  have c:=BY (t:=f) (H:=H);rw[bF (aP.mpr ⟨_,d,rfl⟩)] at c;have D:=To T.nd d;have C:(f==zZ "main")=false:=by simpa using p
  have s:=Vh q (eQ "main");rw[C] at s;have B:qG [wl u]=Y (zi n):=by rw[Iz,aL,E]
  have A:qG [.list y]=Y (zi n):=by rw[Iz,z]
  have r:=eqI (n:Int) (n:Int);rw[beq_self_eq_true] at r
  simp? only[hZ,kf,l,k8,o,j,g,s,uR,zY,c,D,G,B,A,r]
theorem Ad{H:List (Str×eD)}(T:Se M Fu H){F b bl la:eD}{ov:Bool}(f rw w:Od):∀(L:Lp) (a c:Od),(∀e∈L,Lt M Fu e) ->
  ∃j g,qr (Hf (.many [3,5])) j8 L [f,Y (Rg F (gD H) b bl la ov),rw,a,w,c]=Y (.nx [f,Y (Rg F (gD H) b bl la ov),rw,j,w,g])
 |[],a,c,_=>⟨a,c,rfl⟩
 |e::L,a,c,h=>by
  obtain⟨i,d,rfl,m⟩:=O5 T (h e (by simp)) (F:=F) (b:=b) (bl:=bl) (la:=la) (ov:=ov);obtain⟨j,g,l⟩:=Ad T f rw w L (Y (.int i)) (Y d) λx k=>h x (by simp[k]);refine⟨j,g,?_⟩;rw[js (ρ1:=[f,Y (Rg F (gD H) b bl la ov),rw,Y (.int i),w,Y d]) ?_]
  ·exact l
  ·show j8 [f,Y (Rg F (gD H) b bl la ov),rw,Y (.int i),w,Y d]=_
   simp? only[j8,m,DS]
end
def Sf{a:List (Str×Lr)}{d:List (Lr×Str)}(H:Rt rows a d){M:List (Str×Str)}{Fu:List (Str×Nat)}{F:eD}{f:List (Str×eD)}{L:Lp}(T:Se M Fu f)(j:∀e∈L,Lt M Fu e)(i:Reads 0 R0 rows (Rg F (gD f) .none (wl []) (.list L) true)):
  ∃E,E.map (·.2)=d/\iM [.str (tx rows)]=Y (prog rows a E):=by
 obtain⟨E,k,p⟩:=RP H;refine⟨E,k,?_⟩;have w:=H.len;have o:=uP H.gr H.len H.ne;have n:=z6 oW oX rfl rfl H.gr;have h:((rows.map ln).map eD.str).length<=16777216:=by simp;omega
 have r:oh [.dict [(.none,.str (zZ "Reading"))]]=Y (.none,R0):=by kernel_rfl
 have c:ke [.dict [(.none,.str (zZ "Program"))],.str (tx rows)]=Y (.none,prog rows a E):=p;obtain⟨v,t,m⟩:=B5 (.str (tx rows)) (.list (rows.map wl)) Z rows 0 R0 _ Z Z i λg hw=>by have:=(H.gr g hw).2.2;omega
 have q:qL (rows.map wl)=((rows.map wl).zipIdx 0).map λx=>.tuple [.int x.2,x.1]:=rfl;obtain⟨u,s,l⟩:=Ad T (F:=F) (b:=.none) (bl:=wl []) (la:=.list L) (ov:=true) (Y (.str (tx rows))) (Y (.list (rows.map wl))) t L v Z j
 simp? only[iM,qX,r,o,ag h,pA,n,q,m,uQ,DS,Ts,OR,l,c,Hv]
abbrev Fl:=List (Str×List Str)
inductive Yn:Fl->List KR->Fl->Prop
 |nil (F:Fl):Yn F [] F
 |cons {F F':Fl}{r:KR}{ks:List KR}{inh:Lr}:r.nm∉F.map (·.1)->(match r.el with|none=>inh=[]|some j=>(j,inh)∈F)->(inh++r.own).Nodup->inh.length+r.own.length<=90->r.own.length<=6->Yn (F++[(r.nm,inh++r.own)]) ks F'->Yn F (r::ks) F'
theorem Gm{F g:Fl}{d:List KR}(h:Yn F d g){la:eD}:(F.map (·.1)).Nodup->(∀r∈d,GR (lP r))->F.length+d.length<=900->∀n:Nat,Reads n (Rg (gD (hg F)) (gD []) .none (wl []) la false) (d.map lP) (Rg (gD (hg g)) (gD []) .none (wl []) la false)/\(g.map (·.1)).Nodup/\g.map (·.1)=F.map (·.1)++d.map (·.nm):=by
 induction h with
 |nil F=>intro i _ _ n;exact⟨rfl,i,by simp⟩
 |@cons F g r d c s k B D C _ t=>
  intro i f o n;have l:((F++[(r.nm,c++r.own)]).map (·.1)).Nodup:=by rw[bR,br];refine⟨i,by simp,λa A b p=>?_⟩;simp at p;subst p;exact λz=>s (z▸A)
  obtain⟨m,v,u⟩:=t l (λx w=>f x (by simp[w])) (by simp at o ⊢;omega) (n+1);have y:Zp (hg F) r.el c:=by
   cases q:r.el with
   |none=>rw[q] at k;exact k
   |some j=>rw[q] at k;exact aP.mpr ⟨_,k,rfl⟩
  have e:hg (F++[(r.nm,c++r.own)])=hg F++[(r.nm,wl (c++r.own))]:=by simp[hg]
  rw[e] at m;refine⟨⟨_,(f r (by simp)).2.1,RU (la:=la) (by rw[rF];exact i) (by rw[rF];exact s) Vo y B (by simp[hg] at o ⊢;omega) (by omega) n,m⟩,v,?_⟩;rw[u];simp
def J4:GR [zZ "main"]:=⟨by simp,by intro w hw;simp at hw;subst hw;decide +kernel,by simp⟩
def O6:GR [zZ "end"]:=⟨by simp,IE,by simp⟩
inductive R4 where
 |new (x k:Str)
 |copy (x y:Str)
 |tell (x:Str)
 |rest
 |row (x:Str)
 |func (x f:Str)
 |fresh (x k:Str)
 |take (x y f:Str)
 |put (y f x:Str)
 |check (y f:Str)
 |push (y x:Str)
 |pull (x y:Str)
 |Zr (x y:Str)
 |Zs (x y a:Str)
 |Zt (x y a b:Str)
 |Sg (x y m:Str)
 |Sh (x y m a:Str)
 |Si (x y m a b:Str)
 |str0 (x y k m:Str)
 |str1 (x y k m a:Str)
 |Sj (x y k m a b:Str)
 |own (x y f:Str)
 |place (y f x:Str)
 |give (x:Str)
noncomputable def R4.w:R4->String
 |.new _ _=>"new"
 |.copy _ _=>"copy"
 |.tell _=>"tell"
 |.rest=>"rest"
 |.row _=>"row"
 |.func _ _=>"func"
 |.fresh _ _=>"fresh"
 |.take _ _ _=>"take"
 |.put _ _ _=>"put"
 |.check _ _=>"check"
 |.push _ _=>"push"
 |.pull _ _=>"pull"
 |.Zr _ _=>"do"
 |.Zs _ _ _=>"do"
 |.Zt _ _ _ _=>"do"
 |.Sg _ _ _=>"ask"
 |.Sh _ _ _ _=>"ask"
 |.Si _ _ _ _ _=>"ask"
 |.str0 _ _ _ _=>"straight"
 |.str1 _ _ _ _ _=>"straight"
 |.Sj _ _ _ _ _ _=>"straight"
 |.own _ _ _=>"own"
 |.place _ _ _=>"place"
 |.give _=>"give"
noncomputable def R4.as:R4->Lr
 |.new x k=>[x,k]
 |.copy x y=>[x,y]
 |.tell x=>[x]
 |.rest=>[]
 |.row x=>[x]
 |.func x f=>[x,f]
 |.fresh x k=>[x,k]
 |.take x y f=>[x,y,f]
 |.put y f x=>[y,f,x]
 |.check y f=>[y,f]
 |.push y x=>[y,x]
 |.pull x y=>[x,y]
 |.Zr x y=>[x,y]
 |.Zs x y a=>[x,y,a]
 |.Zt x y a b=>[x,y,a,b]
 |.Sg x y m=>[x,y,m]
 |.Sh x y m a=>[x,y,m,a]
 |.Si x y m a b=>[x,y,m,a,b]
 |.str0 x y k m=>[x,y,k,m]
 |.str1 x y k m a=>[x,y,k,m,a]
 |.Sj x y k m a b=>[x,y,k,m,a,b]
 |.own x y f=>[x,y,f]
 |.place y f x=>[y,f,x]
 |.give x=>[x]
noncomputable def R4.ws(r:R4):Lr:=zZ r.w::r.as
abbrev sa:Str:=zZ "ka"
abbrev sb:Str:=zZ "kb"
abbrev sf:Str:=zZ "fa"
abbrev sm:Str:=zZ "ka.m"
abbrev O7:Str:=zZ "kb.o"
abbrev D3:List Str:=[sa,sb]
abbrev D4:List (Str×Str):=[(sa,zZ "m"),(sb,zZ "o")]
abbrev Gn:List (Str×Nat):=[(sf,0)]
structure R4.Ok (r:R4):Prop where
 nm:∀w∈r.as,sE w=true
 rk:Rk D3 D4 Gn r.w r.as
def f9:Str:=zZ "main"
noncomputable def kis:List KR:=[⟨sa,Z,[zZ "f"]⟩,⟨sb,Y sa,[zZ "h"]⟩]
noncomputable def L7:List Bo:=[⟨sf,[zZ "func",sf,zZ "p"],[[zZ "give",zZ "p"]]⟩,⟨sm,[zZ "method",sa,zZ "m",zZ "p"],[[zZ "tell",zZ "self"],[zZ "give",zZ "self"]]⟩,⟨O7,[zZ "method",sb,zZ "o",zZ "p"],[]⟩]
noncomputable def Ae:List Lr:=kis.map lP++L7.flatMap Bo.txt
noncomputable def iO(a:List R4):List Lr:=Ae++([f9]::(a.map R4.ws++[[zZ "end"]]))
abbrev PY:List (Str×List Str):=[(sf,[zZ "func",sf,zZ "p"]),(sm,[zZ "method",sa,zZ "m",zZ "p"]),(O7,[zZ "method",sb,zZ "o",zZ "p"]),(f9,[f9])]
abbrev ns0:List (List Str×Str):=[([zZ "give",zZ "p"],sf),([zZ "tell",zZ "self"],sm),([zZ "give",zZ "self"],sm)]
noncomputable def L8(a:List R4):List (Lr×Str):=ns0++a.map λr=>(r.ws,f9)
def R4.wn(r:R4):sE (zZ r.w)=true:=by cases r<;>kernel_rfl
def R4.len(r:R4):r.ws.length<=12:=by cases r<;>exact Nat.le_of_ble_eq_true rfl
def R4.Ok.gr{r:R4}(h:r.Ok):GR r.ws:=by
 refine⟨List.cons_ne_nil _ _,λw hw=>?_,r.len⟩;rcases ao.mp hw with rfl|hw
 ·exact r.wn
 ·exact h.nm w hw
theorem bk7:∀(a:List R4),(∀r∈a,r.Ok)->Bk D3 D4 Gn [] (a.map R4.ws) []
 |[],_=>.nil []
 |r::a,h=>.row (h r (by simp)).rk (bk7 a λx hx=>h x (by simp[hx]))
theorem wk7(t:Str):∀(a:List R4),Wk 1 t (a.map R4.ws++[[zZ "end"]]) [] (a.map λr=>(r.ws,t))
 |[]=>.fin (.nil t)
 |r::a=>.row r.w r.as false (by cases r<;>rfl) (by cases r<;>rfl) (by cases r<;>rfl) (wk7 t a)
def hbm:Hb f9 [f9]:=⟨.inr (.inr ⟨rfl,rfl⟩),eQ "main"⟩
def Yo:sm=IB sa (zZ "m"):=by decide +kernel
def Yp:O7=IB sb (zZ "o"):=by decide +kernel
def VB:Hb sf [zZ "func",sf,zZ "p"]:=⟨.inl ⟨_,rfl⟩,eQ "fa"⟩
def VC:Hb sm [zZ "method",sa,zZ "m",zZ "p"]:=⟨.inr (.inl ⟨_,_,_,rfl,Yo,by decide +kernel,by decide +kernel⟩),eQ "ka.m"⟩
def VD:Hb O7 [zZ "method",sb,zZ "o",zZ "p"]:=⟨.inr (.inl ⟨_,_,_,rfl,Yp,by decide +kernel,by decide +kernel⟩),eQ "kb.o"⟩
def O8(b:Str)(a:List R4):Wk 0 b (iO a) PY (L8 a) :=
 .kind _ _ (.kind _ _ (.head _ VB (.row "give" _ false rfl rfl rfl (.fin (.head _ VC (.row "tell" _ false rfl rfl rfl (.row "give" _ false rfl rfl rfl (.fin (.head _ VD (.fin (.head _ hbm (wk7 f9 a))))))))))))
structure Mj (rs:List R4):Prop where
 ok:∀r∈rs,r.Ok
 lr:rs.length<=62
def tB:∀a∈Ae,GR a:=by
 have:Ae.all (λa=>!a.isEmpty&&a.all sE&&decide (a.length<=12))=true:=by decide +kernel
 intro a hw;have h:=bL.mp this a hw;simp only[bD,cC] at h;refine⟨λz=>by rw[z] at h;simp at h,λw hw=>bL.mp h.1.2 w hw,h.2⟩
def J5{b:List R4}(T:Mj b):∀a∈iO b,GR a:=by
 intro a hw;rcases aR.mp hw with hw|hw
 ·exact tB a hw
 ·rcases ao.mp hw with rfl|hw
  ·exact J4
  ·rcases aR.mp hw with hw|hw
   ·obtain⟨r,c,rfl⟩:=aP.mp hw;exact(T.ok r c).gr
   ·simp at hw;subst hw;exact O6
def Af(a:List R4):(iO a).length=a.length+13:=by
 have:Ae.length=11:=by decide +kernel
 simp[iO,this];omega
def Zu{a:List R4}(T:Mj a):Rt (iO a) PY (L8 a):=by
 have:=T.lr;refine⟨O8 _ a,J5 T,by decide +kernel,λw hw=>?_,by rw[Af];omega,by simp[iO]⟩;simp at hw;rcases hw with rfl|rfl|rfl|rfl
 ·exact eQ "fa"
 ·exact eQ "ka.m"
 ·exact eQ "kb.o"
 ·exact eQ "main"
noncomputable def Gp:Fl:=[(sa,[zZ "f"]),(sb,[zZ "f",zZ "h"])]
def Yq:Yn [] kis Gp:=by refine .cons (r:=⟨sa,Z,[zZ "f"]⟩) (inh:=[]) (by simp) rfl (by simp) (by simp) (by simp) ?_;refine .cons (r:=⟨sb,Y sa,[zZ "h"]⟩) (inh:=[zZ "f"]) (by decide +kernel) (by simp) (by decide +kernel) (by simp) (by simp) ?_;exact .nil _
def Yr:∀k∈D3,k∈(hg Gp).map (·.1):=by intro k a;rw[rF];simpa [Gp] using a
def aaQ:L6 D3 D4 Gn (hg Gp) ⟨sf,[zZ "func",sf,zZ "p"],[[zZ "give",zZ "p"]]⟩ where
 hd:=⟨by decide +kernel,⟨"func",_,rfl,.inl rfl⟩,by simp,VB.Tp,λe b f d c=>by kernel_rfl,eQ "fa"⟩
 gr:=λa hw=>tB a (by simp at hw;subst hw;simp[Ae,L7,Bo.txt])
 bk:=.row .give (.nil _)
 hb:=VB
 gh:=tB _ (by simp[Ae,L7,Bo.txt])
def aaR:L6 D3 D4 Gn (hg Gp) ⟨sm,[zZ "method",sa,zZ "m",zZ "p"],[[zZ "tell",zZ "self"],[zZ "give",zZ "self"]]⟩ where
 hd:=⟨by decide +kernel,⟨"method",_,rfl,.inr (.inl rfl)⟩,by simp,VC.Tp,λe b f d c=>by kernel_rfl,eQ "ka.m"⟩
 gr:=λa hw=>tB a (by simp at hw;rcases hw with rfl|rfl<;>simp[Ae,L7,Bo.txt])
 bk:=.row .tell (.row .give (.nil _))
 hb:=VC
 gh:=tB _ (by simp[Ae,L7,Bo.txt])
def aaS:L6 D3 D4 Gn (hg Gp) ⟨O7,[zZ "method",sb,zZ "o",zZ "p"],[]⟩ where
 hd:=⟨by decide +kernel,⟨"method",_,rfl,.inr (.inl rfl)⟩,by simp,VD.Tp,λe b f d c=>by kernel_rfl,eQ "kb.o"⟩
 gr:=λa hw=>by simp at hw
 bk:=.nil _
 hb:=VD
 gh:=tB _ (by simp[Ae,L7,Bo.txt])
def VE:∀b∈L7,L6 D3 D4 Gn (hg Gp) b/\b.t≠zZ "main":=by
 intro b a;simp only[L7,ao,bY,d4] at a;rcases a with rfl|rfl|rfl
 ·exact⟨aaQ,by decide +kernel⟩
 ·exact⟨aaR,by decide +kernel⟩
 ·exact⟨aaS,by decide +kernel⟩
def VF:Se D4 Gn (hg PY) where
 nd:=by rw[rF];decide +kernel
 m:=λk m h=>by rw[rF];simp only[ao,Prod.mk.injEq,bY,d4] at h;rcases h with ⟨rfl,rfl⟩ | ⟨rfl,rfl⟩<;>decide +kernel
 f:=λf n h=>by simp only[ao,Prod.mk.injEq,bY,d4] at h;obtain⟨rfl,rfl⟩:=h;exact⟨eQ "fa",by decide +kernel,[zZ "func",sf,zZ "p"],[],by simp[hg],by kernel_rfl,rfl⟩
def Ys{a:List R4}(T:Mj a):∃E,E.map (·.2)=L8 a/\iM [.str (tx (iO a))]=Y (prog (iO a) PY E):=by
 have s:=T.lr;obtain⟨i,q,p⟩:=Gm Yq (la:=.list []) (by simp) (λr d=>tB _ (by refine aF _ (aP.mpr ⟨r,d,rfl⟩))) (by decide +kernel) 0;obtain⟨n,m,h,l⟩:=uU Yr L7 [] 2 [] VE (by decide +kernel) (by decide +kernel) (by simp) (by decide +kernel);have k:(L7.flatMap Bo.txt).length=9:=by decide +kernel
 obtain⟨v,j,u,g⟩:=B7 (K:=D3) (M:=D4) (Fu:=Gn) Yr (b:=⟨f9,[f9],a.map R4.ws⟩) ⟨RX _,λo hw=>by obtain⟨r,d,rfl⟩:=aP.mp hw;exact(T.ok r d).gr,bk7 a T.ok,hbm,J4⟩ (H:=[]++hg (L7.map Bo.ent)) (show f9∉([]++hg (L7.map Bo.ent)).map (λ(x:Str×eD)=>x.1) by decide +kernel) (by decide +kernel) 11 n m (by simp[Bo.txt];rw[k] at h;simp at h;omega);have e:((f9==zZ "main"):Bool)=true:=by decide +kernel
 rw[show (({ t:=f9,hd:=[f9],rows:=a.map R4.ws }:Bo).t==zZ "main")=true from e] at g;refine Sf (F:=gD (hg Gp)) (Zu T) VF j ?_;have c:=i.app (l.app g);have f:iO a=kis.map lP++(L7.flatMap Bo.txt++Bo.txt ⟨f9,[f9],a.map R4.ws⟩):=by unfold iO Ae;rw[aV];rfl
 rw[f];exact c
def mQ{g h:MS}{ρ ρ':MR}{μ μ':MH}(e:g ρ μ=Y (.nx ρ' μ')):fe g h ρ μ=h ρ' μ':=by unfold fe;rw[e];rfl
def IJ{ρ:MR}{μ:MH}(h:f (wO ρ)=Y d):gm f ρ μ=Y (.d d,μ):=by unfold gm;rw[h];rfl
def L9{c n:Str}{a m:MF}{ρ:MR}{μ μ1 μ2 μ':MH}{v r:MV}(e:m ρ μ=Y (v,μ1))(d:a ρ μ1=Y (r,μ2))(b:NR c n v r μ2=Y μ'):hY c n a m ρ μ=Y (.nx ρ μ'):=by unfold hY;rw[e];show (a ρ μ1).bind _=_;rw[d];show (NR c n v r μ2).map _=_;rw[b];rfl
noncomputable def R4.dat:R4->eD
 |.new x k=>gO "new" .none (.str x) .none (.str k) .none .none .none [] [.str x]
 |.copy x y=>gO "copy" .none (.str x) (.str y) .none .none .none .none [] [.str x,.str y]
 |.tell x=>gO "tell" .none (.str x) .none .none .none .none .none [] [.str x]
 |.rest=>gO "rest" .none .none .none .none .none .none .none [] []
 |.row x=>gO "row" .none (.str x) .none .none .none .none .none [] [.str x]
 |.func x f=>gO "func" .none (.str x) .none .none .none .none (.str f) [] [.str x]
 |.fresh x k=>gO "fresh" .none (.str x) .none (.str k) .none .none .none [] [.str x]
 |.take x y f=>gO "take" .none (.str x) (.str y) .none (.str f) .none .none [] [.str x,.str y]
 |.put y f x=>gO "put" .none (.str x) (.str y) .none (.str f) .none .none [] [.str y,.str x]
 |.check y f=>gO "check" .none .none (.str y) .none (.str f) .none .none [] [.str y]
 |.push y x=>gO "push" .none (.str x) (.str y) .none .none .none .none [] [.str y,.str x]
 |.pull x y=>gO "pull" .none (.str x) (.str y) .none .none .none .none [] [.str x,.str y]
 |.Zr x y=>gO "do" .none (.str x) (.str y) .none .none .none .none [] [.str x,.str y]
 |.Zs x y a=>gO "do" .none (.str x) (.str y) .none .none .none .none [.str a] [.str x,.str y,.str a]
 |.Zt x y a b=>gO "do" .none (.str x) (.str y) .none .none .none .none [.str a,.str b] [.str x,.str y,.str a,.str b]
 |.Sg x y m=>gO "ask" .none (.str x) (.str y) .none .none (.str m) .none [] [.str x,.str y]
 |.Sh x y m a=>gO "ask" .none (.str x) (.str y) .none .none (.str m) .none [.str a] [.str x,.str y,.str a]
 |.Si x y m a b=>gO "ask" .none (.str x) (.str y) .none .none (.str m) .none [.str a,.str b] [.str x,.str y,.str a,.str b]
 |.str0 x y k m=>gO "straight" .none (.str x) (.str y) (.str k) .none (.str m) .none [] [.str x,.str y]
 |.str1 x y k m a=>gO "straight" .none (.str x) (.str y) (.str k) .none (.str m) .none [.str a] [.str x,.str y,.str a]
 |.Sj x y k m a b=>gO "straight" .none (.str x) (.str y) (.str k) .none (.str m) .none [.str a,.str b] [.str x,.str y,.str a,.str b]
 |.own x y f=>gO "own" .none (.str x) (.str y) .none (.str f) .none .none [] [.str x,.str y]
 |.place y f x=>gO "place" .none (.str x) (.str y) .none (.str f) .none .none [] [.str y,.str x]
 |.give x=>gO "give" .none (.str x) .none .none .none .none .none [] [.str x]
def R4.ini(r:R4):n8 [.dict [(.none,.str (zZ "Row"))],wl r.ws]=Y (.none,r.dat):=by cases r<;>kernel_rfl
theorem nN{α:Type}{T:c7->Option Bool}{C:c7->Od}{b:c7}{G:α->eD}(c:T=λ_=>Y true):∀(l:List α) (a:Nat),(∀(i:Nat) x,l[i]?=Y x->C (Y (zi (a+i:Nat))::b)=Y (G x))->lS T C b ((List.range' a l.length).map λ(i:Nat)=>eD.int (i:Int))=Y (l.map G)
 |[],a,_=>rfl
 |x::l,a,h=>by
  have d:=nN c l (a+1) λi y e=>by have:=h (i+1) y (by simpa using e);rw[show a+1+i=a+(i+1) by omega];exact this
  have f:=h 0 x rfl;rw[show a+0=a from rfl] at f;rw[c] at d;rw[ax,List.range'_succ,ai];unfold lS;rw[c];simp only[aD,b8,f,d,ai]
section
variable {hs:List (Str×Lr)}{ns:List (Lr×Str)}
def Ka(E:List r9):fK [prog rows hs E]=Y (zi E.length):=by
 simp? only[fK,mX,z7,OM]
def O9{E:List r9}{k:Nat}{x:r9}(h:E[k]?=Y x):ip [prog rows hs E,.int (k:Int)]=Y (wl x.2.1):=by
 simp? only[ip,mW,z7,Tq h,ixT,Wm,JQ]
def Sk{E:List r9}{k:Nat}{x:r9}(h:E[k]?=Y x):jE [prog rows hs E,.int (k:Int)]=Y (.str x.2.2):=by
 simp? only[jE,n9,z7,Tq h,ixT,at2]
end
section
variable {rs:List R4}{E:List r9}
noncomputable def al(a:List R4):List (R4×Str):=[(.give (zZ "p"),sf),(.tell (zZ "self"),sm),(.give (zZ "self"),sm)]++a.map λr=>(r,f9)
def Tu(a:List R4):L8 a=(al a).map λx=>(x.1.ws,x.2):=by simp[L8,al,R4.ws,R4.w,R4.as]
def D5(a:List R4):(al a).length=a.length+3:=by simp[al]
abbrev jv(a:List R4)(E:List r9):eD:=prog (iO a) PY E
def Pa(a:E.map (·.2)=L8 rs){r:R4×Str}(h:(al rs)[i]?=Y r):∃x,E[i]?=Y x/\x.2=(r.1.ws,r.2):=by
 have:(E.map (·.2))[i]?=Y (r.1.ws,r.2):=by rw[a,Tu,ay,h];rfl
 rw[ay] at this;exact aa.mp this
def Kb(a:E.map (·.2)=L8 rs):E.length=(al rs).length:=by have:=bw List.length a;rw[Tu] at this;simpa using this
def Sl(c:E.map (·.2)=L8 rs)(l:rs.length<=62)(ρ:c7)(b:ρ[1]?=Y (Y (jv rs E))):lu (ng (f6 "Program" "many_rows" 1 fK (bS 1) fg)) [(1,"program")] lB j6 ρ=Y (.list ((al rs).map λx=>x.1.dat)):=by
 have k:(f6 "Program" "many_rows" 1 fK (bS 1) fg) ρ=Y (zi ((al rs).length:Nat)):=by
  simp? only[b,OQ,Ka,Kb c]
 have j:=Tr (n:=(al rs).length) (by rw[D5];omega) ρ _ k;rw[DO,j,aD,ag (by rw[sizeLine_eq];simp[D5];omega)];have g:pA [(1,"program")] ρ=[Y (jv rs E)]:=by simp[pA,b]
 rw[g,nN (T:=lB) (C:=j6) (G:=λx:R4×Str=>x.1.dat) rfl (al rs) 0 λi r e=>?_]
 ·rfl
 ·obtain⟨x,d,a⟩:=Pa c e;have w:=O9 (rows:=iO rs) (hs:=PY) d;rw[a] at w;have h:(f6 "Program" "row_words" 2 ip (bS 1) (zQ (bS 0))) [Y (zi (0+i:Nat)),Y (jv rs E)]=Y (wl r.1.ws):=by
   rw[d7]
   simp? only[RQ,w]
  have f:=r.1.ini;simp only[j6,OA,DN,Iv,h,aD,ax,du,f,b8,Nat.reduceAdd]
def Pb(c:E.map (·.2)=L8 rs)(j:rs.length<=62)(ρ:c7)(b:ρ[1]?=Y (Y (jv rs E))):lu (ng (f6 "Program" "many_rows" 1 fK (bS 1) fg)) [(1,"program")] j7 iW ρ=Y (.list ((al rs).map λx=>.str x.2)):=by
 have h:(f6 "Program" "many_rows" 1 fK (bS 1) fg) ρ=Y (zi ((al rs).length:Nat)):=by
  simp? only[b,OQ,Ka,Kb c]
 have g:=Tr (n:=(al rs).length) (by rw[D5];omega) ρ _ h;rw[DO,g,aD,ag (by rw[sizeLine_eq];simp[D5];omega)];have f:pA [(1,"program")] ρ=[Y (jv rs E)]:=by simp[pA,b]
 rw[f,nN (T:=j7) (C:=iW) (G:=λx:R4×Str=>.str x.2) rfl (al rs) 0 λi r e=>?_]
 ·rfl
 ·obtain⟨x,d,a⟩:=Pa c e;have w:=Sk (rows:=iO rs) (hs:=PY) d;rw[a] at w;rw[d7]
  simp? only[iW,Vm,w]
end
noncomputable def TB:eD:=.dict [(.str sa,.tuple [.none,.list [.str (zZ "f")]]),(.str sb,.tuple [.str sa,.list [.str (zZ "h")]])]
abbrev HD:eD:=gD (hg PY)
section
variable {rs:List R4}{E:List r9}
def aaT(p:eD)(a:Lp):qr (Hf (.one 2)) qj (wl (lP ⟨sa,Z,[zZ "f"]⟩)::wl (lP ⟨sb,Y sa,[zZ "h"]⟩)::wl [zZ "func",sf,zZ "p"]::a) [Y p,Y (.dict []),Z]=Y (.nx [Y p,Y TB,Y (wl [zZ "func",sf,zZ "p"])]):=by kernel_rfl
def Pc(T:Mj rs):kq [jv rs E]=Y TB:=by
 have d:=JZ (Zu T) (DV (rows:=iO rs) (hs:=PY) E);have b:∃a,(iO rs).map wl=wl (lP ⟨sa,Z,[zZ "f"]⟩)::wl (lP ⟨sb,Y sa,[zZ "h"]⟩)::wl [zZ "func",sf,zZ "p"]::a:=⟨_,rfl⟩
 obtain⟨a,b⟩:=b;have c:=aaT (jv rs E) a
 simp? only[kq,um,d,b,c]
def Pd(T:Mj rs):iA [jv rs E]=Y HD:=Ge (Zu T) (DV E)
end
noncomputable def Tv(n:Nat):eD:=.list ([.str sf,.str sm,.str sm]++List.replicate n (.str f9))
abbrev oF4(R a:eD):List (Str×MV):=[("rows",.d R),("homes",.d a),("table",.d TB),("heads",.d HD)]
def aaU(a n:Nat):Lp:=(List.range' a n).map λ(i:Nat)=>eD.int (i:Int)
noncomputable def OL(n:Nat)(R:eD):eD:=.dict [(.none,.str "Outline"),(.str "rows",R),(.str "homes",Tv n),(.str "table",TB),(.str "heads",HD),
 (.str "params",.dict [(.str sf,.list [.str (zZ "p")]),(.str sm,.list [.str (zZ "p")]),(.str O7,.list [.str (zZ "p")]),(.str f9,.list [])]),
 (.str "kept",.dict [(.str sf,.list []),(.str sm,.list []),(.str O7,.list []),(.str f9,.list [])]),
 (.str "own_rows",.dict [(.str sf,.list [.int 0]),(.str sm,.list [.int 1,.int 2]),(.str O7,.list []),(.str f9,.list (aaU 3 n))]),
 (.str "fields",.dict [(.str sa,.list [.str (zZ "f")]),(.str sb,.list [.str (zZ "f"),.str (zZ "h")])])]
def Yt:MS:=(fe (hY "Outline" "params" (ew 0) oM)
(fe (hY "Outline" "kept" (ew 0) oM)
(fe (hY "Outline" "own_rows" (ew 0) oM)
(fe (EX (g0 "Outline" "heads" (ew 0)) (.one 2) oN)
(fe (vu (HF (g0 "Outline" "homes" (ew 0))) (.many [3,2]) oP)
(fe (hY "Outline" "fields" (ew 0) oM)
(EX (g0 "Outline" "table" (ew 0)) (.one 4) oQ)))))))
def Sm(R p:eD)(a:n=2\/n=3\/n=4\/n=5):((Yt [Y (.l 0),zd p,Z,Z,Z] [.ins "Outline" (oF4 R (Tv n))]).bind λo=>match o with | .rt v μ'=>Y (v,μ') | .nx _ μ'=>Y (.d .none,μ')|_=>Z).bind (λq=>match q.1 with | .d .none=>kB q.2 9 (.l 0)|_=>Z)=Y (OL n R):=by rcases a with rfl|rfl|rfl|rfl<;>kernel_rfl
section
variable {rs:List R4}{E:List r9}
abbrev xB(a:List R4):eD:=.list ((al a).map λx=>x.1.dat)
def Yu(b:List R4):(eD.list ((al b).map λx=>eD.str x.2))=Tv b.length:=by
 have:∀l:List R4,(l.map λr=>(r,f9)).map (λx:R4×Str=>eD.str x.2)=List.replicate l.length (.str f9):=by
  intro l;induction l with
  |nil=>rfl
  |cons a l c=>rw[ai,ai,c];rfl
 unfold al Tv;rw[bR,this];rfl
def Sn(T:Mj rs)(b:E.map (·.2)=L8 rs)(h:rs.length=2\/rs.length=3\/rs.length=4\/rs.length=5)(i:ρ[1]?=Y (Y (jv rs E))):sW "Outline" 2 lD (zQ (bS 1)) ρ=Y (OL rs.length (xB rs)):=by
 have a:=T.lr;unfold sW
 simp? only[i]
 have c:=Pb b a [Z,Y (jv rs E),Z,Z,Z] rfl;rw[Yu] at c;have n:=IJ (ρ:=[Y (.l 0),zd (jv rs E),Z,Z,Z]) (μ:=[.ins "Outline" []]) (Sl b a _ rfl);have m:=IJ (f:=lu (ng (f6 "Program" "many_rows" 1 fK (bS 1) fg)) [(1,"program")] j7 iW) (ρ:=[Y (.l 0),zd (jv rs E),Z,Z,Z]) (μ:=[.ins "Outline" [("rows",.d (xB rs))]]) c;have g:=Pc (E:=E) T;have e:=Pd (E:=E) T;have k:=IJ (f:=jx 1 kq (zQ (bS 1))) (ρ:=[Y (.l 0),zd (jv rs E),Z,Z,Z]) (μ:=[.ins "Outline" [("rows",.d (xB rs)),("homes",.d (Tv rs.length))]]) (d:=TB) (by
  show jx 1 kq (zQ (bS 1)) [Z,Y (jv rs E),Z,Z,Z]=_
  simp? only[g])
 have j:=IJ (f:=jx 1 iA (zQ (bS 1))) (ρ:=[Y (.l 0),zd (jv rs E),Z,Z,Z]) (μ:=[.ins "Outline" [("rows",.d (xB rs)),("homes",.d (Tv rs.length)),("table",.d TB)]]) (d:=HD) (by
  show jx 1 iA (zQ (bS 1)) [Z,Y (jv rs E),Z,Z,Z]=_
  simp? only[e])
 have hw:lC [Y (.l 0),zd (jv rs E),Z,Z,Z] [.ins "Outline" []]=Yt [Y (.l 0),zd (jv rs E),Z,Z,Z] [.ins "Outline" (oF4 (xB rs) (Tv rs.length))]:=by generalize Tv rs.length=hm at *;generalize xB rs=rd at *;unfold lC;rw[mQ (L9 n (r:=.l 0) (μ2:=[.ins "Outline" []]) rfl (μ':=[.ins "Outline" [("rows",.d rd)]]) (zK 0))];rw[mQ (L9 m (r:=.l 0) (μ2:=[.ins "Outline" [("rows",.d rd)]]) rfl (μ':=[.ins "Outline" [("rows",.d rd),("homes",.d hm)]]) (zK 0))];rw[mQ (L9 k (r:=.l 0) (μ2:=[.ins "Outline" [("rows",.d rd),("homes",.d hm)]]) rfl (μ':=[.ins "Outline" [("rows",.d rd),("homes",.d hm),("table",.d TB)]]) (zK 0))];rw[mQ (L9 j (r:=.l 0) (μ2:=[.ins "Outline" [("rows",.d rd),("homes",.d hm),("table",.d TB)]]) rfl (μ':=[.ins "Outline" (oF4 rd hm)]) (zK 0))];rfl
 unfold lD ji;show ((lC [Y (.l 0),zd (jv rs E),Z,Z,Z] [.ins "Outline" []]).bind _).bind _=_;rw[hw];exact Sm _ _ h
end
def aaV{a m:MF}{ρ:MR}{μ μ1 μ2:MH}{k:Nat}{v:MV}{xs ys:List MV}(f:a ρ μ=Y (.l k,μ1))(e:μ1[k]?=Y (.lst ys))(c:m ρ μ1=Y (v,μ2))(b:μ2[k]?=Y (.lst xs))(h:xs.length<16777216):ko a m ρ μ=Y (.d .none,μ2.set k (.lst (xs++[v]))):=by
 unfold ko;rw[f,aD];have:BG μ1 (.l k)=true:=by unfold BG;simp only[e]
 simp only[this,b8,c,aD,XF,b];rw[ag (by rw[sizeLine_eq];exact h)];rfl
def gM{a:MV->MR->Option MR}{g:MS}{m:MV}{b:List MV}{ρ ρ1:MR}{μ μ1:MH}(h:((a m ρ).bind λρ1=>g ρ1 μ)=Y (.nx ρ1 μ1)):nr a g (m::b) ρ μ=nr a g b ρ1 μ1:=by rw[nr,h];rfl
def VG{mo mk m:MF}{ρ:MR}{μ μ1 μ2 μ3:MH}{v kd:MV}{y:Key}{kvs:List (Key×MV)}(e:m ρ μ=Y (v,μ1))(d:mo ρ μ1=Y (.l n,μ2))(c:mk ρ μ2=Y (kd,μ3))(b:(uf kd).bind o9=Y y)(a:μ3[n]?=Y (.mJ kvs))(h:kvs.length<16777216):rR mo mk m ρ μ=Y (.nx ρ (μ3.set n (.mJ (BE y v kvs)))):=by unfold rR;simp only[e,d,c,aD,XG,a,sizeLine_eq,h,b8,b,cw]
def vS{y:Key}{v:MV}{kvs:List (Key×MV)}(h:y∉kvs.map (·.1)):BE y v kvs=kvs++[(y,v)]:=by unfold BE;rw[aj];intro z;obtain⟨q,a,e⟩:=List.any_eq_true.mp z;exact h (aP.mpr ⟨q,a,by simpa using e⟩)
theorem Pe{μ:MH}{n:Nat}:∀l:Lp,vp (kB μ (n+1)) (l.map .d)=Y l
 |[]=>rfl
 |x::l=>by have:=Pe (μ:=μ) (n:=n) l;rw[ai,vp,this];rfl
noncomputable def qw:List R4->Nat->Lp
 |[],_=>[]
 |r::rs,a=>.tuple [.str (zZ r.w),.int (a:Int)]::qw rs (a+1)
def Tw{a:Lr}(g:GR a){ρ:MR}(h:(wO ρ)[4]?=Y (Y (.str (ln a)))){μ:MH}:(ju (gm (yy iK (bS 4) (zC " " fg))) 5) ρ μ=Y (.nx (ρ.set 5 (zd (wl a))) μ):=by
 have c:zZ " "=⟨#[32]⟩:=by decide +kernel
 have b:yy iK (bS 4) (zC " " fg) (wO ρ)=Y (wl a):=by
  have:=g.split
  simp? only[h,c,ln,this]
 unfold ju;rw[IJ b];rfl
def Pf{ρ:MR}{μ μ':MH}{g h:MS}(q:gc ρ μ=Y (false,μ')):vt gc g h ρ μ=h ρ μ':=by unfold vt;rw[q];rfl
abbrev M0:MH:=[.lst [],.lst []]
abbrev hT(a:List Str)(n:Nat):MV:=.t [.d (wl a),.l n]
abbrev Mh(b a:List MV):MH:=[.lst [hT [zZ "func",sf,zZ "p"] 2,hT [zZ "method",sa,zZ "m",zZ "p"] 3,hT [zZ "method",sb,zZ "o",zZ "p"] 4,hT [f9] 5],.lst b,.lst [.d (.tuple [.str (zZ "give"),.int 0])],.lst [.d (.tuple [.str (zZ "tell"),.int 1]),.d (.tuple [.str (zZ "give"),.int 2])],.lst [],.lst a]
abbrev M1(xs:List MV):MH:=Mh [.d .none] xs
abbrev M2(a:List MV):MH:=Mh [] a
noncomputable def VH:List MV:=(Ae++[[f9]]).map λa=>.d (.str (ln a))
def VI(p:eD)(a:List MV):∃x y z u,nr (C1 (.one 4)) f7 (VH++a) [zd p,Y (.l 0),Y (.l 1),zd (.int 0),Z,Z,Z,Z] M0=nr (C1 (.one 4)) f7 a [zd p,Y (.l 0),Y (.l 1),zd (zi (3:Nat)),x,y,z,u] (M1 []):=by
 refine⟨zd (.str (ln [f9])),zd (wl [f9]),zd (.str f9),Y (.t [.d (.str (zZ "end")),.d .none]),?_⟩
 kernel_rfl
def VJ(p:eD)(n:Int)(a:List MV)(x y z u:Option MV):((C1 (.one 4) (.d (.str (ln [zZ "end"]))) [zd p,Y (.l 0),Y (.l 1),zd (.int n),x,y,z,u]).bind λρ=>f7 ρ (M1 a))=Y (.nx [zd p,Y (.l 0),Y (.l 1),zd (.int n),zd (.str (ln [zZ "end"])),zd (wl [zZ "end"]),zd (.str (zZ "end")),Y (.t [.d (.str (zZ "end")),.d .none])] (M2 a)):=by
 show f7 [zd p,Y (.l 0),Y (.l 1),zd (.int n),zd (.str (ln [zZ "end"])),y,z,u] (M1 a)=_;unfold f7;refine(mQ (Tw O6 rfl)).trans ?_;generalize ln [zZ "end"]=row
 kernel_rfl
def VL(p:eD){r:R4}(b:r.Ok)(n:Nat)(xs:List MV)(h:xs.length<16777216)(x y z u:Option MV):((C1 (.one 4) (.d (.str (ln r.ws))) [zd p,Y (.l 0),Y (.l 1),zd (zi n),x,y,z,u]).bind λρ=>f7 ρ (M1 xs))=Y (.nx [zd p,Y (.l 0),Y (.l 1),zd (zi (n+1:Nat)),zd (.str (ln r.ws)),zd (wl r.ws),zd (.str (zZ r.w)),zd (.tuple [.str (zZ r.w),.int (n:Int)])] (M1 (xs++[.d (.tuple [.str (zZ r.w),.int (n:Int)])]))):=by
 show f7 [zd p,Y (.l 0),Y (.l 1),zd (zi n),zd (.str (ln r.ws)),y,z,u] (M1 xs)=_;unfold f7;refine(mQ (Tw b.gr rfl)).trans ?_;generalize ln r.ws=row;refine(mQ (ρ':=[zd p,Y (.l 0),Y (.l 1),zd (zi n),zd (.str row),zd (wl r.ws),zd (.str (zZ r.w)),u]) (μ':=M1 xs) (by cases r<;>kernel_rfl)).trans ?_;refine(mQ (ρ':=[zd p,Y (.l 0),Y (.l 1),zd (zi n),zd (.str row),zd (wl r.ws),zd (.str (zZ r.w)),u]) (μ':=M1 xs) (by cases r<;>kernel_rfl)).trans ?_;refine(mQ (ρ':=[zd p,Y (.l 0),Y (.l 1),zd (zi (n+1:Nat)),zd (.str row),zd (wl r.ws),zd (.str (zZ r.w)),zd (.tuple [.str (zZ r.w),.int (n:Int)])]) (μ':=M1 xs) (by cases r<;>kernel_rfl)).trans ?_;have c:∀{ρ:MR}{μ:MH}{a:MR->MH->Option (Bool×MH)}{g h:MS},a ρ μ=Y (true,μ)->vt a g h ρ μ=g ρ μ:=λq=>by unfold vt;rw[q];rfl
 rw[c (zK 0)];unfold gW;rw[aaV (k:=5) (μ1:=M1 xs) (μ2:=M1 xs) (xs:=xs) (ys:=xs) (v:=.d (.tuple [.str (zZ r.w),.int (n:Int)])) (zK 0) rfl (zK 0) rfl h];rfl
theorem Kc(p:eD):∀(a:List R4) (n:Nat) (xs:List MV) (x y z u:Option MV),(∀r∈a,r.Ok)->xs.length+a.length<=1000->∃ρ',nr (C1 (.one 4)) f7 ((a.map λr=>MV.d (.str (ln r.ws)))++[.d (.str (ln [zZ "end"]))]) [zd p,Y (.l 0),Y (.l 1),zd (zi n),x,y,z,u] (M1 xs)=Y (.nx (zd p::Y (.l 0)::ρ') (M2 (xs++(qw a n).map .d)))
 |[],n,xs,x,y,z,u,_,_=>by refine⟨[Y (.l 1),zd (.int n),zd (.str (ln [zZ "end"])),zd (wl [zZ "end"]),zd (.str (zZ "end")),Y (.t [.d (.str (zZ "end")),.d .none])],?_⟩;rw[bC,bB,gM (VJ p n xs x y z u),qw,bC,aM];rfl
 |r::a,n,xs,x,y,z,u,ok,hl=>by obtain⟨ρ',b⟩:=Kc p a (n+1) (xs++[.d (.tuple [.str (zZ r.w),.int (n:Int)])]) _ _ _ _ (λq c=>ok q (by simp[c])) (by simp at hl ⊢;omega);refine⟨ρ',?_⟩;rw[ai,bf,gM (VL p (ok r (by simp)) n xs (by simp at hl;omega) x y z u),b,qw,ai,aV];rfl
section
variable {rs:List R4}{E:List r9}
noncomputable def MK(a:List R4):eD:=.list [.tuple [wl [zZ "func",sf,zZ "p"],.list [.tuple [.str (zZ "give"),.int 0]]],.tuple [wl [zZ "method",sa,zZ "m",zZ "p"],.list [.tuple [.str (zZ "tell"),.int 1],.tuple [.str (zZ "give"),.int 2]]],.tuple [wl [zZ "method",sb,zZ "o",zZ "p"],.list []],.tuple [wl [f9],.list (qw a 3)]]
def Pg(T:Mj rs):kr [jv rs E]=Y (MK rs):=by
 have p:=T.lr;have H:=Zu T;have a:=DV (rows:=iO rs) (hs:=PY) E;have o:=uP H.gr (by rw[Af];omega) (by simp[iO]);have q:(oJ (yy iK (f6 "Program" "shown" 1 gX (bS 0) fg) (zC "\n" fg))) [Y (jv rs E),Z,Z,Y (.int 0),Z,Z,Z,Z]=Y (((iO rs).map ln).map .str):=by
  simp? only[a.2,Gd a,o]
 have g:(((iO rs).map ln).map eD.str).map MV.d=VH++((rs.map λr=>MV.d (.str (ln r.ws)))++[.d (.str (ln [zZ "end"]))]):=by unfold iO VH;simp only[bR,ai,cX,bC,aV,bf,bB];rfl
 obtain⟨x,y,z,u,f⟩:=VI (jv rs E) ((rs.map λr=>MV.d (.str (ln r.ws)))++[.d (.str (ln [zZ "end"]))]);obtain⟨ρ',b⟩:=Kc (jv rs E) rs 3 [] x y z u T.ok (by simp;omega);rw[bB] at b;have e:vu (C4 (oJ (yy iK (f6 "Program" "shown" 1 gX (bS 0) fg) (zC "\n" fg)))) (.one 4) f7 [zd (jv rs E),Y (.l 0),Y (.l 1),zd (.int 0),Z,Z,Z,Z] M0=Y (.nx (zd (jv rs E)::Y (.l 0)::ρ') (M2 ((qw rs 3).map .d))):=by
  have c:(C4 (oJ (yy iK (f6 "Program" "shown" 1 gX (bS 0) fg) (zC "\n" fg)))) [zd (jv rs E),Y (.l 0),Y (.l 1),zd (.int 0),Z,Z,Z,Z] M0=Y ((((iO rs).map ln).map eD.str).map MV.d,M0):=by unfold C4;rw[show wO [zd (jv rs E),Y (.l 0),Y (.l 1),zd (.int 0),Z,Z,Z,Z]=[Y (jv rs E),Z,Z,Y (.int 0),Z,Z,Z,Z] from rfl,q];rfl
  unfold vu;rw[c,aD];show nr _ _ ((((iO rs).map ln).map eD.str).map MV.d) _ _=_;rw[g,f];exact b
 have hw:nv [zd (jv rs E),Z,Z,Z,Z,Z,Z,Z] []=Y (.rt (.l 0) (M2 ((qw rs 3).map .d))):=by unfold nv;rw[mQ (ρ':=[zd (jv rs E),Y (.l 0),Z,Z,Z,Z,Z,Z]) (μ':=[.lst []]) rfl];rw[mQ (ρ':=[zd (jv rs E),Y (.l 0),Y (.l 1),Z,Z,Z,Z,Z]) (μ':=M0) rfl];rw[mQ (ρ':=[zd (jv rs E),Y (.l 0),Y (.l 1),zd (.int 0),Z,Z,Z,Z]) (μ':=M0) rfl];rw[mQ e];rfl
 unfold kr BH;show (nv [zd (jv rs E),Z,Z,Z,Z,Z,Z,Z] []).bind _=_;rw[hw,aD];have n:kB (M2 ((qw rs 3).map .d)) 7 (.l 5)=Y (.list (qw rs 3)):=by show (vp (kB _ 6) ((qw rs 3).map .d)).map eD.list=_;rw[Pe];rfl
 have m:kB (M2 ((qw rs 3).map .d)) 8 (hT [f9] 5)=Y (.tuple [wl [f9],.list (qw rs 3)]):=by show (vp (kB (M2 ((qw rs 3).map .d)) 7) [.d (wl [f9]),.l 5]).map eD.tuple=_;have h:kB (M2 ((qw rs 3).map .d)) 7 (.d (wl [f9]))=Y (wl [f9]):=rfl;simp only[vp,h,n,aD,cw]
 have k:kB (M2 ((qw rs 3).map .d)) 8 (hT [zZ "func",sf,zZ "p"] 2)=Y (.tuple [wl [zZ "func",sf,zZ "p"],.list [.tuple [.str (zZ "give"),.int 0]]]):=rfl;have j:kB (M2 ((qw rs 3).map .d)) 8 (hT [zZ "method",sa,zZ "m",zZ "p"] 3)=Y (.tuple [wl [zZ "method",sa,zZ "m",zZ "p"],.list [.tuple [.str (zZ "tell"),.int 1],.tuple [.str (zZ "give"),.int 2]]]):=rfl;have i:kB (M2 ((qw rs 3).map .d)) 8 (hT [zZ "method",sb,zZ "o",zZ "p"] 4)=Y (.tuple [wl [zZ "method",sb,zZ "o",zZ "p"],.list []]):=rfl;show (vp (kB (M2 ((qw rs 3).map .d)) 8) [hT [zZ "func",sf,zZ "p"] 2,hT [zZ "method",sa,zZ "m",zZ "p"] 3,hT [zZ "method",sb,zZ "o",zZ "p"] 4,hT [f9] 5]).map eD.list=_;simp only[vp,m,k,j,i,aD,cw];rfl
end
abbrev So:MO:=.ins "Flow" [("first",.l 1),("behind",.l 2),("otherwise",.l 3)]
abbrev Zv:List (Key×MV):=[(.inr sf,.d (.int 0)),(.inr sm,.d (.int 1)),(.inr O7,.d .none)]
abbrev Yv:List (Key×MV):=[(.inl 0,.d .none),(.inl 2,.d .none),(.inl 1,.d (.int 2))]
abbrev Yw(b a:List (Key×MV)):MH:=[So,.mJ Zv,.mJ b,.mJ a,.lst [],.lst [],.lst [],.lst []]
abbrev FH(a:List (Key×MV)):MH:=Yw a a
def ka(r:R4)(i:Nat)(a:List (Key×MV))(f:eD)(b:(Sum.inl (i:Int):Key)∉a.map (·.1))(g:a.length<=1000)(P x y:Option MV):((C1 (.many [4,5]) (.d (.tuple [.str (zZ r.w),.int (i:Int)])) [Y (.l 0),P,zd f,Y (.l 7),x,y]).bind λρ=>iq ρ (FH a))=Y (.nx [Y (.l 0),P,zd (zi i),Y (.l 7),zd (.str (zZ r.w)),zd (zi i)] (FH (a++[(Sum.inl (i:Int),.d f)]))):=by show iq [Y (.l 0),P,zd f,Y (.l 7),zd (.str (zZ r.w)),zd (zi i)] (FH a)=_;unfold iq;rw[Pf (μ':=FH a) (by cases r<;>kernel_rfl),Pf (μ':=FH a) (by cases r<;>kernel_rfl)];have e:=VG (mo:=g0 "Flow" "behind" (ew 0)) (mk:=ew 5) (m:=ew 2) (ρ:=[Y (.l 0),P,zd f,Y (.l 7),zd (.str (zZ r.w)),zd (zi i)]) (μ:=FH a) (μ1:=FH a) (μ2:=FH a) (μ3:=FH a) (n:=2) (v:=.d f) (kd:=.d (zi i)) (y:=Sum.inl (i:Int)) (kvs:=a) rfl (zK 0) rfl rfl rfl (by omega);rw[vS b] at e;have c:=VG (mo:=g0 "Flow" "otherwise" (ew 0)) (mk:=ew 5) (m:=ew 2) (ρ:=[Y (.l 0),P,zd f,Y (.l 7),zd (.str (zZ r.w)),zd (zi i)]) (μ:=Yw (a++[(Sum.inl (i:Int),.d f)]) a) (μ1:=Yw (a++[(Sum.inl (i:Int),.d f)]) a) (μ2:=Yw (a++[(Sum.inl (i:Int),.d f)]) a) (μ3:=Yw (a++[(Sum.inl (i:Int),.d f)]) a) (n:=3) (v:=.d f) (kd:=.d (zi i)) (y:=Sum.inl (i:Int)) (kvs:=a) rfl (zK 0) rfl rfl rfl (by omega);rw[vS b] at c;refine(mQ e).trans ((mQ c).trans ?_);refine(mQ (ρ':=[Y (.l 0),P,zd f,Y (.l 7),zd (.str (zZ r.w)),zd (zi i)]) (μ':=FH (a++[(Sum.inl (i:Int),.d f)])) ?_).trans rfl;exact Pf (μ':=FH (a++[(Sum.inl (i:Int),.d f)])) (by cases r<;>kernel_rfl)
def fol(n m:Nat):eD:=if m=n then .none else .int (m:Int)
noncomputable def Tx(n:Nat):List (Key×MV):=Yv++((List.range' 3 n).reverse).map λ(i:Nat)=>(Sum.inl (i:Int),MV.d (fol (n+3) (i+1)))
def Yx(P:Option MV)(a:List R4):Prop:=∃c b,nr (C1 (.many [4,5])) iq (((qw a 3).reverse).map .d) [Y (.l 0),P,zd .none,Y (.l 7),Z,Z] (FH Yv)=Y (.nx [Y (.l 0),P,zd (.int 3),Y (.l 7),c,b] (FH (Tx a.length)))
def Ph(P:Option MV)(a b:R4):Yx P [a,b]:=by refine⟨zd (.str (zZ a.w)),zd (.int (3:Nat)),?_⟩;show nr _ _ [.d (.tuple [.str (zZ b.w),.int (4:Nat)]),.d (.tuple [.str (zZ a.w),.int (3:Nat)])] _ _=_;rw[gM (ka b 4 _ _ (by simp) (by simp) P _ _),gM (ka a 3 _ _ (by simp) (by simp) P _ _)];rfl
def Pj(P:Option MV)(a b c:R4):Yx P [a,b,c]:=by refine⟨zd (.str (zZ a.w)),zd (.int (3:Nat)),?_⟩;show nr _ _ [.d (.tuple [.str (zZ c.w),.int (5:Nat)]),.d (.tuple [.str (zZ b.w),.int (4:Nat)]),.d (.tuple [.str (zZ a.w),.int (3:Nat)])] _ _=_;rw[gM (ka c 5 _ _ (by simp) (by simp) P _ _),gM (ka b 4 _ _ (by simp) (by simp) P _ _),gM (ka a 3 _ _ (by simp) (by simp) P _ _)];rfl
def Pk(P:Option MV)(a b c d:R4):Yx P [a,b,c,d]:=by refine⟨zd (.str (zZ a.w)),zd (.int (3:Nat)),?_⟩;show nr _ _ [.d (.tuple [.str (zZ d.w),.int (6:Nat)]),.d (.tuple [.str (zZ c.w),.int (5:Nat)]),.d (.tuple [.str (zZ b.w),.int (4:Nat)]),.d (.tuple [.str (zZ a.w),.int (3:Nat)])] _ _=_;rw[gM (ka d 6 _ _ (by simp) (by simp) P _ _),gM (ka c 5 _ _ (by simp) (by simp) P _ _),gM (ka b 4 _ _ (by simp) (by simp) P _ _),gM (ka a 3 _ _ (by simp) (by simp) P _ _)];rfl
def Pm(P:Option MV)(a b c d e:R4):Yx P [a,b,c,d,e]:=by refine⟨zd (.str (zZ a.w)),zd (.int (3:Nat)),?_⟩;show nr _ _ [.d (.tuple [.str (zZ e.w),.int (7:Nat)]),.d (.tuple [.str (zZ d.w),.int (6:Nat)]),.d (.tuple [.str (zZ c.w),.int (5:Nat)]),.d (.tuple [.str (zZ b.w),.int (4:Nat)]),.d (.tuple [.str (zZ a.w),.int (3:Nat)])] _ _=_;rw[gM (ka e 7 _ _ (by simp) (by simp) P _ _),gM (ka d 6 _ _ (by simp) (by simp) P _ _),gM (ka c 5 _ _ (by simp) (by simp) P _ _),gM (ka b 4 _ _ (by simp) (by simp) P _ _),gM (ka a 3 _ _ (by simp) (by simp) P _ _)];rfl
def Sq(P:Option MV){h:List R4}(p:h.length=2\/h.length=3\/h.length=4\/h.length=5):Yx P h:=by
 have c:∀{n:Nat}{l:List R4},l.length=n+1->∃a r,l=a::r/\r.length=n:=λ{n l} e=>by
  cases l with
  |nil=>simp at e
  |cons a r=>exact⟨a,r,rfl,by simpa using e⟩
 rcases p with e|e|e|e<;>obtain⟨a,v,rfl,s⟩:=c e<;>obtain⟨b,u,rfl,j⟩:=c s
 ·cases List.eq_nil_of_length_eq_zero j;exact Ph P a b
 ·obtain⟨d,m,rfl,i⟩:=c j;cases List.eq_nil_of_length_eq_zero i;exact Pj P a b d
 ·obtain⟨d,m,rfl,i⟩:=c j;obtain⟨f,o,rfl,k⟩:=c i;cases List.eq_nil_of_length_eq_zero k;exact Pk P a b d f
 ·obtain⟨d,m,rfl,i⟩:=c j;obtain⟨f,o,rfl,k⟩:=c i;obtain⟨g,t,rfl,q⟩:=c k;cases List.eq_nil_of_length_eq_zero q;exact Pm P a b d f g
abbrev F3:MH:=[So,.mJ Zv,.mJ Yv,.mJ Yv,.lst [],.lst [],.lst []]
def Yy{a:List R4}(b:a.length=2\/a.length=3\/a.length=4\/a.length=5):jj [.l 0,.d (.list (qw a 3))] F3=Y (.d (.int 3),FH (Tx a.length)):=by
 obtain⟨x,y,h⟩:=Sq (zd (.list (qw a 3))) b;unfold jj ji;have hw:ku [Y (.l 0),zd (.list (qw a 3)),Z,Z,Z,Z] F3=Y (.rt (.d (.int 3)) (FH (Tx a.length))):=by unfold ku;refine(mQ (ρ':=[Y (.l 0),zd (.list (qw a 3)),zd .none,Z,Z,Z]) (μ':=F3) rfl).trans ?_;refine(mQ (ρ':=[Y (.l 0),zd (.list (qw a 3)),zd .none,Y (.l 7),Z,Z]) (μ':=FH Yv) rfl).trans ?_;exact(mQ h).trans rfl
 show (ku [Y (.l 0),zd (.list (qw a 3)),Z,Z,Z,Z] _).bind _=_;rw[hw];rfl
abbrev FE(n:Nat):MH:=[So,.mJ (Zv++[(.inr f9,.d (.int 3))]),.mJ (Tx n),.mJ (Tx n),.lst [],.lst [],.lst [],.lst []]
abbrev F0:MH:=[So,.mJ [],.mJ [],.mJ []]
noncomputable def Zw(n:Nat):List (eD×eD):=[(.int 0,.none),(.int 2,.none),(.int 1,.int 2)]++((List.range' 3 n).reverse).map λ(i:Nat)=>(.int (i:Int),fol (n+3) (i+1))
noncomputable def FL(n:Nat):eD:=.dict [(.none,.str "Flow"),(.str "first",.dict [(.str sf,.int 0),(.str sm,.int 1),(.str O7,.none),(.str f9,.int 3)]),(.str "behind",.dict (Zw n)),(.str "otherwise",.dict (Zw n))]
noncomputable def hd3:List MV:=[.d (.tuple [wl [zZ "func",sf,zZ "p"],.list [.tuple [.str (zZ "give"),.int 0]]]),.d (.tuple [wl [zZ "method",sa,zZ "m",zZ "p"],.list [.tuple [.str (zZ "tell"),.int 1],.tuple [.str (zZ "give"),.int 2]]]),.d (.tuple [wl [zZ "method",sb,zZ "o",zZ "p"],.list []])]
def VM(p:eD)(a:List MV):nr (C1 (.many [2,3])) jk (hd3++a) [Y (.l 0),zd p,Z,Z] F0=nr (C1 (.many [2,3])) jk a [Y (.l 0),zd p,zd (wl [zZ "method",sb,zZ "o",zZ "p"]),zd (.list [])] F3:=by kernel_rfl
section
variable {rs:List R4}{E:List r9}
def Sr(T:Mj rs)(c:rs.length=2\/rs.length=3\/rs.length=4\/rs.length=5)(k:ρ[1]?=Y (Y (jv rs E))):sW "Flow" 2 oS (zQ (bS 1)) ρ=Y (FL rs.length):=by
 have m:=Pg (E:=E) T;have o:=Yy c;unfold sW
 simp? only[k]
 have q:C4 (oJ (jx 1 kr (zQ (bS 1)))) [Y (.l 0),zd (jv rs E),Z,Z] F0=Y (hd3++[.d (.tuple [wl [f9],.list (qw rs 3)])],F0):=by
  have:oJ (jx 1 kr (zQ (bS 1))) [Z,Y (jv rs E),Z,Z]=Y [.tuple [wl [zZ "func",sf,zZ "p"],.list [.tuple [.str (zZ "give"),.int 0]]],.tuple [wl [zZ "method",sa,zZ "m",zZ "p"],.list [.tuple [.str (zZ "tell"),.int 1],.tuple [.str (zZ "give"),.int 2]]],.tuple [wl [zZ "method",sb,zZ "o",zZ "p"],.list []],.tuple [wl [f9],.list (qw rs 3)]]:=by
   simp? only[m,MK]
  unfold C4;rw[show wO [Y (.l 0),zd (jv rs E),Z,Z]=[Z,Y (jv rs E),Z,Z] from rfl,this];rfl
 have j:∀a b,((C1 (.many [2,3]) (.d (.tuple [wl [f9],.list (qw rs 3)])) [Y (.l 0),zd (jv rs E),a,b]).bind λρ=>jk ρ F3)=Y (.nx [Y (.l 0),zd (jv rs E),zd (wl [f9]),zd (.list (qw rs 3))] (FE rs.length)):=λa b=>by
  show jk [Y (.l 0),zd (jv rs E),zd (wl [f9]),zd (.list (qw rs 3))] F3=_;unfold jk;have r:gg "Flow" "join_rows" 2 jj (ew 0) (dr (ew 3) eM) [Y (.l 0),zd (jv rs E),zd (wl [f9]),zd (.list (qw rs 3))] F3=Y (.d (.int 3),FH (Tx rs.length)):=by
   unfold gg;have i:BF "Flow" "join_rows" F3 (.l 0)=true:=by kernel_rfl
   have h:ew 0 [Y (.l 0),zd (jv rs E),zd (wl [f9]),zd (.list (qw rs 3))] F3=Y (.l 0,F3):=rfl;have g:(dr (ew 3) eM) [Y (.l 0),zd (jv rs E),zd (wl [f9]),zd (.list (qw rs 3))] F3=Y ([.d (.list (qw rs 3))],F3):=rfl;simp only[h,i,g,aD,b8,ax,du,Nat.reduceAdd];exact o
  have f:=VG (mo:=g0 "Flow" "first" (ew 0)) (mk:=gm (jx 1 gu (zQ (bS 2)))) r (μ2:=FH (Tx rs.length)) (n:=1) (zK 0) (μ3:=FH (Tx rs.length)) (kd:=.d (.str f9)) (y:=.inr f9) (zK 0) rfl (kvs:=Zv) rfl (by decide);rw[vS (by intro z;simp only[ai,bC,ao,Sum.inr.injEq,bY,d4] at z;revert z;decide +kernel)] at f;exact f
 have hw:oR [Y (.l 0),zd (jv rs E),Z,Z] [.ins "Flow" []]=Y (.nx [Y (.l 0),zd (jv rs E),zd (wl [f9]),zd (.list (qw rs 3))] (FE rs.length)):=by unfold oR;refine(mQ (ρ':=[Y (.l 0),zd (jv rs E),Z,Z]) (μ':=[.ins "Flow" [("first",.l 1)],.mJ []]) (by generalize jv rs E=p;kernel_rfl)).trans ?_;refine(mQ (ρ':=[Y (.l 0),zd (jv rs E),Z,Z]) (μ':=[.ins "Flow" [("first",.l 1),("behind",.l 2)],.mJ [],.mJ []]) (by generalize jv rs E=p;kernel_rfl)).trans ?_;refine(mQ (ρ':=[Y (.l 0),zd (jv rs E),Z,Z]) (μ':=F0) (by generalize jv rs E=p;kernel_rfl)).trans ?_;unfold vu;rw[q,aD];show nr _ _ (hd3++[.d (.tuple [wl [f9],.list (qw rs 3)])]) _ F0=_;rw[VM,gM (j _ _)];rfl
 unfold oS ji;show ((oR [Y (.l 0),zd (jv rs E),Z,Z] [.ins "Flow" []]).bind _).bind _=_;rw[hw];show kB (FE rs.length) 9 (.l 0)=_;rcases c with e|e|e|e<;>rw[e]<;>kernel_rfl
end
abbrev Tz(O F:eD)(f:Int)(a:eD):List (Str×MV):=[("outline",.d O),("flow",.d F),("inputs",.d (.list [])),("used",.d (.int 0)),("fuel",.d (.int f)),("stack",.l 2),("made",.l 3),("shown_texts",.l 4),("ended",.d a)]
abbrev FG(B:eD):eD:=.dict [(.none,.str "Flow"),(.str "first",.dict [(.str sf,.int 0),(.str sm,.int 1),(.str O7,.none),(.str f9,.int 3)]),(.str "behind",B),(.str "otherwise",B)]
noncomputable def TC(O F:eD):MH:=[.ins "Machine" [("state",.l 1)],.ins "State" (Tz O F 50 .none),.lst [.l 5],.lst [],.lst [],.ins "Call" [("body",.d (.str f9)),("path",.d (.tuple [])),("row",.d (.int 3)),("named",.l 6)],.mJ []]
abbrev qc(p:eD):MR:=[zd p,zd (.list []),zd (.int 50),Y (.l 0)]
def Pn:MS:=(fe (yK (EY (gg "Machine" "step" 1 lG (ew 3) eM)) fI)
(sT (K4 (dr (gg "Machine" "told" 1 lH (ew 3) eM) (dr (kc (f6 "Machine" "end" 1 ml (bS 3) fg)) eM)))))
def VN(O F p:eD):Od:=(Pn (qc p) (TC O F)).bind λo=>match o with
 |.rt v μ'=>kB μ' 9 v
 |.nx _ _=>Y .none
 |_=>Z
def Ss(O F p:eD):(fe (hY "State" "inputs" (ew 0) (gm (jP kD (zQ (bS 2)))))
(fe (hY "State" "used" (ew 0) (gm (zI 0)))
(fe (hY "State" "fuel" (ew 0) (ew 3))
(fe (hY "State" "stack" (ew 0) pI)
(fe (hY "State" "made" (ew 0) pI)
(fe (hY "State" "shown_texts" (ew 0) pI)
(hY "State" "ended" (ew 0) (gm (dC .none))))))))) [Y (.l 1),zd p,zd (.list []),zd (.int 50)] [.ins "Machine" [],.ins "State" [("outline",.d O),("flow",.d F)]]=Y (.nx [Y (.l 1),zd p,zd (.list []),zd (.int 50)] [.ins "Machine" [],.ins "State" (Tz O F 50 .none),.lst [],.lst [],.lst []]):=by kernel_rfl
def Su(O B p:eD):(fe (hY "Machine" "state" (ew 0) (λ_ _=>Y (.l 1,[.ins "Machine" [],.ins "State" (Tz O (FG B) 50 .none),.lst [],.lst [],.lst []])))
(fe (gW (Mg 3 oT (dr (g0 "Machine" "state" (ew 0)) (dr (gm (zA "main")) (dr (gm (i9 fg)) eM)))))
(gW (Mg 1 oU (dr (g0 "Machine" "state" (ew 0)) eM))))) [Y (.l 0),zd p,zd (.list []),zd (.int 50)] [.ins "Machine" []]=Y (.nx [Y (.l 0),zd p,zd (.list []),zd (.int 50)] (TC O (FG B))):=by kernel_rfl
section
variable {rs:List R4}{E:List r9}
def Sv(T:Mj rs)(b:E.map (·.2)=L8 rs)(a:rs.length=2\/rs.length=3\/rs.length=4\/rs.length=5):jF [.l 1,.d (jv rs E),.d (.list []),.d (.int 50)] [.ins "Machine" [],.ins "State" []]=Y (.d .none,[.ins "Machine" [],.ins "State" (Tz (OL rs.length (xB rs)) (FL rs.length) 50 .none),.lst [],.lst [],.lst []]):=by
 have e:=IJ (ρ:=[Y (.l 1),zd (jv rs E),zd (.list []),zd (.int 50)]) (μ:=[.ins "Machine" [],.ins "State" []]) (Sn T b a (ρ:=[Z,Y (jv rs E),Y (.list []),Y (.int 50)]) rfl);have c:=IJ (ρ:=[Y (.l 1),zd (jv rs E),zd (.list []),zd (.int 50)]) (μ:=[.ins "Machine" [],.ins "State" [("outline",.d (OL rs.length (xB rs)))]]) (Sr T a (ρ:=[Z,Y (jv rs E),Y (.list []),Y (.int 50)]) rfl);have hw:nA [Y (.l 1),zd (jv rs E),zd (.list []),zd (.int 50)] [.ins "Machine" [],.ins "State" []]=Y (.nx [Y (.l 1),zd (jv rs E),zd (.list []),zd (.int 50)] [.ins "Machine" [],.ins "State" (Tz (OL rs.length (xB rs)) (FL rs.length) 50 .none),.lst [],.lst [],.lst []]):=by unfold nA;rw[mQ (L9 e (r:=.l 1) (μ2:=[.ins "Machine" [],.ins "State" []]) rfl (μ':=[.ins "Machine" [],.ins "State" [("outline",.d (OL rs.length (xB rs)))]]) (by generalize OL rs.length (xB rs)=o;kernel_rfl))];rw[mQ (L9 c (r:=.l 1) (μ2:=[.ins "Machine" [],.ins "State" [("outline",.d (OL rs.length (xB rs)))]]) rfl (μ':=[.ins "Machine" [],.ins "State" [("outline",.d (OL rs.length (xB rs))),("flow",.d (FL rs.length))]]) (by generalize OL rs.length (xB rs)=o;generalize FL rs.length=o';kernel_rfl))];exact Ss _ _ _
 unfold jF ji;show (nA [Y (.l 1),zd (jv rs E),zd (.list []),zd (.int 50)] _).bind _=_;rw[hw];rfl
def VO(T:Mj rs)(c:E.map (·.2)=L8 rs)(b:rs.length=2\/rs.length=3\/rs.length=4\/rs.length=5):iL [.l 0,.d (jv rs E),.d (.list []),.d (.int 50)] [.ins "Machine" []]=Y (.d .none,TC (OL rs.length (xB rs)) (FL rs.length)):=by
 have a:=Sv T c b;have e:qN "State" 4 jF (dr (ew 1) (dr (ew 2) (dr (ew 3) eM))) [Y (.l 0),zd (jv rs E),zd (.list []),zd (.int 50)] [.ins "Machine" []]=Y (.l 1,[.ins "Machine" [],.ins "State" (Tz (OL rs.length (xB rs)) (FL rs.length) 50 .none),.lst [],.lst [],.lst []]):=by unfold qN;have:(dr (ew 1) (dr (ew 2) (dr (ew 3) eM))) [Y (.l 0),zd (jv rs E),zd (.list []),zd (.int 50)] [.ins "Machine" []]=Y ([.d (jv rs E),.d (.list []),.d (.int 50)],[.ins "Machine" []]):=rfl;rw[this,aD];show (jF [.l 1,.d (jv rs E),.d (.list []),.d (.int 50)] [.ins "Machine" [],.ins "State" []]).bind _=_;rw[a];rfl
 have hw:lF [Y (.l 0),zd (jv rs E),zd (.list []),zd (.int 50)] [.ins "Machine" []]=Y (.nx [Y (.l 0),zd (jv rs E),zd (.list []),zd (.int 50)] (TC (OL rs.length (xB rs)) (FL rs.length))):=by
  refine Eq.trans ?_ (Su (OL rs.length (xB rs)) (.dict (Zw rs.length)) (jv rs E));unfold lF;have:∀(X:MS),fe (hY "Machine" "state" (ew 0) (qN "State" 4 jF (dr (ew 1) (dr (ew 2) (dr (ew 3) eM))))) X [Y (.l 0),zd (jv rs E),zd (.list []),zd (.int 50)] [.ins "Machine" []]=fe (hY "Machine" "state" (ew 0) (λ_ _=>Y (.l 1,[.ins "Machine" [],.ins "State" (Tz (OL rs.length (xB rs)) (FG (.dict (Zw rs.length))) 50 .none),.lst [],.lst [],.lst []]))) X [Y (.l 0),zd (jv rs E),zd (.list []),zd (.int 50)] [.ins "Machine" []]:=λX=>by unfold fe hY;rw[e];rfl
  exact this _
 unfold iL ji;show (lF [Y (.l 0),zd (jv rs E),zd (.list []),zd (.int 50)] _).bind _=_;rw[hw];rfl
def aaW(T:Mj rs)(c:E.map (·.2)=L8 rs)(b:rs.length=2\/rs.length=3\/rs.length=4\/rs.length=5):jX [jv rs E,.list [],.int 50]=VN (OL rs.length (xB rs)) (FL rs.length) (jv rs E):=by
 have a:=VO T c b;have e:(ju (qN "Machine" 4 iL (dr (ew 0) (dr (ew 1) (dr (ew 2) eM)))) 3) [zd (jv rs E),zd (.list []),zd (.int 50),Z] []=Y (.nx (qc (jv rs E)) (TC (OL rs.length (xB rs)) (FL rs.length))):=by
  have:qN "Machine" 4 iL (dr (ew 0) (dr (ew 1) (dr (ew 2) eM))) [zd (jv rs E),zd (.list []),zd (.int 50),Z] []=Y (.l 0,TC (OL rs.length (xB rs)) (FL rs.length)):=by unfold qN;have:(dr (ew 0) (dr (ew 1) (dr (ew 2) eM))) [zd (jv rs E),zd (.list []),zd (.int 50),Z] []=Y ([.d (jv rs E),.d (.list []),.d (.int 50)],[]):=rfl;rw[this,aD];show (iL [.l 0,.d (jv rs E),.d (.list []),.d (.int 50)] [.ins "Machine" []]).bind _=_;rw[a];rfl
  unfold ju;rw[this];rfl
 unfold jX BH sC;show (fe _ _ [zd (jv rs E),zd (.list []),zd (.int 50),Z] []).bind _=_;rw[mQ e];rfl
end
abbrev sx:Str:=zZ "x"
abbrev sy:Str:=zZ "y"
def fS:Nat->Str
 |0=>zZ "f"
 |1=>zZ "h"
 |_=>zZ "g"
def mS:Nat->Str
 |0=>zZ "m"
 |_=>zZ "n"
noncomputable def doR:Nat->R4
 |0=>.Zr sx sy
 |1=>.Zs sx sy sx
 |_=>.Zt sx sy sx sx
noncomputable def Yz(m:Str):Nat->R4
 |0=>.Sg sx sy m
 |1=>.Sh sx sy m sx
 |_=>.Si sx sy m sx sx
noncomputable def VP(k m:Str):Nat->R4
 |0=>.str0 sx sy k m
 |1=>.str1 sx sy k m sx
 |_=>.Sj sx sy k m sx sx
noncomputable def rq:Nat->Nat->Nat->Nat->R4
 |0,i,_,_=>.take sx sy (fS i)
 |1,i,_,_=>.put sy (fS i) sx
 |2,i,_,_=>.check sy (fS i)
 |3,_,_,_=>.push sy sx
 |4,_,_,_=>.pull sx sy
 |5,_,_,a=>doR a
 |6,_,j,a=>Yz (mS j) a
 |7,i,_,_=>.own sx sy (fS i)
 |8,_,_,a=>VP sa (zZ "m") a
 |9,i,_,_=>.place sy (fS i) sx
 |10,_,_,_=>.copy sx sy
 |11,_,_,_=>.give sy
 |12,_,_,_=>.rest
 |_,_,_,a=>VP sb (zZ "o") a
noncomputable def uV:Nat->List R4
 |0=>[]
 |1=>[.new sy sa]
 |2=>[.new sy sb]
 |3=>[.row sy]
 |4=>[.func sy sf]
 |5=>[.fresh sy sa]
 |_=>[.fresh sy sb]
noncomputable def Ag(r:R4)(s k:Nat):List R4:=List.replicate k .rest++(uV s++[r,.tell sx])
noncomputable def aaX:Nat->List Nat
 |5=>[4]
 |3=>[3]
 |4=>[3]
 |7=>[5,6]
 |9=>[5,6]
 |_=>[1,2]
noncomputable def Ml(b i j a s:Nat):Str :=
 if b==10||b==11||b==12 then zZ "" else if s==0 then zZ "none" else if !(aaX b).contains s then zZ "sort" else
 if [0,1,2,7,9].contains b then (if i==0||(i==1&&(s==2||s==6)) then zZ "" else zZ "field") else
 if b==6&&j != 0 then zZ "method" else if (b==5||b==6||b==8||b==13)&&a != 1 then zZ "count" else zZ ""
noncomputable def shown:Nat->Str
 |0=>zZ "none"
 |1=>sa
 |2=>sb
 |3=>zZ "row"
 |4=>sf
 |5=>sa
 |_=>sb
noncomputable def Ma(s k:Nat):Nat:=3+k+(if s==0 then 0 else 1)
noncomputable def res(b i j a s k:Nat):eD :=
 if Ml b i j a s != zZ "" then .tuple [.list [],.tuple [.str (zZ "fault"),.int (Ma s k:Nat),.str (Ml b i j a s)]] else
 if b==11 then .tuple [.list [],.tuple [.str (zZ "given"),.str (shown s)]] else
 if b==6||b==8 then .tuple [.list [.str (shown s),.str (shown s)],.tuple [.str (zZ "given"),.str (zZ "none")]] else
 .tuple [.list [.str (if b==10 then shown s else zZ "none")],.tuple [.str (zZ "given"),.str (zZ "none")]]
def Po{c:MR->MH->Option (Bool×MH)}{g:MS}{ρ ρ':MR}{μ μ' μ'':MH}(h:c ρ μ=Y (true,μ'))(e:g ρ μ'=Y (.nx ρ' μ'')):jC c g (n+1) ρ μ=jC c g n ρ' μ'':=by unfold jC;rw[h];simp only[aD,b8,e];cases n<;>rfl
abbrev mZ:MR->MH->Option (Bool×MH):=EY (gg "Machine" "step" 1 lG (ew 3) eM)
noncomputable def rwR(s k:Nat)(d:eD):eD:=.list ((([R4.give (zZ "p"),R4.tell (zZ "self"),R4.give (zZ "self")]++(List.replicate k R4.rest++uV s)).map R4.dat)++[d,(R4.tell sx).dat])
def YA(r:R4)(s k:Nat):xB (Ag r s k)=rwR s k r.dat:=by simp[xB,al,Ag,rwR,dP]
noncomputable def Wn(s k:Nat):Nat:=k+((uV s).length+2)
def Pp(r:R4)(s k:Nat):(Ag r s k).length=Wn s k:=by simp[Ag,Wn]
noncomputable def hp(O F:eD)(f:Int)(e:List MV)(a:Int)(c:List (Key×MV))(b:MH):MH:=[.ins "Machine" [("state",.l 1)],.ins "State" (Tz O F f .none),.lst [.l 5],.lst e,.lst [],.ins "Call" [("body",.d (.str f9)),("path",.d (.tuple [])),("row",.d (.int a)),("named",.l 6)],.mJ c]++b
noncomputable def Pq(j:Nat)(O F:eD):MH:=hp O F (50 - (j:Nat)) [] (3+(j:Nat)) [] []
noncomputable def Zx(k:Nat)(b:Str)(a:List (Key×MV)):MH:=[.ins "Thing" [("row",.d (.int (3+(k:Nat)))),("path",.d (.tuple [])),("form",.d (.str b)),("slots",.l 8),("members",.l 9)],.mJ a,.lst []]
abbrev yT:List (Key×MV):=[(.inr sy,.d (.tuple [.str (zZ "thing"),.int 0]))]
abbrev nF(x:String):Key×MV:=(.inr (zZ x),.d .none)
noncomputable def Wo(O F:eD)(k:Nat):Nat->MH
 |0=>Pq k O F
 |1=>hp O F (49 - (k:Nat)) [.l 7] (4+(k:Nat)) yT (Zx k "record" [nF "f"])
 |2=>hp O F (49 - (k:Nat)) [.l 7] (4+(k:Nat)) yT (Zx k "record" [nF "f",nF "h"])
 |3=>hp O F (49 - (k:Nat)) [.l 7] (4+(k:Nat)) yT (Zx k "row" [])
 |4=>hp O F (49 - (k:Nat)) [.l 7] (4+(k:Nat)) yT (Zx k "func" [])
 |5=>hp O F (49 - (k:Nat)) [] (4+(k:Nat)) [(.inr sy,.d (.tuple [.str (zZ "mark"),.str sa]))] []
 |_=>hp O F (49 - (k:Nat)) [] (4+(k:Nat)) [(.inr sy,.d (.tuple [.str (zZ "mark"),.str sb]))] []
abbrev oO(s k:Nat)(d:eD):eD:=OL (Wn s k) (rwR s k d)
abbrev fF(s k:Nat):eD:=FL (Wn s k)
def YB(p d:eD):(List.range 7).map (λs=>mZ (qc p) (Pq 0 (oO s 1 d) (fF s 1)))=(List.range 7).map λs=>Y (true,Pq 1 (oO s 1 d) (fF s 1)):=by kernel_rfl
def YC(p d:eD):(List.range 7).map (λs=>mZ (qc p) (Pq 0 (oO s 2 d) (fF s 2)))=(List.range 7).map λs=>Y (true,Pq 1 (oO s 2 d) (fF s 2)):=by kernel_rfl
def YD(p d:eD):(List.range 7).map (λs=>mZ (qc p) (Pq 1 (oO s 2 d) (fF s 2)))=(List.range 7).map λs=>Y (true,Pq 2 (oO s 2 d) (fF s 2)):=by kernel_rfl
def YE(p d:eD):(List.range 3).map (λk=>(List.range' 1 6).map λs=>mZ (qc p) (Pq k (oO s k d) (fF s k)))=(List.range 3).map λk=>(List.range' 1 6).map λs=>Y (true,Wo (oO s k d) (fF s k) k s):=by kernel_rfl
noncomputable def wN(s k:Nat):Nat:=1000000 - (k+(uV s).length)
def Pt:MS:=sT (K4 (dr (gg "Machine" "told" 1 lH (ew 3) eM) (dr (kc (f6 "Machine" "end" 1 ml (bS 3) fg)) eM)))
def qd(p:eD)(r:R4)(s k:Nat):Od:=(fe (jC mZ fI (wN s k)) Pt (qc p) (Wo (oO s k r.dat) (fF s k) k s)).bind λo=>match o with
 |.rt v μ'=>kB μ' 9 v
 |.nx _ _=>Y .none
 |_=>Z
def sk:List (Nat×Nat):=(List.range 7).flatMap λs=>(List.range 3).map λk=>(s,k)
def vT:List (Nat×Nat×Nat):=(List.range 3).flatMap λa=>sk.map λq=>(a,q)
def YF(p:eD)(j a:Nat):vT.map (λq=>qd p (rq 0 q.1 j a) q.2.1 q.2.2)=vT.map λq=>Y (res 0 q.1 j a q.2.1 q.2.2):=by kernel_rfl
def YG(p:eD)(j a:Nat):vT.map (λq=>qd p (rq 1 q.1 j a) q.2.1 q.2.2)=vT.map λq=>Y (res 1 q.1 j a q.2.1 q.2.2):=by kernel_rfl
def YH(p:eD)(j a:Nat):vT.map (λq=>qd p (rq 2 q.1 j a) q.2.1 q.2.2)=vT.map λq=>Y (res 2 q.1 j a q.2.1 q.2.2):=by kernel_rfl
def YI(p:eD)(j a:Nat):vT.map (λq=>qd p (rq 7 q.1 j a) q.2.1 q.2.2)=vT.map λq=>Y (res 7 q.1 j a q.2.1 q.2.2):=by kernel_rfl
def YJ(p:eD)(j a:Nat):vT.map (λq=>qd p (rq 9 q.1 j a) q.2.1 q.2.2)=vT.map λq=>Y (res 9 q.1 j a q.2.1 q.2.2):=by kernel_rfl
def YK(p:eD)(i j a:Nat):sk.map (λq=>qd p (rq 3 i j a) q.1 q.2)=sk.map λq=>Y (res 3 i j a q.1 q.2):=by kernel_rfl
def YL(p:eD)(i j a:Nat):sk.map (λq=>qd p (rq 4 i j a) q.1 q.2)=sk.map λq=>Y (res 4 i j a q.1 q.2):=by kernel_rfl
def VQ(p:eD)(i j a:Nat):sk.map (λq=>qd p (rq 10 i j a) q.1 q.2)=sk.map λq=>Y (res 10 i j a q.1 q.2):=by kernel_rfl
def VR(p:eD)(i j a:Nat):sk.map (λq=>qd p (rq 11 i j a) q.1 q.2)=sk.map λq=>Y (res 11 i j a q.1 q.2):=by kernel_rfl
def VS(p:eD)(i j a:Nat):sk.map (λq=>qd p (rq 12 i j a) q.1 q.2)=sk.map λq=>Y (res 12 i j a q.1 q.2):=by kernel_rfl
def YM(p:eD)(i j:Nat):vT.map (λq=>qd p (rq 5 i j q.1) q.2.1 q.2.2)=vT.map λq=>Y (res 5 i j q.1 q.2.1 q.2.2):=by kernel_rfl
def YN(p:eD)(i j:Nat):vT.map (λq=>qd p (rq 8 i j q.1) q.2.1 q.2.2)=vT.map λq=>Y (res 8 i j q.1 q.2.1 q.2.2):=by kernel_rfl
def VT(p:eD)(i j:Nat):vT.map (λq=>qd p (rq 13 i j q.1) q.2.1 q.2.2)=vT.map λq=>Y (res 13 i j q.1 q.2.1 q.2.2):=by kernel_rfl
def VU(p:eD)(i:Nat):vT.map (λq=>qd p (rq 6 i 0 q.1) q.2.1 q.2.2)=vT.map λq=>Y (res 6 i 0 q.1 q.2.1 q.2.2):=by kernel_rfl
def VW(p:eD)(i:Nat):vT.map (λq=>qd p (rq 6 i 1 q.1) q.2.1 q.2.2)=vT.map λq=>Y (res 6 i 1 q.1 q.2.1 q.2.2):=by kernel_rfl
def vU{s k:Nat}(a:s<7)(b:k<3):(s,k)∈sk:=List.mem_flatMap.mpr ⟨s,List.mem_range.mpr a,aP.mpr ⟨k,List.mem_range.mpr b,rfl⟩⟩
def Kd{a s k:Nat}(d:a<3)(b:s<7)(c:k<3):(a,s,k)∈vT:=List.mem_flatMap.mpr ⟨a,List.mem_range.mpr d,aP.mpr ⟨(s,k),vU b c,rfl⟩⟩
abbrev F6(α:Type):=Nat->Nat->Nat->Nat->Nat->Nat->α
def H3(f g:F6 α)(b:Nat):Prop:=∀(j a:Nat),vT.map (λq:Nat×Nat×Nat=>f b q.1 j a q.2.1 q.2.2)=vT.map λq:Nat×Nat×Nat=>g b q.1 j a q.2.1 q.2.2
def H0(f g:F6 α)(b:Nat):Prop:=∀(i j a:Nat),sk.map (λq:Nat×Nat=>f b i j a q.1 q.2)=sk.map λq:Nat×Nat=>g b i j a q.1 q.2
def HA(f g:F6 α)(a:Nat):Prop:=∀(i j:Nat),vT.map (λq:Nat×Nat×Nat=>f a i j q.1 q.2.1 q.2.2)=vT.map λq:Nat×Nat×Nat=>g a i j q.1 q.2.1 q.2.2
def H6(f g:F6 α)(j:Nat):Prop:=∀(i:Nat),vT.map (λq:Nat×Nat×Nat=>f 6 i j q.1 q.2.1 q.2.2)=vT.map λq:Nat×Nat×Nat=>g 6 i j q.1 q.2.1 q.2.2
def cov(f g:F6 α)
 (F:H3 f g 0)
 (E:H3 f g 1)
 (D:H3 f g 2)
 (z:H3 f g 7)
 (x:H3 f g 9)
 (C:H0 f g 3)
 (B:H0 f g 4)
 (u:H0 f g 10)
 (t:H0 f g 11)
 (r:H0 f g 12)
 (A:HA f g 5)
 (y:HA f g 8)
 (q:HA f g 13)
 (p:H6 f g 0)
 (o:H6 f g 1)
:∀(l i j a s k:Nat),l<14->i<3->j<2->a<3->s<7->k<3->f l i j a s k=g l i j a s k:=by
 intro l i j a s k h v G w m n;have b:=Kd v m n;have c:=Kd w m n;have d:=vU m n;have e:=List.mem_range.mpr h;rw[show List.range 14=[0,1,2,3,4,5,6,7,8,9,10,11,12,13] from rfl] at e;simp only[ao,bY,d4] at e;rcases e with rfl|rfl|rfl|rfl|rfl|rfl|rfl|rfl|rfl|rfl|rfl|rfl|rfl|rfl
 ·exact List.map_inj_left.mp (F j a) (i,s,k) b
 ·exact List.map_inj_left.mp (E j a) (i,s,k) b
 ·exact List.map_inj_left.mp (D j a) (i,s,k) b
 ·exact List.map_inj_left.mp (C i j a) (s,k) d
 ·exact List.map_inj_left.mp (B i j a) (s,k) d
 ·exact List.map_inj_left.mp (A i j) (a,s,k) c
 ·have e:j=0\/j=1:=by omega
  rcases e with rfl|rfl
  ·exact List.map_inj_left.mp (p i) (a,s,k) c
  ·exact List.map_inj_left.mp (o i) (a,s,k) c
 ·exact List.map_inj_left.mp (z j a) (i,s,k) b
 ·exact List.map_inj_left.mp (y i j) (a,s,k) c
 ·exact List.map_inj_left.mp (x j a) (i,s,k) b
 ·exact List.map_inj_left.mp (u i j a) (s,k) d
 ·exact List.map_inj_left.mp (t i j a) (s,k) d
 ·exact List.map_inj_left.mp (r i j a) (s,k) d
 ·exact List.map_inj_left.mp (q i j) (a,s,k) c
def Sw(p:eD):∀(b i j a s k:Nat),b<14->i<3->j<2->a<3->s<7->k<3->qd p (rq b i j a) s k=Y (res b i j a s k) :=
 cov (λb i j a s k=>qd p (rq b i j a) s k) (λb i j a s k=>Y (res b i j a s k)) (YF p) (YG p) (YH p) (YI p) (YJ p) (YK p) (YL p) (VQ p) (VR p) (VS p) (YM p) (YN p) (VT p) (VU p) (VW p)
def VX(b i j a s:Nat):Od:=p4 [wl (rq b i j a).ws,.int (s:Nat),.str (fS i),.str (mS j),.int (a:Nat)]
def Sx:∀(b i j a s k:Nat),b<14->i<3->j<2->a<3->s<7->k<3->VX b i j a s=Y (.str (Ml b i j a s)) :=
 λb i j a s k h f e g c d=>cov (λb i j a s _=>VX b i j a s) (λb i j a s _=>Y (.str (Ml b i j a s)))
 (λj a=>by kernel_rfl) (λj a=>by kernel_rfl) (λj a=>by kernel_rfl) (λj a=>by kernel_rfl) (λj a=>by kernel_rfl) (λi j a=>by kernel_rfl) (λi j a=>by kernel_rfl) (λi j a=>by kernel_rfl) (λi j a=>by kernel_rfl) (λi j a=>by kernel_rfl) (λi j=>by kernel_rfl) (λi j=>by kernel_rfl) (λi j=>by kernel_rfl) (λi=>by kernel_rfl) (λi=>by kernel_rfl) b i j a s k h f e g c d
def aaY(i j:Nat):(List.range 14).map (λfo=>(List.range 3).map λa=>pL [.int (fo:Nat),.str (fS i),.str (mS j),.int (a:Nat)])=(List.range 14).map λfo=>(List.range 3).map λa=>Y (wl (rq fo i j a).ws):=by kernel_rfl
def VY{b a:Nat}(i j:Nat)(c:b<14)(d:a<3):pL [.int (b:Nat),.str (fS i),.str (mS j),.int (a:Nat)]=Y (wl (rq b i j a).ws) :=
 List.map_inj_left.mp (List.map_inj_left.mp (aaY i j) b (List.mem_range.mpr c)) a (List.mem_range.mpr d)
def YO{i j:Int}(h:0<j):rM (.int i) (.int j)=Y (.int (i % j)):=by simp[rM,dI,h]
def aaZ{i j:Int}(h:0<j)(a:j<1073741824):tN (.int i) (.int j)=Y (.int (i / j)):=by simp[tN,dI,h,a]
def B8(c:Int)(n:Nat)(h:0<n):∃i:Nat,i<n/\c % (n:Int)=(i:Int):=by have d:=Int.emod_nonneg c (b:=(n:Int)) (by omega);have a:=Int.emod_lt_of_pos c (b:=(n:Int)) (by omega);exact⟨(c % (n:Int)).toNat,by omega,by omega⟩
def Mb:eD:=.list [.str "kind ka fields f",.str "kind kb of ka fields h"]
noncomputable def Mm:eD:=.list [.str "func fa p",.str "give p",.str "end",.str "method ka m p",.str "tell self",.str "give self",.str "end",.str "method kb o p",.str "end"]
def Sy(s k:Nat):Lp:=(List.replicate k R4.rest++uV s).map λr=>.str (ln r.ws)
def Sz(r:R4)(s k:Nat):eD:=.list (Sy s k++[.str (ln r.ws)])
def IK(k:Nat):eD:=.list (List.replicate k (.str "rest"))
def jOf:Nat->Nat
 |2=>1
 |_=>0
def aOf:Nat->Nat
 |1=>0
 |3=>2
 |_=>1
def TF:c7->Option gk :=
(eJ (iY (fB (d2 v5 (bS 12) (zA "")))
(fC (d2 jN (bS 15) (i9 (eK (fN fg) (zQ (i9 (zC "fault" (eK (bS 14) (zQ (bS 12))))))))))
fY)
(eJ (iY (fB (d2 jN (zX (bS 6) (zI 0)) (zA "give")))
(fC (d2 jN (bS 15) (i9 (eK (fN fg) (zQ (i9 (zC "given" (zQ (bS 13)))))))))
fY)
(eJ (iY (Cy (fB (d2 jN (zX (bS 6) (zI 0)) (zA "ask"))) (nT (fB (d2 jN (zX (bS 6) (zI 0)) (zA "straight"))) (fB (d2 jN (zX (bS 6) (zI 4)) (zA "m")))))
(fC (d2 jN (bS 15) (i9 (eK (fN (eK (bS 13) (zQ (bS 13)))) (zQ (i9 (zC "given" (zC "none" fg))))))))
fY)
(fC (d2 jN (bS 15) (i9 (eK (fN (zQ (zX (fN (eK (bS 13) (zC "none" fg))) (jP yE (zQ (d2 v5 (zX (bS 6) (zI 0)) (zA "copy"))))))) (zQ (i9 (zC "given" (zC "none" fg)))))))))))
def VZ(p o n m l h g f e d c:Od):∀(b i j a s k:Nat),b<14->i<3->j<2->a<3->s<7->k<3->TF [p,o,n,m,l,h,Y (wl (rq b i j a).ws),g,f,e,d,c,Y (.str (Ml b i j a s)),Y (.str (shown s)),Y (.int (Ma s k:Nat)),Y (res b i j a s k)]=Y (.rt (.bool true)) :=
 cov (λb i j a s k=>TF [p,o,n,m,l,h,Y (wl (rq b i j a).ws),g,f,e,d,c,Y (.str (Ml b i j a s)),Y (.str (shown s)),Y (.int (Ma s k:Nat)),Y (res b i j a s k)]) (λ_ _ _ _ _ _=>Y (.rt (.bool true)))
 (λj a=>by kernel_rfl) (λj a=>by kernel_rfl) (λj a=>by kernel_rfl) (λj a=>by kernel_rfl) (λj a=>by kernel_rfl) (λi j a=>by kernel_rfl) (λi j a=>by kernel_rfl) (λi j a=>by kernel_rfl) (λi j a=>by kernel_rfl) (λi j a=>by kernel_rfl) (λi j=>by kernel_rfl) (λi j=>by kernel_rfl) (λi j=>by kernel_rfl) (λi=>by kernel_rfl) (λi=>by kernel_rfl)
def mkL(n m l k j i h g f e d c b a:Od):sk.map (λq:Nat×Nat=>(d2 i5 (bS 7) (jx 1 nH (zQ (bS 1)))) [n,Y (.int (q.1:Nat)),m,l,k,j,i,Y (IK q.2),h,g,f,e,d,c,b,a])=sk.map λq:Nat×Nat=>Y (eD.list (Sy q.1 q.2)):=by kernel_rfl
def roL(w:Str):sk.map (λq:Nat×Nat=>i5 (.list (Sy q.1 q.2)) (.list [.str w]))=sk.map λq:Nat×Nat=>Y (eD.list (Sy q.1 q.2++[.str w])):=by kernel_rfl
def liL(r:R4)(m l k j i h g f e d c b a:Od):sk.map (λq:Nat×Nat=>(d2 i5 (d2 i5 (d2 i5 (d2 i5 (bS 8) (bS 9)) (fN (zC "main" fg))) (bS 10)) (fN (zC "tell x" (zC "end" fg)))) [m,l,k,j,i,h,g,f,Y Mb,Y Mm,Y (Sz r q.1 q.2),e,d,c,b,a])=sk.map λq:Nat×Nat=>Y (wl ((iO (Ag r q.1 q.2)).map ln)):=by kernel_rfl
def shL(o n m l k j i h g f e d c b a:Od):(List.range 7).map (λs=>(zX (fN (zC "none" (zC "ka" (zC "kb" (zC "row" (zC "fa" (zC "ka" (zC "kb" fg)))))))) (bS 1)) [o,Y (.int (s:Nat)),n,m,l,k,j,i,h,g,f,e,d,c,b,a])=(List.range 7).map λs=>Y (eD.str (shown s)):=by kernel_rfl
def nuL(r:R4)(o n m l k j i h g f e d c b a:Od):sk.map (λq:Nat×Nat=>(d2 Kz (d2 i5 (zI 3) (zN (bS 10))) (zI 1)) [o,n,m,l,k,j,i,h,g,f,Y (Sz r q.1 q.2),e,d,c,b,a])=sk.map λq:Nat×Nat=>Y (eD.int (Ma q.1 q.2:Nat)):=by kernel_rfl
def Gq:∀i:Nat,sE (fS i)=true
 |0=>by decide +kernel
 |1=>by decide +kernel
 |_+2=>by show sE (zZ "g")=true;decide +kernel
def Pu:∀i:Nat,sE (mS i)=true
 |0=>by decide +kernel
 |_+1=>by show sE (zZ "n")=true;decide +kernel
def nx:sE sx=true:=by decide +kernel
def ny:sE sy=true:=by decide +kernel
def na:sE sa=true:=by decide +kernel
def nb:sE sb=true:=by decide +kernel
def nf:sE sf=true:=by decide +kernel
def nm':sE (zZ "m")=true:=by decide +kernel
def no':sE (zZ "o")=true:=by decide +kernel
def n0:∀w∈([]:Lr),sE w=true:=aJ _
def nC{a:Str}{l:Lr}(h:sE a=true)(b:∀w∈l,sE w=true):∀w∈a::l,sE w=true:=ae.mpr ⟨h,b⟩
def YP:∀a:Nat,(doR a).Ok
 |0=>⟨nC nx (nC ny n0),.Zq (hs:=[]) (by simp)⟩
 |1=>⟨nC nx (nC ny (nC nx n0)),.Zq (hs:=[sx]) (by simp)⟩
 |_+2=>⟨nC nx (nC ny (nC nx (nC nx n0))),.Zq (hs:=[sx,sx]) (by simp)⟩
def Wa(j:Nat):∀a:Nat,(Yz (mS j) a).Ok
 |0=>⟨nC nx (nC ny (nC (Pu j) n0)),.ask (hs:=[]) (by simp)⟩
 |1=>⟨nC nx (nC ny (nC (Pu j) (nC nx n0))),.ask (hs:=[sx]) (by simp)⟩
 |_+2=>⟨nC nx (nC ny (nC (Pu j) (nC nx (nC nx n0)))),.ask (hs:=[sx,sx]) (by simp)⟩
def Pw{k m:Str}(c:sE k=true)(b:sE m=true)(e:k∈D3)(d:(k,m)∈D4):∀a:Nat,(VP k m a).Ok
 |0=>⟨nC nx (nC ny (nC c (nC b n0))),.uT (hs:=[]) (by simp) e d⟩
 |1=>⟨nC nx (nC ny (nC c (nC b (nC nx n0)))),.uT (hs:=[sx]) (by simp) e d⟩
 |_+2=>⟨nC nx (nC ny (nC c (nC b (nC nx (nC nx n0))))),.uT (hs:=[sx,sx]) (by simp) e d⟩
def TH(b i j a:Nat)(h:b<14):(rq b i j a).Ok:=by
 have e:=List.mem_range.mpr h;rw[show List.range 14=[0,1,2,3,4,5,6,7,8,9,10,11,12,13] from rfl] at e;simp only[ao,bY,d4] at e;rcases e with rfl|rfl|rfl|rfl|rfl|rfl|rfl|rfl|rfl|rfl|rfl|rfl|rfl|rfl
 ·exact⟨nC nx (nC ny (nC (Gq i) n0)),.take⟩
 ·exact⟨nC ny (nC (Gq i) (nC nx n0)),.put⟩
 ·exact⟨nC ny (nC (Gq i) n0),.check⟩
 ·exact⟨nC ny (nC nx n0),.push⟩
 ·exact⟨nC nx (nC ny n0),.pull⟩
 ·exact YP a
 ·exact Wa j a
 ·exact⟨nC nx (nC ny (nC (Gq i) n0)),.own⟩
 ·exact Pw na nm' (by simp) (by simp) a
 ·exact⟨nC ny (nC (Gq i) (nC nx n0)),.place⟩
 ·exact⟨nC nx (nC ny n0),.copy⟩
 ·exact⟨nC ny n0,.give⟩
 ·exact⟨n0,.rest⟩
 ·exact Pw nb no' (by simp) (by simp) a
def YQ:∀s:Nat,∀r∈uV s,r.Ok
 |0=>by intro r h;simp[uV] at h
 |1=>by intro r h;simp[uV] at h;subst h;exact⟨nC ny (nC na n0),.new (by simp)⟩
 |2=>by intro r h;simp[uV] at h;subst h;exact⟨nC ny (nC nb n0),.new (by simp)⟩
 |3=>by intro r h;simp[uV] at h;subst h;exact⟨nC ny n0,.row⟩
 |4=>by intro r h;simp[uV] at h;subst h;exact⟨nC ny (nC nf n0),.func (hs:=[]) (by simp) (by simp)⟩
 |5=>by intro r h;simp[uV] at h;subst h;exact⟨nC ny (nC na n0),.fresh (by simp)⟩
 |_+6=>by intro r h;simp[uV] at h;subst h;exact⟨nC ny (nC nb n0),.fresh (by simp)⟩
def IL:∀s:Nat,(uV s).length=if s=0 then 0 else 1
 |0=>rfl
 |1=>rfl
 |2=>rfl
 |3=>rfl
 |4=>rfl
 |5=>rfl
 |_+6=>rfl
def aa0{r:R4}(b:r.Ok){s k:Nat}(c:k<3):Mj (Ag r s k) where
 ok:=λq a=>by
  unfold Ag at a;rcases aR.mp a with h|h
  ·rw[(List.mem_replicate.mp h).2];exact⟨n0,.rest⟩
  ·rcases aR.mp h with h|h
   ·exact YQ s q h
   ·simp at h;rcases h with rfl|rfl
    ·exact b
    ·exact⟨nC nx n0,.tell⟩
 lr:=by rw[Pp,Wn,IL];split<;>omega
def YR(r:R4){s k:Nat}(a:k<3):(Ag r s k).length=2\/(Ag r s k).length=3\/(Ag r s k).length=4\/(Ag r s k).length=5:=by rw[Pp,Wn,IL];split<;>omega
def Zy{p:eD}{μ μ':MH}(h:mZ (qc p) μ=Y (true,μ')):jC mZ fI (n+1) (qc p) μ=jC mZ fI n (qc p) μ':=Po h rfl
def stK(p d:eD){s k:Nat}(a:s<7)(b:k<3):jC mZ fI 1000000 (qc p) (Pq 0 (oO s k d) (fF s k))=jC mZ fI (1000000 - k) (qc p) (Pq k (oO s k d) (fF s k)):=by
 have m:=List.mem_range.mpr a
 match k,b with
 |0,_=>rfl
 |1,_=>exact Zy (n:=999999) (List.map_inj_left.mp (YB p d) s m)
 |2,_=>exact(Zy (n:=999999) (List.map_inj_left.mp (YC p d) s m)).trans (Zy (n:=999998) (List.map_inj_left.mp (YD p d) s m))
def stS(p d:eD){s k:Nat}(b:s<7)(a:k<3):jC mZ fI (1000000 - k) (qc p) (Pq k (oO s k d) (fF s k))=jC mZ fI (wN s k) (qc p) (Wo (oO s k d) (fF s k) k s):=by
 by_cases h:s=0
 ·subst h;rfl
 ·have e:1000000 - k=wN s k+1:=by unfold wN;rw[IL,aj h];omega
  rw[e];exact Zy (List.map_inj_left.mp (List.map_inj_left.mp (YE p d) k (List.mem_range.mpr a)) s (List.mem_range'_1.mpr (by omega)))
def Wb(p:eD)(r:R4){s k:Nat}(hs:s<7)(hk:k<3):VN (OL (Ag r s k).length (xB (Ag r s k))) (FL (Ag r s k).length) p=qd p r s k:=by
 rw[Pp,YA];have e:yK mZ fI (qc p) (TC (oO s k r.dat) (fF s k))=jC mZ fI (wN s k) (qc p) (Wo (oO s k r.dat) (fF s k) k s):=(stK p r.dat hs hk).trans (stS p r.dat hs hk);have e2:Pn (qc p) (TC (oO s k r.dat) (fF s k))=fe (jC mZ fI (wN s k)) Pt (qc p) (Wo (oO s k r.dat) (fF s k) k s):=by
  unfold Pn fe;rw[e]
  all_goals rfl
 unfold VN qd;rw[e2]
 all_goals (generalize fe (jC mZ fI (wN s k)) Pt (qc p) (Wo (oO s k r.dat) (fF s k) k s)=z;rfl)
def Py{b j a s k:Nat}(e:b<14)(m:i<3)(l:j<2)(n:a<3)(d:s<7)(c:k<3)(h:ρ[11]?=Y (Y (wl ((iO (Ag (rq b i j a) s k)).map ln)))):jx 3 jX (eK (jx 1 iM (zQ (yy qf (zA "\n") (zQ (bS 11))))) (eK (fN fg) (zQ (zI 50)))) ρ=Y (res b i j a s k):=by
 have T:=aa0 (TH b i j a e) (s:=s) c;have g:=YR (rq b i j a) (s:=s) c;obtain⟨E,p,o⟩:=Ys T;have f:=aaW T p g;rw[Wb _ _ d c,Sw _ b i j a s k e m l n d c] at f;have r:=T.lr;have q:=RL (J5 T) (by rw[Af];omega)
 simp? only[h,q,o,f]
def ixF:∀{i:Nat},i<3->pY (.list [.str "f",.str "h",.str "g"]) (zi i)=Y (.str (fS i))
 |0,_=>by kernel_rfl
 |1,_=>by kernel_rfl
 |2,_=>by kernel_rfl
def Zc:∀{i:Nat},i<3->pY (.list [.str "m",.str "m",.str "n"]) (zi i)=Y (.str (mS (jOf i)))
 |0,_=>by kernel_rfl
 |1,_=>by kernel_rfl
 |2,_=>by kernel_rfl
def iZ:∀{i:Nat},i<4->pY (.list [.int 1,.int 0,.int 1,.int 2]) (zi i)=Y (zi (aOf i:Nat))
 |0,_=>by kernel_rfl
 |1,_=>by kernel_rfl
 |2,_=>by kernel_rfl
 |3,_=>by kernel_rfl
def aa1:∀{i:Nat},i<3->K0 (.list [.str "rest"]) (zi i)=Y (IK i)
 |0,_=>by kernel_rfl
 |1,_=>by kernel_rfl
 |2,_=>by kernel_rfl
def Wc:∀{i:Nat},i<3->jOf i<2
 |0,_=>by decide
 |1,_=>by decide
 |2,_=>by decide
def Wd:∀{i:Nat},i<4->aOf i<3
 |0,_=>by decide
 |1,_=>by decide
 |2,_=>by decide
 |3,_=>by decide
def dm(c:Int)(a b:Int)(f:0<a)(d:a<1073741824)(e:0<b)(h:ρ[0]?=Y (Y (.int c))):(d2 rM (d2 tN (bS 0) (zI a)) (zI b)) ρ=Y (.int (c / a % b)):=by
 have j:=aaZ (i:=c) f d;have g:=YO (i:=c / a) e
 simp? only[h,j,g]
def Pz(c:Int):o2 [.int c]=Y (.bool true):=by
 obtain⟨s,hs,e1⟩:=B8 c 7 (by decide);obtain⟨fo,hf,e2⟩:=B8 (c / 7) 14 (by decide);obtain⟨i,hi,e3⟩:=B8 (c / 98) 3 (by decide);obtain⟨mi,hm,e4⟩:=B8 (c / 294) 3 (by decide);obtain⟨ma,hma,e5⟩:=B8 (c / 882) 4 (by decide);obtain⟨k,hk,e6⟩:=B8 (c / 3528) 3 (by decide);have hj:=Wc hm;have ha:=Wd hma;have xF:=ixF hi;have xM:=Zc hm;have xA:=iZ hma;have xR:=aa1 hk;have m7:=YO (i:=c) (j:=7) (by decide);generalize jOf mi=j at *;generalize aOf ma=a at *;have hR:=VY i j hf ha;have hW:=Sx fo i j a s k hf hi hj ha hs hk;have hg:=(TH fo i j a hf).gr;have hJ:qf (.str (zZ " ")) [wl (rq fo i j a).ws]=Y (.str (ln (rq fo i j a).ws)):=by
  have e0:zZ " "=⟨#[32]⟩:=by decide +kernel
  rw[e0];exact OF 32 _ (B:=8) (λw hw=>(zU.mp (hg.2.1 w hw)).2.1) (by have:=hg.2.2;omega)
 have t1:(d2 rM (bS 0) (zI 7)) [Y (.int c),Z,Z,Z,Z,Z,Z,Z,Z,Z,Z,Z,Z,Z,Z,Z]=Y (.int (s:Nat)):=by
  simp? only[m7];rw[show c % 7=(s:Int) from e1]
 have t2:(d2 rM (d2 tN (bS 0) (zI 7)) (zI 14)) [Y (.int c),Y (.int (s:Nat)),Z,Z,Z,Z,Z,Z,Z,Z,Z,Z,Z,Z,Z,Z]=Y (.int (fo:Nat)):=by exact(dm c 7 14 (by decide) (by decide) (by decide) rfl).trans (by rw[show c / 7 % 14=(fo:Int) from e2])
 have t3:(zX (fN (zC "f" (zC "h" (zC "g" fg)))) (d2 rM (d2 tN (bS 0) (zI 98)) (zI 3))) [Y (.int c),Y (.int (s:Nat)),Y (.int (fo:Nat)),Z,Z,Z,Z,Z,Z,Z,Z,Z,Z,Z,Z,Z]=Y (.str (fS i)):=by rw[F4,dm c 98 3 (by decide) (by decide) (by decide) rfl,show c / 98 % 3=(i:Int) from e3];exact xF
 have t4:(zX (fN (zC "m" (zC "m" (zC "n" fg)))) (d2 rM (d2 tN (bS 0) (zI 294)) (zI 3))) [Y (.int c),Y (.int (s:Nat)),Y (.int (fo:Nat)),Y (.str (fS i)),Z,Z,Z,Z,Z,Z,Z,Z,Z,Z,Z,Z]=Y (.str (mS j)):=by rw[F4,dm c 294 3 (by decide) (by decide) (by decide) rfl,show c / 294 % 3=(mi:Int) from e4];exact xM
 have t5:(zX (fN (eK (zI 1) (eK (zI 0) (eK (zI 1) (zQ (zI 2)))))) (d2 rM (d2 tN (bS 0) (zI 882)) (zI 4))) [Y (.int c),Y (.int (s:Nat)),Y (.int (fo:Nat)),Y (.str (fS i)),Y (.str (mS j)),Z,Z,Z,Z,Z,Z,Z,Z,Z,Z,Z]=Y (.int (a:Nat)):=by rw[F4,dm c 882 4 (by decide) (by decide) (by decide) rfl,show c / 882 % 4=(ma:Int) from e5];exact xA
 have t6:(jx 4 pL (eK (bS 2) (eK (bS 3) (eK (bS 4) (zQ (bS 5)))))) [Y (.int c),Y (.int (s:Nat)),Y (.int (fo:Nat)),Y (.str (fS i)),Y (.str (mS j)),Y (.int (a:Nat)),Z,Z,Z,Z,Z,Z,Z,Z,Z,Z]=Y (wl (rq fo i j a).ws):=by
  simp? only[hR]
 have t7:(d2 K0 (fN (zC "rest" fg)) (d2 rM (d2 tN (bS 0) (zI 3528)) (zI 3))) [Y (.int c),Y (.int (s:Nat)),Y (.int (fo:Nat)),Y (.str (fS i)),Y (.str (mS j)),Y (.int (a:Nat)),Y (wl (rq fo i j a).ws),Z,Z,Z,Z,Z,Z,Z,Z,Z]=Y (IK k):=by rw[F4,dm c 3528 3 (by decide) (by decide) (by decide) rfl,show c / 3528 % 3=(k:Int) from e6];exact xR
 have t8:(fN (zC "kind ka fields f" (zC "kind kb of ka fields h" fg))) [Y (.int c),Y (.int (s:Nat)),Y (.int (fo:Nat)),Y (.str (fS i)),Y (.str (mS j)),Y (.int (a:Nat)),Y (wl (rq fo i j a).ws),Y (IK k),Z,Z,Z,Z,Z,Z,Z,Z]=Y (Mb):=by rfl
 have t9:(fN (zC "func fa p" (zC "give p" (zC "end" (zC "method ka m p" (zC "tell self" (zC "give self" (zC "end" (zC "method kb o p" (zC "end" fg)))))))))) [Y (.int c),Y (.int (s:Nat)),Y (.int (fo:Nat)),Y (.str (fS i)),Y (.str (mS j)),Y (.int (a:Nat)),Y (wl (rq fo i j a).ws),Y (IK k),Y (Mb),Z,Z,Z,Z,Z,Z,Z]=Y (Mm):=by rfl
 have Zh:(d2 i5 (d2 i5 (bS 7) (jx 1 nH (zQ (bS 1)))) (fN (zQ (yy qf (zA " ") (zQ (bS 6)))))) [Y (.int c),Y (.int (s:Nat)),Y (.int (fo:Nat)),Y (.str (fS i)),Y (.str (mS j)),Y (.int (a:Nat)),Y (wl (rq fo i j a).ws),Y (IK k),Y (Mb),Y (Mm),Z,Z,Z,Z,Z,Z]=Y (Sz (rq fo i j a) s k):=by
  have b1:=List.map_inj_left.mp (mkL (Y (.int c)) (Y (.int (fo:Nat))) (Y (.str (fS i))) (Y (.str (mS j))) (Y (.int (a:Nat))) (Y (wl (rq fo i j a).ws)) (Y (Mb)) (Y (Mm)) (Z) (Z) (Z) (Z) (Z) (Z)) (s,k) (vU hs hk);have b2:fN (zQ (yy qf (zA " ") (zQ (bS 6)))) [Y (.int c),Y (.int (s:Nat)),Y (.int (fo:Nat)),Y (.str (fS i)),Y (.str (mS j)),Y (.int (a:Nat)),Y (wl (rq fo i j a).ws),Y (IK k),Y (Mb),Y (Mm),Z,Z,Z,Z,Z,Z]=Y (.list [.str (ln (rq fo i j a).ws)]):=by simp? only[hJ]
  rw[F4,b1,b2];exact List.map_inj_left.mp (roL (ln (rq fo i j a).ws)) (s,k) (vU hs hk)
 have Zi:(d2 i5 (d2 i5 (d2 i5 (d2 i5 (bS 8) (bS 9)) (fN (zC "main" fg))) (bS 10)) (fN (zC "tell x" (zC "end" fg)))) [Y (.int c),Y (.int (s:Nat)),Y (.int (fo:Nat)),Y (.str (fS i)),Y (.str (mS j)),Y (.int (a:Nat)),Y (wl (rq fo i j a).ws),Y (IK k),Y (Mb),Y (Mm),Y (Sz (rq fo i j a) s k),Z,Z,Z,Z,Z]=Y (wl ((iO (Ag (rq fo i j a) s k)).map ln)):=by exact List.map_inj_left.mp (liL (rq fo i j a) (Y (.int c)) (Y (.int (s:Nat))) (Y (.int (fo:Nat))) (Y (.str (fS i))) (Y (.str (mS j))) (Y (.int (a:Nat))) (Y (wl (rq fo i j a).ws)) (Y (IK k)) (Z) (Z) (Z) (Z) (Z)) (s,k) (vU hs hk)
 have Zj:(jx 5 p4 (eK (bS 6) (eK (bS 1) (eK (bS 3) (eK (bS 4) (zQ (bS 5))))))) [Y (.int c),Y (.int (s:Nat)),Y (.int (fo:Nat)),Y (.str (fS i)),Y (.str (mS j)),Y (.int (a:Nat)),Y (wl (rq fo i j a).ws),Y (IK k),Y (Mb),Y (Mm),Y (Sz (rq fo i j a) s k),Y (wl ((iO (Ag (rq fo i j a) s k)).map ln)),Z,Z,Z,Z]=Y (.str (Ml fo i j a s)):=by unfold VX at hW;simp? only[hW]
 have Zk:(zX (fN (zC "none" (zC "ka" (zC "kb" (zC "row" (zC "fa" (zC "ka" (zC "kb" fg)))))))) (bS 1)) [Y (.int c),Y (.int (s:Nat)),Y (.int (fo:Nat)),Y (.str (fS i)),Y (.str (mS j)),Y (.int (a:Nat)),Y (wl (rq fo i j a).ws),Y (IK k),Y (Mb),Y (Mm),Y (Sz (rq fo i j a) s k),Y (wl ((iO (Ag (rq fo i j a) s k)).map ln)),Y (.str (Ml fo i j a s)),Z,Z,Z]=Y (.str (shown s)):=by exact List.map_inj_left.mp (shL (Y (.int c)) (Y (.int (fo:Nat))) (Y (.str (fS i))) (Y (.str (mS j))) (Y (.int (a:Nat))) (Y (wl (rq fo i j a).ws)) (Y (IK k)) (Y (Mb)) (Y (Mm)) (Y (Sz (rq fo i j a) s k)) (Y (wl ((iO (Ag (rq fo i j a) s k)).map ln))) (Y (.str (Ml fo i j a s))) (Z) (Z) (Z)) s (List.mem_range.mpr hs)
 have Zl:(d2 Kz (d2 i5 (zI 3) (zN (bS 10))) (zI 1)) [Y (.int c),Y (.int (s:Nat)),Y (.int (fo:Nat)),Y (.str (fS i)),Y (.str (mS j)),Y (.int (a:Nat)),Y (wl (rq fo i j a).ws),Y (IK k),Y (Mb),Y (Mm),Y (Sz (rq fo i j a) s k),Y (wl ((iO (Ag (rq fo i j a) s k)).map ln)),Y (.str (Ml fo i j a s)),Y (.str (shown s)),Z,Z]=Y (.int (Ma s k:Nat)):=by exact List.map_inj_left.mp (nuL (rq fo i j a) (Y (.int c)) (Y (.int (s:Nat))) (Y (.int (fo:Nat))) (Y (.str (fS i))) (Y (.str (mS j))) (Y (.int (a:Nat))) (Y (wl (rq fo i j a).ws)) (Y (IK k)) (Y (Mb)) (Y (Mm)) (Y (wl ((iO (Ag (rq fo i j a) s k)).map ln))) (Y (.str (Ml fo i j a s))) (Y (.str (shown s))) (Z) (Z)) (s,k) (vU hs hk)
 have Zm:(jx 3 jX (eK (jx 1 iM (zQ (yy qf (zA "\n") (zQ (bS 11))))) (eK (fN fg) (zQ (zI 50))))) [Y (.int c),Y (.int (s:Nat)),Y (.int (fo:Nat)),Y (.str (fS i)),Y (.str (mS j)),Y (.int (a:Nat)),Y (wl (rq fo i j a).ws),Y (IK k),Y (Mb),Y (Mm),Y (Sz (rq fo i j a) s k),Y (wl ((iO (Ag (rq fo i j a) s k)).map ln)),Y (.str (Ml fo i j a s)),Y (.str (shown s)),Y (.int (Ma s k:Nat)),Z]=Y (res fo i j a s k):=by exact Py hf hi hj ha hs hk rfl
 rw[o2,OD];show F7 (qY [Y (.int c),Z,Z,Z,Z,Z,Z,Z,Z,Z,Z,Z,Z,Z,Z,Z])=_;unfold qY;rw[kh (jK t1) rfl,kh (jK t2) rfl,kh (jK t3) rfl,kh (jK t4) rfl,kh (jK t5) rfl,kh (jK t6) rfl,kh (jK t7) rfl,kh (jK t8) rfl,kh (jK t9) rfl,kh (jK Zh) rfl,kh (jK Zi) rfl,kh (jK Zj) rfl,kh (jK Zk) rfl,kh (jK Zl) rfl,kh (jK Zm) rfl];exact(bw F7 (VZ _ _ _ _ _ _ _ _ _ _ _ fo i j a s k hf hi hj ha hs hk)).trans rfl
def SA(l:List α)(k:Nat)(c:l.length<=k):rN l Z (Y (k:Int))=l:=by
 unfold rN;have b:HT.ki l.length 0 Z=0:=rfl;have a:HT.ki l.length l.length (Y (k:Int))=l.length:=by rw[F9,aj (by omega),cV,Nat.min_eq_right (by omega)]
 rw[b,a];simp
theorem Gr:∀l:List Int,lS uF om [] (l.map .int)=Y (l.map λ_=>.bool true)
 |[]=>rfl
 |c::l=>by
  have a:=Gr l;have e:om [Y (.int c)]=Y (.bool true):=by
   have:=Pz c
   simp? only[om,this]
  rw[ai,lS,a];show (Option.bind (Y true) λb=>if b=true then (om [Y (.int c)]).bind _ else _)=_;rw[e];rfl
def PC:∀a:List Int,a.length<=63->(∀x∈a,Cw x=true)->JM [.list (a.map .int)]=Y (.bool true):=by
 intro a c _;have h:(j3 (bS 0) kJ (kK (zI 63))) [Y (.list (a.map .int))]=Y (.list (a.map .int)):=by
  have:=SA (a.map eD.int) 63 (by simpa using c)
  simp? only[slL]
  rw[show ((63:Int))=((63:Nat):Int) from rfl,this]
 have g:(d2 i5 (fN (zQ (zI 0))) (j3 (bS 0) kJ (kK (zI 63)))) [Y (.list (a.map .int))]=Y (.list ((0::a).map .int)):=by rw[F4,h];show (if [eD.int 0].length+(a.map eD.int).length<=sizeLine then Y (eD.list ([.int 0]++a.map .int)) else Z)=_;rw[ag (by rw[sizeLine_eq];simp;omega)];rfl
 have f:=Gr (0::a);have e:=z9 (0::a);have b:((0::a).map eD.int).length<=16777216:=by simp;omega
 have d:lu (wJ (d2 i5 (fN (zQ (zI 0))) (j3 (bS 0) kJ (kK (zI 63))))) [] uF om [Y (.list (a.map .int))]=Y (.list ((0::a).map λ_=>.bool true)):=by rw[DO,Ov,g];show (if ((0::a).map eD.int).length<=sizeLine then (lS uF om [] ((0::a).map .int)).map eD.list else Z)=_;rw[ag (by rw[sizeLine_eq];exact b),f];rfl
 generalize i:((0::a).map λ_=>eD.bool true)=L at *
 simp? only[JM,Te,d,e]
end K10
namespace PySem.W.Fast
def tw10228641863895633954:=0
def tw16458275080325255698:=0
def tw11178501844029149128:=0
def tw4019756366059682299:=0
def tw12877617892172365369:=0
def tw6313036022915120374:=0
def tw3456952783572456816:=0
def tw12866426459029905442:=0
def tw10179393453988515991:=0
def tw13951943198062698984:=0
def tw9936762216808576296:=0
def tw17035460088809881013:=0
def tw15243208451898137326:=0
def tw3536119122330870483:=0
def tw1626102181960562214:=0
def tw10041024507192067529:=0
def tw13405549621664538340:=0
def tw7604939484231072943:=0
def tw13788762116794442203:=0
def tw10584054067566554728:=0
def tw202493077604705513:=0
def tw13318357939900171570:=0
def tw4483676428840732393:=0
def tw1843980387490208968:=0
def tw14310668335678358989:=0
def tw759840193667161108:=0
def tw8207025353246775063:=0
def tw709555054122355194:=0
def tw10979035477444372466:=0
def tw10776406099579567927:=0
def tw6635733408114195975:=0
def tw17749238032346384747:=0
def tw17920499579539071331:=0
def tw5465499920204492563:=0
def tw3251914173346377224:=0
def tw17505284574372438569:=0
def tw11853671130555570058:=0
def tw221610549649193211:=0
def tw17346310858873854432:=0
def tw6833870886535833531:=0
def tw15089973310232826663:=0
def tw12636160675355475398:=0
def tw6814146029550073546:=0
def tw5801033438742865485:=0
def tw15915593360558559002:=0
def tw17580111787358226029:=0
def tw572040810712032956:=0
def tw8196111893854695889:=0
def tw3562158862183535012:=0
def tw9119482775939015577:=0
def tw18378609852778666272:=0
def tw8467408609220519079:=0
def tw1038542038265500718:=0
def tw15633525198590846243:=0
def tw16849690226621584469:=0
def tw13730943028158587883:=0
def tw3824975062511155854:=0
def tw14450704951462344547:=0
def tw13094164748071691860:=0
def tw17743787351181518423:=0
def tw17552351244573505911:=0
def tw6194997518781149287:=0
def tw15701900297850117821:=0
def tw5975146374546700981:=0
def tw16243674874778322429:=0
def tw9005777194711056393:=0
def tw1225756172187014694:=0
def tw12876703157556678922:=0
def tw8650303522180853907:=0
def tw2104843032820359614:=0
def tw8974188782672265763:=0
def tw4828690173304413359:=0
def tw3725539148561075523:=0
def tw13674441258583826021:=0
def tw3600467191709510114:=0
def tw14382244841270173761:=0
def tw15859362323639726384:=0
def tw3776244523119709869:=0
def tw5750967352295798401:=0
def tw2620738482884817938:=0
def tw5359128778092311757:=0
def tw16313490054816624141:=0
def tw9403214393837092061:=0
def tw6179089850695146668:=0
def tw17982659727988590996:=0
def tw109413072137744032:=0
def tw524707894560629564:=0
def tw14203060340968950239:=0
def tw11532428657745455677:=0
def tw9024334395688674520:=0
def tw11260347926012824374:=0
def tw16847486646162429441:=0
def tw358184641178264908:=0
def tw11629902909672346006:=0
def tw1225396769221142110:=0
def tw10854474974691875815:=0
def tw6844444707326557685:=0
def tw6527325810924523829:=0
def tw4996577994437116024:=0
def tw10150968800188224994:=0
def tw1485669176184041994:=0
def tw6841579817371631189:=0
def tw3958742393970107949:=0
def tw150065622233345442:=0
def tw7110567972550451120:=0
def tw3916082860117669430:=0
def tw5573757580956718898:=0
def tw2768112199855037133:=0
def tw14911448580252762161:=0
def tw5131191524171447557:=0
def tw17214878831180563793:=0
def tw8567657876713725579:=0
def tw17925210359093644636:=0
def tw16310004558445974343:=0
def tw14311314068970209184:=0
def tw10134759721526995556:=0
def tw13016433019058229425:=0
def tw18320624874802834358:=0
def tw17015963595706255378:=0
def tw4380856595364801381:=0
def tw16225481662612552511:=0
def tw9483653854077957946:=0
def tw10897983128675897346:=0
def tw8299536201354175000:=0
def tw490492429355986088:=0
def tw18095593170752482700:=0
def tw14608804748631841386:=0
def tw11586132502660977593:=0
def tw8760408522798438927:=0
def tw17569610935053613146:=0
def tw10697521778104396803:=0
def tw9062063883729551987:=0
def tw5200515168131343373:=0
def tw16698906597706750346:=0
def tw10919997004307336933:=0
def tw7590009703993283906:=0
def tw9798180771479025298:=0
def tw6830041776964793991:=0
def tw83791786613276775:=0
def tw17429512764307463249:=0
def tw2743217881533951657:=0
def tw2060837122600675841:=0
def tw6707231153599141622:=0
def tw14416778626841499579:=0
def tw2319400602021475385:=0
def tw13961853036413266764:=0
def tw3369736689199987367:=0
def tw2105791783298454487:=0
def tw5565422778057224035:=0
def tw11436192763500374024:=0
def tw8565955321156867364:=0
def tw306777794920017297:=0
def tw9941645795860170407:=0
def tw14433606955522380066:=0
def tw8518398273410604758:=0
def tw17166897225456563275:=0
def tw4729519340740961631:=0
def tw3564980484741353803:=0
def tw6049787039391889133:=0
def tw6934746262744175168:=0
def tw14473491181661565468:=0
def tw8585716682612034434:=0
def tw12251318042810156330:=0
def tw6100736435399191272:=0
def tw3533114333172921436:=0
def tw1723223145388256236:=0
def tw15367414757297595087:=0
def tw13375612694607471762:=0
def tw18144275927244670808:=0
def tw3889024386695635007:=0
def tw12094335760066599441:=0
def tw855657203985554340:=0
def tw6730936719444080674:=0
def tw16028860803658876805:=0
def tw18121201929381602570:=0
def tw10902495454090783401:=0
def tw12664206285719781206:=0
def tw107182359234572056:=0
def tw1052123021665844199:=0
def tw5077813466763912575:=0
def tw10848181653495417574:=0
def tw11174491137434129309:=0
def tw7564427784150012474:=0
def tw2116810994115811141:=0
def tw8774356854427802476:=0
def tw8020016060831981285:=0
def tw10925750682077014817:=0
def tw7146253493975678501:=0
def tw13091735463622846054:=0
def tw11832560235506058889:=0
def tw5069081544488873789:=0
def tw3923216075920833603:=0
def tw12166721088087757886:=0
def tw4779568263027500774:=0
def tw8442802984021962245:=0
def tw11614335897662204143:=0
def tw3204195944179533922:=0
def tw5048167664323657056:=0
def tw10303477705120881740:=0
def tw2246470403159520391:=0
def tw1444607529509819618:=0
def tw9135467191788653991:=0
def tw13732823748921381090:=0
def tw18126593584791826046:=0
def tw8875692670585107549:=0
def tw5683116242496846496:=0
def tw851848740284767570:=0
def tw17855897496067197957:=0
def tw4169691097029226693:=0
def tw10361126485182740411:=0
def tw7912606822182908718:=0
def tw3522465704347782542:=0
def tw17939768792648747783:=0
def tw3893053342994341912:=0
def tw9483837052306458353:=0
def tw12111104780399964218:=0
def tw11310349779470212999:=0
def tw8489549124030243898:=0
def tw2672195596604931457:=0
def tw2775080638356649366:=0
def tw9310535854259283760:=0
def tw9540782085976695113:=0
def tw891055476701311272:=0
def tw16464517574886716310:=0
def tw10710755333499546465:=0
def tw5839472315973234215:=0
def tw15272766743115688816:=0
def tw692092722526762046:=0
def tw12751653230020000838:=0
def tw12863475744586631594:=0
def tw7489953095247187233:=0
def tw16080633542673729242:=0
def tw7884051648646980982:=0
def tw5627170647624841444:=0
def tw14657156548169501165:=0
def tw3935003254652320280:=0
def tw2384554129983505365:=0
def tw11519986796997030193:=0
def tw13522766377492643277:=0
def tw13194704002776967039:=0
def tw8276274378255356763:=0
def tw17261040861875526062:=0
def tw15570647603815552486:=0
def tw14231911403928766403:=0
def tw8294881540917844930:=0
def tw9580040161755855686:=0
def tw8344996065407811336:=0
def tw7421493620697677921:=0
def tw9856019760080100987:=0
def tw1789749610586948941:=0
def tw15551425862323904246:=0
def tw7056978082417669432:=0
def tw3173218445096373553:=0
def tw10929910624293708130:=0
def tw11354857635850686116:=0
def tw11248106705513833513:=0
def tw10557794661953194361:=0
def tw17452268433292425240:=0
def tw11887442495465334116:=0
def tw2747138283136876045:=0
def tw16524579832555515267:=0
def tw5420988005538174720:=0
def tw13433776800766445531:=0
def tw4324089305153032701:=0
def tw12067352583070868149:=0
def tw5723441375968879289:=0
def tw7945359889770530252:=0
def tw10914238069022809359:=0
def tw10222979515967980140:=0
def tw2891056642304153571:=0
def tw10305041494630472995:=0
def tw15075278692372131478:=0
def tw2065657819912177076:=0
def tw11593302829619203305:=0
def tw14825543899396980640:=0
def tw2755172325538178194:=0
def tw3649142422660013144:=0
def tw6785336605849600030:=0
def tw3255142138838755285:=0
def tw4744954502257690084:=0
def tw8734418771678464289:=0
def tw13756045756844254496:=0
def tw10711452190770806219:=0
def tw10982710383595220285:=0
def tw16079040828298686192:=0
def tw11588019261278808882:=0
def tw13082343372270228550:=0
def tw6402838048412674126:=0
def tw2305236039074700103:=0
def tw6984673452637117828:=0
def tw15343891448438732975:=0
def tw12743950929495733647:=0
def tw9377292933000250956:=0
def tw2446486052117078516:=0
def tw18022369475949431157:=0
def tw3615249366139490187:=0
def tw58753869882655825:=0
def tw15179688122615295413:=0
def tw5795535887135035493:=0
def tw17745054850792736249:=0
def tw15746757389894876996:=0
def tw10496209938293330870:=0
def tw13487636168238423870:=0
def tw15848935226274032182:=0
def tw4470860417588547868:=0
def tw17768084280451663285:=0
def tw9844044602551857064:=0
def tw13948855878847392338:=0
def tw1975489522738733570:=0
def tw10183829979786567097:=0
def tw14664003396234837404:=0
def tw6491622435077110880:=0
def tw16255093518200721723:=0
def tw10931034120917392307:=0
def tw14785020157252657085:=0
def tw16058290837335036049:=0
def tw2416106138732309411:=0
def tw12683894652084380613:=0
def tw6601655840712532894:=0
def tw9582828979498426212:=0
def tw4086458310886774467:=0
def tw1195756138178027001:=0
def tw727614152867138500:=0
def tw17929003495714962083:=0
def tw1202056840448669332:=0
def tw15679203794956621025:=0
def tw6713788718847677279:=0
def tw14858747474133943999:=0
def tw1337576149618151877:=0
def tw14577037615394333776:=0
def tw2241895896291081216:=0
def tw9444851903779783432:=0
def tw3416390988580521279:=0
def tw11854201784281693176:=0
def tw17333567269080955215:=0
def tw12095292676650687751:=0
def tw1665111649954833973:=0
def tw619110160710632088:=0
def tw955554228029666653:=0
def tw8160934373137987628:=0
def tw9175568520544602294:=0
def tw10138879704645977136:=0
def tw10047687513500458759:=0
def tw10250415487872995867:=0
def tw8954553775189453688:=0
def tw2840744603357099008:=0
def tw14131839842536918442:=0
def tw18021354902641090246:=0
def tw9087366660931318644:=0
def tw16556027187863816415:=0
def tw15858321475099832864:=0
def tw14535304498717083943:=0
def tw3505185236043815118:=0
def tw11287816790972775864:=0
def tw6528547265276795534:=0
def tw14763859828779140955:=0
def tw14337757117531530145:=0
def tw12610305173396309675:=0
def tw6129193441371493118:=0
def tw15563058708389179500:=0
def tw8983245575254325533:=0
def tw18309062733718987446:=0
def tw4155048349303599634:=0
def tw10268229322434656814:=0
def tw14001147680133228401:=0
def tw14420757426141216230:=0
def tw2729480780268902282:=0
def tw5295222310587424187:=0
def tw8693040946825267196:=0
def tw6731473343412623666:=0
def tw15239436203840938663:=0
def tw4245931191999111197:=0
def tw16367450615024571891:=0
def tw11003947188909890498:=0
def tw7899859247164971046:=0
def tw4861766682857804105:=0
def tw11032782897624458833:=0
def tw6851340726545713394:=0
def tw15013929204303609053:=0
def tw853176885342284430:=0
def tw12124312724905996020:=0
def tw6557858071723736479:=0
def tw12018240251619790918:=0
def tw13298210374946122903:=0
def tw7353080218656700255:=0
def tw12552272260369546250:=0
def tw8094397905591406653:=0
def tw7534895324657665241:=0
def tw1579284595574026240:=0
def tw4505555413519182417:=0
def tw10007863452897646192:=0
def tw16354210134928711761:=0
def tw11760359486580664139:=0
def tw3055638123093112903:=0
def tw10516318120134449030:=0
def tw7989617623836191200:=0
def tw1641157040804179721:=0
def tw4227966983242382332:=0
def tw12992168379069390704:=0
def tw14027548918885120585:=0
def tw4142239536424932600:=0
def tw16221470125380086937:=0
def tw524609581692732707:=0
def tw488286035959040569:=0
def tw4189365884062522217:=0
def tw242716748005641928:=0
def tw4279981939785665350:=0
def tw14013879659781826259:=0
def tw13914982094299755077:=0
def tw14256018851860849246:=0
def tw13424792287080629970:=0
def tw13418070695222847750:=0
def tw16528747822241088039:=0
def tw11264901839379668549:=0
def tw1182933416634901224:=0
def tw2492691150226129590:=0
def tw13540462399361709718:=0
def tw9516788064850458850:=0
def tw2611626326042863791:=0
def tw15414065353474067308:=0
def tw8290846491736841888:=0
def tw14578655309186737225:=0
def tw11021977290161855675:=0
def tw11578873200445666900:=0
def tw5339640376191937154:=0
def tw4848928894276126174:=0
def tw955543818548810453:=0
def tw2966415435090295360:=0
def tw3565977838298859633:=0
def tw3529906585685568762:=0
def tw1644715505335710363:=0
def tw904928810442887889:=0
def tw13798181930787411682:=0
def tw10231472306369782642:=0
def tw8199954526103409879:=0
def tw4911334488471045626:=0
def tw4571456831471912814:=0
def tw9190704473990148982:=0
def tw4203164596672194586:=0
def tw11649327328873475880:=0
def tw6021205961586231355:=0
def tw12164419530619882070:=0
def tw4994049462830629674:=0
def tw12544975642403115030:=0
def tw5604888722369078288:=0
def tw8276599448465592377:=0
def tw2845581597128977467:=0
def tw13880838213347920933:=0
def tw8246867924061053318:=0
def tw3145652867539126448:=0
def tw4413988799517601862:=0
def tw15393503540999220253:=0
def tw7593745151585235067:=0
def tw7531412479986576292:=0
def tw10317298963825077751:=0
def tw17477424884441905478:=0
def tw15225177990937855313:=0
def tw10341394006932625892:=0
def tw7948626727777173166:=0
def tw17325464124490137605:=0
def tw12070391011134160580:=0
def tw2652555646250830978:=0
def tw18164854841033751863:=0
def tw11807821366779236218:=0
def tw8153700468012633870:=0
def tw6647537930881783258:=0
def tw4750813902189283119:=0
def tw290479526464653310:=0
def tw706947571703182247:=0
def tw979687878043135127:=0
def tw5523193886253377363:=0
def tw2016042333568356225:=0
def tw15034327437450908442:=0
def tw1153863892359984274:=0
def tw8130901178734652379:=0
def tw6125300414203311375:=0
def tw1360093628556625305:=0
def tw1158741496762117527:=0
def tw6003967039052976639:=0
def tw3041920657219103163:=0
def tw5343740110762311037:=0
def tw8327832781065669515:=0
def tw794473768401181651:=0
def tw7756267286706446981:=0
def tw4030912251538104756:=0
def tw14703924675389982001:=0
def tw15319976383468844748:=0
def tw8688607356728348929:=0
def tw9393993176968360041:=0
def tw10703254833870599338:=0
def tw3554847436758259745:=0
def tw13810663408433356577:=0
def tw3085702078817834039:=0
def tw4775010377385583148:=0
def tw11615180254450981391:=0
def tw14828908900727525017:=0
def tw4704143074756796674:=0
def tw6768740585613562513:=0
def tw6367688545328757481:=0
def tw7781260623914114659:=0
def tw5516830870333957688:=0
def tw2471031648521411488:=0
def tw11785461710000307406:=0
def tw10192750413914495847:=0
def tw13108116081357078020:=0
def tw18176305953349272277:=0
def tw6773414138016591847:=0
def tw13149349970278051905:=0
def tw7653005376944705175:=0
def tw12872270980915682711:=0
def tw16447078449029026910:=0
def tw3106571501575443223:=0
def tw16561094023925891898:=0
def tw793996699494014016:=0
def tw6765837240199501611:=0
def tw3949966481358400331:=0
def tw17166850577120418065:=0
def tw16165733168060699089:=0
def tw12115073316945146400:=0
def tw9778124083060405296:=0
def tw9995715814387894355:=0
def tw15811126922725481996:=0
def tw1055033043918852525:=0
def tw10901420522514252810:=0
def tw4242874210179866021:=0
def tw7978919741202980602:=0
def tw11236135501120329479:=0
def tw4557688580271261714:=0
def tw4215227586678323912:=0
def tw10795654434523476106:=0
def tw6714026897746522855:=0
def tw10745682841559351259:=0
def tw2741352231454431303:=0
def tw1421152715137841704:=0
def tw14472121990382664527:=0
def tw8155953788828909713:=0
def tw17097014566291664294:=0
def tw3920957284534574401:=0
def tw12084104548796423299:=0
def tw4118357268630712213:=0
def tw8533147229449191826:=0
def tw3496535104561552062:=0
def tw8634299156420330232:=0
def tw17684568604951236240:=0
def tw2171329605063511259:=0
def tw15697327066906454238:=0
def tw4967658254171983537:=0
def tw2970199364598788816:=0
def tw1264416603981621378:=0
def tw15833852552626287749:=0
def tw7927632598817833660:=0
def tw6459364245276890086:=0
def tw701099015634699776:=0
def tw17256399966000868003:=0
def tw2961163439645014619:=0
def tw14042031862260494404:=0
def tw4382036348458238004:=0
def tw14998805079056195716:=0
def tw7913673446926420083:=0
def tw13250188237465691306:=0
def tw9730728303039307321:=0
def tw3225126677197631193:=0
def tw8457654616420656946:=0
def tw1112306430753421479:=0
def tw14946701812402067670:=0
def tw7602864964603545465:=0
end PySem.W.Fast
open PySem PySem.W PyProof.Rows
set_option maxHeartbeats 0 in
theorem PySem.Challenge.cw_pointsure_k10_faults_holds : PySem.Challenge.rw_pointsure_k10_faults.Holds := by
  w_on; o_law; k_head; (case hw => w_witness2)
  k_fill
  refine L2.KC (l := PySem.Challenge.rw_pointsure_k10_faults) (n := 63) (k := 13) (x := "_law_script") (f := K10.JM) rfl (by decide) rfl ⟨rfl, by decide, by decide⟩ (fun w h Y => PySem.W.kIn_of Y) ?F K10.PC
  case F =>
    intro w mg fa h KX G hmg
    refine K10.U3 ?zM hmg
    constructor
    all_goals first
   |(refine PySem.W.mg_none_of KX G ?_;first|k_is|decide)
   |(apply L2.XD<;>first|k_is|decide)
   |(apply L2.fnAt KX G<;>first|k_is|decide)
   |(apply L2.aar<;>first|k_is|decide)
   |(apply L2.UU KX G<;>first|k_is|decide)
   |(apply K10.LZ KX G<;>first|k_is|decide)
   |(apply K10.xx KX G<;>first|k_is|decide)
   |(apply K10.F2 KX G<;>first|k_is|decide)
   |(apply K10.zJ KX G<;>first|k_is|decide)
   |(apply K10.L0 KX G<;>first|k_is|decide)
   |(apply L2.intAt KX G<;>first|k_is|decide)
   |(apply L2.intAt KX G<;>first|k_is|decide)
   |(apply K10.L1 KX G<;>first|k_is|decide)
