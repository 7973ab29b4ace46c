import PyProof.Rows.All
import Wide.All
import OpenK.AllK
import Wide.FinOn
import Lean
import PyProof.EqAt
import PyProof.EqKinds
import PyProof.TupleCall
import KE.KRevIter
import KE.KRevSl
import PyProof.AttrMissHeap
import PySem.Challenge.RW_pointsure_k07_copies_told
noncomputable section
abbrev Od:=Option PySem.PyData
abbrev Lp:=List PySem.PyData
abbrev Lr:=List PySem.Str
abbrev Lw:=List PySem.Value
abbrev Ow:=Option PySem.Value
abbrev Ax:=List (PySem.Addr × PySem.Obj)
abbrev Px:=PySem.Value → PySem.Shared → Prop
abbrev Lx:=List PySem.Expr
abbrev Fg:=PySem.W.Frag
set_option Elab.async false
set_option linter.all false
set_option compiler.extract_closed false
set_option genSizeOfSpec false
set_option maxRecDepth 100000
set_option maxHeartbeats 4000000
def aa:=@Option.map_eq_some_iff
def ab:=@Option.bind_some
def ae:=@PySem.wpAny_bind
def af:=@List.map_cons
def ag:=@List.forall_mem_cons
def ah:=@if_pos
def ai:=@if_neg
def aj:=@List.mem_cons_of_mem
def ak:=@PySem.Heap.get?_push_of_some
def ao:=@List.length_cons
def aq:=@List.mem_append_right
def ar:=@PySem.wpAny_pure
def au:=@List.size_toArray
def av:=@List.mem_cons
def aw:=@PySem.Heap.lt_size
def ax:=@List.getElem?_set_ne
def ay:=@List.getElem?_eq_some_iff
def az:=@List.getElem?_map
def aA:=@Nat.le_refl
def aB:=@PySem.Heap.get?_push_size
def aC:=@List.length_map
def aD:=@List.getElem?_append_right
def aE:=@Nat.lt_of_lt_of_le
def aF:=@Bool.false_ne_true
def aG:=@Option.map_some
def aH:=@List.getElem?_set_self
def aI:=@List.getElem?_eq_getElem
def aJ:=@List.append_assoc
def aK:=@List.mem_map
def aL:=@List.append_nil
def aM:=@List.mem_append_left
def aN:=@Nat.ne_of_lt
def aO:=@decide_eq_false
def aP:=@List.mem_append
def aQ:=@PySem.SeqAt.canLay_of_shaped
def aR:=@List.cons_append
def aS:=@List.getElem?_append_left
def aT:=@PySem.PassesOwn.never
def aU:=@beq_eq_false_iff_ne
def aV:=@True.intro
def aW:=@decide_eq_true
def aX:=@PySem.Calls.spliced_cons
def aY:=@List.lookup_cons
def aZ:=@Nat.lt_irrefl
def ba:=@List.mem_cons_self
def bc:=@List.map_map
def bf:=@List.map_append
def bg:=@PySem.wpAny_Call_Name_kw
def bj:=@List.perm_append_comm
def bo:=@PySem.Heap.get?_update_other
def bp:=@List.length_append
def bq:=@PyProof.Rows.callWith_type1
def br:=@PyProof.Rows.slot_tuple_getitem
def bt:=@List.forall_mem_nil
def bu:=@Option.some.inj
def bw:=@PySem.wpAny_holding
def bx:=@PySem.Calls.spliced_nil
def bz:=@List.any_cons
def bA:=@List.nodup_append
def bB:=@List.map_nil
def bC:=@List.nil_append
def bD:=@if_true
def bE:=@PySem.Heap.get?_update_self
def bF:=@PySem.F.slot_dict_get
def bG:=@List.getElem?_replicate
def bH:=@PySem.F.plainAttrs_list
def bJ:=@List.nodup_cons
def bK:=@Nat.le_trans
def bL:=@congrArg
def bM:=@PySem.mem_of_lookup
def bN:=@Or.inr
def bO:=@Bool.false_eq_true
def bP:=@List.mem_of_getElem?
def bQ:=@PySem.Calls.callWith_builtin
def bR:=@List.find?_cons
def bT:=@List.drop_eq_getElem_cons
def bU:=@PySem.wpAny_mono
def bV:=@if_false
def bW:=@PySem.lookup_relabel_local
def bX:=@PySem.Around.under_plainId
def bY:=@List.getElem?_cons_succ
def bZ:=@List.length_nil
def b5:=@Or.inl
def b6:=@PySem.wpAny_updateSeq
def b7:=@PySem.F.plain_extend_loop
def b8:=@PySem.F.entry_dict_get
def b9:=@Bool.and_eq_true
def cb:=@Nat.le_add_right
def cf:=@List.mem_filterMap
def cg:=@PySem.tupleKind_room_in1
def cj:=@PySem.wpAny_passesOwn
def ck:=@PySem.codeAny_builtin
def cm:=@PySem.wpAny_truthy_bool
def cp:=@PySem.Calls.evalArgs_plain
def cq:=@of_decide_eq_true
def cu:=@beq_iff_eq
def cv:=@List.filterMap_cons
def cw:=@Array.length_toList
def cx:=@List.length_take
def cy:=@PySem.wpAny_callSpecial?_slot
def cz:=@PySem.F.plainAttrs_dict
def cA:=@List.all_eq_true
def cB:=@Nat.zero_le
def cC:=@PySem.wpAny_field
def cD:=@PySem.wpAny_typeOf
def cE:=@Array.getElem?_eq_none
def cF:=@List.take_of_length_le
def cG:=@PySem.Paired.length
def cH:=@PySem.plainId_quiet
def cI:=@List.getElem?_eq_none
def cJ:=@List.Perm.append_left
def cK:=@PySem.wpAny_newObj_type
def cL:=@Iff.rfl
def cM:=@decide_eq_true_eq
def cN:=@Int.toNat_natCast
def cO:=@PySem.call_meets
def cP:=@List.mem_of_mem_take
def cQ:=@Nat.lt_succ_self
def cR:=@List.filter_cons
def cS:=@PySem.call_meetsIn
def cT:=@Nat.zero_add
def cU:=@List.range'_succ
def cV:=@PySem.F.args_tuple_add_2
def cW:=@PySem.wpAny_comprehension_free
def cX:=@PySem.F.slot_list_extend
def cY:=@PySem.F.entry_tuple_add
def cZ:=@PySem.F.args_dict_get_2
def c8:=@List.getElem?_cons_zero
def c9:=@PySem.wpAny_pyNext_list_item
def de:=@PySem.wpAny_pyIter_list
def df:=@PySem.codeAny_mono
def dg:=@PySem.F.slot_tuple_add
def dh:=@PySem.wpAny_Call_method
def dm:=@PySem.Str.ofString_eq_toList
def dn:=@List.Perm.append_right
def dq:=@PySem.wpAny_nextOf_list_item
def dt:=@PySem.Str.length_append
def du:=@List.reverse_cons
def dw:=@PySem.wpAny_pyNext_list_end
def dz:=@PySem.F.slot_dict_pop
def dA:=@PySem.F.type_dict_get
def dB:=@PySem.builtinLookup_eq_fast
def dE:=@PyProof.Rows.callWith_builtin1
def dF:=@List.length_drop
def dG:=@PySem.wpAny_call_entry
def dH:=@Nat.le_of_not_lt
def dJ:=@List.mem_reverse
def dM:=@Bool.or_false
def dN:=@PySem.wpAny_execs_nil
def dO:=@PySem.wpAny_specialOf
def dP:=@List.forIn_cons
def dQ:=@PySem.F.slot_zip_next
def dR:=@List.getElem?_range
def dS:=@ne_true_of_eq_false
def dU:=@Array.getElem?_push
def dW:=@List.length_reverse
def dX:=@List.map_congr_left
def dY:=@Nat.le_of_lt
def dZ:=@Nat.ne_of_gt
def d4:=@PySem.Calls.Name_function_global
def d5:=@PySem.Heap.size_push
def d6:=@PySem.typeIs_str
def d7:=@List.forIn_nil
def d8:=@PySem.F.args_str_split_2
def d9:=@Option.isNone_iff_eq_none
def eh:=@List.take_sublist
def ek:=@Option.isSome_map
def et:=@PySem.F.entry_str_split
def eA:=@List.Pairwise.map
def eC:=@List.mem_range'_1
def eD:=@Bool.beq_comm
def eE:=@List.map_take
def eF:=@PySem.noFill_tuple_add
def eG:=@Nat.min_le_right
def eI:=@PySem.wpAny_getItem_of
def eJ:=@List.drop_length
def eK:=@PySem.F.slot_str_split
def eL:=@Array.toList_inj
def eM:=@List.zipIdx_cons
def eN:=@PySem.concat_meets
def eO:=@Nat.lt_trans
def eP:=@List.of_mem_zip
def eQ:=@PySem.typeLookup_type
def eR:=@Bool.or_eq_true
def eS:=@Nat.le_succ
def eT:=@PySem.wpAny_seqItems
def eU:=@PySem.Str.cps_append
def eV:=@PySem.wpAny_rule
open Option renaming some→Y
open Option renaming none→Z
open PySem renaming PyData→eW
variable  {x c:PySem.Str}{a:PySem.Addr}{o b e tg:PySem.Expr}{α:Type}{pins:Ax}{s:PySem.Shared}{i n:Nat}{A:PySem.Around}{E:Px}{pos p:PySem.Pos}{K:Fg}{st:PySem.Stmt}{es:Lx}{R:PySem.Result->PySem.Shared->Prop}{mg:PySem.Str->Ow}{fd:PySem.FuncData}{ds:Lp}{ks:Lr}{kindOf:PySem.Str->Option PySem.NameKind}{scope:PySem.Scope}{d:PySem.PyData}{kvs:List (PySem.PyData×PySem.PyData)}{iP:List (Nat×PySem.Str)}{dp:Bool}{O:List Nat}{F:List (PySem.Str×PySem.PyData)}{rows:List Lr}
local macro_rules
| `(zZ $a) => `(PySem.Str.ofString $a)
| `(zK 0) => `(by kernel_rfl)
| `(zB $s) => `(($s).heap.objs.size)
| `(zg $x) => `(($x == ("__debug__" : PySem.Str)) = false)
| `(zE $e $s $x) => `(PySem.starEach ($e :: $s) ($x).env = (false, PySem.eval $e ($x).env) :: PySem.starEach $s ($x).env)
| `(zy $a $n) => `({ cls := .type "tuple", data := .seq $a $n })
| `(zl $a $n) => `({ cls := .type "list", data := .seq $a $n })
| `(zw $x) => `(PySem.wpAny (PySem.model ($x).prog ($x).w) ($x).A)
| `(zi $i) => `(.int ($i : Int))
| `(zj $b) => `(if $b = true then [.l 5] else [])
namespace L2
open PySem PySem.Spec PyProof.Rows
abbrev Key:=Sum Int Str
def A8:Key->Value->Bool
 |.inl k,v=>Value.isInt k v
 |.inr x,v=>Value.isStrOf x v
def Uk(w:World):Key->Int
 |.inl k=>hashInt k
 |.inr x=>hashStr w x
def iJ:∀{k:Key}{v:Value},A8 k v=true->(∃i t,k=Sum.inl i/\v=Value.int i t)\/(∃x t,k=Sum.inr x/\v=Value.str x t)
 |.inl i,v,h=>by obtain⟨t,e⟩:=Value.isInt_shape (k:=i) (v:=v) h;exact .inl ⟨i,t,rfl,e⟩
 |.inr x,v,h=>by obtain⟨t,e⟩:=Value.isStrOf_shape (x:=x) (v:=v) h;exact .inr ⟨x,t,rfl,e⟩
def J4(i:Int)(t:Tok):A8 (.inl i) (.int i t)=true:=by simp[A8,Value.isInt]
def J5(x:Str)(t:Tok):A8 (.inr x) (.str x t)=true:=by simp[A8,Value.isStrOf]
def Ul(a b:Int):decide ((Sum.inl a:Key)=Sum.inl b)=(a==b):=by
 by_cases e:a=b
 ·subst e;simp
 ·have h:¬ (Sum.inl a:Key)=Sum.inl b:=λq=>e (Sum.inl.inj q);rw[aO h];exact(aU.mpr e).symm
def Um(a b:Str):decide ((Sum.inr a:Key)=Sum.inr b)=decide (a=b):=by
 by_cases e:a=b
 ·subst e;simp
 ·have h:¬ (Sum.inr a:Key)=Sum.inr b:=λq=>e (Sum.inr.inj q);rw[aO h,aO e]
def Uo(a:Int)(b:Str):decide ((Sum.inl a:Key)=Sum.inr b)=false:=aO (λq=>nomatch q)
def Up(a:Str)(b:Int):decide ((Sum.inr a:Key)=Sum.inl b)=false:=aO (λq=>nomatch q)
def fU(c:Program)(w:World):PySem.KeyKind c w Key where
 is:=A8
 hash:=Uk w
 inj:=λv a b m g=>by
  rcases iJ m with ⟨i,t,rfl,rfl⟩ | ⟨x,t,rfl,rfl⟩
  ·rcases iJ g with ⟨j,u,rfl,e⟩ | ⟨y,u,rfl,e⟩
   ·injection e with d _;rw[d]
   ·exact nomatch e
  ·rcases iJ g with ⟨j,u,rfl,e⟩ | ⟨y,u,rfl,e⟩
   ·exact nomatch e
   ·injection e with d _;rw[d]
 byValue:=λk v h=>by rcases iJ h with ⟨i,t,rfl,rfl⟩ | ⟨x,t,rfl,rfl⟩<;>rfl
 pyHash:=λf h=>by
  rcases iJ f with ⟨i,t,rfl,rfl⟩ | ⟨x,t,rfl,rfl⟩
  ·exact wpAny_pyHash_int h
  ·exact wpAny_pyHash_str h
 eqBool:=λl f h=>by
  rcases iJ l with ⟨i,t,rfl,rfl⟩ | ⟨x,t,rfl,rfl⟩
  ·rcases iJ f with ⟨j,u,rfl,rfl⟩ | ⟨y,u,rfl,rfl⟩
   ·rw[Ul] at h;exact wpAny_eqBool_int h
   ·rw[Uo] at h;exact SeqAt.EqAt.int_str i t y u _ _ _ _ h
  ·rcases iJ f with ⟨j,u,rfl,rfl⟩ | ⟨y,u,rfl,rfl⟩
   ·rw[Up] at h;exact SeqAt.EqAt.str_int x t j u _ _ _ _ h
   ·rw[Um] at h;exact wpAny_eqBool_str h
 «strs»:=λk x t v h=>by
  rcases iJ h with ⟨i,u,rfl,e⟩ | ⟨y,u,rfl,e⟩
  ·exact nomatch e
  ·injection e with d _;subst d;cases v<;>rfl
def D8(a:Program)(w:World)(i:Int)(t:Tok):(fU a w).is (.inl i) (.int i t)=true:=J4 i t
def mI(a:Program)(w:World)(x:Str)(t:Tok):(fU a w).is (.inr x) (.str x t)=true:=J5 x t
end L2
variable  {xs:List (List L2.Key×PySem.Addr×PySem.Value)}
namespace L2
open PySem PySem.Spec PyProof.Rows
inductive V where
 |lB|bl (b:Bool)|int (i:Int)|str (x:Str)|WO (b:Array UInt8)|Zr (b:UInt64)|ref (a:Addr)|ty (n:String)
 deriving DecidableEq
def fQ:V->Value->Prop
 |.lB,u=>u=Value.none
 |.bl b,u=>u=Value.bool b
 |.int i,u=>∃t,u=Value.int i t
 |.str x,u=>∃t,u=Value.str x t
 |.WO b,u=>∃t,u=Value.bytes b t
 |.Zr b,u=>∃t,u=Value.float b t
 |.ref a,u=>u=Value.ref a
 |.ty n,u=>u=Value.type n
abbrev fY:List V->List Value->Prop:=Paired fQ
theorem fY.length{xs:List V}{a:Lw}(r:fY xs a):xs.length=a.length:=cG r
theorem fY.get:∀{a:List V}{b:Lw}{i:Nat}{x:V},fY a b->a[i]?=Y x->∃u,b[i]?=Y u/\fQ x u
 |_,_,_,_,.nil,e=>by simp at e
 |_,_,0,_,.cons r _,e=>by simp at e;subst e;exact⟨_,rfl,r⟩
 |_,_,i+1,x,.cons _ t,e=>by obtain⟨u,d,c⟩:=fY.get (i:=i) (x:=x) t (by simpa using e);exact⟨u,by simpa using d,c⟩
theorem fY.set{x:V}{u:Value}(r:fQ x u):∀{a:List V}{b:Lw} (i:Nat),fY a b->fY (a.set i x) (b.set i u)
 |_,_,_,.nil=>.nil
 |_,_,0,.cons _ t=>.cons r t
 |_,_,i+1,.cons q t=>.cons q (fY.set r i t)
theorem fY.append:∀{b a:List V}{d c:Lw},fY b d->fY a c->fY (b++a) (d++c)
 |_,_,_,_,.nil,s=>s
 |_,_,_,_,.cons r t,s=>.cons r (fY.append t s)
theorem fY.take:∀{xs:List V}{a:Lw} (n:Nat),fY xs a->fY (xs.take n) (a.take n)
 |_,_,0,_=>.nil
 |_,_,_+1,.nil=>.nil
 |_,_,n+1,.cons r t=>.cons r (fY.take n t)
theorem fY.drop:∀{a:List V}{b:Lw} (n:Nat),fY a b->fY (a.drop n) (b.drop n)
 |_,_,0,r=>r
 |_,_,_+1,.nil=>.nil
 |_,_,n+1,.cons _ t=>fY.drop n t
def pH:Option V->Ow->Prop
 |some v,Y u=>fQ v u
 |none,Z=>True
 |_,_=>False
def KV{κ:Type}:List (κ×V)->List (κ×Value)->Prop:=Paired λ(p:κ×V) (q:κ×Value)=>p.1=q.1/\fQ p.2 q.2
def kV:Key->V
 |.inl i=>.int i
 |.inr x=>.str x
inductive HO where
 |lst (xs:List V)
 |tup (xs:List V)
 |dK (kvs:List (Key×V))|dT (kvs:List (List Key×V))
 |set (S:Int->Bool) (n:Nat)
 |ins (C dx:Addr) (fs:List (Str×V))
 |own (x:Addr)
 |xd (fs:List (Str×V))
 |met (f x:Addr)
 |WY (lo hi:Int)
 |ud (o:Obj) (u:HO)
 |P1 (ps:Array Value)
 |ext (φ:Heap->Prop)
abbrev Hp:=Addr->Option HO
def upd(H:Hp)(a:Addr)(o:HO):Hp:=λb=>if b=a then Y o else H b
def fx{H:Hp}{o:HO}:upd H a o a=Y o:=by unfold upd;rw[ah rfl]
def ee{H:Hp}{b:Addr}{o:HO}(h:b≠a):upd H a o b=H b:=by unfold upd;rw[ai h]
def WZ{H:Hp}{b:Addr}{o u:HO}(h:H a=Y o)(c:H b=Y u)(d:o≠u):a≠b:=by intro e;subst e;rw[h] at c;exact d (bu c)
def gp{H:Hp}{b:Addr}{o:HO}(h:H a=Y o)(h':H b=Z):a≠b:=by intro e;subst e;rw[h] at h';cases h'
section
variable (P:Program) (w:World)
def iU(H:Hp)(h:Heap)(a:Addr):HO->Prop
 |.lst xs=>xs.length<=sizeLine/\∃(b:Lw) (n:Nat),fY xs b/\h.get? a=Y (zl b.toArray n)
 |.tup xs=>xs.length<=sizeLine/\∃b:Lw,fY xs b/\IsTup h a b.toArray
 |.dK kvs=>kvs.length<=sizeLine/\(a==sysModules)=false/\∃d,KV kvs d/\h.DictOf (fU P w) a d
 |.dT kvs=>kvs.length<=sizeLine/\(a==sysModules)=false/\∃xs:List (List Key×Addr×Value),
   Paired (λ(p:List Key×V) (q:List Key×Addr×Value)=>p.1=q.1/\H q.2.1=Y (.tup (p.1.map kV))/\fQ p.2 q.2.2) kvs xs /\
   ∃o i j,h.get? a=Y o/\o.ExactDict/\o.data=.dict i j/\i.toList=xs.map (entryOfKey (tupleKind (fU P w)))/\(xs.map (·.1)).Nodup
 |.set S n=>h.SetOf (intKind P w) a S n
 |.ins C dx fs=>H dx=Y (.own a)/\fs.length<=1000/\dx≠a/\h.get? a=Y (W.instObj C dx) /\
   ∃c,h.Ns1 dx c/\(∀f,pH (fs.lookup f) (c f))/\PySem.Within c (fs.map (·.1))
 |.own _=>∃o,h.get? a=Y o
 |.xd fs=>∃c,h.Ns1 a c/\∀f,pH (fs.lookup f) (c f)
 |.WY lo hi=>∃t u v,h.get? a=Y { cls:=.type "range",data:=.fields #[.int lo t,.int hi u,.int 1 v] }
 |.ud o u=>h.get? a=Y o/\iU H h a u
 |.P1 ps=>h.get? a=Y { cls:=.none,data:=.fields ps }
 |.met f x=>h.get? a=Y (W.methodObj (.ref f) (.ref x))
 |.ext φ=>φ h/\(∃o,h.get? a=Y o)/\∀g e:Heap,φ g->(∀o,g.get? a=Y o->e.get? a=Y o)->φ e
def tw(H:Hp)(h:Heap):Prop:=∀a o,H a=Y o->iU P w H h a o
end
section
variable {P:Program}{w:World}{H H':Hp}{h h':Heap}{o:HO}
theorem iU.lt(x:iU P w H h a o):a<h.objs.size:=by
 cases o with
 |lst c=>obtain⟨_,_,_,_,e⟩:=x;exact aw e
 |tup c=>obtain⟨_,_,_,p⟩:=x;exact p.lt
 |dK b=>obtain⟨_,_,_,_,o,_,_,e,_⟩:=x;exact aw e
 |dT b=>obtain⟨_,_,_,_,o,_,_,e,_⟩:=x;exact aw e
 |set S n=>obtain⟨o,_,_,_,e,_⟩:=x;exact aw e
 |ins C l d=>obtain⟨_,_,_,e,_⟩:=x;exact aw e
 |own y=>obtain⟨_,e⟩:=x;exact aw e
 |xd d=>obtain⟨_,⟨_,_,_,e,_⟩,_⟩:=x;exact aw e
 |WY j k=>obtain⟨_,_,_,e⟩:=x;exact aw e
 |ud i u=>obtain⟨e,_⟩:=x;exact aw e
 |P1 g=>exact aw (show h.get? a=Y _ from x)
 |met f y=>exact aw (show h.get? a=Y _ from x)
 |ext φ=>obtain⟨_,⟨_,e⟩,_⟩:=x;exact aw e
theorem Paired.Uq{α β:Type}{F G:α->β->Prop}:∀{d:List α}{c:List β},Paired F d c->(∀a b,F a b->G a b)->Paired G d c
 |_,_,.nil,_=>.nil
 |_,_,.cons r t,f=>.cons (f _ _ r) (Paired.Uq t f)
def iU.vq(x:iU P w H h a o) (k:∀b u,(b=a\/H b=Y (.own a))->h.get? b=Y u->h'.get? b=Y u)
  (J:∀b,H b=Y (.own a)->H' b=Y (.own a)) (I:∀b xs,H b=Y (.tup xs)->H' b=Y (.tup xs)):iU P w H' h' a o:=by
 induction o with
 |lst xs=>obtain⟨z,l,n,r,e⟩:=x;exact⟨z,l,n,r,k _ _ (.inl rfl) e⟩
 |tup xs=>obtain⟨z,l,r,g,e,c⟩:=x;exact⟨z,l,r,g,k _ _ (.inl rfl) e,c⟩
 |dK A=>obtain⟨z,y,E,r,g,i,j,e,c⟩:=x;exact⟨z,y,E,r,g,i,j,k _ _ (.inl rfl) e,c⟩
 |dT A=>obtain⟨z,y,xs,r,g,i,j,e,c⟩:=x;exact⟨z,y,xs,Paired.Uq r λp q z=>⟨z.1,I _ _ z.2.1,z.2.2⟩,g,i,j,k _ _ (.inl rfl) e,c⟩
 |set S n=>obtain⟨g,i,j,t,e,c⟩:=x;exact⟨g,i,j,t,k _ _ (.inl rfl) e,c⟩
 |ins C O K=>obtain⟨d,z,F,e,s,⟨m,i,j,L,c⟩,r⟩:=x;exact⟨J _ d,z,F,k _ _ (.inl rfl) e,s,⟨m,i,j,k _ _ (.inr d) L,c⟩,r⟩
 |own y=>obtain⟨g,e⟩:=x;exact⟨g,k _ _ (.inl rfl) e⟩
 |xd K=>obtain⟨s,⟨m,i,j,e,c⟩,r⟩:=x;exact⟨s,⟨m,i,j,k _ _ (.inl rfl) e,c⟩,r⟩
 |WY M N=>obtain⟨t,u,v,e⟩:=x;exact⟨t,u,v,k _ _ (.inl rfl) e⟩
 |ud g u G=>obtain⟨e,q⟩:=x;exact⟨k _ _ (.inl rfl) e,G q⟩
 |P1 D=>have e:h.get? a=Y { cls:=.none,data:=.fields D }:=x;show h'.get? a=Y { cls:=.none,data:=.fields D };exact k a _ (.inl rfl) e
 |met f y=>have e:h.get? a=Y (W.methodObj (.ref f) (.ref y)):=x;show h'.get? a=Y (W.methodObj (.ref f) (.ref y));exact k a _ (.inl rfl) e
 |ext φ=>obtain⟨p,⟨o,e⟩,B⟩:=x;exact⟨B _ _ p λo q=>k _ _ (.inl rfl) q,⟨o,k _ _ (.inl rfl) e⟩,B⟩
theorem tw.lt(x:tw P w H h)(e:H a=Y o):a<h.objs.size:=(x a o e).lt
def tw.fresh(x:tw P w H h)(e:h.objs.size<=a):H a=Z:=by
 cases q:H a with
 |none=>rfl
 |some u=>exact absurd (aE (x.lt q) e) (aZ _)
def tw.kept(x:tw P w H h)(k:∀b u,h.get? b=Y u->h'.get? b=Y u):tw P w H h':=λa o e=>
 (x a o e).vq (λb u _ q=>k b u q) (λ_ q=>q) λ_ _ q=>q
def tw.laid(x:tw P w H h)(k:∀b u,h.get? b=Y u->h'.get? b=Y u)(i:h.objs.size<=a)(d:iU P w (upd H a o) h' a o):tw P w (upd H a o) h':=λb u e=>by
 have f:=x.fresh i;by_cases g:b=a
 ·subst g;rw[fx] at e;cases e;exact d
 ·rw[ee g] at e;exact(x b u e).vq (λc v _ q=>k c v q) (λc q=>by rw[ee (gp q f)];exact q) λc j q=>by rw[ee (gp q f)];exact q
end
def Rd(H:Hp)(a:Addr)(u:HO):Prop:=H a=Y u\/∃o,H a=Y (.ud o u)
def Rd.ok{P:Program}{w:World}{H:Hp}{h:Heap}{u:HO}(r:Rd H a u)(x:tw P w H h):iU P w H h a u:=by
 rcases r with r | ⟨o,r⟩
 ·exact x a u r
 ·obtain⟨_,q⟩:=x a _ r;exact q
def W0:Option HO->Prop
 |some (.lst _)=>True
 |some (.dK _)=>True
 |some (.dT _)=>True
 |some (.set _ _)=>True
 |some (.ins _ _ _)=>True
 |some (.ext _)=>True
 |_=>False
section
variable {P:Program}{w:World}{H:Hp}{h h':Heap}{x e:Addr}{o':HO}
def tw.write(p:tw P w H h) (i:W0 (H x)) (o:e=x\/H e=Y (.own x)) (k:∀b u,b≠e->h.get? b=Y u->h'.get? b=Y u) (m:∃u,h'.get? e=Y u)
  (l:iU P w (upd H x o') h' x o'):tw P w (upd H x o') h':=λb u q=>by
 have d:∀c y,H c=Y (.own y)->c≠x:=λc y r z=>by subst z;rw[r] at i;exact i
 have f:∀c g,H c=Y (.tup g)->c≠x:=λc g r z=>by subst z;rw[r] at i;exact i
 by_cases j:b=x
 ·subst j;rw[fx] at q;cases q;exact l
 ·rw[ee j] at q;by_cases a:b=e
  ·have n:H b=Y (.own x):=by
    rcases o with z|z
    ·exact absurd (a.trans z) j
    ·rw[a];exact z
   rw[q] at n;cases n;obtain⟨v,s⟩:=m;exact⟨v,by rw[a];exact s⟩
  ·refine(p b u q).vq (λc v hc r=>k c v ?_ r) (λc r=>by rw[ee (d c b r)];exact r) λc g r=>by rw[ee (f c g r)];exact r
   rcases hc with rfl|hc
   ·exact a
   ·rintro rfl;rcases o with z|z
    ·exact d c b hc z
    ·rw[hc] at z;cases z;exact j rfl
end
structure Un (fs ex:List Addr) (H H':Hp) (h h':Heap):Prop where
 keep:∀b o,h.get? b=Y o->H b=Z->b∉fs->b∉ex->h'.get? b=Y o
 slot:∀b o,h.get? b=Y o->H b=Z->b∈fs->b∉ex->∃sl,h'.get? b=Y { o with slots:=sl }
 free:∀b o,h.get? b=Y o->H b=Z->b∉ex->H' b=Z
 there:∀b o,h.get? b=Y o->b∉ex->∃o',h'.get? b=Y o'
 vt:∀b xs,H b=Y (.tup xs)->H' b=Y (.tup xs)
 tB:∀b o u,H b=Y (.ud o u)->H' b=Y (.ud o u)
 wY:∀b ps,H b=Y (.P1 ps)->∃more,H' b=Y (.P1 (ps++more))
section
variable {fs fs' ex ex':List Addr}{H H1 H2:Hp}{h h1 h2 h':Heap}{x e:Addr}{o:HO}
def Un.any(u:Un fs ex H H1 h h1){b:Addr}{a:Obj}(q:h.get? b=Y a)(n:H b=Z)(c:b∉ex):∃e,h1.get? b=Y { a with slots:=e }:=by
 by_cases d:b∈fs
 ·exact u.slot b a q n d c
 ·exact⟨a.slots,u.keep b a q n d c⟩
def Un.kept(k:∀b u,h.get? b=Y u->h'.get? b=Y u):Un fs ex H H h h' :=
 ⟨λb a q _ _ _=>k b a q,λb a q _ _ _=>⟨a.slots,k b a q⟩,λ_ _ _ n _=>n,λb a q _=>⟨a,k b a q⟩,λ_ _ q=>q,λ_ _ _ q=>q,λ_ c q=>⟨#[],by rw[q];simp⟩⟩
def Un.refl:Un fs ex H H h h:=Un.kept λ_ _ q=>q
def Un.laid(k:∀b u,h.get? b=Y u->h'.get? b=Y u)(e:h.objs.size<=a)(c:H a=Z):Un fs ex H (upd H a o) h h' where
 keep:=λb u q _ _ _=>k b u q
 slot:=λb u q _ _ _=>⟨u.slots,k b u q⟩
 free:=λb u q n _=>by rw[ee (aN (aE (aw q) e))];exact n
 there:=λb u q _=>⟨u,k b u q⟩
 vt:=λb d q=>by rw[ee (gp q c)];exact q
 tB:=λb u d q=>by rw[ee (gp q c)];exact q
 wY:=λb f q=>⟨#[],by rw[ee (gp q c),q];simp⟩
def Un.write(c:W0 (H x))(m:e=x\/H e=Y (.own x))(k:∀b u,b≠e->h.get? b=Y u->h'.get? b=Y u)(f:∃u,h'.get? e=Y u):Un fs ex H (upd H x o) h h':=by
 have g:∀b,H b=Z->b≠x:=λb n z=>by subst z;rw[n] at c;exact c
 have i:∀b,H b=Z->b≠e:=λb n z=>by
  subst z;rcases m with r|r
  ·exact g b n r
  ·rw[n] at r;cases r
 have d:∀b u,H b=Y u->¬ W0 (Y u)->b≠x:=λb u q l z=>by subst z;rw[q] at c;exact l c
 refine⟨λb u q n _ _=>k b u (i b n) q,λb u q n _ _=>⟨u.slots,k b u (i b n) q⟩,λb u q n _=>by rw[ee (g b n)];exact n,λb u q _=>?_,
  λb j q=>by rw[ee (d b _ q λz=>z)];exact q,λb u j q=>by rw[ee (d b _ q λz=>z)];exact q,λb p q=>⟨#[],by rw[ee (d b _ q λz=>z),q];simp⟩⟩
 by_cases a:b=e
 ·subst a;exact f
 ·exact⟨u,k b u a q⟩
end
def Zs(h:Heap)(H:Hp):List Addr:=(List.range h.objs.size).filter λa=>(H a).isSome
def Cc(h:Heap)(H:Hp):Heap:=W.hideAll h (Zs h H)
def Ka(h:Heap)(H:Hp):(Cc h H).objs.size=h.objs.size:=W.hideAll_size _ _
def L6{h:Heap}{H:Hp}{b:Addr}{o:Obj}(e:h.get? b=Y o)(n:H b=Z):(Cc h H).get? b=Y o :=
 W.hideAll_get _ e λa=>by have q:(H b).isSome=true:=(List.mem_filter.mp a).2;rw[n] at q;simp at q
def P2{h:Heap}{H:Hp}{b:Addr}{o:Obj}(e:(Cc h H).get? b=Y o):h.get? b=Y o/\H b=Z:=by
 have a:h.get? b=Y o:=W.of_hideAll (Zs h H) e;refine⟨a,?_⟩;cases q:H b with
 |none=>rfl
 |some x=>have c:b∈Zs h H:=List.mem_filter.mpr ⟨List.mem_range.mpr (aw a),by simp[q]⟩;have z:(Cc h H).get? b=Z:=W.hideAll_none (Zs h H) c;rw[z] at e;cases e
end L2
variable  {H G:L2.Hp}{v:L2.V}{vs:List L2.V}{kv:List (L2.Key×L2.V)}{B:List (PySem.Addr×L2.HO)}
namespace L2
open PySem PySem.Spec PyProof.Rows
structure Mod (K:Fg) (mg:Str->Ow) (base:Heap):Prop where
 Ur:K.In base
 glob:base.Ns mainGlobals mg
 blt:∃mb,base.Ns builtinsNs mb/\∀x:Str,x≠"__name__"->mb x=bootBuiltins x
 nolimit:base.NoLimit
structure Cx where
 prog:Program
 w:World
 K:Fg
 mg:Str->Ow
 base:Heap
 A:Around
 N:Lr
 s₀:Shared
 H₀:Hp
 env:Env
 outer:List Env
 stack:List Env
 ex:List Addr
 fn:Str->Bool
 calm:Bool
 pn:Ax
 xe:Px
def Gs(l:List Env):List Addr:=l.filterMap (·.frame)
abbrev Cx.fs(X:Cx):List Addr:=Gs X.outer
def LZ(a:Scope)(x:Str):Prop:=a.names.lookup x=Y .local\/a.names.lookup x=Y .cell\/a.names.lookup x=Y .free
def Iv(a:Scope)(x:Str):Prop:=a.names.lookup x=Y .local\/a.names.lookup x=Y .cell
def ZT(a:Env)(h:Heap)(m:Str->Ow)(x:Str)(u:Value):Prop :=
 (a.kindOf x=Y .local/\m x=Y u)\/((a.kindOf x=Y .cell\/a.kindOf x=Y .free)/\∃c,a.cells.lookup x=Y c/\h.IsCell c (Y u))
structure Cx.Ok (X:Cx):Prop where
 mod:Mod X.K X.mg X.base
 kind:X.env.scope.kind=.function
 glob:X.env.globals=mainGlobals
 blt:X.env.builtins=builtinsNs
 above:(zB X.s₀)<=X.env.locals
 inj:∀x y c,X.env.cells.lookup x=Y c->X.env.cells.lookup y=Y c->x=y
 has:∀x,(X.env.kindOf x=Y .cell\/X.env.kindOf x=Y .free)->∃c,X.env.cells.lookup x=Y c
 W2:∀x c,X.fn x=true->X.env.cells.lookup x=Y c->(zB X.s₀)<=c
 hd:X.calm=true->X.A.handled=Z
 frames:X.A.frames=Y X.stack
 W3:X.stack=X.outer\/(X.stack=X.env::X.outer/\X.env.frame=Y X.env.locals)
 exf:∀b∈X.ex,b≠X.env.locals/\∀x c,X.env.cells.lookup x=Y c->c≠b
 bs:∀b o,X.base.get? b=Y o->X.s₀.heap.get? b=Y o/\X.H₀ b=Z
 Tr:X.base.objs.size<=(zB X.s₀)
 L7:∀b o,X.base.get? b=Y o->b∉X.ex
 Gw:∀b∈X.ex,b∉X.fs
 tE:X.s₀.heap.FunFrames X.base X.outer
 L8:∀b∈X.fs,X.H₀ b=Z
structure fu (X:Cx) (pins:Ax) (σ:List (Option V)) (H:Hp) (s:Shared):Prop where
 ok:X.Ok
 os:s.os=X.s₀.os
 bare:AllBare s.gens
 base:Un X.fs X.ex X.H₀ H X.s₀.heap s.heap
 loc:∃m,s.heap.Ns X.env.locals m/\∀(i:Nat) (x:Str) (v:V),X.N[i]?=Y x->σ[i]?=Y (Y v)->LZ X.env.scope x->∃u,fQ v u/\ZT X.env s.heap m x u
 cell:∀x c,X.env.cells.lookup x=Y c->∃v,s.heap.IsCell c v
 free:H X.env.locals=Z
 nA:∀x c,X.env.cells.lookup x=Y c->H c=Z
 pin:∀p∈X.pn++pins,s.heap.get? p.1=Y p.2/\H p.1=Z/\p.1≠X.env.locals/\p.1∉X.fs/\∀v,p.2.data≠.cell v
 iS:tw X.prog X.w H s.heap
 len:σ.length=X.N.length
section
variable {X:Cx}{σ:List (Option V)}{H':Hp}{h':Heap}
def Cx.Ok.ZU(a:X.Ok){b:Addr}{o:Obj}(e:X.base.get? b=Y o):b∉X.fs:=λc=>by have:=(a.tE.mem c).1;rw[e] at this;cases this
theorem fu.bs(I:fu X pins σ H s):∀b o,X.base.get? b=Y o->s.heap.get? b=Y o/\H b=Z:=λb o e=>
 ⟨I.base.keep b o (I.ok.bs b o e).1 (I.ok.bs b o e).2 (I.ok.ZU e) (I.ok.L7 b o e),I.base.free b o (I.ok.bs b o e).1 (I.ok.bs b o e).2 (I.ok.L7 b o e)⟩
def fu.bk(I:fu X pins σ H s):∀b o,X.base.get? b=Y o->s.heap.get? b=Y o:=λb o e=>(I.bs b o e).1
theorem fu.mod(I:fu X pins σ H s):Mod X.K X.mg X.base:=I.ok.mod
def fu.ue(I:fu X pins σ H s):X.K.In s.heap:=I.ok.mod.Ur.keeps I.bk
theorem fu.lt(I:fu X pins σ H s):X.env.locals<(zB s):=by obtain⟨_,a,_⟩:=I.loc;exact a.lt
def fu.sz(I:fu X pins σ H s):(zB X.s₀)<=(zB s):=bK I.ok.above (dY I.lt)
def fu.ZV(I:fu X pins σ H s)(h:(zB s)<=a):a∉X.fs:=λc=>by obtain⟨_,o,b,_⟩:=I.ok.tE.mem c;exact absurd (aE (aw b) (bK I.sz h)) (aZ _)
def fu.ZW(I:fu X pins σ H s):∀x c,X.env.cells.lookup x=Y c->c≠X.env.locals:=λx c e z=>by obtain⟨v,o,d,f⟩:=I.cell x c e;obtain⟨m,⟨g,h,i,a,b,_⟩,_⟩:=I.loc;rw[z,a] at d;cases d;rw[b] at f;cases f
theorem fu.tE(I:fu X pins σ H s):s.heap.FunFrames X.base X.outer:=by
 have d:∀(l:List Env),(∀b∈Gs l,b∈X.fs)->X.s₀.heap.FunFrames X.base l->s.heap.FunFrames X.base l:=by
  intro l;induction l with
  |nil=>intro _ _;trivial
  |cons p r g=>intro f k;obtain⟨m,⟨L,o,a,j,i,n⟩,h⟩:=k;have c:L∈X.fs:=f L (by unfold Gs;rw[cv,a];exact ba);obtain⟨q,e⟩:=I.base.slot L o i (I.ok.L8 L c) c λz=>I.ok.Gw L z c;exact⟨m,⟨L,_,a,j,e,n⟩,g (λb hb=>f b (by unfold Gs;rw[cv,a];exact aj _ hb)) h⟩
 exact d X.outer (λ_ hb=>hb) I.ok.tE
theorem fu.stack(I:fu X pins σ H s):s.heap.FunFrames X.base X.stack:=by
 rcases I.ok.W3 with e | ⟨e,b⟩
 ·rw[e];exact I.tE
 ·rw[e];obtain⟨m,a,_⟩:=I.loc;refine .cons (by rw[I.ok.kind];decide) b a ?_ I.tE;exact Heap.get?_none_of_le (bK I.ok.Tr I.ok.above)
def fu.Cd(I:fu X pins σ H s):∀b∈Gs X.stack,b∈X.env.locals::X.fs:=λb a=>by
 rcases I.ok.W3 with e | ⟨e,c⟩
 ·rw[e] at a;exact aj _ a
 ·rw[e] at a;unfold Gs at a;rw[cv,c] at a;exact a
def fu.Iw(I:fu X pins σ H s):∀b∈Gs X.stack,H b=Z:=λb hb=>by
 rcases av.mp (I.Cd b hb) with e|hb
 ·rw[e];exact I.free
 ·obtain⟨_,o,a,_⟩:=I.ok.tE.mem hb;exact I.base.free b o a (I.ok.L8 b hb) λz=>I.ok.Gw b z hb
def fu.step{g':Array GenState}{t':Nat}{d':Drawn}{ch:List Addr} (I:fu X pins σ H s)
  (j:∀b∈ch,(b∈X.ex\/(zB X.s₀)<=b)/\b≠X.env.locals/\(∀x c,X.env.cells.lookup x=Y c->c≠b)/\∀p∈X.pn++pins,p.1≠b)
  (h:∀b o,b≠X.env.locals->b∉X.fs->b∉ch->s.heap.get? b=Y o->H b=Z->h'.get? b=Y o)
  (B:∀b o,b≠X.env.locals->b∈X.fs->b∉ch->s.heap.get? b=Y o->H b=Z->∃sl,h'.get? b=Y { o with slots:=sl }) (f:∀b o,b∉ch->s.heap.get? b=Y o->H b=Z->H' b=Z)
  (C:∀b o,b∉ch->s.heap.get? b=Y o->∃o',h'.get? b=Y o')
  (F:∀b xs,H b=Y (.tup xs)->H' b=Y (.tup xs)) (K:∀b o u,H b=Y (.ud o u)->H' b=Y (.ud o u)) (G:∀b ps,H b=Y (.P1 ps)->∃more,H' b=Y (.P1 (ps++more)))
  (T:∀m,s.heap.Ns X.env.locals m->h'.Ns X.env.locals m) (N:tw X.prog X.w H' h') (hg:AllBare g'):
  fu X pins σ H' { s with heap:=h',gens:=g',drawn:=d',toks:=t' }:=by
 have J:∀b o,X.s₀.heap.get? b=Y o->b≠X.env.locals:=λb o e=>aN (aE (aw e) I.ok.above);have y:∀b o,X.s₀.heap.get? b=Y o->b∉X.ex->b∉ch:=λb o e a D=>by
  rcases(j b D).1 with z|z
  ·exact a z
  ·exact absurd (aE (aw e) z) (aZ _)
 have t:∀x c,X.env.cells.lookup x=Y c->∀v,s.heap.IsCell c v->h'.IsCell c v:=by
  rintro x c e v ⟨o,E,O⟩;have g:c∉ch:=λz=>(j c z).2.2.1 x c e rfl;by_cases S:c∈X.fs
  ·obtain⟨sl,q⟩:=B c o (I.ZW x c e) S g E (I.nA x c e);exact⟨_,q,O⟩
  ·exact⟨o,h c o (I.ZW x c e) S g E (I.nA x c e),O⟩
 refine⟨I.ok,I.os,hg,⟨λb o e n D a=>?_,λb o e n D a=>?_,λb o e n a=>?_,λb o e a=>?_,λb xs e=>F b xs (I.base.vt b xs e),λb o xs e=>K b o xs (I.base.tB b o xs e),λb ps e=>?_⟩,?_,λx c e=>?_,?_,λx c e=>?_,λp R=>?_,N,I.len⟩
 ·exact h b o (J b o e) D (y b o e a) (I.base.keep b o e n D a) (I.base.free b o e n a)
 ·obtain⟨sl,A⟩:=I.base.slot b o e n D a;obtain⟨M,L⟩:=B b _ (J b o e) D (y b o e a) A (I.base.free b o e n a);exact⟨M,L⟩
 ·obtain⟨o',A⟩:=I.base.there b o e a;exact f b o' (y b o e a) A (I.base.free b o e n a)
 ·obtain⟨o',A⟩:=I.base.there b o e a;exact C b o' (y b o e a) A
 ·obtain⟨V,A⟩:=I.base.wY b ps e;obtain⟨U,L⟩:=G b _ A;exact⟨V++U,by rw[L,Array.append_assoc]⟩
 ·obtain⟨m,W,hl⟩:=I.loc;refine⟨m,T m W,λi x v A L e3=>?_⟩;obtain⟨u,r,l⟩:=hl i x v A L e3;refine⟨u,r,?_⟩;rcases l with l | ⟨k,c,e,z⟩
  ·exact .inl l
  ·exact .inr ⟨k,c,e,t x c e _ z⟩
 ·obtain⟨v,z⟩:=I.cell x c e;exact⟨v,t x c e v z⟩
 ·obtain⟨m,⟨o,_,_,E,_⟩,_⟩:=I.loc;exact f _ o (λz=>(j _ z).2.1 rfl) E I.free
 ·obtain⟨v,o,E,O⟩:=I.cell x c e;exact f c o (λz=>(j c z).2.2.1 x c e rfl) E (I.nA x c e)
 ·obtain⟨e,n,Q,P,d⟩:=I.pin p R;have g:p.1∉ch:=λz=>(j p.1 z).2.2.2 p R rfl;exact⟨h p.1 p.2 Q P g e n,f p.1 p.2 g e n,Q,P,d⟩
def fu.un{t':Nat}(I:fu X pins σ H s)(u:Un X.fs [] H H' s.heap h')(c:tw X.prog X.w H' h'):fu X pins σ H' { s with heap:=h',toks:=t' }:=by obtain⟨m,⟨o,p,q,g,r⟩,_⟩:=id I.loc;obtain⟨j,i⟩:=u.any g I.free (by simp);exact I.step (g':=s.gens) (d':=s.drawn) (ch:=[]) (λ_ z=>nomatch z) (λb o _ hb _ e n=>u.keep b o e n hb (by simp)) (λb o _ hb _ e n=>u.slot b o e n hb (by simp)) (λb o _ e n=>u.free b o e n (by simp)) (λb o _ e=>u.there b o e (by simp)) u.vt u.tB u.wY (λl hm=>by obtain⟨k,d,f,a,h⟩:=hm;rw[g] at a;cases a;exact⟨_,d,f,i,h⟩) c I.bare
def fu.call{g':Array GenState}{t':Nat}{d':Drawn}{ch:List Addr} (I:fu X pins σ H s) (u:Un (Gs X.stack) ch H H' s.heap h') (f:tw X.prog X.w H' h') (l:AllBare g')
  (d:∀b∈ch,(b∈X.ex\/(zB X.s₀)<=b)/\b≠X.env.locals/\(∀x c,X.env.cells.lookup x=Y c->c≠b)/\∀p∈X.pn++pins,p.1≠b):
  fu X pins σ H' { s with heap:=h',gens:=g',drawn:=d',toks:=t' }:=by
 obtain⟨m,⟨o,y,A,j,r⟩,_⟩:=id I.loc;obtain⟨q,g⟩:=u.any j I.free λz=>(d _ z).2.1 rfl;exact I.step (ch:=ch) d (λb o g hb hc e n=>u.keep b o e n (λz=>(av.mp (I.Cd b z)).elim g hb) hc) (λb o _ _ hc e n=>u.any e n hc) (λb o hc e n=>u.free b o e n hc) (λb o hc e=>u.there b o e hc) u.vt u.tB u.wY (λv hm=>by obtain⟨t,h,i,a,k⟩:=hm;rw[j] at a;cases a;exact⟨_,h,i,g,k⟩) f l
def fu.turned{t':Nat}{it:Addr} (I:fu X pins σ H s) (k:∀b o,b≠it->s.heap.get? b=Y o->h'.get? b=Y o) (g:H it=Z) (d:it≠X.env.locals)
  (j:it∈X.ex\/(zB X.s₀)<=it) (i:∀x c,X.env.cells.lookup x=Y c->c≠it) (h:∀p∈X.pn++pins,p.1≠it):fu X pins σ H { s with heap:=h',toks:=t' }:=by
 have a:∀b u,H b=Y u->b≠it:=λb u e z=>by rw[z,g] at e;cases e
 refine I.step (g':=s.gens) (d':=s.drawn) (ch:=[it]) (λb hb=>?_) (λb o _ _ hc e _=>k b o (λz=>hc (by simp[z])) e) (λb o _ _ hc e _=>⟨o.slots,k b o (λz=>hc (by simp[z])) e⟩) (λ_ _ _ _ n=>n)
  (λb o hc e=>⟨o,k b o (λz=>hc (by simp[z])) e⟩) (λ_ _ e=>e) (λ_ _ _ e=>e) (λb ps e=>⟨#[],by rw[e];simp⟩) (λm hm=>?_) (λb u e=>?_) I.bare
 ·have e:b=it:=by simpa using hb
  subst e;exact⟨j,d,i,h⟩
 ·obtain⟨o,l,t,f,r⟩:=hm;exact⟨o,l,t,k _ o (Ne.symm d) f,r⟩
 ·refine(I.iS b u e).vq (λc v hc q=>k c v ?_ q) (λ_ q=>q) λ_ _ q=>q;rcases hc with z|z
  ·rw[z];exact a b u e
  ·exact a c _ z
def fu.tok(I:fu X pins σ H s)(t:Nat):fu X pins σ H { s with toks:=t }:=I.un (h':=s.heap) (t':=t) Un.refl I.iS
theorem fu.kept{t':Nat}(I:fu X pins σ H s)(k:∀b u,s.heap.get? b=Y u->h'.get? b=Y u):fu X pins σ H { s with heap:=h',toks:=t' }:=I.un (Un.kept k) (I.iS.kept k)
theorem fu.laid{a:Addr}{o:HO}{t':Nat}(I:fu X pins σ H s)(k:∀b u,s.heap.get? b=Y u->h'.get? b=Y u)(d:(zB s)<=a)(c:iU X.prog X.w (upd H a o) h' a o):
  fu X pins σ (upd H a o) { s with heap:=h',toks:=t' }:=I.un (Un.laid k d (I.iS.fresh d)) (I.iS.laid k d c)
theorem fu.write{x e:Addr}{o:HO}{g:Nat} (I:fu X pins σ H s) (d:W0 (H x)) (f:e=x\/H e=Y (.own x)) (k:∀b u,b≠e->s.heap.get? b=Y u->h'.get? b=Y u) (a:∃u,h'.get? e=Y u)
  (c:iU X.prog X.w (upd H x o) h' x o):fu X pins σ (upd H x o) { s with heap:=h',toks:=g }:=I.un (Un.write d f k a) (I.iS.write d f k a c)
def fu.qd{a:Ax}(I:fu X pins σ H s)(h:∀p∈a,s.heap.get? p.1=Y p.2/\H p.1=Z/\p.1≠X.env.locals/\p.1∉X.fs/\∀v,p.2.data≠.cell v):fu X a σ H s :=
 ⟨I.ok,I.os,I.bare,I.base,I.loc,I.cell,I.free,I.nA,λp b=>(aP.mp b).elim (λz=>I.pin p (aM _ z)) (h p),I.iS,I.len⟩
def D9{N:Lr}(c:N.Nodup){j:Nat}(a:N[i]?=Y x)(b:N[j]?=Y x):i=j:=by obtain⟨g,e⟩:=ay.mp a;obtain⟨f,d⟩:=ay.mp b;exact(List.getElem_inj c).mp (e.trans d.symm)
def Kb{M:Model}{u:Value}{Q:Unit->Shared->Prop} (I:fu X pins σ H s) (hN:X.N.Nodup) (R:X.N[i]?=Y x) (l:Iv X.env.scope x) (r:fQ v u)
  (h:∀s',fu X pins (σ.set i (Y v)) H s'->(∃a,Heap.SameBut a s.heap s'.heap/\(a=X.env.locals\/X.env.cells.lookup x=Y a))->Q () s') (hf:X.fn x=true\/X.env.scope.names.lookup x=Y .local:=by first|exact .inl rfl|exact .inr rfl|assumption):wpAny M A (storeName X.env x u) Q E s:=by
 obtain⟨m,hn,hl⟩:=id I.loc;have S:(X.env.scope.kind==.class||(X.env.scope.kind==.module&&X.env.locals != X.env.globals))=false:=by rw[I.ok.kind];rfl
 have D:i<σ.length:=by rw[I.len];exact(ay.mp R).1
 have K:=I.ZW;have f:∀{a:Addr}{L:Heap},(∃o,s.heap.get? a=Y o/\H a=Z)->Heap.SameBut a s.heap L->tw X.prog X.w H L:=λ{a L} ha hs b ob e=>by
  obtain⟨_,_,t⟩:=ha;refine(I.iS b ob e).vq (λc U hc q=>(hs.2 c ?_).trans q) (λ_ q=>q) λ_ _ q=>q;rintro rfl;rcases hc with rfl|hc
  ·rw[t] at e;cases e
  ·rw[t] at hc;cases hc
 rcases l with C|C
 ·refine wpAny_storeName_local C hn (λL hn' hs=>?_) S;obtain⟨oL,_,_,ZX,_⟩:=id hn;refine h _ ⟨I.ok,I.os,I.bare,⟨λb o e n J l=>?_,λb o e n J l=>?_,I.base.free,λb o e l=>?_,I.base.vt,I.base.tB,I.base.wY⟩,⟨_,hn',λj y v' g B e3=>?_⟩,λy c e=>?_,I.free,I.nA,λp hp=>?_,f ⟨oL,ZX,I.free⟩ hs,by simpa using I.len⟩ ⟨_,hs,.inl rfl⟩
  ·exact(hs.2 b (aN (aE (aw e) I.ok.above))).trans (I.base.keep b o e n J l)
  ·obtain⟨sl,g⟩:=I.base.slot b o e n J l;exact⟨sl,(hs.2 b (aN (aE (aw e) I.ok.above))).trans g⟩
  ·obtain⟨o',g⟩:=I.base.there b o e l;exact⟨o',(hs.2 b (aN (aE (aw e) I.ok.above))).trans g⟩
  ·by_cases F:j=i
   ·subst F;rw[R] at g;cases g;rw[aH D] at B;cases B;exact⟨u,r,.inl ⟨C,by simp⟩⟩
   ·rw[ax (Ne.symm F)] at B;obtain⟨u',r',q⟩:=hl j y v' g B e3;refine⟨u',r',?_⟩;rcases q with ⟨k,e⟩ | ⟨k,c,e,z⟩
    ·refine .inl ⟨k,?_⟩;have:y≠x:=λe=>F (D9 hN g (e▸R));simp[this,e]
    ·exact .inr ⟨k,c,e,z.sameBut hs (K y c e)⟩
  ·obtain⟨U,z⟩:=I.cell y c e;exact⟨U,z.sameBut hs (K y c e)⟩
  ·obtain⟨e,n,V,nf,d⟩:=I.pin p hp;exact⟨(hs.2 p.1 V).trans e,n,V,nf,d⟩
 ·have G:X.fn x=true:=by
   rcases hf with z|z
   ·exact z
   ·rw[z] at C;cases C
  obtain⟨c,hc⟩:=I.ok.has x (.inl C);obtain⟨U,z⟩:=I.cell x c hc;refine wpAny_storeName_cell I.ok.kind C hc z (λL W4 hs=>?_);obtain⟨oc,P,O⟩:=id z;refine h { s with heap:=L } ⟨I.ok,I.os,I.bare,⟨λb o e n J l=>?_,λb o e n J l=>?_,I.base.free,λb o e l=>?_,I.base.vt,I.base.tB,I.base.wY⟩,⟨m,hn.sameBut hs (Ne.symm (K x c hc)),λj y v' g B e3=>?_⟩,λy W e=>?_,I.free,I.nA,λp hp=>?_,f ⟨oc,P,I.nA x c hc⟩ hs,by simpa using I.len⟩ ⟨c,hs,.inr hc⟩
  ·exact(hs.2 b (aN (aE (aw e) (I.ok.W2 x c G hc)))).trans (I.base.keep b o e n J l)
  ·obtain⟨sl,g⟩:=I.base.slot b o e n J l;exact⟨sl,(hs.2 b (aN (aE (aw e) (I.ok.W2 x c G hc)))).trans g⟩
  ·obtain⟨o',g⟩:=I.base.there b o e l;exact⟨o',(hs.2 b (aN (aE (aw e) (I.ok.W2 x c G hc)))).trans g⟩
  ·by_cases F:j=i
   ·subst F;rw[R] at g;cases g;rw[aH D] at B;cases B;exact⟨u,r,.inr ⟨.inl C,c,hc,W4⟩⟩
   ·rw[ax (Ne.symm F)] at B;obtain⟨u',r',q⟩:=hl j y v' g B e3;refine⟨u',r',?_⟩;rcases q with q | ⟨k,W,e,z'⟩
    ·exact .inl q
    ·refine .inr ⟨k,W,e,z'.sameBut hs ?_⟩;rintro rfl;exact F (D9 hN g (I.ok.inj _ _ _ e hc▸R))
  ·by_cases T:W=c
   ·subst T;exact⟨_,W4⟩
   ·obtain⟨w2,z2⟩:=I.cell y W e;exact⟨w2,z2.sameBut hs T⟩
  ·obtain⟨e,n,V,nf,d⟩:=I.pin p hp;refine⟨(hs.2 p.1 ?_).trans e,n,V,nf,d⟩;intro q;rw[q,P] at e;have q':oc=p.2:=bu e;exact d U (by rw[<-q'];exact O)
def x3{M:Model}{u:Value}{Q:Unit->Shared->Prop} (I:fu X pins σ H s) (d:X.N.Nodup) (b:X.N[i]?=Y x) (a:Iv X.env.scope x) (r:fQ v u)
  (h:∀s',fu X pins (σ.set i (Y v)) H s'->Q () s') (c:X.fn x=true\/X.env.scope.names.lookup x=Y .local:=by first|exact .inl rfl|exact .inr rfl|assumption):wpAny M A (storeName X.env x u) Q E s :=
 Kb I d b a r (λs' e _=>h s' e) c
def fu.W5{s':Shared}{ch:List Addr} (I:fu X pins σ H s) (g:s'.os=s.os) (u:Un (Gs X.stack) ch H H' s.heap s'.heap) (a:tw X.prog X.w H' s'.heap) (h:AllBare s'.gens)
  (d:∀b∈ch,(b∈X.ex\/(zB X.s₀)<=b)/\b≠X.env.locals/\(∀x c,X.env.cells.lookup x=Y c->c≠b)/\∀p∈X.pn++pins,p.1≠b):fu X pins σ H' s':=by
 obtain⟨h',g',d',t',f⟩:=s';have e:f=s.os:=g;subst e;exact I.call (g':=g') (t':=t') (d':=d') u a h d
end
abbrev XK:=Value->Option Addr->Hp->Prop
abbrev St:=List (Option V)
abbrev VK:=V->Hp->Prop
abbrev TE:=St->Hp->VK->Prop
abbrev TT:=St->Hp->(Bool->Hp->Prop)->Prop
abbrev TA:=St->Hp->(List V->Hp->Prop)->Prop
structure Aj where
 nx:St->Hp->Prop
 rt:VK
 bk:St->Hp->Prop:=λ_ _=>False
 ct:St->Hp->Prop:=λ_ _=>False
abbrev TS:=Aj->St->Hp->Prop
def EP(X:Cx)(a:Ax)(σ:St)(Q:VK)(u:Value)(c:Shared):Prop:=∃v b,fu X a σ b c/\fQ v u/\Q v b
def TP(X:Cx)(a:Ax)(σ:St)(Q:Bool->Hp->Prop)(b:Bool)(d:Shared):Prop:=∃c,fu X a σ c d/\Q b c
def AP(X:Cx)(a:Ax)(σ:St)(Q:List V->Hp->Prop)(d:Lw)(e:Shared):Prop:=∃b c,fu X a σ c e/\fY b d/\Q b c
def SP(X:Cx)(a:Ax)(D:Aj)(f:Flow)(c:Shared):Prop :=
 match f with
 |.next=>∃σ' b,fu X a σ' b c/\D.nx σ' b
 |.brk=>∃σ' b,fu X a σ' b c/\D.bk σ' b
 |.cont=>∃σ' b,fu X a σ' b c/\D.ct σ' b
 |.ret u=>∃v σ' b,fu X a σ' b c/\fQ v u/\D.rt v b
def PE(X:Cx)(e:Expr)(t:TE):Prop :=
 ∀⦃a:Ax⦄ (s:Shared) (σ:St) (H:Hp) (Q:VK),fu X a σ H s->t σ H Q->(zw X) (eval e X.env) (EP X a σ Q) X.xe s
def PT(X:Cx)(e:Expr)(t:TT):Prop :=
 ∀⦃a:Ax⦄ (s:Shared) (σ:St) (H:Hp) (Q:Bool->Hp->Prop),fu X a σ H s->t σ H Q->(zw X) (isTrue e X.env (eval e X.env)) (TP X a σ Q) X.xe s
def PW(X:Cx)(e:Expr)(t:TT):Prop :=
 ∀⦃a:Sem Value⦄ (pins:Ax) (s:Shared) (σ:St) (H:Hp) (Q:Bool->Hp->Prop),fu X pins σ H s->t σ H Q->(zw X) (isTrue e X.env a) (TP X pins σ Q) X.xe s
def PW.pt{X:Cx}{t:TT}(h:PW X e t):PT X e t:=@h _
def PA(X:Cx)(b:Lx)(t:TA):Prop :=
 ∀⦃a:Pos⦄ (pins:Ax) (s:Shared) (σ:St) (H:Hp) (Q:List V->Hp->Prop),fu X pins σ H s->t σ H Q->(zw X) (spliced (backTo a (starEach b X.env))) (AP X pins σ Q) X.xe s
def PS(X:Cx)(b:Stmt)(t:TS):Prop :=
 ∀⦃a:Ax⦄ (s:Shared) (σ:St) (H:Hp) (D:Aj),fu X a σ H s->t D σ H->(zw X) (exec b X.env) (SP X a D) X.xe s
def vu(X:Cx)(b:List Stmt)(t:TS):Prop :=
 ∀⦃a:Ax⦄ (s:Shared) (σ:St) (H:Hp) (D:Aj),fu X a σ H s->t D σ H->(zw X) (execs b X.env) (SP X a D) X.xe s
def hZ{t:Sem α}{Q b:α->Shared->Prop}{M:Model}(h:wpAny M A t Q E s)(c:∀a s,Q a s->b a s):wpAny M A t b E s:=bU h c λ_ _ x=>x
end L2
variable  {X:L2.Cx}{σ:L2.St}
namespace L2
open PySem PySem.Spec PyProof.Rows
section
def ZY(i:Nat):TE:=λσ H Q=>∃v,σ[i]?=Y (Y v)/\Q v H
def tC(v:V):TE:=λ_ H Q=>Q v H
def qT(t:X.N[i]?=Y x)(n:LZ X.env.scope x)(g:zg x:=by decide)(j:(x==("__classdict__":Str))=false:=by decide):PE X (.Name x pos) (ZY i):=by
 intro f s σ H Q I h;obtain⟨v,e,h⟩:=h;obtain⟨m,o,q⟩:=I.loc;obtain⟨u,r,l⟩:=q i x v t e n;have d:EP X f σ Q u s:=⟨v,H,I,r,h⟩
 rcases l with ⟨b,p⟩ | ⟨b,c,k,a⟩
 ·exact wpAny_Name (wpAny_loadName_local I.ok.kind b o p d) g
 ·rcases b with b|b
  ·exact wpAny_Name (wpAny_loadName_cell I.ok.kind b k a d) g
  ·exact wpAny_Name (wpAny_loadName_free I.ok.kind b k a d j) g
def Us{i j pos}:PE X (.Constant (.int i) j pos) (tC (.int i)):=λ_ _ _ H _ I h=>wpAny_Constant_int ⟨.int i,H,I.tok _,⟨_,rfl⟩,h⟩
def W6{b j pos}:PE X (.Constant (.bool b) j pos) (tC (.bl b)):=λ_ _ _ H _ I h=>Constant_bool ⟨.bl b,H,I,rfl,h⟩
def Ut{j pos}:PE X (.Constant .none j pos) (tC .lB):=λ_ _ _ H _ I h=>Constant_none ⟨.lB,H,I,rfl,h⟩
def Uu{x j pos}:PE X (.Constant (.str x) j pos) (tC (.str x)):=λ_ _ _ H _ I h=>Calls.Constant_str ⟨.str x,H,I.tok _,⟨_,rfl⟩,h⟩
def Gl(X:Cx)(x:Str):Prop:=X.env.kindOf x=Y .globalImplicit
def oP{u:Value}{Q:Px} (I:fu X pins σ H s) (b:Gl X x) (a:X.mg x=Y u) (h:Q u s)
  (c:zg x:=by decide):(zw X) (eval (.Name x pos) X.env) Q E s :=
 d4 I.ok.kind b (Calls.loadGlobal_global (by rw[I.ok.glob];exact I.mod.glob.keeps I.bk) a h) c
def pb{u:Value}{Q:Px} (I:fu X pins σ H s) (d:Gl X x) (c:X.mg x=Z) (a:bootBuiltins x=Y u) (h:Q u s)
  (b:x≠"__name__":=by decide) (e:zg x:=by decide):(zw X) (eval (.Name x pos) X.env) Q E s:=by
 obtain⟨i,g,f⟩:=I.mod.blt;exact d4 I.ok.kind d (Calls.loadGlobal_builtin (by rw[I.ok.glob];exact I.mod.glob.keeps I.bk) c (by rw[I.ok.blt];exact g.keeps I.bk) ((f x b).trans a) h) e
def xF{u:Value}(b:Gl X x)(a:X.mg x=Y u)(r:fQ v u)(c:zg x:=by decide):PE X (.Name x pos) (tC v) :=
 λ_ _ _ H _ I h=>oP I b a ⟨v,H,I,r,h⟩ c
def P4{u:Value}(d:Gl X x)(c:X.mg x=Z)(a:bootBuiltins x=Y u)(r:fQ v u)(b:x≠"__name__":=by decide)(e:zg x:=by decide):PE X (.Name x pos) (tC v) :=
 λ_ _ _ H _ I h=>pb I d c a ⟨v,H,I,r,h⟩ b e
variable {a:Expr}{ta tb:TE}
variable {tA Zt:TT}{rest:Lx}
def ZZ(t u:TT):TT:=λσ H Q=>t σ H λc a=>if c=true then u σ a Q else Q false a
def tOr(t u:TT):TT:=λσ H Q=>t σ H λc a=>if c=true then Q true a else u σ a Q
def Z0(t:TT):TT:=λσ H Q=>t σ H λc a=>Q (!c) a
def Iy(d:PT X a tA):PW X (.BoolOp .And [a] pos) tA:=by
 intro f b s σ H Q I h;refine isTrue_and (hZ (@d b s σ H Q I h) λc g e=>?_);cases c with
 |true=>exact isTrue_and_nil e
 |false=>exact e
def L9(d:PT X a tA):PW X (.BoolOp .Or [a] pos) tA:=by
 intro f b s σ H Q I h;refine isTrue_or (hZ (@d b s σ H Q I h) λc g e=>?_);cases c with
 |false=>exact isTrue_or_nil e
 |true=>exact e
def Ma(l:PT X a tA)(k:PW X (.BoolOp .And (b::rest) pos) Zt):PW X (.BoolOp .And (a::b::rest) pos) (ZZ tA Zt):=by
 intro i d s σ H Q I h;refine isTrue_and (hZ (@l d s σ H _ I h) ?_);rintro c j ⟨g,f,e⟩;cases c with
 |true=>exact @k i d j σ g Q f e
 |false=>exact⟨g,f,e⟩
def Ts(l:PT X a tA)(k:PW X (.BoolOp .Or (b::rest) pos) Zt):PW X (.BoolOp .Or (a::b::rest) pos) (tOr tA Zt):=by
 intro i d s σ H Q I h;refine isTrue_or (hZ (@l d s σ H _ I h) ?_);rintro c j ⟨g,f,e⟩;cases c with
 |true=>exact⟨g,f,e⟩
 |false=>exact @k i d j σ g Q f e
def Gx(d:PT X a tA):PT X (.UnaryOp .Not a pos) (Z0 tA):=by intro b s σ H Q I h;exact isTrue_not (@d b s σ H (λc H1=>Q (!c) H1) I h)
def W7(d b:TE):TE:=λσ H Q=>d σ H λx a=>∃c,x=.bl c/\if c=true then b σ a Q else Q (.bl false) a
def Mb{op}{t:TE}(h:PE X a t):PE X (.BoolOp op [a] pos) t:=λb s σ H Q I hw=>BoolOp_one (@h b s σ H Q I hw)
def Mc(l:PE X a ta)(k:PE X (.BoolOp .And (b::rest) pos) tb):PE X (.BoolOp .And (a::b::rest) pos) (W7 ta tb):=by
 intro d s σ H Q I h;refine BoolOp_and (hZ (@l d s σ H _ I h) ?_);rintro v i ⟨x,g,f,j,e⟩;obtain⟨c,rfl,e⟩:=e;cases j;refine cm ?_;cases c with
 |true=>exact @k d i σ g Q f e
 |false=>exact⟨.bl false,g,f,rfl,e⟩
def tIf(t:TT)(d b:TE):TE:=λσ H Q=>t σ H λc a=>if c=true then d σ a Q else b σ a Q
def Me{c:Expr}(k:PT X c tA)(m:PE X a ta)(l:PE X b tb):PE X (.IfExp c a b pos) (tIf tA ta tb):=by
 intro e s σ H Q I h;refine wpAny_IfExp (hZ (@k e s σ H _ I h) ?_);rintro d f ⟨j,i,g⟩;cases d with
 |true=>exact @m e f σ j Q i g
 |false=>exact @l e f σ j Q i g
end
def ng(K:Fg)(H:Hp)(a:Addr)(b:List V):Prop :=
 Rd H a (.lst b) \/
  ∃(o:Obj) (its:Array Value) (n:Nat),K.lookup a=Y o/\o.cls=.type "list"/\o.dict=Z/\o.data=.seq its n/\its.size<=sizeLine/\fY b its.toList
def qL(K:Fg)(H:Hp)(a:Addr)(b:List V):Prop :=
 Rd H a (.tup b) \/
  ∃(o:Obj) (its:Array Value) (n:Nat),K.lookup a=Y o/\o.cls=.type "tuple"/\o.data=.seq its n/\its.size<=sizeLine/\fY b its.toList
noncomputable def Z1:Value->Option V
 |.none=>Y .lB
 |.bool b=>Y (.bl b)
 |.int i _=>Y (.int i)
 |.str x _=>Y (.str x)
 |.bytes b _=>Y (.WO b)
 |.float b _=>Y (.Zr b)
 |.ref a=>Y (.ref a)
 |.type n=>Y (.ty n)
 |_=>Z
def fQ.abs{x:V}{u:Value}(r:fQ x u):Z1 u=Y x:=by
 cases x with
 |lB=>cases r;rfl
 |bl _=>cases r;rfl
 |int _=>obtain⟨t,rfl⟩:=r;rfl
 |str _=>obtain⟨t,rfl⟩:=r;rfl
 |WO _=>obtain⟨t,rfl⟩:=r;rfl
 |Zr _=>obtain⟨t,rfl⟩:=r;rfl
 |ref _=>cases r;rfl
 |ty _=>cases r;rfl
def fQ.inj{x y:V}{u:Value}(r:fQ x u)(q:fQ y u):x=y:=bu (r.abs.symm.trans q.abs)
theorem fY.inj:∀{b a:List V}{c:Lw},fY b c->fY a c->b=a
 |_,_,_,.nil,.nil=>rfl
 |_,_,_,.cons r t,.cons r' t'=>by rw[r.inj r',fY.inj t t']
section
variable {xs ys:List V}
def ng.of(h:H a=Y (.lst xs)):ng K H a xs:=.inl (.inl h)
def qL.of(h:H a=Y (.tup xs)):qL K H a xs:=.inl (.inl h)
def fu.list(I:fu X pins σ H s)(h:ng X.K H a xs):∃its:Lw,fY xs its/\PlainL s.heap a its.toArray/\xs.length<=sizeLine:=by
 rcases h with h | ⟨o,its,n,b,d,c,hs,hz,r⟩
 ·obtain⟨z,its,n,r,e⟩:=h.ok I.iS;exact⟨its,r,⟨_,n,e,rfl,rfl,rfl⟩,z⟩
 ·refine⟨its.toList,r,⟨o,n,I.ue a o b,d,c,by simpa using hs⟩,?_⟩;have e:=r.length;simp only[cw] at e;omega
def fu.tuple(I:fu X pins σ H s)(h:qL X.K H a xs):∃b:Lw,fY xs b/\IsTup s.heap a b.toArray/\xs.length<=sizeLine:=by
 rcases h with h | ⟨o,b,n,c,d,hs,hz,r⟩
 ·obtain⟨z,b,r,p⟩:=h.ok I.iS;exact⟨b,r,p,z⟩
 ·refine⟨b.toList,r,⟨o,I.ue a o c,d,n,by simpa using hs⟩,?_⟩;have e:=r.length;simp only[cw] at e;omega
def fu.x4(I:fu X pins σ H s)(h:ng X.K H a xs)(h':ng X.K H a ys):xs=ys:=by
 obtain⟨c,r,⟨o,n,e,_,_,d⟩,_⟩:=I.list h;obtain⟨b,i,⟨k,l,f,_,_,g⟩,_⟩:=I.list h';rw[e] at f;cases f;rw[d] at g;injection g with j _
 have:c=b:=by simpa using bL Array.toList j
 subst this;exact r.inj i
def fu.Kc(I:fu X pins σ H s)(h:qL X.K H a xs)(j:qL X.K H a ys):xs=ys:=by
 obtain⟨c,r,⟨o,e,_,n,d⟩,_⟩:=I.tuple h;obtain⟨b,i,⟨l,f,_,m,g⟩,_⟩:=I.tuple j;rw[e] at f;cases f;rw[d] at g;injection g with k _
 have:c=b:=by simpa using bL Array.toList k
 subst this;exact r.inj i
end
abbrev Cx.Ak(X:Cx)(E:Value->Shared->Prop):Cx:={ X with xe:=E }
abbrev Cx.Mf(X:Cx):Cx:=X.Ak λ_ _=>False
theorem Cx.Ok.Ak{X:Cx}(a:X.Ok)(E:Px):(X.Ak E).Ok :=
 ⟨a.mod,a.kind,a.glob,a.blt,a.above,a.inj,a.has,a.W2,a.hd,a.frames,a.W3,a.exf,a.bs,a.Tr,a.L7,a.Gw,a.tE,a.L8⟩
def Cx.Ok.qU(a:(X.Ak E).Ok):X.Ok :=
 ⟨a.mod,a.kind,a.glob,a.blt,a.above,a.inj,a.has,a.W2,a.hd,a.frames,a.W3,a.exf,a.bs,a.Tr,a.L7,a.Gw,a.tE,a.L8⟩
section
theorem fu.Ak(I:fu X pins σ H s)(E:Px):fu (X.Ak E) pins σ H s:=⟨I.ok.Ak E,I.os,I.bare,I.base,I.loc,I.cell,I.free,I.nA,I.pin,I.iS,I.len⟩
theorem fu.qU(I:fu (X.Ak E) pins σ H s):fu X pins σ H s:=⟨I.ok.qU,I.os,I.bare,I.base,I.loc,I.cell,I.free,I.nA,I.pin,I.iS,I.len⟩
theorem SP.qU{D:Aj}{f:Flow}{b:Shared}(h:SP (X.Ak E) pins D f b):SP X pins D f b:=by
 cases f with
 |next=>obtain⟨σ',a,I,q⟩:=h;exact⟨σ',a,I.qU,q⟩
 |brk=>obtain⟨σ',a,I,q⟩:=h;exact⟨σ',a,I.qU,q⟩
 |cont=>obtain⟨σ',a,I,q⟩:=h;exact⟨σ',a,I.qU,q⟩
 |ret u=>obtain⟨v,σ',a,I,r,q⟩:=h;exact⟨v,σ',a,I.qU,r,q⟩
theorem vu.Mf{b:List Stmt}{t:TS}(h:vu X.Mf b t):vu X b t:=λa s σ H D I hw=>
 bU (@h a s σ H D (I.Ak _) hw) (λ_ _ q=>q.qU) λ_ _ z=>False.elim z
end
section
variable {rest:List Stmt}{t u:TS}{te:TE}
def Tt:TS:=λD σ H=>D.nx σ H
def Z2(t u:TS):TS:=λD σ H=>t { D with nx:=u D } σ H
def Iz:vu X [] Tt:=λ_ _ σ H _ I h=>dN ⟨σ,H,I,h⟩
def Ea(d:PS X st t)(c:vu X rest u):vu X (st::rest) (Z2 t u):=by
 intro a s σ H D I h;refine wpAny_execs_cons (hZ (@d a s σ H { D with nx:=u D } I h) λf b q=>?_);cases f with
 |next=>obtain⟨σ',g,e,q⟩:=q;exact @c a b σ' g D e q
 |ret v=>exact q
 |brk=>exact q
 |cont=>exact q
def IA(b:PS X st t):vu X [st] t:=by
 intro a s σ H D I h;refine wpAny_execs_cons (hZ (@b a s σ H D I h) λf c q=>?_);cases f with
 |next=>exact dN q
 |ret v=>exact q
 |brk=>exact q
 |cont=>exact q
def Uv:TS:=λD σ H=>D.bk σ H
def W8:TS:=λD σ H=>D.ct σ H
def P5:PS X (.Pass pos) Tt:=λ_ _ σ H _ I h=>wpAny_Pass ⟨σ,H,I,h⟩
def Mg:PS X (.Break pos) Uv:=λ_ _ σ H _ I h=>wpAny_Break ⟨σ,H,I,h⟩
def Eb:PS X (.Continue pos) W8:=λ_ _ σ H _ I h=>wpAny_Continue ⟨σ,H,I,h⟩
def fu.quiet(I:fu X pins σ H s):interactive X.env=false:=by simp[interactive,I.ok.kind]
def W9(a:TE):TS:=λD σ H=>a σ H λ_ b=>D.nx σ b
def rY(d:PE X e te)(c:swapsWith e Z pos.line X.env=pure false:=by rfl):PS X (.Expr e pos) (W9 te):=by intro a s σ H D I h;exact wpAny_Expr_any (hZ (@d a s σ H _ I h) <| by rintro v i ⟨x,g,f,j,b⟩;exact⟨σ,g,f,b⟩) I.quiet c
def Z3(a:TE):TS:=λD σ H=>a σ H D.rt
def vv(d:PE X e te):PS X (.Return (Y e) pos) (Z3 te):=by intro a s σ H D I h;exact wpAny_Return_some (hZ (@d a s σ H _ I h) <| by rintro v i ⟨x,g,f,b,c⟩;exact⟨x,σ,g,f,b,c⟩)
def Xa:TS:=λD _ H=>D.rt .lB H
def IB:PS X (.Return Z pos) Xa:=λ_ _ σ H _ I h=>wpAny_Return_none ⟨.lB,σ,H,I,rfl,h⟩
def Z4(c:TT)(t u:TS):TS:=λD σ H=>c σ H λb a=>if b=true then t D σ a else u D σ a
def Mh{c:Expr}{a b:List Stmt}{f:TT}(l:PT X c f)(n:vu X a t)(m:vu X b u):PS X (.If c a b pos) (Z4 f t u):=by
 intro e s σ H D I h;refine wpAny_If (hZ (@l e s σ H _ I h) ?_);rintro d g ⟨k,j,i⟩;cases d with
 |true=>exact @n e g σ k D j i
 |false=>exact @m e g σ k D j i
def Mi:TS:=λ_ _ _=>False
def Ec:PS X st Mi:=λ_ _ _ _ _ _ h=>h.elim
def Kd{a:List Stmt}:vu X a Mi:=λ_ _ _ _ _ _ h=>h.elim
end
abbrev TG:=V->St->Hp->(St->Hp->Prop)->Prop
abbrev P6:=List V->St->Hp->(St->Hp->Prop)->Prop
def PG(X:Cx)(a:Expr)(t:TG):Prop :=
 ∀⦃b:Ax⦄ (s:Shared) (σ:St) (H:Hp) (v:V) (u:Value) (Q:St->Hp->Prop),fu X b σ H s->fQ v u->t v σ H Q ->
  (zw X) (assign a X.env u) (λ_ d=>∃σ' c,fu X b σ' c d/\Q σ' c) X.xe s
def PK(X:Cx)(c:Lx)(t:P6):Prop :=
 ∀⦃a:Ax⦄ (s:Shared) (σ:St) (H:Hp) (vs:List V) (us:Lw) (Q:St->Hp->Prop),fu X a σ H s->fY vs us->t vs σ H Q ->
  (zw X) (assignInOrder ((assignEach c X.env).map (·.2)) us) (λ_ d=>∃σ' b,fu X a σ' b d/\Q σ' b) X.xe s
abbrev P7:=V->V->V->Hp->(Hp->Prop)->Prop
def Ce(X:Cx)(t:P7):Prop :=
 ∀(a:Ax) (s:Shared) (σ:St) (H:Hp) (o i v:V) (ov b u:Value) (Q:Hp->Prop),fu X a σ H s->fQ o ov->fQ i b->fQ v u->t o i v H Q ->
  (zw X) (setItem ov b u) (λ_ d=>∃c,fu X a σ c d/\Q c) X.xe s
abbrev Zu:=V->V->Hp->VK->Prop
def WQ(X:Cx)(b:Operator)(t:Zu):Prop :=
 ∀(a:Ax) (s:Shared) (σ:St) (H:Hp) (x y:V) (v u:Value) (Q:VK),fu X a σ H s->fQ x v->fQ y u->t x y H Q ->
  (zw X) (inplaceOp b v u) (EP X a σ Q) X.xe s
section
def IC(i:Nat):TG:=λv σ H Q=>Q (σ.set i (Y v)) H
def ug(e:X.N.Nodup)(c:X.N[i]?=Y x)(b:Iv X.env.scope x)(d:X.fn x=true\/X.env.scope.names.lookup x=Y .local:=by first|exact .inl rfl|exact .inr rfl|assumption):PG X (.Name x pos) (IC i):=by intro a s σ H v u Q I r h;exact wpAny_assign_Name (x3 I e c b r (λg f=>⟨_,H,f,h⟩) d)
def Z5:P6:=λa σ H Q=>a=[]/\Q σ H
def Xb(t:TG)(u:P6):P6:=λa σ H Q=>∃v r,a=v::r/\t v σ H λσ' b=>u r σ' b Q
def ID:PK X [] Z5:=by intro a s σ H b c Q I r h;obtain⟨e,h⟩:=h;subst e;cases r;exact assignInOrder_nil ⟨σ,H,I,h⟩
def x5{t:TG}{u:P6} (i:PG X e t) (g:PK X es u)
  (f:(assignEach (e::es) X.env).map (·.2)=assign e X.env::(assignEach es X.env).map (·.2):=by rfl):PK X (e::es) (Xb t u):=by
 intro a s σ H m o Q I r h;obtain⟨v,n,j,h⟩:=h;subst j;cases r with
 |cons r c=>rw[f];refine assignInOrder_cons (hZ (@i a s σ H _ _ _ I r h) ?_);rintro _ b ⟨σ1,l,k,d⟩;exact @g a b σ1 l _ _ Q k c d
def Z6(K:Fg)(n:Nat)(t:P6):TG:=λv σ H Q=>∃a b,v=.ref a/\qL K H a b/\b.length=n/\t b σ H Q
def Mj{k:Nat}{t:P6} (w:X.calm=true) (h:PK X es t)
  (p:(assignEach es X.env).length=n:=by rfl) (d:(assignEach es X.env).findIdx? (·.1)=Z:=by rfl):PG X (.Tuple es k pos) (Z6 X.K n t):=by
 intro c s σ H v u Q I r hw;obtain⟨a,g,y,m,q,hw⟩:=hw;subst y;cases r;obtain⟨i,f,l,A⟩:=I.tuple m;refine assign_Tuple_tuple (I.ok.hd w) l (by simp[p,<-q,f.length]) d λx j=>?_;have z:fu X c σ H { s with heap:=x }:=I.kept (t':=s.toks) λb o e=>j b o (aN (aw e)) e;exact @h c _ σ H g _ Q z (by simpa using f) hw
def Z7(a b:TE)(t:P7):TG:=λv σ H Q=>a σ H λo e=>b σ e λi d=>t o i v d λc=>Q σ c
def Ml{i:Expr}{b c:TE}{t:P7} (n:PE X o b) (p:PE X i c) (m:Ce X t)
  (q:∀v,assign (.Subscript o i pos) X.env v=(do
   let ov <-holding [v] (eval o X.env);let iv <-holding [v,ov] (eval i X.env)
   standAt pos
   holding [v,ov,iv] (setItem ov iv v)
   release [v,ov,iv] []):=by intro _;rfl):PG X (.Subscript o i pos) (Z7 b c t):=by
 intro a s σ H v u Q I r h;rw[q];refine ae (bw (hZ (@n a s σ H _ I h) ?_));rintro ov e ⟨x,D,A,g,l⟩;refine ae (bw (hZ (@p a e σ D _ A l) ?_));rintro iv d ⟨y,C,z,f,k⟩;refine ae (wpAny_standAt (ae (bw (hZ (@m a d σ C x y v ov iv u _ z g f r k) ?_))));rintro _ E ⟨B,w,j⟩;exact wpAny_release ⟨σ,B,w,j⟩
def Uw(a:TE)(g:TG):TS:=λD σ H=>a σ H λx b=>g x σ b D.nx
def Mm{b:TE}{g:TG} (k:PE X e b) (j:PG X tg g) (i:swapsWithSole [tg] e pos.line X.env=pure false:=by rfl) (hw:swappedStores [tg] e X.env=pure Z:=by rfl)
  (l:(assignEach [tg] X.env).map (·.2)=[assign tg X.env]:=by rfl):PS X (.Assign [tg] e pos) (Uw b g):=by
 intro a s σ H D I h;refine wpAny_Assign_stores (hZ (@k a s σ H _ I h) ?_) i hw;rintro v c ⟨x,n,m,d,f⟩;rw[l];exact hZ (@j a c σ n x v _ m d f) λ_ o q=>q
def Gy{c:TE}{a:Pos}(n:X.N.Nodup)(k:X.N[i]?=Y x)(g:Iv X.env.scope x)(m:PE X e c)(j:swapsWith e (Y (.Name x a)) pos.line X.env=pure false:=by rfl)(l:X.fn x=true\/X.env.scope.names.lookup x=Y .local:=by first|exact .inl rfl|exact .inr rfl|assumption):
  PS X (.Assign [.Name x a] e pos) (Uw c (IC i)):=by
 intro b s σ H D I h;refine wpAny_Assign_Name (hZ (@m b s σ H _ I h) ?_) j;rintro v r ⟨y,q,p,d,f⟩;exact x3 p n k g d (λs2 o=>⟨_,q,o,f⟩) l
def Z8(i:Nat)(b:TE)(a:Zu):TS:=λD σ H=>∃x,σ[i]?=Y (Y x)/\b σ H λy d=>a x y d λz c=>D.nx (σ.set i (Y z)) c
def Mn{t:TE}{o:Operator}{q:Zu}{j:Pos}(S:X.N.Nodup)(A:X.N[i]?=Y x)(p:Iv X.env.scope x)(Q:PE X e t)(K:WQ X o q)(P:X.fn x=true\/X.env.scope.names.lookup x=Y .local:=by first|exact .inl rfl|exact .inr rfl|assumption):
  PS X (.AugAssign (.Name x j) o e pos) (Z8 i t q):=by
 intro a s σ H D I h;obtain⟨v,T,h⟩:=h;obtain⟨m,L,O⟩:=I.loc;have n:LZ X.env.scope x:=by rcases p with k|k;exact .inl k;exact .inr (.inl k)
 obtain⟨u,r,l⟩:=O i x v A T n;refine wpAny_AugAssign_Name ?_;have B:(zw X) (eval e X.env) (λw g=>(zw X) (inplaceOp o u w) (λr f=>(zw X) (storeName X.env x r) (λ_=>SP X a D .next) X.xe f) X.xe g) X.xe s:=by refine hZ (@Q a s σ H _ I h) ?_;rintro w C ⟨y,H1,W,F,J⟩;refine hZ (@K a C σ H1 v y u w _ W r F J) ?_;rintro z s2 ⟨zv,H2,V,E,G⟩;exact x3 V S A p E (λs3 U=>⟨_,H2,U,G⟩) P
 rcases l with ⟨b,M⟩ | ⟨b,c,R,d⟩
 ·exact wpAny_loadName_local I.ok.kind b L M B
 ·rcases b with b|b
  ·exact wpAny_loadName_cell I.ok.kind b R d B
  ·rcases p with k|k
   ·have:X.env.scope.names.lookup x=Y .free:=b;rw[k] at this;cases this
   ·have:X.env.scope.names.lookup x=Y .free:=b;rw[k] at this;cases this
def Xc(f:Int->Int->Int):Zu:=λx y H Q=>∃i j,x=.int i/\y=.int j/\Q (.int (f i j)) H
def Gz:WQ X .Add (Xc λi j=>i+j):=by intro a s σ H x y v u Q I c b h;obtain⟨i,j,e,d,q⟩:=h;subst e;subst d;obtain⟨t,rfl⟩:=c;obtain⟨f,rfl⟩:=b;exact iadd_int ⟨.int _,H,I.tok _,⟨_,rfl⟩,q⟩
def GA:WQ X .Sub (Xc λi j=>i - j):=by intro a s σ H x y v u Q I c b h;obtain⟨i,j,e,d,q⟩:=h;subst e;subst d;obtain⟨t,rfl⟩:=c;obtain⟨f,rfl⟩:=b;exact isub_int ⟨.int _,H,I.tok _,⟨_,rfl⟩,q⟩
end
section
def Ux(c:TT)(f:TS):TS:=λD σ H=>∃W:Nat->St->Hp->Prop,(∃m,W m σ H)/\∀m σ H,W m σ H ->
 c σ H λb d=>if b=true then ∃N:St->Hp->Prop,(∀σ' e,N σ' e->∃a,a<m/\W a σ' e)/\f { D with nx:=N,ct:=N,bk:=D.nx } σ d else D.nx σ d
def Ed{c:Expr}{d:List Stmt}{q:TT}{r:TS}(t:PassesOwn (model X.prog X.w) X.A X.env X.xe)(L:PT X c q)(M:vu X d r):PS X (.While c d [] pos) (Ux q r):=by
 intro a s σ H D I h;obtain⟨W,⟨K,E⟩,e⟩:=h;refine wpAny_While (codeAny_whileLoop (λn J=>∃σ' B,fu X a σ' B J/\W n σ' B) ?_ K ⟨σ,H,I,E⟩);rintro n G ⟨σ1,z,O,C⟩;refine cj t (hZ (@L a G σ1 z _ O (e n σ1 z C)) ?_);rintro b F ⟨y,x,j⟩;cases b with
 |true=>
  obtain⟨N,u,j⟩:=j;rw[ah rfl];refine cj t (hZ (@M a F σ1 y _ x j) λf P i=>?_);cases f with
  |next=>obtain⟨σ3,g,p,l⟩:=i;obtain⟨m,o,k⟩:=u σ3 g l;exact⟨m,o,σ3,g,p,k⟩
  |cont=>obtain⟨σ3,g,p,l⟩:=i;obtain⟨m,o,k⟩:=u σ3 g l;exact⟨m,o,σ3,g,p,k⟩
  |brk=>exact i
  |ret v=>exact i
 |false=>rw[ai aF];exact dN ⟨σ1,y,x,j⟩
end
structure It where
 go:Nat->Hp->Prop
 P8:Nat->Hp->V->Hp->Prop
 stop:Nat->Hp->Prop
def qM(X:Cx)(a:Ax)(H:Hp)(b:Addr):Prop :=
 H b=Z/\b≠X.env.locals/\b∉X.fs/\(b∈X.ex\/(zB X.s₀)<=b)/\(∀x c,X.env.cells.lookup x=Y c->c≠b)/\∀p∈X.pn++a,p.1≠b
def fu.Ee{d:Hp}{b:Addr}(I:fu X pins σ H s)(a:(zB s)<=b)(g:d b=Z):qM X pins d b:=by
 refine⟨g,dZ (aE I.lt a),I.ZV a,.inr (bK I.sz a),λx c e z=>?_,λp f z=>?_⟩
 ·obtain⟨v,q⟩:=I.cell x c e;exact absurd (aE q.lt (by rw[z];exact a)) (aZ _)
 ·exact absurd (aE (aw (I.pin p f).1) (by rw[z];exact a)) (aZ _)
structure Ef (P:Program) (w:World) (K:Fg) (tg:Expr) (J:It) (fp:List Addr) (it:Addr) (tn:Nat->Heap->Prop):Prop where
 mem:it∈fp
 obj:∀i h,tn i h->∀b∈fp,∃o,h.get? b=Y o/\∀v,o.data≠.cell v
 keep:∀i h h',tn i h->(∀b∈fp,∀o,h.get? b=Y o->h'.get? b=Y o)->tn i h'
 item:∀(X:Cx),X.prog=P->X.w=w->X.K=K->X.calm=true->∀(i:Nat) (pins:Ax) (s:Shared) (σ:St) (H:Hp) (E:Px),fu X pins σ H s->(∀b∈fp,qM X pins H b)->tn i s.heap->J.go i H ->
  wpAny (model P w) X.A (pyNext (.ref it)) (λr s1=>∃u,r=Y u /\
   wpAny (model P w) X.A (letOwnedTupleGo tg (.ref it) u) (λ_ s2=>∃x H',fu X pins σ H' s2/\fQ x u/\J.P8 i H x H'/\tn (i+1) s2.heap/\∀b∈fp,H' b=Z) E s1) E s
 done:∀(X:Cx),X.prog=P->X.w=w->X.K=K->X.calm=true->∀(i:Nat) (pins:Ax) (s:Shared) (σ:St) (H:Hp) (E:Px),fu X pins σ H s->(∀b∈fp,qM X pins H b)->tn i s.heap->J.stop i H ->
  wpAny (model P w) X.A (pyNext (.ref it)) (λr s1=>r=Z/\fu X pins σ H s1) E s
 self:∀(A:Around) (i:Nat) (s:Shared) (Q:Px) (E:Px),tn i s.heap->Q (.ref it) s->wpAny (model P w) A (pyIter (.ref it)) Q E s
abbrev TI:=St->Hp->(It->Hp->Prop)->Prop
def Z9(X:Cx)(a:Ax)(σ:St)(f:Expr)(R:It->Hp->Prop)(c:Value)(d:Shared):Prop :=
 ∃(e:Addr) (fp:List Addr) (tn:Nat->Heap->Prop) (J:It) (H':Hp),c=.ref e/\fu X a σ H' d/\Ef X.prog X.w X.K f J fp e tn/\tn 0 d.heap/\(∀b∈fp,qM X a H' b)/\R J H'
def PI(X:Cx)(d b:Expr)(c:TI):Prop :=
 ∀⦃a:Ax⦄ (s:Shared) (σ:St) (H:Hp) (R:It->Hp->Prop),fu X a σ H s->c σ H R ->
  (zw X) (eval b X.env) (λv s1=>(zw X) (pyIter v) (Z9 X a σ d R) X.xe s1) X.xe s
def x6{M:Model}{c:Addr}{u:Value}{o:Obj}{n:String}{b:Array Value}{Q:Unit->Shared->Prop} (d:s.heap.get? c=Y o) (g:o.cls=.type n) (f:o.data=.fields b)
    (e:["enumerate","zip","dict_itemiterator","dict_reverseitemiterator","odict_iterator","itertools.zip_longest","itertools.pairwise"].contains n=false) (a:Q () s):wpAny M A (letOwnedTupleGo tg (.ref c) u) Q E s:=by
  unfold letOwnedTupleGo;cases tg<;>first
    |exact ar a
    | (cases u<;>first
        |exact ar a
        | (refine ae (wpAny_load d ?_)
           rw[g,f];show wpAny M A (if (["enumerate","zip","dict_itemiterator","dict_reverseitemiterator","odict_iterator","itertools.zip_longest","itertools.pairwise"].contains n&&b[0]?==Y (rawInt _))=true then _ else _) Q E s;rw[ai (by intro h;rw[e,Bool.false_and] at h;cases h)];exact ar a))
def Itl(K:Fg)(a:Addr):It :=
 ⟨λi H=>∃b x,ng K H a b/\b[i]?=Y x,λi H x c=>c=H/\∀b,ng K H a b->b[i]?=Y x,λi H=>∃b,ng K H a b/\b.length<=i⟩
def Itt(K:Fg)(a:Addr):It :=
 ⟨λi H=>∃b x,qL K H a b/\b[i]?=Y x,λi H x c=>c=H/\∀b,qL K H a b->b[i]?=Y x,λi H=>∃b,qL K H a b/\b.length<=i⟩
def Xd(a:Int)(n:Nat):It:=⟨λi _=>i<n,λi H x b=>b=H/\x=.int (a+i),λi _=>n<=i⟩
def Ke{P:Program}{w:World}(a j:Addr):Ef P w K tg (Itl K a) [j] j (λi h=>h.IsListIter j a i) where
 mem:=by simp
 obj:=λi h f b l=>by
  have e:b=j:=by simpa using l
  subst e;obtain⟨o,e,c,d⟩:=f;exact⟨o,e,λv z=>by rw[d] at z;cases z⟩
 keep:=λi h r f k=>f.at λo e=>k j (by simp) o e
 item:=by intro X C hw D N i g s σ H E I q f B;subst C hw D;obtain⟨O,x,n,A⟩:=B;obtain⟨y,t,p,S⟩:=I.list n;obtain⟨u,U,R⟩:=t.get A;obtain⟨M,L,V,J,G,F⟩:=q j (by simp);refine c9 f p.isList (x:=u) (by simpa using U) λr m Q=>?_;have I1:fu X g σ H { s with heap:=r }:=I.turned (t':=s.toks) (λb o l e=>(Q.2 b l).trans e) M L J G F;obtain⟨o,e,c,d⟩:=id m;exact⟨u,rfl,x6 (s:={ s with heap:=r }) e c d (by decide) ⟨x,H,I1,R,⟨rfl,λys T=>by rw[I.x4 T n];exact A⟩,m,λb l=>(q b l).1⟩⟩
 done:=by intro X C hw D N i g s σ H E I q f B;subst C hw D;obtain⟨O,n,A⟩:=B;obtain⟨y,t,p,S⟩:=I.list n;obtain⟨M,L,V,J,G,F⟩:=q j (by simp);have hl:=t.length;exact dw (I.ok.hd N) f p.isList (by simp;omega) λr W=>⟨rfl,I.turned (t':=s.toks) (λb o l e=>W b o l e) M L J G F⟩
 self:=λ_ _ _ _ _ f h=>wpAny_pyIter_listiter f h
def GB{P:Program}{w:World}(a l:Addr):Ef P w K tg (Itt K a) [l] l (λi h=>h.IsTupleIter l a i) where
 mem:=by simp
 obj:=λi h f b m=>by
  have e:b=l:=by simpa using m
  subst e;obtain⟨o,e,c,d⟩:=f;exact⟨o,e,λv z=>by rw[d] at z;cases z⟩
 keep:=λi h t f k=>f.at λo e=>k l (by simp) o e
 item:=by intro X C hw D N i g s σ H E I r f B;subst C hw D;obtain⟨O,x,q,A⟩:=B;obtain⟨j,y,p,S⟩:=I.tuple q;obtain⟨u,U,R⟩:=y.get A;obtain⟨M,L,V,J,G,F⟩:=r l (by simp);refine wpAny_pyNext_tuple_item f (show s.heap.IsTuple a j.toArray from p) (x:=u) (by simpa using U) λt n Q=>?_;have I1:fu X g σ H { s with heap:=t }:=I.turned (t':=s.toks) (λb o m e=>(Q.2 b m).trans e) M L J G F;obtain⟨o,e,c,d⟩:=id n;exact⟨u,rfl,x6 (s:={ s with heap:=t }) e c d (by decide) ⟨x,H,I1,R,⟨rfl,λys T=>by rw[I.Kc T q];exact A⟩,n,λb m=>(r b m).1⟩⟩
 done:=by intro X C hw D N i g s σ H E I r f B;subst C hw D;obtain⟨O,q,A⟩:=B;obtain⟨j,y,p,S⟩:=I.tuple q;obtain⟨M,L,V,J,G,F⟩:=r l (by simp);have hl:=y.length;exact wpAny_pyNext_tuple_end (I.ok.hd N) f (show s.heap.IsTuple a j.toArray from p) (by simp;omega) λt W=>⟨rfl,I.turned (t':=s.toks) (λb o m e=>W b o m e) M L J G F⟩
 self:=λ_ _ _ _ _ f h=>wpAny_pyIter_tupleiter f h
def GC{P:Program}{w:World}(d:Addr)(j:Int)(n:Nat):Ef P w K tg (Xd j n) [d] d (λi h=>IsRangeIter h d (j+(i:Nat)*1) ((n:Int) - (i:Nat)) 1) where
 mem:=by simp
 obj:=λi h a b f=>by
  have e:b=d:=by simpa using f
  subst e;exact⟨_,a,λv z=>by have F:Data.fields _=Data.cell v:=z;cases F⟩
 keep:=λi h m a k=>k d (by simp) _ a
 item:=by intro X r hw u q i c s σ H E I l a p;subst r hw u;obtain⟨C,B,L,A,y,x⟩:=l d (by simp);have W:=Walks.range (prog:=X.prog) (w:=X.w) (I.ok.hd q) d j 1 n;refine W.item i s _ _ p a λv m D J g G=>?_;obtain⟨t,rfl⟩:=J;have N:fu X c σ H { s with heap:=m,toks:=D }:=I.turned (λb o f e=>G b o (by simpa using f) e) C B A y x;refine⟨_,rfl,x6 (s:={ s with heap:=m,toks:=D }) (n:="range_iterator") g rfl rfl (by decide) ⟨.int (j+i),H,N,⟨t,?_⟩,⟨rfl,rfl⟩,g,λb f=>(l b f).1⟩⟩;rw[Int.mul_one]
 done:=by intro X r hw u q i c s σ H E I l a p;subst r hw u;obtain⟨C,B,L,A,y,x⟩:=l d (by simp);exact wpAny_pyNext_range_end (I.ok.hd q) a (by have:n<=i:=p;omega) λm M=>⟨rfl,I.turned (t':=s.toks) (λb o f e=>M b o f e) C B A y x⟩
 self:=λ_ _ _ _ _ a h=>wpAny_pyIter_rangeiter a h
section
def Xe(K:Fg)(d:TE):TI:=λσ H R=>d σ H λx b=>∃a,x=.ref a/\(∃c,ng K b a c)/\R (Itl K a) b
def aaa(K:Fg)(d:TE):TI:=λσ H R=>d σ H λx b=>∃a,x=.ref a/\(∃c,qL K b a c)/\R (Itt K a) b
def Cf{l:Expr}{g:TE}(n:PE X l g):PI X tg l (Xe X.K g):=by
 intro c s σ H R I h;refine hZ (@n c s σ H _ I h) ?_;rintro v d ⟨x,t,f,i,j⟩;obtain⟨a,e,⟨u,m⟩,q⟩:=j;subst e;cases i;obtain⟨k,w,p,y⟩:=f.list m;refine de p.isList ?_;refine⟨(zB d),[(zB d)],_,_,t,rfl,f.kept (t':=d.toks) λb o e=>ak _ e,Ke a _,⟨_,aB _ rfl,rfl,rfl⟩,λb r=>?_,q⟩;have e:b=(zB d):=by simpa using r
 subst e;exact f.Ee (aA _) (f.iS.fresh (aA _))
def Mo{l:Expr}{i:TE}(n:PE X l i):PI X tg l (aaa X.K i):=by
 intro d s σ H R I h;refine hZ (@n d s σ H _ I h) ?_;rintro v c ⟨x,t,f,j,k⟩;obtain⟨a,e,⟨u,m⟩,q⟩:=k;subst e;cases j;obtain⟨g,w,p,y⟩:=f.tuple m;refine wpAny_pyIter_tuple (show c.heap.IsTuple a g.toArray from p) ?_;refine⟨(zB c),[(zB c)],_,_,t,rfl,f.kept (t':=c.toks) λb o e=>ak _ e,GB a _,⟨_,aB _ rfl,rfl,rfl⟩,λb r=>?_,q⟩;have e:b=(zB c):=by simpa using r
 subst e;exact f.Ee (aA _) (f.iS.fresh (aA _))
def Mp{R:It->Hp->Prop}{a c:Int}{t u v:Tok}{d:Nat} (I:fu X pins σ H s) (k:-(2 ^ 62)<=a) (j:a<2 ^ 62) (i:-(2 ^ 62)<=c) (h:c<2 ^ 62)
  (q:R (Xd a (c - a).toNat) H):(zw X) (pyIter (.ref (zB s))) (Z9 X pins σ tg R) E { s with heap:=s.heap.push { cls:=.type "range",data:=.fields #[.int a t,.int c u,.int 1 v] },toks:=d }:=by
 refine wpAny_pyIter_range (IsRange.new ..) (small_one k j i h) ?_;have f:fu X pins σ H { s with heap:=s.heap.push { cls:=.type "range",data:=.fields #[.int a t,.int c u,.int 1 v] },toks:=d }:=I.kept λb o e=>ak _ e;refine⟨(s.heap.push { cls:=.type "range",data:=.fields #[.int a t,.int c u,.int 1 v] }).objs.size,[(s.heap.push { cls:=.type "range",data:=.fields #[.int a t,.int c u,.int 1 v] }).objs.size],_,_,H,rfl,
  f.kept (t':=d) λb o e=>ak _ e,GC _ a (c - a).toNat,?_,λb g=>?_,q⟩
 ·have m:a+((0:Nat):Int)*1=a:=by simp
  have l:(((c - a).toNat:Nat):Int) - ((0:Nat):Int)=Builtin.Range.rangeSize a c 1:=by rw[rangeSize_one];split<;>omega
  show IsRangeIter _ _ (a+((0:Nat):Int)*1) ((((c - a).toNat:Nat):Int) - ((0:Nat):Int)) 1;rw[m,l];exact aB _ rfl
 ·have e:b=(s.heap.push { cls:=.type "range",data:=.fields #[.int a t,.int c u,.int 1 v] }).objs.size:=by simpa using g
  subst e;exact f.Ee (aA _) (f.iS.fresh (aA _))
def Xf(b:TA):TI:=λσ H R=>b σ H λa c=>∃j:Int,a=[.int j]/\-(2 ^ 62)<=j/\j<2 ^ 62/\R (Xd 0 j.toNat) c
def A9{a:Expr}{d:TA}(m:Gl X "range")(l:X.mg "range"=Z)(n:PA X [a] d)(k:starEach [a] X.env=[(false,eval a X.env)]:=by rfl):PI X tg (.Call (.Name "range" p) [a] [] pos) (Xf d):=by
 intro b s σ H R I h;refine Call_ (pb I m l boot_range (bq (hZ (@n pos b s σ H _ I h) ?_) k rfl));rintro v w ⟨u,x,o,g,c⟩;obtain⟨j,e,c,i,q⟩:=c;subst e;cases g with
 |cons r f=>cases f;obtain⟨t,rfl⟩:=r;exact call_range_1 (Mp o (by omega) (by omega) c i (by simpa using q))
def aab(c:TI)(g:TG)(d:TS):TS:=λD σ H=>c σ H λJ f=>∃W:Nat->Nat->St->Hp->Prop,(∃m,W 0 m σ f)/\∀i m σ H,W i m σ H ->
 (J.stop i H/\D.nx σ H)\/(J.go i H/\∃N:St->Hp->Prop,(∀σ' a,N σ' a->∃b,b<m/\W (i+1) b σ' a)/\∀x a,J.P8 i H x a->g x σ a λσ2 e=>d { D with nx:=N,ct:=N,bk:=D.nx } σ2 e)
def x8(a:List Addr)(h:Heap):Ax:=a.filterMap λb=>(h.get? b).map λo=>(b,o)
def qe{a:List Addr}{h:Heap}{b:Addr}{o:Obj}(c:b∈a)(e:h.get? b=Y o):(b,o)∈x8 a h:=cf.mpr ⟨b,c,by rw[e];rfl⟩
def Kf{a:List Addr}{h:Heap}{p:Addr×Obj}(c:p∈x8 a h):p.1∈a/\h.get? p.1=Y p.2:=by
 obtain⟨b,d,e⟩:=cf.mp c;cases q:h.get? b with
 |none=>rw[q] at e;cases e
 |some o=>rw[q] at e;have f:(b,o)=p:=bu e;subst f;exact⟨d,q⟩
def fu.pinned{a:List Addr}(I:fu X pins σ H s)(i:∀b∈a,qM X pins H b)(h:∀b∈a,∃o,s.heap.get? b=Y o/\∀v,o.data≠.cell v):fu X (pins++x8 a s.heap) σ H s :=
 I.qd λp g=>(aP.mp g).elim (λz=>I.pin p (aq _ z)) λz=>by obtain⟨c,e⟩:=Kf z;obtain⟨l,k,j,_⟩:=i p.1 c;obtain⟨o,f,d⟩:=h p.1 c;rw[e] at f;cases f;exact⟨e,l,k,j,d⟩
def fu.qV{pl:Ax}(I:fu X (pins++pl) σ H s):fu X pins σ H s:=I.qd λp a=>I.pin p (aq _ (aM _ a))
def GD{j:Expr}{z:List Stmt}{wi:TI}{g:TG}{tb:TS} (L:PassesOwn (model X.prog X.w) X.A X.env X.xe) (hc:X.calm=true) (hi:PI X tg j wi) (hg:PG X tg g) (k:vu X z tb)
  (hs:∀x,foldedSetIterable j X.env x=pure x:=by intro _;rfl):PS X (.For tg j z [] pos) (aab wi g tb):=by
 intro a s σ H D I h;refine wpAny_For (hZ (@hi a s σ H _ I h) λv s1 h1=>hZ h1 λitv s2 h2=>?_) hs;obtain⟨it,O,tn,J,H2,e,I2,T,Q,f2,W,⟨m0,w0⟩,C⟩:=h2;subst e;have c:∀{t:Hp},(∀b∈O,t b=Z)->∀b∈O,qM X a t b:=λhn b k=>⟨hn b k,(f2 b k).2⟩
 refine codeAny_forLoop_any (λn s'=>∃i σ' t,fu X a σ' t s'/\tn i s'.heap/\(∀b∈O,t b=Z)/\W i n σ' t) ?_ m0 ⟨0,σ,H2,I2,Q,λb k=>(f2 b k).1,w0⟩;rintro n s3 ⟨i,σ3,P,I3,G,M,w3⟩;rcases C i n σ3 P w3 with ⟨E,qn⟩ | ⟨go,N,hN,F⟩
 ·refine cj L (hZ (T.done X rfl rfl rfl @hc i a s3 σ3 P X.xe I3 (c M) G E) ?_);rintro r s4 ⟨S,I4⟩;subst S;exact dN ⟨σ3,P,I4,qn⟩
 ·refine cj L (hZ (T.item X rfl rfl rfl @hc i a s3 σ3 P X.xe I3 (c M) G go) ?_);rintro r s4 ⟨u,S,h4⟩;subst S;refine cj L (hZ h4 ?_);rintro _ s5 ⟨x,H5,I5,r5,y5,B,U⟩;have V:=I5.pinned (c U) (T.obj _ _ B);refine cj L (hZ (@hg _ s5 σ3 H5 x u _ V r5 (F x H5 y5)) ?_);rintro _ s6 ⟨σ6,H6,I6,q6⟩;refine cj L (hZ (@k _ s6 σ6 H6 _ I6 q6) λf R y=>?_);have l:∀{σ7:St}{q:Hp},fu X (a++x8 O s5.heap) σ7 q R->N σ7 q->∃m,m<n/\∃i σ' t,fu X a σ' t R/\tn i R.heap/\(∀b∈O,t b=Z)/\W i m σ' t:=λ{σ7 q} p K=>by
   obtain⟨m',hm,w7⟩:=hN σ7 q K;refine⟨m',hm,i+1,σ7,q,p.qV,T.keep _ _ _ B λb k o e=>(p.pin (b,o) (aq _ (aq _ (qe k e)))).1,λb k=>?_,w7⟩;obtain⟨o,e,d⟩:=T.obj _ _ B b k;exact(p.pin (b,o) (aq _ (aq _ (qe k e)))).2.1
  cases f with
  |next=>obtain⟨σ7,q,p,K⟩:=y;exact l p K
  |cont=>obtain⟨σ7,q,p,K⟩:=y;exact l p K
  |brk=>obtain⟨σ7,q,p,y⟩:=y;exact⟨σ7,q,p.qV,y⟩
  |ret v=>obtain⟨x7,σ7,q,p,r7,y⟩:=y;exact⟨x7,σ7,q,p.qV,r7,y⟩
end
abbrev R2:=V->V->Hp->VK->Prop
def k6(X:Cx)(f:Value->Value->Sem Value)(r:R2):Prop :=
 ∀(a:Ax) (s:Shared) (σ:St) (H:Hp) (x y:V) (v u:Value) (Q:VK),fu X a σ H s->fQ x v->fQ y u->r x y H Q ->
  (zw X) (f v u) (EP X a σ Q) X.xe s
def UnR(X:Cx)(f:Value->Sem Value)(r:V->Hp->VK->Prop):Prop :=
 ∀(a:Ax) (s:Shared) (σ:St) (H:Hp) (x:V) (v:Value) (Q:VK),fu X a σ H s->fQ x v->r x H Q ->
  (zw X) (f v) (EP X a σ Q) X.xe s
def jU(X:Cx)(f:Value)(r:List V->Hp->VK->Prop):Prop :=
 ∀(a:Ax) (s:Shared) (σ:St) (H:Hp) (xs:List V) (us:Lw) (Q:VK),fu X a σ H s->fY xs us->r xs H Q ->
  (zw X) (call f us) (EP X a σ Q) X.xe s
def aac(X:Cx)(r:V->Hp->(Bool->Hp->Prop)->Prop):Prop :=
 ∀(a:Ax) (s:Shared) (σ:St) (H:Hp) (x:V) (v:Value) (Q:Bool->Hp->Prop),fu X a σ H s->fQ x v->r x H Q ->
  (zw X) (truthy v) (TP X a σ Q) X.xe s
def WR(r:R2)(b a:TE):TE:=λσ H Q=>b σ H λx d=>a σ d λy c=>r x y c Q
def tUn(r:V->Hp->VK->Prop)(a:TE):TE:=λσ H Q=>a σ H λx b=>r x b Q
def rI(C:Int->Int->Prop)(g:Int->Int->V):R2:=λx y H Q=>∃i j,x=.int i/\y=.int j/\C i j/\Q (g i j) H
def PL(g:Int->Int->V):R2:=λx y H Q=>∃i j,x=.int i/\y=.int j/\Q (g i j) H
def rU(g:Int->V):V->Hp->VK->Prop:=λx H Q=>∃i,x=.int i/\Q (g i) H
section
variable {a c:Expr}{ta tb tc:TE}
def Uy(l:PE X a ta) (k:PE X b tb) {R:V->V->Hp->Prop} (I:fu X pins σ H s)
  (h:ta σ H λx H1=>tb σ H1 λy H2=>R x y H2) {Q:Px}{f:Value->Value->Sem Value}
  (j:∀v u s2 x y H2,fu X pins σ H2 s2->fQ x v->fQ y u->R x y H2->(zw X) (f v u) Q X.xe s2):
  (zw X) (eval a X.env) (λv s₁=>(zw X) (eval b X.env) (λu s₂=>(zw X) (f v u) Q X.xe s₂) X.xe s₁) X.xe s:=by
 refine hZ (@l pins s σ H _ I h) ?_;rintro v c ⟨x,H1,n,e,i⟩;refine hZ (@k pins c σ H1 _ n i) ?_;rintro u s2 ⟨y,H2,m,d,g⟩;exact j v u s2 x y H2 m e d g
def Xg{d:Operator}{r:R2}(g:k6 X (binaryOp d) r)(j:PE X a ta)(i:PE X b tb):PE X (.BinOp a d b pos) (WR r ta tb):=by intro c s σ H Q I h;exact wpAny_BinOp (Uy j i I h λv u s2 x y l k f e q=>@g c s2 σ l x y v u Q k f e q)
def Xh{c:UnaryOp}{r:V->Hp->VK->Prop}(g:UnR X (unaryOp c) r)(i:PE X a ta):PE X (.UnaryOp c a pos) (tUn r ta):=by intro b s σ H Q I h;exact UnaryOp_ (hZ (@i b s σ H _ I h) <| by rintro v d ⟨x,k,j,e,f⟩;exact @g b d σ k x v Q j e f)
def opI{f:Value->Value->Sem Value}{C:Int->Int->Prop}{g:Int->Int->Int}
  (a:∀(i j:Int) (t u:Tok) (s:Shared) (Q:Px) (E:Px),C i j->Q (.int (g i j) s.toks) { s with toks:=s.toks+1 }->(zw X) (f (.int i t) (.int j u)) Q E s):
  k6 X f (rI C λi j=>.int (g i j)):=by
 intro b s σ H x y v u Q I e d h;obtain⟨i,j,rfl,rfl,k,q⟩:=h;obtain⟨t,rfl⟩:=e;obtain⟨c,rfl⟩:=d;exact a i j t c s _ _ k ⟨.int (g i j),H,I.tok _,⟨_,rfl⟩,q⟩
def Xi{f:Value->Value->Sem Value}{g:Int->Int->Int}
  (a:∀(i j:Int) (t u:Tok) (s:Shared) (Q:Px) (E:Px),Q (.int (g i j) s.toks) { s with toks:=s.toks+1 }->(zw X) (f (.int i t) (.int j u)) Q E s):
  k6 X f (PL λi j=>.int (g i j)):=by
 intro b s σ H x y v u Q I e d h;obtain⟨i,j,rfl,rfl,q⟩:=h;obtain⟨t,rfl⟩:=e;obtain⟨c,rfl⟩:=d;exact a i j t c s _ _ ⟨.int (g i j),H,I.tok _,⟨_,rfl⟩,q⟩
def P9{f:Value->Value->Sem Value}{g:Int->Int->Bool}
  (a:∀(i j:Int) (t u:Tok) (s:Shared) (Q:Px) (E:Px),Q (.bool (g i j)) s->(zw X) (f (.int i t) (.int j u)) Q E s):
  k6 X f (PL λi j=>.bl (g i j)):=by
 intro b s σ H x y v u Q I e d h;obtain⟨i,j,rfl,rfl,q⟩:=h;obtain⟨t,rfl⟩:=e;obtain⟨c,rfl⟩:=d;exact a i j t c s _ _ ⟨.bl (g i j),H,I,rfl,q⟩
def Xj(i j:Int):Prop:=0<j/\j<1073741824
def Uz:k6 X (binaryOp .Add) (PL λi j=>.int (i+j)):=Xi λ_ _ _ _ _ _ _ q=>add_int q
def UA:k6 X (binaryOp .Sub) (PL λi j=>.int (i - j)):=Xi λ_ _ _ _ _ _ _ q=>sub_int q
def Qa:k6 X (binaryOp .FloorDiv) (rI Xj λi j=>.int (i / j)):=opI λi j _ _ _ _ _ a q=>by have c:(0:Int)<j:=a.1;have b:j<1073741824:=a.2;exact floordiv_int (by omega) (by rw[Int.fdiv_eq_ediv_of_nonneg i (by omega)];exact q) (.inl (PyProof.noPylong_small (by omega)))
def UB:k6 X (binaryOp .Mod) (rI (λ_ j=>0<j) λi j=>.int (i % j)):=opI λi j _ _ _ _ _ a q=>by have b:(0:Int)<j:=a;exact mod_int' (by omega) (by rw[Int.fmod_eq_emod_of_nonneg i (by omega)];exact q)
def unI{f:Value->Sem Value}{g:Int->Int}
  (a:∀(i:Int) (t:Tok) (s:Shared) (Q:Px) (E:Px),Q (.int (g i) s.toks) { s with toks:=s.toks+1 }->(zw X) (f (.int i t)) Q E s):
  UnR X f (rU λi=>.int (g i)):=by
 intro b s σ H x v Q I c h;obtain⟨i,rfl,q⟩:=h;obtain⟨t,rfl⟩:=c;exact a i t s _ _ ⟨.int (g i),H,I.tok _,⟨_,rfl⟩,q⟩
def UC:UnR X (unaryOp .USub) (rU λi=>.int (-i)):=unI λ_ _ _ _ _ q=>neg_int q
end
section
variable {a c:Expr}{ta tb tc:TE}
def x9{Q:VK}{k a:Bool}(I:fu X pins σ H s)(q:Q (.bl k) H)(e:k=a):EP X pins σ Q (.bool a) s:=by subst e;exact⟨.bl k,H,I,rfl,q⟩
def Xk:k6 X (compareOp .Lt) (PL λi j=>.bl (decide (i<j))):=P9 λ_ _ _ _ _ _ _ q=>lt_int q
def Xl:k6 X (compareOp .LtE) (PL λi j=>.bl (decide (i<=j))):=P9 λ_ _ _ _ _ _ _ q=>le_int q
def Xm:k6 X (compareOp .Gt) (PL λi j=>.bl (decide (j<i))):=P9 λ_ _ _ _ _ _ _ q=>gt_int q
def Xn:k6 X (compareOp .GtE) (PL λi j=>.bl (decide (j<=i))):=P9 λ_ _ _ _ _ _ _ q=>ge_int q
def Kg:k6 X (compareOp .In) (λx y H Q=>∃i j,x=.str i/\y=.str j/\Q (.bl (!(Builtin.Str.occurrences j i 0 j.length 1).isEmpty)) H):=by intro a s σ H x y v u Q I c b h;obtain⟨i,j,rfl,rfl,q⟩:=h;obtain⟨t,rfl⟩:=c;obtain⟨d,rfl⟩:=b;exact in_str (x9 I q rfl)
def UD:k6 X (compareOp .Is) (λx y H Q=>y=.lB/\Q (.bl (decide (x=.lB))) H):=by
 intro b s σ H x y v u Q I a c h;obtain⟨rfl,q⟩:=h;cases c;refine is_none_gen (x9 I q ?_);cases x<;>first
  | (cases a;rfl)
  | (obtain⟨t,rfl⟩:=a;rfl)
def Qb:k6 X (compareOp .IsNot) (λx y H Q=>y=.lB/\Q (.bl (!decide (x=.lB))) H):=by
 intro b s σ H x y v u Q I a c h;obtain⟨rfl,q⟩:=h;cases c;refine isnot_none_gen (x9 I q ?_);cases x<;>first
  | (cases a;rfl)
  | (obtain⟨t,rfl⟩:=a;rfl)
def Cg:k6 X (compareOp .NotIn) (λx y H Q=>∃i j,x=.str i/\y=.str j/\Q (.bl (!(!(Builtin.Str.occurrences j i 0 j.length 1).isEmpty))) H):=by intro a s σ H x y v u Q I c b h;obtain⟨i,j,rfl,rfl,q⟩:=h;obtain⟨t,rfl⟩:=c;obtain⟨d,rfl⟩:=b;exact notIn_str (x9 I q rfl)
def k6.or{f:Value->Value->Sem Value}{r d:R2}(h:k6 X f r)(e:k6 X f d):k6 X f (λx y H Q=>r x y H Q\/d x y H Q):=by
 intro a s σ H x y v u Q I c b q;rcases q with q|q
 ·exact @h a s σ H x y v u Q I c b q
 ·exact @e a s σ H x y v u Q I c b q
def GF(b:Expr){a:CmpOp}(h:a≠.In:=by decide)(c:a≠.NotIn:=by decide):behindInMarks a b=false:=by
 have e:(a==CmpOp.In)=false:=by cases a<;>first|rfl|exact absurd rfl h
 have d:(a==CmpOp.NotIn)=false:=by cases a<;>first|rfl|exact absurd rfl c
 cases b<;>simp[behindInMarks,e,d]
def IE{d:CmpOp}{r:R2}(g:k6 X (compareOp d) r)(k:PE X a ta)(j:PE X b tb)(i:behindInMarks d b=false):PE X (.Compare a [d] [b] pos) (WR r ta tb):=by intro c s σ H Q I h;exact wpAny_Compare1 (Uy k j I h λv u s2 x y m l f e q=>@g c s2 σ m x y v u Q l f e q) i
def Tu(t:TE):TT:=λσ H Q=>t σ H λx a=>∃k,x=.bl k/\Q k a
def xG{f:CmpOp}{r:R2}(q:k6 X (compareOp f) r)(A:PE X a ta)(w:PE X b tb)(t:behindInMarks f b=false):PT X (.Compare a [f] [b] pos) (Tu (WR r ta tb)):=by
 intro d s σ H Q I h;refine wpAny_isTrue_Compare1 (hZ (@A d s σ H _ I h) λv i ⟨x,G,D,m,p⟩=>hZ (@w d i σ G _ D p) λu g ⟨y,F,C,l,o⟩=>
  hZ (@q d g σ F x y v u _ C m l o) λc J ⟨z,E,B,j,k,e,n⟩=>?_) t
 subst e;cases j;exact cm ⟨E,B,n⟩
def UE(r f:R2)(e d c:TE):TE:=λσ H Q=>e σ H λx i=>d σ i λy h=>r x y h λz a=>∃k,z=.bl k /\
 (if k=true then c σ a λb g=>f y b g Q else Q (.bl false) a)
def Mq{i g:CmpOp}{r m:R2} (O:k6 X (compareOp i) r) (j:k6 X (compareOp g) m) (T:PE X a ta) (S:PE X b tb) (R:PE X c tc)
  (P:lastMarks [i,g] [b,c]=false:=by with_unfolding_all rfl):PT X (.Compare a [i,g] [b,c] pos) (Tu (UE r m ta tb tc)):=by
 intro f s σ H Q I h;refine isTrue_chain (hZ (@T f s σ H _ I h) λv C ⟨x,H1,I1,G,M⟩=>test_link (hZ (@S f C σ H1 _ I1 M) λu B ⟨y,H2,I2,l,L⟩=>
  hZ (@O f B σ H2 x y v u _ I2 G l L) λd A ⟨z,p,o,F,k,e,n⟩=>?_)) P
 subst e;cases F;refine cm ?_;cases k with
 |false=>obtain⟨k',V,N⟩:=n;cases V;exact ite_ff ⟨p,o,N⟩
 |true=>refine ite_tt (test_last (hZ (@R f A σ p _ o n) ?_));rintro t w ⟨q,H4,I4,E,K⟩;refine hZ (@j f w σ H4 y q u t _ I4 l E K) ?_;rintro d' s5 ⟨z2,H5,W,D,k2,U,J⟩;subst U;cases D;exact cm ⟨H5,W,J⟩
def UG(K:Fg)(x:V)(H:Hp)(k:Bool):Prop :=
 match x with
 |.lB=>k=false
 |.bl b=>k=b
 |.int i=>k=(i != 0)
 |.str y=>y.length<=sizeLine/\k=((y.length:Int) != 0)
 |.WO y=>y.size<=sizeLine/\k=((y.size:Int) != 0)
 |.ref p=>(∃a,ng K H p a/\k=!a.isEmpty)\/(∃a,qL K H p a/\k=!a.isEmpty)\/∃c,Rd H p (.dK c)/\k=!c.isEmpty
 |_=>False
def GG{κ:Type}{a:List (κ×V)}{b:List (κ×Value)}(r:KV a b):(!b.isEmpty)=!a.isEmpty:=by cases r<;>rfl
def ya{b:List V}{a:Lw}(r:fY b a):(!a.toArray.isEmpty)=!b.isEmpty:=by cases r<;>simp
def tF:(sizeLine:Nat)<2 ^ 63:=by rw[sizeLine_eq];decide
def UH:aac X (λx H Q=>∃k,UG X.K x H k/\Q k H):=by
 intro u s σ H x v Q I g h;obtain⟨k,e,q⟩:=h;have D:=tF;have C:sizeLine=16777216:=sizeLine_eq;cases x with
 |lB=>cases g;have a:k=false:=e;subst a;exact truthy_none ⟨H,I,q⟩
 |bl b=>cases g;have a:k=b:=e;subst a;exact cm ⟨H,I,q⟩
 |int i=>obtain⟨t,rfl⟩:=g;have a:k=(i != 0):=e;subst a;exact PySem.P.truthy_int ⟨H,I,q⟩
 |str y=>obtain⟨t,rfl⟩:=g;obtain⟨A,a⟩:y.length<=sizeLine/\k=((y.length:Int) != 0):=e;subst a;exact PySem.P.truthy_str (by omega) ⟨H,I.tok _,q⟩
 |WO y=>obtain⟨t,rfl⟩:=g;obtain⟨A,a⟩:y.size<=sizeLine/\k=((y.size:Int) != 0):=e;subst a;exact W.truthy_bytes (by omega) ⟨H,I.tok _,q⟩
 |ref p=>
  cases g;have a:(∃f,ng X.K H p f/\k=!f.isEmpty)\/(∃f,qL X.K H p f/\k=!f.isEmpty)\/∃c,Rd H p (.dK c)/\k=!c.isEmpty:=e;rcases a with ⟨f,j,a⟩ | ⟨f,j,a⟩ | ⟨c,j,a⟩
  ·subst a;obtain⟨o,r,n,z⟩:=I.list j;have d:=r.length;exact wpAny_truthy_list n.isList (by simp only[au];omega) ⟨H,I.tok _,by rw[ya r];exact q⟩
  ·subst a;obtain⟨o,r,n,z⟩:=I.tuple j;have d:=r.length;exact truthy_tuple n (by simp only[au];omega) ⟨H,I.tok _,by rw[ya r];exact q⟩
  ·subst a;obtain⟨z,B,l,r,m⟩:c.length<=sizeLine/\(p==sysModules)=false/\∃l,KV c l/\s.heap.DictOf (fU X.prog X.w) p l:=j.ok I.iS;have d:c.length=l.length:=cG r;exact wpAny_truthy_dict B m (by omega) ⟨H,I.tok _,by rw[GG r];exact q⟩
 |_=>exact(show False from e).elim
def yb(i:PE X a ta)(g:∀whole,isTrue a X.env whole=(do let v <-whole;standAt a.pos;holding [v] (truthy v))):
  PT X a (λσ H Q=>ta σ H λx c=>∃k,UG X.K x c k/\Q k c):=by
 intro b s σ H Q I h;exact isTrue_plain (hZ (@i b s σ H _ I h) <| by rintro v d ⟨x,l,j,e,f⟩;exact UH b d σ l x v Q j e f) (g _)
def GH:k6 X (binaryOp .Add) (λx y H Q=>∃i j,x=.str i/\y=.str j/\i.length+j.length<=sizeLine/\Q (.str (i++j)) H):=by intro a s σ H x y v u Q I d c h;obtain⟨i,j,rfl,rfl,e,q⟩:=h;obtain⟨t,rfl⟩:=d;obtain⟨b,rfl⟩:=c;exact add_str (λb f=>⟨.str (i++j),H,I.tok _,⟨_,rfl⟩,q⟩) e
def yc{x:V}{a:Lw}(r:fY [x] a):∃u,a=[u]/\fQ x u:=by
 cases r with
 |cons c b=>cases b;exact⟨_,rfl,c⟩
def Xo{x y:V}{b:Lw}(r:fY [x,y] b):∃u a,b=[u,a]/\fQ x u/\fQ y a:=by
 cases r with
 |cons f e=>
  cases e with
  |cons d c=>cases c;exact⟨_,_,rfl,f,d⟩
end
structure GI (h:Heap) (x dx C:Addr) (mA:Str->Ow):Prop where
 obj:h.get? x=Y (W.instObj C dx)
 ns:h.Ns1 dx mA
 ne:dx≠x
def Kh{h:Heap}{i:Addr}{f:Str->Ow}(n:h.Ns1 i f):∃d,h.get? i=Y d/\∀b,W.lookIn b d=Y (f b):=by
 obtain⟨o,g,s,k,p,m,_,l⟩:=n;refine⟨o,k,λb=>?_⟩;have e:=l b;unfold nsFind findBy at e;rw[<-Array.find?_toList] at e;unfold W.lookIn;rw[p];dsimp only;split
 ·rename_i y q;rw[q] at e;exact bL Y e
 ·rename_i q;rw[q] at e;have a:g.toList.any (·.refKey)=false:=by
   rw[List.any_eq_false];intro y j;obtain⟨z,t,c⟩:=m y (Array.mem_toList_iff.mp j);simp[DictEntry.refKey,c]
  have r:¬ g.toList.any (·.refKey)=true:=by rw[a];exact aF
  rw[ai r];exact bL Y e
def GI.look{h:Heap}{x d C:Addr}{c:Str->Ow}(I:GI h x d C c):∃b,W.InstAt h x (W.instObj C d) C (Y b)/\∀a,W.lookIn a b=Y (c a) :=
 let ⟨b,e,f⟩:=Kh I.ns
 ⟨b,⟨I.obj,rfl,rfl,e⟩,f⟩
section
variable {prog:Program}{w:World}{x dx C f:Addr}{mA:Str->Ow}{name:Str}{v:Value}
def Qc{a:Bool}{Q:Px} (X:K.In s.heap) (I:GI s.heap x dx C mA) (f:W.plainGet K C name=true) (e:W.hasDictIn K C=true)
  (g:W.findIn K (.ref C) name=Y Z) (c:mA name=Y v) (b:W.handedIn v=true) (h:Q v { s with toks:=s.toks+1 }):
  wpAny (model prog w) A (getAttr (.ref x) name a) Q E s:=by
 obtain⟨i,J,d⟩:=I.look;exact W.get_value X J (W.plainGet_of f).1 (W.findObj_own e g rfl (by rw[d,c])) b h
def Mr{b:Sem Bool}{Q:Value×Lw->Shared->Prop} (X:K.In s.heap) (I:GI s.heap x dx C mA) (a:W.plainGet K C name=true)
  (i:W.findIn K (.ref C) name=Y (Y (.ref f))) (e:W.isFn K (.ref f)=true) (d:mA name=Z) (h:Q (.ref f,[.ref x]) s):
  wpAny (model prog w) A (getMethod (.ref x) name b) Q E s:=by
 obtain⟨c,J,g⟩:=I.look;exact W.method_fn X J (W.plainGet_of a).1 (W.plainGet_of a).2 i (cu.mp e) (by show (W.lookIn name c).map (·.isSome)=Y false;rw[g,d];rfl) h
def Qd{j:Lr}{Q:Unit->Shared->Prop} (X:K.In s.heap) (I:GI s.heap x dx C mA)
  (n:W.findIn K (.ref C) "__setattr__"=Y (Y (.builtin "object.__setattr__"))) (o:W.plainOver K C=true) (l:W.takerIn K C name=Y Z) (p:W.hasDictIn K C=true)
  (hw:PySem.Within mA j) (m:j.length<=sizeLine)
  (h:∀h',GI h' x dx C (λy=>if y=name then Y v else mA y)->Heap.SameBut dx s.heap h'->Q () { s with heap:=h',toks:=s.toks+2 }):
  wpAny (model prog w) A (setAttr (.ref x) name v) Q E s:=by
 obtain⟨z,J,D⟩:=I.look;refine W.set_plain X J n (W.osa_open (s:={ s with toks:=s.toks+1 }) (r:=Z) X J o l λb=>?_);obtain⟨F,q,g⟩:=W.any_some p;have k:s.heap.get? x=Y ⟨.ref C,Y dx,.plain,#[]⟩:=I.obj;refine ae (ar (ae (ae (wpAny_loadPart k (ae (W.Looks.here (s:={ s with toks:=s.toks+1 }) (W.looks_clsIn X q) ?_))))));rw[g];refine ar (a:=Y dx) (ae (ar (ae ?_)));refine wpAny_nsSet1 (s:={ s with toks:=s.toks+1 }) I.ns λh' d c=>?_;obtain⟨B,t,u,e,f,i⟩:=d.count (PySem.Within.cons name v hw);refine ae (wpAny_lookBehind e (by rw[f];exact pastItsLine_dict (bK i (by rw[ao];omega))) ?_);exact ar (h _ ⟨(c.2 _ (Ne.symm I.ne)).trans I.obj,d,I.ne⟩ c)
def Ms{a:Lw}{b:List (Str×Value)} (X:K.In s.heap) (c:W.makesIn K C=true)
  (e:W.findIn K (.ref C) "__init__"=Y (Y (.ref f))) (i:W.typeIn K (.ref f)=Y (.type "function"))
  (h:codeAny (model prog w) (A.under (.builtin "type.__call__" ⟨.ref C::a,b⟩)) (.call (.ref f) ⟨.ref ((zB s)+1)::a,b⟩) (W.InitBack ((zB s)+1) R)
   { s with heap:=(s.heap.push W.emptyDict).push (W.instObj C (zB s)) }):
  codeAny (model prog w) A (.call (.ref C) ⟨a,b⟩) R s:=by
 obtain⟨k,g,d,t,j⟩:=s;exact W.make_core (W.makes_of X c) (W.looks_findIn X e) (λself=>W.bind_fn X self i) (.inl rfl) h
end
noncomputable def mf(f:Str)(v:V):List (Str×V)->List (Str×V)
 |[]=>[(f,v)]
 | (g,x)::r=>if g=f then (g,v)::r else (g,x)::mf f v r
theorem wg(f g:Str)(v:V):∀c:List (Str×V),(mf f v c).lookup g=if g=f then Y v else c.lookup g
 |[]=>by
  show List.lookup g [(f,v)]=_;by_cases h:g=f
  ·have a:(g==f)=true:=cu.mpr h;simp only[List.lookup,a,ah h]
  ·have a:(g==f)=false:=aU.mpr h;simp only[List.lookup,a,ai h]
 | (k,x)::r=>by
  have d:=wg f g v r;rw[show mf f v ((k,x)::r)=(if k=f then (k,v)::r else (k,x)::mf f v r) from rfl];by_cases b:k=f
  ·rw[ah b];by_cases h:g=k
   ·have a:(g==k)=true:=cu.mpr h;simp only[List.lookup,a,ah (h.trans b)]
   ·have a:(g==k)=false:=aU.mpr h;simp only[List.lookup,a,ai (λe:g=f=>h (e.trans b.symm))]
  ·rw[ai b];by_cases h:g=k
   ·have a:(g==k)=true:=cu.mpr h;simp only[List.lookup,a,ai (λe:g=f=>b (h.symm.trans e))]
   ·have a:(g==k)=false:=aU.mpr h;simp only[List.lookup,a];exact d
theorem vw(f:Str)(v:V):∀b:List (Str×V),f∈(mf f v b).map (·.1)/\∀g,g∈b.map (·.1)->g∈(mf f v b).map (·.1)
 |[]=>⟨by simp[mf],λg h=>by simp at h⟩
 | (k,x)::r=>by
  obtain⟨d,c⟩:=vw f v r;rw[show mf f v ((k,x)::r)=(if k=f then (k,v)::r else (k,x)::mf f v r) from rfl];by_cases a:k=f
  ·rw[ah a];subst a;exact⟨by simp,λg h=>by simpa using h⟩
  ·rw[ai a];refine⟨?_,λg h=>?_⟩
   ·rw[af];exact aj _ d
   ·rw[af] at h ⊢;rcases av.mp h with e|e
    ·exact av.mpr (.inl e)
    ·exact aj _ (c g e)
theorem wh(f:Str)(v:V):∀b:List (Str×V),(mf f v b).length<=b.length+1
 |[]=>by simp[mf]
 | (k,x)::r=>by
  have c:=wh f v r;rw[show mf f v ((k,x)::r)=(if k=f then (k,v)::r else (k,x)::mf f v r) from rfl];by_cases a:k=f
  ·rw[ah a,ao,ao];omega
  ·rw[ai a,ao,ao];omega
def pH.some_of{o:Ow}(r:pH (Y v) o):∃u,o=Y u/\fQ v u:=by
 cases o with
 |none=>exact(show False from r).elim
 |some u=>exact⟨u,rfl,r⟩
def pH.none_of{o:Ow}(r:pH Z o):o=Z:=by
 cases o with
 |none=>rfl
 |some u=>exact(show False from r).elim
def Ki{u:Value}(r:fQ v u):W.handedIn u=true:=by
 cases v with
 |lB=>cases (show u=Value.none from r);rfl
 |bl b=>cases (show u=Value.bool b from r);rfl
 |int i=>obtain⟨t,e⟩:=(show ∃t,u=Value.int i t from r);cases e;rfl
 |str x=>obtain⟨t,e⟩:=(show ∃t,u=Value.str x t from r);cases e;rfl
 |WO b=>obtain⟨t,e⟩:=(show ∃t,u=Value.bytes b t from r);cases e;rfl
 |Zr b=>obtain⟨t,e⟩:=(show ∃t,u=Value.float b t from r);cases e;rfl
 |ref a=>cases (show u=Value.ref a from r);rfl
 |ty n=>cases (show u=Value.type n from r);rfl
section
variable {P:Program}{w:World}{H':Hp}{h h':Heap}{C dx:Addr}{fs fs':List (Str×V)}
def Ci(c:tw P w H h)(e:H a=Y (.ins C dx fs)):∃b,GI h a dx C b/\(∀f,pH (fs.lookup f) (b f))/\PySem.Within b (fs.map (·.1))/\fs.length<=1000/\H dx=Y (.own a):=by
 obtain⟨d,z,i,g,b,n,r,q⟩:=(show iU P w H h a (.ins C dx fs) from c a _ e)
 exact⟨b,⟨g,n,i⟩,r,q,z,d⟩
end
structure GJ (K:Fg) (C:Addr):Prop where
 pg:W.plainGet K C Str.empty=true
 hd:W.hasDictIn K C=true
 po:W.plainOver K C=true
 sa:W.findIn K (.ref C) "__setattr__"=Y (Y (.builtin "object.__setattr__"))
def GJ.get{C:Addr}(c:GJ K C)(f:Str):W.plainGet K C f=true:=c.pg
def qW(K:Fg)(C:Addr)(f:Str):Prop:=W.findIn K (.ref C) f=Y Z
def qW.Xp{C:Addr}{f:Str}(n:qW K C f):W.takerIn K C f=Y Z:=by unfold W.takerIn;rw[show W.findIn K (.ref C) f=Y Z from n];rfl
structure GK (K:Fg) (C:Addr) (m:Str) (f:Addr):Prop where
 at_:W.findIn K (.ref C) m=Y (Y (.ref f))
 fn:W.isFn K (.ref f)=true
 kp:W.keepIn K (.ref f)=true
section
variable {C dx:Addr}{fs:List (Str×V)}{f:Str}
def ye{b:Bool}{Q:Px} (I:fu X pins σ H s) (e:H a=Y (.ins C dx fs)) (c:GJ X.K C) (n:qW X.K C f) (l:fs.lookup f=Y v)
  (h:∀u s',fu X pins σ H s'->fQ v u->Q u s'):wpAny (model X.prog X.w) A (getAttr (.ref a) f b) Q E s:=by
 obtain⟨g,O,r,_,_,_⟩:=Ci I.iS e;obtain⟨u,i,d⟩:=pH.some_of (v:=v) (o:=g f) (by rw[<-l];exact r f);exact Qc I.ue O (c.get f) c.hd n i (Ki d) (h u _ (I.tok _) d)
def yf{m:Str}{g:Addr}{pl:Sem Bool}{Q:Value×Lw->Shared->Prop} (I:fu X pins σ H s) (e:H a=Y (.ins C dx fs)) (c:GJ X.K C) (k:GK X.K C m g) (l:fs.lookup m=Z)
  (h:Q (.ref g,[.ref a]) s):wpAny (model X.prog X.w) A (getMethod (.ref a) m pl) Q E s:=by
 obtain⟨b,O,r,_,_,_⟩:=Ci I.iS e;have d:b m=Z:=pH.none_of (by rw[<-l];exact r m);exact Mr I.ue O (c.get m) k.at_ k.fn d h
def yg{y:V}{u:Value}{Q:Unit->Shared->Prop} (I:fu X pins σ H s) (e:H a=Y (.ins C dx fs)) (c:GJ X.K C) (n:qW X.K C f) (F:fs.length<1000) (m:fQ y u)
  (h:∀s',fu X pins σ (upd H a (.ins C dx (mf f y fs))) s'->Q () s'):wpAny (model X.prog X.w) A (setAttr (.ref a) f u) Q E s:=by
 obtain⟨j,O,r,i,_,k⟩:=Ci I.iS e;have p:(fs.map (·.1)).length<=sizeLine:=by rw[aC,sizeLine_eq];omega
 refine Qd I.ue O c.sa c.po n.Xp c.hd i p λB d l=>h _ ?_;have v:∃o,B.get? dx=Y o:=by obtain⟨o,_,_,D,_⟩:=d.ns;exact⟨o,D⟩
 refine I.write (x:=a) (e:=dx) (by rw[e];exact aV) (.inr k) (λb q hb z=>(l.2 b hb).trans z) v ?_;refine⟨by rw[ee O.ne];exact k,?_,O.ne,d.obj,_,d.ns,λg=>?_,λg t=>?_⟩
 ·have:=wh f y fs;omega
 ·show pH ((mf f y fs).lookup g) (if g=f then Y u else j g);rw[wg];by_cases q:g=f
  ·rw[ah q,ah q];exact m
  ·rw[ai q,ai q];exact r g
 ·by_cases q:g=f
  ·rw[q];exact(vw f y fs).1
  ·refine(vw f y fs).2 g (i g λz=>t ?_);show (if g=f then Y u else j g)=Z;rw[ai q];exact z
def fu.made(I:fu X pins σ H s):fu X pins σ (upd (upd H (zB s) (.own ((zB s)+1))) ((zB s)+1) (.ins C (zB s) []))
  { s with heap:=(s.heap.push W.emptyDict).push (W.instObj C (zB s)) }:=by
 have d:(s.heap.push W.emptyDict).get? (zB s)=Y W.emptyDict:=aB s.heap rfl;have h:((s.heap.push W.emptyDict).push (W.instObj C (zB s))).get? ((zB s)+1)=Y (W.instObj C (zB s)):=by have:=aB (s.heap.push W.emptyDict) (o:=W.instObj C (zB s)) rfl;rwa[d5] at this
 have g:(s.heap.push W.emptyDict).Ns (zB s) (λ_=>Z):=⟨W.emptyDict,#[],_,d,rfl,(λe he=>absurd he (by simp)),λ_=>rfl⟩
 have i:=I.laid (a:=(zB s)) (o:=.own ((zB s)+1)) (h':=s.heap.push W.emptyDict) (t':=s.toks) (λb u q=>ak _ q) (aA _) ⟨_,d⟩;refine i.laid (a:=(zB s)+1) (o:=.ins C (zB s) []) (t':=s.toks) (λb u q=>ak _ q) (Nat.le_of_eq (d5 _ _)) ?_;have c:(zB s)≠(zB s)+1:=aN (cQ _);refine⟨by rw[ee c,fx],cB _,c,h,λ_=>Z,(Heap.Ns1.of_empty g).at λo q=>ak _ q,λ_=>aV,λy f=>absurd rfl f⟩
def Qe{a:Program}{w:World}{b:Env}{Q:Px} (c:attributeBase e f b (eval e b)=eval e b)
  (h:wpAny (model a w) A (eval e b) (λo s₁=>wpAny (model a w) A (getAttr o f true) Q E s₁) E s):wpAny (model a w) A (eval (.Attribute e f pos) b) Q E s :=
 Attribute_any_ h (by rw[arm_eval_Attribute,c])
end
def aad(K:Fg)(d:TE)(f:Str):TE:=λσ H Q=>d σ H λx c=>∃a C e b v,x=.ref a/\c a=Y (.ins C e b)/\GJ K C/\qW K C f/\b.lookup f=Y v/\Q v c
def aae(K:Fg)(g e:TE)(f:Str):TS:=λD σ H=>e σ H λy h=>g σ h λx d=>∃a C c b,x=.ref a/\d a=Y (.ins C c b)/\GJ K C/\qW K C f/\b.length<1000 /\
 D.nx σ (upd d a (.ins C c (mf f y b)))
def aaf(X:Cx)(c:Operator)(b:V->V->Hp->VK->Prop):Prop :=
 ∀(a:Ax) (s:Shared) (σ:St) (H:Hp) (x y:V) (u v:Value) (Q:VK),fu X a σ H s->fQ x u->fQ y v->b x y H Q->(zw X) (inplaceOp c u v) (EP X a σ Q) X.xe s
def Qf(K:Fg)(i h:TE)(j:V->V->Hp->VK->Prop)(f:Str):TS:=λD σ H=>i σ H λx g=>∃a C k d v,x=.ref a/\g a=Y (.ins C k d)/\GJ K C/\qW K C f/\d.lookup f=Y v /\
 h σ g λy l=>j v y l λz e=>∃c b,e a=Y (.ins C c b)/\b.length<1000/\D.nx σ (upd e a (.ins C c (mf f z b)))
section
variable {value:Expr}{f:Str}{pos' Xq:Pos}{ta tv:TE}
def Cj(i:PE X e ta)(j:attributeBase e f X.env (eval e X.env)=eval e X.env):PE X (.Attribute e f pos) (aad X.K ta f):=by intro b s σ H Q I h;refine Qe j (hZ (@i b s σ H _ I h) ?_);rintro u y ⟨x,r,p,d,a,C,A,z,v,k,m,c,n,l,q⟩;subst k;obtain rfl:u=Value.ref a:=d;exact ye p m c n l λt w o g=>⟨v,r,o,g,q⟩
def GL(p:PE X o ta)(k:PE X value tv)(m:swapsWith value (Y (.Attribute o f pos')) pos.line X.env=pure false):PS X (.Assign [.Attribute o f pos'] value pos) (aae X.K ta tv f):=by intro b s σ H D I h;refine plainObj_wpAny_Assign_Attribute (hZ (@k b s σ H _ I h) ?_) m;rintro u d ⟨y,A,z,e,q⟩;refine hZ (@p b d σ A _ z q) ?_;rintro j E ⟨x,J,w,g,a,C,G,F,r,t,c,n,l,i⟩;subst r;obtain rfl:j=Value.ref a:=g;exact yg w t c n l e λB v=>⟨σ,_,v,i⟩
def Kj{i:Operator}{g:V->V->Hp->VK->Prop}(J:PE X o ta)(G:PE X value tv)(d:aaf X i g):PS X (.AugAssign (.Attribute o f Xq) i value pos) (Qf X.K ta tv g f):=by intro b s σ H D I h;refine wpAny_AugAssign_AttributeAny (hZ (@J b s σ H _ I h) ?_);rintro E s1 ⟨x,W,T,t,a,C,dx,fs,v,M,N,c,n,l,q⟩;subst M;obtain rfl:E=Value.ref a:=t;refine ye T N c n l λu m S w=>hZ (@G b m σ W _ S q) ?_;rintro j k ⟨y,U,R,r,B⟩;refine hZ (@d b k σ U v y u j _ R w r B) ?_;rintro w4 s4 ⟨z,H3,Q,p,O,L,e,F,A⟩;exact yg Q e c n F p λs5 P=>⟨σ,_,P,A⟩
end
section
variable {Q:Px}{c:Value}{b:Bool}
end
structure iO (k:Nat) (A:Around):Prop where
 hd:A.handled=Z
 dp:A.depth+3*k+5<recursionLimit
 un:A.units+16*k+200<cLine
def iO.mono{j k:Nat}(r:iO k A)(h:j<=k):iO j A:=⟨r.hd,by have:=r.dp;omega,by have:=r.un;omega⟩
theorem iO.deeper{k:Nat}{A:Around}(r:iO (k+1) A)(a:Env):iO k (A.deeper a) :=
 ⟨r.hd,by have:=r.dp;show A.depth+1+3*k+5<_;omega,by have:=r.un;show A.units+3+16*k+200<_;omega⟩
def GN{C:Addr}{a:Lw}{b:List (Str×Value)}:(A.under (.builtin "type.__call__" ⟨.ref C::a,b⟩)).depth=A.depth+1:=by
 first|rfl|simp[Around.under,Code.weight,Code.isCreation,Code.isGuard,Code.isCaller,Code.frames,Code.isFrame,guardIds]
def GO{C:Addr}{a:Lw}{b:List (Str×Value)}:(A.under (.builtin "type.__call__" ⟨.ref C::a,b⟩)).units=A.units+1:=by
 first|rfl|simp[Around.under,Code.cUnits,Code.frames,Code.isFrame]
def iO.make{k:Nat}(r:iO (k+1) A)(C:Addr)(a:Lw)(b:List (Str×Value)):iO k (A.under (.builtin "type.__call__" ⟨.ref C::a,b⟩)) :=
 ⟨r.hd,by have:=r.dp;rw[GN];omega,by have:=r.un;rw[GO];omega⟩
theorem iO.depth{k:Nat}{A:Around}(r:iO k A):A.depth<recursionLimit:=by have:=r.dp;omega
theorem iO.units{k:Nat}{A:Around}(r:iO k A):A.units+64<cLine:=by have:=r.un;omega
def UI:TA:=λ_ H Q=>Q [] H
def Xr(c:TE)(b:TA):TA:=λσ H Q=>c σ H λx e=>b σ e λa d=>Q (x::a) d
section
variable {te:TE}{t:TA}
def qf:PA X [] UI:=λ_ _ _ _ H Q I h=>bx ⟨[],H,I,.nil,h⟩
def lC(m:PE X e te)(l:PA X es t)(k:zE e es X:=by rfl):PA X (e::es) (Xr te t):=by intro b a s σ H Q I h;rw[k];show wpAny _ _ (spliced ((false,eval e X.env)::backTo b (starEach es X.env))) _ _ s;refine aX (hZ (@m a s σ H _ I h) ?_);rintro u d ⟨x,q,o,g,j⟩;exact hZ (@l b a d σ q _ o j) <| by rintro r v ⟨c,p,n,f,i⟩;exact⟨x::c,p,n,.cons g f,i⟩
def aag(t:TA):TE:=λσ H Q=>t σ H λa b=>a.length<=sizeLine/\∀p,b p=Z->Q (.ref p) (upd b p (.tup a))
def aah(t:TA):TE:=λσ H Q=>t σ H λa b=>a.length<=sizeLine/\∀p,b p=Z->Q (.ref p) (upd b p (.lst a))
def Mt{x1}(h:PA X es t):PE X (.Tuple es x1 pos) (aag t):=by intro a s σ H Q I j;refine wpAny_Tuple_spliced (hZ (@h pos a s σ H _ I j) ?_);rintro i c ⟨g,f,d,r,z,q⟩;refine⟨by rw[<-r.length];exact z,?_⟩;have k:f (zB c)=Z:=d.iS.fresh (aA _);refine⟨.ref (zB c),upd f (zB c) (.tup g),d.laid (t':=c.toks) (λb u e=>ak _ e) (aA _) ?_,rfl,q _ k⟩;exact⟨z,i,r,⟨_,aB _ rfl,rfl,_,rfl⟩⟩
def GP(h:PA X es t):PE X (.List es pos) (aah t):=by intro a s σ H Q I j;refine wpAny_List_spliced (hZ (@h pos a s σ H _ I j) ?_);rintro i c ⟨g,f,d,r,z,q⟩;refine⟨by rw[<-r.length];exact z,?_⟩;have k:f (zB c)=Z:=d.iS.fresh (aA _);refine⟨.ref (zB c),upd f (zB c) (.lst g),d.laid (t':=c.toks) (λb u e=>ak _ e) (aA _) ?_,rfl,q _ k⟩;exact⟨z,i,0,r,aB _ rfl⟩
end
abbrev Sp:=List V->Hp->VK->XK->Prop
abbrev Mu:=List Env->Hp->Shared->XK->Value->Shared->Prop
structure GQ (P:Program) (w:World) (K:Fg) (mg:Str->Ow) (base:Heap) (A:Around) (outer:List Env) (s:Shared) (H:Hp):Prop where
 frames:A.frames=Y outer
 mod:Mod K mg base
 bs:∀b o,base.get? b=Y o->s.heap.get? b=Y o/\H b=Z
 Tr:base.objs.size<=(zB s)
 tE:s.heap.FunFrames base outer
 L8:∀b∈Gs outer,H b=Z
 iS:tw P w H s.heap
 bare:AllBare s.gens
def CE(a:List Env)(P:Program)(w:World)(H:Hp)(s:Shared)(Q:VK)(u:Value)(b:Shared):Prop :=
 ∃v c,b.os=s.os/\AllBare b.gens/\Un (Gs a) [] H c s.heap b.heap/\tw P w c b.heap/\fQ v u/\Q v c
def CR(c:Mu)(a:List Env)(P:Program)(w:World)(H:Hp)(s:Shared)(Q:VK)(E:XK)(r:Result)(b:Shared):Prop :=
 match r with
 |.ok (.ret u)=>CE a P w H s Q u b
 |.ok _=>False
 |.error e=>c a H s E e b
structure k7 (P:Program) (w:World) (K:Fg) (mg:Str->Ow) (base:Heap) (CX:Mu) (k:Nat) (f:Addr) (fd:FuncData) (ps:Lr) (sp:Sp):Prop where
 len:∀vs H Q E,sp vs H Q E->vs.length=ps.length
 run:∀(A:Around) (outer:List Env) (s:Shared) (H:Hp) (args:Args) (us:Lw) (vs:List V) (Q:VK) (E:XK),iO k A->GQ P w K mg base A outer s H->BindsTo s fd args (ps.zip us)->fY vs us->sp vs H Q E ->
  codeAny (model P w) A (.call (.ref f) args) (CR CX outer P w H s Q E) s
theorem k7.mono{P:Program}{w:World}{K:Fg}{g:Str->Ow}{a:Heap}{l:Mu}{j k:Nat}{f:Addr}{i:FuncData}{e:Lr}{d:Sp}(F:k7 P w K g a l j f i e d)(h:j<=k):
  k7 P w K g a l k f i e d:=⟨F.len,λA b s H c m vs Q E n=>F.run A b s H c m vs Q E (n.mono h)⟩
def GQ.make{P:Program}{w:World}{b:Heap}{a:List Env}(e:GQ P w K mg b A a s H)(C:Addr)(c:Lw)(d:List (Str×Value)):
  GQ P w K mg b (A.under (.builtin "type.__call__" ⟨.ref C::c,d⟩)) a s H:=⟨by first|exact e.frames|(simpa [Around.under,Code.envs,Code.isFrame,pushEnvs] using e.frames),e.mod,e.bs,e.Tr,e.tE,e.L8,e.iS,e.bare⟩
section
variable {s':Shared}
def fu.Xs(I:fu X pins σ H s):GQ X.prog X.w X.K X.mg X.base X.A X.stack s H :=
 ⟨I.ok.frames,I.ok.mod,I.bs,bK I.ok.Tr I.sz,I.stack,I.Iw,I.iS,I.bare⟩
def fu.after{Q:VK}{u:Value}(I:fu X pins σ H s)(h:CE X.stack X.prog X.w H s Q u s'):EP X pins σ Q u s':=by obtain⟨v,k,i,a,f,e,r,q⟩:=h;obtain⟨j,g,d,t,c⟩:=s';obtain rfl:c=s.os:=i;exact⟨v,k,I.call (h':=j) (g':=g) (d':=d) (t':=t) (ch:=[]) f e a (λb z=>absurd z (by simp)),r,q⟩
end
def Xt(c:Sp)(a:List V)(E:XK)(t:TA):TE:=λσ H Q=>t σ H λb d=>c (b++a) d Q E
def Tv(C:Addr)(m:Str)(f:Sp)(b:List V)(E:XK)(e:TE)(t:TA):TE:=λσ H Q=>e σ H λx d=>∃a g c,x=.ref a/\d a=Y (.ins C g c)/\c.lookup m=Z /\
 t σ d λvs h=>f (x::(vs++b)) h Q E
def Tw(C:Addr)(e:Sp)(b:List V)(E:XK)(t:TA):TE:=λσ H Q=>t σ H λd c=>∀x a,c x=Z->c a=Z->a≠x ->
 e (.ref x::(d++b)) (upd (upd c a (.own x)) x (.ins C a [])) (λv f=>v=.lB/\Q (.ref x) f) E
def kQ(K:Fg)(c:FuncData)(a:Lr)(b:Lw):Prop :=
 ∀(s:Shared) (us:Lw),K.In s.heap->(us++b).length=a.length->BindsTo s c ⟨us,[]⟩ (a.zip (us++b))
def kQ.all{a:Lr}(h:∀us:Lw,us.length=a.length->bindArgs fd ⟨us,[]⟩=pure (a.zip us)):kQ K fd a []:=λs us _ b=>by rw[aL] at b ⊢;exact .of_eq (h us b)
def qX(c:Mu)(X:Cx)(E:XK):Prop:=∀(a:Ax) (σ:St) (H:Hp) (s:Shared) (e:Value) (b:Shared),fu X a σ H s->c X.stack H s E e b->X.xe e b
section
variable {CX:Mu}{k:Nat}{f C:Addr}{ps:Lr}{sp:Sp}{Eg:List V}{ds:Lw}{E:XK}{m:Str}{apos:Pos}{ta:TE}{t:TA}
theorem yh{Q:VK}{us:Lw} (F:k7 X.prog X.w X.K X.mg X.base CX k f fd ps sp) (g:iO k X.A) (l:kQ X.K fd ps ds) (j:fY Eg ds) (d:qX CX X E)
  (I:fu X pins σ H s) (r:fY vs us) (h:sp (vs++Eg) H Q E):(zw X) (call (.ref f) us) (EP X pins σ Q) X.xe s:=by
 have b:fY (vs++Eg) (us++ds):=r.append j;have i:(us++ds).length=ps.length:=by rw[<-b.length];exact F.len _ _ _ _ h
 refine wpAny_call (df (F.run X.A X.stack s H ⟨us,[]⟩ (us++ds) (vs++Eg) Q E g I.Xs (l s us I.ue i) b h) λr c a=>?_);cases r with
 |error e=>exact d pins σ H s e c I a
 |ok m=>
  cases m with
  |ret u=>exact I.after a
  |next=>exact False.elim a
  |brk=>exact False.elim a
  |cont=>exact False.elim a
def xH(F:k7 X.prog X.w X.K X.mg X.base CX k f fd ps sp) (i:iO k X.A) (m:Gl X x) (j:X.mg x=Y (.ref f)) (l:W.keepIn X.K (.ref f)=true) (u:kQ X.K fd ps ds) (o:fY Eg ds) (g:qX CX X E)
  (v:PA X (e::es) t) (c:zg x:=by decide) (n:zE e es X:=by rfl) (b:(backTo pos (starEach es X.env)).any (·.1)=false:=by rfl):
  PE X (.Call (.Name x p) (e::es) [] pos) (Xt sp Eg E t):=by
 intro a s σ H Q I h;refine bg (oP I m j ?_ c);refine W.callWith_K (h₀:=X.base) I.ok.mod.Ur l (hZ (@v pos a s σ H _ I h) ?_) n b;rintro z B ⟨y,C,d,r,q⟩;refine⟨d.ue,?_⟩;exact yh F i u o g d r q
def Cm{pl:Sem Bool} (G:PE X o ta) (c:GJ X.K C) (i:GK X.K C m f) (F:k7 X.prog X.w X.K X.mg X.base CX k f fd ps sp) (D:iO k X.A) (L:kQ X.K fd ps ds) (J:fY Eg ds) (z:qX CX X E) (M:PA X (e::es) t)
  (d:zE e es X:=by rfl) (g:(backTo pos (starEach es X.env)).any (·.1)=false:=by rfl)
  (B:eval (.Call (.Attribute o m apos) (e::es) [] pos) X.env=(do
   let ov <-eval o X.env
   standAt apos.atName
   let (f,first) <-holding [ov] (getMethod ov m pl)
   callWith pos f first (backTo pos (starEach (e::es) X.env)) (backToKw pos (keywordEach [] X.env))):=by rfl):
  PE X (.Call (.Attribute o m apos) (e::es) [] pos) (Tv C m sp Eg E ta t):=by
 intro b s σ H Q I h;refine W.methodCall_KW (pl:=pl) (hZ (@G b s σ H _ I h) ?_) B;rintro u p ⟨x,P,n,v,a,T,S,N,O,l,q⟩;subst N;obtain rfl:u=Value.ref a:=v;refine yf n O c i l ?_;refine W.callWith_K (first:=[.ref a]) (h₀:=X.base) I.ok.mod.Ur i.kp (hZ (@M pos b p σ P _ n q) ?_) d g;rintro us R ⟨vs,U,j,r,y⟩;refine⟨j.ue,?_⟩;exact yh (us:=.ref a::us) (vs:=.ref a::vs) F D L J z j (.cons rfl r) y
def Eh{pl:Sem Bool} (p:PE X o ta) (c:GJ X.K C) (e:GK X.K C m f) (F:k7 X.prog X.w X.K X.mg X.base CX k f fd ps sp) (n:iO k X.A) (t:kQ X.K fd ps ds) (r:fY Eg ds) (i:qX CX X E)
  (j:eval (.Call (.Attribute o m apos) [] [] pos) X.env=(do
   let ov <-eval o X.env
   standAt apos.atName
   let (f,first) <-holding [ov] (getMethod ov m pl)
   callWith pos f first (backTo pos (starEach [] X.env)) (backToKw pos (keywordEach [] X.env))):=by rfl):
  PE X (.Call (.Attribute o m apos) [] [] pos) (Tv C m sp Eg E ta UI):=by
 intro b s σ H Q I h;refine W.methodCall_KW (pl:=pl) (hZ (@p b s σ H _ I h) ?_) j;rintro u z ⟨x,G,d,g,a,D,B,v,y,l,q⟩;subst v;obtain rfl:u=Value.ref a:=g;refine yf d y c e l ?_;exact W.callWith_K0 (first:=[.ref a]) d.ue e.kp (yh (us:=[.ref a]) (vs:=[.ref a]) F n t r i d (.cons rfl .nil) q)
structure Mk (K:Fg) (C f:Addr):Prop where
 makes:W.makesIn K C=true
 init:W.findIn K (.ref C) "__init__"=Y (Y (.ref f))
 fn:W.isFn K (.ref f)=true
 kp:W.keepIn K (.ref C)=true
theorem Ei{Q:VK}{us:Lw} (M:Mk X.K C f) (F:k7 X.prog X.w X.K X.mg X.base CX k f fd ps sp) (m:iO (k+1) X.A) (p:kQ X.K fd ps ds) (o:fY Eg ds)
  (l:qX CX X E) (I:fu X pins σ H s) (r:fY vs us)
  (h:∀x dx,H x=Z->H dx=Z->dx≠x->sp (.ref x::(vs++Eg)) (upd (upd H dx (.own x)) x (.ins C dx [])) (λv H2=>v=.lB/\Q (.ref x) H2) E):
  (zw X) (call (.ref C) us) (EP X pins σ Q) X.xe s:=by
 have d:=h ((zB s)+1) (zB s) (I.iS.fresh (eS _)) (I.iS.fresh (aA _)) (aN (cQ _));have b:=fu.made (C:=C) I;have c:fY (V.ref ((zB s)+1)::(vs++Eg)) (Value.ref ((zB s)+1)::(us++ds)):=.cons rfl (r.append o);have n:(Value.ref ((zB s)+1)::us++ds).length=ps.length:=by have e:=c.length;rw[F.len _ _ _ _ d] at e;exact e.symm
 refine wpAny_call (Ms (f:=f) I.ue M.makes M.init (cu.mp M.fn) (df (F.run _ X.stack _ _ ⟨Value.ref ((zB s)+1)::us,[]⟩ (Value.ref ((zB s)+1)::(us++ds)) _ _ E (m.make C us [])
  (b.Xs.make C us []) (p _ (Value.ref ((zB s)+1)::us) b.ue n) c d) λr g a=>?_))
 cases r with
 |error e=>exact l pins σ _ _ e g b a
 |ok q=>
  cases q with
  |ret u=>obtain⟨v,z,y,i,t,j⟩:=b.after a;subst t;exact⟨i,⟨V.ref ((zB s)+1),z,y,rfl,j⟩⟩
  |next=>exact False.elim a
  |brk=>exact False.elim a
  |cont=>exact False.elim a
def Cn(M:Mk X.K C f) (F:k7 X.prog X.w X.K X.mg X.base CX k f fd ps sp) (i:iO (k+1) X.A) (l:Gl X x) (j:X.mg x=Y (.ref C)) (o:kQ X.K fd ps ds) (n:fY Eg ds) (g:qX CX X E)
  (u:PA X (e::es) t) (c:zg x:=by decide) (m:zE e es X:=by rfl) (b:(backTo pos (starEach es X.env)).any (·.1)=false:=by rfl):
  PE X (.Call (.Name x p) (e::es) [] pos) (Tw C sp Eg E t):=by
 intro a s σ H Q I h;refine bg (oP I l j ?_ c);refine W.callWith_K (h₀:=X.base) I.ok.mod.Ur M.kp (hZ (@u pos a s σ H _ I h) ?_) m b;rintro y z ⟨v,B,d,r,q⟩;refine⟨d.ue,?_⟩;exact Ei M F i o n g d r q
def Mv(M:Mk X.K C f) (F:k7 X.prog X.w X.K X.mg X.base CX k f fd ps sp) (d:iO (k+1) X.A) (g:Gl X x) (e:X.mg x=Y (.ref C)) (j:kQ X.K fd ps ds) (i:fY Eg ds) (c:qX CX X E)
  (a:zg x:=by decide):PE X (.Call (.Name x p) [] [] pos) (Tw C sp Eg E UI):=by
 intro b s σ H Q I h;refine bg (oP I g e ?_ a);exact W.callWith_K0 I.ue M.kp (Ei (us:=[]) M F d j i c I .nil h)
end
section
variable {CX:Mu}{k:Nat}{f C:Addr}{ps:Lr}{sp:Sp}{E:XK}{m:Str}{apos aa4:Pos}{kws:List Keyword}{te ta:TE}{t tk:TA}{nm:Option Str}
variable {g:Lw->Lw->Lw}{gV:List V->List V->List V}
end
structure iD (N P:Lr) (sc:Scope):Prop where
 kind:sc.kind=.function
 co:sc.isCoroutine=false
 gen:sc.isGenerator=false
 nd:N.Nodup
 pre:N.take P.length=P
 par:∀x∈P,sc.names.lookup x=Y .local\/sc.names.lookup x=Y .cell
 UJ:∀y∈sc.names,y.2≠.free
theorem Ba{b:Str->Option NameKind}{x:Str}:∀{a:List (Str×Value)}{m:Str->Ow},(∀v,(x,v)∉a)->bindL b a m x=m x
 |[],_,_=>rfl
 | (n,v)::r,m,h=>by
  unfold bindL;rw[Ba λw hw=>h w (aj _ hw)];split
  ·have:x≠n:=by rintro rfl;exact h v ba
   simp[this]
  ·rfl
theorem Bb{b:Str->Option NameKind}{x:Str}:∀{a:List (Str×Value)}{m:Str->Ow},(∀v,(x,v)∉a)->bindC b a m x=m x
 |[],_,_=>rfl
 | (n,v)::r,m,h=>by
  unfold bindC;rw[Bb λw hw=>h w (aj _ hw)];split
  ·rfl
  ·have:x≠n:=by rintro rfl;exact h v ba
   simp[this]
theorem Bc{a:Str->Option NameKind}{x:Str}{v:Value}:∀{P:Lr}{b:Lw}{i:Nat}{m:Str->Ow},P.Nodup->P[i]?=Y x->b[i]?=Y v->a x=Y .local ->
  bindL a (P.zip b) m x=Y v
 |[],_,_,_,_,h,_,_=>by simp at h
 |_::_,[],_,_,_,_,h,_=>by simp at h
 |p::P,w::b,0,m,nd,h1,h2,hk=>by simp at h1 h2;subst h1;subst h2;show bindL a ((p,w)::P.zip b) m p=_;unfold bindL;rw[Ba λv c=>(bJ.mp nd).1 (eP c).1,ah hk];simp
 |p::P,w::b,i+1,m,nd,h1,h2,hk=>by show bindL a ((p,w)::P.zip b) m x=_;unfold bindL;exact Bc (i:=i) (bJ.mp nd).2 (by simpa using h1) (by simpa using h2) hk
theorem Bd{a:Str->Option NameKind}{x:Str}{v:Value}:∀{P:Lr}{b:Lw}{i:Nat}{m:Str->Ow},P.Nodup->P[i]?=Y x->b[i]?=Y v->a x≠Y .local ->
  bindC a (P.zip b) m x=Y v
 |[],_,_,_,_,h,_,_=>by simp at h
 |_::_,[],_,_,_,_,h,_=>by simp at h
 |p::P,w::b,0,m,nd,h1,h2,hk=>by simp at h1 h2;subst h1;subst h2;show bindC a ((p,w)::P.zip b) m p=_;unfold bindC;rw[Bb λv c=>(bJ.mp nd).1 (eP c).1,ai hk];simp
 |p::P,w::b,i+1,m,nd,h1,h2,hk=>by show bindC a ((p,w)::P.zip b) m x=_;unfold bindC;exact Bd (i:=i) (bJ.mp nd).2 (by simpa using h1) (by simpa using h2) hk
def lD(N:Lr)(vs:List V):St:=vs.map Y++List.replicate (N.length - vs.length) Z
noncomputable def vx(j:Mu)(P:Program)(w:World)(K:Fg)(i:Str->Ow)(d:Heap)(N:Lr)(c:Str)(a:Scope)(f:Addr)(h:Value)(A:Around)(b:List Env)(s:Shared)(H:Hp)(E:XK):Cx where
 prog:=P
 w:=w
 K:=K
 mg:=i
 base:=d
 A:=A.deeper (envOfC c a (zB s) f h)
 N:=N
 s₀:=s
 H₀:=H
 env:=envOfC c a (zB s) f h
 outer:=b
 stack:=envOfC c a (zB s) f h::b
 ex:=[]
 calm:=true
 fn:=λ_=>true
 pn:=[]
 xe:=λe k=>wpAny (model P w) (A.deeper (envOfC c a (zB s) f h)) (leaving (envOfC c a (zB s) f h) e) (λ_ g=>j b H s E e g) (λl g=>j b H s E l g) k
def Ej{a:Scope}(h:a.names.lookup x=Y .cell):∃c,(cellsFrom n a.names []).lookup x=Y c:=by have q:=W.cellsFrom_some a.names n [] (.inl h);exact Option.isSome_iff_exists.mp q
def Kk{Q:Mu}{P:Program}{w:World}{l:Heap}{N o:Lr}{g:Str}{f:Addr}{I:Value}{d:List Env}{L:Shared}{E:XK}{J:Lw}
  (S:iD N o scope) (U:A.handled=Z) (m:GQ P w K mg l A d s H) (X:vs.length=o.length) (r:fY vs J)
  (x:InCallC s (zB s) (bindL (envOfC g scope (zB s) f I).kindOf (o.zip J) λ_=>Z) (cellsFrom ((zB s)+1) scope.names []) (bindC (envOfC g scope (zB s) f I).kindOf (o.zip J) λ_=>Z) L):
  fu (vx Q P w K mg l N g scope f I A d s H E) [] (lD N vs) H L:=by
 have T:o.length<=N.length:=by have:=bL List.length S.pre;rw[cx] at this;omega
 obtain⟨G,W,rfl,O⟩:=x.done;have t:∀b:Addr,b∉(vx Q P w K mg l N g scope f I A d s H E).ex:=λb z=>absurd (show b∈([]:List Addr) from z) (by simp);refine⟨⟨m.mod,S.kind,rfl,rfl,aA _,λy z c G j=>?_,λy B=>?_,λy c _ h=>?_,λ_=>U,Around.frames_deeper m.frames,.inr ⟨rfl,rfl⟩,λb z=>absurd z (t b),m.bs,m.Tr,λb _ _=>t b,λb z=>absurd z (t b),m.tE,m.L8⟩,
  rfl,m.bare,Un.kept O,⟨_,x.toInCall.ns,λi y v G j h3=>?_⟩,λy c h=>⟨_,x.cell y c h⟩,m.iS.fresh (aA _),λy c h=>?_,λp D=>absurd (show p∈([]:Ax) from D) (by simp),m.iS.kept O,?_⟩
 ·exact name_of_addr x.apart (bM G) (bM j)
 ·have B:scope.names.lookup y=Y .cell\/scope.names.lookup y=Y .free:=B;rcases B with B|B
  ·exact Ej B
  ·exact absurd rfl (S.UJ _ (bM B))
 ·exact dY (x.above y c (bM h))
 ·have F:i<vs.length:=by
   unfold lD at j;by_cases F:i<vs.length
   ·exact F
   ·rw[aD (by simpa using F)] at j;rw[bG] at j;split at j<;>cases j
  have V:vs[i]?=Y v:=by
   unfold lD at j;rw[aS (by simpa using F),az] at j;cases e:vs[i]? with
   |none=>rw[e] at j;cases j
   |some a=>rw[e] at j;cases j;rfl
  obtain⟨u,M,R⟩:=r.get V;have D:o[i]?=Y y:=by rw[<-S.pre,List.getElem?_take_of_lt (by omega)];exact G
  have C:o.Nodup:=by rw[<-S.pre];exact S.nd.sublist (eh _ _)
  refine⟨u,R,?_⟩;rcases S.par y (bP D) with k|k
  ·exact .inl ⟨k,Bc C D M k⟩
  ·obtain⟨c,e⟩:=Ej (n:=(zB s)+1) k;refine .inr ⟨.inl k,c,e,?_⟩;have q:=x.cell y c e;rw[Bd C D M (by show scope.names.lookup y≠_;rw[k];decide)] at q;exact q
 ·exact m.iS.fresh (dY (x.above y c (bM h)))
 ·unfold lD;show _=N.length;rw[bp,aC,List.length_replicate];omega
def Xu{F:Mu}{P:Program}{w:World}{g:Heap}{k:Nat}{f:Addr}{i a:Str}{d:Arguments}{h:List Stmt}{dV kV C X c ct oc:Value}{an od:Option Addr}
  {M:Array Ow}{N D:Lr}{G:Sp} (lk:K.lookup f=Y ⟨oc,od,.func (W.fnOf i a d h scope dV kV C X an c ct),M⟩) (T:W.codeIn K c a=true) (S:iD N D scope)
  (m:∀vs H Q E,G vs H Q E->vs.length=D.length)
  (l:∀(A:Around) (outer:List Env) (s:Shared) (H:Hp) (vs:List V) (Q:VK) (E:XK),iO k (A.deeper (envOfC a scope (zB s) f c))->G vs H Q E ->
   ∃t,vu (vx F P w K mg g N a scope f c A outer s H E) h t/\t { nx:=λ_ H'=>Q .lB H',rt:=Q } (lD N vs) H):
  k7 P w K mg g F (k+1) f (W.fnOf i a d h scope dV kV C X an c ct) D G:=by
 refine⟨m,λA outer s H args us vs Q E R B hb r p=>?_⟩;have hl:=m _ _ _ _ p;have KX:K.In s.heap:=B.mod.Ur.keeps λb o e=>(B.bs b o e).1;have O:s.heap.NoLimit:=B.mod.nolimit.keeps λb o e=>(B.bs b o e).1;have j:∀y∈D.zip us,scope.names.lookup y.1=Y .local\/(scope.names.lookup y.1=Y .cell/\((cellsFrom ((zB s)+1) scope.names []).lookup y.1).isSome=true):=by
  rintro⟨n,v⟩ hy;rcases S.par n (eP hy).1 with q|q
  ·exact .inl q
  ·exact .inr ⟨q,W.cellsFrom_some _ _ _ (.inl q)⟩
 refine codeAny_call_function R.depth (KX _ _ lk) rfl S.co S.gen rfl (W.codeRec_of KX T) (hb _ _ _ _ ?_);refine wpAny_newFunctionEnv_cells S.kind j λenv he U x=>?_;subst he;refine⟨O.keeps x.toInCall.keep,codeAny_func ?_⟩;obtain⟨t,ht,hq⟩:=l A outer s H vs Q E (R.deeper _) p;have I:fu (vx F P w K mg g N a scope f c A outer s H E) [] (lD N vs) H U:=Kk S R.hd B hl r x;refine bU (@ht [] U (lD N vs) H _ I hq) (λfl L hs=>?_) λe L hs=>hs;have z:∀{σ':St}{H':Hp}{v:V}{u:Value},fu (vx F P w K mg g N a scope f c A outer s H E) [] σ' H' L->fQ v u->Q v H'->CE outer P w H s Q u L :=
  λ{σ' H' v u} J rv q=>⟨v,H',J.os,J.bare,J.base,J.iS,rv,q⟩
 cases fl with
 |ret u=>obtain⟨v,σ',H',J,rv,q⟩:=hs;exact z J rv q
 |next=>obtain⟨σ',H',J,q⟩:=hs;exact z (v:=V.lB) (u:=Value.none) J rfl q
 |brk=>obtain⟨_,_,_,q⟩:=hs;exact False.elim q
 |cont=>obtain⟨_,_,_,q⟩:=hs;exact False.elim q
section
variable {t:TA}{id T:String}{r:List V->Hp->VK->Prop}
def tCB(r:List V->Hp->VK->Prop)(t:TA):TE:=λσ H Q=>t σ H λa b=>r a b Q
def Ek(q:jU X (.builtin id) r) (n:Gl X x) (m:X.mg x=Z) (k:bootBuiltins x=Y (.builtin id)) (u:PA X (e::es) t) (l:x≠"__name__":=by decide) (c:zg x:=by decide)
  (o:zE e es X:=by rfl) (b:(backTo pos (starEach es X.env)).any (·.1)=false:=by rfl):PE X (.Call (.Name x p) (e::es) [] pos) (tCB r t):=by
 intro a s σ H Q I h;refine bg (pb I n m k ?_ l c);exact dE (hZ (@u pos a s σ H _ I h) <| by rintro f g ⟨d,w,v,i,j⟩;exact @q a g σ w d f Q v i j) o b
def vy(q:jU X (.type T) r) (n:Gl X x) (m:X.mg x=Z) (k:bootBuiltins x=Y (.type T)) (u:PA X (e::es) t) (l:x≠"__name__":=by decide) (c:zg x:=by decide)
  (o:zE e es X:=by rfl) (b:(backTo pos (starEach es X.env)).any (·.1)=false:=by rfl):PE X (.Call (.Name x p) (e::es) [] pos) (tCB r t):=by
 intro a s σ H Q I h;refine bg (pb I n m k ?_ l c);exact bq (hZ (@u pos a s σ H _ I h) <| by rintro f g ⟨d,w,v,i,j⟩;exact @q a g σ w d f Q v i j) o b
end
end L2
namespace HT
open PySem PyProof.Rows
section
open PySem.SeqAt
open PySem.AutoSeq1 (wpAny_loadPart')
open PySem.MeetsSeq PySem.MeetsSeq2 PySem.MeetsSeq3
end
section
variable {prog:Program}{w:World}
def Qg{t b:Addr}{d a:Lw}{Q:Px} (x:IsTup s.heap t d.toArray) (y:IsTup s.heap b a.toArray) (p:d≠[])
  (B:a=[]->Q (.ref t) s) (z:a≠[]->Q (.ref (zB s)) { s with heap:=s.heap.push { cls:=.type "tuple",data:=.seq (d++a).toArray } })
  (k:d.length+a.length<=sizeLine):wpAny (model prog w) A (binaryOp .Add (.ref t) (.ref b)) Q E s:=by
 obtain⟨⟨cls,u,data,m⟩,j,r,n,q⟩:=id x;obtain⟨⟨v,i,l,f⟩,c,h,o,g⟩:=id y;simp only at r q h g;subst r q h g;have e:d.toArray++a.toArray=(d++a).toArray:=by simp
 by_cases hw:a=[]
 ·exact eN ⟨_,j,rfl⟩ ⟨_,c,rfl⟩ eF seq_tuple_add dg cY (cV _ _)
   (tuple_addW1 t b d.toArray a.toArray n o u i m f (by simpa using p) (by simp[hw])) ⟨j,c,B hw⟩
 ·refine eN ⟨_,j,rfl⟩ ⟨_,c,rfl⟩ eF seq_tuple_add dg cY (cV _ _)
   (tuple_addW2 t b d.toArray a.toArray n o u i m f (by simpa using p) (by simpa using hw) (by rw[au,au];exact k)) ⟨j,c,?_⟩
  rw[e];exact z hw
def j7(n d:Nat):Option Int->Nat
 |none=>d
 |some v=>if v<0 then (v+(n:Int)).toNat else min v.toNat n
def UK(n d:Nat)(b:d<=n)(o:Option Int):j7 n d o<=n:=by
 cases o with
 |none=>exact b
 |some v=>
  show (if v<0 then (v+(n:Int)).toNat else min v.toNat n)<=n;by_cases a:v<0
  ·rw[ah a];omega
  ·rw[ai a];exact eG _ _
def IF(v:Int)(n d:Nat):(if v<0 then max (v+(n:Int)) 0 else min v (n:Int))=((j7 n d (Y v):Nat):Int):=by
 show (if v<0 then max (v+(n:Int)) 0 else min v (n:Int))=(((if v<0 then (v+(n:Int)).toNat else min v.toNat n):Nat):Int)
 by_cases a:v<0
 ·simp only[ah a];omega
 ·simp only[ai a];omega
def GS(a b:Option Int)(n:Nat):Builtin.Slice.sliceAdjust a b 1 (n:Int)=(((j7 n 0 a:Nat):Int),((j7 n n b:Nat):Int)):=by
 have c:¬ ((1:Int)<0):=by omega
 unfold Builtin.Slice.sliceAdjust;simp only[c,bV];refine Prod.ext ?_ ?_
 ·cases a with
  |none=>rfl
  |some v=>exact IF v n 0
 ·cases b with
  |none=>rfl
  |some v=>exact IF v n n
def GU(i j:Nat):Builtin.Slice.slicePlaces (i:Int) (j:Int) 1=j - i:=by
 unfold Builtin.Slice.slicePlaces;have a:(1:Int) > 0:=by omega
 simp only[a,bD,Int.ediv_one];split<;>omega
def yi{v:Value}{o:Option Int}{Q:Option Int->Shared->Prop}(p:IsPart v o)(h:Q o s):wpAny (model prog w) A (Builtin.Slice.slicePartIndex v) Q E s:=by
 cases p with
 |none=>exact slicePart_none h
 |int i t=>exact slicePart_int h
def pI{g:Addr}{f e:Value}{a c:Option Int}{Q:Int×Int×Nat->Shared->Prop} (k:s.heap.IsSliceOf g f e .none) (j:IsPart f a) (i:IsPart e c)
  (h:Q (((j7 n 0 a:Nat):Int),1,j7 n n c - j7 n 0 a) s):wpAny (model prog w) A (Builtin.Slice.sliceApplied (.ref g) (pure (n:Int))) Q E s:=by
 obtain⟨m,b,l,d⟩:=id k;unfold Builtin.Slice.sliceApplied Builtin.Slice.sliceFields;refine ae (ae (cC b d (x:=f) rfl (ae (cC b d (x:=e) rfl (ae (cC b d (x:=.none) rfl (ar ?_)))))));refine ae (slicePart_none ?_);show wpAny _ _ (if ((1:Int)==0)=true then _ else _) _ _ s;rw[ai (by decide)];refine ae (yi j (ae (yi i (ae (ar ?_)))));show wpAny _ _ (match Builtin.Slice.sliceAdjust a c 1 (n:Int) with|(a,c)=>pure (a,(1:Int),Builtin.Slice.slicePlaces a c 1)) _ _ s;rw[GS a c n];show wpAny _ _ (pure (((j7 n 0 a:Nat):Int),(1:Int),Builtin.Slice.slicePlaces ((j7 n 0 a:Nat):Int) ((j7 n n c:Nat):Int) 1)) _ _ s;rw[GU];exact ar h
def Mw(a:Array Value)(i k:Nat):((List.range k).filterMap λ(m:Nat)=>a[((i:Int)+(m:Int)*1).toNat]?).toArray=((a.toList.drop i).take k).toArray:=by
 have e:(λ(m:Nat)=>a[((i:Int)+(m:Int)*1).toNat]?)=λm=>a[i+m]?:=by
  funext m
  have:((i:Int)+(m:Int)*1).toNat=i+m:=by omega
  rw[this]
 rw[e];have:=pick_run a i k;rw[List.filterMap_map] at this;have b:((λx=>a[x]?)∘λx=>i+x)=λm=>a[i+m]?:=rfl;rw[b] at this;rw[this]
def uh{t f:Addr}{a:Array Value}{n l:Value}{c d:Option Int}{Q:Px} (e:IsTup s.heap t a) (o:s.heap.IsSliceOf f n l .none) (r:IsPart n c) (p:IsPart l d)
  (hw:¬ (j7 a.size 0 c=0/\j7 a.size a.size d=a.size))
  (h:Q (.ref (zB s)) { s with heap:=s.heap.push { cls:=.type "tuple",data:=.seq ((a.toList.drop (j7 a.size 0 c)).take (j7 a.size a.size d - j7 a.size 0 c)).toArray } })
  (v:a.size<=sizeLine):wpAny (model prog w) A (getItem (.ref t) (.ref f)) Q E s:=by
 have b:sizeOk (.seq ((a.toList.drop (j7 a.size 0 c)).take (j7 a.size a.size d - j7 a.size 0 c)).toArray):=by show ((a.toList.drop (j7 a.size 0 c)).take (j7 a.size a.size d - j7 a.size 0 c)).toArray.size<=sizeLine;rw[au,cx,dF,cw];omega
 have B:j7 a.size a.size d<=a.size:=UK _ _ (aA _) d;obtain⟨u,g,j,x⟩:=id o;have k:s.TypeIs (.ref f) "slice":=⟨u,g,j⟩
 unfold getItem
 try with_reducible refine bw ?_
 first|refine ae (ar ?_)|skip
 refine ae (wpAny_sequenceKey e.typeIs (by decide) ?_);refine ae (cy (name:=zZ "__getitem__") e.typeIs br
  (dG br e.typeIs entry_tuple_getitem ?_ (args_tuple_getitem _ _)))
 show wpAny _ _ (Builtin.Tuple.tupleItemsOf (.ref t)>>=_) _ _ s;refine ae (tupleItemsOf_ e ?_);refine ae (cD k ?_);rw[ah (by decide)];refine ae (pI o r p ?_);have i:¬ ((((j7 a.size 0 c:Nat):Int)==0&&(1:Int)==1&&(j7 a.size a.size d - j7 a.size 0 c)==a.size)=true):=by intro q;rw[b9,b9] at q;have z:((j7 a.size 0 c:Nat):Int)=0:=eq_of_beq q.1.1;have y:j7 a.size a.size d - j7 a.size 0 c=a.size:=eq_of_beq q.2;exact hw ⟨by omega,by omega⟩
 show wpAny _ _ (if (((j7 a.size 0 c:Nat):Int)==0&&(1:Int)==1&&(j7 a.size a.size d - j7 a.size 0 c)==a.size)=true then _ else _) _ _ s;rw[ai i,Mw]
 first
  |exact ae (m:=Builtin.Tuple.tupleExact _) (cK (ar ⟨_,rfl,ar h⟩) b)
  |exact ae (m:=Builtin.Tuple.tupleExact _) (cK (ae (ar (ar ⟨_,rfl,ar h⟩))) b)
  |exact ae (ae (m:=Builtin.Tuple.tupleExact _) (cK (ar (ar ⟨_,rfl,ar h⟩)) b))
  |exact ae (ae (m:=Builtin.Tuple.tupleExact _) (cK (ar ⟨_,rfl,ar h⟩) b))
end
end HT
namespace L2
open PySem PySem.Spec PyProof.Rows
abbrev TO:=St->Hp->(Option Int->Hp->Prop)->Prop
def PO(X:Cx)(e:Option Expr)(t:TO):Prop :=
 ∀⦃a:Ax⦄ (s:Shared) (σ:St) (H:Hp) (Q:Option Int->Hp->Prop),fu X a σ H s->t σ H Q ->
  (zw X) (evalPart e X.env) (λu c=>∃o b,fu X a σ b c/\IsPart u o/\Q o b) X.xe s
def Qh:TO:=λ_ H Q=>Q Z H
def Xv(t:TE):TO:=λσ H Q=>t σ H λx a=>∃i,x=.int i/\Q (Y i) a
section
variable {te:TE}{lo hi:Option Expr}{tl th:TO}{p2:Pos}
def Qi:PO X Z Qh:=by intro a s σ H Q I h;rw[evalPart_none];exact ar ⟨Z,H,I,.none,h⟩
def Qj(h:PE X e te):PO X (Y e) (Xv te):=by intro a s σ H Q I hw;rw[evalPart_some];refine hZ (@h a s σ H _ I hw) ?_;rintro u g ⟨x,f,d,b,c⟩;obtain⟨i,rfl,q⟩:=c;obtain⟨t,rfl⟩:=b;exact⟨Y i,f,d,.int i t,q⟩
def IG(X:Cx)(r:V->Option Int->Option Int->Hp->VK->Prop):Prop :=
 ∀(a:Ax) (s:Shared) (σ:St) (H:Hp) (x:V) (v c b:Value) (lo hi:Option Int) (sl:Addr) (Q:VK),fu X a σ H s->fQ x v->s.heap.IsSliceOf sl c b .none->IsPart c lo->IsPart b hi->r x lo hi H Q ->
  ∃T d,typeLookup (.type T) "__getitem__"=pure (Y (.builtin d))/\s.TypeIs v T/\(zw X) (getItem v (.ref sl)) (EP X a σ Q) X.xe s
def IG.or{r f:V->Option Int->Option Int->Hp->VK->Prop}(h:IG X r)(k:IG X f):IG X (λx lo hi H Q=>r x lo hi H Q\/f x lo hi H Q):=by
 intro a s σ H x v c b lo hi d Q I e j i g q;rcases q with q|q
 ·exact @h a s σ H x v c b lo hi d Q I e j i g q
 ·exact @k a s σ H x v c b lo hi d Q I e j i g q
def tSl(r:V->Option Int->Option Int->Hp->VK->Prop)(c:TE)(a b:TO):TE:=λσ H Q=>c σ H λx f=>a σ f λl e=>b σ e λu d=>r x l u d Q
theorem El{r:V->Option Int->Option Int->Hp->VK->Prop}(z:IG X r)(C:PE X e te)(A:PO X lo tl)(w:PO X hi th):PE X (.Subscript e (.Slice lo hi Z p2) pos) (tSl r te tl th):=by intro a s σ H Q I h;refine Subscript_ (hZ (@C a s σ H _ I h) ?_);rintro v j ⟨x,L,J,k,o⟩;refine wpAny_Slice (hZ (@A a j σ L _ J o) ?_);rintro f i ⟨l,K,G,t,n⟩;refine hZ (@w a i σ K _ G n) ?_;rintro d c ⟨u,g,F,p,m⟩;rw[evalPart_none];refine ar ?_;have E:fu X a σ g { c with heap:=c.heap.push { cls:=.type "slice",data:=.fields #[f,d,.none] } }:=F.kept (t':=c.toks) λb M q=>ak _ q;obtain⟨T,N,D,y,B⟩:=z a { c with heap:=c.heap.push { cls:=.type "slice",data:=.fields #[f,d,.none] } } σ g x v f d l u (zB c) Q E k (Heap.IsSliceOf.new ..) t p m;show (zw X) (subscriptTail e (.Slice lo hi Z p2) v (.ref (zB c))) (EP X a σ Q) X.xe { c with heap:=c.heap.push { cls:=.type "slice",data:=.fields #[f,d,.none] } };exact tail_any (ops:=[.ref (zB c),v]) y D B (by with_unfolding_all rfl)
def Em(a:List V)(b c:Option Int):List V:=(a.drop (HT.j7 a.length 0 b)).take (HT.j7 a.length a.length c - HT.j7 a.length 0 b)
def wj(a:List V)(b c:Option Int):(Em a b c).length<=a.length:=by unfold Em;rw[cx,dF];omega
def aai(K:Fg):V->Option Int->Option Int->Hp->VK->Prop:=λx c d H Q=>∃a b,x=.ref a/\qL K H a b /\
 ¬ (HT.j7 b.length 0 c=0/\HT.j7 b.length b.length d=b.length)/\∀p,H p=Z->Q (.ref p) (upd H p (.tup (Em b c d)))
def UL:IG X (aai X.K):=by
 intro i s σ H x v w u e g y Q I l t n m h;obtain⟨a,d,rfl,p,hw,q⟩:=h;cases l;obtain⟨f,r,k,j⟩:=I.tuple p;have c:f.toArray.size=d.length:=by rw[au];exact r.length.symm
 refine⟨"tuple",_,br.lookup,k.typeIs,?_⟩;refine HT.uh k t n m (by rw[c];exact hw) ?_ (by rw[c];exact j);rw[c];refine⟨.ref (zB s),_,I.laid (t':=s.toks) (o:=.tup (Em d e g)) (λb z q=>ak _ q) (aA _) ?_,rfl,q _ (I.iS.fresh (aA _))⟩;exact⟨bK (wj d e g) j,_,(r.drop (HT.j7 d.length 0 e)).take (HT.j7 d.length d.length g - HT.j7 d.length 0 e),IsTup.new _ _⟩
def Xw(K:Fg):R2:=λx y H Q=>∃a b d c,x=.ref a/\y=.ref b/\qL K H a d/\qL K H b c/\d≠[]/\d.length+c.length<=sizeLine /\
 (c=[]->Q (.ref a) H)/\(c≠[]->∀p,H p=Z->Q (.ref p) (upd H p (.tup (d++c))))
def fY.fe{a:List V}{b:Lw}(r:fY a b):b=[]↔a=[]:=by
 cases r with
 |nil=>simp
 |cons _ _=>simp
def Qk:k6 X (binaryOp .Add) (Xw X.K):=by intro e s σ H x y v u Q I l k h;obtain⟨a,b,j,i,rfl,rfl,C,B,A,g,n,m⟩:=h;cases l;cases k;obtain⟨t,d,r,_⟩:=I.tuple C;obtain⟨f,c,p,_⟩:=I.tuple B;refine HT.Qg r p (λz=>A (d.fe.mp z)) (λz=>⟨.ref a,H,I,rfl,n (c.fe.mp z)⟩) (λz=>?_) (by rw[<-d.length,<-c.length];exact g);refine⟨.ref (zB s),_,I.laid (t':=s.toks) (o:=.tup (j++i)) (λb D q=>ak _ q) (aA _) ?_,rfl,m (λw=>z (c.fe.mpr w)) _ (I.iS.fresh (aA _))⟩;exact⟨by rw[bp];exact g,_,d.append c,IsTup.new _ _⟩
end
def Co(n:Nat)(i:Int):Option Nat:=if 0<=i then (if i<n then Y i.toNat else Z) else if -(n:Int)<=i then Y (i+n).toNat else Z
def pJ(a:List α)(i:Int):Option α:=(Co a.length i).bind λj=>a[j]?
def IH{i:Int}{j:Nat}(h:Co n i=Y j):seqIndex? i n=Y j/\j<n/\-(n:Int)<=i/\i<n:=by
 unfold Co at h;by_cases b:0<=i
 ·rw[ah b] at h;by_cases a:i<n
  ·rw[ah a] at h;have e:i.toNat=j:=bu h;exact⟨by rw[seqIndex_of b a,e],by omega,by omega,a⟩
  ·rw[ai a] at h;cases h
 ·rw[ai b] at h;by_cases a:-(n:Int)<=i
  ·rw[ah a] at h;have e:(i+n).toNat=j:=bu h;exact⟨by rw[seqIndex_neg (by omega) a,e],by omega,a,by omega⟩
  ·rw[ai a] at h;cases h
def Cp{a:List α}{i:Int}{v:α}(h:pJ a i=Y v):∃j,seqIndex? i a.length=Y j/\a[j]?=Y v/\j<a.length/\-(a.length:Int)<=i/\i<a.length:=by
 unfold pJ at h;cases e:Co a.length i with
 |none=>rw[e] at h;cases h
 |some j=>rw[e] at h;obtain⟨f,d,c,b⟩:=IH e;exact⟨j,f,h,d,c,b⟩
def rZ{a:List α}{j:Nat}{v:α}(h:a[j]?=Y v):pJ a (j:Int)=Y v:=by
 have b:j<a.length:=(ay.mp h).1;have e:Co a.length (j:Int)=Y j:=by unfold Co;rw[ah (by omega),ah (by omega)];simp
 unfold pJ;rw[e];exact h
def ui(b:Expr):Prop:=∀o i,subscripted b false o i=operate [o,i] (getItem o i)
def II(X:Cx)(r:R2):Prop :=
 ∀(b a:Expr) (pins:Ax) (s:Shared) (σ:St) (H:Hp) (x y:V) (v u:Value) (Q:VK),fu X pins σ H s->fQ x v->fQ y u->r x y H Q ->
  subscripted a false v u=operate [v,u] (getItem v u)->(zw X) (subscriptTail b a v u) (EP X pins σ Q) X.xe s
def UM(X:Cx)(b:String)(r:V->List V->Hp->VK->Prop):Prop :=
 ∀(a:Ax) (s:Shared) (σ:St) (H:Hp) (x:V) (xs:List V) (v:Value) (us:Lw) (Q:VK),fu X a σ H s->fQ x v->fY xs us->r x xs H Q ->
  (zw X) (call (.builtin b) (v::us)) (EP X a σ Q) X.xe s
section
variable {a:Expr}{ta tb:TE}
def II.or{r f:R2}(h:II X r)(i:II X f):II X (λx y H Q=>r x y H Q\/f x y H Q):=by
 intro a b c s σ H x y v u Q I e d q g;rcases q with q|q
 ·exact h a b c s σ H x y v u Q I e d q g
 ·exact i a b c s σ H x y v u Q I e d q g
def Mx{r:R2}(g:II X r)(j:PE X a ta)(i:PE X b tb)(f:ui b):PE X (.Subscript a b pos) (WR r ta tb):=by intro c s σ H Q I h;exact Subscript_ (Uy j i I h λv u s2 x y l k e d q=>g a b c s2 σ l x y v u Q k e d q (f _ _))
def Xx(K:Fg):R2:=λx y H Q=>∃p a i v,x=.ref p/\y=.int i/\ng K H p a/\pJ a i=Y v/\Q v H
def Xy(K:Fg):R2:=λx y H Q=>∃p a i v,x=.ref p/\y=.int i/\qL K H p a/\pJ a i=Y v/\Q v H
def Xz:R2:=λx y H Q=>∃z i c,x=.str z/\y=.int i/\z.length<=sizeLine/\pJ z.cps.toList i=Y c/\Q (.str ⟨#[c]⟩) H
def IJ:II X (Xx X.K):=by
 intro d e a s σ H x y v u Q I C B h m;obtain⟨p,M,i,z,rfl,rfl,D,F,q⟩:=h;cases C;obtain⟨t,rfl⟩:=B;obtain⟨k,r,g,N⟩:=I.list D;obtain⟨j,c,L,P,J,G⟩:=Cp F;obtain⟨w,o,f⟩:=r.get L;have E:=r.length;have O:=tF;have b:EP X a σ Q w s:=⟨z,H,I,f,q⟩
 by_cases n:0<=i
 ·have l:i.toNat=j:=by
   rw[seqIndex_of n G] at c;exact bu c
  exact item_listR g.isList n (by omega) (by rw[l];simpa using o) b m
 ·have l:(i+(k.toArray.size:Int)).toNat=j:=by
   rw[seqIndex_neg (by omega) J] at c;rw[au,<-E];exact bu c
  exact subscriptTail_builtinR (x:=w) g.isList.typeIs slot_list_getitem.lookup
   (wpAny_getItem_list_neg (Q:=λr A=>r=w/\EP X a σ Q r A) g.isList (by omega) (by rw[au]<;>omega) (by omega) (by rw[l];simpa using o) ⟨rfl,b⟩) m
def My:II X (Xy X.K):=by
 intro b c a s σ H x y v u Q I l k h n;obtain⟨p,F,i,z,rfl,rfl,o,B,q⟩:=h;cases l;obtain⟨t,rfl⟩:=k;obtain⟨m,r,f,G⟩:=I.tuple o;obtain⟨j,D,C,N,M,L⟩:=Cp B;obtain⟨w,E,d⟩:=r.get C;have A:=r.length;have J:=tF;have e:EP X a σ Q w s:=⟨z,H,I,d,q⟩
 exact subscriptTail_builtinR (x:=w) f.typeIs slot_tuple_getitem.lookup
  (getItem_tuple (j:=j) (Q:=λr g=>r=w/\EP X a σ Q r g) f (by omega) (by omega) (by rw[au,<-A];exact D) (by simpa using E) ⟨rfl,e⟩) n
def UN:II X Xz:=by
 intro a b d s σ H x y v u Q I g f h k;obtain⟨z,i,c,rfl,rfl,B,m,q⟩:=h;obtain⟨t,rfl⟩:=g;obtain⟨A,rfl⟩:=f;obtain⟨j,e,p,D,o,n⟩:=Cp m;have l:z.cps.toList.length=z.length:=by simp[Str.length]
 rw[l] at e o n;have C:=tF;exact tail_any (d6 s z t) slot_str_getitem.lookup (getItem_str (c:=c) (by have w:decide (i < -(2 ^ 63:Int))=false:=aO (by omega);have r:decide (i >= 2 ^ 63)=false:=aO (by omega);rw[w,r,dM]) (by rw[e];simpa using p) ⟨.str ⟨#[c]⟩,H,I.tok _,⟨_,rfl⟩,q⟩) k
def rIx(K:Fg):R2:=λx y H Q=>Xx K x y H Q\/Xy K x y H Q\/Xz x y H Q
def UO:II X (rIx X.K):=IJ.or (My.or UN)
def GV(a:Lw)(n j:Nat)(u:Value):Obj.mapSeq (·.setIfInBounds j u) (zl a.toArray n)={ cls:=.type "list",data:=.seq (a.set j u).toArray n }:=by simp[Obj.mapSeq]
theorem fu.lst{a:Ax}{σ:St}{H:Hp}{s:Shared}{p:Addr}{xs:List V}(I:fu X a σ H s)(h:H p=Y (.lst xs)):
  ∃(its:Lw) (n:Nat),fY xs its/\s.heap.get? p=Y (zl its.toArray n)/\xs.length<=sizeLine:=by
 obtain⟨z,its,n,r,e⟩:=I.iS p _ h;exact⟨its,n,r,e,z⟩
def fu.UP{p:Addr}{j d:List V}{c a:Lw}{g:Nat}{f:Obj->Obj} (I:fu X pins σ H s) (h:H p=Y (.lst j))
  (l:s.heap.get? p=Y (zl c.toArray n)) (i:f (zl c.toArray n)=(zl a.toArray g)) (r:fY d a) (k:d.length<=sizeLine) (t:Nat):
  fu X pins σ (upd H p (.lst d)) { s with heap:=s.heap.update p f,toks:=t }:=by
 have e:(s.heap.update p f).get? p=Y (zl a.toArray g):=by rw[bE f l (by rw[i]<;>rfl),i]
 refine I.write (x:=p) (e:=p) (by rw[h];trivial) (.inl rfl) (λb u hb q=>(bo _ _ (Ne.symm hb)).trans q) ⟨_,e⟩ ?_;exact⟨k,a,g,r,e⟩
def XA:V->V->V->Hp->(Hp->Prop)->Prop:=λo i v H Q=>∃p a k j,o=.ref p/\i=.int k/\H p=Y (.lst a)/\Co a.length k=Y j/\Q (upd H p (.lst (a.set j v)))
def En:Ce X XA:=by
 intro a s σ H o i v E F u Q I A B z h;obtain⟨p,y,k,j,rfl,rfl,g,D,q⟩:=h;cases A;obtain⟨t,rfl⟩:=B;obtain⟨b,n,r,d,C⟩:=I.lst g;obtain⟨c,J,m,l⟩:=IH D;have e:=r.length;have G:=tF;have x:fu X a σ (upd H p (.lst (y.set j v))) { s with heap:=s.heap.update p (Obj.mapSeq (·.setIfInBounds j u)) } :=
  I.UP g d (GV b n j u) (r.set z j) (by rw[List.length_set];exact C) s.toks
 by_cases w:0<=k
 ·have f:k.toNat=j:=by
   rw[seqIndex_of w l] at c;exact bu c
  exact W.ki_setAt d w (by omega) (by rw[au,<-e];exact l) (by rw[f];exact⟨_,x,q⟩)
 ·have f:(k+(b.toArray.size:Int)).toNat=j:=by
   rw[seqIndex_neg (by omega) m] at c;rw[au,<-e];exact bu c
  exact W.ki_setBack d (by omega) (by rw[au,<-e];exact m) (by omega) (by rw[f];exact⟨_,x,q⟩)
def Cq(a b:Option Int)(n:Nat):(sliceBounds a b Z n).1=((HT.j7 n 0 a:Nat):Int)/\(sliceBounds a b Z n).2.1=((HT.j7 n n b:Nat):Int)/\(sliceBounds a b Z n).2.2=1:=by
 refine⟨?_,?_,rfl⟩
 ·cases a with
  |none=>simp[sliceBounds,HT.j7]
  |some i=>
   simp only[sliceBounds,HT.j7,Option.getD_none,show (1:Int) > 0 by decide,bD];by_cases h:i<0
   ·simp only[h,bD]<;>omega
   ·simp only[h,bV]<;>omega
 ·cases b with
  |none=>simp[sliceBounds,HT.j7]
  |some i=>
   simp only[sliceBounds,HT.j7,Option.getD_none,show (1:Int) > 0 by decide,bD];by_cases h:i<0
   ·simp only[h,bD]<;>omega
   ·simp only[h,bV]<;>omega
def Al(a:Lw)(b c:Option Int):slicePick a.toArray b c Z=((a.drop (HT.j7 a.length 0 b)).take (HT.j7 a.length a.length c - HT.j7 a.length 0 b)).toArray:=by obtain⟨f,e,d⟩:=Cq b c a.toArray.size;unfold slicePick;rw[f,e,d];simp only[sliceRange_one,pick_run,au]<;>rfl
def aaj(K:Fg):V->Option Int->Option Int->Hp->VK->Prop:=λx c d H Q=>∃a b,x=.ref a/\ng K H a b/\∀p,H p=Z->Q (.ref p) (upd H p (.lst (Em b c d)))
def IK:IG X (aaj X.K):=by intro g s σ H x v w u e f y Q I j t l k h;obtain⟨a,c,rfl,p,q⟩:=h;cases j;obtain⟨m,r,i,n⟩:=I.list p;have d:=r.length;refine⟨"list",_,slot_list_getitem.lookup,i.isList.typeIs,?_⟩;refine wpAny_getItem_list_slice i.isList t l k .none (by simp) ?_ (by rw[au]<;>omega);rw[Al,<-d];refine⟨.ref (zB s),_,I.laid (t':=s.toks) (o:=.lst (Em c e f)) (λb z q=>ak _ q) (aA _) ?_,rfl,q _ (I.iS.fresh (aA _))⟩;exact⟨bK (wj c e f) n,_,0,(r.drop (HT.j7 c.length 0 e)).take (HT.j7 c.length c.length f - HT.j7 c.length 0 e),aB _ rfl⟩
def Cr:jU X (.builtin "len") (λxs H Q=>∃p b,xs=[.ref p]/\(ng X.K H p b\/qL X.K H p b)/\Q (.int b.length) H):=by
 intro g s σ H xs k Q I r h;obtain⟨p,b,rfl,c,q⟩:=h;obtain⟨u,rfl,i⟩:=yc r;cases i;have l:=tF;rcases c with c|c
 ·obtain⟨f,d,e,j⟩:=I.list c;have a:=d.length;exact Calls.call_len_list e.isList (by simp only[au]<;>omega) ⟨.int b.length,H,I.tok _,⟨s.toks+1,by rw[au,a]⟩,q⟩
 ·obtain⟨f,d,e,j⟩:=I.tuple c;have a:=d.length;exact len_tuple e (by simp only[au]<;>omega) ⟨.int b.length,H,I.tok _,⟨s.toks+1,by rw[au,a]⟩,q⟩
def Cs:jU X (.builtin "len") (λxs H Q=>∃z,xs=[.str z]/\z.length<=sizeLine/\Q (.int z.length) H):=by intro a s σ H xs b Q I r h;obtain⟨z,rfl,c,q⟩:=h;obtain⟨u,rfl,t,rfl⟩:=yc r;have d:=tF;exact len_str (by omega) ⟨.int z.length,H,I.tok _,⟨_,rfl⟩,q⟩
def jU.or{f:Value}{r d:List V->Hp->VK->Prop}(h:jU X f r)(e:jU X f d):jU X f (λxs H Q=>r xs H Q\/d xs H Q):=by
 intro a s σ H xs b Q I c q;rcases q with q|q
 ·exact @h a s σ H xs b Q I c q
 ·exact @e a s σ H xs b Q I c q
def uj:jU X (.type "list") (λxs H Q=>∃p d,xs=[.ref p]/\(ng X.K H p d\/qL X.K H p d)/\∀l,H l=Z->Q (.ref l) (upd H l (.lst d))):=by
 intro i s σ H xs D Q I r h;obtain⟨p,d,rfl,m,q⟩:=h;obtain⟨u,rfl,C⟩:=yc r;cases C;have v:∀(a:Lw),fY d a->d.length<=sizeLine->∀(c:Heap) (g:Nat),(∀b B,s.heap.get? b=Y B->c.get? b=Y B) ->
   c.get? (zB s)=Y { cls:=.type "list",dict:=Z,data:=.seq a.toArray g,slots:=#[] }->EP X i σ Q (.ref (zB s)) { s with heap:=c }:=λa f k c g j e=>
  ⟨.ref (zB s),_,I.laid (t':=s.toks) j (aA _) (show iU X.prog X.w _ c _ (.lst d) from ⟨k,a,g,f,e⟩),rfl,q _ (I.iS.fresh (aA _))⟩
 rcases m with m|m
 ·obtain⟨a,f,x,k⟩:=I.list m;have t:=f.length;obtain⟨o,y,A,n,z⟩:=x.isList;exact call_list_seq p (.inl rfl) y A z (λc g j e=>v a f k c g j e) (by simp only[au]<;>omega)
 ·obtain⟨a,f,x,k⟩:=I.tuple m;have t:=f.length;obtain⟨o,y,A,n,z⟩:=x;exact call_list_seq p (.inr rfl) y A z (λc g j e=>v a f k c g j e) (by simp only[au]<;>omega)
def tyV(K:Fg)(T:String)(x:V)(H:Hp):Prop:=match x with
 |.str _=>T="str"
 |.int _=>T="int"
 |.ref p=>(T="list"/\∃b,ng K H p b)\/(T="tuple"/\∃o,K.lookup p=Y o/\o.cls=.type "tuple"/\o.dict=Z) \/
   (T="dict"/\((∃a,H p=Y (.dK a))\/∃a,H p=Y (.dT a)))\/(T="set"/\∃S n,H p=Y (.set S n))
 |_=>False
def Mz{T:String}{x:V}{v:Value}(I:fu X pins σ H s)(r:fQ x v)(f:tyV X.K T x H):
  s.TypeIs v T/\∀a,v=.ref a->∃l,s.heap.get? a=Y l/\l.dict=Z:=by
 cases x with
 |str z=>obtain⟨t,rfl⟩:=r;cases (show T="str" from f);exact⟨d6 s z t,λ_ e=>nomatch e⟩
 |int i=>obtain⟨t,rfl⟩:=r;cases (show T="int" from f);exact⟨typeIs_int s i t,λ_ e=>nomatch e⟩
 |ref p=>
  cases r;rcases f with ⟨rfl,w,q⟩ | ⟨rfl,o,b,u,h⟩ | ⟨rfl,b⟩ | ⟨rfl,S,n,b⟩
  ·obtain⟨m,_,k,_⟩:=I.list q;refine⟨k.isList.typeIs,λa e=>?_⟩;cases e;obtain⟨o,n,e,c,h,_⟩:=k;exact⟨o,e,h⟩
  ·refine⟨⟨o,I.ue p o b,u⟩,λa e=>?_⟩;cases e;exact⟨o,I.ue _ o b,h⟩
  ·have z:∃o,s.heap.get? p=Y o/\o.ExactDict:=by
    rcases b with ⟨g,b⟩ | ⟨g,b⟩
    ·obtain⟨_,_,_,_,o,_,_,e,d,_⟩:=I.iS p _ b;exact⟨o,e,d⟩
    ·obtain⟨_,_,_,_,o,_,_,e,d,_⟩:=I.iS p _ b;exact⟨o,e,d⟩
   obtain⟨o,e,d⟩:=z;refine⟨⟨o,e,d.1⟩,λa j=>?_⟩;cases j;exact⟨o,e,d.2.1⟩
  ·obtain⟨o,_,_,_,e,d,_⟩:=I.iS p _ b;refine⟨⟨o,e,d.1⟩,λa j=>?_⟩;cases j;exact⟨o,e,d.2.1⟩
 |_=>exact False.elim f
def aak(K:Fg)(T:String)(r:V->List V->Hp->VK->Prop)(b:TE):TE:=λσ H Q=>b σ H λx a=>tyV K T x a/\r x [] a Q
def tBM(K:Fg)(T:String)(r:V->List V->Hp->VK->Prop)(c:TE)(t:TA):TE:=λσ H Q=>c σ H λx a=>tyV K T x a/\t σ a λb d=>r x b d Q
variable {to:TE}{t:TA}{name:Str}{apos gd:Pos}{T id:String}{r:V->List V->Hp->VK->Prop}
def MA(l:PlainAttrs T) (d:Slot T name id) (e:typeOf (.builtin id)=pure (.type "method_descriptor")) (n:UM X id r) (m:PE X o to)
  (c:attributeBase o name X.env (eval o X.env)=eval o X.env:=by rfl) (b:(apos.endLine==gd.line)=true:=by rfl):PE X (.Call (.Attribute o name apos) [] [] gd) (aak X.K T r to):=by
 intro a s σ H Q I h;refine wpAny_Call_method0_late c b (hZ (@m a s σ H _ I h) ?_);rintro v j ⟨x,t,g,f,i,k⟩;obtain⟨q,p⟩:=Mz g f i;exact⟨T,id,l,d,e,q,p,bQ rfl (PySem.evalArgs_none (@n a j σ t x [] v [] Q g f .nil k))⟩
def Be(A:PlainAttrs T) (f:Slot T name id) (i:typeOf (.builtin id)=pure (.type "method_descriptor")) (D:UM X id r) (C:PE X o to) (E:PA X (e::es) t)
  (d:attributeBase o name X.env (eval o X.env)=eval o X.env:=by rfl)
  (g:((backTo gd (starEach (e::es) X.env)).all (λx=>!x.1)&&(backToKw gd (keywordEach [] X.env)).all (λx=>x.1.isSome)
  &&decide ((e::es).length+([]:List Keyword).length+(if ([]:List Keyword).isEmpty then 0 else 1)<30))=true:=by rfl)
  (c:(apos.endLine==gd.line)=true:=by rfl) (B:zE e es X:=by rfl) (b:(backTo gd (starEach es X.env)).any (·.1)=false:=by rfl):
  PE X (.Call (.Attribute o name apos) (e::es) [] gd) (tBM X.K T r to t):=by
 intro a s σ H Q I h;refine wpAny_Call_method_late d g c rfl (hZ (@C a s σ H _ I h) ?_);rintro v u ⟨x,M,l,j,p,z⟩;obtain⟨G,F⟩:=Mz l j p;refine⟨T,id,A,f,i,G,F,?_⟩;have k:=@E gd a u σ M _ l z;rw[B] at k ⊢;refine bQ (by show (false||(backTo gd (starEach es X.env)).any (·.1))=false;rw[b]<;>rfl) (cp ?_);exact hZ k <| by rintro n q ⟨m,L,J,w,y⟩;exact @D a q σ L x m v n Q J j w y
end
def Zv(X:Cx)(b:String)(r:V->List V->Hp->VK->Prop):Prop :=
 ∀(a:Ax) (s:Shared) (σ:St) (H:Hp) (x:V) (xs:List V) (v:Value) (us:Lw) (Q:VK),fu X a σ H s->fQ x v->fY xs us->r x xs H Q ->
  (zw X) (call (.builtin b) (v::us)) (EP X a σ Q) X.xe s
def fY.one:∀{x:V}{a:Lw},fY [x] a->∃u,a=[u]/\fQ x u
 |_,_,.cons r .nil=>⟨_,rfl,r⟩
def fY.zero:∀{a:Lw},fY [] a->a=[]
 |_,.nil=>rfl
theorem fY.dropLast{a:List V}{b:Lw}(h:fY a b):fY a.dropLast b.dropLast:=by
 induction h with
 |nil=>exact .nil
 |cons r t c=>
  cases t with
  |nil=>exact .nil
  |cons q d=>exact .cons r c
def GW(l:List α):l.eraseIdx (l.length - 1)=l.dropLast:=by
 induction l with
 |nil=>rfl
 |cons a r c=>
  cases r with
  |nil=>rfl
  |cons b r=>
   have e:(a::b::r).length - 1=((b::r).length - 1)+1:=by have f:(a::b::r).length=r.length+2:=rfl;have d:(b::r).length=r.length+1:=rfl;omega
   rw[e,List.eraseIdx_cons_succ,c]
   all_goals rfl
section
variable {l b:Addr}{xs ys zs:List V}
def fu.Ql{a its':Lw}{f:Array Value->Array Value}{b:Nat} (I:fu X pins σ H s) (i:H l=Y (.lst xs))
  (e:s.heap.get? l=Y (zl a.toArray n)) (h:f a.toArray=its'.toArray) (d:fY ys its') (c:ys.length<=sizeLine):
  fu X pins σ (upd H l (.lst ys)) { s with heap:=s.heap.update l (Obj.mapSeq f),toks:=b }:=by
 have q:=PySem.IsL.update e f;rw[h] at q;refine I.write (x:=l) (e:=l) (by rw[i];exact trivial) (.inl rfl) (λj u hb g=>(bo s.heap (Obj.mapSeq f) (Ne.symm hb)).trans g) ⟨_,q⟩ ?_;exact⟨c,its',_,d,q⟩
def fu.XB{a:Lw}{t':Nat}(I:fu X pins σ H s)(c:fY ys a)(b:ys.length<=sizeLine):
  fu X pins σ (upd H (zB s) (.lst ys)) { s with heap:=s.heap.push { cls:=.type "list",data:=.seq a.toArray },toks:=t' } :=
 I.laid (λ_ _ q=>ak _ q) (aA _) ⟨b,a,0,c,aB _ rfl⟩
theorem fu.fresh(I:fu X pins σ H s):H (zB s)=Z:=I.iS.fresh (aA _)
def fu.MB(I:fu X pins σ H s)(b:H l=Y (.lst xs)):xs.length<=sizeLine/\∃(a:Lw) (n:Nat),fY xs a/\xs.length=a.length/\s.heap.get? l=Y (zl a.toArray n):=by obtain⟨z,a,n,r,e⟩:=I.iS l _ b;exact⟨z,a,n,r,r.length,e⟩
def Eo(h:n<=sizeLine):Builtin.List.listTooLong n=false:=by unfold Builtin.List.listTooLong;exact aO (by omega)
end
section
def Qm:V->List V->Hp->VK->Prop:=λx b H Q=>∃l a y,x=.ref l/\b=[y]/\H l=Y (.lst a)/\a.length<sizeLine/\Q .lB (upd H l (.lst (a++[y])))
theorem Bf:Zv X "list.append" Qm:=by intro b s σ H x j v k Q I d f h;obtain⟨l,i,y,rfl,rfl,c,m,q⟩:=h;cases d;obtain⟨u,rfl,g⟩:=f.one;obtain⟨z,a,n,r,o,e⟩:=I.MB c;refine cO F.slot_list_append ⟨_,e,rfl⟩ F.entry_list_append (F.args_list_append_2 _ _) (PySem.list_append l a.toArray n u (by rw[au];omega)) ⟨e,?_⟩;refine⟨.lB,_,I.Ql (its':=a++[u]) c e (by simp) (r.append (.cons g .nil)) ?_,rfl,q⟩;rw[bp,List.length_singleton];omega
def Qn:V->List V->Hp->VK->Prop:=λx d H Q=>∃l b c a,x=.ref l/\d=[.ref b]/\H l=Y (.lst c)/\H b=Y (.lst a)/\c.length+a.length<=sizeLine/\Q .lB (upd H l (.lst (c++a)))
theorem Kl:Zv X "list.extend" Qn:=by
 intro g s σ H x D v E Q I j k h;obtain⟨l,b,C,A,rfl,rfl,i,w,G,q⟩:=h;cases j;obtain⟨u,rfl,m⟩:=k.one;cases m;obtain⟨z,c,n,r,J,e⟩:=I.MB i;obtain⟨B,a,p,o,t,y⟩:=I.MB w;have f:c.toArray.size+a.toArray.size<=sizeLine:=by rw[au,au];omega
 have d:¬ (!c.toArray.isEmpty&&Builtin.List.listTooLong (c.toArray.size+a.toArray.size))=true:=by rw[Eo f,Bool.and_false];exact aF
 refine cO F.slot_list_extend ⟨_,e,rfl⟩ F.entry_list_extend (F.args_list_extend_2 _ _)
  (AutoSeq1.list_extend_list_list_0 l c.toArray n b a.toArray p d (by rw[au];omega) (by omega)) ⟨e,y,?_⟩
 refine⟨.lB,_,I.Ql (its':=c++a) i e (by simp) (r.append o) ?_,rfl,q⟩;rw[bp];omega
def aal:V->List V->Hp->VK->Prop:=λx b H Q=>∃l a y,x=.ref l/\b=[]/\H l=Y (.lst a)/\a[a.length - 1]?=Y y/\Q y (upd H l (.lst a.dropLast))
theorem MC:Zv X "list.pop" aal:=by
 intro d s σ H x t v w Q I g i h;obtain⟨l,p,y,rfl,rfl,f,k,q⟩:=h;cases g;have c:=i.zero;subst c;obtain⟨z,a,n,r,o,e⟩:=I.MB f;obtain⟨u,m,j⟩:=r.get k;have b:a.toArray[a.toArray.size - 1]?=Y u:=by show a.toArray[a.length - 1]?=Y u;rw[<-Array.getElem?_toList,<-o];exact m
 refine cO F.slot_list_pop ⟨_,e,rfl⟩ F.entry_list_pop (F.args_list_pop_1 _) (MeetsSeq.list_pop_last l a.toArray n u b (by rw[au];omega)) ⟨e,?_⟩;refine⟨y,_,I.Ql (its':=a.dropLast) f e ?_ r.dropLast ?_,j,q⟩
 ·show a.toArray.eraseIdxIfInBounds (a.toArray.size - 1)=a.dropLast.toArray;rw[au,List.eraseIdxIfInBounds_toArray,GW]
 ·rw[List.length_dropLast];omega
end
section
variable {prog:Program}{w:World}
end
end L2
namespace Zw
open PySem PySem.W PySem.Calls PyProof.Rows
def wZ{P:Params}{h:Heap}:∀(c:List Int) (vs:Lw),WellAll P h vs (c.map WData.int)->IntsAre vs c:=by
 intro c;induction c with
 |nil=>intro vs w;rw[bB] at w;cases w;exact .nil
 |cons n c d=>
  intro vs w;rw[af] at w;cases w with
  |cons a b=>cases a;exact .cons _ _ (d _ b)
def Km{l:OpenLaw} (x:l.most=Y n) {P:Params}{h:Heap}{b:List WData}{e:Lw}
  (f:l.row.toRowW.claim.pre b=true) (m:WellAll P h e b):
  ∃a p c,e=[Value.ref a]/\b=[WData.list (c.map WData.int)]/\h.get? a=Y { cls:=.type "list",data:=.seq p.toArray }/\IntsAre p c/\c.length<=n:=by
 have o:WShape.hasAll [] b [.list .int]=true:=(pre_splitW f).1;have s:l.pre.holds [] { args:=b }=true:=(pre_splitW f).2;obtain⟨d,r,rfl,A,z⟩:=hasAllW_cons o;obtain rfl:=hasAllW_nil z;obtain⟨B,rfl,y⟩:=hasW_list A;obtain⟨c,rfl⟩:=items_int y;have g:c.length<=n:=by
  unfold OpenLaw.pre at s;have k:(WTm.not (.lt (.lit (zi n)) (.len (.arg 0)))).holds [] { args:=[.list (c.map .int)] }=true:=by have k:=(holds_andW s).1;rw[x] at k;exact k
  have j:=condW_of k (w_not (w_lt w_lit (w_len_list (w_arg rfl))));rw[aC] at j;refine dH λq=>?_;have v:(n:Int)<((c.length:Nat):Int):=by omega
  first
   | (rw[aW v] at j;exact absurd j (by decide))
   | (simp at j;omega)
 cases m with
 |cons u t=>
  cases t;cases u with
  |list w i=>exact⟨_,_,c,rfl,rfl,w,wZ c _ i,g⟩
def Kn(l:OpenLaw)(a:List WData):l.row.toRowW.claim.post a (.bool true) a=true :=
 postW_of (r:=l.row.toRowW) (X:=(true==true))
  (show WShape.has [] (.bool true) .bool=true by first|rfl|decide|simp[WShape.has,WShape.arms,WShape.armsAll])
  (show (WTm.eq .res (.lit (.bool true))).value [] { args:=a,res:=Y (.bool true),after:=a }=Y (.bool (true==true)) from w_eq_bool (w_res rfl) w_lit) rfl
section
variable {prog:Program}{w:World}{K:Frag}
end
end Zw
namespace L2
open PySem PySem.Spec PyProof.Rows
theorem Bg:∀{a:Lw}{b:List Int},IntsAre a b->fY (b.map V.int) a
 |_,_,.nil=>.nil
 |_,_,.cons n t h=>.cons ⟨t,rfl⟩ (Bg h)
def XC(H:Hp):Prop:=∀b,H b=Z\/∃o a,H b=Y (.ud o (.lst a))
def MD{P:Program}{w:World}{O:Str->Ow}{CX:Mu}{k:Nat}{U:Addr}{sp:Sp}{c:Shared}{l:Lw}{y:List Int}
  (KX:K.In c.heap) (D:c.heap.Ns mainGlobals mg) (g:c.heap.Ns builtinsNs O) (S:∀x:Str,x≠"__name__"->O x=bootBuiltins x) (E:c.heap.NoLimit) (hg:c.gens=#[])
  (M:c.heap.get? a=Y { cls:=.type "list",data:=.seq l.toArray }) (hi:IntsAre l y) (hl:y.length<=sizeLine) (hr:iO k callerA)
  (F:∀base:Heap,K.In base->base.Ns mainGlobals mg->k7 P w K mg base CX k U fd [x] sp) (p:∀(s:Shared) (u:Value),BindsTo s fd ⟨[u],[]⟩ [(x,u)])
  (Q:∀H:Hp,XC H->ng K H a (y.map V.int)->sp [.ref a] H (λv _=>v=.bl true) λ_ _ _=>False)
  (T:∀H e s',CX [] H c (λ_ _ _=>False) e s'->False):
  codeAny (model P w) callerA (.call (.ref U) ⟨[.ref a],[]⟩) (λr s'=>r=.ok (.ret (.bool true))/\OldK c.heap s'.heap/\s'.os=c.os/\AllBare s'.gens) c:=by
 have rv:=Bg hi;have A:=hi.length;have j:∀H:Hp,XC H->ng K H a (y.map V.int)->tw P w H c.heap->(∀b,H b≠Z->b=a)->(H a≠Z->K.lookup a=Z) ->
   codeAny (model P w) callerA (.call (.ref U) ⟨[.ref a],[]⟩) (λr s'=>r=.ok (.ret (.bool true))/\OldK c.heap s'.heap/\s'.os=c.os/\AllBare s'.gens) c:=by
  intro H hO hS C hA hK;have f:∀{b:Addr}{o:Obj},c.heap.get? b=Y o->H b=Z->(Cc c.heap H).get? b=Y o:=λe n=>L6 e n;have N:∀{b:Addr}{o:Obj}{I:Array DictEntry}{J:Nat},c.heap.get? b=Y o->o.data=.dict I J->H b=Z:=λ{b o I J} e d=>by
   cases q:H b with
   |none=>rfl
   |some u=>have W:b=a:=hA b (by rw[q];simp);subst W;rw[M] at e;cases e;have d':Data.seq l.toArray _=Data.dict I J:=d;cases d'
  have i:∀{b:Addr}{m:Str->Ow},c.heap.Ns b m->(Cc c.heap H).Ns b m:=λ{b m} ⟨o,I,J,e,d,r⟩=>⟨o,I,J,f e (N e d),d,r⟩
  have G:K.In (Cc c.heap H):=λb o e=>f (KX b o e) (by
   cases q:H b with
   |none=>rfl
   |some u=>have W:b=a:=hA b (by rw[q];simp);subst W;rw[hK (by rw[q];simp)] at e;cases e)
  have hM:Mod K mg (Cc c.heap H):=⟨G,i D,⟨O,i g,S⟩,by obtain⟨mc,h1,h2⟩:=E;exact⟨mc,i h1,h2⟩⟩
  have e0:GQ P w K mg (Cc c.heap H) callerA [] c H:=⟨rfl,hM,λb o e=>P2 e,Nat.le_of_eq (Ka _ _),trivial,λb g=>absurd (show b∈([]:List Addr) from g) (by simp),C,.of_eq hg⟩
  refine df ((F _ G (i D)).run callerA [] c H ⟨[.ref a],[]⟩ [.ref a] [.ref a] _ _ hr e0 (p c (.ref a)) (.cons rfl .nil) (Q H hO hS)) λr s' h=>?_;cases r with
  |error e=>exact(T H e s' h).elim
  |ok fl=>
   cases fl with
   |next=>exact False.elim h
   |brk=>exact False.elim h
   |cont=>exact False.elim h
   |ret u=>
    obtain⟨v,H',os,L,X,B,r',q⟩:=h;have q':v=.bl true:=q;subst q';obtain rfl:u=Value.bool true:=r';refine⟨rfl,OldK.of_keep λb o e=>?_,os,L⟩;cases q:H b with
    |none=>exact X.keep b o e q (by intro z;exact absurd (show b∈([]:List Addr) from z) (by simp)) (by simp)
    |some u=>
     rcases hO b with z | ⟨ob,xs,z⟩
     ·rw[q] at z;cases z
     ·have z2:=X.tB b ob _ z;obtain⟨e1,_⟩:=C b _ z;obtain⟨e2,_⟩:=B b _ z2;rw[e] at e1;cases e1;exact e2
 cases R:K.lookup a with
 |some o=>have e:=KX a o R;rw[M] at e;cases e;refine j (λ_=>Z) (λ_=>.inl rfl) (.inr ⟨_,l.toArray,_,R,rfl,rfl,rfl,by rw[au,A];exact hl,by simpa using rv⟩) (λb u z=>by have t:(Z:Option HO)=Y u:=z;cases t) (λb z=>absurd rfl z) λz=>absurd rfl z
 |none=>
  refine j (λb=>if b=a then Y (.ud { cls:=.type "list",data:=.seq l.toArray } (.lst (y.map V.int))) else Z) (λb=>?_) (.inl (.inr ⟨{ cls:=.type "list",data:=.seq l.toArray },ah rfl⟩)) (λb u z=>?_) (λb z=>?_) λ_=>R
  ·by_cases g:b=a
   ·exact .inr ⟨_,_,ah g⟩
   ·exact .inl (ai g)
  ·by_cases g:b=a
   ·have t:=(ah g).symm.trans z;cases t;subst g;exact⟨M,by rw[aC];exact hl,l,_,rv,M⟩
   ·have t:=(ai g).symm.trans z;cases t
  ·by_cases g:b=a
   ·exact g
   ·exact absurd (ai g) z
def gM(s:Stmt)(j:Nat):Stmt:=match s with
 |.ClassDef _ _ _ body _ _ _ _ _ _ _=>body.getD j (.Pass ⟨0,0,0,0⟩)
 |_=>.Pass ⟨0,0,0,0⟩
def oQ(s:Stmt):Arguments:=match s with
 |.FunctionDef _ a _ _ _ _ _ _ _ _=>a
 |_=>{ posonlyargs:=[],args:=[],vararg:=Z,kwonlyargs:=[],kw_defaults:=[],kwarg:=Z,defaults:=[] }
def jd(s:Stmt):List Stmt:=match s with
 |.FunctionDef _ _ b _ _ _ _ _ _ _=>b
 |_=>[]
def fj(s:Stmt):Scope:=match s with
 |.FunctionDef _ _ _ _ _ _ sc _ _ _=>sc
 |_=>{ kind:=.function,names:=[],isGenerator:=false,isCoroutine:=false }
abbrev vo:Mu:=λ_ _ _ _ _ _=>False
abbrev E0:XK:=λ_ _ _=>False
def oa:qX vo X E0:=λ_ _ _ _ _ _ _ h=>h.elim
structure IL (K:Fg) (x qual:Str) (st:Stmt) (f:Addr) (fd:FuncData):Prop where
 ex:∃(oc:Value) (od:Option Addr) (kV doc pm:Value) (an:Option Addr) (qy ct:Value) (osl:Array Ow),
  fd=W.fnOf x qual (oQ st) (jd st) (fj st) .none kV doc pm an qy ct/\K.lookup f=Y ⟨oc,od,.func fd,osl⟩/\W.codeIn K qy qual=true
 kp:W.keepIn K (.ref f)=true
section
variable {P:Program}{w:World}{base:Heap}
theorem IL.ok{a:Str}{f:Addr}{N d:Lr}{k:Nat}{c:Sp} (F:IL K x a st f fd) (S:iD N d (fj st)) (e:∀vs H Q E,c vs H Q E->vs.length=d.length)
  (b:∀(qy:Value) (A:Around) (outer:List Env) (s:Shared) (H:Hp) (vs:List V) (Q:VK) (E:XK),iO k (A.deeper (envOfC a (fj st) (zB s) f qy))->c vs H Q E ->
   ∃t,vu (vx vo P w K mg base N a (fj st) f qy A outer s H E).Mf (jd st) t/\t { nx:=λ_ H'=>Q .lB H',rt:=Q } (lD N vs) H):k7 P w K mg base vo (k+1) f fd d c:=by
 obtain⟨r,p,u,n,o,y,qy,v,j,rfl,l,i⟩:=F.ex;refine Xu l i S e λA outer s H vs Q E m g=>?_;obtain⟨t,h,q⟩:=b qy A outer s H vs Q E m g;exact⟨t,h.Mf,q⟩
theorem IL.binds{a:Str}{f:Addr}{b:Lr} (F:IL K x a st f fd)
  (h:∀(kV doc pm:Value) (an:Option Addr) (qy ct:Value) (us:Lw),us.length=b.length->bindArgs (W.fnOf x a (oQ st) (jd st) (fj st) .none kV doc pm an qy ct) ⟨us,[]⟩=pure (b.zip us)):kQ K fd b []:=by
 obtain⟨g,e,kV,doc,pm,an,qy,ct,c,rfl,i,d⟩:=F.ex;exact .all (h kV doc pm an qy ct)
def GX{a:Str}{f:Addr}{n:Value}{m j:Option Addr}{e:Array Ow}{h d g b i:Value} (l:K.lookup f=Y ⟨n,m,.func (W.fnOf x a (oQ st) (jd st) (fj st) .none h d g j b i),e⟩)
  (c:W.codeIn K b a=true) (k:W.keepIn K (.ref f)=true):IL K x a st f (W.fnOf x a (oQ st) (jd st) (fj st) .none h d g j b i):=⟨⟨n,m,h,d,g,j,b,i,e,rfl,l,c⟩,k⟩
end
def eZ(H a:Hp):Prop:=∀b o,H b=Y o->a b=Y o
def eZ.refl(H:Hp):eZ H H:=λ_ _ h=>h
def eZ.trans{e d:Hp}(a:eZ H e)(b:eZ e d):eZ H d:=λc o h=>b c o (a c o h)
def eZ.seq{c:Hp}{b:List V}(e:eZ H c)(h:ng K H a b):ng K c a b:=by
 rcases h with (h | ⟨o,h⟩)|h
 ·exact .inl (.inl (e _ _ h))
 ·exact .inl (.inr ⟨o,e _ _ h⟩)
 ·exact .inr h
section
variable {κ:Type} [DecidableEq κ]
def mJ(a:List (κ×V))(k:κ):Option V:=(a.find? λb=>decide (b.1=k)).map (·.2)
def putK(a:List (κ×V))(k:κ)(v:V):List (κ×V) :=
 if (a.any λb=>decide (b.1=k))=true then a.map (λb=>if b.1=k then (b.1,v) else b) else a++[(k,v)]
def yj(a:List (κ×V))(k:κ):List (κ×V):=a.filter λb=>decide (b.1≠k)
def um{p:κ×V}{r:List (κ×V)}{k:κ}(e:p.1=k):mJ (p::r) k=Y p.2:=by simp[mJ,bR,e]
def qY{p:κ×V}{r:List (κ×V)}{k:κ}(e:¬ p.1=k):mJ (p::r) k=mJ r k:=by simp[mJ,bR,e]
theorem Ep(k:κ):∀a:List (κ×V),(a.any λb=>decide (b.1=k))=(mJ a k).isSome
 |[]=>rfl
 |p::r=>by
  rw[bz];by_cases e:p.1=k
  ·simp only[um e,aW e,Bool.true_or,Option.isSome_some]
  ·rw[qY e,aO e,Bool.false_or];exact Ep k r
def qZ(a:List (κ×V))(k:κ)(v:V):(putK a k v).length<=a.length+1:=by
 unfold putK;split
 ·rw[aC];omega
 ·rw[bp,ao,bZ];omega
def pH.pK{o:Option V}{u:Ow}(r:pH o u):o.isSome=u.isSome:=by
 cases o with
 |none=>cases u with
  |none=>rfl
  |some _=>exact(show False from r).elim
 |some _=>cases u with
  |none=>exact(show False from r).elim
  |some _=>rfl
theorem pH.getD{o:Option V}{u:Ow}{d:V}{a:Value}(r:pH o u)(b:fQ d a):fQ (o.getD d) (u.getD a):=by
 cases o with
 |none=>cases u with
  |none=>exact b
  |some _=>exact(show False from r).elim
 |some _=>cases u with
  |none=>exact(show False from r).elim
  |some _=>exact r
def KV.val{a:List (κ×V)}{f:List (κ×Value)}(r:KV a f)(k:κ):pH (mJ a k) (valueAt f k):=by
 unfold KV at r;induction r with
 |nil=>exact aV
 |@cons p q l c h t i=>
  obtain⟨g,j⟩:=h;by_cases e:p.1=k
  ·have d:q.1=k:=g.symm.trans e;have b:valueAt (q::c) k=Y q.2:=by simp[valueAt,bR,d]
   rw[um e,b];exact j
  ·have d:¬ q.1=k:=λz=>e (g.trans z);have b:valueAt (q::c) k=valueAt c k:=by simp[valueAt,bR,d]
   rw[qY e,b];exact i
theorem KV.any{a:List (κ×V)}{vs:List (κ×Value)}(r:KV a vs)(k:κ):(a.any λb=>decide (b.1=k))=vs.any λb=>decide (b.1=k):=by
 unfold KV at r;induction r with
 |nil=>rfl
 |cons h t c=>rw[bz,bz,c,h.1]
def KV.GY{b:List (κ×V)}{d:List (κ×Value)}(r:KV b d)(k:κ){y:V}{u:Value}(f:fQ y u):
  KV (b.map λa=>if a.1=k then (a.1,y) else a) (d.map λa=>if a.1=k then (a.1,u) else a):=by
 unfold KV at r ⊢;induction r with
 |nil=>exact .nil
 |@cons p q l j h t g=>
  rw[af,af];refine .cons ?_ g;obtain⟨c,i⟩:=h;by_cases e:p.1=k
  ·rw[ah e,ah (c.symm.trans e)];exact⟨c,f⟩
  ·rw[ai e,ai (λz=>e (c.trans z))];exact⟨c,i⟩
def KV.put{a:List (κ×V)}{b:List (κ×Value)}(r:KV a b)(k:κ){y:V}{u:Value}(c:fQ y u):KV (putK a k y) (stored b k u):=by
 unfold putK stored;rw[r.any k];by_cases e:(b.any λd=>decide (d.1=k))=true
 ·rw[ah e,ah e];exact r.GY k c
 ·rw[ai e,ai e];exact Paired.snoc r ⟨rfl,c⟩
def KV.drop{c:List (κ×V)}{f:List (κ×Value)}(r:KV c f)(k:κ):KV (yj c k) (without f k):=by
 unfold KV at r ⊢;unfold yj without;induction r with
 |nil=>exact .nil
 |@cons p q m l h t g=>
  obtain⟨d,i⟩:=h;rw[cR,cR];by_cases e:p.1=k
  ·have a:¬ decide (p.1≠k)=true:=by simp[e]
   have b:¬ decide (q.1≠k)=true:=by simp[d.symm.trans e]
   rw[ai a,ai b];exact g
  ·have j:¬ q.1=k:=λz=>e (d.trans z);have a:decide (p.1≠k)=true:=by simp[e]
   have b:decide (q.1≠k)=true:=by simp[j]
   rw[ah a,ah b];exact .cons ⟨d,i⟩ g
theorem KV.length{kvs:List (κ×V)}{vs:List (κ×Value)}(r:KV kvs vs):kvs.length=vs.length:=cG r
def ME(a:List (κ×V))(k:κ):(yj a k).length<=a.length:=List.length_filter_le _ _
end
def mK{P:Program}{w:World}{k:Key}{u:Value}(r:fQ (kV k) u):(fU P w).is k u=true:=by
 cases k with
 |inl i=>obtain⟨t,e⟩:=(show ∃t,u=Value.int i t from r);subst e;exact D8 P w i t
 |inr x=>obtain⟨t,e⟩:=(show ∃t,u=Value.str x t from r);subst e;exact mI P w x t
theorem Bh{P:Program}{w:World}:∀{a:List Key}{b:Lw},fY (a.map kV) b->ItemsAre (fU P w) a b
 |[],_,r=>by rw[bB] at r;cases r;exact .nil
 |k::a,_,r=>by
  rw[af] at r;cases r with
  |cons h t=>exact .cons (mK h) (Bh t)
abbrev KT(H:Hp):List (List Key×V)->List (List Key×Addr×Value)->Prop:=Paired λp q=>p.1=q.1/\H q.2.1=Y (.tup (p.1.map kV))/\fQ p.2 q.2.2
def KT.val{a:List (List Key×V)}(r:KT H a xs)(k:List Key):pH (mJ a k) ((atKey xs k).map (·.2)):=by
 induction r with
 |nil=>exact aV
 |@cons p q j c h t g=>
  obtain⟨f,_,i⟩:=h;by_cases e:p.1=k
  ·have d:q.1=k:=f.symm.trans e;have b:atKey (q::c) k=Y q.2:=by simp[atKey,bR,d]
   rw[um e,b];exact i
  ·have d:¬ q.1=k:=λz=>e (f.trans z);have b:atKey (q::c) k=atKey c k:=by simp[atKey,bR,d]
   rw[qY e,b];exact g
def KT.GY{a:List (List Key×V)}(r:KT H a xs)(k:List Key){y:V}{u:Value}(f:fQ y u):
  KT H (a.map λc=>if c.1=k then (c.1,y) else c) (xs.map (putAt k u)):=by
 induction r with
 |nil=>exact .nil
 |@cons p q l j h t g=>
  rw[af,af];refine .cons ?_ g;obtain⟨b,d,i⟩:=h;unfold putAt;by_cases e:p.1=k
  ·rw[ah e,ah (b.symm.trans e)];exact⟨b,d,f⟩
  ·rw[ai e,ai (λz=>e (b.trans z))];exact⟨b,d,i⟩
def KT.put{a:List (List Key×V)}(r:KT H a xs)(k:List Key){b:Addr}{y:V}{u:Value}(f:H b=Y (.tup (k.map kV)))(c:fQ y u):
  KT H (putK a k y) (storedH xs k b u):=by
 have e:(a.any λd=>decide (d.1=k))=(atKey xs k).isSome:=by rw[Ep,(r.val k).pK,ek]
 unfold putK storedH;rw[e];by_cases q:(atKey xs k).isSome=true
 ·rw[ah q,ah q];exact r.GY k c
 ·rw[ai q,ai q];exact Paired.snoc r ⟨rfl,f,c⟩
def KT.keeps{c:Hp}{a:List (List Key×V)}(r:KT H a xs)(d:∀b ys,H b=Y (.tup ys)->c b=Y (.tup ys)):KT c a xs :=
 Paired.Uq r λ_ _ z=>⟨z.1,d _ _ z.2.1,z.2.2⟩
section
variable {P:Program}{w:World}{h:Heap}
def Tx{u:HO}(b:tw P w H h)(e:Rd H a u):iU P w H h a u:=e.ok b
def sW{b:List (Key×V)}(d:tw P w H h)(e:Rd H a (.dK b)):b.length<=sizeLine/\(a==sysModules)=false/\∃c,KV b c/\h.DictOf (fU P w) a c :=
 show iU P w H h a (.dK b) from Tx d e
def oR{b:List (Key×V)}(d:tw P w H h)(e:H a=Y (.dK b)):b.length<=sizeLine/\(a==sysModules)=false/\∃c,KV b c/\h.DictOf (fU P w) a c:=sW d (.inl e)
def tG{b:List Key}(d:tw P w H h)(e:H a=Y (.tup (b.map kV))):(tupleKind (fU P w)).is h b a:=by
 obtain⟨_,c,r,o,i,g,n,f⟩:=(show iU P w H h a (.tup (b.map kV)) from d a _ e)
 exact⟨o,c.toArray,n,i,g,f,by simpa using Bh r⟩
def wm{b:List (List Key×V)}(g:tw P w H h)(e:Rd H a (.dT b)):b.length<=sizeLine/\(a==sysModules)=false /\
  ∃d,KT H b d/\h.DictOfH (tupleKind (fU P w)) a d:=by
 obtain⟨z,y,d,r,o,A,B,v,u,s,n,k⟩:=(show iU P w H h a (.dT b) from Tx g e)
 refine⟨z,y,d,r,o,A,B,v,u,s,n,λx c=>?_,k⟩;have f:∀{l:List (List Key×V)}{m:List (List Key×Addr×Value)},KT H l m->∀x∈m,(tupleKind (fU P w)).is h x.1 x.2.1:=by
  intro l m q;induction q with
  |nil=>intro x c;exact nomatch c
  |@cons p q D C i t j=>
   intro x c;rcases av.mp c with e|c
   ·subst e;exact tG g (by rw[<-i.1];exact i.2.1)
   ·exact j x c
 exact f r x c
def XD{b:List (List Key×V)}(d:tw P w H h)(e:H a=Y (.dT b)):b.length<=sizeLine/\(a==sysModules)=false /\
  ∃c,KT H b c/\h.DictOfH (tupleKind (fU P w)) a c:=wm d (.inl e)
end
def pL(H:Hp)(a:Addr)(y:V)(r:Option V):Prop :=
 (∃c k,Rd H a (.dK c)/\y=kV k/\r=mJ c k)\/∃c k b,Rd H a (.dT c)/\y=.ref b/\H b=Y (.tup (k.map kV))/\r=mJ c k
def Qo(H:Hp)(a:Addr)(y v:V)(d:Hp):Prop :=
 (∃c k,H a=Y (.dK c)/\y=kV k/\c.length<sizeLine/\d=upd H a (.dK (putK c k v))) \/
 ∃c k b,H a=Y (.dT c)/\y=.ref b/\H b=Y (.tup (k.map kV))/\c.length<sizeLine/\d=upd H a (.dT (putK c k v))
theorem pL.k{H:Hp}{a:Addr}{b:List (Key×V)}{k:Key}(e:H a=Y (.dK b)):pL H a (kV k) (mJ b k):=.inl ⟨b,k,.inl e,rfl,rfl⟩
theorem Qo.k{H:Hp}{a:Addr}{b:List (Key×V)}{k:Key}{v:V}(e:H a=Y (.dK b))(c:b.length<sizeLine):Qo H a (kV k) v (upd H a (.dK (putK b k v))):=.inl ⟨b,k,e,rfl,c,rfl⟩
section
variable {y:V}{u r:Value}{o:Option V}
def fu.big(I:fu X pins σ H s):sysModules<(zB s):=by have h:mainGlobals<(zB s):=(I.mod.glob.keeps I.bk).lt;exact eO (by decide) h
def Ko{Q:Px}(t:A.units+1<cLine)(I:fu X pins σ H s)(g:pL H a y (Y v))(n:fQ y u)(h:∀w' s',fu X pins σ H s'->fQ v w'->Q w' s'):
  wpAny (model X.prog X.w) A (getItem (.ref a) u) Q E s:=by
 rcases g with ⟨f,k,e,j,l⟩ | ⟨f,k,b,e,j,C,l⟩
 ·subst j;obtain⟨z,B,r,d,m⟩:=sW I.iS e;obtain⟨w',hw,c⟩:=pH.some_of (v:=v) (o:=valueAt r k) (by rw[l];exact d.val k);exact eI (mK n) m.mapOf hw (h w' _ (I.tok _) c)
 ·subst j;cases (show u=Value.ref b from n);obtain⟨z,B,q,d,m⟩:=wm I.iS e;obtain⟨w',hw,c⟩:=pH.some_of (v:=v) (o:=(atKey q k).map (·.2)) (by rw[l];exact d.val k);obtain⟨p,x,i⟩:=aa.mp hw;refine wpAny_getItem_heap (cg t) (tG I.iS C) m x ?_;rw[i];exact h w' _ (I.tok _) c
def aam{Q:Px}(n:A.units+1<cLine)(I:fu X pins σ H s)(g:pL H a y o)(m:fQ y u)(h:∀s',fu X pins σ H s'->Q (.bool o.isSome) s'):
  wpAny (model X.prog X.w) A (compareOp .In u (.ref a)) Q E s:=by
 rcases g with ⟨d,k,e,i,l⟩ | ⟨d,k,b,e,i,p,l⟩
 ·subst i;obtain⟨z,f,t,c,j⟩:=sW I.iS e;refine wpAny_in_of (mK m) f j.mapOf ?_;rw[<-(c.val k).pK,<-l];exact h _ (I.tok _)
 ·subst i;cases (show u=Value.ref b from m);obtain⟨z,f,r,c,j⟩:=wm I.iS e;refine wpAny_in_heap (cg n) (tG I.iS p) f j ?_;have q:=(c.val k).pK;rw[ek] at q;rw[<-q,<-l];exact h _ (I.tok _)
def Qp{Q:Px}(n:A.units+1<cLine)(I:fu X pins σ H s)(g:pL H a y o)(m:fQ y u)(h:∀s',fu X pins σ H s'->Q (.bool (!o.isSome)) s'):
  wpAny (model X.prog X.w) A (compareOp .NotIn u (.ref a)) Q E s:=by
 rcases g with ⟨d,k,e,i,l⟩ | ⟨d,k,b,e,i,p,l⟩
 ·subst i;obtain⟨z,f,t,c,j⟩:=sW I.iS e;refine wpAny_notIn_of (mK m) f j.mapOf ?_;rw[<-(c.val k).pK,<-l];exact h _ (I.tok _)
 ·subst i;cases (show u=Value.ref b from m);obtain⟨z,f,r,c,j⟩:=wm I.iS e;refine wpAny_notIn_heap (cg n) (tG I.iS p) f j ?_;have q:=(c.val k).pK;rw[ek] at q;rw[<-q,<-l];exact h _ (I.tok _)
def Ct{c:Heap}{g:Nat}{d:HO}(I:fu X pins σ H s)(h:W0 (H a))(i:Heap.SameBut a s.heap c)(j:∃q,c.get? a=Y q)(f:iU X.prog X.w (upd H a d) c a d):
  fu X pins σ (upd H a d) { s with heap:=c,toks:=g } :=
 I.write (x:=a) (e:=a) h (.inl rfl) (λb q hb z=>(i.2 b hb).trans z) j f
def GZ{P:Program}{w:World}{h:Hp}{e:Heap}{b:List (Key×V)}{c:List (Key×Value)}(z:b.length<=sizeLine)(f:(a==sysModules)=false)(d:KV b c)(g:e.DictOf (fU P w) a c):
  iU P w h e a (.dK b):=⟨z,f,c,d,g⟩
theorem Kp{K:Hp}{Q:Unit->Shared->Prop}(N:A.units+1<cLine)(I:fu X pins σ H s)(g:Qo H a y v K)(C:fQ y u)(D:fQ v r)(h:∀s',fu X pins σ K s'->Q () s'):
  wpAny (model X.prog X.w) A (setItem (.ref a) u r) Q E s:=by
 rcases g with ⟨f,k,e,t,l,x⟩ | ⟨f,k,b,e,t,J,l,x⟩
 ·subst t x;obtain⟨z,p,M,d,B⟩:=oR I.iS e;have m:M.length<=sizeLine:=by rw[<-d.length];exact z
  have o:(putK f k v).length<=sizeLine:=by have:=qZ f k v;omega
  refine wpAny_setItem_pairs (hsz:=m) (mK C) B λF i n=>h _ ?_;have O:∃q,F.get? a=Y q:=by obtain⟨q,_,_,j,_⟩:=i;exact⟨q,j⟩
  exact Ct I (by rw[e];exact aV) n O (GZ o p (d.put k D) i)
 ·subst t x;cases (show u=Value.ref b from C);obtain⟨z,p,L,d,B⟩:=XD I.iS e;have m:L.length<=sizeLine:=by rw[<-cG d];exact z
  have o:(putK f k v).length<=sizeLine:=by have:=qZ f k v;omega
  refine wpAny_setItem_heap (hsz:=m) (cg N) (tG I.iS J) B λF i n=>h _ ?_;obtain⟨q,U,V,j,T,S,R,_,P⟩:=i;refine Ct I (by rw[e];exact aV) n ⟨q,j⟩ ⟨o,p,_,(d.put k J D).keeps λc W G=>?_,q,U,V,j,T,S,R,P⟩;rw[ee (WZ G e (λz=>nomatch z))];exact G
end
section
variable {kvs:List (Key×V)}{k:Key}{u:Value}
def XE{b:Lw}{Q:Px} (I:fu X pins σ H s) (e:H a=Y (.dK kvs)) (f:fQ (kV k) u) (l:mJ kvs k=Y v) (m:b=[]\/∃x,b=[x])
  (h:∀w' s',fu X pins σ (upd H a (.dK (yj kvs k))) s'->fQ v w'->Q w' s'):wpAny (model X.prog X.w) A (call (.builtin "dict.pop") (.ref a::u::b)) Q E s:=by
 obtain⟨z,C,j,c,n⟩:=oR I.iS e;obtain⟨w',hw,g⟩:=pH.some_of (v:=v) (o:=valueAt j k) (by rw[<-l];exact c.val k);have y:(keyPart u).isSome=true:=by
  cases k with
  |inl i=>obtain⟨t,q⟩:=(show ∃t,u=Value.int i t from f);subst q;rfl
  |inr x=>obtain⟨t,q⟩:=(show ∃t,u=Value.str x t from f);subst q;rfl
 have D:argsOk "dict.pop" ⟨.ref a::u::b,[]⟩:=by
  rcases m with q | ⟨x,q⟩
  ·subst q;exact PySem.F.args_dict_pop_2 _ _
  ·subst q;exact PySem.F.args_dict_pop_3 _ _ _
 refine cS dz n.typeIs PySem.F.entry_dict_pop D (meets_dict_pop_there (fU X.prog X.w) a (mK f) b m y)
  ⟨j,w',n,by rw[<-c.length];exact z,hw,λG d p=>h w' _ ?_ g⟩
 have B:∃q,G.get? a=Y q:=by obtain⟨q,_,_,r,_⟩:=d;exact⟨q,r⟩
 exact Ct I (by rw[e];exact aV) p B (GZ (bK (ME kvs k) z) C (c.drop k) d)
def UQ{r:Value}{Q:Px}(I:fu X pins σ H s)(e:H a=Y (.dK kvs))(b:fQ (kV k) u)(l:mJ kvs k=Z)(h:∀s',fu X pins σ H s'->Q r s'):
  wpAny (model X.prog X.w) A (call (.builtin "dict.pop") [.ref a,u,r]) Q E s:=by
 obtain⟨z,m,d,c,f⟩:=oR I.iS e;have j:valueAt d k=Z:=pH.none_of (by rw[<-l];exact c.val k);have g:(keyPart u).isSome=true:=by
  cases k with
  |inl i=>obtain⟨t,q⟩:=(show ∃t,u=Value.int i t from b);subst q;rfl
  |inr x=>obtain⟨t,q⟩:=(show ∃t,u=Value.str x t from b);subst q;rfl
 exact cS dz f.typeIs PySem.F.entry_dict_pop (PySem.F.args_dict_pop_3 _ _ _) (meets_dict_pop_default (fU X.prog X.w) a (mK b) m g r) ⟨d,f,j,h _ (I.tok _)⟩
def XF{Q:Px}(I:fu X pins σ H s)(e:Rd H a (.dK kvs))(h:∀t s',fu X pins σ H s'->Q (.int kvs.length t) s'):wpAny (model X.prog X.w) A (call (.builtin "len") [.ref a]) Q E s:=by obtain⟨z,c,f,b,d⟩:=sW I.iS e;refine call_len_dict c d (by rw[<-b.length];rw[sizeLine_eq] at z;omega) ?_;rw[<-b.length];exact h _ _ (I.tok _)
end
def Er(i:Expr):Prop:=∀a b,subscripted i false a b=operate [a,b] (getItem a b)
def Cu{a:Program}{w:World}{g:Env}{c b:Expr}{T m:String}{Q:Px}
  (p:typeLookup (.type T) "__getitem__"=pure (Y (.builtin m))) (n:Er b)
  (h:wpAny (model a w) A (eval c g) (λo s₁=>wpAny (model a w) A (eval b g) (λi s₂=>s₂.TypeIs o T/\wpAny (model a w) A (getItem o i) Q E s₂) E s₁) E s):
  wpAny (model a w) A (eval (.Subscript c b pos) g) Q E s:=by
 refine Subscript_ (bU h (λo s₁ k=>bU k (λi s₂ d=>?_) λ_ _ x=>x) λ_ _ x=>x);obtain⟨l,d⟩:=d;unfold subscriptTail;refine ae ?_;rw[getitemInPython_of_ne l.not_modules];refine ae (dO l p ?_);have f:wpAny (model a w) A (subscripted b false o i) (λr e=>wpAny (model a w) A (letTemporaryGo c o r>>=λ_=>pure r) Q E e) E s₂:=by rw[n o i];exact wpAny_operating (bU d (λr e j=>ae (wpAny_letTemporaryGo (ar j))) λ_ _ x=>x)
 first
  |exact ar (ae f)
  |exact ae (ar (ae f))
  |exact ae f
def Es{y:V}{o:Option V}(I:fu X pins σ H s)(g:pL H a y o):s.TypeIs (.ref a) "dict":=by
 rcases g with ⟨c,k,e,_,_⟩ | ⟨c,k,b,e,_,_,_⟩
 ·obtain⟨_,_,h,_,d⟩:=sW I.iS e;exact d.typeIs
 ·obtain⟨_,_,f,_,d⟩:=wm I.iS e;exact d.typeIs
def XG(d c:TE):TE:=λσ H Q=>d σ H λx e=>c σ e λy b=>∃a v,x=.ref a/\pL b a y (Y v)/\Q v b
section
variable {i value:Expr}{pos' Xq:Pos}{td ty tv:TE}
def IM(m:X.A.units+1<cLine)(p:PE X o td)(q:PE X i ty)(n:Er i):PE X (.Subscript o i pos) (XG td ty):=by intro b s σ H Q I h;refine Cu PySem.F.slot_dict_getitem.lookup n (hZ (@p b s σ H _ I h) ?_);rintro u e ⟨x,B,w,j,l⟩;refine hZ (@q b e σ B _ w l) ?_;rintro G E ⟨y,z,d,f,a,v,r,g,k⟩;subst r;obtain rfl:u=Value.ref a:=j;exact⟨Es d g,Ko m d g f λC D t c=>⟨v,z,t,c,k⟩⟩
end
def MG{P:Program}{w:World}(h:Heap)(a:sysModules<h.objs.size):iU P w H (h.push { cls:=.type "dict",data:=.dict #[] }) h.objs.size (.dK []) :=
 ⟨cB _,aU.mpr (Ne.symm (aN a)),[],.nil,Heap.DictOf.new h⟩
def UR:TE:=λ_ H Q=>∀p,H p=Z->Q (.ref p) (upd H p (.dK []))
section
def Et:PE X (.Dict [] [] pos) UR:=λb s σ H Q I h=>
 wpAny_Dict_empty ⟨.ref (zB s),_,I.laid (a:=(zB s)) (o:=.dK []) (t':=s.toks) (λ_ _ q=>ak _ q) (aA _) (MG s.heap I.big),rfl,h _ (I.iS.fresh (aA _))⟩
end
structure M1 (X:Cx) (o:Expr) (m:Str) (apos:Pos) (e:Expr) (gd:Pos):Prop where
 base:attributeBase o m X.env (eval o X.env)=eval o X.env
 XH:((backTo gd (starEach [e] X.env)).all (λx=>!x.1)&&(backToKw gd (keywordEach [] X.env)).all (λx=>x.1.isSome)
 &&decide (([e]:Lx).length+([]:List Keyword).length+(if ([]:List Keyword).isEmpty then 0 else 1)<30))=true
 line:(apos.endLine==gd.line)=true
 trees:backTo gd (starEach [e] X.env)=[(false,eval e X.env)]
structure M2 (X:Cx) (o:Expr) (m:Str) (apos:Pos) (e f:Expr) (gd:Pos):Prop where
 base:attributeBase o m X.env (eval o X.env)=eval o X.env
 XH:((backTo gd (starEach [e,f] X.env)).all (λx=>!x.1)&&(backToKw gd (keywordEach [] X.env)).all (λx=>x.1.isSome)
 &&decide (([e,f]:Lx).length+([]:List Keyword).length+(if ([]:List Keyword).isEmpty then 0 else 1)<30))=true
 line:(apos.endLine==gd.line)=true
 trees:backTo gd (starEach [e,f] X.env)=[(false,eval e X.env),(false,eval f X.env)]
def Eu(H:Hp)(a:Addr):Prop:=(∃b,Rd H a (.dK b))\/∃b,Rd H a (.dT b)
def yk(I:fu X pins σ H s)(d:Eu H a):
  s.TypeIs (.ref a) "dict"/\(∀b,Value.ref a=.ref b->∃c,s.heap.get? b=Y c/\c.dict=Z)/\(a==sysModules)=false:=by
 rcases d with ⟨g,e⟩ | ⟨g,e⟩
 ·obtain⟨_,h,l,_,f⟩:=sW I.iS e;refine⟨f.typeIs,λb q=>?_,h⟩;cases q;obtain⟨c,_,_,j,i,_⟩:=f;exact⟨c,j,i.2.1⟩
 ·obtain⟨_,h,k,_,f⟩:=wm I.iS e;refine⟨f.typeIs,λb q=>?_,h⟩;cases q;obtain⟨c,_,_,j,i,_⟩:=f;exact⟨c,j,i.2.1⟩
section
variable {y d:V}{u r:Value}{o:Option V}
def US{Q:Px}(p:A.units+1<cLine)(I:fu X pins σ H s)(g:pL H a y o)(m:fQ y u)(h:∀w' s',fu X pins σ H s'->fQ (o.getD .lB) w'->Q w' s'):
  wpAny (model X.prog X.w) A (call (.builtin "dict.get") [.ref a,u]) Q E s:=by
 rcases g with ⟨f,k,e,j,l⟩ | ⟨f,k,b,e,j,q,l⟩
 ·subst j;obtain⟨z,i,r,c,d⟩:=sW I.iS e;refine cS bF d.typeIs b8 (cZ _ _) (meets_dict_get (fU X.prog X.w) a (mK m) i) ⟨_,d.mapOf,h _ _ (I.tok _) ?_⟩;rw[l];exact(c.val k).getD rfl
 ·subst j;cases (show u=Value.ref b from m);obtain⟨z,i,n,c,d⟩:=wm I.iS e;refine cS bF d.typeIs b8 (cZ _ _) (meetsH_dict_get (tupleKind (fU X.prog X.w)) a b i) ⟨cg p,k,n,tG I.iS q,d,h _ _ (I.tok _) ?_⟩;rw[l];exact(c.val k).getD rfl
def UT{Q:Px}(t:A.units+1<cLine)(I:fu X pins σ H s)(g:pL H a y o)(n:fQ y u)(p:fQ d r)(h:∀w' s',fu X pins σ H s'->fQ (o.getD d) w'->Q w' s'):
  wpAny (model X.prog X.w) A (call (.builtin "dict.get") [.ref a,u,r]) Q E s:=by
 rcases g with ⟨i,k,e,m,l⟩ | ⟨i,k,b,e,m,v,l⟩
 ·subst m;obtain⟨z,j,x,c,f⟩:=sW I.iS e;refine cS bF f.typeIs b8 (PySem.F.args_dict_get_3 _ _ _) (meets_dict_get_default (fU X.prog X.w) a (mK n) j r) ⟨_,f.mapOf,h _ _ (I.tok _) ?_⟩;rw[l];exact(c.val k).getD p
 ·subst m;cases (show u=Value.ref b from n);obtain⟨z,j,q,c,f⟩:=wm I.iS e;refine cS bF f.typeIs b8 (PySem.F.args_dict_get_3 _ _ _) (meetsH_dict_get_default (tupleKind (fU X.prog X.w)) a b j r) ⟨cg t,k,q,tG I.iS v,f,h _ _ (I.tok _) ?_⟩;rw[l];exact(c.val k).getD p
end
def UU(e d:TE):TE:=λσ H Q=>e σ H λx c=>∃a,x=.ref a/\Eu c a/\d σ c λy b=>∃o,pL b a y o/\Q (o.getD .lB) b
def UW(f d e:TE):TE:=λσ H Q=>f σ H λx c=>∃a,x=.ref a/\Eu c a/\d σ c λy g=>e σ g λz b=>∃o,pL b a y o/\Q (o.getD z) b
def UX(g e f:TE):TE:=λσ H Q=>g σ H λx d=>∃a,x=.ref a/\Eu d a/\e σ d λy h=>f σ h λz c=>∃b k,c a=Y (.dK b)/\y=kV k /\
 (∀v,mJ b k=Y v->Q v (upd c a (.dK (yj b k))))/\(mJ b k=Z->Q z c)
section
variable {f:Expr}{apos gd:Pos}{td ty tx:TE}
def MI(r:X.A.units+1<cLine)(t:PE X o td)(v:PE X e ty)(m:M1 X o "get" apos e gd):PE X (.Call (.Attribute o "get" apos) [e] [] gd) (UU td ty):=by intro b s σ H Q I h;refine dh m.base m.XH m.line cz bF dA (hZ (@t b s σ H _ I h) ?_);rintro u k ⟨x,D,f,n,a,w,d,q⟩;subst w;obtain rfl:u=Value.ref a:=n;obtain⟨j,i,_⟩:=yk f d;refine⟨j,i,?_⟩;rw[m.trees];refine bQ rfl (cp (aX (hZ (@v b k σ D _ f q) ?_)));rintro K G ⟨y,C,B,l,J,g,p⟩;refine bx ?_;exact US r B g l λE F z c=>⟨_,C,z,c,p⟩
def MJ(B:X.A.units+1<cLine)(C:PE X o td)(E:PE X e ty)(D:PE X f tx)(m:M2 X o "get" apos e f gd):PE X (.Call (.Attribute o "get" apos) [e,f] [] gd) (UW td ty tx):=by
 intro b s σ H Q I h;refine dh m.base m.XH m.line cz bF dA (hZ (@C b s σ H _ I h) ?_);rintro u n ⟨x,N,i,r,a,F,d,w⟩;subst F;obtain rfl:u=Value.ref a:=r;obtain⟨k,j,_⟩:=yk i d;refine⟨k,j,?_⟩;rw[m.trees];refine bQ rfl (cp (aX (hZ (@E b n σ N _ i w) λT l ⟨y,M,K,q,v⟩=>
  aX (hZ (@D b l σ M _ K v) λU R ⟨z,L,J,p,S,g,t⟩=>bx ?_))))
 exact UT B J g q p λO P G c=>⟨_,L,G,c,t⟩
def ML(L:PE X o td)(N:PE X e ty)(M:PE X f tx)(m:M2 X o "pop" apos e f gd):PE X (.Call (.Attribute o "pop" apos) [e,f] [] gd) (UX td ty tx):=by
 intro b s σ H Q I h;refine dh m.base m.XH m.line cz dz PySem.F.type_dict_pop (hZ (@L b s σ H _ I h) ?_);rintro u B ⟨x,V,q,D,a,R,d,K⟩;subst R;obtain rfl:u=Value.ref a:=D;obtain⟨t,r,_⟩:=yk q d;refine⟨t,r,?_⟩;rw[m.trees];refine bQ rfl (cp (aX (hZ (@N b B σ V _ q K) λiv A ⟨y,U,S,j,J⟩=>
  aX (hZ (@M b A σ U _ S J) λO s3 ⟨z,T,p,C,g,k,n,P,G,E⟩=>bx ?_))))
 subst P;cases l:mJ g k with
 |some v=>exact XE p n j l (.inr ⟨O,rfl⟩) λW w i c=>⟨v,_,i,c,G v l⟩
 |none=>exact UQ p n j l λw i=>⟨z,T,i,C,E l⟩
end
section
variable {kvs:List (Key×V)}
end
section
variable {y:V}{u:Value}
end
section
def Kq:jU X (.builtin "len") (λxs H Q=>∃a b,xs=[V.ref a]/\Rd H a (.dK b)/\Q (.int b.length) H):=by intro c s σ H xs g Q I r h;obtain⟨a,b,rfl,e,q⟩:=h;obtain⟨u,rfl,d⟩:=yc r;cases d;exact XF I e λt i f=>⟨.int b.length,H,f,⟨t,rfl⟩,q⟩
end
section
variable {κ:Type} [DecidableEq κ]
end
noncomputable def j8:Key->eW
 |.inl i=>.int i
 |.inr x=>.str x
def jC(K:Fg)(c:Str)(C:Addr):Prop:=W.nsIn K mainGlobals c=Y (Y (.ref C))
def jC.uniq{C b:Addr}(h:jC K c C)(a:jC K c b):C=b:=by unfold jC at h a;rw[h] at a;cases a;rfl
mutual
def dy (K:Fg) (H:Hp):eW->V->Prop
  |.none,v=>v=.lB
  |.bool b,v=>v=.bl b
  |.int i,v=>v=.int i
  |.str x,v=>v=.str x
  |.list xs,v=>∃p vs,v=.ref p/\ng K H p vs/\c6 K H xs vs
  |.tuple xs,v=>∃p vs,v=.ref p/\qL K H p vs/\c6 K H xs vs
  |.dict kvs,v=>∃p,v=.ref p/\((∃kv,Rd H p (.dK kv)/\f9 K H kvs kv)\/∃c C dx fs,jC K c C/\H p=Y (.ins C dx fs)/\pM K H c kvs fs)
def c6 (K:Fg) (H:Hp):Lp->List V->Prop
  |[],vs=>vs=[]
  |d::ds,vs=>∃v r,vs=v::r/\dy K H d v/\c6 K H ds r
def f9 (K:Fg) (H:Hp):List (eW×eW)->List (Key×V)->Prop
  |[],kv=>kv=[]
  | (k,d)::r,kv=>∃y v r',kv=(y,v)::r'/\k=j8 y/\dy K H d v/\f9 K H r r'
def pM (K:Fg) (H:Hp) (c:Str):List (eW×eW)->List (Str×V)->Prop
  |[],_=>False
  | (k,d)::r,fs=>k=.none/\d=.str c/\km K H r fs
def km (K:Fg) (H:Hp):List (eW×eW)->List (Str×V)->Prop
  |[],fs=>fs=[]
  | (k,d)::r,fs=>∃y v r',fs=(y,v)::r'/\k=.str y/\dy K H d v/\km K H r r'
end
def eZ.rd{b:Hp}{u:HO}(e:eZ H b)(h:Rd H a u):Rd b a u:=h.imp (e _ _) λ⟨o,z⟩=>⟨o,e _ _ z⟩
def eZ.sC{c:Hp}{b:List V}(e:eZ H c)(h:qL K H a b):qL K c a b:=by
 rcases h with (h | ⟨o,h⟩)|h
 ·exact .inl (.inl (e _ _ h))
 ·exact .inl (.inr ⟨o,e _ _ h⟩)
 ·exact .inr h
structure Am (K:Fg) (H H':Hp):Prop where
 seq:∀{a xs},ng K H a xs->ng K H' a xs
 sC:∀{a xs},qL K H a xs->qL K H' a xs
 rd:∀{a kv},Rd H a (.dK kv)->Rd H' a (.dK kv)
 ins:∀{a C dx fs},H a=Y (.ins C dx fs)->H' a=Y (.ins C dx fs)
def eZ.sim{a:Hp}(e:eZ H a):Am K H a:=⟨e.seq,e.sC,e.rd,e _ _⟩
mutual
theorem dy.sim {K:Fg}{H H':Hp} (e:Am K H H'):∀{d:eW}{v:V},dy K H d v->dy K H' d v
  |.none,_,h=>by unfold dy at h ⊢;exact h
  |.bool _,_,h=>by unfold dy at h ⊢;exact h
  |.int _,_,h=>by unfold dy at h ⊢;exact h
  |.str _,_,h=>by unfold dy at h ⊢;exact h
  |.list _,_,h=>by
    unfold dy at h ⊢
    obtain⟨p,vs,e1,e2,e3⟩:=h
    exact⟨p,vs,e1,e.seq e2,c6.sim e e3⟩
  |.tuple _,_,h=>by
    unfold dy at h ⊢
    obtain⟨p,vs,e1,e2,e3⟩:=h
    exact⟨p,vs,e1,e.sC e2,c6.sim e e3⟩
  |.dict _,_,h=>by
    unfold dy at h ⊢
    obtain⟨p,e1,⟨kv,e2,e3⟩ | ⟨c,C,dx,fs,e2,e3,e4⟩⟩:=h
    · exact⟨p,e1,.inl ⟨kv,e.rd e2,f9.sim e e3⟩⟩
    · exact⟨p,e1,.inr ⟨c,C,dx,fs,e2,e.ins e3,pM.sim e e4⟩⟩
theorem c6.sim {K:Fg}{H H':Hp} (e:Am K H H'):∀{ds:Lp}{vs:List V},c6 K H ds vs->c6 K H' ds vs
  |[],_,h=>by unfold c6 at h ⊢;exact h
  |_::_,_,h=>by
    unfold c6 at h ⊢
    obtain⟨v,r,e1,e2,e3⟩:=h
    exact⟨v,r,e1,dy.sim e e2,c6.sim e e3⟩
theorem f9.sim {K:Fg}{H H':Hp} (e:Am K H H'):∀{ds:List (eW×eW)}{kv:List (Key×V)},f9 K H ds kv->f9 K H' ds kv
  |[],_,h=>by unfold f9 at h ⊢;exact h
  | (_,_)::_,_,h=>by
    unfold f9 at h ⊢
    obtain⟨y,v,r,e1,e2,e3,e4⟩:=h
    exact⟨y,v,r,e1,e2,dy.sim e e3,f9.sim e e4⟩
theorem pM.sim {K:Fg}{H H':Hp}{c:Str} (e:Am K H H'):∀{ds:List (eW×eW)}{fs:List (Str×V)},pM K H c ds fs->pM K H' c ds fs
  |[],_,h=>by unfold pM at h ⊢;exact h
  | (_,_)::_,_,h=>by
    unfold pM at h ⊢
    exact⟨h.1,h.2.1,km.sim e h.2.2⟩
theorem km.sim {K:Fg}{H H':Hp} (e:Am K H H'):∀{ds:List (eW×eW)}{fs:List (Str×V)},km K H ds fs->km K H' ds fs
  |[],_,h=>by unfold km at h ⊢;exact h
  | (_,_)::_,_,h=>by
    unfold km at h ⊢
    obtain⟨y,v,r,e1,e2,e3,e4⟩:=h
    exact⟨y,v,r,e1,e2,dy.sim e e3,km.sim e e4⟩
end
section
variable {H':Hp}
def dy.same(e:eZ H H')(h:dy K H d v):dy K H' d v:=h.sim e.sim
def c6.same(e:eZ H H')(h:c6 K H ds vs):c6 K H' ds vs:=h.sim e.sim
def f9.same(e:eZ H H'){ds:List (eW×eW)}(h:f9 K H ds kv):f9 K H' ds kv:=h.sim e.sim
end
section
def dy.gU:dy K H .none v↔v=.lB:=by unfold dy;exact cL
def dy.fC{b:Bool}:dy K H (.bool b) v↔v=.bl b:=by unfold dy;exact cL
def dy.fw{i:Int}:dy K H (.int i) v↔v=.int i:=by unfold dy;exact cL
def dy.fz:dy K H (.str x) v↔v=.str x:=by unfold dy;exact cL
def dy.fG{a:Lp}:dy K H (.list a) v↔∃p b,v=.ref p/\ng K H p b/\c6 K H a b:=by unfold dy;exact cL
def dy.j9{a:Lp}:dy K H (.tuple a) v↔∃p b,v=.ref p/\qL K H p b/\c6 K H a b:=by unfold dy;exact cL
def dy.gP{a:Lp}(h:dy K H (.tuple a) v):∃p b,v=.ref p/\qL K H p b/\c6 K H a b:=dy.j9.mp h
def dy.lE:dy K H (.dict kvs) v↔∃p,v=.ref p/\((∃a,Rd H p (.dK a)/\f9 K H kvs a)\/∃c C d b,jC K c C/\H p=Y (.ins C d b)/\pM K H c kvs b):=by unfold dy;exact cL
def f9.fe:f9 K H [] kv↔kv=[]:=by unfold f9;exact cL
def f9.da{k:eW}{r:List (eW×eW)}:f9 K H ((k,d)::r) kv↔∃y v a,kv=(y,v)::a/\k=j8 y/\dy K H d v/\f9 K H r a:=by
 constructor
 ·intro h;unfold f9 at h;exact h
 ·intro h;unfold f9;exact h
def km.fe{a:List (Str×V)}:km K H [] a↔a=[]:=by unfold km;exact cL
def km.da{k:eW}{r:List (eW×eW)}{b:List (Str×V)}:km K H ((k,d)::r) b↔∃y v a,b=(y,v)::a/\k=.str y/\dy K H d v/\km K H r a:=by
 constructor
 ·intro h;unfold km at h;exact h
 ·intro h;unfold km;exact h
def pM.da{k:eW}{r:List (eW×eW)}{a:List (Str×V)}:pM K H c ((k,d)::r) a↔k=.none/\d=.str c/\km K H r a:=by
 constructor
 ·intro h;unfold pM at h;exact h
 ·intro h;unfold pM;exact h
def pM.fe{a:List (Str×V)}:pM K H c [] a↔False:=by unfold pM;exact cL
def c6.fe:c6 K H [] vs↔vs=[]:=by unfold c6;exact cL
def c6.da:c6 K H (d::ds) vs↔∃v r,vs=v::r/\dy K H d v/\c6 K H ds r:=by
 constructor
 ·intro h;unfold c6 at h;exact h
 ·intro h;unfold c6;exact h
def c6.nil:c6 K H [] []:=c6.fe.mpr rfl
def c6.cons{d:eW}{ds:Lp}(h:dy K H d v)(t:c6 K H ds vs):c6 K H (d::ds) (v::vs):=c6.da.mpr ⟨v,vs,rfl,h,t⟩
theorem c6.length{ds:Lp}(h:c6 K H ds vs):ds.length=vs.length:=by
 induction ds generalizing vs with
 |nil=>rw[c6.fe.mp h];rfl
 |cons d ds a=>obtain⟨v,r,rfl,_,t⟩:=c6.da.mp h;simp[a t]
def c6.get(h:c6 K H ds vs)(e:ds[i]?=Y d):∃v,vs[i]?=Y v/\dy K H d v:=by
 induction ds generalizing vs i with
 |nil=>simp at e
 |cons g ds a=>
  obtain⟨v,r,rfl,b,t⟩:=c6.da.mp h;cases i with
  |zero=>simp at e;subst e;exact⟨v,rfl,b⟩
  |succ i=>obtain⟨u,f,c⟩:=a t (by simpa using e);exact⟨u,by simpa using f,c⟩
def c6.get'(h:c6 K H ds vs)(e:vs[i]?=Y v):∃d,ds[i]?=Y d/\dy K H d v:=by have f:=h.length;have g:i<vs.length:=(ay.mp e).1;have a:ds[i]?=Y ds[i]:=aI (by omega);obtain⟨u,b,c⟩:=h.get a;rw[e] at b;cases b;exact⟨_,a,c⟩
def c6.append{b:Lp}{a:List V}(h:c6 K H ds vs)(t:c6 K H b a):c6 K H (ds++b) (vs++a):=by
 induction ds generalizing vs with
 |nil=>rw[c6.fe.mp h];exact t
 |cons d ds e=>obtain⟨v,r,rfl,f,c⟩:=c6.da.mp h;exact c6.cons f (e c)
theorem c6.take{ds:Lp}(n:Nat)(h:c6 K H ds vs):c6 K H (ds.take n) (vs.take n):=by
 induction ds generalizing vs n with
 |nil=>rw[c6.fe.mp h];simp;exact c6.nil
 |cons d ds b=>
  obtain⟨v,r,rfl,c,a⟩:=c6.da.mp h;cases n with
  |zero=>simp;exact c6.nil
  |succ n=>simp only[List.take_succ_cons];exact c6.cons c (b n a)
theorem c6.drop{a:Lp}(n:Nat)(h:c6 K H a vs):c6 K H (a.drop n) (vs.drop n):=by
 induction a generalizing vs n with
 |nil=>rw[c6.fe.mp h];simp;exact c6.nil
 |cons d a c=>
  obtain⟨v,r,rfl,e,b⟩:=c6.da.mp h;cases n with
  |zero=>exact h
  |succ n=>simp only[List.drop_succ_cons];exact c n b
end
section
mutual
theorem fu.qg (I:fu X pins σ H s):∀{d:eW}{v:V}{u:Value},d.canLay0=true->dy X.K H d v->fQ v u->∃as,Reads s.heap u d as
  |.none,_,_,_,h,r=>by rw[dy.gU.mp h] at r;cases r;exact⟨_,.none⟩
  |.bool b,_,_,_,h,r=>by rw[dy.fC.mp h] at r;cases r;exact⟨_,.bool b⟩
  |.int i,_,_,_,h,r=>by rw[dy.fw.mp h] at r;obtain⟨t,rfl⟩:=r;exact⟨_,.int i t⟩
  |.str x,_,_,_,h,r=>by rw[dy.fz.mp h] at r;obtain⟨t,rfl⟩:=r;exact⟨_,.str x t⟩
  |.list xs,_,_,hc,h,r=>by
    obtain⟨p,vs,rfl,e2,e3⟩:=dy.fG.mp h
    cases r
    obtain⟨its,rv,⟨o,n,e,c,_,dd⟩,_⟩:=I.list e2
    obtain⟨as,ra⟩:=fu.Cv I (by simpa [eW.canLay0] using hc) e3 rv
    exact⟨_,.list e c dd (by simpa using ra)⟩
  |.tuple xs,_,_,hc,h,r=>by
    obtain⟨p,vs,rfl,e2,e3⟩:=h.gP
    cases r
    obtain⟨its,rv,⟨o,e,c,n,dd⟩,_⟩:=I.tuple e2
    obtain⟨as,ra⟩:=fu.Cv I (by simpa [eW.canLay0] using hc) e3 rv
    exact⟨_,.tuple e c dd (by simpa using ra)⟩
  |.dict _,_,_,hc,_,_=>by simp[eW.canLay0] at hc
theorem fu.Cv (I:fu X pins σ H s):∀{ds:Lp}{vs:List V}{us:Lw},eW.canLayAll0 ds=true->c6 X.K H ds vs->fY vs us->∃as,ReadsAll s.heap us ds as
  |[],_,_,_,h,r=>by rw[c6.fe.mp h] at r;cases r;exact⟨_,.nil⟩
  |d::ds,_,_,hc,h,r=>by
    have W4:d.canLay0=true/\eW.canLayAll0 ds=true:=by simpa [eW.canLayAll0] using hc
    obtain⟨v,rr,rfl,h1,t⟩:=c6.da.mp h
    cases r with
    |cons r1 r2=>
      obtain⟨as,ra⟩:=fu.qg I W4.1 h1 r1
      obtain⟨bs,rb⟩:=fu.Cv I W4.2 t r2
      exact⟨_,.cons ra rb⟩
end
end
abbrev bb:=List (Option eW)
def jD(K:Fg)(H:Hp)(σ:St)(ρ:bb):Prop:=σ.length=ρ.length/\∀(i:Nat) (d:eW),ρ[i]?=Y (Y d)->∃v,σ[i]?=Y (Y v)/\dy K H d v
theorem jD.same{K:Fg}{H c:Hp}{σ:St}{ρ:bb}(h:jD K H σ ρ)(e:eZ H c):jD K c σ ρ :=
 ⟨h.1,λi d q=>by obtain⟨v,a,b⟩:=h.2 i d q;exact⟨v,a,b.same e⟩⟩
theorem jD.set{K:Fg}{H:Hp}{σ:St}{ρ:bb}{i:Nat}{d:eW}{v:V}(h:jD K H σ ρ)(e:dy K H d v):jD K H (σ.set i (Y v)) (ρ.set i (Y d)):=by
 refine⟨by simpa using h.1,λj g q=>?_⟩;by_cases c:j=i
 ·subst c;have f:j<ρ.length:=by
   have:=(ay.mp q).1;simpa using this
  rw[aH f] at q;cases q;exact⟨v,by rw[aH (by rw[h.1];exact f)],e⟩
 ·rw[ax (Ne.symm c)] at q;obtain⟨u,a,b⟩:=h.2 j g q;exact⟨u,by rw[ax (Ne.symm c)];exact a,b⟩
def KD(K:Fg)(H:Hp)(d:eW)(Q:VK):Prop:=∀v a,eZ H a->dy K a d v->Q v a
def KD.here{Q:VK}(k:KD K H d Q)(h:dy K H d v):Q v H:=k v H (.refl H) h
def KD.later{a:Hp}{Q:VK}(k:KD K H d Q)(e:eZ H a):KD K a d Q:=λv c b i=>k v c (e.trans b) i
def tD(K:Fg)(f:bb->Od):TE:=λσ H Q=>∃ρ d,jD K H σ ρ/\f ρ=Y d/\KD K H d Q
def PD(X:Cx)(e:Expr)(f:bb->Od):Prop:=PE X e (tD X.K f)
def tDT(K:Fg)(f:bb->Option Bool):TT:=λσ H Q=>∃ρ b,jD K H σ ρ/\f ρ=Y b/\∀a,eZ H a->Q b a
def Bi(X:Cx)(e:Expr)(f:bb->Option Bool):Prop:=PT X e (tDT X.K f)
def tDA(K:Fg)(f:bb->Option Lp):TA:=λσ H Q=>∃ρ c,jD K H σ ρ/\f ρ=Y c/\∀b a,eZ H a->c6 K a c b->Q b a
def Bj(X:Cx)(a:Lx)(f:bb->Option Lp):Prop:=PA X a (tDA X.K f)
inductive gC where
 |nx (ρ:bb)|rt (d:eW)|bk (ρ:bb)|ct (ρ:bb)
def PE.imp{t u:TE}(h:PE X e t)(k:∀σ H Q,u σ H Q->t σ H Q):PE X e u:=λa s σ H Q I q=>@h a s σ H Q I (k σ H Q q)
def PT.imp{t u:TT}(h:PT X e t)(k:∀σ H Q,u σ H Q->t σ H Q):PT X e u:=λa s σ H Q I q=>@h a s σ H Q I (k σ H Q q)
def PA.imp{e:Lx}{t u:TA}(h:PA X e t)(k:∀σ H Q,u σ H Q->t σ H Q):PA X e u:=λp a s σ H Q I q=>@h p a s σ H Q I (k σ H Q q)
def PS.imp{e:Stmt}{t u:TS}(h:PS X e t)(k:∀D σ H,u D σ H->t D σ H):PS X e u:=λa s σ H D I q=>@h a s σ H D I (k D σ H q)
def vu.imp{e:List Stmt}{t u:TS}(h:vu X e t)(k:∀D σ H,u D σ H->t D σ H):vu X e u:=λa s σ H D I q=>@h a s σ H D I (k D σ H q)
def k6.imp{f:Value->Value->Sem Value}{r b:R2}(h:k6 X f r)(k:∀x y H Q,b x y H Q->r x y H Q):k6 X f b:=λa s σ H x y v u Q I d c q=>@h a s σ H x y v u Q I d c (k _ _ _ _ q)
def II.imp{r d:R2}(h:II X r)(k:∀x y H Q,d x y H Q->r x y H Q):II X d:=λa b c s σ H x y v u Q I g f q e=>h a b c s σ H x y v u Q I g f (k _ _ _ _ q) e
def jU.imp{f:Value}{r b:List V->Hp->VK->Prop}(h:jU X f r)(k:∀xs H Q,b xs H Q->r xs H Q):jU X f b:=λa s σ H xs c Q I d q=>@h a s σ H xs c Q I d (k _ _ _ q)
end L2
variable  {h:L2.bb->Option (Bool×L2.bb)}{f fa:L2.bb->Od}{g:L2.bb->Option Bool}{ρ:L2.bb}{ff q:L2.bb->Option Lp}
namespace L2
open PySem PySem.Spec PyProof.Rows
section
variable {a c:Expr}{fb fc:bb->Od}
noncomputable def a7(i:Nat):bb->Od:=λρ=>(ρ[i]?).join
def a6(i:Nat) (g:X.N[i]?=Y x:=by rfl) (b:LZ X.env.scope x:=by first|exact b5 rfl|exact bN (b5 rfl)|exact bN (bN rfl)) (f:zg x:=by decide)
  (a:(x==("__classdict__":Str))=false:=by decide):PD X (.Name x pos) (a7 i):=by
 refine PE.imp (qT g b f a) ?_;rintro σ H Q ⟨ρ,d,c,e,k⟩;have l:ρ[i]?=Y (Y d):=by
  unfold a7 at e;cases q:ρ[i]? with
  |none=>rw[q] at e;cases e
  |some o=>rw[q] at e;cases o with
   |none=>cases e
   |some m=>cases e;rfl
 obtain⟨v,j,h⟩:=c.2 i d l;exact⟨v,j,k.here h⟩
noncomputable def dC(d:eW):bb->Od:=λ_=>Y d
def c4{i j}:PD X (.Constant (.int i) j pos) (dC (.int i)):=PE.imp Us <| by rintro σ H Q ⟨_,d,_,e,k⟩;cases e;exact k.here (dy.fw.mpr rfl)
def kG{i j}:PD X (.Constant (.bool i) j pos) (dC (.bool i)):=PE.imp W6 <| by rintro σ H Q ⟨_,d,_,e,k⟩;cases e;exact k.here (dy.fC.mpr rfl)
def gO{j}:PD X (.Constant .none j pos) (dC .none):=PE.imp Ut <| by rintro σ H Q ⟨_,d,_,e,k⟩;cases e;exact k.here (dy.gU.mpr rfl)
def c7{x j}:PD X (.Constant (.str x) j pos) (dC (.str x)):=PE.imp Uu <| by rintro σ H Q ⟨_,d,_,e,k⟩;cases e;exact k.here (dy.fz.mpr rfl)
def Zx(K:Fg)(g:eW->eW->Od):R2:=λx y H Q=>∃a b c,dy K H a x/\dy K H b y/\g a b=Y c/\KD K H c Q
def uf(X:Cx)(f:Value->Value->Sem Value)(g:eW->eW->Od):Prop:=k6 X f (Zx X.K g)
noncomputable def d2(g:eW->eW->Od)(b a:bb->Od):bb->Od:=λρ=>(b ρ).bind λx=>(a ρ).bind λy=>g x y
def bind_some{β:Type}{o:Option α}{k:α->Option β}{b:β}(h:o.bind k=Y b):∃a,o=Y a/\k a=Y b:=by
 cases o with
 |none=>cases h
 |some a=>exact⟨a,rfl,h⟩
def Zy{g:eW->eW->Od}{Q:VK}(h:tD K (d2 g fa fb) σ H Q):WR (Zx K g) (tD K fa) (tD K fb) σ H Q:=by obtain⟨ρ,d,c,e,k⟩:=h;obtain⟨x,l,e⟩:=bind_some e;obtain⟨y,j,e⟩:=bind_some e;exact⟨ρ,x,c,l,λv n b i=>⟨ρ,y,c.same b,j,λu m a f=>⟨x,y,d,i.same a,f,e,k.later (b.trans a)⟩⟩⟩
def gI{c:Operator}{g:eW->eW->Od}(d:uf X (binaryOp c) g)(f:PD X a fa)(e:PD X b fb):PD X (.BinOp a c b pos) (d2 g fa fb) :=
 PE.imp (Xg d f e) λ_ _ _ h=>Zy h
def UY{c:CmpOp}{g:eW->eW->Od}(d:uf X (compareOp c) g)(i:PD X a fa)(f:PD X b fb)(e:behindInMarks c b=false):PD X (.Compare a [c] [b] pos) (d2 g fa fb) :=
 PE.imp (IE d i f e) λ_ _ _ h=>Zy h
def IxD(X:Cx)(g:eW->eW->Od):Prop:=II X (Zx X.K g)
def XI{g:eW->eW->Od}(d:IxD X g)(f:PD X a fa)(e:PD X b fb)(c:ui b):PD X (.Subscript a b pos) (d2 g fa fb) :=
 PE.imp (Mx d f e c) λ_ _ _ h=>Zy h
noncomputable def dI(C:Int->Int->Bool)(g:Int->Int->eW):eW->eW->Od
 |.int i,.int j=>if C i j then Y (g i j) else Z
 |_,_=>Z
def Cw{C:Int->Int->Bool}{g:Int->Int->eW}{x y:eW}(h:dI C g x y=Y d):∃i j,x=.int i/\y=.int j/\C i j=true/\d=g i j:=by
 cases x<;>cases y<;>try (simp[dI] at h;done)
 rename_i i j;dsimp only[dI] at h;by_cases a:C i j=true
 ·rw[ah a] at h;cases h;exact⟨i,j,rfl,rfl,a,rfl⟩
 ·rw[ai a] at h;cases h
def MM{f:Value->Value->Sem Value}{P:Int->Int->Prop}{C:Int->Int->Bool}{g:Int->Int->Int}(h:k6 X f (rI P λi j=>.int (g i j)))(n:∀i j,C i j=true->P i j):uf X f (dI C λi j=>.int (g i j)) :=
 k6.imp h <| by rintro x y H Q ⟨a,b,d,m,l,e,k⟩;obtain⟨i,j,rfl,rfl,c,rfl⟩:=Cw e;exact⟨i,j,dy.fw.mp m,dy.fw.mp l,n i j c,k.here (dy.fw.mpr rfl)⟩
def UZ{f:Value->Value->Sem Value}{g:Int->Int->Int}(h:k6 X f (PL λi j=>.int (g i j))):uf X f (dI (λ_ _=>true) λi j=>.int (g i j)) :=
 k6.imp h <| by rintro x y H Q ⟨a,b,d,m,l,e,k⟩;obtain⟨i,j,rfl,rfl,c,rfl⟩:=Cw e;exact⟨i,j,dy.fw.mp m,dy.fw.mp l,k.here (dy.fw.mpr rfl)⟩
def Cy{f:Value->Value->Sem Value}{g:Int->Int->Bool}(h:k6 X f (PL λi j=>.bl (g i j))):uf X f (dI (λ_ _=>true) λi j=>.bool (g i j)) :=
 k6.imp h <| by rintro x y H Q ⟨a,b,d,m,l,e,k⟩;obtain⟨i,j,rfl,rfl,c,rfl⟩:=Cw e;exact⟨i,j,dy.fw.mp m,dy.fw.mp l,k.here (dy.fC.mpr rfl)⟩
def ni(i:Int):Bool:=decide (Builtin.Int.intBits i<=2 ^ 20)
def Qq:k6 X (binaryOp .Mult) (rI (λi j=>ni i=true/\ni j=true) λi j=>.int (i*j)):=opI λ_ _ _ _ _ _ _ a q=>mul_int q (.of_bits (cq a.1) (cq a.2))
noncomputable def MN:=dI (λ_ _=>true) λi j=>.int (i - j)
noncomputable def U0:=dI (λi j=>ni i&&ni j) λi j=>.int (i*j)
noncomputable def qN:=dI (λ_ j=>decide (0<j)&&decide (j<1073741824)) λi j=>.int (i / j)
noncomputable def pN:=dI (λ_ j=>decide (0<j)) λi j=>.int (i % j)
def MP:uf X (binaryOp .Sub) MN:=UZ UA
def U1:uf X (binaryOp .Mult) U0:=MM Qq λi j h=>by simpa using h
def pf:uf X (binaryOp .FloorDiv) qN:=MM Qa λi j h=>by simpa [Xj] using h
def nj:uf X (binaryOp .Mod) pN:=MM UB λi j h=>by simpa using h
def An:=dI (λ_ _=>true) λi j=>.bool (decide (i<j))
def Zz:=dI (λ_ _=>true) λi j=>.bool (decide (i<=j))
def U2:=dI (λ_ _=>true) λi j=>.bool (decide (j<i))
def dGe:=dI (λ_ _=>true) λi j=>.bool (decide (j<=i))
def yl:uf X (compareOp .Lt) An:=Cy Xk
def XJ:uf X (compareOp .LtE) Zz:=Cy Xl
def IP:uf X (compareOp .Gt) U2:=Cy Xm
def XM:uf X (compareOp .GtE) dGe:=Cy Xn
def XN(K:Fg):R2:=λx y H Q=>∃l b c a,x=.ref l/\y=.ref b/\ng K H l c/\ng K H b a/\c.length+a.length<=sizeLine/\∀p,H p=Z->Q (.ref p) (upd H p (.lst (c++a)))
def Qr:k6 X (binaryOp .Add) (XN X.K):=by
 intro p s σ H x y v u Q I E D h;obtain⟨l,b,R,P,rfl,rfl,L,M,S,q⟩:=h;cases E;cases D;obtain⟨c,r,G,_⟩:=I.list L;obtain⟨a,o,j,_⟩:=I.list M;have U:=r.length;have T:=o.length;obtain⟨⟨O,N,A,C⟩,n,t,z,_,w⟩:=G;obtain⟨⟨B,k,m,i⟩,J,d,g,_,f⟩:=j;simp only at z w g f;subst z w g f;have e:c.toArray++a.toArray=(c++a).toArray:=by simp
 refine eN ⟨_,t,rfl⟩ ⟨_,d,rfl⟩ noFill_list_add seq_list_add PySem.F.slot_list_add PySem.F.entry_list_add (PySem.F.args_list_add_2 _ _) (list_addW l b c.toArray a.toArray n J N k C i (by simp;omega)) ⟨t,d,?_⟩;rw[e];exact⟨.ref _,_,I.XB (t':=s.toks) (r.append o) (by rw[bp];omega),rfl,q _ I.fresh⟩
def Qs:k6 X (binaryOp .Add) (λx y H Q=>∃l b o,x=.ref l/\y=.ref b/\qL X.K H l []/\qL X.K H b o/\Q (.ref b) H):=by
 intro p s σ H x y v u Q I E D h;obtain⟨l,b,o,rfl,rfl,J,L,q⟩:=h;cases E;cases D;obtain⟨d,r,F,_⟩:=I.tuple J;obtain⟨c,R,j,_⟩:=I.tuple L;have M:=r.length;obtain⟨⟨P,O,A,C⟩,t,z,n,w⟩:=F;obtain⟨⟨B,k,m,i⟩,e,g,G,f⟩:=j;simp only at z w g f;subst z w g f;have N:d=[]:=by cases d with
  |nil=>rfl
  |cons a r=>simp at M
 subst N;exact eN ⟨_,t,rfl⟩ ⟨_,e,rfl⟩ eF seq_tuple_add dg cY (cV _ _) (tuple_addW0 l b #[] c.toArray n G O k C i rfl) ⟨t,e,⟨.ref b,H,I,rfl,q⟩⟩
def ka{p:Addr}{o:HO}(h:H p=Z):eZ H (upd H p o):=λb u e=>by rw[ee (gp e h)];exact e
def Ew{p:Addr}(h:H p=Z)(e:c6 K H ds vs):dy K (upd H p (.lst vs)) (.list ds) (.ref p) :=
 dy.fG.mpr ⟨p,vs,rfl,ng.of fx,e.same (ka h)⟩
def MQ{p:Addr}(h:H p=Z)(e:c6 K H ds vs):dy K (upd H p (.tup vs)) (.tuple ds) (.ref p) :=
 dy.j9.mpr ⟨p,vs,rfl,qL.of fx,e.same (ka h)⟩
def KD.Ao{Q:VK}(k:KD K H (.list ds) Q)(e:c6 K H ds vs):∀p,H p=Z->Q (.ref p) (upd H p (.lst vs)):=λp h=>k _ _ (ka h) (Ew h e)
def KD.U3{Q:VK}(k:KD K H (.tuple ds) Q)(e:c6 K H ds vs):∀p,H p=Z->Q (.ref p) (upd H p (.tup vs)):=λp h=>k _ _ (ka h) (MQ h e)
noncomputable def kb:eW->eW->Od
 |.int i,.int j=>Y (.int (i+j))
 |.str x,.str y=>if x.length+y.length<=sizeLine then Y (.str (x++y)) else Z
 |.list xs,.list ys=>if xs.length+ys.length<=sizeLine then Y (.list (xs++ys)) else Z
 |.tuple xs,.tuple ys=>if xs.length+ys.length<=sizeLine then Y (.tuple (xs++ys)) else Z
 |_,_=>Z
def jP:uf X (binaryOp .Add) kb:=by
 refine k6.imp (Uz.or (GH.or (Qr.or (Qk.or Qs)))) ?_;rintro x y H Q ⟨a,b,d,l,h,e,k⟩;cases a<;>cases b<;>try (simp[kb] at e;done)
 ·rename_i i j;cases e;exact .inl ⟨i,j,dy.fw.mp l,dy.fw.mp h,k.here (dy.fw.mpr rfl)⟩
 ·rename_i i j;dsimp only[kb] at e;by_cases c:i.length+j.length<=sizeLine
  ·rw[ah c] at e;cases e;exact .inr (.inl ⟨i,j,dy.fz.mp l,dy.fz.mp h,c,k.here (dy.fz.mpr rfl)⟩)
  ·rw[ai c] at e;cases e
 ·rename_i i j;dsimp only[kb] at e;by_cases c:i.length+j.length<=sizeLine
  ·rw[ah c] at e;cases e;obtain⟨p,r,rfl,m,f⟩:=dy.fG.mp l;obtain⟨q,n,rfl,o,g⟩:=dy.fG.mp h;exact .inr (.inr (.inl ⟨p,q,r,n,rfl,rfl,m,o,by rw[<-f.length,<-g.length];exact c,k.Ao (f.append g)⟩))
  ·rw[ai c] at e;cases e
 ·rename_i i j;dsimp only[kb] at e;by_cases c:i.length+j.length<=sizeLine
  ·rw[ah c] at e;cases e;obtain⟨p,r,rfl,m,f⟩:=l.gP;obtain⟨q,n,rfl,o,g⟩:=h.gP;cases i with
   |nil=>rw[c6.fe.mp f] at m;exact .inr (.inr (.inr (.inr ⟨p,q,n,rfl,rfl,m,o,k.here h⟩)))
   |cons t s=>
    refine .inr (.inr (.inr (.inl ⟨p,q,r,n,rfl,rfl,m,o,?_,by rw[<-f.length,<-g.length];exact c,λz=>?_,λz=>k.U3 (f.append g)⟩)))
    ·intro z;subst z;have:=f.length;simp at this
    ·subst z;have:j=[]:=by have:=g.length;cases j with
      |nil=>rfl
      |cons _ _=>simp at this
     subst this;rw[aL] at k;exact k.here l
  ·rw[ai c] at e;cases e
def kJ:eW->eW->Od:=λa b=>if SeqAt.shaped a=true/\SeqAt.shaped b=true then Y (.bool (eW.eqv a b)) else Z
noncomputable def w8:eW->eW->Od:=λa b=>if SeqAt.shaped a=true/\SeqAt.shaped b=true then Y (.bool (!eW.eqv a b)) else Z
def hH(n:X.A.units+64<cLine):uf X (compareOp .Eq) kJ:=by
 intro f s σ H x y v u Q I h g ⟨a,b,d,m,l,e,k⟩;unfold kJ at e;by_cases c:SeqAt.shaped a=true/\SeqAt.shaped b=true
 ·rw[ah c] at e;cases e;obtain⟨p,j⟩:=I.qg (aQ c.1) m h;obtain⟨o,i⟩:=I.qg (aQ c.2) l g;exact eq_dataH j i c.1 c.2 n ⟨.bl _,H,I,rfl,k.here (dy.fC.mpr rfl)⟩
 ·rw[ai c] at e;cases e
def pO(n:X.A.units+64<cLine):uf X (compareOp .NotEq) w8:=by
 intro f s σ H x y v u Q I h g ⟨a,b,d,m,l,e,k⟩;unfold w8 at e;by_cases c:SeqAt.shaped a=true/\SeqAt.shaped b=true
 ·rw[ah c] at e;cases e;obtain⟨p,j⟩:=I.qg (aQ c.1) m h;obtain⟨o,i⟩:=I.qg (aQ c.2) l g;exact ne_dataH j i c.1 c.2 n ⟨.bl _,H,I,rfl,k.here (dy.fC.mpr rfl)⟩
 ·rw[ai c] at e;cases e
noncomputable def ZA:eW->eW->Od
 |.list xs,.int i=>pJ xs i
 |.tuple xs,.int i=>pJ xs i
 |.str z,.int i=>if z.length<=sizeLine then (pJ z.cps.toList i).map λc=>.str ⟨#[c]⟩ else Z
 |_,_=>Z
def Tz{i:Int}(h:c6 K H ds vs)(e:pJ ds i=Y d):∃v,pJ vs i=Y v/\dy K H d v:=by
 unfold pJ at e ⊢;rw[<-h.length];cases q:Co ds.length i with
 |none=>rw[q] at e;cases e
 |some j=>rw[q] at e;exact h.get e
def ixD:IxD X ZA:=by
 refine II.imp UO ?_;rintro x y H Q ⟨a,b,d,j,h,e,k⟩;cases a<;>cases b<;>try (simp[ZA] at e;done)
 ·rename_i z i;dsimp only[ZA] at e;by_cases l:z.length<=sizeLine
  ·rw[ah l] at e;obtain⟨c,r,f⟩:=aa.mp e;subst f;exact .inr (.inr ⟨z,i,c,dy.fz.mp j,dy.fw.mp h,l,r,k.here (dy.fz.mpr rfl)⟩)
  ·rw[ai l] at e;cases e
 ·rename_i q i;obtain⟨p,g,rfl,f,o⟩:=dy.fG.mp j;obtain⟨v,n,m⟩:=Tz o e;exact .inl ⟨p,g,i,v,rfl,dy.fw.mp h,f,n,k.here m⟩
 ·rename_i q i;obtain⟨p,g,rfl,f,o⟩:=j.gP;obtain⟨v,n,m⟩:=Tz o e;exact .inr (.inl ⟨p,g,i,v,rfl,dy.fw.mp h,f,n,k.here m⟩)
noncomputable def G3:eW->Option Bool
 |.none=>Y false
 |.bool b=>Y b
 |.int i=>Y (i != 0)
 |.str y=>if y.length<=sizeLine then Y ((y.length:Int) != 0) else Z
 |.list xs=>Y (!xs.isEmpty)
 |.tuple xs=>Y (!xs.isEmpty)
 |.dict _=>Z
def ym(h:c6 K H ds vs):ds.isEmpty=vs.isEmpty:=by have:=h.length;cases ds<;>cases vs<;>first|rfl|(simp at this)
def MT{k:Bool}(h:dy K H d v)(e:G3 d=Y k):UG K v H k:=by
 cases d with
 |none=>rw[dy.gU.mp h];cases e;rfl
 |bool b=>rw[dy.fC.mp h];cases e;rfl
 |int i=>rw[dy.fw.mp h];cases e;rfl
 |str y=>
  rw[dy.fz.mp h];dsimp only[G3] at e;by_cases c:y.length<=sizeLine
  ·rw[ah c] at e;cases e;exact⟨c,rfl⟩
  ·rw[ai c] at e;cases e
 |list j=>obtain⟨p,a,rfl,g,f⟩:=dy.fG.mp h;cases e;exact .inl ⟨a,g,by rw[ym f]⟩
 |tuple j=>obtain⟨p,a,rfl,g,f⟩:=h.gP;cases e;exact .inr (.inl ⟨a,g,by rw[ym f]⟩)
 |dict _=>cases e
noncomputable def fB(f:bb->Od):bb->Option Bool:=λρ=>(f ρ).bind λd=>match d with | .bool b=>Y b|_=>Z
def xI{b:Bool}(h:fB f ρ=Y b):f ρ=Y (.bool b):=by obtain⟨d,c,a⟩:=bind_some h;cases d<;>first|(cases a;exact c)|cases a
def Qt{c:CmpOp}{g:eW->eW->Od}(i:uf X (compareOp c) g)(m:PD X a fa)(l:PD X b fb)(j:behindInMarks c b=false):Bi X (.Compare a [c] [b] pos) (fB (d2 g fa fb)) :=
 PT.imp (xG i m l j) λσ H Q ⟨ρ,b,h,e,k⟩=>
  Zy ⟨ρ,.bool b,h,xI e,λv n d f=>⟨b,dy.fC.mp f,k n d⟩⟩
def qO(f g:bb->Option Bool):bb->Option Bool:=λρ=>(f ρ).bind λx=>if x then g ρ else Y false
def Cz(f g:bb->Option Bool):bb->Option Bool:=λρ=>(f ρ).bind λx=>if x then Y true else g ρ
def sD(f:bb->Option Bool):bb->Option Bool:=λρ=>(f ρ).map (!·)
variable {ga gb gc:bb->Option Bool}{rest:Lx}
def U4(X:Cx)(e:Expr)(f:bb->Option Bool):Prop:=PW X e (tDT X.K f)
def PW.imp{t u:TT}(h:PW X e t)(k:∀σ H Q,u σ H Q->t σ H Q):PW X e u:=λb a s σ H Q I q=>@h b a s σ H Q I (k σ H Q q)
def kR(h:Bi X a ga):U4 X (.BoolOp .And [a] pos) ga:=Iy h
def mB(h:Bi X a ga):U4 X (.BoolOp .Or [a] pos) ga:=L9 h
def lF(i:Bi X a ga)(h:U4 X (.BoolOp .And (b::rest) pos) gb):U4 X (.BoolOp .And (a::b::rest) pos) (qO ga gb) :=
 PW.imp (Ma i h) <| by
  rintro σ H Q ⟨ρ,x,d,e,k⟩;obtain⟨y,j,f⟩:=bind_some e;refine⟨ρ,y,d,j,λm c=>?_⟩;cases y with
  |true=>rw[ah rfl];exact⟨ρ,x,d.same c,f,λl g=>k l (c.trans g)⟩
  |false=>rw[ai aF];cases f;exact k m c
def oe(i:Bi X a ga)(h:U4 X (.BoolOp .Or (b::rest) pos) gb):U4 X (.BoolOp .Or (a::b::rest) pos) (Cz ga gb) :=
 PW.imp (Ts i h) <| by
  rintro σ H Q ⟨ρ,x,d,e,k⟩;obtain⟨y,j,f⟩:=bind_some e;refine⟨ρ,y,d,j,λm c=>?_⟩;cases y with
  |false=>rw[ai aF];exact⟨ρ,x,d.same c,f,λl g=>k l (c.trans g)⟩
  |true=>rw[ah rfl];cases f;exact k m c
def lh(h:U4 X e ga):Bi X e ga:=h.pt
def kX(f:Bi X a ga):Bi X (.UnaryOp .Not a pos) (sD ga) :=
 PT.imp (Gx f) <| by rintro σ H Q ⟨ρ,x,d,e,k⟩;obtain⟨y,h,g⟩:=aa.mp e;exact⟨ρ,y,d,h,λb c=>by show Q (!y) b;rw[g];exact k b c⟩
def dIf(g:bb->Option Bool)(b a:bb->Od):bb->Od:=λρ=>(g ρ).bind λx=>if x then b ρ else a ρ
def XO(i:Bi X c gc)(l:PD X a fa)(j:PD X b fb):PD X (.IfExp c a b pos) (dIf gc fa fb) :=
 PE.imp (Me i l j) <| by
  rintro σ H Q ⟨ρ,d,g,e,k⟩;obtain⟨y,m,h⟩:=bind_some e;refine⟨ρ,y,g,m,λn f=>?_⟩;cases y with
  |true=>rw[ah rfl];exact⟨ρ,d,g.same f,h,k.later f⟩
  |false=>rw[ai aF];exact⟨ρ,d,g.same f,h,k.later f⟩
noncomputable def f7:bb->Option Lp:=λ_=>Y []
noncomputable def gq(f:bb->Od)(g:bb->Option Lp):bb->Option Lp:=λρ=>(f ρ).bind λx=>(g ρ).bind λxs=>Y (x::xs)
def jx:Bj X [] f7:=PA.imp qf <| by rintro σ H Q ⟨ρ,b,a,e,k⟩;cases e;exact k [] H (.refl H) c6.nil
def fy(j:PD X e f)(i:Bj X es ff)(a:zE e es X:=by rfl):Bj X (e::es) (gq f ff) :=
 PA.imp (lC j i a) <| by rintro σ H Q ⟨ρ,p,a,e,k⟩;obtain⟨x,m,e⟩:=bind_some e;obtain⟨d,l,e⟩:=bind_some e;cases e;exact⟨ρ,x,a,m,λv q c h=>⟨ρ,d,a.same c,l,λo n b g=>k _ n (c.trans b) (c6.cons (h.same b) g)⟩⟩
noncomputable def lz(a:bb->Option Lp):bb->Od:=λρ=>(a ρ).bind λxs=>if xs.length<=sizeLine then Y (.tuple xs) else Z
noncomputable def kn(b:bb->Option Lp):bb->Od:=λρ=>(b ρ).bind λa=>if a.length<=sizeLine then Y (.list a) else Z
def jQ{x1}(h:Bj X es ff):PD X (.Tuple es x1 pos) (lz ff) :=
 PE.imp (Mt h) <| by
  rintro σ H Q ⟨ρ,d,g,e,k⟩;obtain⟨b,i,e⟩:=bind_some e;by_cases a:b.length<=sizeLine
  ·rw[ah a] at e;cases e;exact⟨ρ,b,g,i,λj l f c=>⟨by rw[<-c.length];exact a,(k.later f).U3 c⟩⟩
  ·rw[ai a] at e;cases e
def lG(h:Bj X es ff):PD X (.List es pos) (kn ff) :=
 PE.imp (GP h) <| by
  rintro σ H Q ⟨ρ,d,g,e,k⟩;obtain⟨b,i,e⟩:=bind_some e;by_cases a:b.length<=sizeLine
  ·rw[ah a] at e;cases e;exact⟨ρ,b,g,i,λj l f c=>⟨by rw[<-c.length];exact a,(k.later f).Ao c⟩⟩
  ·rw[ai a] at e;cases e
abbrev FO:=bb->Option (Option Int)
def tDO(K:Fg)(g:FO):TO:=λσ H Q=>∃ρ o,jD K H σ ρ/\g ρ=Y o/\∀a,eZ H a->Q o a
def WS(X:Cx)(e:Option Expr)(g:FO):Prop:=PO X e (tDO X.K g)
def PO.imp{e:Option Expr}{t u:TO}(h:PO X e t)(k:∀σ H Q,u σ H Q->t σ H Q):PO X e u:=λa s σ H Q I q=>@h a s σ H Q I (k σ H Q q)
def jV:FO:=λ_=>Y Z
noncomputable def iV(f:bb->Od):FO:=λρ=>(f ρ).bind λd=>match d with | .int i=>Y (Y i)|_=>Z
def gW:WS X Z jV:=PO.imp Qi <| by rintro σ H Q ⟨ρ,o,a,e,k⟩;cases e;exact k H (.refl H)
def gJ(h:PD X e f):WS X (Y e) (iV f):=PO.imp (Qj h) <| by
 rintro σ H Q ⟨ρ,o,g,e,k⟩;obtain⟨d,i,a⟩:=bind_some e;cases d<;>first
  | (cases a;exact⟨ρ,_,g,i,λv j b c=>⟨_,dy.fw.mp c,k j b⟩⟩)
  |cases a
noncomputable def nk(a:List α)(b c:Option Int):List α:=(a.drop (HT.j7 a.length 0 b)).take (HT.j7 a.length a.length c - HT.j7 a.length 0 b)
def c6.cut(h:c6 K H ds vs)(a b:Option Int):c6 K H (nk ds a b) (Em vs a b):=by unfold nk Em;rw[<-h.length];exact(h.drop _).take _
def XP(K:Fg):V->Option Int->Option Int->Hp->VK->Prop:=λx c d H Q=>∃a b,x=.ref a/\qL K H a b/\(HT.j7 b.length 0 c=0/\HT.j7 b.length b.length d=b.length)/\Q (.ref a) H
end
end L2
local macro_rules
| `(zO $a) => `(L2.fy $a L2.jx)
| `(zC $s $a) => `(L2.gq (L2.dC (.str $s)) $a)
| `(zQ $a) => `(L2.gq $a L2.f7)
| `(zA $s) => `(L2.dC (.str $s))
| `(zI $n) => `(L2.dC (.int $n))
namespace HT
open PySem PyProof.Rows
section
variable {prog:Program}{w:World}
def sE{t f:Addr}{a:Array Value}{l k:Value}{b e:Option Int}{Q:Px} (d:IsTup s.heap t a) (m:s.heap.IsSliceOf f l k .none) (o:IsPart l b) (n:IsPart k e)
  (hw:j7 a.size 0 b=0/\j7 a.size a.size e=a.size) (h:Q (.ref t) s):wpAny (model prog w) A (getItem (.ref t) (.ref f)) Q E s:=by
 obtain⟨p,g,i,q⟩:=id m;have j:s.TypeIs (.ref f) "slice":=⟨p,g,i⟩
 unfold getItem
 try with_reducible refine bw ?_
 first|refine ae (ar ?_)|skip
 refine ae (wpAny_sequenceKey d.typeIs (by decide) ?_);refine ae (cy (name:=zZ "__getitem__") d.typeIs br
  (dG br d.typeIs entry_tuple_getitem ?_ (args_tuple_getitem _ _)))
 show wpAny _ _ (Builtin.Tuple.tupleItemsOf (.ref t)>>=_) _ _ s;refine ae (tupleItemsOf_ d ?_);refine ae (cD j ?_);rw[ah (by decide)];refine ae (pI m o n ?_);have c:((((j7 a.size 0 b:Nat):Int)==0&&(1:Int)==1&&(j7 a.size a.size e - j7 a.size 0 b)==a.size)=true):=by rw[hw.1,hw.2];simp
 show wpAny _ _ (if (((j7 a.size 0 b:Nat):Int)==0&&(1:Int)==1&&(j7 a.size a.size e - j7 a.size 0 b)==a.size)=true then _ else _) _ _ s;rw[ah c];unfold Builtin.Tuple.tupleIsExact;refine ae (ae (cD d.typeIs (ar ?_)));rw[ah (by decide)];refine ae (eV ?_);exact ar ⟨_,rfl,ar h⟩
end
end HT
namespace L2
open PySem PySem.Spec PyProof.Rows
section
variable {a c:Expr}{fb fc:bb->Od}{p2:Pos}
def Qu:IG X (XP X.K):=by
 intro d s σ H x v n m p u o Q I g l j i h;obtain⟨a,f,rfl,k,hw,q⟩:=h;cases g;obtain⟨c,r,e,t⟩:=I.tuple k;have b:c.toArray.size=f.length:=by rw[au];exact r.length.symm
 refine⟨"tuple",_,br.lookup,e.typeIs,?_⟩;exact HT.sE e l j i (by rw[b];exact hw) ⟨.ref a,H,I,rfl,q⟩
def aan:V->Option Int->Option Int->Hp->VK->Prop:=λx a b H Q=>∃z,x=.str z/\z.length<=sizeLine/\Q (.str (Txt.slice z a b)) H
def r0:Value->Option (Int×Tok)
 |.int i t=>Y (i,t)
 |_=>Z
def wo{v:Value}{o:Option Int}(p:IsPart v o):partValue (r0 v)=v/\(r0 v).map (·.1)=o:=by cases p<;>exact⟨rfl,rfl⟩
theorem U5:IG X aan:=by
 intro f s σ H x v d c a b E Q I j y n m h;obtain⟨z,rfl,w,q⟩:=h;obtain⟨t,rfl⟩:=j;refine⟨"str",_,F.slot_str_getitem.lookup,d6 _ _ _,?_⟩;obtain⟨r,p⟩:=wo n;obtain⟨i,g⟩:=wo m;obtain⟨o,A,C,B⟩:=y;refine wpAny_getItem_str_slice (l:=r0 d) (u:=r0 c) (st:=Z) ⟨o,A,C,by rw[r,i];exact B⟩ rfl ?_;have e:sliceMade z t (r0 d) (r0 c) Z=(if ((1:Int)==1&&(Builtin.Str.strSliceIndices a b 1 z.length).length==z.length)=true then .val (.str z t) else .str ⟨((Builtin.Str.strSliceIndices a b 1 z.length).filterMap (z.cps[·]?)).toArray⟩):=by unfold sliceMade slicePicked;rw[p,g];rfl
 rw[e];exact post_val_or_str ⟨bK (Txt.slice_le z a b) w,λD k=>⟨.str (Txt.slice z a b),H,I.tok _,⟨_,rfl⟩,q⟩⟩
noncomputable def L0:eW->Option Int->Option Int->Od
 |.list xs,lo,hi=>Y (.list (nk xs lo hi))
 |.tuple xs,lo,hi=>Y (.tuple (nk xs lo hi))
 |.str z,lo,hi=>if z.length<=sizeLine then Y (.str (Txt.slice z lo hi)) else Z
 |_,_,_=>Z
noncomputable def iE(f:bb->Od)(l h:FO):bb->Od:=λρ=>(f ρ).bind λx=>(l ρ).bind λa=>(h ρ).bind λb=>L0 x a b
def IG.imp{r b:V->Option Int->Option Int->Hp->VK->Prop}(h:IG X r)(k:∀x lo hi H Q,b x lo hi H Q->r x lo hi H Q):IG X b :=
 λa s σ H x v d c lo hi e Q I f i pl g q=>@h a s σ H x v d c lo hi e Q I f i pl g (k _ _ _ _ _ q)
def slD:IG X (λx lo hi H Q=>∃d c,dy X.K H d x/\L0 d lo hi=Y c/\KD X.K H c Q):=by
 refine IG.imp (IK.or (U5.or (UL.or Qu))) ?_;rintro x lo hi H Q ⟨d,c,i,e,k⟩;cases d<;>try (simp[L0] at e;done)
 ·rename_i z;dsimp only[L0] at e;by_cases h:z.length<=sizeLine
  ·rw[ah h] at e;cases e;exact .inr (.inl ⟨z,dy.fz.mp i,h,k.here (dy.fz.mpr rfl)⟩)
  ·rw[ai h] at e;cases e
 ·rename_i g;cases e;obtain⟨p,a,rfl,f,b⟩:=dy.fG.mp i;exact .inl ⟨p,a,rfl,f,k.Ao (b.cut lo hi)⟩
 ·rename_i g;cases e;obtain⟨p,a,rfl,f,b⟩:=i.gP;by_cases hw:HT.j7 a.length 0 lo=0/\HT.j7 a.length a.length hi=a.length
  ·refine .inr (.inr (.inr ⟨p,a,rfl,f,hw,?_⟩));have:nk g lo hi=g:=by
    unfold nk;rw[b.length,hw.1,hw.2];simp only[List.drop_zero,Nat.sub_zero];rw[<-b.length];exact List.take_length
   rw[this] at k;exact k.here i
  ·exact .inr (.inr (.inl ⟨p,a,rfl,f,hw,k.U3 (b.cut lo hi)⟩))
def ib{m n:Option Expr}{l h:FO}(r:PD X e f)(q:WS X m l)(p:WS X n h):PD X (.Subscript e (.Slice m n Z p2) pos) (iE f l h) :=
 PE.imp (El slD r q p) <| by rintro σ H Q ⟨ρ,d,g,e,k⟩;obtain⟨x,u,e⟩:=bind_some e;obtain⟨c,t,e⟩:=bind_some e;obtain⟨i,s,e⟩:=bind_some e;exact⟨ρ,x,g,u,λv z b o=>⟨ρ,c,g.same b,t,λy a=>⟨ρ,i,g.same (b.trans a),s,λw j=>⟨x,d,o.same (a.trans j),e,k.later (b.trans (a.trans j))⟩⟩⟩⟩
def rDC(K:Fg)(g:Lp->Od):List V->Hp->VK->Prop:=λb H Q=>∃a c,c6 K H a b/\g a=Y c/\KD K H c Q
def Bl(X:Cx)(v:Value)(g:Lp->Od):Prop:=jU X v (rDC X.K g)
noncomputable def lj(g:Lp->Od)(a:bb->Option Lp):bb->Od:=λρ=>(a ρ).bind g
def tDC{g:Lp->Od}{Q:VK}(h:tD K (lj g ff) σ H Q):tCB (rDC K g) (tDA K ff) σ H Q:=by obtain⟨ρ,d,f,e,k⟩:=h;obtain⟨a,j,i⟩:=bind_some e;exact⟨ρ,a,f,j,λl m b c=>⟨a,d,c,i,k.later b⟩⟩
def yn{c:String}{g:Lp->Od} (l:Bl X (.builtin c) g) (j:Gl X x) (i:X.mg x=Z) (d:bootBuiltins x=Y (.builtin c)) (m:Bj X (e::es) ff) (f:x≠"__name__":=by decide) (b:zg x:=by decide)
  (k:zE e es X:=by rfl) (a:(backTo pos (starEach es X.env)).any (·.1)=false:=by rfl):PD X (.Call (.Name x p) (e::es) [] pos) (lj g ff) :=
 PE.imp (Ek l j i d m f b k a) λ_ _ _ h=>tDC h
def Kr{T:String}{g:Lp->Od} (k:Bl X (.type T) g) (i:Gl X x) (f:X.mg x=Z) (c:bootBuiltins x=Y (.type T)) (l:Bj X (e::es) ff) (d:x≠"__name__":=by decide) (b:zg x:=by decide)
  (j:zE e es X:=by rfl) (a:(backTo pos (starEach es X.env)).any (·.1)=false:=by rfl):PD X (.Call (.Name x p) (e::es) [] pos) (lj g ff) :=
 PE.imp (vy k i f c l d b j a) λ_ _ _ h=>tDC h
def jf(h:c6 K H [d] vs):∃v,vs=[v]/\dy K H d v:=by obtain⟨v,r,rfl,a,t⟩:=c6.da.mp h;rw[c6.fe.mp t];exact⟨v,rfl,a⟩
def MU{b:eW}(h:c6 K H [d,b] vs):∃v a,vs=[v,a]/\dy K H d v/\dy K H b a:=by obtain⟨v,r,rfl,e,t⟩:=c6.da.mp h;obtain⟨a,rfl,c⟩:=jf t;exact⟨v,a,rfl,e,c⟩
noncomputable def IQ:Lp->Od
 |[.list xs]=>Y (.list xs)
 |[.tuple xs]=>Y (.list xs)
 |_=>Z
noncomputable def MW:Lp->Od
 |[.list xs]=>Y (.int xs.length)
 |[.tuple xs]=>Y (.int xs.length)
 |[.str z]=>if z.length<=sizeLine then Y (.int z.length) else Z
 |_=>Z
def U6:Bl X (.builtin "len") MW:=by
 refine jU.imp (Cr.or Cs) ?_;rintro j H Q ⟨h,c,i,e,k⟩
 match h,e with
 |[.list ys],e=>cases e;obtain⟨v,rfl,a⟩:=jf i;obtain⟨p,b,rfl,g,f⟩:=dy.fG.mp a;exact .inl ⟨p,b,rfl,.inl g,k.here (by rw[f.length];exact dy.fw.mpr rfl)⟩
 |[.tuple ys],e=>cases e;obtain⟨v,rfl,a⟩:=jf i;obtain⟨p,b,rfl,g,f⟩:=a.gP;exact .inl ⟨p,b,rfl,.inr g,k.here (by rw[f.length];exact dy.fw.mpr rfl)⟩
 |[.str z],e=>
  dsimp only[MW] at e;by_cases d:z.length<=sizeLine
  ·rw[ah d] at e;cases e;obtain⟨v,rfl,a⟩:=jf i;exact .inr ⟨z,by rw[dy.fz.mp a],d,k.here (dy.fw.mpr rfl)⟩
  ·rw[ai d] at e;cases e
noncomputable def TB:eW->String
 |.none=>"NoneType"
 |.bool _=>"bool"
 |.int _=>"int"
 |.str _=>"str"
 |.list _=>"list"
 |.tuple _=>"tuple"
 |.dict _=>"dict"
def Ex:jU X (.builtin "isinstance") (λxs H Q=>∃d v T c,xs=[v,.ty T]/\(∀f,d≠.dict f)/\dy X.K H d v/\W.kitOne X.K (.type (TB d)) (.type T)=Y c/\Q (.bl c) H):=by
 intro j s σ H xs F Q I r h;obtain⟨d,v,T,c,rfl,w,g,e,q⟩:=h;obtain⟨u,C,rfl,b,l⟩:=Xo r;obtain rfl:C=Value.type T:=l;have a:∀k,EP X j σ Q (.bool c) { s with toks:=k }:=λk=>⟨.bl c,H,I.tok k,rfl,q⟩
 cases d with
 |none=>rw[dy.gU.mp g] at b;cases b;exact W.kia_one W.kitx_none I.ue aV e (λz=>nomatch z) a
 |bool y=>rw[dy.fC.mp g] at b;cases b;exact W.kia_one W.kitx_bool I.ue aV e (λz=>nomatch z) a
 |int i=>rw[dy.fw.mp g] at b;obtain⟨t,rfl⟩:=b;exact W.kia_one W.kitx_int I.ue aV e (λz=>nomatch z) a
 |str y=>rw[dy.fz.mp g] at b;obtain⟨t,rfl⟩:=b;exact W.kia_one W.kitx_str I.ue aV e (λz=>nomatch z) a
 |list xs=>obtain⟨p,D,rfl,B,E⟩:=dy.fG.mp g;cases b;obtain⟨m,_,⟨o,n,A,x,_⟩,_⟩:=I.list B;exact W.kia_one W.kitx_list I.ue ⟨o,A,x⟩ e (λz=>nomatch z) a
 |tuple xs=>obtain⟨p,D,rfl,B,E⟩:=g.gP;cases b;obtain⟨m,_,⟨o,A,x,_⟩,_⟩:=I.tuple B;exact W.kia_one W.kitx_tuple I.ue ⟨o,A,x⟩ e (λz=>nomatch z) a
 |dict f=>exact absurd rfl (w f)
def MX:eW->Bool
 |.dict _=>true
 |_=>false
noncomputable def MY(T:String)(f:bb->Od):bb->Od:=λρ=>(f ρ).bind λd=>if MX d then Z else Y (.bool (TB d==T||(TB d=="bool"&&T=="int")))
def U7{T:String}(a:T="tuple"\/T="list"\/T="bool"\/T="str"\/T="int")(d:eW):W.kitOne K (.type (TB d)) (.type T)=Y (TB d==T||(TB d=="bool"&&T=="int")):=by rcases a with rfl|rfl|rfl|rfl|rfl<;>cases d<;>rfl
def Ks{T:String}{a:Pos} (w:T="tuple"\/T="list"\/T="bool"\/T="str"\/T="int") (u:PD X e f) (t:Gl X "isinstance") (s:X.mg "isinstance"=Z) (l:Gl X x) (j:X.mg x=Z) (q:bootBuiltins x=Y (.type T))
  (r:x≠"__name__":=by decide) (m:zg x:=by decide)
  (b:starEach [e,.Name x a] X.env=(false,eval e X.env)::starEach [.Name x a] X.env:=by rfl) (h:starEach [.Name x a] X.env=(false,eval (.Name x a) X.env)::starEach [] X.env:=by rfl) (i:(backTo pos (starEach [.Name x a] X.env)).any (·.1)=false:=by rfl):
  PD X (.Call (.Name "isinstance" p) [e,.Name x a] [] pos) (MY T f):=by
 refine PE.imp (Ek Ex t s (by rfl) (lC u (lC (P4 l j q (v:=.ty T) rfl r m) qf h) b) (by decide) (by decide) b i) ?_;rintro σ H Q ⟨ρ,d,b,e,k⟩;obtain⟨x,y,c⟩:=bind_some e;by_cases g:MX x=true
 ·rw[ah g] at c;cases c
 ·rw[ai g] at c;cases c;exact⟨ρ,x,b,y,λv A n o=>⟨x,v,T,_,rfl,(λkvs z=>g (by rw[z];rfl)),o,U7 w x,(k.later n).here (dy.fC.mpr rfl)⟩⟩
end
section
variable {a c:Expr}{fb fc:bb->Od}{p2:Pos}{rest:List Stmt}{g h:bb->Option gC}{gc:bb->Option Bool}
def gX:bb->Option gC:=λρ=>Y (.nx ρ)
noncomputable def fq(g h:bb->Option gC):bb->Option gC:=λρ=>(g ρ).bind λo=>match o with
 |.nx ρ'=>h ρ'
 |o=>Y o
noncomputable def gA(f:bb->Od):bb->Option gC:=λρ=>(f ρ).map .rt
noncomputable def kK(c:bb->Option Bool)(g h:bb->Option gC):bb->Option gC:=λρ=>(c ρ).bind λx=>if x then g ρ else h ρ
abbrev BD:=eW->bb->Option bb
def tDG(K:Fg)(b:BD):TG:=λv σ H Q=>∃ρ d ρ',jD K H σ ρ/\dy K H d v/\b d ρ=Y ρ'/\∀σ' a,eZ H a->jD K a σ' ρ'->Q σ' a
def ZC(X:Cx)(a:Expr)(b:BD):Prop:=PG X a (tDG X.K b)
def PG.imp{t u:TG}(h:PG X tg t)(k:∀v σ H Q,u v σ H Q->t v σ H Q):PG X tg u:=λa s σ H v b Q I r q=>@h a s σ H v b Q I r (k _ _ _ _ q)
def PK.imp{b:Lx}{t u:P6}(h:PK X b t)(k:∀v σ H Q,u v σ H Q->t v σ H Q):PK X b u:=λa s σ H v c Q I r q=>@h a s σ H v c Q I r (k _ _ _ _ q)
def IS(i:Nat):BD:=λd ρ=>Y (ρ.set i (Y d))
def yo(i:Nat)(h:X.N.Nodup)(f:X.N[i]?=Y x:=by rfl)(b:Iv X.env.scope x:=by first|exact b5 rfl|exact bN rfl)(g:X.fn x=true\/X.env.scope.names.lookup x=Y .local:=by first|exact .inl rfl|exact .inr rfl|assumption):ZC X (.Name x pos) (IS i) :=
 PG.imp (ug h f b g) <| by rintro v σ H Q ⟨ρ,d,ρ',c,a,e,k⟩;cases e;exact k _ H (.refl H) (c.set a)
abbrev TC:=List eW->bb->Option bb
def aao(K:Fg)(d:TC):P6:=λc σ H Q=>∃ρ b ρ',jD K H σ ρ/\c6 K H b c/\d b ρ=Y ρ'/\∀σ' a,eZ H a->jD K a σ' ρ'->Q σ' a
def Qv(X:Cx)(a:Lx)(b:TC):Prop:=PK X a (aao X.K b)
def XQ:TC:=λa ρ=>match a with | []=>Y ρ|_=>Z
def MZ(b:BD)(c:TC):TC:=λa ρ=>match a with | []=>Z|d::r=>(b d ρ).bind λρ'=>c r ρ'
def M3:Qv X [] XQ:=PK.imp ID <| by
 rintro d σ H Q ⟨ρ,c,ρ',b,a,e,k⟩;cases c with
 |nil=>cases e;exact⟨c6.fe.mp a,k σ H (.refl H) b⟩
 |cons _ _=>cases e
def Bm{bd:BD}{g:TC}(o:ZC X e bd)(n:Qv X es g)(c:(assignEach (e::es) X.env).map (·.2)=assign e X.env::(assignEach es X.env).map (·.2):=by rfl):Qv X (e::es) (MZ bd g) :=
 PK.imp (x5 o n c) <| by
  rintro u σ H Q ⟨ρ,s,ρ',c,m,e,k⟩;cases s with
  |nil=>cases e
  |cons d r=>obtain⟨ρ1,q,p⟩:=bind_some e;obtain⟨v,h,rfl,l,j⟩:=c6.da.mp m;exact⟨v,h,rfl,ρ,d,ρ1,c,l,q,λσ1 w f b=>⟨ρ1,r,ρ',b,j.same f,p,λσ2 t i a=>k σ2 t (f.trans i) a⟩⟩
def Qw(n:Nat)(a:TC):BD:=λd ρ=>match d with | .tuple ds=>if ds.length=n then a ds ρ else Z|_=>Z
def Qx{k:Nat}{g:TC}(o:X.calm=true)(h:Qv X es g)(m:(assignEach es X.env).length=n:=by rfl)(a:(assignEach es X.env).findIdx? (·.1)=Z:=by rfl):ZC X (.Tuple es k pos) (Qw n g) :=
 PG.imp (Mj o h m a) <| by
  rintro v σ H Q ⟨ρ,d,ρ',l,j,e,k⟩;cases d<;>try (simp[Qw] at e;done)
  rename_i f;dsimp only[Qw] at e;by_cases b:f.length=n
  ·rw[ah b] at e;obtain⟨p,i,rfl,q,c⟩:=j.gP;exact⟨p,i,rfl,q,by rw[<-c.length];exact b,ρ,f,ρ',l,c,e,k⟩
  ·rw[ai b] at e;cases e
def G4(K:Fg)(J:It)(c:Lp)(H:Hp):Prop :=
 ∀a,eZ H a->(J.stop c.length a)/\∀(i:Nat) (d:eW),c[i]?=Y d->J.go i a/\∀x b,J.P8 i a x b->eZ a b/\dy K b d x
def tDI(K:Fg)(q:bb->Option Lp):TI:=λσ H R=>∃ρ b,jD K H σ ρ/\q ρ=Y b/\∀J a,eZ H a->G4 K J b a->R J a
def M4(X:Cx)(b a:Expr)(q:bb->Option Lp):Prop:=PI X b a (tDI X.K q)
def PI.imp{a:Expr}{t u:TI}(h:PI X tg a t)(k:∀σ H R,u σ H R->t σ H R):PI X tg a u:=λb s σ H R I q=>@h b s σ H R I (k _ _ _ q)
def PI.or{a:Expr}{t u:TI}(h:PI X tg a t)(c:PI X tg a u):PI X tg a (λσ H R=>t σ H R\/u σ H R):=λb s σ H R I q=>q.elim (@h b s σ H R I) (@c b s σ H R I)
noncomputable def og(f:bb->Od):bb->Option Lp:=λρ=>(f ρ).bind λd=>match d with | .list ds=>Y ds | .tuple ds=>Y ds|_=>Z
def nO(h:PD X e f):M4 X tg e (og f) :=
 PI.imp (PI.or (Cf h) (Mo h)) <| by
  rintro σ H R ⟨ρ,A,t,e,k⟩;obtain⟨d,u,a⟩:=bind_some e;cases d<;>try (simp at a;done)
  ·cases a;refine .inl ⟨ρ,_,t,u,λv s l o=>?_⟩;obtain⟨p,b,rfl,a,j⟩:=dy.fG.mp o;refine⟨p,rfl,⟨b,a⟩,k _ s l λz c=>⟨⟨b,c.seq a,by rw[j.length];exact aA _⟩,λi d q=>?_⟩⟩;obtain⟨x,g,r⟩:=j.get q;refine⟨⟨b,x,c.seq a,g⟩,?_⟩;rintro y w ⟨n,m⟩;subst n;have:=m b (c.seq a);rw[g] at this;cases this;exact⟨.refl _,r.same c⟩
  ·cases a;refine .inr ⟨ρ,_,t,u,λv s l o=>?_⟩;obtain⟨p,b,rfl,a,j⟩:=o.gP;refine⟨p,rfl,⟨b,a⟩,k _ s l λz c=>⟨⟨b,c.sC a,by rw[j.length];exact aA _⟩,λi d q=>?_⟩⟩;obtain⟨x,g,r⟩:=j.get q;refine⟨⟨b,x,c.sC a,g⟩,?_⟩;rintro y w ⟨n,m⟩;subst n;have:=m b (c.sC a);rw[g] at this;cases this;exact⟨.refl _,r.same c⟩
noncomputable def oh(a:Int)(n:Nat):Lp:=(List.range n).map λk=>.int (a+(k:Nat))
def Ey(a:Int)(n:Nat)(H:Hp):G4 K (Xd a n) (oh a n) H:=λh f=>by
 refine⟨by show n<=(oh a n).length;simp[oh],λi d q=>?_⟩;have b:i<n:=by have:=(ay.mp q).1;simpa [oh] using this
 refine⟨b,?_⟩;rintro x g ⟨e,c⟩;subst e c;have:d=.int (a+(i:Nat)):=by unfold oh at q;rw[az,dR b] at q;cases q;rfl
 subst this;exact⟨.refl _,dy.fw.mpr rfl⟩
noncomputable def ko(f:bb->Od):bb->Option Lp:=λρ=>(f ρ).bind λd=>match d with | .int j=>if -(2 ^ 62)<=j/\j<2 ^ 62 then Y (oh 0 j.toNat) else Z|_=>Z
def yp(n:Gl X "range")(m:X.mg "range"=Z)(h:PD X e f)(b:starEach [e] X.env=[(false,eval e X.env)]:=by rfl):M4 X tg (.Call (.Name "range" p) [e] [] pos) (ko f) :=
 PI.imp (A9 n m (lC h qf (by rw[b];rfl)) b) <| by
  rintro σ H R ⟨ρ,q,b,e,k⟩;obtain⟨d,o,a⟩:=bind_some e;cases d<;>try (simp at a;done)
  rename_i j;dsimp only at a;by_cases c:-(2 ^ 62)<=j/\j<2 ^ 62
  ·rw[ah c] at a;cases a;exact⟨ρ,_,b,o,λv g i l=>⟨j,by rw[dy.fw.mp l],c.1,c.2,k _ g i (Ey 0 _ g)⟩⟩
  ·rw[ai c] at a;cases a
noncomputable def nP(a:BD)(g:bb->Option gC):Lp->bb->Option gC
 |[],ρ=>Y (.nx ρ)
 |d::ds,ρ=>((a d ρ).bind g).bind λo=>match o with
  |.nx ρ'=>nP a g ds ρ'
  |.ct ρ'=>nP a g ds ρ'
  |.bk ρ'=>Y (.nx ρ')
  |.rt d=>Y (.rt d)
end
def TF(K:Fg)(n:Nat)(f:Lp->Od):Sp:=λb H Q _=>∃a d,c6 K H a b/\a.length=n/\f a=Y d/\KD K H d Q
section
variable {k:Nat}{fa:Addr}{ps:Lr}{f:Lp->Od}
noncomputable def jR(n:Nat)(f:Lp->Od)(a:bb->Option Lp):bb->Od:=λρ=>(a ρ).bind λds=>if ds.length=n then f ds else Z
def Qy(F:k7 X.prog X.w X.K X.mg X.base vo k fa fd ps (TF X.K n f)) (m:iO k X.A) (r:Gl X x) (o:X.mg x=Y (.ref fa)) (q:W.keepIn X.K (.ref fa)=true) (t:kQ X.K fd ps [])
  (u:Bj X (e::es) ff) (g:zg x:=by decide) (s:zE e es X:=by rfl) (b:(backTo pos (starEach es X.env)).any (·.1)=false:=by rfl):
  PD X (.Call (.Name x p) (e::es) [] pos) (jR n f ff) :=
 PE.imp (xH F m r o q t .nil oa u g s b) <| by
  rintro σ H Q ⟨ρ,d,l,e,k⟩;obtain⟨h,v,a⟩:=bind_some e;by_cases c:h.length=n
  ·rw[ah c] at a;exact⟨ρ,h,l,v,λy z i j=>⟨h,d,by rw[aL];exact j,c,a,k.later i⟩⟩
  ·rw[ai c] at a;cases a
def hQ(N:Lr)(ds:Lp):bb:=ds.map Y++List.replicate (N.length - ds.length) Z
def qh{N:Lr}(h:c6 K H ds vs):jD K H (lD N vs) (hQ N ds):=by
 have b:=h.length;refine⟨by simp[lD,hQ,b],λi d q=>?_⟩;unfold hQ at q;by_cases a:i<ds.length
 ·rw[aS (by simpa using a),az] at q;obtain⟨j,g,f⟩:=aa.mp q;cases f;obtain⟨v,e,c⟩:=h.get g;refine⟨v,?_,c⟩;unfold lD;rw[aS (by simpa using (by omega:i<vs.length)),az,e];rfl
 ·rw[aD (by simpa using a),bG] at q;split at q<;>cases q
noncomputable def jS(N:Lr)(g:bb->Option gC):Lp->Od:=λa=>(g (hQ N a)).bind λo=>match o with
 |.rt d=>Y d
 |.nx _=>Y .none
 |_=>Z
end
end L2
namespace Zw
open PySem PySem.W PySem.Calls PyProof.Rows
def CA{l:OpenLaw}{q:Program}{b:Lr}{B:(Str->Ow)->Heap->Prop}{A:World->Heap->Prop}{d:DefRec}
  (I:l.most=Y n) (s:d.params.defaults=[])
  (k:∀(w:World) (s₀ s₁:Shared) (mg mb:Str->Ow) (fa:Addr) (o:Obj) (pm cd doc:Value) (a:Addr) (vs:Lw) (ns:List Int),
   Ground q b [] B w s₀ mg mb s₁.heap->A w s₁.heap ->
   s₁.heap.get? fa=Y o->o.data=.func (docDef d.name d.params d.body d.scope pm cd doc)->s₁.heap.CodeRec cd d.name->mg d.name=Y (.ref fa) ->
   s₁.heap.get? a=Y { cls:=.type "list",data:=.seq vs.toArray }->IntsAre vs ns->ns.length<=n->(∀x∈ns,L2.ni x=true)->s₁.gens=#[] ->
   codeAny (model l.prog w) callerA (.call (.ref fa) ⟨[.ref a],[]⟩) (λr s'=>r=.ok (.ret (.bool true))/\OldK s₁.heap s'.heap/\s'.os=s₁.os/\AllBare s'.gens) s₁):
  WalkO q b B A l.row.toRowW d [] (λf vs=>PySem.call f vs):=by
 intro w s₀ s₁ mg mb G Y fa o pm cd doc P C H M t y hmg L z v Q g j E p K;obtain rfl:P=.none:=Dflts.none y s;obtain rfl:C=.none:=Dflts.noKw y;obtain⟨a,vs,ns,rfl,rfl,h,c,i⟩:=Km I g p;have e:∀x∈ns,L2.ni x=true:=λx D=>by
  have O:=layableW_arg j (WData.list (ns.map WData.int)) (by simp);have m:=layable_int (layableW_item O (.int x) (aK.mpr ⟨x,D,rfl⟩));have u:(eW.int x).layable=decide (Builtin.Int.intBits x<=1048576):=by simp[eW.layable,eW.canLay,eW.depth,eW.weight,Builtin.Int.intBits]
  rw[u] at m;exact m
 refine enter_call (df (k w s₀ s₁ mg mb fa o pm cd doc a vs ns G Y H (fd_plain M) t hmg h c i e L) λr s' F=>?_);obtain⟨rfl,m,u,N⟩:=F;exact⟨.inl ⟨.bool true,.bool true,[],rfl,λ_=>rfl,.bool true,Kn l _,λ_=>⟨List.Pairwise.nil,λ_ J=>(nomatch J)⟩⟩,m,u,N⟩
end Zw
namespace L2
open PySem PySem.Spec PyProof.Rows
theorem Bn{K:Fg}{H:Hp}:∀a:List Int,c6 K H (a.map eW.int) (a.map V.int)
 |[]=>c6.nil
 |n::a=>c6.cons (dy.fw.mpr rfl) (Bn a)
structure wq (P:Program) (w:World) (K:Fg) (mg:Str->Ow) (base:Heap) (x:Str) (k n:Nat) (f:Lp->Od):Prop where
 ex:∃a fd ps,k7 P w K mg base vo k a fd ps (TF K n f)/\mg x=Y (.ref a)/\W.keepIn K (.ref a)=true/\kQ K fd ps []
section
variable {f:Lp->Od}{j k:Nat}
theorem gi(O:wq X.prog X.w X.K X.mg X.base x j n f) (h:iO k X.A) (l:Gl X x) (q:Bj X (e::es) ff) (i:j<=k:=by decide) (d:zg x:=by decide)
  (o:zE e es X:=by rfl) (c:(backTo pos (starEach es X.env)).any (·.1)=false:=by rfl):PD X (.Call (.Name x p) (e::es) [] pos) (jR n f ff):=by
 obtain⟨a,s,r,F,m,g,b⟩:=O.ex;exact Qy (F.mono i) h l m g b q d o c
end
def Kt{l:W.OpenLaw}{k:Nat}{q:Program}{j:Lr}{R:(Str->Ow)->Heap->Prop}{C:World->Heap->Prop}{d:DefRec}{K:Params->Fg}{f:Lp->Od}
  (E:l.most=Y n) (t:n<=sizeLine) (y:d.params.defaults=[]) (D:iO k callerA)
  (N:∀(w:World) (h:Heap),C w h->(K w.params).In h)
  (F:∀(w:World) (mg:Str->Ow) (fa:Addr) (h:Heap),(K w.params).In h->h.Ns mainGlobals mg->mg d.name=Y (.ref fa) ->
   ∃fd:FuncData,(∀(s:Shared) (u:Value),BindsTo s fd ⟨[u],[]⟩ [(x,u)]) /\
    ∀base:Heap,(K w.params).In base->base.Ns mainGlobals mg->k7 l.prog w (K w.params) mg base vo k fa fd [x] (TF (K w.params) 1 f))
  (J:∀ns:List Int,ns.length<=n->(∀x∈ns,ni x=true)->f [.list (ns.map .int)]=Y (.bool true)):
  W.WalkO q j R C l.row.toRowW d [] (λf vs=>PySem.call f vs):=by
 refine Zw.CA E y λw B A mg V fa o U cd Q a vs ns G Y X hd L hmg r m c p I=>?_;have KX:=N w _ Y;obtain⟨fd,M,P⟩:=F w mg fa _ KX G.T.g hmg;refine MD KX G.T.g G.T.b G.T.builtins G.T.nolimit I r m (bK c t) D P M (λH hO O=>?_) λH e S z=>z;exact⟨[.list (ns.map .int)],.bool true,c6.cons (dy.fG.mpr ⟨a,_,rfl,O,Bn ns⟩) c6.nil,rfl,J ns c p,λv H' _ i=>dy.fC.mp i⟩
end L2
namespace L2
open PySem
theorem toNat_inj{a b:Char}(h:a.toNat=b.toNat):a=b:=Char.toNat_inj.mp h
theorem sX:∀{a b:List Char},a.map Char.toNat=b.map Char.toNat->a=b
 |[],[],_=>rfl
 |[],_::_,h=>by simp at h
 |_::_,[],h=>by simp at h
 |a::as,b::bs,h=>by
  rw[af,af] at h;injection h with d c
  rw[toNat_inj d,sX c]
def CB{a b:String}(h:zZ a=zZ b):a=b:=by
 rw[dm,dm] at h;injection h with h
 have c:=bL Array.toList h;simp only[List.toList_toArray] at c;exact String.toList_inj.mp (sX c)
def lH(a b:String):(zZ a==zZ b)=(a==b):=by
 by_cases h:a=b
 ·subst h;simp
 ·have c:¬ zZ a=zZ b:=λz=>h (CB z);rw[aU.mpr c,aU.mpr h]
def fO(a:String):eW.strOk (zZ a)=true:=by
 rw[dm];unfold eW.strOk;simp only[Array.all_eq_true',List.mem_toArray,aK];rintro x ⟨c,_,rfl⟩;have:=c.valid;simp only[cM];have b:c.toNat<1114112:=by
  rcases c.valid with h|h
  ·have:c.toNat<55296:=h;omega
  ·exact h.2
 exact b
end L2
namespace L2
open PySem PySem.Spec PyProof.Rows
def yq(c:Env)(b:Scope):List (Str×Addr):=(b.names.filterMap λp=>if p.2==NameKind.free then (c.cells.lookup p.1).map λa=>(p.1,a) else Z).reverse
theorem uo(d:Env):∀(b:List (Str×NameKind)) (acc:List (Str×Addr)),(∀p∈b,p.2=.free->∃c,d.cells.lookup p.1=Y c) ->
  (forIn b acc λp cs=>(if (p.2==NameKind.free)=true then do let c <-cellOf d p.1;pure (ForInStep.yield ((p.1,c)::cs)) else pure (ForInStep.yield cs):Sem (ForInStep (List (Str×Addr))))) =
   pure ((b.filterMap λp=>if p.2==NameKind.free then (d.cells.lookup p.1).map λa=>(p.1,a) else Z).reverse++acc)
 |[],acc,_=>rfl
 |p::r,acc,h=>by
  have g:=λacc=>uo d r acc λq j=>h q (aj _ j);rw[dP];by_cases f:p.2=.free
  ·obtain⟨c,i⟩:=h p ba f;have e:(p.2==NameKind.free)=true:=by rw[f];rfl
   rw[ah e];have k:cellOf d p.1=pure c:=by unfold cellOf;rw[i]
   rw[k];simp only[pure_bind];rw[g,cv,ah e,i];simp
  ·have e:(p.2==NameKind.free)=false:=by simpa using f
   rw[ai (by rw[e];exact aF)];simp only[pure_bind];rw[g,cv,ai (by rw[e];exact aF)]
def ph{a:Env}(h:∀p∈scope.names,p.2=.free->∃c,a.cells.lookup p.1=Y c):closureFor scope a=pure (yq a scope):=by
  have e:=uo a scope.names [] h;unfold closureFor yq;rw[aL] at e;have f:(forIn scope.names ([]:List (Str×Addr)) λx d=>(match x with|(name,b)=>do if (b==NameKind.free)=true then do let c <-cellOf a name;pure (ForInStep.yield ((name,c)::d)) else pure (ForInStep.yield d):Sem (ForInStep (List (Str×Addr)))))=_:=e
  first
    | (simp only[bind_pure] ;exact f)
    | (show (forIn scope.names ([]:List (Str×Addr)) _>>=λd=>pure d)=_
       rw[bind_pure];exact f)
def M5{b:Env}{c:Addr}(h:(x,c)∈yq b scope):b.cells.lookup x=Y c/\(x,NameKind.free)∈scope.names:=by
 unfold yq at h;rw[dJ,cf] at h;obtain⟨⟨n,k⟩,f,e⟩:=h;by_cases d:(k==NameKind.free)=true
 ·rw[ah d] at e;obtain⟨a,i,g⟩:=aa.mp e;cases g;have:k=.free:=eq_of_beq d;subst this;exact⟨i,f⟩
 ·rw[ai d] at e;cases e
def kc{a:Env}{c:Addr}(h:(yq a scope).lookup x=Y c):a.cells.lookup x=Y c:=(M5 (bM h)).1
theorem sY{α:Type}{x:Str}{c:α}:∀{l:List (Str×α)},(x,c)∈l->∃d,l.lookup x=Y d
 |[],h=>by cases h
 | (n,a)::r,h=>by
  by_cases e:x=n
  ·subst e;exact⟨a,by simp⟩
  ·rcases av.mp h with h|h
   ·cases h;exact absurd rfl e
   ·obtain⟨d,b⟩:=sY h;exact⟨d,by rw[aY,aU.mpr e];exact b⟩
def Ez{a:Env}{c:Addr}(g:(x,NameKind.free)∈scope.names)(f:a.cells.lookup x=Y c):(yq a scope).lookup x=Y c:=by
 have:(x,c)∈yq a scope:=by unfold yq;rw[dJ,cf];exact⟨(x,.free),g,by rw[ah (by rfl),f];rfl⟩
 obtain⟨d,b⟩:=sY this;have e:=kc b;rw[f] at e;cases e;exact b
def wt{b:Env}{k:NameKind}(h:(relabel scope b).names.lookup x=Y k):(x,k)∈scope.names\/(k=.cell/\(x,NameKind.free)∈scope.names):=by
 have c:=bM h;unfold relabel at c;obtain⟨⟨n,f⟩,e,a⟩:=aK.mp c;dsimp only at a;split at a
 ·rename_i d;cases a;simp only[b9,cu] at d;obtain⟨⟨rfl,_⟩,_⟩:=d;exact .inr ⟨rfl,e⟩
 ·cases a;exact .inl e
theorem uu{b:Env}:∀{a:List (Str×NameKind)}{x:Str},a.lookup x=Y .free ->
  (a.map λ(n,k)=>if (k==NameKind.free&&b.scope.kind==.function&&b.kindOf n==Y .cell) then (n,NameKind.cell) else (n,k)).lookup x=Y .cell \/
  (a.map λ(n,k)=>if (k==NameKind.free&&b.scope.kind==.function&&b.kindOf n==Y .cell) then (n,NameKind.cell) else (n,k)).lookup x=Y .free
 |[],_,h=>by simp at h
 | (n,k)::r,x,h=>by
  have d:=@uu b r x;rw[af];dsimp only;cases c:x==n with
  |true=>
   simp only[aY,c] at h;cases h;split
   ·exact .inl (by simp[aY,c])
   ·exact .inr (by simp[aY,c])
  |false=>
   simp only[aY,c] at h;split
   ·simp only[aY,c];exact d h
   ·simp only[aY,c];exact d h
noncomputable def mM(X:Cx)(a:Scope)(C:Addr)(N:Lr)(s:Shared)(H:Hp)(b:List Addr):Cx where
 prog:=X.prog
 w:=X.w
 K:=X.K
 mg:=X.mg
 base:=X.base
 A:=X.A
 N:=N
 s₀:=s
 H₀:=H
 env:=compEnvC a (yq X.env a) C X.env
 outer:=X.stack
 stack:=X.stack
 ex:=b
 fn:=λ_=>false
 calm:=true
 pn:=[]
 xe:=λ_ _=>False
def lI(X:Cx)(a:Scope):List (Nat×Str)->Prop
 |[]=>True
 | (j,y)::r=>(X.N[j]?=Y y/\(X.env.kindOf y=Y .cell\/X.env.kindOf y=Y .free)/\a.names.lookup y=Y .free)/\lI X a r
theorem lI.at{X:Cx}{a:Scope}:∀{b:List (Nat×Str)},lI X a b->∀{i:Nat}{j:Nat}{y:Str},b[i]?=Y (j,y)->X.N[j]?=Y y/\(X.env.kindOf y=Y .cell\/X.env.kindOf y=Y .free)/\a.names.lookup y=Y .free
 |[],_,_,_,_,h=>by simp at h
 | (_,_)::_,hc,0,_,_,h=>by simp at h;obtain⟨rfl,rfl⟩:=h;exact hc.1
 | (_,_)::_,hc,i+1,_,_,h=>lI.at hc.2 (i:=i) (by simpa using h)
noncomputable def Ap(a:List (Nat×Str))(σ:St):St:=a.map λp=>(σ[p.1]?).join
noncomputable def pj(a:List (Nat×Str))(ρ:bb):bb:=a.map λp=>(ρ[p.1]?).join
structure kq (scope:Scope) (x:Str):Prop where
 kind:scope.kind=.function
 M6:∀y∈scope.names,y.2≠.cell
 loc:∀y∈scope.names,y.2=.local->scope.names.lookup y.1=Y .local
 var:scope.names.lookup x=Y .local
 has:True:=aV
section
def U8(d:Lr) {G:List Addr}{C:Addr}{s':Shared} (I:fu X pins σ H s) (D:X.calm=true) (S:kq scope x) (P:∀p∈scope.names,p.2=.free->∃c,X.env.cells.lookup p.1=Y c) (B:lI X scope iP)
  (N:∀b∈G,qM X pins H b) (M:∀b∈G,∃o,s.heap.get? b=Y o) (R:(zB s)<=C) (k:∀b o,s.heap.get? b=Y o->s'.heap.get? b=Y o) (L:s'.heap.Ns C λ_=>Z) (K:s'.os=s.os) (hg:AllBare s'.gens):
  fu (mM X scope C (d++iP.map (·.2)) s H G) [] (d.map (λ_=>Z)++Ap iP σ) H s':=by
 have t:∀b,b∈(mM X scope C (d++iP.map (·.2)) s H G).fs->b∈X.env.locals::X.fs:=λb f=>I.Cd b f;refine⟨⟨I.ok.mod,S.kind,I.ok.glob,I.ok.blt,R,λy z c e1 a=>I.ok.inj y z c (kc e1) (kc a),λy hy=>?_,λy c h=>(by cases h),λ_=>I.ok.hd D,I.ok.frames,.inl rfl,λb f=>?_,I.bs,bK I.ok.Tr I.sz,λb o e f=>?_,λb f Q=>?_,I.stack,I.Iw⟩,
  K,hg,Un.kept k,⟨_,L,λi y v e1 a e3=>?_⟩,λy c e=>?_,I.iS.fresh R,λy c e=>I.nA y c (kc e),λp hp=>?_,I.iS.kept k,?_⟩
 ·have J:(relabel scope X.env).names.lookup y=Y .cell\/(relabel scope X.env).names.lookup y=Y .free:=hy;have hm:(y,NameKind.free)∈scope.names:=by
   rcases J with h|h
   ·rcases wt h with h | ⟨_,h⟩
    ·exact absurd rfl (S.M6 _ h)
    ·exact h
   ·rcases wt h with h | ⟨h,_⟩
    ·exact h
    ·cases h
  obtain⟨c,D⟩:=P _ hm rfl;exact⟨c,Ez hm D⟩
 ·obtain⟨f0,W,V,U,T,f5⟩:=N b f;obtain⟨o,w⟩:=M b f;refine⟨?_,λy c e=>T y c (kc e)⟩;show b≠C;exact aN (aE (aw w) R)
 ·obtain⟨f0,W,V,U,T,f5⟩:=N b f;have hb1:=I.bs b o e;rcases U with h|h
  ·exact I.ok.L7 b o e h
  ·have:=(I.ok.bs b o e).1;exact absurd (aE (aw this) h) (aZ _)
 ·obtain⟨f0,W,V,U,T,f5⟩:=N b f;rcases av.mp (t b Q) with h|h
  ·exact W h
  ·exact V h
 ·by_cases A:i<d.length
  ·rw[aS (by simpa using A),az] at a;cases h:d[i]? with
   |none=>rw[h] at a;cases a
   |some z=>rw[h] at a;cases a
  have A:=dH A;have F:(iP.map (·.2))[i - d.length]?=Y y:=by rw[<-aD A];exact e1
  have n:(Ap iP σ)[i - d.length]?=Y (Y v):=by rw[aD (by simpa using A)] at a;simpa using a
  rw[az] at F;obtain⟨⟨j,y'⟩,e4,e5⟩:=aa.mp F;dsimp only at e5;subst e5;unfold Ap at n;rw[az,e4] at n;have E:(σ[j]?).join=Y v:=by simpa using n
  have e7:σ[j]?=Y (Y v):=by
   cases q:σ[j]? with
   |none=>rw[q] at E;cases E
   |some o=>rw[q] at E;cases o with
    |none=>cases E
    |some v'=>cases E;rfl
  obtain⟨c1,c2,c3⟩:=B.at e4;obtain⟨m,hn,hl⟩:=I.loc;have hv:LZ X.env.scope y':=by
   rcases c2 with h|h
   ·exact .inr (.inl h)
   ·exact .inr (.inr h)
  obtain⟨u,r,l⟩:=hl j y' v c1 e7 hv;refine⟨u,r,.inr ⟨?_,?_⟩⟩
  ·exact uu c3
  ·rcases l with ⟨hk,_⟩ | ⟨_,c,D,g⟩
   ·rcases c2 with h|h
    ·rw[hk] at h;cases h
    ·rw[hk] at h;cases h
   ·refine⟨c,Ez (bM c3) D,?_⟩;obtain⟨o,w,O⟩:=g;exact⟨o,k _ _ w,O⟩
 ·obtain⟨v,o,w,O⟩:=I.cell y c (kc e);exact⟨v,o,k _ _ w,O⟩
 ·exact absurd (show p∈([]:Ax) from hp) (by simp)
 ·show (d.map (λ_=>Z)++Ap iP σ).length=(d++iP.map (·.2)).length;simp[Ap]
def PTs(X:Cx)(b:Lx)(t:TT):Prop :=
 ∀⦃a:Ax⦄ (s:Shared) (σ:St) (H:Hp) (Q:Bool->Hp->Prop),fu X a σ H s->t σ H Q ->
  (zw X) (forIn b true λc r=>if r=true then do let d <-isTrue c X.env (eval c X.env);pure (ForInStep.yield d) else pure (ForInStep.yield r)) (TP X a σ Q) X.xe s
def yr(X:Cx)(a:Lx)(g:bb->Option Bool):Prop:=PTs X a (tDT X.K g)
def lJ:yr X [] (λ_=>Y true):=by rintro a s σ H Q I ⟨ρ,b,c,e,k⟩;cases e;rw[d7];exact ar ⟨H,I,k H (.refl H)⟩
def EA{c:Expr}(h:Bi X c g):yr X [c] g:=λa s σ H Q I q=>by rw[dP];rw[ah rfl];refine ae (ae (hZ (@h a s σ H Q I q) λb d e=>ar ?_));show wpAny _ _ (forIn ([]:Lx) b _) _ _ d;rw[d7];exact ar e
noncomputable def kH(g:bb->Option Bool)(f:bb->Od)(ρc:bb):Lp->Option Lp
 |[]=>Y []
 |d::ds=>(g (Y d::ρc)).bind λb=>if b then (f (Y d::ρc)).bind λy=>(kH g f ρc ds).bind λa=>Y (y::a) else kH g f ρc ds
def jg(q:bb->Option Lp)(a:List (Nat×Str))(g:bb->Option Bool)(f:bb->Od):bb->Od:=λρ=>
 (q ρ).bind λds=>if ds.length<=sizeLine then (kH g f (pj a ρ) ds).map .list else Z
def jD.cap(h:jD K H σ ρ)(e:Lr)(a:List (Nat×Str)):jD K H (e.map (λ_=>Z)++Ap a σ) (e.map (λ_=>Z)++pj a ρ):=by
 refine⟨by simp[Ap,pj],λi d q=>?_⟩;by_cases c:i<e.length
 ·rw[aS (by simpa using c),az] at q;cases h:e[i]? with
  |none=>rw[h] at q;cases q
  |some z=>rw[h] at q;cases q
 have c:=dH c;rw[aD (by simpa using c),aC] at q ⊢;unfold pj at q;rw[az] at q;obtain⟨⟨j,y⟩,l,b⟩:=aa.mp q;dsimp only at b;have k:ρ[j]?=Y (Y d):=by
  cases q:ρ[j]? with
  |none=>rw[q] at b;cases b
  |some o=>rw[q] at b;cases o with
   |none=>cases b
   |some m=>cases b;rfl
 obtain⟨v,g,f⟩:=h.2 j d k;refine⟨v,?_,f⟩;unfold Ap;rw[az,l];simp[g]
def jD.less{p c:bb}{b:Lr}(h:jD K H σ (p++c))(e:p.length=b.length):jD K H σ (b.map (λ_=>Z)++c):=by
 refine⟨by rw[h.1];simp[e],λi d q=>?_⟩;by_cases a:i<b.length
 ·rw[aS (by simpa using a),az] at q;cases h:b[i]? with
  |none=>rw[h] at q;cases q
  |some z=>rw[h] at q;cases q
 have a:=dH a;rw[aD (by simpa using a),aC] at q;exact h.2 i d (by rw[aD (by omega),e];exact q)
def CC{b:Program}{w:World}{j a f:Expr}{i:Lx}{it k:Value}{d:Env} (I:Nat->Shared->Prop)
  (l:∀n s,I n s->wpAny (model b w) A (pyNext it) (λr s₁=>match r with
   |none=>R (.ok .next) s₁
   |some v=>wpAny (model b w) A (letOwnedTupleGo a it v) (λ_ s₁=>wpAny (model b w) A (assign a d v) (λ_ s₂=>
     wpAny (model b w) A (forIn i true λc r=>if r=true then do let ok <-isTrue c d (eval c d);pure (ForInStep.yield ok) else pure (ForInStep.yield r)) (λok s₃=>
      if ok=true then wpAny (model b w) A (eval j d) (λx s₄=>
       wpAny (model b w) A (call (.builtin "list.append") [k,x]) (λ_ s₅=>∃m,m<n/\I m s₅) (λ_ _=>False) s₄) (λ_ _=>False) s₃
      else ∃m,m<n/\I m s₃) (λ_ _=>False) s₂) (λ_ _=>False) s₁) (λ_ _=>False) s₁) (λ_ _=>False) s)
  (n:Nat) (h:I n s):
  codeAny (model b w) A (.compLoop (.ListComp j [⟨a,f,i,0⟩] scope pos) 0 it k d) R s:=by
 refine codeAny_loop rfl I (λn s t=>?_) n h;show wpAny _ A ((compTurn (.ListComp j [⟨a,f,i,0⟩] scope pos) 0 it k d).onRaise (λx=>do noteFrame x d;theTreesLotGoes x)) _ _ s;refine wpAny_noted ?_;rw[compTurn_list];refine ae (wpAny_standAt (ae (bU (l n s t) (λr s₁ e=>?_) λ_ _ z=>False.elim z)));cases r with
 |none=>exact ar e
 |some v=>
  refine ae (bU e (λ_ s₁ e=>?_) λ_ _ z=>False.elim z);refine ae (bU e (λ_ s₂ q=>ae (bU q (λok s₃ g=>?_) λ_ _ z=>False.elim z)) λ_ _ z=>False.elim z);cases ok with
  |false=>exact ar ⟨rfl,g⟩
  |true=>exact ae (ae (bU g (λx s₄ p=>ae (bU p (λ_ s₅ o=>ar (ar ⟨rfl,o⟩)) λ_ _ z=>False.elim z)) λ_ _ z=>False.elim z))
def q0(a:Lw)(n:Nat):Obj:=(zl a.toArray n)
def Ku(X:Cx)(e:Expr)(a:Scope)(i:Expr)(t:TE):Prop :=
 ∀(b:Ax) (s:Shared) (σ:St) (H:Hp) (Q:VK) (R:Value->Addr->Result->Shared->Prop),fu X b σ H s->t σ H Q ->
  (∀(D C:Addr) (j:Shared) (k:Hp) (n:Obj) (m:Str->Ow),fu X ((C,n)::b) σ k j->j.heap.Ns C m->(∀p∈X.pn++b,p.1≠C)->(zB X.s₀)<=C->Q (.ref D) k->R (.ref D) C (.ok .next) j) ->
  (zw X) (eval i X.env) (λl h=>(zw X) (pyIter l) (λit g=>(zw X) (newList []) (λacc f=>
   (zw X) (newFunctionEnv a X.env.globals (yq X.env a) [] X.env.qual Z .none (Y X.env)) (λc d=>
    codeAny (model X.prog X.w) X.A (.compStart e 0 it acc { c with scope:=relabel a X.env }) (R acc c.locals) d) X.xe f) X.xe g) X.xe h) X.xe s
def fu.yt{C:Addr}{d:Obj}{g:Heap}(I:fu X ((C,d)::pins) σ H s)(k:∀p∈X.pn++pins,p.1≠C)(h:(zB X.s₀)<=C)(i:Heap.SameBut C s.heap g):fu X pins σ H { s with heap:=g }:=by have a:=I.pin (C,d) (by simp);have J:fu X pins σ H s:=I.qd λp j=>I.pin p (aq _ (aj _ j));refine J.turned (t':=s.toks) (it:=C) (λb o hb e=>(i.2 b hb).trans e) a.2.1 a.2.2.1 (.inr h) (λy c e z=>?_) k;obtain⟨v,o,f,l⟩:=J.cell y c e;rw[z,a.1] at f;cases f;exact a.2.2.2.2 v l
def n4{r:bb->Lp->Option Lp}(ρ:bb)(d:eW)(h:((q ρ).bind λds=>if ds.length<=sizeLine then (r ρ ds).map eW.list else Z)=Y d):∃ds a,q ρ=Y ds/\ds.length<=sizeLine/\r ρ ds=Y a/\d=.list a:=by
 obtain⟨ds,g,b⟩:=bind_some h;by_cases c:ds.length<=sizeLine
 ·rw[ah c] at b;obtain⟨a,f,e⟩:=aa.mp b;exact⟨ds,a,g,c,f,e.symm⟩
 ·rw[ai c] at b;cases b
def IT{b:Bool}{o:Od}{r:Option Lp}{a:Lp}(h:(if b then o.bind λy=>r.bind λa=>Y (y::a) else r)=Y a):if b=true then ∃y c,o=Y y/\r=Y c/\a=y::c else r=Y a:=by
 cases b with
 |false=>exact h
 |true=>obtain⟨y,g,f⟩:=bind_some h;obtain⟨c,e,d⟩:=bind_some f;cases d;exact⟨y,c,g,e,rfl⟩
def G5(c:bb)(d:eW)(i a:Lp)(h:kH g f c (d::i)=Y a):∃p b,p.length=1/\IS 0 d ([Z]++c)=Y (p++c)/\g (p++c)=Y b/\if b=true then ∃y j,f (p++c)=Y y/\kH g f c i=Y j/\a=y::j else kH g f c i=Y a:=by obtain⟨b,k,e⟩:=bind_some h;exact⟨[Y d],b,rfl,rfl,k,IT e⟩
def EB(A:Hp->Hp->Lp->List V->Prop) (XR:∀{b G:Hp}{ds:Lp}{vs:List V},A b G ds vs->ds.length=vs.length) (AS:∀{b G G':Hp}{ds:Lp}{vs:List V},A b G ds vs->eZ G G'->A b G' ds vs) {elt iter:Expr}  (N0:Lr)  {ifs:Lx}     {dd:bb->Od}{bd:BD} (cmp:bb->Lp->Option Lp)
  (hc:X.calm=true) (S:kq scope x) (hcl:∀p∈scope.names,p.2=.free->∃c,X.env.cells.lookup p.1=Y c) (aap:lI X scope iP)
  (hi:M4 X tg iter q)
  (hg:∀C s H fp,ZC (mM X scope C (N0++iP.map (·.2)) s H fp) tg bd)
  (ht:∀C s H fp,yr (mM X scope C (N0++iP.map (·.2)) s H fp) ifs g)
  (he:∀C s H fp,PE (mM X scope C (N0++iP.map (·.2)) s H fp) elt (λσ G Q=>∃ρ yd,jD X.K G σ ρ/\f ρ=Y yd/\∀v G',eZ G G'->(∀b ds vs,A b G ds vs->A b G' (ds++[yd]) (vs++[v]))->Q v G'))
  (hdd:∀ρ d,dd ρ=Y d->∃ds ys,q ρ=Y ds/\ds.length<=sizeLine/\cmp (pj iP ρ) ds=Y ys/\d=.list ys) (h0:∀c ys,cmp c []=Y ys->ys=[])
  (h1:∀c d ds ys,cmp c (d::ds)=Y ys->∃p b,p.length=N0.length/\bd d (N0.map (λ_=>Z)++c)=Y (p++c)/\g (p++c)=Y b/\if b=true then ∃y zs,f (p++c)=Y y/\cmp c ds=Y zs/\ys=y::zs else cmp c ds=Y ys):
  Ku X (.ListComp elt [⟨tg,iter,ifs,0⟩] scope pos) scope iter (λσ H Q=>∃ρ d,jD X.K H σ ρ/\dd ρ=Y d/\A H H [] []/\∀ys G D vs,d=.list ys->eZ H G->G D=Z->A H G ys vs->Q (.ref D) (upd G D (.lst vs))):=by
 intro pins s σ H Q R I ⟨ρ,d,hsD,e,hA0,k⟩ fin;obtain⟨ds,ys,e1,hz,e3,rfl⟩:=hdd ρ d e;refine hZ (@hi pins s σ H (λJ H'=>eZ H H'/\G4 X.K J ds H') I ⟨ρ,ds,hsD,e1,λJ H' s' w=>⟨s',w⟩⟩) λv sA hA=>hZ hA ?_;rintro itv L ⟨it,fp,tn,J,H2,eit,I2,T,st2,f2,U,wd⟩;subst eit;have aaq:=hsD.same U;refine cK (wpAny_newFunctionEnv S.M6 (by intro y hy;simp at hy) (λM F E=>?_) S.kind);dsimp only at F E ⊢;generalize hH2:L.heap.push { cls:=.type "list",dict:=Z,data:=.seq ([]:Lw).toArray }=ZD at F E ⊢;have hCs:ZD.objs.size=(zB L)+1:=by rw[<-hH2,d5]
 generalize hC:ZD.objs.size=C at F E hCs ⊢;generalize hD:(zB L)=D at hCs ⊢;have hDC:D≠C:=by omega
 have P:(zB L)<=C:=by omega
 have old:∀b o,L.heap.get? b=Y o->M.get? b=Y o:=λb o e=>by have j:=aw e;exact E.extBut b o (aN (aE j P)) (ak _ (hH2▸ak _ e))
 have hD1:M.get? D=Y (q0 [] 0):=by refine E.extBut _ _ hDC (ak _ (hH2▸?_));rw[<-hD];exact aB _ rfl
 have hfo:∀b∈fp,∃o,L.heap.get? b=Y o:=λb j=>by obtain⟨o,ho,_⟩:=T.obj 0 _ st2 b j;exact⟨o,ho⟩
 have I3:fu (mM X scope C (N0++iP.map (·.2)) L H2 fp) [] (N0.map (λ_=>Z)++Ap iP σ) H2 { L with heap:=M,toks:=L.toks+([]:List (Str×Value)).length } :=
  U8 N0 I2 hc S hcl aap f2 hfo P old F rfl I2.bare
 have fpD:∀b∈fp,b≠D/\b≠C:=λb j=>by obtain⟨o,ho⟩:=hfo b j;have:=aw ho;exact⟨aN (hD▸this),aN (aE this P)⟩
 have aar:∀(W:Cx),W=mM X scope C (N0++iP.map (·.2)) L H2 fp->∀{G:Hp}{σ':St}{s':Shared}{l:Lw}{n:Nat},fu W [(D,q0 l n)] σ' G s' ->
   ∀{t':Nat}{h':Heap}{its':Lw}{n':Nat},(∀b o,b≠D->s'.heap.get? b=Y o->h'.get? b=Y o)->h'.get? D=Y (q0 its' n')->fu W [(D,q0 its' n')] σ' G { s' with heap:=h',toks:=t' }:=by
  intro W hX G σ' s' l n J1 t' h' its' n' kk hD';have O:=J1.pin (D,q0 l n) (by simp);have J2:fu W [] σ' G s':=J1.qd λp O=>by cases O
  have J3:fu W [] σ' G { s' with heap:=h',toks:=t' }:=by
   refine J2.turned (it:=D) (λb o j e=>kk b o j e) O.2.1 O.2.2.1 (.inr ?_) (λy c e z=>?_) (λp O=>?_)
   ·subst hX;show (zB L)<=D;omega
   ·obtain⟨v,o,ho,hd⟩:=J2.cell y c e;rw[z,O.1] at ho;cases ho;have hd':(q0 l n).data=.cell v:=hd;cases hd'
   ·subst hX;exact absurd (show p∈([]:Ax)++[] from O) (by simp)
  refine J3.qd λp ZD=>?_;have:p=(D,q0 its' n'):=by simpa using ZD
  subst this;exact⟨hD',O.2.1,O.2.2.1,O.2.2.2.1,λv z=>by have z':(q0 its' n').data=.cell v:=z;cases z'⟩
 have aas:D∉Gs X.stack:=λj=>by obtain⟨_,o,ho,_⟩:=I2.stack.mem j;have:=aw ho;exact absurd this (by rw[hD];exact aZ _)
 have I4:fu (mM X scope C (N0++iP.map (·.2)) L H2 fp) [(D,q0 [] 0)] (N0.map (λ_=>Z)++Ap iP σ) H2 { L with heap:=M,toks:=L.toks+([]:List (Str×Value)).length }:=by
  refine I3.qd λp O=>?_;have:p=(D,q0 [] 0):=by simpa using O
  subst this;exact⟨hD1,I2.iS.fresh (by omega),hDC,aas,λv z=>by have z':(q0 [] 0).data=.cell v:=z;cases z'⟩
 have st4:tn 0 M:=T.keep 0 _ _ st2 λb j o e=>old b o e;let W:=mM X scope C (N0++iP.map (·.2)) L H2 fp;have stat:∀{G:Hp}{pl:Ax},(∀p∈pl,p.1=D)->(∀b∈fp,G b=Z)->∀b∈fp,qM W pl G b:=λ{G pl} hpl hn b j=>by
  obtain⟨f0,f1,f2',f3,f4,f5⟩:=f2 b j;refine⟨hn b j,(fpD b j).2,λz=>?_,.inl j,λy c e=>f4 y c (kc e),λp O z=>?_⟩
  ·rcases av.mp (I2.Cd b z) with h|h
   ·exact f1 h
   ·exact f2' h
  ·have XS:p∈pl:=by simpa [W,mM] using O
   exact(fpD b j).1 (by rw[<-z];exact hpl p XS)
 have loop:∀s₃:Shared,s₃={ L with heap:=M,toks:=L.toks+([]:List (Str×Value)).length } ->
   codeAny (model X.prog X.w) X.A (.compLoop (.ListComp elt [⟨tg,iter,ifs,0⟩] scope pos) 0 (.ref it) (.ref D) (compEnvC scope (yq X.env scope) C X.env))
    (R (.ref D) C) s₃:=by
  rintro s₃ rfl;refine CC (λn s'=>∃(i:Nat) (σ':St) (G:Hp) (l:Lw) (vs:List V) (m:Nat) (done:Lp) (ZE:Lp),fu W [(D,q0 l m)] σ' G s'/\tn i s'.heap/\(∀b∈fp,G b=Z)/\eZ H2 G/\jD X.K G σ' (N0.map (λ_=>Z)++pj iP ρ) /\
    fY vs l/\A H G done vs/\done.length<=i/\i<=ds.length/\cmp (pj iP ρ) (ds.drop i)=Y ZE/\ys=done++ZE/\n=ds.length - i) ?_ ds.length
   ⟨0,_,H2,[],[],0,[],ys,I4,st4,λb j=>(f2 b j).1,.refl _,aaq.cap N0 iP,.nil,AS hA0 U,aA _,cB _,by simpa using e3,rfl,by simp⟩
  rintro n s' ⟨i,σ',G,l,vs,m,done,ZE,JJ,st,fr,sG,aat,rv,U9,hdi,hil,e5,e6,rfl⟩;obtain⟨w1,w2⟩:=wd G sG;by_cases TJ:i<ds.length
  ·
   have hd:ds[i]?=Y ds[i]:=aI TJ;obtain⟨w3,w4⟩:=w2 i _ hd;rw[bT TJ] at e5;obtain⟨pr,b,hpr,ebd,eb,e7⟩:=h1 _ _ _ _ e5;refine hZ (T.item W rfl rfl rfl rfl i _ s' σ' G (λ_ _=>False) JJ (stat (by simp) fr) st w3) ?_;rintro r s5 ⟨u,hr,h5⟩;subst hr;refine hZ h5 ?_;rintro _ s6 ⟨y,G6,J6,r6,y6,st6,fr6⟩;obtain⟨s7,i7⟩:=w4 y G6 y6;have aau:=stat (G:=G6) (pl:=[(D,q0 l m)]) (by simp) fr6;have J6':=J6.pinned aau (T.obj _ _ st6);have XT:jD X.K G6 σ' (N0.map (λ_=>Z)++pj iP ρ):=aat.same s7;refine hZ (hg C L H2 fp s6 σ' G6 y u (λσ8 H8=>eZ G6 H8/\jD X.K H8 σ8 (pr++pj iP ρ)) J6' r6 ⟨_,ds[i],pr++pj iP ρ,XT,i7,ebd,λσ8 H8 s8 h8=>⟨s8,h8⟩⟩) ?_;rintro _ s8 ⟨σ8,G8,J8,N,Qz⟩;refine hZ (ht C L H2 fp s8 σ8 G8 (λc H9=>c=b/\eZ G8 H9) J8 ⟨_,b,Qz,eb,λH9 s9=>⟨rfl,s9⟩⟩) ?_;rintro ok s9 ⟨G9,J9,⟨iS,t⟩⟩;subst iS;have TK:∀{σ7:St}{G7:Hp}{s7:Shared}{pl:Ax},fu W (pl++x8 fp s6.heap) σ7 G7 s7->tn (i+1) s7.heap/\∀b∈fp,G7 b=Z:=λ{σ7 G7 s7 pl} J7=>by refine⟨T.keep _ _ _ st6 λb j o e=>(J7.pin (b,o) (aq _ (aq _ (qe j e)))).1,λb j=>?_⟩;obtain⟨o,e,d⟩:=T.obj _ _ st6 b j;exact(J7.pin (b,o) (aq _ (aq _ (qe j e)))).2.1
   cases ok with
   |false=>rw[ai aF] at e7 ⊢;obtain⟨k1,k2⟩:=TK J9;exact⟨ds.length - (i+1),by omega,i+1,σ8,G9,l,vs,m,done,ZE,J9.qV,k1,k2,sG.trans (s7.trans (N.trans t)),(Qz.less hpr).same t,rv,AS U9 (s7.trans (N.trans t)),by omega,TJ,e7,e6,rfl⟩
   |true=>
    rw[ah rfl] at e7 ⊢;obtain⟨yd,ys2,e8,e10,rfl⟩:=e7;refine hZ (he C L H2 fp s9 σ8 G9 (λv H10=>eZ G9 H10/\∀b ds vs,A b G9 ds vs->A b H10 (ds++[yd]) (vs++[v])) J9 ⟨_,yd,Qz.same t,e8,λv H10 ZF i10=>⟨ZF,i10⟩⟩) ?_;rintro u10 ZF ⟨v10,G10,J10,r10,M7,i10⟩;obtain⟨k1,k2⟩:=TK J10;have J11:fu W [(D,q0 l m)] σ8 G10 ZF:=J10.qV;have ZG:=J11.pin (D,q0 l m) (by simp);have hlen:l.length<=sizeLine:=by have h1:=rv.length;have h2:=XR U9;omega
    refine wpAny_list_append_plain (hsz:=by rw[au];exact hlen) ⟨m,ZG.1⟩ ?_;rintro h12 ⟨n12,aav⟩ XU;have J12:=aar W rfl J11 (t':=ZF.toks) (h':=h12) (its':=l++[u10]) (n':=n12) (λb o j e=>(XU.2 b j).trans e) (by rw[aav];simp[q0]);refine⟨ds.length - (i+1),by omega,i+1,σ8,G10,l++[u10],vs++[v10],n12,done++[yd],ys2,J12,?_,k2,sG.trans (s7.trans (N.trans (t.trans M7))),(Qz.less hpr).same (t.trans M7),rv.append (.cons r10 .nil),i10 _ _ _ (AS U9 (s7.trans (N.trans t))),by simp;omega,TJ,e10,by simp[e6],rfl⟩;exact T.keep _ _ _ k1 λb j o e=>(XU.2 b (fpD b j).1).trans e
  ·
   have hiL:i=ds.length:=by omega
   subst hiL;rw[eJ] at e5;cases h0 _ _ e5;rw[aL] at e6;subst e6;refine hZ (T.done W rfl rfl rfl rfl _ _ s' σ' G (λ_ _=>False) JJ (stat (by simp) fr) st w1) ?_;rintro r s9 ⟨hr,J9⟩;subst hr;have ZG:=J9.pin (D,q0 l m) (by simp);obtain⟨mC,hnC,_⟩:=J9.loc;have WT:G D=Z:=ZG.2.1;have hGC:G C=Z:=J9.free;have aaw:tw X.prog X.w (upd G D (.lst vs)) s9.heap:=λa o e=>by
    by_cases ha:a=D
    ·subst ha;rw[fx] at e;cases e;have h1:=rv.length;have h2:=XR U9;exact⟨by omega,l,m,rv,ZG.1⟩
    ·rw[ee ha] at e;exact(J9.iS a o e).vq (λc w' hcc q=>q) (λc q=>by rw[ee (gp q WT)];exact q) λc xs q=>by rw[ee (gp q WT)];exact q
   have ne2:∀b o,L.heap.get? b=Y o->b≠C/\b≠D:=λb o e=>by have:=aw e;exact⟨aN (aE this P),aN (hD▸this)⟩
   have un:Un (Gs X.stack) fp H2 (upd G D (.lst vs)) L.heap s9.heap:=by
    have B:=J9.base;refine⟨λb o e n j hx=>B.keep b o e n j hx,λb o e n j hx=>B.slot b o e n j hx,λb o e n hx=>by rw[ee (ne2 b o e).2];exact B.free b o e n hx,λb o e hx=>B.there b o e hx,λb xs e=>by rw[ee (gp (B.vt b xs e) WT)];exact B.vt b xs e,
     λb o u e=>by rw[ee (gp (B.tB b o u e) WT)];exact B.tB b o u e,λb ps e=>?_⟩
    obtain⟨mm,e1⟩:=B.wY b ps e;exact⟨mm,by rw[ee (gp e1 WT)];exact e1⟩
   have I9:fu X pins σ (upd G D (.lst vs)) s9:=I2.W5 (s':=s9) (ch:=fp) J9.os un aaw J9.bare (λb j=>by obtain⟨f0,f1,f2',f3,f4,f5⟩:=f2 b j;exact⟨f3,f1,f4,f5⟩);have hpn:∀p∈X.pn++pins,p.1≠C:=λp O=>(ne2 p.1 p.2 (I2.pin p O).1).1;have hCz:(zB X.s₀)<=C:=bK I2.sz P;obtain⟨oC,es,ep,hoC,rC⟩:=hnC;have aax:C∉X.fs:=λj=>by
    have h1:=J9.ok.L8;have:C∈Gs X.stack:=by
     rcases I2.ok.W3 with z | ⟨z,_⟩
     ·rw[z];exact j
     ·rw[z];obtain⟨a,h1,h2⟩:=cf.mp j;exact cf.mpr ⟨a,aj _ h1,h2⟩
    obtain⟨_,o,ho,_⟩:=I2.stack.mem this;exact(ne2 C o ho).1 rfl
   have hCL:C≠X.env.locals:=λz=>by obtain⟨mL,hnL,_⟩:=I2.loc;obtain⟨oL,_,_,ZX,_⟩:=hnL;exact(ne2 _ oL ZX).1 z.symm
   refine fin D C s9 _ oC mC (I9.qd λp O=>?_) ⟨oC,es,ep,hoC,rC⟩ hpn hCz (k _ _ D _ rfl (U.trans sG) WT U9);rcases av.mp O with z|z
   ·subst z;refine⟨hoC,by rw[ee (Ne.symm hDC)];exact hGC,hCL,aax,λv z=>?_⟩;rw[rC.1] at z;cases z
   ·exact I9.pin p (aq _ z)
 exact codeAny_compStart_list (loop _ rfl) (T.self X.A 0 _ _ _ st4 (loop _ rfl))
def M8(A:Hp->Hp->Lp->List V->Prop) (k:∀{b G:Hp}{ds:Lp}{vs:List V},A b G ds vs->ds.length=vs.length) (y:∀{b G G':Hp}{ds:Lp}{vs:List V},A b G ds vs->eZ G G'->A b G' ds vs) {j a:Expr}{o:Pos}{h:Lx}
  (w:X.calm=true) (S:kq scope x) (m:∀p∈scope.names,p.2=.free->∃c,X.env.cells.lookup p.1=Y c) (i:lI X scope iP) (l:(x::iP.map (·.2)).Nodup)
  (t:M4 X (.Name x o) a q)
  (r:∀C s H fp,yr (mM X scope C (x::iP.map (·.2)) s H fp) h g)
  (u:∀C s H fp,PE (mM X scope C (x::iP.map (·.2)) s H fp) j (λσ G Q=>∃ρ yd,jD X.K G σ ρ/\f ρ=Y yd/\∀v G',eZ G G'->(∀b ds vs,A b G ds vs->A b G' (ds++[yd]) (vs++[v]))->Q v G')):
  Ku X (.ListComp j [⟨.Name x o,a,h,0⟩] scope pos) scope a (λσ H Q=>∃ρ d,jD X.K H σ ρ/\jg q iP g f ρ=Y d/\A H H [] []/\∀n G D vs,d=.list n->eZ H G->G D=Z->A H G n vs->Q (.ref D) (upd G D (.lst vs))):=
 EB A k y [x] (kH g f) w S m i t (λC s H fp=>yo 0 l rfl (.inl (bW S.var)) (.inr (bW S.var))) r u n4 (λ_ _ e=>by cases e;rfl) G5
def IU{a:Expr}{g:Cx}(h:PD g a f)(l:g.K=X.K):PE g a (λσ G Q=>∃ρ d,jD X.K G σ ρ/\f ρ=Y d/\∀v c,eZ G c->(∀(b:Hp) ds vs,c6 X.K G ds vs->c6 X.K c (ds++[d]) (vs++[v]))->Q v c) :=
 PE.imp h <| by rintro σ G Q ⟨ρ,d,m,e,k⟩;exact⟨ρ,d,by rw[l];exact m,e,λv c s i=>k v c s λ_ _ _ j=>(j.same s).append (c6.cons (by rw[l] at i;exact i) c6.nil)⟩
def Ku.data{a:Expr}{i:bb->Od}(h:Ku X e scope a (λσ H Q=>∃ρ d,jD X.K H σ ρ/\i ρ=Y d/\c6 X.K H [] []/\∀ys G D vs,d=.list ys->eZ H G->G D=Z->c6 X.K G ys vs->Q (.ref D) (upd G D (.lst vs)))):Ku X e scope a (tD X.K i) :=
 λb s σ H Q R I ⟨ρ,d,c,e,k⟩ f=>h b s σ H Q R I ⟨ρ,d,c,e,c6.nil,λys G D vs m j g l=>k _ _ (j.trans (ka g)) (by rw[m];exact Ew g l)⟩ f
def CF{e a:Expr}{k:Pos}{b:Lx}
  (o:X.calm=true) (S:kq scope x) (j:∀p∈scope.names,p.2=.free->∃c,X.env.cells.lookup p.1=Y c) (d:lI X scope iP) (i:(x::iP.map (·.2)).Nodup)
  (m:M4 X (.Name x k) a q)
  (l:∀C s H fp,yr (mM X scope C (x::iP.map (·.2)) s H fp) b g)
  (n:∀C s H fp,PD (mM X scope C (x::iP.map (·.2)) s H fp) e f):Ku X (.ListComp e [⟨.Name x k,a,b,0⟩] scope pos) scope a (tD X.K (jg q iP g f)):=
 (M8 (λ_ G ds vs=>c6 X.K G ds vs) c6.length (λh s=>h.same s) o S j d i m l λC s H fp=>IU (n C s H fp) rfl).data
def Ku.pe{e a:Expr}{i:Pos}{d:Lx}{t:TE} (h:Ku X (.ListComp e [⟨.Name x i,a,d,0⟩] scope pos) scope a t) (S:kq scope x) (g:∀p∈scope.names,p.2=.free->∃c,X.env.cells.lookup p.1=Y c)
  (k:∀x,foldedSetIterable a X.env x=pure x:=by intro _;rfl):PE X (.ListComp e [⟨.Name x i,a,d,0⟩] scope pos) t:=by
 intro b s σ H Q I o;rw[eval_ListComp];refine cW (use:=Z) rfl k (ph g) S.kind S.loc (@h b s σ H Q (compPost (model X.prog X.w) X.A X.xe Z (EP X b σ Q)) I o ?_);intro D C v u y m r n l j q;exact⟨m,n,λz f=>⟨.ref D,u,r.yt l j f,rfl,q⟩⟩
def QA{h a:Expr}{j:Pos}{b:Lx}
  (o:X.calm=true) (S:kq scope x) (d:∀p∈scope.names,p.2=.free->∃c,X.env.cells.lookup p.1=Y c) (e:lI X scope iP) (i:(x::iP.map (·.2)).Nodup)
  (m:M4 X (.Name x j) a q)
  (k:∀C s H fp,yr (mM X scope C (x::iP.map (·.2)) s H fp) b g)
  (n:∀C s H fp,PD (mM X scope C (x::iP.map (·.2)) s H fp) h f)
  (l:∀x,foldedSetIterable a X.env x=pure x:=by intro _;rfl):PD X (.ListComp h [⟨.Name x j,a,b,0⟩] scope pos) (jg q iP g f) :=
 (CF o S d e i m k n).pe S d l
def IV{y:Str}{j g:Pos}{f a:Expr}{l:Pos}{d:Lx}{t:TE} (h:Ku X (.ListComp f [⟨.Name x l,a,d,0⟩] scope pos) scope a t) (S:kq scope x) (u:∀p∈scope.names,p.2=.free->∃c,X.env.cells.lookup p.1=Y c)
  (W:X.N.Nodup) (U:X.N[i]?=Y y) (F:X.env.scope.names.lookup y=Y .local) (n:swapsWith (.ListComp f [⟨.Name x l,a,d,0⟩] scope pos) (Y (.Name y j)) g.line X.env=pure true)
  (O:∀x,foldedSetIterable a X.env x=pure x:=by intro _;rfl):PS X (.Assign [.Name y j] (.ListComp f [⟨.Name x l,a,d,0⟩] scope pos) g) (Uw t (IC i)):=by
 intro b s σ H D I V;rw[exec_Assign_Name_used _ _ _ _ n];refine ae (wpAny_standAt (ae ?_));show wpAny _ X.A (do let _ <-comprehension (.ListComp f [⟨.Name x l,a,d,0⟩] scope pos) scope X.env _ (newList []) false (eval a X.env) (Y (assign (.Name y j) X.env))) _ _ s;refine ae (bU (cW (use:=Y (assign (.Name y j) X.env)) (Q:=λ_ k=>SP X b D .next k) rfl O (ph u) S.kind S.loc
  (@h b s σ H _ (compPost (model X.prog X.w) X.A X.xe (Y (assign (.Name y j) X.env)) (λ_ k=>SP X b D .next k)) I V ?_)) (λ_ k P=>ar (ar P)) λ_ _ e=>e)
 intro B C K H9 E m G T R M q;show wpAny _ X.A (assign (.Name y j) X.env (.ref B)) _ _ _;refine bU (ug W U (.inl F) (.inr F) K σ H9 (.ref B) (.ref B) (λσ' H'=>D.nx σ' H') G rfl q) (?_) λ_ _ e=>e;rintro _ k ⟨σ',H',J,L⟩;have z:=J.pin (C,E) (by simp);have v:=G.pin (C,E) (by simp);refine⟨m,T.at' λo e=>?_,λh' r=>⟨σ',H',J.yt R M r,L⟩⟩;rw[v.1] at e;cases e;exact z.1
end
def M9:HO->Prop
 |.lst _=>True
 |.dK _=>True
 |_=>False
def fi(G:Hp):List (Addr×HO)->Hp
 |[]=>G
 | (p,o)::r=>upd (fi G r) p o
inductive qi:List (Addr×HO)->Prop
 |nil:qi []
 |one {p:Addr}{o:HO}{r:List (Addr×HO)}:M9 o->qi r->qi ((p,o)::r)
 |ins {p C dx:Addr}{fs:List (Str×V)}{r:List (Addr×HO)}:qi r->qi ((p,.ins C dx fs)::(dx,.own p)::r)
def qi.append{A:List (Addr×HO)}(h:qi A)(h':qi B):qi (A++B):=by
 induction h with
 |nil=>exact h'
 |one f _ a=>exact .one f a
 |ins _ a=>exact .ins a
structure j6 (G:Hp) (B:List (Addr×HO)):Prop where
 nd:(B.map (·.1)).Nodup
 free:∀x∈B,G x.1=Z
 ok:qi B
theorem j6.nil{G:Hp}:j6 G []:=⟨List.nodup_nil,(λx a=>by cases a),.nil⟩
theorem gf{G:Hp}{a:Addr}:∀{B:List (Addr×HO)},(∀x∈B,x.1≠a)->fi G B a=G a
 |[],_=>rfl
 | (p,o)::r,h=>by show upd (fi G r) p o a=G a;rw[ee (Ne.symm (h (p,o) (by simp)))];exact gf λx b=>h x (aj _ b)
theorem fV{G:Hp}:∀{B:List (Addr×HO)},(B.map (·.1)).Nodup->∀x∈B,fi G B x.1=Y x.2
 |[],_,_,h=>by cases h
 | (p,o)::r,nd,x,hx=>by
  rw[af,bJ] at nd;rcases av.mp hx with e|hx
  ·subst e;exact fx
  ·show upd (fi G r) p o x.1=Y x.2;have a:x.1≠p:=λe=>nd.1 (by rw[<-e];exact aK.mpr ⟨x,hx,rfl⟩);rw[ee a];exact fV nd.2 x hx
def oS(B:List (Addr×HO)):(∃x∈B,x.1=a)\/(∀x∈B,x.1≠a):=by
 by_cases h:∃x∈B,x.1=a
 ·exact .inl h
 ·exact .inr λx b e=>h ⟨x,b,e⟩
def r8(c:(B.map (·.1)).Nodup)(e:∀x∈B,H x.1=Y x.2)(d:∀a,(∀x∈B,x.1≠a)->H a=G a):H=fi G B:=by
 funext a
 rcases oS (a:=a) B with ⟨x,b,rfl⟩|h
 ·rw[e x b,fV c x b]
 ·rw[d a h,gf h]
theorem jh(G:Hp):∀(A B:List (Addr×HO)),fi G (A++B)=fi (fi G B) A
 |[],_=>rfl
 | (p,o)::r,B=>by show upd (fi G (r++B)) p o=upd (fi (fi G B) r) p o;rw[jh G r B]
def i9{A:List (Addr×HO)}(d:(A.map (·.1)).Nodup)(h:A.Perm B):fi G A=fi G B:=by have b:(B.map (·.1)).Nodup:=(h.map (·.1)).nodup_iff.mp d;refine r8 b (λx c=>fV d x (h.mem_iff.mpr c)) λa e=>gf λx c=>e x (h.mem_iff.mp c)
def j6.same(f:j6 G B):eZ G (fi G B):=λa o e=>by
 rw[gf λx b z=>?_]
 ·exact e
 ·have:=f.free x b;rw[z,e] at this;cases this
def j6.Kv{A:List (Addr×HO)}(f:j6 G (A++B))(d:qi A):j6 (fi G B) A:=by have a:=f.nd;rw[bf,bA] at a;refine⟨a.1,λx b=>?_,d⟩;rw[gf λy c z=>a.2.2 _ (aK.mpr ⟨x,b,rfl⟩) _ (aK.mpr ⟨y,c,rfl⟩) z.symm];exact f.free x (aM _ b)
def j6.Kw{A:List (Addr×HO)}(f:j6 G (A++B))(c:qi B):j6 G B:=by have a:=f.nd;rw[bf,bA] at a;exact⟨a.2.1,λx b=>f.free x (aq _ b),c⟩
def j6.join{A:List (Addr×HO)}(f:j6 G B)(g:j6 (fi G B) A):j6 G (A++B):=by
 have d:∀x∈A,∀y∈B,x.1≠y.1:=λx e y c z=>by have i:=g.free x e;rw[z,fV f.nd y c] at i;cases i
 refine⟨?_,λx e=>?_,g.ok.append f.ok⟩
 ·rw[bf,bA];refine⟨g.nd,f.nd,λa k b j z=>?_⟩;obtain⟨x,e,rfl⟩:=aK.mp k;obtain⟨y,c,rfl⟩:=aK.mp j;exact d x e y c z
 ·rcases aP.mp e with h|h
  ·have i:=g.free x h;rw[gf λy c z=>d x h y c z.symm] at i;exact i
  ·exact f.free x h
def j6.perm{A:List (Addr×HO)}(f:j6 G A)(h:A.Perm B)(a:qi B):j6 G B :=
 ⟨(h.map (·.1)).nodup_iff.mp f.nd,λx b=>f.free x (h.mem_iff.mpr b),a⟩
section
variable {p:Addr}{o:HO}
def QB(I:fu X pins σ (upd H p o) s)(g:M9 o):∃a,s.heap.get? p=Y a/\∀v,a.data≠.cell v:=by
 have h:=I.iS p o fx;cases o with
 |lst d=>obtain⟨_,b,n,_,e⟩:=h;exact⟨_,e,λv z=>by have c:Data.seq b.toArray n=.cell v:=z;cases c⟩
 |dK f=>obtain⟨_,_,d,_,a,j,k,e,_,i,_⟩:=h;exact⟨a,e,λv z=>by rw[i] at z;cases z⟩
 |_=>exact g.elim
def Na{P:Program}{w:World}{s:Hp}{h f:Heap}{a:Obj}(k:M9 o)(x:iU P w H h p o)(e:h.get? p=Y a)(g:f.get? p=Y a):iU P w s f p o:=by
 cases o with
 |lst d=>obtain⟨z,b,n,r,q⟩:=x;rw[e] at q;cases q;exact⟨z,b,n,r,g⟩
 |dK j=>obtain⟨z,y,d,r,i,l,m,q,c⟩:=x;rw[e] at q;cases q;exact⟨z,y,d,r,a,l,m,g,c⟩
 |_=>exact k.elim
def XW(I:fu X pins σ (upd H p o) s)(W:H p=Z)(j:M9 o):∃k,fu X (pins++[(p,k)]) σ H s /\
  ∀(G:Hp) (N:Shared) (σ':St),fu X (pins++[(p,k)]) σ' G N->G p=Z/\fu X pins σ' (upd G p o) N:=by
 obtain⟨k,D,f⟩:=QB I j;have nt:∀b u,H b=Y u->b≠p:=λb u e=>gp e W;have t:∀b,upd H p o b=Z->b≠p/\H b=Z:=λb e=>by
  have g:b≠p:=λz=>by rw[z,fx] at e;cases e
  rw[ee g] at e;exact⟨g,e⟩
 have F:∀b u,upd H p o b=Y u->u≠o->H b=Y u:=λb u e hu=>by
  by_cases g:b=p
  ·rw[g,fx] at e;cases e;exact absurd rfl hu
  ·rw[ee g] at e;exact e
 have l:∀i,(HO.tup i)≠o:=λi e=>by rw[<-e] at j;exact j
 have B:∀q u,(HO.ud q u)≠o:=λq u e=>by rw[<-e] at j;exact j
 have y:∀w,(HO.P1 w)≠o:=λw e=>by rw[<-e] at j;exact j
 have A:∀a,(HO.own a)≠o:=λa e=>by rw[<-e] at j;exact j
 have hL:p≠X.env.locals:=λz=>by have:=I.free;rw[<-z,fx] at this;cases this
 have U:p∉X.fs:=λg=>by obtain⟨_,q,d,_⟩:=I.ok.tE.mem g;have:=I.base.free p q d (I.ok.L8 p g) λz=>I.ok.Gw p z g;rw[fx] at this;cases this
 have Q:∀q∈X.pn++pins,q.1≠p:=λq d=>(t q.1 (I.pin q d).2.1).1;have h0:∀q,X.s₀.heap.get? p=Y q->X.H₀ p=Z->p∈X.ex:=λq d T=>by
  by_cases r:p∈X.ex
  ·exact r
  ·have:=I.base.free p q d T r;rw[fx] at this;cases this
 refine⟨k,?_,?_⟩
 ·refine⟨I.ok,I.os,I.bare,⟨I.base.keep,I.base.slot,λb q e n r=>(t b (I.base.free b q e n r)).2,I.base.there,λb i e=>F b _ (I.base.vt b i e) (l i),λb q u e=>F b _ (I.base.tB b q u e) (B q u),λb w e=>?_⟩,I.loc,I.cell,(t _ I.free).2,λx c e=>(t c (I.nA x c e)).2,λq d=>?_,λa u e=>?_,I.len⟩
  ·obtain⟨m,V⟩:=I.base.wY b w e;exact⟨m,F b _ V (y _)⟩
  ·rcases aP.mp d with h|h
   ·obtain⟨M,L,K⟩:=I.pin q (aM _ h);exact⟨M,(t _ L).2,K⟩
   ·rcases aP.mp h with h|h
    ·obtain⟨M,L,K⟩:=I.pin q (aq _ h);exact⟨M,(t _ L).2,K⟩
    ·have:q=(p,k):=by simpa using h
     subst this;exact⟨D,W,hL,U,f⟩
  ·have O:=nt a u e;exact(I.iS a u (by rw[ee O];exact e)).vq (λ_ _ _ q=>q) (λb q=>F b _ q (A a)) λb i q=>F b _ q (l i)
 ·intro G N σ' J;have S:=J.pin (p,k) (aq _ (aq _ (by simp)));have E:G p=Z:=S.2.1;have C:∀b u,G b=Y u->upd G p o b=Y u:=λb u e=>by rw[ee (gp e E)];exact e
  refine⟨E,⟨J.ok,J.os,J.bare,⟨J.base.keep,J.base.slot,λb q e n r=>?_,J.base.there,λb i e=>C b _ (J.base.vt b i e),λb q u e=>C b _ (J.base.tB b q u e),λb w e=>?_⟩,J.loc,J.cell,?_,λx c e=>?_,λq d=>?_,λa u e=>?_,J.len⟩⟩
  ·have g:b≠p:=λz=>by subst z;exact r (h0 q e n)
   rw[ee g];exact J.base.free b q e n r
  ·obtain⟨m,V⟩:=J.base.wY b w e;exact⟨m,C b _ V⟩
  ·rw[ee (Ne.symm hL)];exact J.free
  ·have hc:c≠p:=λz=>by
    obtain⟨v,q,d,hd⟩:=J.cell x c e;rw[z] at d;have R:N.heap.get? p=Y k:=S.1;rw[R] at d;cases d;exact f v hd
   rw[ee hc];exact J.nA x c e
  ·have P:q∈X.pn++(pins++[(p,k)]):=by
    rcases aP.mp d with h|h
    ·exact aM _ h
    ·exact aq _ (aM _ h)
   obtain⟨M,L,K⟩:=J.pin q P;exact⟨M,by rw[ee (Q q d)];exact L,K⟩
  ·by_cases O:a=p
   ·subst O;rw[fx] at e;cases e;exact Na j (I.iS a o fx) D S.1
   ·rw[ee O] at e;exact(J.iS a u e).vq (λ_ _ _ q=>q) (λb q=>C b _ q) λb i q=>C b _ q
def XX{C d:Addr}{y:List (Str×V)}(I:fu X pins σ (upd (upd H d (.own p)) p (.ins C d y)) s)(hn:H p=Z)(R:H d=Z)(hne:d≠p):∃ob t,fu X (pins++[(p,ob),(d,t)]) σ H s /\
  ∀(G:Hp) (M:Shared) (σ':St),fu X (pins++[(p,ob),(d,t)]) σ' G M->G p=Z/\G d=Z/\fu X pins σ' (upd (upd G d (.own p)) p (.ins C d y)) M:=by
 obtain⟨z1,z2,z3,hob,mA,ns,rl,wi⟩:=(show iU X.prog X.w (upd (upd H d (.own p)) p (.ins C d y)) s.heap p (.ins C d y) from I.iS p _ fx)
 obtain⟨t,es,ep,Q,T,D⟩:=id ns;have r:∀v,(W.instObj C d).data≠.cell v:=λv z=>by cases z
 have j:∀v,t.data≠.cell v:=λv z=>by
  first
  | (rw[T] at z;cases z)
  | (rw[T.2.2] at z;cases z)
  | (rw[D.1] at z;cases z)
 have A:∀(F:Hp),upd (upd F d (.own p)) p (.ins C d y) d=Y (.own p):=λF=>by rw[ee hne,fx]
 have K:∀b,upd (upd H d (.own p)) p (.ins C d y) b=Z->b≠p/\b≠d/\H b=Z:=λb e=>by
  have i:b≠p:=λz=>by rw[z,fx] at e;cases e
  rw[ee i] at e;have g:b≠d:=λz=>by rw[z,fx] at e;cases e
  rw[ee g] at e;exact⟨i,g,e⟩
 have nG:∀(G:Hp),G p=Z->G d=Z->∀b u,G b=Y u->upd (upd G d (.own p)) p (.ins C d y) b=Y u:=λG g1 g2 b u e=>by rw[ee (gp e g1),ee (gp e g2)];exact e
 have bk:∀(G:Hp) b u,upd (upd G d (.own p)) p (.ins C d y) b=Y u->u≠.ins C d y->u≠.own p->G b=Y u:=λG b u e hu hu2=>by
  by_cases i:b=p
  ·rw[i,fx] at e;cases e;exact absurd rfl hu
  ·rw[ee i] at e;by_cases g:b=d
   ·rw[g,fx] at e;cases e;exact absurd rfl hu2
   ·rw[ee g] at e;exact e
 have hL:p≠X.env.locals:=λz=>by have:=I.free;rw[<-z,fx] at this;cases this
 have hL2:d≠X.env.locals:=λz=>by have:=I.free;rw[<-z,A] at this;cases this
 have hfs:p∉X.fs:=λi=>by obtain⟨_,q,f,_⟩:=I.ok.tE.mem i;have:=I.base.free p q f (I.ok.L8 p i) λz=>I.ok.Gw p z i;rw[fx] at this;cases this
 have S:d∉X.fs:=λi=>by obtain⟨_,q,f,_⟩:=I.ok.tE.mem i;have:=I.base.free d q f (I.ok.L8 d i) λz=>I.ok.Gw d z i;rw[A] at this;cases this
 have O:∀q∈X.pn++pins,q.1≠p/\q.1≠d:=λq f=>let z:=K q.1 (I.pin q f).2.1;⟨z.1,z.2.1⟩;have h0:∀q,X.s₀.heap.get? p=Y q->X.H₀ p=Z->p∈X.ex:=λq f E=>by
  by_cases k:p∈X.ex
  ·exact k
  ·have:=I.base.free p q f E k;rw[fx] at this;cases this
 have h02:∀q,X.s₀.heap.get? d=Y q->X.H₀ d=Z->d∈X.ex:=λq f E=>by
  by_cases k:d∈X.ex
  ·exact k
  ·have:=I.base.free d q f E k;rw[A] at this;cases this
 refine⟨W.instObj C d,t,?_,?_⟩
 ·refine⟨I.ok,I.os,I.bare,⟨I.base.keep,I.base.slot,λb q e n k=>(K b (I.base.free b q e n k)).2.2,I.base.there,λb L e=>bk H b _ (I.base.vt b L e) (λz=>nomatch z) (λz=>nomatch z),λb q u e=>bk H b _ (I.base.tB b q u e) (λz=>nomatch z) (λz=>nomatch z),λb ps e=>?_⟩,I.loc,I.cell,(K _ I.free).2.2,λx c e=>(K c (I.nA x c e)).2.2,λq f=>?_,λa u e=>?_,I.len⟩
  ·obtain⟨m,e1⟩:=I.base.wY b ps e;exact⟨m,bk H b _ e1 (λz=>nomatch z) (λz=>nomatch z)⟩
  ·rcases aP.mp f with h|h
   ·obtain⟨a1,a2,a3⟩:=I.pin q (aM _ h);exact⟨a1,(K _ a2).2.2,a3⟩
   ·rcases aP.mp h with h|h
    ·obtain⟨a1,a2,a3⟩:=I.pin q (aq _ h);exact⟨a1,(K _ a2).2.2,a3⟩
    ·rcases av.mp h with h|h
     ·subst h;exact⟨hob,hn,hL,hfs,r⟩
     ·have:q=(d,t):=by simpa using h
      subst this;exact⟨Q,R,hL2,S,j⟩
  ·have ha:a≠p:=gp e hn;refine(I.iS a u (nG H hn R a u e)).vq (λ_ _ _ q=>q) (λb q=>bk H b _ q (λz=>nomatch z) (λz=>ha (by cases z;rfl))) λb L q=>bk H b _ q (λz=>nomatch z) (λz=>nomatch z)
 ·intro G M σ' J;have hp:=J.pin (p,W.instObj C d) (aq _ (aq _ (by simp)));have P:=J.pin (d,t) (aq _ (aq _ (by simp)));have hGn:G p=Z:=hp.2.1;have hGd:G d=Z:=P.2.1;have l:M.heap.get? d=Y t:=P.1;have B:M.heap.get? p=Y (W.instObj C d):=hp.1;have N:=nG G hGn hGd;refine⟨hGn,hGd,⟨J.ok,J.os,J.bare,⟨J.base.keep,J.base.slot,λb q e n k=>?_,J.base.there,λb L e=>N b _ (J.base.vt b L e),λb q u e=>N b _ (J.base.tB b q u e),λb ps e=>?_⟩,J.loc,J.cell,?_,λx c e=>?_,λq f=>?_,λa u e=>?_,J.len⟩⟩
  ·have i:b≠p:=λz=>by subst z;exact k (h0 q e n)
   have g:b≠d:=λz=>by subst z;exact k (h02 q e n)
   rw[ee i,ee g];exact J.base.free b q e n k
  ·obtain⟨m,e1⟩:=J.base.wY b ps e;exact⟨m,N b _ e1⟩
  ·rw[ee (Ne.symm hL),ee (Ne.symm hL2)];exact J.free
  ·have hc:c≠p:=λz=>by
    obtain⟨v,q,f,hd⟩:=J.cell x c e;rw[z,B] at f;cases f;exact r v hd
   have hc2:c≠d:=λz=>by obtain⟨v,q,f,hd⟩:=J.cell x c e;rw[z,l] at f;cases f;exact j v hd
   rw[ee hc,ee hc2];exact J.nA x c e
  ·have hq':q∈X.pn++(pins++[(p,W.instObj C d),(d,t)]):=by
    rcases aP.mp f with h|h
    ·exact aM _ h
    ·exact aq _ (aM _ h)
   obtain⟨a1,a2,a3⟩:=J.pin q hq';exact⟨a1,by rw[ee (O q f).1,ee (O q f).2];exact a2,a3⟩
  ·by_cases ha:a=p
   ·subst ha;rw[fx] at e;cases e;exact⟨A G,z2,z3,B,mA,ns.at λo q=>by rw[Q] at q;cases q;exact l,rl,wi⟩
   ·rw[ee ha] at e;by_cases U:a=d
    ·subst U;rw[fx] at e;cases e;exact⟨t,l⟩
    ·rw[ee U] at e;exact(J.iS a u e).vq (λ_ _ _ q=>q) (λb q=>N b _ q) λb L q=>N b _ q
def Bp(ok:qi B):∀{a:Ax}{G:Hp}{σ:St}{s:Shared},fu X a σ (fi G B) s->j6 G B->∃t,fu X (a++t) σ G s/\(∀q∈t,∃x∈B,q.1=x.1)/\(∀x∈B,∃q∈t,q.1=x.1) /\
  ∀(d:Hp) (m:Shared) (σ':St),fu X (a++t) σ' d m->j6 d B/\fu X a σ' (fi d B) m:=by
 induction ok with
 |nil=>exact λI f=>⟨[],by rw[aL];exact I,(λq n=>by cases n),(λx b=>by cases b),λd m σ' J=>⟨j6.nil,by rw[aL] at J;exact J⟩⟩
 |@one p o r hf u N=>
  intro a G σ s I f;have w:=bJ.mp (show (p::r.map (·.1)).Nodup from f.nd);have R:j6 G r:=⟨w.2,λy O=>f.free y (aj _ O),u⟩
  have g:∀x∈r,x.1≠p:=λx b e=>w.1 (aK.mpr ⟨x,b,e⟩);have v:fi G r p=Z:=by rw[gf g];exact f.free (p,o) (by simp)
  obtain⟨A,W,l⟩:=XW (H:=fi G r) I v hf;obtain⟨t,V,M,L,c⟩:=N W R;refine⟨(p,A)::t,by simpa using V,λq n=>?_,λx b=>?_,λd m σ' J=>?_⟩
  ·rcases av.mp n with e|h
   ·exact⟨(p,o),by simp,by rw[e]⟩
   ·obtain⟨x,b,e⟩:=M q h;exact⟨x,aj _ b,e⟩
  ·rcases av.mp b with e|h
   ·exact⟨(p,A),by simp,by rw[e]⟩
   ·obtain⟨q,n,e⟩:=L x h;exact⟨q,aj _ n,e⟩
  ·obtain⟨S,U⟩:=c d m σ' (by simpa using J);obtain⟨i,T⟩:=l (fi d r) m σ' U;have j:d p=Z:=by rw[gf g] at i;exact i
   refine⟨⟨f.nd,λx b=>?_,f.ok⟩,T⟩;rcases av.mp b with e|h
   ·rw[e];exact j
   ·exact S.free x h
 |@ins p C k fs r u N=>
  intro a G σ s I f;have w:=bJ.mp (show (p::k::r.map (·.1)).Nodup from f.nd);have D:=bJ.mp w.2;have R:j6 G r:=⟨D.2,λy O=>f.free y (aj _ (aj _ O)),u⟩
  have P:k≠p:=λz=>w.1 (by rw[<-z];simp);have g:∀x∈r,x.1≠p:=λx b e=>w.1 (aj _ (aK.mpr ⟨x,b,e⟩));have E:∀x∈r,x.1≠k:=λx b e=>D.1 (aK.mpr ⟨x,b,e⟩);have v:fi G r p=Z:=by rw[gf g];exact f.free (p,.ins C k fs) (by simp)
  have Q:fi G r k=Z:=by rw[gf E];exact f.free (k,.own p) (by simp)
  obtain⟨A,od,W,l⟩:=XX (H:=fi G r) I v Q P;obtain⟨t,V,M,L,c⟩:=N W R;refine⟨(p,A)::(k,od)::t,by simpa using V,λq n=>?_,λx b=>?_,λd m σ' J=>?_⟩
  ·rcases av.mp n with e|h
   ·exact⟨(p,.ins C k fs),by simp,by rw[e]⟩
   ·rcases av.mp h with e|h
    ·exact⟨(k,.own p),by simp,by rw[e]⟩
    ·obtain⟨x,b,e⟩:=M q h;exact⟨x,aj _ (aj _ b),e⟩
  ·rcases av.mp b with e|h
   ·exact⟨(p,A),by simp,by rw[e]⟩
   ·rcases av.mp h with e|h
    ·exact⟨(k,od),by simp,by rw[e]⟩
    ·obtain⟨q,n,e⟩:=L x h;exact⟨q,aj _ (aj _ n),e⟩
  ·obtain⟨S,U⟩:=c d m σ' (by simpa using J);obtain⟨i,F,T⟩:=l (fi d r) m σ' U;have j:d p=Z:=by rw[gf g] at i;exact i
   have K:d k=Z:=by rw[gf E] at F;exact F
   refine⟨⟨f.nd,λx b=>?_,f.ok⟩,T⟩;rcases av.mp b with e|h
   ·rw[e];exact j
   ·rcases av.mp h with e|h
    ·rw[e];exact K
    ·exact S.free x h
def PE.frame{t:TE}(h:PE X e t):PE X e (λσ H Q=>∃G B,H=fi G B/\j6 G B/\t σ G λv b=>j6 b B->Q v (fi b B)):=by intro c s σ H Q I ⟨G,B,j,f,g⟩;subst j;obtain⟨m,l,_,_,a⟩:=Bp f.ok I f;refine hZ (@h _ s σ G _ l g) ?_;rintro v d ⟨x,b,J,r,q⟩;obtain⟨i,k⟩:=a b d σ J;exact⟨x,fi b B,k,r,q i⟩
def PI.frame{a:Expr}{t:TI}(h:PI X tg a t):PI X tg a (λσ H R=>∃G B,H=fi G B/\j6 G B/\t σ G λJ d=>j6 d B->R J (fi d B)):=by
 intro i s σ H R I ⟨G,B,Q,f,y⟩;subst Q;obtain⟨PB,W,m1,o,c⟩:=Bp f.ok I f;refine hZ (@h _ s σ G _ W y) λv s1 E=>hZ E ?_;rintro r m ⟨u,F,k,J,d,e,V,T,l,C,q⟩;obtain⟨P,U⟩:=c d m σ V;refine⟨u,F,k,J,fi d B,e,U,T,l,λb D=>?_,q P⟩;obtain⟨O,N,M,L,K,j⟩:=C b D;refine⟨?_,N,M,L,K,λp A=>j p ?_⟩
 ·rw[gf λx w z=>?_]
  ·exact O
  ·obtain⟨n,g,S⟩:=o x w;exact j n (aq _ (aq _ g)) (S.trans z)
 ·rcases aP.mp A with h|h
  ·exact aM _ h
  ·exact aq _ (aM _ h)
def PA.frame{t:TA}(h:PA X es t):PA X es (λσ H Q=>∃G B,H=fi G B/\j6 G B/\t σ G λg b=>j6 b B->Q g (fi b B)):=by intro c d s σ H Q I ⟨G,B,l,f,j⟩;subst l;obtain⟨p,n,_,_,a⟩:=Bp f.ok I f;refine hZ (@h c _ s σ G _ n j) ?_;rintro o i ⟨e,b,J,r,q⟩;obtain⟨k,m⟩:=a b i σ J;exact⟨e,fi b B,m,r,q k⟩
end
noncomputable def pP(f:Str):List (eW×eW)->Od
 |[]=>Z
 | (.str g,d)::r=>if g=f then Y d else pP f r
 |_::r=>pP f r
noncomputable def qj(f:Str)(y:eW):List (eW×eW)->List (eW×eW)
 |[]=>[(.str f,y)]
 | (.str g,d)::r=>if g=f then (.str g,y)::r else (.str g,d)::qj f y r
 |x::r=>x::qj f y r
section
theorem km.get{f:Str}{d:eW}:∀{r:List (eW×eW)}{c:List (Str×V)},km K H r c->pP f r=Y d->∃v,c.lookup f=Y v/\dy K H d v
 |[],_,_,e=>by cases e
 | (k,x)::r,_,h,e=>by
  obtain⟨y,v,g,rfl,rfl,i,t⟩:=km.da.mp h;by_cases q:y=f
  ·simp only[pP,ah q] at e;cases e;exact⟨v,by rw[aY,cu.mpr q.symm],i⟩
  ·simp only[pP,ai q] at e;obtain⟨u,a,b⟩:=km.get t e;exact⟨u,by rw[aY,aU.mpr (λz=>q z.symm)];exact a,b⟩
theorem km.none{f:Str}:∀{r:List (eW×eW)}{a:List (Str×V)},km K H r a->pP f r=.none->a.lookup f=.none
 |[],_,h,e=>by rw[km.fe.mp h];rfl
 | (k,x)::r,_,h,e=>by
  obtain⟨y,v,b,rfl,rfl,i,t⟩:=km.da.mp h;by_cases q:y=f
  ·simp only[pP,ah q] at e;cases e
  ·simp only[pP,ai q] at e;rw[aY,aU.mpr (λz=>q z.symm)];exact km.none t e
noncomputable def mh(c f:Str):Bool:=(c=="Reading"&&(f=="fields"||f=="heads"||f=="blocks"||f=="later"))||(c=="Outline"&&(f=="params"||f=="kept"||f=="own_rows"||f=="fields"))
def qk(c f:Str):Bool:=c=="Outline"&&f=="own_rows"
def qP(K:Fg)(G:Hp)(d:eW)(q:Addr)(o:HO):Prop :=
 (∃e b,d=.list e/\o=.lst b/\c6 K G e b)\/∃a c,d=.dict a/\o=.dK c/\f9 K G a c
def isL:eW->Bool
 |.list _=>true
 |_=>false
def QC(K:Fg)(G:Hp)(d:eW)(v:V)(B:List (Addr×HO)):Prop:=(isL d=false/\dy K G d v/\B=[])\/∃b p a,d=.list b/\v=.ref p/\B=[(p,.lst a)]/\c6 K G b a
def PN(K:Fg)(G:Hp):Lp->List V->List (Addr×HO)->Prop
 |[],vs,B=>vs=[]/\B=[]
 |d::ds,vs,B=>∃v a c b,vs=v::a/\B=c++b/\QC K G d v c/\PN K G ds a b
def PQ(K:Fg)(G:Hp):List (eW×eW)->List (Key×V)->List (Addr×HO)->Prop
 |[],kv,B=>kv=[]/\B=[]
 | (k,d)::r,kv,B=>∃y v a c b,kv=(y,v)::a/\k=j8 y/\B=c++b/\QC K G d v c/\PQ K G r a b
def aay(K:Fg)(G:Hp)(d:eW)(o:HO)(B:List (Addr×HO)):Prop :=
 (∃e b,d=.list e/\o=.lst b/\PN K G e b B)\/∃a c,d=.dict a/\o=.dK c/\PQ K G a c B
def pk(a:Bool)(K:Fg)(G:Hp)(d:eW)(q:Addr)(o:HO)(B:List (Addr×HO)):Prop:=match a with
 |false=>qP K G d q o/\B=[]
 |true=>aay K G d o B
def ju(K:Fg)(G:Hp)(c:Str):List (eW×eW)->List (Str×V)->List (Addr×HO)->Prop
 |[],fs,B=>fs=[]/\B=[]
 | (k,d)::r,fs,B=>∃y v a,fs=(y,v)::a/\k=.str y/\((mh c y=false/\dy K G d v/\ju K G c r a B)\/(mh c y=true/\∃q o b e,v=.ref q/\B=(q,o)::(b++e)/\pk (qk c y) K G d q o b/\ju K G c r a e))
def jE(g:Bool)(K:Fg)(G:Hp)(d:eW)(v:V)(B:List (Addr×HO)):Prop :=
 (∃q o e,v=.ref q/\B=(q,o)::e/\pk g K G d q o e) \/
 ∃c C p b a r f,d=.dict ((.none,.str c)::r)/\v=.ref p/\B=(p,.ins C b a)::(b,.own p)::f/\jC K c C/\ju K G c r a f
theorem QC.sim{f:Hp}{d:eW}{v:V}{B:List (Addr×HO)}(e:Am K G f)(h:QC K G d v B):QC K f d v B:=by
 rcases h with ⟨a,b,c⟩ | ⟨i,p,g,a,b,c,t⟩
 ·exact .inl ⟨a,b.sim e,c⟩
 ·exact .inr ⟨i,p,g,a,b,c,t.sim e⟩
def QC.nh(h:QC K G d v B):qi B:=by
 rcases h with ⟨a,b,c⟩ | ⟨f,p,e,a,b,c,t⟩
 ·rw[c];exact .nil
 ·rw[c];exact .one aV .nil
def QC.L1(h:QC K G d v B)(e:eZ G H)(f:∀x∈B,H x.1=Y x.2):dy K H d v:=by
 rcases h with ⟨a,b,c⟩ | ⟨g,p,vs,rfl,rfl,rfl,t⟩
 ·exact b.same e
 ·exact dy.fG.mpr ⟨p,vs,rfl,ng.of (f (p,.lst vs) (by simp)),t.same e⟩
theorem PN.sim{g:Hp}(e:Am K G g):∀{f:Lp}{d:List V}{B:List (Addr×HO)},PN K G f d B->PN K g f d B
 |[],_,_,h=>h
 |_::_,_,_,⟨v,TL,B1,B2,a,b,c,t⟩=>⟨v,TL,B1,B2,a,b,c.sim e,PN.sim e t⟩
theorem PN.nh:∀{e:Lp}{d:List V}{B:List (Addr×HO)},PN K G e d B->qi B
 |[],_,_,h=>by rw[h.2];exact .nil
 |_::_,_,_,⟨v,TL,B1,B2,a,b,c,t⟩=>by rw[b];exact c.nh.append t.nh
theorem PN.XY(e:eZ G H):∀{g:Lp}{f:List V}{B:List (Addr×HO)},PN K G g f B->(∀x∈B,H x.1=Y x.2)->c6 K H g f
 |[],_,_,h,_=>by rw[h.1];exact c6.nil
 |_::_,_,_,⟨v,TL,B1,B2,a,b,c,t⟩,hB=>by subst a b;exact c6.cons (c.L1 e λx d=>hB x (aM _ d)) (t.XY e λx d=>hB x (aq _ d))
theorem PQ.sim{g:Hp}(e:Am K G g):∀{f:List (eW×eW)}{d:List (Key×V)}{B:List (Addr×HO)},PQ K G f d B->PQ K g f d B
 |[],_,_,h=>h
 | (_,_)::_,_,_,⟨y,v,TL,B1,B2,a,a2,b,c,t⟩=>⟨y,v,TL,B1,B2,a,a2,b,c.sim e,PQ.sim e t⟩
theorem PQ.nh:∀{e:List (eW×eW)}{d:List (Key×V)}{B:List (Addr×HO)},PQ K G e d B->qi B
 |[],_,_,h=>by rw[h.2];exact .nil
 | (_,_)::_,_,_,⟨y,v,TL,B1,B2,a,a2,b,c,t⟩=>by rw[b];exact c.nh.append t.nh
theorem PQ.XZ(e:eZ G H):∀{g:List (eW×eW)}{f:List (Key×V)}{B:List (Addr×HO)},PQ K G g f B->(∀x∈B,H x.1=Y x.2)->f9 K H g f
 |[],_,_,h,_=>by rw[h.1];exact f9.fe.mpr rfl
 | (_,_)::_,_,_,⟨y,v,TL,B1,B2,a,a2,b,c,t⟩,hB=>by subst a a2 b;exact f9.da.mpr ⟨y,v,TL,rfl,rfl,c.L1 e λx d=>hB x (aM _ d),t.XZ e λx d=>hB x (aq _ d)⟩
theorem qP.sim{g:Hp}{d:eW}{q:Addr}{o:HO}(h:qP K G d q o)(e:Am K G g):qP K g d q o:=by
 rcases h with ⟨k,i,a,b,c⟩ | ⟨f,j,a,b,c⟩
 ·exact .inl ⟨k,i,a,b,c.sim e⟩
 ·exact .inr ⟨f,j,a,b,c.sim e⟩
def qP.frm{q:Addr}{o:HO}(h:qP K G d q o):M9 o:=by rcases h with ⟨i,f,a,b,c⟩ | ⟨e,g,a,b,c⟩<;>subst b<;>exact aV
def qP.L1{o:HO}{p:Addr}(h:qP K G d p o)(e:eZ G H)(a:H p=Y o):dy K H d (.ref p):=by
 rcases h with ⟨ds,vs,rfl,rfl,c⟩ | ⟨b,f,rfl,rfl,c⟩
 ·exact dy.fG.mpr ⟨p,vs,rfl,ng.of a,c.same e⟩
 ·exact dy.lE.mpr ⟨p,rfl,.inl ⟨f,.inl a,c.same e⟩⟩
theorem pk.sim{g:Bool}{i:Hp}{d:eW}{q:Addr}{o:HO}{B:List (Addr×HO)}(e:Am K G i)(h:pk g K G d q o B):pk g K i d q o B:=by
 cases g with
 |false=>exact⟨h.1.sim e,h.2⟩
 |true=>
  rcases h with ⟨l,j,a,b,c⟩ | ⟨f,k,a,b,c⟩
  ·exact .inl ⟨l,j,a,b,c.sim e⟩
  ·exact .inr ⟨f,k,a,b,c.sim e⟩
def pk.same{a:Hp}{q:Addr}{o:HO}(e:eZ G a)(h:pk dp K G d q o B):pk dp K a d q o B:=pk.sim e.sim h
theorem pk.nh{e:Bool}{d:eW}{q:Addr}{o:HO}{B:List (Addr×HO)}(h:pk e K G d q o B):qi ((q,o)::B):=by
 cases e with
 |false=>rw[h.2];exact .one h.1.frm .nil
 |true=>
  rcases h with ⟨j,g,a,b,c⟩ | ⟨f,i,a,b,c⟩
  ·subst b;exact .one aV c.nh
  ·subst b;exact .one aV c.nh
theorem pk.L1{f:Bool}{d:eW}{o:HO}{p:Addr}{B:List (Addr×HO)}(h:pk f K G d p o B)(e:eZ G H)(a:H p=Y o)(b:∀x∈B,H x.1=Y x.2):dy K H d (.ref p):=by
 cases f with
 |false=>exact h.1.L1 e a
 |true=>
  rcases h with ⟨ds,vs,rfl,rfl,c⟩ | ⟨g,i,rfl,rfl,c⟩
  ·exact dy.fG.mpr ⟨p,vs,rfl,ng.of a,c.XY e b⟩
  ·exact dy.lE.mpr ⟨p,rfl,.inl ⟨i,.inl a,c.XZ e b⟩⟩
theorem ju.sim{c:Str}{m:Hp}(e:Am K G m):∀{r:List (eW×eW)}{i:List (Str×V)}{B:List (Addr×HO)},ju K G c r i B->ju K m c r i B
 |[],_,_,h=>h
 | (k,d)::r,_,_,h=>by
  obtain⟨y,v,a,l,j,⟨g,f,b⟩ | ⟨g,q,o,s,B',f,b,p,n⟩⟩:=h
  ·exact⟨y,v,a,l,j,.inl ⟨g,f.sim e,ju.sim e b⟩⟩
  ·exact⟨y,v,a,l,j,.inr ⟨g,q,o,s,B',f,b,p.sim e,ju.sim e n⟩⟩
def ju.same{b:Hp}(e:eZ G b):∀{r:List (eW×eW)}{a:List (Str×V)}{B:List (Addr×HO)},ju K G c r a B->ju K b c r a B:=λh=>ju.sim e.sim h
theorem ju.nh{c:Str}:∀{r:List (eW×eW)}{e:List (Str×V)}{B:List (Addr×HO)},ju K G c r e B->qi B
 |[],_,_,h=>by rw[h.2];exact .nil
 | (k,d)::r,_,_,h=>by
  obtain⟨y,v,b,m,l,⟨j,i,a⟩ | ⟨j,q,o,n,p,i,a,g,f⟩⟩:=h
  ·exact ju.nh a
  ·rw[a];exact qi.append g.nh (ju.nh f)
theorem ju.Va{c:Str}(e:eZ G H):∀{r:List (eW×eW)}{i:List (Str×V)}{B:List (Addr×HO)},ju K G c r i B->(∀x∈B,H x.1=Y x.2)->km K H r i
 |[],_,_,h,_=>by rw[h.1];exact km.fe.mpr rfl
 | (k,d)::r,_,_,h,hB=>by
  obtain⟨y,v,a,l,j,⟨p,g,f⟩ | ⟨p,q,o,s,t,g,f,n,m⟩⟩:=h
  ·exact km.da.mpr ⟨y,v,a,l,j,g.same e,ju.Va e f hB⟩
  ·subst f g;exact km.da.mpr ⟨y,_,a,l,j,n.L1 e (hB (q,o) (by simp)) (λx b=>hB x (by simp[b])),ju.Va e m λx b=>hB x (by simp[b])⟩
theorem jE.sim{f:Bool}{g:Hp}{d:eW}{v:V}{B:List (Addr×HO)}(h:jE f K G d v B)(e:Am K G g):jE f K g d v B:=by
 rcases h with ⟨q,o,t,a,b,c⟩ | ⟨c,C,p,j,i,r,B',s,n,m,l,k⟩
 ·exact .inl ⟨q,o,t,a,b,c.sim e⟩
 ·exact .inr ⟨c,C,p,j,i,r,B',s,n,m,l,k.sim e⟩
def jE.same{a:Hp}(h:jE dp K G d v B)(e:eZ G a):jE dp K a d v B:=jE.sim h e.sim
theorem jE.nh{e:Bool}{d:eW}{v:V}{B:List (Addr×HO)}(h:jE e K G d v B):qi B:=by
 rcases h with ⟨q,o,n,a,b,c⟩ | ⟨c,C,p,j,i,r,s,m,l,g,k,f⟩
 ·rw[b];exact c.nh
 ·rw[g];exact .ins f.nh
theorem jE.L1{i:Bool}{d:eW}{v:V}{B:List (Addr×HO)}(h:jE i K G d v B)(e:eZ G H)(a:∀x∈B,H x.1=Y x.2):dy K H d v:=by
 rcases h with ⟨q,o,l,rfl,rfl,c⟩ | ⟨c,C,p,g,f,r,m,rfl,rfl,rfl,k,j⟩
 ·exact c.L1 e (a (q,o) (by simp)) λx b=>a x (by simp[b])
 ·exact dy.lE.mpr ⟨p,rfl,.inr ⟨c,C,g,f,k,a (p,.ins C g f) (by simp),pM.da.mpr ⟨rfl,rfl,j.Va e λx b=>a x (by simp[b])⟩⟩⟩
theorem ju.split{c y:Str}{d:eW}(F:mh c y=true):∀{r:List (eW×eW)}{H:List (Str×V)}{B:List (Addr×HO)},ju K G c r H B->pP y r=Y d ->
  ∃q o l j i,H.lookup y=Y (.ref q)/\B=j++((q,o)::(l++i))/\qi j/\qi i/\pk (qk c y) K G d q o l/\∀g s b a,eZ G g->pk (qk c y) K g s q b a->ju K g c (qj y s r) H (j++((q,b)::(a++i)))
 |[],_,_,_,e=>by cases e
 | (k,x)::r,_,B,h,e=>by
  obtain⟨z,v,n,S,R,h⟩:=h;subst S R;by_cases q:z=y
  ·subst q;simp only[pP,bD] at e;cases e;rcases h with ⟨f,_⟩ | ⟨f,q,o,l,N,w,u,C,A⟩
   ·rw[F] at f;cases f
   ·subst w u;refine⟨q,o,l,[],N,by rw[aY,cu.mpr rfl],rfl,.nil,A.nh,C,λg s b a m t=>?_⟩;simp only[qj,bD];exact⟨z,_,n,rfl,rfl,.inr ⟨f,q,b,a,N,rfl,rfl,t,A.same m⟩⟩
  ·simp only[pP,ai q] at e;rcases h with ⟨f,w,u⟩ | ⟨f,O,o,P,N,w,u,C,A⟩
   ·obtain⟨p,o,l,j,i,M,L,E,D,J,I⟩:=ju.split F u e;refine⟨p,o,l,j,i,by rw[aY,aU.mpr (λz=>q z.symm)];exact M,L,E,D,J,λg s b a m t=>?_⟩;simp only[qj,ai q];exact⟨z,v,n,rfl,rfl,.inl ⟨f,w.same m,I g s b a m t⟩⟩
   ·subst w u;obtain⟨p,Q,l,j,i,M,L,E,D,J,I⟩:=ju.split F A e;refine⟨p,Q,l,(O,o)::(P++j),i,by rw[aY,aU.mpr (λz=>q z.symm)];exact M,by rw[L];simp,qi.append C.nh E,D,J,λg s b a m t=>?_⟩;simp only[qj,ai q];exact⟨z,_,n,rfl,rfl,.inr ⟨f,O,o,P,j++((p,b)::(a++i)),rfl,by simp,C.same m,I g s b a m t⟩⟩
theorem ju.put{c y:Str}{d:eW}{v:V}(b:mh c y=false)(i:dy K G d v):∀{r:List (eW×eW)}{j:List (Str×V)}{B:List (Addr×HO)},ju K G c r j B->ju K G c (qj y d r) (mf y v j) B
 |[],_,_,h=>by obtain⟨rfl,rfl⟩:=h;exact⟨y,v,[],rfl,rfl,.inl ⟨b,i,rfl,rfl⟩⟩
 | (k,x)::r,_,_,h=>by
  obtain⟨z,u,g,s,p,h⟩:=h;subst s p;by_cases q:z=y
  ·subst q;simp only[qj,mf,bD];rcases h with ⟨a,f,e⟩ | ⟨a,_⟩
   ·exact⟨z,v,g,rfl,rfl,.inl ⟨b,i,e⟩⟩
   ·rw[b] at a;cases a
  ·simp only[qj,mf,ai q];rcases h with ⟨a,f,e⟩ | ⟨a,l,o,t,w,f,e,n,m⟩
   ·exact⟨z,u,_,rfl,rfl,.inl ⟨a,f,ju.put b i e⟩⟩
   ·exact⟨z,u,_,rfl,rfl,.inr ⟨a,l,o,t,w,f,e,n,ju.put b i m⟩⟩
theorem ju.add{c y:Str}{d:eW}{q:Addr}{o:HO}{a:List (Addr×HO)}(b:mh c y=true)(i:pk (qk c y) K G d q o a):∀{r:List (eW×eW)}{m:List (Str×V)}{B:List (Addr×HO)},ju K G c r m B->pP y r=Z ->
  ju K G c (qj y d r) (mf y (.ref q) m) (B++(q,o)::a)
 |[],_,_,h,_=>by obtain⟨rfl,rfl⟩:=h;exact⟨y,_,[],rfl,rfl,.inr ⟨b,q,o,a,[],rfl,by simp,i,rfl,rfl⟩⟩
 | (k,x)::r,_,_,h,e=>by
  obtain⟨z,u,s,A,w,h⟩:=h;subst A w;by_cases f:z=y
  ·simp only[pP,ah f] at e;cases e
  ·simp only[pP,ai f] at e;simp only[qj,mf,ai f];rcases h with ⟨l,j,g⟩ | ⟨l,n,p,C,D,j,g,v,t⟩
   ·exact⟨z,u,_,rfl,rfl,.inl ⟨l,j,ju.add b i g e⟩⟩
   ·subst g;exact⟨z,u,_,rfl,rfl,.inr ⟨l,n,p,C,D++(q,o)::a,j,by simp,v,ju.add b i t e⟩⟩
theorem ju.len{c:Str}:∀{r:List (eW×eW)}{a:List (Str×V)}{B:List (Addr×HO)},ju K G c r a B->a.length=r.length
 |[],_,_,h=>by rw[h.1];rfl
 | (k,d)::r,_,_,h=>by
  obtain⟨y,v,f,e,m,⟨j,i,b⟩ | ⟨j,q,o,n,B',i,b,l,g⟩⟩:=h
  ·rw[e,ao,ao,ju.len b]
  ·rw[e,ao,ao,ju.len g]
end
def kS(O:List Nat):Bool:=O.contains 99
def iy(a:Bool)(K:Fg)(σ:St)(ρ:bb)(G:Hp):List Nat->List (Addr×HO)->Prop
 |[],B=>B=[]
 |i::O,B=>((ρ[i]?).join=Z/\iy a K σ ρ G O B)\/∃d v c b,ρ[i]?=Y (Y d)/\σ[i]?=Y (Y v)/\B=c++b/\jE a K G d v c/\iy a K σ ρ G O b
structure ip (O:List Nat) (K:Fg) (σ:St) (ρ:bb) (H G:Hp):Prop where
 len:σ.length=ρ.length
 ex:∃B,H=fi G B/\j6 G B/\iy (kS O) K σ ρ G O B
 lB:∀(i:Nat) (d:eW),ρ[i]?=Y (Y d)->i∉O->∃v,σ[i]?=Y (Y v)/\dy K G d v
def join_some{l:List (Option α)}{d:α}(h:(l[i]?).join=Y d):l[i]?=Y (Y d):=by
 cases q:l[i]? with
 |none=>rw[q] at h;cases h
 |some o=>rw[q] at h;cases o with
  |none=>cases h
  |some a=>cases h;rfl
section
theorem iy.sim{f:Hp}(e:Am K G f):∀{O:List Nat}{B:List (Addr×HO)},iy dp K σ ρ G O B->iy dp K σ ρ f O B
 |[],_,h=>h
 |_::_,_,h=>by
  rcases h with ⟨a,b⟩ | ⟨d,v,i,g,a,b,c,q,t⟩
  ·exact .inl ⟨a,iy.sim e b⟩
  ·exact .inr ⟨d,v,i,g,a,b,c,q.sim e,iy.sim e t⟩
def iy.same{a:Hp}(e:eZ G a):∀{O:List Nat}{B:List (Addr×HO)},iy dp K σ ρ G O B->iy dp K σ ρ a O B:=λh=>iy.sim e.sim h
theorem iy.nh:∀{O:List Nat}{B:List (Addr×HO)},iy dp K σ ρ G O B->qi B
 |[],_,h=>by rw[show _=[] from h];exact .nil
 |_::_,_,h=>by
  rcases h with ⟨a,b⟩ | ⟨d,v,e,c,a,b,rfl,q,t⟩
  ·exact iy.nh b
  ·exact q.nh.append (iy.nh t)
theorem iy.other{σ':St}{ρ':bb}:∀{O:List Nat}{B:List (Addr×HO)},iy dp K σ ρ G O B->(∀i∈O,ρ'[i]?=ρ[i]?/\σ'[i]?=σ[i]?)->iy dp K σ' ρ' G O B
 |[],_,h,_=>h
 |j::O,_,h,k=>by
  obtain⟨e,g⟩:=k j (by simp);have f:∀i∈O,ρ'[i]?=ρ[i]?/\σ'[i]?=σ[i]?:=λi l=>k i (aj _ l);rcases h with ⟨a,b⟩ | ⟨d,v,n,m,a,b,c,q,t⟩
  ·exact .inl ⟨by rw[e];exact a,b.other f⟩
  ·exact .inr ⟨d,v,n,m,by rw[e];exact a,by rw[g];exact b,c,q,t.other f⟩
theorem iy.split{i:Nat}{d:eW}:∀{O:List Nat}{B:List (Addr×HO)},O.Nodup->iy dp K σ ρ G O B->i∈O->ρ[i]?=Y (Y d) ->
  ∃v p l o,σ[i]?=Y (Y v)/\B=p++(l++o)/\jE dp K G d v l/\qi p/\qi o /\
   (∀n g e,eZ G n->jE dp K n g v e->iy dp K σ (ρ.set i (Y g)) n O (p++(e++o)))/\iy dp K σ (ρ.set i Z) G O (p++o)
 |[],_,_,_,hi,_=>by cases hi
 |j::O,B,ndO,h,hi,hd=>by
  have f:=bJ.mp ndO;have L:i<ρ.length:=(ay.mp hd).1;by_cases r:j=i
  ·subst r;have u:∀x:Od,∀k∈O,(ρ.set j x)[k]?=ρ[k]?/\σ[k]?=σ[k]?:=λx k N=>by
    have:j≠k:=λz=>f.1 (z▸N);exact⟨ax this,rfl⟩
   rcases h with ⟨a,b⟩ | ⟨g,v,l,J,a,b,c,q,t⟩
   ·rw[hd] at a;cases a
   ·rw[hd] at a;cases a;refine⟨v,[],l,J,b,c,q,.nil,t.nh,λn g e s w=>.inr ⟨g,v,e,J,aH L,b,rfl,w,(t.same s).other (u _)⟩,.inl ⟨by rw[aH L];rfl,t.other (u _)⟩⟩
  ·have y:=(av.mp hi).resolve_left (Ne.symm r);have m:∀x:Od,(ρ.set i x)[j]?=ρ[j]?:=λx=>ax (Ne.symm r);rcases h with ⟨a,b⟩ | ⟨g,v,l,J,a,b,c,q,t⟩
   ·obtain⟨v,p,l,o,I,H,F,E,D,C,A⟩:=iy.split f.2 b y hd;exact⟨v,p,l,o,I,H,F,E,D,λn g e s w=>.inl ⟨by rw[m];exact a,C n g e s w⟩,.inl ⟨by rw[m];exact a,A⟩⟩
   ·obtain⟨M,p,e,o,I,H,F,E,D,C,A⟩:=iy.split f.2 t y hd;refine⟨M,l++p,e,o,I,by rw[c,H];simp,F,q.nh.append E,D,λn g e s w=>.inr ⟨_,v,l,_,by rw[m];exact a,b,by simp,q.same s,C n g e s w⟩,.inr ⟨_,v,l,_,by rw[m];exact a,b,by simp,q,A⟩⟩
def ip.sub(h:ip O K σ ρ H G):eZ G H:=by obtain⟨B,rfl,f,a⟩:=h.ex;exact f.same
theorem iy.at:∀{O:List Nat}{B:List (Addr×HO)},iy dp K σ ρ G O B->∀{i:Nat}{d:eW},i∈O->ρ[i]?=Y (Y d)->∃v f,(∀x∈f,x∈B)/\σ[i]?=Y (Y v)/\jE dp K G d v f
 |[],_,_,_,_,hi,_=>by cases hi
 |j::O,_,h,i,d,hi,hd=>by
  rcases h with ⟨a,b⟩ | ⟨d',v,f,n,a,b,c,q,t⟩
  ·rcases av.mp hi with e|hi
   ·subst e;rw[hd] at a;cases a
   ·exact iy.at b hi hd
  ·rcases av.mp hi with e|hi
   ·subst e;rw[hd] at a;cases a;exact⟨v,f,λx g=>by rw[c];exact aM _ g,b,q⟩
   ·obtain⟨l,k,m,r⟩:=iy.at t hi hd;exact⟨l,k,λx g=>by rw[c];exact aq _ (m x g),r⟩
def ip.full(h:ip O K σ ρ H G):jD K H σ ρ:=by
 obtain⟨B,rfl,f,a⟩:=h.ex;refine⟨h.len,λi d q=>?_⟩;by_cases b:i∈O
 ·obtain⟨v,l,m,e,c⟩:=a.at b q;exact⟨v,e,c.L1 f.same λx g=>fV f.nd x (m x g)⟩
 ·obtain⟨v,k,j⟩:=h.lB i d q b;exact⟨v,k,j.same f.same⟩
def ja:List Nat->bb->bb
 |[],ρ=>ρ
 |i::O,ρ=>(ja O ρ).set i Z
theorem yu:∀(O:List Nat) (ρ:bb),(ja O ρ).length=ρ.length
 |[],_=>rfl
 |i::O,ρ=>by rw[ja,List.length_set];exact yu O ρ
theorem yv:∀{O:List Nat}{ρ:bb}{j:Nat}{d:eW},(ja O ρ)[j]?=Y (Y d)->j∉O/\ρ[j]?=Y (Y d)
 |[],_,_,_,h=>⟨by simp,h⟩
 |i::O,ρ,j,d,h=>by
  unfold ja at h;by_cases c:j=i
  ·subst c;by_cases e:j<(ja O ρ).length
   ·rw[aH e] at h;cases h
   ·rw[cI (by simpa using e)] at h;cases h
  ·rw[ax (Ne.symm c)] at h;obtain⟨a,b⟩:=yv h;exact⟨by simp[c,a],b⟩
def ip.rest(h:ip O K σ ρ H G):jD K G σ (ja O ρ):=by refine⟨by rw[yu];exact h.len,λi d q=>?_⟩;obtain⟨a,b⟩:=yv q;exact h.lB i d b a
def ip.grow{j:Hp}(h:ip O K σ ρ H G)(e:eZ H j):∃g,eZ G g/\(∀a,H a=Z->g a=j a)/\ip O K σ ρ j g:=by
 obtain⟨B,rfl,f,l⟩:=h.ex;have p:∀x∈B,j x.1=Y x.2:=λx b=>e _ _ (fV f.nd x b);let g:Hp:=λa=>if (∃x∈B,x.1=a) then Z else j a
 have m:∀a,(∀x∈B,x.1≠a)->g a=j a:=λa c=>ai λ⟨x,b,z⟩=>c x b z;have r:∀x∈B,g x.1=Z:=λx b=>ah ⟨x,b,rfl⟩;have k:eZ G g:=λa o q=>by
  have c:∀x∈B,x.1≠a:=λx b z=>by have:=f.free x b;rw[z,q] at this;cases this
  rw[m a c];exact e _ _ (by rw[gf c];exact q)
 refine⟨g,k,λa c=>m a λx b z=>?_,h.len,⟨B,r8 f.nd p λa c=>(m a c).symm,⟨f.nd,r,f.ok⟩,l.same k⟩,λi d q n=>?_⟩
 ·have:=fV (G:=G) f.nd x b;rw[z,c] at this;cases this
 obtain⟨v,t,s⟩:=h.lB i d q n;exact⟨v,t,s.same k⟩
def ip.CG{c:Hp} (j:σ.length=ρ.length) (e:iy (kS O) K σ ρ G O B) (g:∀(i:Nat) (d:eW),ρ[i]?=Y (Y d)->i∉O->∃v,σ[i]?=Y (Y v)/\dy K G d v)
  (h:eZ G c) (f:j6 c B):ip O K σ ρ (fi c B) c :=
 ⟨j,⟨B,rfl,f,e.same h⟩,λi d q k=>by obtain⟨v,a,b⟩:=g i d q k;exact⟨v,a,b.same h⟩⟩
theorem ip.set{O:List Nat}{i:Nat}{d:eW}{v:V}(h:ip O K σ ρ H G)(m:i∉O)(e:dy K G d v):ip O K (σ.set i (Y v)) (ρ.set i (Y d)) H G:=by
 obtain⟨B,n,f,g⟩:=h.ex;refine⟨by simpa using h.len,⟨B,n,f,g.other λj k=>?_⟩,λj o q k=>?_⟩
 ·have c:i≠j:=λz=>m (z▸k);exact⟨ax c,ax c⟩
 ·by_cases c:j=i
  ·subst c;have l:j<ρ.length:=by
    have:=(ay.mp q).1;simpa using this
   rw[aH l] at q;cases q;exact⟨v,by rw[aH (by rw[h.len];exact l)],e⟩
  ·rw[ax (Ne.symm c)] at q;obtain⟨u,a,b⟩:=h.lB j o q k;exact⟨u,by rw[ax (Ne.symm c)];exact a,b⟩
theorem ip.own{O:List Nat}(p:O.Nodup)(h:ip O K σ ρ H G){i:Nat}{d:eW}(u:i∈O)(y:ρ[i]?=Y (Y d)):
  ∃v k n g,σ[i]?=Y (Y v)/\H=fi G (k++(n++g))/\j6 G (k++(n++g))/\jE (kS O) K G d v n/\qi k/\qi g /\
   (∀c o e,eZ G c->jE (kS O) K c o v e->j6 c (k++(e++g))->ip O K σ (ρ.set i (Y o)) (fi c (k++(e++g))) c) /\
   (∀c,eZ G c->j6 c (k++g)->ip O K σ (ρ.set i Z) (fi c (k++g)) c):=by
 obtain⟨B,rfl,f,own⟩:=h.ex;obtain⟨v,k,n,g,I,rfl,F,E,D,C,A⟩:=own.split p u y;have m:∀(x:Od) (c:Hp),eZ G c->∀(j:Nat) (d2:eW),(ρ.set i x)[j]?=Y (Y d2)->j∉O->∃v,σ[j]?=Y (Y v)/\dy K c d2 v:=λx c l j d2 q t=>by have r:j≠i:=λz=>t (z▸u);rw[ax (Ne.symm r)] at q;obtain⟨v,a,b⟩:=h.lB j d2 q t;exact⟨v,a,b.same l⟩
 exact⟨v,k,n,g,I,rfl,f,F,E,D,λc o e l w s=>⟨by simpa using h.len,⟨_,rfl,s,C c o e l w⟩,m _ c l⟩,
  λc l s=>⟨by simpa using h.len,⟨_,rfl,s,A.same l⟩,m _ c l⟩⟩
def n5{q:Addr}{o d:HO}{i g:List (Addr×HO)}(k:((i++(q,o)::g).map (·.1)).Nodup):L2.upd (fi G (i++(q,o)::g)) q d=fi G (i++(q,d)::g):=by
 have c:((i++(q,d)::g).map (·.1)).Nodup:=by simpa using k
 refine r8 c (λx f=>?_) λa j=>?_
 ·by_cases b:x.1=q
  ·have m:=fV (G:=G) c x f;have n:=fV (G:=G) c (q,d) (by simp);rw[b] at m;rw[b,fx,<-m,n]
  ·rw[ee b];refine fV k x ?_;rcases aP.mp f with h|h
   ·exact aM _ h
   ·rcases av.mp h with e|h
    ·rw[e] at b;exact absurd rfl b
    ·exact aq _ (aj _ h)
 ·have l:a≠q:=λz=>j (q,d) (by simp) z.symm;rw[ee l];refine gf λx f=>?_;rcases aP.mp f with h|h
  ·exact j x (aM _ h)
  ·rcases av.mp h with e|h
   ·rw[e];exact Ne.symm l
   ·exact j x (aq _ (aj _ h))
def j6.put{q:Addr}{o c:HO}{b a:List (Addr×HO)}(f:j6 G (b++(q,o)::a))(d:qi (b++(q,c)::a)):j6 G (b++(q,c)::a):=by
 refine⟨by simpa using f.nd,λx g=>?_,d⟩;rcases aP.mp g with h|h
 ·exact f.free x (aM _ h)
 ·rcases av.mp h with e|h
  ·rw[e];exact f.free (q,o) (by simp)
  ·exact f.free x (aq _ (aj _ h))
def ip.drop(r:O.Nodup)(h:ip O K σ ρ H G)(J:i∈O):∃F,eZ G F/\ip O K σ (ρ.set i Z) H F:=by
 cases hd:(ρ[i]?).join with
 |none=>
  refine⟨G,.refl G,?_⟩;obtain⟨B,u,f,p⟩:=h.ex;have l:∀(j:Nat) (d:eW),(ρ.set i Z)[j]?=Y (Y d)->ρ[j]?=Y (Y d):=λj d q=>by
   by_cases e:j=i
   ·subst e;by_cases D:j<ρ.length
    ·rw[aH D] at q;cases q
    ·rw[cI (by simpa using D)] at q;cases q
   ·rw[ax (Ne.symm e)] at q;exact q
  refine⟨by simpa using h.len,⟨B,u,f,?_⟩,λj d q I=>h.lB j d (l j d q) I⟩;have s:∀{m:List Nat}{B:List (Addr×HO)},iy (kS O) K σ ρ G m B->iy (kS O) K σ (ρ.set i Z) G m B:=by
   intro m;induction m with
   |nil=>exact λh=>h
   |cons j m C=>
    intro B h;rcases h with ⟨a,b⟩ | ⟨d,v,k,N,a,b,c,q,t⟩
    ·refine .inl ⟨?_,C b⟩;cases q:((ρ.set i Z)[j]?).join with
     |none=>rfl
     |some d=>rw[l j d (join_some q)] at a;cases a
    ·refine .inr ⟨d,v,k,N,?_,b,c,q,C t⟩;have e:j≠i:=λz=>by subst z;rw[a] at hd;cases hd
     rw[ax (Ne.symm e)];exact a
  exact s p
 |some d=>
  obtain⟨v,o,k,n,P,L,f,x,A,y,_,M⟩:=h.own r J (join_some hd);have g:(o++(k++n)).Perm ((o++n)++k):=by rw[aJ];exact cJ _ bj
  have E:j6 G ((o++n)++k):=f.perm g ((A.append y).append x.nh);have u:H=fi (fi G k) (o++n):=by rw[L,i9 f.nd g,jh]
  have w:eZ G (fi G k):=(E.Kw x.nh).same;refine⟨fi G k,w,?_⟩;rw[u];exact M _ w (E.Kv (A.append y))
theorem iy.ins{i:Nat}{m:eW}{v:V}{n:List (Addr×HO)}:∀{O:List Nat}{B:List (Addr×HO)},O.Nodup->iy dp K σ ρ G O B->i∈O->i<ρ.length->i<σ.length->(ρ[i]?).join=Z->jE dp K G m v n ->
  ∃B',iy dp K (σ.set i (Y v)) (ρ.set i (Y m)) G O B'/\B'.Perm (n++B)
 |[],_,_,_,hi,_,_,_,_=>by cases hi
 |j::O,B,ndO,h,hi,hl,X0,hn,ob=>by
  have e:=bJ.mp ndO;by_cases f:j=i
  ·subst f;have o:∀k∈O,(ρ.set j (Y m))[k]?=ρ[k]?/\(σ.set j (Y v))[k]?=σ[k]?:=λk s=>by
    have:j≠k:=λz=>e.1 (z▸s);exact⟨ax this,ax this⟩
   rcases h with ⟨a,b⟩ | ⟨d,u,r,w,a,c,rfl,g,t⟩
   ·exact⟨n++B,.inr ⟨m,v,n,B,aH hl,aH X0,rfl,ob,b.other o⟩,List.Perm.refl _⟩
   ·rw[a] at hn;cases hn
  ·have l:=(av.mp hi).resolve_left (Ne.symm f);rcases h with ⟨a,b⟩ | ⟨d,u,r,w,a,c,rfl,g,t⟩
   ·obtain⟨B',q,p⟩:=iy.ins e.2 b l hl X0 hn ob;exact⟨B',.inl ⟨by rw[ax (Ne.symm f)];exact a,q⟩,p⟩
   ·obtain⟨B',q,p⟩:=iy.ins e.2 t l hl X0 hn ob;refine⟨r++B',.inr ⟨d,u,r,B',by rw[ax (Ne.symm f)];exact a,by rw[ax (Ne.symm f)];exact c,rfl,g,q⟩,(p.append_left _).trans ?_⟩;rw[<-aJ,<-aJ];exact dn _ bj
def ip.new(e:O.Nodup)(h:ip O K σ ρ H G){d':eW}{k:List (Addr×HO)}(m:i∈O)(s:i<ρ.length)(y:jE (kS O) K G d' v k)(C:j6 H k):
  ∃x,eZ G x/\ip O K (σ.set i (Y v)) (ρ.set i (Y d')) (fi H k) x:=by
 obtain⟨p,r,n⟩:=h.drop e m;obtain⟨B,D,f,l⟩:=n.ex;have g:i<(ρ.set i Z).length:=by simpa using s
 obtain⟨B',o,w⟩:=l.ins e m g (by rw[n.len];exact g) (by rw[aH s];rfl) (y.same r);rw[List.set_set] at o;subst D;have A:j6 p (k++B):=f.join C;have u:j6 p B':=A.perm w.symm o.nh;refine⟨p,r,by simpa using h.len,⟨B',?_,u,o⟩,λj d q t=>?_⟩
 ·rw[i9 u.nd w,jh]
 ·have c:j≠i:=λz=>t (z▸m);rw[ax (Ne.symm c)] at q;obtain⟨v,a,b⟩:=n.lB j d (by rw[ax (Ne.symm c)];exact q) t;exact⟨v,by rw[ax (Ne.symm c)];exact a,b⟩
end
noncomputable def nB:eW->eW->Bool
 |.int a,.int b=>decide (a=b)
 |.str a,.str b=>decide (a=b)
 |_,_=>false
def k8(a b:Key):nB (j8 a) (j8 b)=decide (a=b):=by cases a<;>cases b<;>simp[j8,nB]
noncomputable def pq:eW->Option Key
 |.int i=>Y (.inl i)
 |.str x=>Y (.inr x)
 |_=>Z
def g9{k:Key}(h:pq d=Y k):d=j8 k:=by cases d<;>simp[pq] at h<;>subst h<;>rfl
def iz{k:Key}(h:dy K H (j8 k) v):v=kV k:=by
 cases k with
 |inl i=>exact dy.fw.mp h
 |inr x=>exact dy.fz.mp h
def jb(k:eW):List (eW×eW)->Od
 |[]=>Z
 | (y,d)::r=>if nB y k=true then Y d else jb k r
noncomputable def Aq(k v:eW)(a:List (eW×eW)):List (eW×eW) :=
 if (a.any λx=>nB x.1 k)=true then a.map (λx=>if nB x.1 k=true then (x.1,v) else x) else a++[(k,v)]
def fZ:List (eW×eW)->Bool
 | (.none,_)::_=>true
 |_=>false
section
def pL.r{kvs:List (Key×V)}{k:Key}(e:Rd H a (.dK kvs)):pL H a (kV k) (mJ kvs k):=.inl ⟨kvs,k,e,rfl,rfl⟩
def dy.oR(h:dy K H (.dict kvs) v)(g:fZ kvs=false):∃p a,v=.ref p/\Rd H p (.dK a)/\f9 K H kvs a:=by
 obtain⟨p,i,⟨a,f,e⟩ | ⟨c,C,l,j,f,e,b⟩⟩:=dy.lE.mp h
 ·exact⟨p,a,i,f,e⟩
 ·cases kvs with
  |nil=>exact(pM.fe.mp b).elim
  |cons x r=>obtain⟨k,d⟩:=x;obtain⟨rfl,_,_⟩:=pM.da.mp b;cases g
def dy.Ha{r:List (eW×eW)}(h:dy K H (.dict ((.none,.str c)::r)) v):∃p C d a,v=.ref p/\jC K c C/\H p=Y (.ins C d a)/\km K H r a:=by
 obtain⟨p,k,⟨l,f,b⟩ | ⟨m,C,d,a,f,b,j⟩⟩:=dy.lE.mp h
 ·obtain⟨y,_,_,_,e,_⟩:=f9.da.mp b;cases y<;>cases e
 ·obtain⟨_,i,g⟩:=pM.da.mp j;cases i;exact⟨p,C,d,a,k,f,b,g⟩
theorem f9.val{y:Key}:∀{f:List (eW×eW)}{g:List (Key×V)},f9 K H f g ->
  (jb (j8 y) f=Z/\mJ g y=Z)\/∃d v,jb (j8 y) f=Y d/\mJ g y=Y v/\dy K H d v
 |[],_,h=>by rw[f9.fe.mp h];exact .inl ⟨rfl,rfl⟩
 | (k,d)::r,_,h=>by
  obtain⟨z,v,m,rfl,rfl,i,t⟩:=f9.da.mp h;by_cases e:z=y
  ·right;exact⟨d,v,by simp[jb,k8,e],um e,i⟩
  ·rcases f9.val (y:=y) t with ⟨a,b⟩ | ⟨l,j,a,b,c⟩
   ·exact .inl ⟨by simp[jb,k8,e,a],by rw[qY (p:=(z,v)) e];exact b⟩
   ·exact .inr ⟨l,j,by simp[jb,k8,e,a],by rw[qY (p:=(z,v)) e];exact b,c⟩
theorem f9.any{y:Key}:∀{a:List (eW×eW)}{b:List (Key×V)},f9 K H a b->(b.any λx=>decide (x.1=y))=a.any λx=>nB x.1 (j8 y)
 |[],_,h=>by rw[f9.fe.mp h];rfl
 | (k,d)::r,_,h=>by obtain⟨z,v,c,rfl,rfl,i,t⟩:=f9.da.mp h;rw[bz,bz,f9.any t,k8]
theorem f9.GY{y:Key}{d:eW}{v:V}(i:dy K H d v):∀{a:List (eW×eW)}{b:List (Key×V)},f9 K H a b ->
  f9 K H (a.map λx=>if nB x.1 (j8 y)=true then (x.1,d) else x) (b.map λx=>if x.1=y then (x.1,v) else x)
 |[],_,h=>by rw[f9.fe.mp h];exact f9.fe.mpr rfl
 | (k',j)::r,_,h=>by
  obtain⟨z,f,g,rfl,rfl,c,t⟩:=f9.da.mp h;rw[af,af,k8];by_cases e:z=y
  ·rw[ah e,ah (aW e)];exact f9.da.mpr ⟨_,_,_,rfl,rfl,i,f9.GY i t⟩
  ·rw[ai e,ai (by simp[e])];exact f9.da.mpr ⟨_,_,_,rfl,rfl,c,f9.GY i t⟩
theorem f9.snoc{y:Key}{d:eW}{v:V}(i:dy K H d v):∀{a:List (eW×eW)}{b:List (Key×V)},f9 K H a b->f9 K H (a++[(j8 y,d)]) (b++[(y,v)])
 |[],_,h=>by rw[f9.fe.mp h];exact f9.da.mpr ⟨_,_,_,rfl,rfl,i,f9.fe.mpr rfl⟩
 | (k',g)::r,_,h=>by obtain⟨z,e,f,rfl,rfl,c,t⟩:=f9.da.mp h;exact f9.da.mpr ⟨_,_,_,rfl,rfl,c,f9.snoc i t⟩
def f9.put{y:Key}(h:f9 K H kvs kv)(i:dy K H d v):f9 K H (Aq (j8 y) d kvs) (putK kv y v):=by
 unfold Aq putK;rw[h.any];by_cases e:(kvs.any λx=>nB x.1 (j8 y))=true
 ·rw[ah e,ah e];exact h.GY i
 ·rw[ai e,ai e];exact h.snoc i
theorem f9.length:∀{kvs:List (eW×eW)}{a:List (Key×V)},f9 K H kvs a->kvs.length=a.length
 |[],_,h=>by rw[f9.fe.mp h];rfl
 | (k,d)::r,_,h=>by obtain⟨z,v,b,rfl,rfl,i,t⟩:=f9.da.mp h;simp[f9.length t]
end
section
variable {a i:Expr}{fb:bb->Od}{apos gd:Pos}
def PE.or{t u:TE}(h:PE X e t)(b:PE X e u):PE X e (λσ H Q=>t σ H Q\/u σ H Q):=λa s σ H Q I q=>q.elim (@h a s σ H Q I) (@b a s σ H Q I)
def IW(x k:eW):Od:=match x with
 |.dict kvs=>if fZ kvs=true then Z else (pq k).bind λ_=>jb k kvs
 |_=>Z
def QD(J:X.A.units+64<cLine)(B:PD X a fa)(z:PD X b fb)(f:Er b):PD X (.Subscript a b pos) (d2 IW fa fb) :=
 PE.imp (IM (by omega) B z f) λσ H Q h=>by
  obtain⟨ρ,d,f,e,k⟩:=h;obtain⟨x,G,e⟩:=bind_some e;obtain⟨y,F,e⟩:=bind_some e;refine⟨ρ,x,f,G,λv M m w=>⟨ρ,y,f.same m,F,λu L l t=>?_⟩⟩;obtain⟨c,rfl⟩:∃c,x=.dict c:=by cases x<;>first|exact⟨_,rfl⟩|(simp[IW] at e)
  unfold IW at e;by_cases j:fZ c=true
  ·dsimp only at e;rw[ah j] at e;cases e
  ·dsimp only at e;rw[ai j] at e;obtain⟨s,E,g⟩:=bind_some e;obtain⟨p,I,rfl,D,C⟩:=(w.same l).oR (by simpa using j);have:=g9 E;subst this;rw[iz t];rcases C.val (y:=s) with ⟨i,_⟩ | ⟨K,n,i,q,o⟩
   ·rw[i] at g;cases g
   ·rw[i] at g;cases g;exact⟨p,n,rfl,by rw[<-q];exact pL.r D,k.later (m.trans l) |>.here o⟩
def mj(x k:eW):Od:=match x with
 |.dict kvs=>IW (.dict kvs) k
 |x=>ZA x k
def Vb(o:X.A.units+64<cLine)(i:PD X a fa)(g:PD X b fb)(c:ui b)(f:Er b):PD X (.Subscript a b pos) (d2 mj fa fb) :=
 PE.imp (PE.or (XI ixD i g c) (QD o i g f)) λσ H Q h=>by
  obtain⟨ρ,d,c,e,k⟩:=h;obtain⟨x,m,p⟩:=bind_some e;obtain⟨y,l,j⟩:=bind_some p;cases x with
  |dict n=>exact .inr ⟨ρ,d,c,by show (fa ρ).bind _=_;rw[m];show (fb ρ).bind _=_;rw[l];exact j,k⟩
  |_=>exact .inl ⟨ρ,d,c,by show (fa ρ).bind _=_;rw[m];show (fb ρ).bind _=_;rw[l];exact j,k⟩
noncomputable def nq(x k:eW):Od:=match x with
 |.dict kvs=>if fZ kvs=true then Z else (pq k).bind λ_=>Y ((jb k kvs).getD .none)
 |_=>Z
theorem mN(L:X.A.units+64<cLine)(E:PD X o fa)(D:PD X e fb)(m:M1 X o "get" apos e gd):PD X (.Call (.Attribute o "get" apos) [e] [] gd) (d2 nq fa fb) :=
 PE.imp (MI (by omega) E D m) λσ H Q h=>by
  obtain⟨ρ,d,q,e,k⟩:=h;obtain⟨x,J,e⟩:=bind_some e;obtain⟨y,I,e⟩:=bind_some e;refine⟨ρ,x,q,J,λv O l C=>?_⟩;obtain⟨a,rfl⟩:∃a,x=.dict a:=by cases x<;>first|exact⟨_,rfl⟩|(simp[nq] at e)
  unfold nq at e;by_cases i:fZ a=true
  ·dsimp only at e;rw[ah i] at e;cases e
  ·dsimp only at e;rw[ai i] at e;obtain⟨w,G,b⟩:=bind_some e;obtain⟨p,z,rfl,s,F⟩:=C.oR (by simpa using i);refine⟨p,rfl,.inl ⟨z,s⟩,ρ,y,q.same l,I,λu N c B=>?_⟩;have:=g9 G;subst this;rw[iz B];refine⟨_,pL.r (c.rd s),?_⟩;have j:=F.same c;have n:=k.later (l.trans c);rcases j.val (y:=w) with ⟨g,f⟩ | ⟨M,K,g,f,t⟩
   ·rw[g] at b;cases b;rw[f];exact n.here (dy.gU.mpr rfl)
   ·rw[g] at b;cases b;rw[f];exact n.here t
def Nb(i:X.A.units+64<cLine):k6 X (compareOp .In) (λx y H Q=>∃p a k,x=kV k/\y=.ref p/\Rd H p (.dK a)/\Q (.bl (mJ a k).isSome) H):=by intro b s σ H x y v u Q I d c h;obtain⟨p,a,k,rfl,rfl,e,q⟩:=h;cases c;exact aam (by omega) I (pL.r e) d λg f=>⟨.bl _,H,f,rfl,q⟩
def EC(i:X.A.units+64<cLine):k6 X (compareOp .NotIn) (λx y H Q=>∃p a k,x=kV k/\y=.ref p/\Rd H p (.dK a)/\Q (.bl (!(mJ a k).isSome)) H):=by intro b s σ H x y v u Q I d c h;obtain⟨p,a,k,rfl,rfl,e,q⟩:=h;cases c;exact Qp (by omega) I (pL.r e) d λg f=>⟨.bl _,H,f,rfl,q⟩
def uw(I:fu X pins σ H s){x:eW}{u:Value}(n:SeqAt.shaped x=true)(C:dy X.K H x v)(w:fQ v u)(U:A.units+x.depth<cLine):
  ∀{a:Lp}{c:List V}{b:Lw},(∀d∈a,SeqAt.shaped d=true)->c6 X.K H a c->fY c b->∃e:Value->Bool,(∀y∈b,SeqAt.EqAt A s y u (e y))/\b.any e=a.any λd=>eW.eqv d x:=by
 obtain⟨Q,t⟩:=I.qg (aQ n) C w;let e:Value->Bool:=λy=>@decide (∃d g,Reads s.heap y d g/\SeqAt.shaped d=true/\eW.eqv d x=true) (Classical.propDecidable _);have G:∀(d:eW) (g:List Addr) (y:Value),Reads s.heap y d g->SeqAt.shaped d=true->e y=eW.eqv d x:=λd g y r f=>by
  cases q:eW.eqv d x with
  |true=>exact @decide_eq_true _ (Classical.propDecidable _) ⟨d,g,r,f,q⟩
  |false=>refine @decide_eq_false _ (Classical.propDecidable _) ?_;rintro⟨O,P,l,J,m⟩;have:=SeqAt.Reads.unique d O y _ _ (aQ f) r l;subst this;rw[q] at m;cases m
 intro a;have h:∀{a:Lp}{c:List V}{b:Lw},(∀d∈a,SeqAt.shaped d=true)->c6 X.K H a c->fY c b->(∀y∈b,SeqAt.EqAt A s y u (e y))/\b.any e=a.any λd=>eW.eqv d x:=by
  intro a;induction a with
  |nil=>intro c b _ i r;rw[c6.fe.mp i] at r;cases r;exact⟨(λy j=>by cases j),rfl⟩
  |cons d a D=>
   intro c b o i r;obtain⟨T,l,rfl,F,E⟩:=c6.da.mp i;cases r with
   |cons B z=>
    obtain⟨S,R⟩:=D (λd f=>o d (aj _ f)) E z;have f:=o d (by simp);obtain⟨g,k⟩:=I.qg (aQ f) F B;have p:=G d g _ k f;refine⟨λy j=>?_,by rw[bz,bz,p,R]⟩;rcases av.mp j with q|q
    ·subst q;rw[p];refine SeqAt.eqAt_reads d x A s _ _ g Q k t (aQ f) (aQ n) ?_;have:min d.depth x.depth<=x.depth:=eG _ _;omega
    ·exact S y q
 intro c b N M L;exact⟨e,h N M L⟩
noncomputable def oj:eW->eW->Option Bool
 |x,.list xs=>if SeqAt.shaped x=true/\xs.all SeqAt.shaped=true/\x.depth<=60 then Y (xs.any λy=>eW.eqv y x) else Z
 |x,.tuple xs=>if SeqAt.shaped x=true/\xs.all SeqAt.shaped=true/\x.depth<=60 then Y (xs.any λy=>eW.eqv y x) else Z
 |x,.dict kvs=>if fZ kvs=true then Z else (pq x).map λ_=>(jb x kvs).isSome
 |.str x,.str y=>Y (!(Builtin.Str.occurrences y x 0 y.length 1).isEmpty)
 |_,_=>Z
def CH(x y:eW):Od:=(oj x y).map .bool
def ql(x y:eW):Od:=(oj x y).map λb=>.bool (!b)
def QE(E:X.A.units+64<cLine):k6 X (compareOp .In) (λx y H Q=>∃p d g i,y=.ref p/\(ng X.K H p i\/qL X.K H p i)/\dy X.K H d x/\c6 X.K H g i/\SeqAt.shaped d=true/\g.all SeqAt.shaped=true/\d.depth<=60 /\
  Q (.bl (g.any λy=>eW.eqv y d)) H):=by
 intro t s σ H x y v u Q I o B h;obtain⟨p,d,g,i,rfl,f,w,is,z,l,D,q⟩:=h;cases B;have b:∀d∈g,SeqAt.shaped d=true:=cA.mp l;have c:X.A.in1.units+d.depth<cLine:=by show X.A.units+1+d.depth<cLine;omega
 rcases f with f|f
 ·obtain⟨a,r,j,C⟩:=I.list f;obtain⟨e,n,m⟩:=uw I (A:=X.A.in1) z w o c b is r;refine SeqAt.in_listAt e j.isList (λy k=>n y (by simpa using k)) ⟨.bl _,H,I,rfl,?_⟩;rw[show a.toArray.any e=a.any e by simp,m];exact q
 ·obtain⟨a,r,j,C⟩:=I.tuple f;obtain⟨e,n,m⟩:=uw I (A:=X.A.in1) z w o c b is r;refine SeqAt.in_tupleAt e j (λy k=>n y (by simpa using k)) ⟨.bl _,H,I,rfl,?_⟩;rw[show a.toArray.any e=a.any e by simp,m];exact q
def Hc(E:X.A.units+64<cLine):k6 X (compareOp .NotIn) (λx y H Q=>∃p d g i,y=.ref p/\(ng X.K H p i\/qL X.K H p i)/\dy X.K H d x/\c6 X.K H g i/\SeqAt.shaped d=true/\g.all SeqAt.shaped=true/\d.depth<=60 /\
  Q (.bl (!(g.any λy=>eW.eqv y d))) H):=by
 intro t s σ H x y v u Q I o B h;obtain⟨p,d,g,i,rfl,f,w,is,z,l,D,q⟩:=h;cases B;have b:∀d∈g,SeqAt.shaped d=true:=cA.mp l;have c:X.A.in1.units+d.depth<cLine:=by show X.A.units+1+d.depth<cLine;omega
 rcases f with f|f
 ·obtain⟨a,r,j,C⟩:=I.list f;obtain⟨e,n,m⟩:=uw I (A:=X.A.in1) z w o c b is r;refine SeqAt.notIn_listAt e j.isList (λy k=>n y (by simpa using k)) ⟨.bl _,H,I,rfl,?_⟩;rw[show a.toArray.any e=a.any e by simp,m];exact q
 ·obtain⟨a,r,j,C⟩:=I.tuple f;obtain⟨e,n,m⟩:=uw I (A:=X.A.in1) z w o c b is r;refine SeqAt.notIn_tupleAt e j (λy k=>n y (by simpa using k)) ⟨.bl _,H,I,rfl,?_⟩;rw[show a.toArray.any e=a.any e by simp,m];exact q
def nC(s:X.A.units+64<cLine):uf X (compareOp .In) CH:=by
 refine k6.imp ((QE s).or ((Nb s).or Kg)) ?_;rintro x y H Q ⟨a,b,c,l,j,e,k⟩;obtain⟨t,d,i⟩:=aa.mp e;subst i;cases b with
 |list g=>
  dsimp only[oj] at d;by_cases f:SeqAt.shaped a=true/\g.all SeqAt.shaped=true/\a.depth<=60
  ·rw[ah f] at d;cases d;obtain⟨p,m,rfl,i,h⟩:=dy.fG.mp j;exact .inl ⟨p,a,g,m,rfl,.inl i,l,h,f.1,f.2.1,f.2.2,k.here (dy.fC.mpr rfl)⟩
  ·rw[ai f] at d;cases d
 |tuple g=>
  dsimp only[oj] at d;by_cases f:SeqAt.shaped a=true/\g.all SeqAt.shaped=true/\a.depth<=60
  ·rw[ah f] at d;cases d;obtain⟨p,m,rfl,i,h⟩:=j.gP;exact .inl ⟨p,a,g,m,rfl,.inr i,l,h,f.1,f.2.1,f.2.2,k.here (dy.fC.mpr rfl)⟩
  ·rw[ai f] at d;cases d
 |dict q=>
  dsimp only[oj] at d;by_cases f:fZ q=true
  ·rw[ah f] at d;cases d
  ·rw[ai f] at d;obtain⟨r,h,C⟩:=aa.mp d;subst C;obtain⟨p,v,rfl,B,w⟩:=j.oR (by simpa using f);have:=g9 h;subst this;refine .inr (.inl ⟨p,v,r,iz l,rfl,B,?_⟩);rcases w.val (y:=r) with ⟨o,n⟩ | ⟨E,D,o,n,_⟩
   ·rw[n];rw[o] at k;exact k.here (dy.fC.mpr rfl)
   ·rw[n];rw[o] at k;exact k.here (dy.fC.mpr rfl)
 |str z=>
  cases a<;>try (simp[oj] at d;done)
  rename_i u;simp only[oj] at d;cases d;exact .inr (.inr ⟨u,z,dy.fz.mp l,dy.fz.mp j,k.here (dy.fC.mpr rfl)⟩)
 |none=>simp[oj] at d
 |bool _=>simp[oj] at d
 |int _=>simp[oj] at d
def q5(s:X.A.units+64<cLine):uf X (compareOp .NotIn) ql:=by
 refine k6.imp ((Hc s).or ((EC s).or Cg)) ?_;rintro x y H Q ⟨a,b,c,l,j,e,k⟩;obtain⟨t,d,i⟩:=aa.mp e;subst i;cases b with
 |list g=>
  dsimp only[oj] at d;by_cases f:SeqAt.shaped a=true/\g.all SeqAt.shaped=true/\a.depth<=60
  ·rw[ah f] at d;cases d;obtain⟨p,m,rfl,i,h⟩:=dy.fG.mp j;exact .inl ⟨p,a,g,m,rfl,.inl i,l,h,f.1,f.2.1,f.2.2,k.here (dy.fC.mpr rfl)⟩
  ·rw[ai f] at d;cases d
 |tuple g=>
  dsimp only[oj] at d;by_cases f:SeqAt.shaped a=true/\g.all SeqAt.shaped=true/\a.depth<=60
  ·rw[ah f] at d;cases d;obtain⟨p,m,rfl,i,h⟩:=j.gP;exact .inl ⟨p,a,g,m,rfl,.inr i,l,h,f.1,f.2.1,f.2.2,k.here (dy.fC.mpr rfl)⟩
  ·rw[ai f] at d;cases d
 |dict q=>
  dsimp only[oj] at d;by_cases f:fZ q=true
  ·rw[ah f] at d;cases d
  ·rw[ai f] at d;obtain⟨r,h,C⟩:=aa.mp d;subst C;obtain⟨p,v,rfl,B,w⟩:=j.oR (by simpa using f);have:=g9 h;subst this;refine .inr (.inl ⟨p,v,r,iz l,rfl,B,?_⟩);rcases w.val (y:=r) with ⟨o,n⟩ | ⟨E,D,o,n,_⟩
   ·rw[n];rw[o] at k;exact k.here (dy.fC.mpr rfl)
   ·rw[n];rw[o] at k;exact k.here (dy.fC.mpr rfl)
 |str z=>
  cases a<;>try (simp[oj] at d;done)
  rename_i u;simp only[oj] at d;cases d;exact .inr (.inr ⟨u,z,dy.fz.mp l,dy.fz.mp j,k.here (dy.fC.mpr rfl)⟩)
 |none=>simp[oj] at d
 |bool _=>simp[oj] at d
 |int _=>simp[oj] at d
def mO:Lp->Od
 |[.dict kvs]=>if fZ kvs=true then Z else Y (.int kvs.length)
 |ds=>MW ds
def QF:Bl X (.builtin "len") mO:=by
 refine jU.imp (jU.or U6 Kq) ?_;rintro l H Q ⟨j,c,i,e,k⟩;unfold mO at e;split at e
 ·rename_i a;by_cases b:fZ a=true
  ·rw[ah b] at e;cases e
  ·rw[ai b] at e;cases e;obtain⟨v,rfl,f⟩:=jf i;obtain⟨p,d,rfl,h,g⟩:=f.oR (by simpa using b);refine .inr ⟨p,d,rfl,h,?_⟩;rw[<-g.length];exact k.here (dy.fw.mpr rfl)
 ·exact .inl ⟨j,c,i,e,k⟩
def fT(K:Fg)(c f:Str):Prop:=∃C,jC K c C/\GJ K C/\qW K C f
noncomputable def gG(a:Lr)(f:Str)(d:eW):Od:=match d with
 |.dict ((.none,.str c)::r)=>if c∈a then pP f r else Z
 |_=>Z
def fJ(a:Lr)(n:Str)(f:bb->Od):bb->Od:=λρ=>(f ρ).bind (gG a n)
def Nc{cs:Lr}{n:Str}(q:∀c∈cs,fT X.K c n)(m:PD X e f)(o:attributeBase e n X.env (eval e X.env)=eval e X.env:=by rfl):PD X (.Attribute e n pos) (fJ cs n f) :=
 PE.imp (Cj m o) <| by
  rintro σ H Q ⟨ρ,d,j,e,k⟩;obtain⟨x,D,a⟩:=bind_some e;refine⟨ρ,x,j,D,λv F g i=>?_⟩;unfold gG at a;split at a
  ·rename_i c r;by_cases b:c∈cs
   ·rw[ah b] at a;obtain⟨p,C,E,B,rfl,w,t,s⟩:=i.Ha;obtain⟨G,A,z,y⟩:=q c b;have:=w.uniq A;subst this;obtain⟨u,l,h⟩:=s.get a;exact⟨p,C,E,B,u,rfl,t,z,y,l,(k.later g).here h⟩
   ·rw[ai b] at a;cases a
  ·cases a
end
end L2
local macro_rules
| `(zP $s $m $a) => `(L2.Nc (cs := [$s]) (fun c hc => (List.mem_singleton.mp hc) ▸ $m) $a)
| `(zL $m $a) => `(L2.yn L2.QF rfl $m (by rfl) (L2.fy $a L2.jx))
| `(zN $a) => `(L2.lj L2.mO (L2.gq $a L2.f7))
| `(zX $a $b) => `(L2.d2 L2.mj $a $b)
namespace L2
open PySem PySem.Spec PyProof.Rows
inductive Pl where
 |sl (i:Nat)
 |fl (i:Nat) (c f:Str)
def Pl.ix:Pl->Nat
 |.sl i=>i
 |.fl i _ _=>i
def Nd(c f:Str)(d:eW):Od:=match d with
 |.dict ((.none,.str a)::r)=>if a=c/\mh c f=true then pP f r else Z
 |_=>Z
def Nf(f:Str)(y d:eW):eW:=match d with
 |.dict ((.none,.str c)::r)=>.dict ((.none,.str c)::qj f y r)
 |d=>d
def qQ:Pl->bb->Od
 |.sl i,ρ=>(ρ[i]?).join
 |.fl i c f,ρ=>(ρ[i]?).join.bind (Nd c f)
def vz:Pl->eW->bb->bb
 |.sl i,d,ρ=>ρ.set i (Y d)
 |.fl i _ f,d,ρ=>ρ.set i ((ρ[i]?).join.map (Nf f d))
def Ar(K:Fg)(σ:St)(H:Hp):Pl->Addr->Prop
 |.sl i,q=>σ[i]?=Y (Y (.ref q))
 |.fl i c f,q=>∃C p b a,σ[i]?=Y (Y (.ref p))/\jC K c C/\H p=Y (.ins C b a)/\a.lookup f=Y (.ref q)
def vA:eW->Bool
 |.list _=>true
 |.dict kvs=>!fZ kvs
 |_=>false
section
def jE.cont(h:jE false K G d v B)(e:vA d=true):∃q o,v=.ref q/\B=[(q,o)]/\qP K G d q o:=by
 rcases h with ⟨q,o,i,a,b,c⟩ | ⟨c,C,p,g,f,r,j,rfl,_⟩
 ·exact⟨q,o,a,by rw[b,c.2],c.1⟩
 ·cases e
def jE.ZH{q:Addr}{o:HO}(h:qP K G d q o):jE false K G d (.ref q) [(q,o)]:=.inl ⟨q,o,[],rfl,rfl,h,rfl⟩
def Hd:eW->Bool
 |.list []=>true
 |.dict []=>true
 |_=>false
def qP.gen{q:Addr}{o:HO}(h:qP K G d q o)(b:dp=false\/Hd d=true):pk dp K G d q o []:=by
 cases dp with
 |false=>exact⟨h,rfl⟩
 |true=>
  have b:=b.resolve_left (by simp);rcases h with ⟨i,f,rfl,rfl,c⟩ | ⟨e,g,rfl,rfl,c⟩
  ·cases i with
   |nil=>exact .inl ⟨[],f,rfl,rfl,c6.fe.mp c,rfl⟩
   |cons a l=>cases b
  ·cases e with
   |nil=>exact .inr ⟨[],g,rfl,rfl,f9.fe.mp c,rfl⟩
   |cons a l=>cases b
def pk.Vc{q:Addr}{o:HO}{g:List (Addr×HO)}{r:List (eW×eW)}(h:pk dp K G (.dict ((.none,.str c)::r)) q o g):False:=by
 cases dp with
 |false=>
  rcases h with ⟨⟨_,_,e,_⟩ | ⟨b,d,e,_,i⟩,_⟩
  ·cases e
  ·cases e;obtain⟨y,_,_,_,e,_⟩:=f9.da.mp i;cases y<;>cases e
 |true=>
  rcases h with ⟨_,_,e,_⟩ | ⟨b,d,e,_,i⟩
  ·cases e
  ·cases e;obtain⟨y,v,j,l,k,a,f,_⟩:=i;cases y<;>cases f
def jE.inst{r:List (eW×eW)}(h:jE dp K G (.dict ((.none,.str c)::r)) v B):∃C p b a d,v=.ref p/\B=(p,.ins C b a)::(b,.own p)::d/\jC K c C/\ju K G c r a d:=by
 rcases h with ⟨q,o,k,rfl,rfl,h⟩ | ⟨j,C,p,b,a,i,d,e,rfl,rfl,g,f⟩
 ·exact h.Vc.elim
 ·cases e;exact⟨C,p,b,a,d,rfl,rfl,g,f⟩
def He{f:Str}{x:eW}(h:Nd c f x=Y d):∃r,x=.dict ((.none,.str c)::r)/\mh c f=true/\pP f r=Y d:=by
 unfold Nd at h;split at h
 ·rename_i e r;by_cases a:e=c/\mh c f=true
  ·rw[ah a] at h;obtain⟨rfl,b⟩:=a;exact⟨r,rfl,b,h⟩
  ·rw[ai a] at h;cases h
 ·cases h
def wu(O:List Nat):Pl->Bool
 |.sl _=>kS O
 |.fl _ c f=>qk c f
theorem ip.Vd(s:O.Nodup)(h:ip O K σ ρ H G){π:Pl}(S:π.ix∈O)(T:qQ π ρ=Y d)(hc:vA d=true):
  ∃q o n l k,Ar K σ H π q/\H=fi G (l++((q,o)::(n++k)))/\j6 G (l++((q,o)::(n++k)))/\qi l/\qi k/\pk (wu O π) K G d q o n /\
   ∀e j b a,eZ G e->pk (wu O π) K e j q b a->j6 e (l++((q,b)::(a++k)))->ip O K σ (vz π j ρ) (fi e (l++((q,b)::(a++k)))) e:=by
 cases π with
 |sl i=>
  obtain⟨v,l,B1,k,M,u,f,z,F,E,P,_⟩:=h.own s S (join_some T);rcases z with ⟨q,o,n,rfl,rfl,W⟩ | ⟨c,C,p,g,m,r,B',rfl,_⟩
  ·exact⟨q,o,n,l,k,M,u,f,F,E,W,λe j b a w A t=>P e j ((q,b)::a) w (.inl ⟨q,b,a,rfl,rfl,A⟩) t⟩
  ·cases hc
 |fl i c f=>
  obtain⟨x,U,e0⟩:=bind_some T;obtain⟨r,rfl,I,hg⟩:=He e0;obtain⟨v,l,B1,k,M,u,t,z,F,E,P,_⟩:=h.own s S (join_some U);obtain⟨C,p,g,m,B',rfl,rfl,V,a5⟩:=z.inst;obtain⟨q,o,n,R,Q,l1,rfl,m1,m2,X,N⟩:=a5.split I hg;have L:∀(b:HO) (a:List (Addr×HO)),l++(((p,HO.ins C g m)::(g,HO.own p)::(R++((q,b)::(a++Q))))++k)=(l++(p,HO.ins C g m)::(g,HO.own p)::R)++((q,b)::(a++(Q++k))):=λb a=>by simp
  rw[L] at u t;refine⟨q,o,n,_,_,⟨C,p,g,m,M,V,?_,l1⟩,u,t,F.append (.ins m1),m2.append E,X,λe j b a w D J=>?_⟩
  ·rw[u];exact fV t.nd (p,.ins C g m) (by simp)
  ·have B:=N e j b a w D;have y:jE (kS O) K e (.dict ((.none,.str c)::qj f j r)) (.ref p) ((p,HO.ins C g m)::(g,HO.own p)::(R++((q,b)::(a++Q)))):=.inr ⟨c,C,p,g,m,_,_,rfl,rfl,rfl,V,B⟩;have:=P e _ _ w y (by rw[L];exact J);rw[L] at this;have es:vz (.fl i c f) j ρ=ρ.set i (Y (.dict ((.none,.str c)::qj f j r))):=by
    show ρ.set i ((ρ[i]?).join.map (Nf f j))=_;rw[U];rfl
   rw[es];exact this
def ip.place(f:O.Nodup)(h:ip O K σ ρ H G){π:Pl}(p:π.ix∈O)(s:qQ π ρ=Y d)(t:vA d=true)(g:wu O π=false):
  ∃q o,Ar K σ H π q/\H q=Y o/\qP K G d q o/\∀e b,qP K G e q b->ip O K σ (vz π e ρ) (upd H q b) G:=by
 obtain⟨q,o,w,v,u,r,i,c,n,m,j,k⟩:=h.Vd f p s t;rw[g] at j k;obtain⟨l,rfl⟩:=j;refine⟨q,o,r,by rw[i];exact fV c.nd (q,o) (by simp),l,λe b a=>?_⟩;rw[bC] at i c;rw[i,n5 c.nd];exact k G e b [] (.refl G) ⟨a,rfl⟩ (c.put (n.append (.one a.frm m)))
end
inductive Md where
 |dat|own|io (dp:Bool) (v0:V)|exc (W:Int->Hp->Prop)
def KO(K:Fg)(H:Hp)(d:eW)(Q:VK):Prop:=∀v a b,eZ H a->j6 a b->jE false K a d v b->Q v (fi a b)
def KO.later{a:Hp}{Q:VK}(k:KO K H d Q)(e:eZ H a):KO K a d Q:=λv b c s f o=>k v b c (e.trans s) f o
structure lA (m:Md) (O:List Nat) (K:Fg) (σ:St) (ρ:bb) (H G:Hp):Prop where
 o:ip O K σ ρ H G
 z:∀dp v0,m=.io dp v0->0∈O/\σ[0]?=Y (Y v0)/\kS O=dp
def TM(m:Md)(K:Fg)(G:Hp)(d:eW)(Q:VK):Prop:=match m with
 |.dat=>KD K G d Q
 |.own=>KO K G d Q
 |.io dp v0=>∃x c,d=.tuple [x,c]/\∀v a b,eZ G a->j6 a b->jE dp K a c v0 b->dy K a x v->Q v (fi a b)
 |.exc W=>(∃n,d=.int n/\∀a,eZ G a->W n a)\/((∀n,d≠.int n)/\KD K G d Q)
theorem TM.later{m:Md}{K:Fg}{G g:Hp}{d:eW}{Q:VK}(e:eZ G g)(h:TM m K G d Q):TM m K g d Q:=by
 cases m with
 |dat=>exact KD.later h e
 |own=>exact KO.later h e
 |io l k=>obtain⟨x,j,a,b⟩:=h;exact⟨x,j,a,λv c B s f o i=>b v c B (e.trans s) f o i⟩
 |exc W=>
  rcases h with ⟨n,a,b⟩ | ⟨a,b⟩
  ·exact .inl ⟨n,a,λc s=>b c (e.trans s)⟩
  ·exact .inr ⟨a,KD.later b e⟩
def QG(m:Md)(O:List Nat)(K:Fg)(G:Hp)(D:Aj):gC->Prop
 |.nx ρ=>∀σ a b,eZ G b->lA m O K σ ρ a b->D.nx σ a
 |.bk ρ=>∀σ a b,eZ G b->lA m O K σ ρ a b->D.bk σ a
 |.ct ρ=>∀σ a b,eZ G b->lA m O K σ ρ a b->D.ct σ a
 |.rt d=>TM m K G d D.rt
theorem QG.later{m:Md}{O:List Nat}{K:Fg}{G d:Hp}{D:Aj}(e:eZ G d):∀{o:gC},QG m O K G D o->QG m O K d D o
 |.nx _,h=>λσ b c a q=>h σ b c (e.trans a) q
 |.bk _,h=>λσ b c a q=>h σ b c (e.trans a) q
 |.ct _,h=>λσ b c a q=>h σ b c (e.trans a) q
 |.rt _,h=>TM.later e h
def tO(m:Md)(O:List Nat)(K:Fg)(g:bb->Option gC):TS:=λD σ H=>∃ρ o G,lA m O K σ ρ H G/\g ρ=Y o/\QG m O K G D o
def wx(X:Cx)(m:Md)(O:List Nat)(a:Stmt)(g:bb->Option gC):Prop:=PS X a (tO m O X.K g)
def q7(X:Cx)(m:Md)(O:List Nat)(a:List Stmt)(g:bb->Option gC):Prop:=vu X a (tO m O X.K g)
def me:eW->Bool
 |.list _=>false
 |.tuple _=>false
 |.dict _=>false
 |_=>true
def dy.jL{a:Hp}(h:me d=true)(i:dy K H d v):dy K a d v:=by cases d<;>first|(cases h;done)|(unfold dy at i ⊢;exact i)
theorem c6.jL{K:Fg}{H f:Hp}:∀{c:Lp}{e:List V},c.all me=true->c6 K H c e->c6 K f c e
 |[],_,_,i=>by rw[c6.fe.mp i];exact c6.nil
 |d::c,_,h,i=>by obtain⟨v,r,rfl,a,b⟩:=c6.da.mp i;simp only[List.all_cons,b9] at h;exact c6.cons (dy.jL h.1 a) (c6.jL h.2 b)
section
variable {m:Md}{a c:Expr}{fb fc:bb->Od}{p2:Pos}{rest:List Stmt}{g h:bb->Option gC}{gc:bb->Option Bool}
def PV(X:Cx)(O:List Nat)(e:Expr)(h:bb->Od):Prop:=PE X e (λσ H Q=>∃ρ d G,ip O X.K σ ρ H G/\h ρ=Y d/\∀v a b,eZ H a->eZ G b->ip O X.K σ ρ a b->dy X.K b d v->Q v a)
def iF(O:List Nat)(f:bb->Od):bb->Od:=λρ=>f (ja O ρ)
def Kx(f:bb->Od):bb->Od:=λρ=>(f ρ).bind λd=>if me d=true then Y d else Z
def tH{b:Hp}(c:(B.map (·.1)).Nodup)(e:eZ G b):eZ (fi G B) (fi b B):=λa o h=>by
 rcases oS (a:=a) B with ⟨x,d,rfl⟩|h'
 ·rw[fV c x d] at h ⊢;exact h
 ·rw[gf h'] at h ⊢;exact e a o h
def fN(l:PD X e f):PV X O e (iF O f) :=
 PE.imp (PE.frame l) <| by rintro σ H Q ⟨ρ,d,G,a,m,k⟩;obtain⟨B,j,h,c⟩:=a.ex;refine⟨G,B,j,h,ja O ρ,d,a.rest,m,λv n b i g=>?_⟩;subst j;exact k v _ n (tH h.nd b) b (ip.CG a.len c a.lB b g) i
def ED(h:Kx f ρ=Y d):f ρ=Y d/\me d=true:=by
 obtain⟨x,c,a⟩:=bind_some h;by_cases b:me x=true
 ·rw[ah b] at a;cases a;exact⟨c,b⟩
 ·rw[ai b] at a;cases a
def EE(h:PD X e f):PV X O e (Kx f) :=
 PE.imp h <| by rintro σ H Q ⟨ρ,d,G,c,m,k⟩;obtain⟨l,j⟩:=ED m;refine⟨ρ,d,c.full,l,λv n b i=>?_⟩;obtain⟨o,g,_,a⟩:=c.grow b;exact k v n o b g a (i.jL j)
def PF(X:Cx)(e:Expr)(f:bb->Od):Prop:=PE X e (λσ H Q=>∃ρ d,jD X.K H σ ρ/\f ρ=Y d/\KO X.K H d Q)
def X1(X:Cx)(O:List Nat)(e:Expr)(h:bb->Od):Prop:=PE X e (λσ H Q=>∃ρ d G,ip O X.K σ ρ H G/\h ρ=Y d/\∀v a b c,eZ H a->eZ G b->ip O X.K σ ρ a b->j6 a c->jE false X.K b d v c->Q v (fi a c))
def ke(p:PF X e f):X1 X O e (iF O f) :=
 PE.imp (PE.frame p) <| by
  rintro σ H Q ⟨ρ,d,G,c,s,k⟩;obtain⟨B,o,g,i⟩:=c.ex;refine⟨G,B,o,g,ja O ρ,d,c.rest,s,λv a b h q j l=>?_⟩;have n:j6 a (B++b):=q.join l;have m:j6 a (b++B):=n.perm bj (j.nh.append g.ok);have r:fi (fi a b) B=fi (fi a B) b:=by rw[<-jh,<-jh];exact i9 n.nd bj
  rw[r];subst o;exact k v _ a b (tH g.nd h) h (ip.CG c.len i c.lB h (m.Kw g.ok)) (m.Kv j.nh) j
def EF:eW->Bool
 |.list ds=>ds.all me
 |_=>false
def Ve(f:bb->Od):bb->Od:=λρ=>(f ρ).bind λd=>if EF d=true then Y d else Z
def Vf(r:PF X e f):X1 X O e (Ve f) :=
 PE.imp r <| by
  rintro σ H Q ⟨ρ,d,G,l,u,k⟩;obtain⟨x,t,b⟩:=bind_some u;by_cases a:EF x=true
  ·rw[ah a] at b;cases b;refine⟨ρ,d,l.full,t,λv z A j s n=>?_⟩;obtain⟨y,c,_,g⟩:=l.grow j;refine k v z y A j c g s ?_;cases d<;>try (simp[EF] at a;done)
   rename_i B;obtain⟨q,o,rfl,rfl,p⟩:=n.cont rfl;rcases p with ⟨w,m,h,rfl,i⟩ | ⟨_,_,h,_⟩
   ·cases h;exact jE.ZH (.inl ⟨_,m,rfl,rfl,i.jL a⟩)
   ·cases h
  ·rw[ai a] at b;cases b
def q8(m:Bj X es ff):PF X (.List es pos) (kn ff) :=
 PE.imp (GP m) <| by
  rintro σ H Q ⟨ρ,d,j,e,k⟩;obtain⟨h,n,a⟩:=bind_some e;refine⟨ρ,h,j,n,λc o i f=>?_⟩;by_cases b:h.length<=sizeLine
  ·first
   | (rw[ah b] at a;cases a)
   | (cases a)
   refine⟨by rw[<-f.length];exact b,λp l=>?_⟩;exact k (.ref p) o [(p,.lst c)] i ⟨by simp,(λx g=>by simp at g;subst g;exact l),.one aV .nil⟩ (jE.ZH (.inl ⟨_,c,rfl,rfl,f⟩))
  ·rw[ai b] at a;cases a
def vB:PF X (.Dict [] [] pos) (dC (.dict [])) :=
 PE.imp Et <| by rintro σ H Q ⟨ρ,d,c,e,k⟩;cases e;intro p b;exact k (.ref p) H [(p,.dK [])] (.refl H) ⟨by simp,(λx a=>by simp at a;subst a;exact b),.one aV .nil⟩ (jE.ZH (.inr ⟨[],[],rfl,rfl,f9.fe.mpr rfl⟩))
def eB:q7 X m O [] gX:=vu.imp Iz <| by rintro D σ H ⟨ρ,o,G,a,e,k⟩;cases e;exact k σ H G (.refl G) a
def a8(l:wx X m O st g)(j:q7 X m O rest h):q7 X m O (st::rest) (fq g h) :=
 vu.imp (Ea l j) <| by
  rintro D σ H ⟨ρ,o,G,i,e,k⟩;obtain⟨c,n,a⟩:=bind_some e;refine⟨ρ,c,G,i,n,?_⟩;cases c with
  |nx ρ'=>exact λσ' q p f b=>⟨ρ',o,p,b,a,k.later f⟩
  |rt d=>cases a;exact k
  |bk ρ'=>cases a;exact k
  |ct ρ'=>cases a;exact k
def a9(a:wx X m O st g):q7 X m O [st] g:=vu.imp (IA a) λD σ H h=>h
def fh(h:PD X e f):wx X .dat O (.Return (Y e) pos) (gA f) :=
 PS.imp (vv h) <| by rintro D σ H ⟨ρ,o,G,a,e,k⟩;obtain⟨d,c,rfl⟩:=aa.mp e;exact⟨ρ,d,a.o.full,c,λv g b i=>KD.later k (a.o.sub.trans b) |>.here i⟩
def q9(h:PF X e f):wx X .own O (.Return (Y e) pos) (gA f) :=
 PS.imp (vv h) <| by rintro D σ H ⟨ρ,o,G,a,e,k⟩;obtain⟨d,b,rfl⟩:=aa.mp e;exact⟨ρ,d,a.o.full,b,KO.later k a.o.sub⟩
def ux(i:Nat) {z:Pos} (g:O.Nodup) (w:i∈O:=by decide) (h:kS O=false:=by rfl) (y:X.N[i]?=Y x:=by rfl) (s:LZ X.env.scope x:=by first|exact b5 rfl|exact bN (b5 rfl)|exact bN (bN rfl)) (u:zg x:=by decide)
  (j:(x==("__classdict__":Str))=false:=by decide):wx X .own O (.Return (Y (.Name x z)) pos) (gA (a7 i)) :=
 PS.imp (vv (qT y s u j)) <| by
  rintro D σ H ⟨ρ,o,G,t,e,k⟩;obtain⟨d,C,rfl⟩:=aa.mp e;obtain⟨v,m,c,l,B,A,f,b,p,n,_,_⟩:=t.o.own g w (join_some C);rw[h] at b;refine⟨v,B,?_⟩;have a:(m++(c++l)).Perm (c++(m++l)):=by rw[<-aJ,<-aJ];exact dn _ bj
  have r:j6 G (c++(m++l)):=f.perm a (b.nh.append (p.append n));rw[A,i9 f.nd a,jh];have q:=r.Kw (p.append n);exact(show KO X.K G d D.rt from k) v _ c q.same (r.Kv b.nh) (b.same q.same)
def fD{f d:List Stmt}(p:Bi X c gc)(r:q7 X m O f g)(q:q7 X m O d h):wx X m O (.If c f d pos) (kK gc g h) :=
 PS.imp (Mh p r q) <| by
  rintro D σ H ⟨ρ,o,G,b,e,k⟩;obtain⟨y,s,j⟩:=bind_some e;refine⟨ρ,y,b.o.full,s,λt n=>?_⟩;obtain⟨l,i,_,a⟩:=b.o.grow n;cases y with
  |true=>rw[ah rfl];exact⟨ρ,o,l,⟨a,b.z⟩,j,k.later i⟩
  |false=>rw[ai aF];exact⟨ρ,o,l,⟨a,b.z⟩,j,k.later i⟩
def Ky:wx X m O (.Break pos) (λρ=>Y (.bk ρ)):=PS.imp Mg <| by rintro D σ H ⟨ρ,o,G,a,e,k⟩;cases e;exact k σ H G (.refl G) a
def rf:bb->Option gC:=λ_=>Z
def vC:wx X m O st rf:=PS.imp Ec <| by rintro D σ H ⟨ρ,o,G,a,e,k⟩;cases e
theorem lA.set{K:Fg}{σ:St}{ρ:bb}{H G:Hp}{i:Nat}{d:eW}{v:V}(h:lA m O K σ ρ H G)(b:i∉O)(e:dy K G d v):lA m O K (σ.set i (Y v)) (ρ.set i (Y d)) H G :=
 ⟨h.o.set b e,λk g z=>by obtain⟨a,f,c⟩:=h.z k g z;have j:i≠0:=λq=>b (q▸a);exact⟨a,by rw[ax j];exact f,c⟩⟩
def ig(f:bb->Od)(i:Nat):bb->Option gC:=λρ=>(f ρ).map λd=>.nx (ρ.set i (Y d))
def gE(i:Nat) {a:Pos} (r:X.N.Nodup) (p:PV X O e f) (q:i∉O:=by decide) (l:X.N[i]?=Y x:=by rfl) (j:Iv X.env.scope x:=by first|exact b5 rfl|exact bN rfl) (b:swapsWith e (Y (.Name x a)) pos.line X.env=pure false:=by rfl)
  (n:X.fn x=true\/X.env.scope.names.lookup x=Y .local:=by first|exact .inl rfl|exact .inr rfl|assumption):wx X m O (.Assign [.Name x a] e pos) (ig f i) :=
 PS.imp (Gy r l j p b n) <| by rintro D σ H ⟨ρ,o,G,b,e,k⟩;obtain⟨d,s,rfl⟩:=aa.mp e;exact⟨ρ,d,G,b.o,s,λv t u _ g c h=>k _ t u g (lA.set ⟨c,b.z⟩ q h)⟩
noncomputable def nE(f:bb->Od)(i:Nat):bb->Option gC:=λρ=>(f ρ).bind λd=>if i<ρ.length then Y (.nx (ρ.set i (Y d))) else Z
def kr(i:Nat) {a:Pos} (A:X.N.Nodup) (g:O.Nodup) (w:X1 X O e f) (y:i∈O:=by decide) (l:kS O=false:=by rfl) (h0:i≠0\/m=.dat\/m=.own:=by first|exact .inl (by decide)|exact .inr (.inl rfl)|exact .inr (.inr rfl)) (t:X.N[i]?=Y x:=by rfl) (s:Iv X.env.scope x:=by first|exact b5 rfl|exact bN rfl) (b:swapsWith e (Y (.Name x a)) pos.line X.env=pure false:=by rfl)
  (u:X.fn x=true\/X.env.scope.names.lookup x=Y .local:=by first|exact .inl rfl|exact .inr rfl|assumption):wx X m O (.Assign [.Name x a] e pos) (nE f i) :=
 PS.imp (Gy A t s w b u) <| by
  rintro D σ H ⟨ρ,o,G,b,e,k⟩;obtain⟨d,E,c⟩:=bind_some e;by_cases h:i<ρ.length
  ·rw[ah h] at c;cases c;refine⟨ρ,d,G,b.o,E,λv J K L _ q j C n=>?_⟩;rw[<-l] at n;obtain⟨I,r,B⟩:=j.new g y h n C;refine k _ _ I (q.trans r) ⟨B,λF p z=>?_⟩;rcases h0 with h0|h0|h0
   ·rw[ax h0];exact b.z F p z
   ·rw[h0] at z;cases z
   ·rw[h0] at z;cases z
  ·rw[ai h] at c;cases c
def PP(X:Cx)(e:Expr)(π:Pl):Prop:=PE X e (λσ H Q=>∃q,Ar X.K σ H π q/\Q (.ref q) H)
def rg(i:Nat) (d:X.N[i]?=Y x:=by rfl) (b:LZ X.env.scope x:=by first|exact b5 rfl|exact bN (b5 rfl)|exact bN (bN rfl)) (c:zg x:=by decide)
  (a:(x==("__classdict__":Str))=false:=by decide):PP X (.Name x pos) (.sl i):=PE.imp (qT d b c a) λσ H Q ⟨q,r,k⟩=>⟨_,r,k⟩
def Bq(i:Nat) {c n:Str}{a:Pos} (h:fT X.K c n) (g:X.N[i]?=Y x:=by rfl) (d:LZ X.env.scope x:=by first|exact b5 rfl|exact bN (b5 rfl)|exact bN (bN rfl)) (e:zg x:=by decide)
  (b:(x==("__classdict__":Str))=false:=by decide) (f:attributeBase (.Name x a) n X.env (eval (.Name x a) X.env)=eval (.Name x a) X.env:=by rfl):PP X (.Attribute (.Name x a) n pos) (.fl i c n) :=
 PE.imp (Cj (qT g d e b) f) <| by rintro σ H Q ⟨q,⟨C,p,v,o,u,t,s,r⟩,k⟩;obtain⟨w,m,l,j⟩:=h;have:=t.uniq m;subst this;exact⟨_,u,p,C,v,o,_,rfl,s,l,j,r,k⟩
theorem qP.lst{K:Fg}{G:Hp}{b:Lp}{q:Addr}{o:HO}(h:qP K G (.list b) q o):∃a,o=.lst a/\c6 K G b a:=by
 rcases h with ⟨d,a,e,c,i⟩ | ⟨_,_,e,_⟩
 ·cases e;exact⟨a,c,i⟩
 ·cases e
def qP.jt{q:Addr}{o:HO}(h:qP K G (.dict kvs) q o):∃a,o=.dK a/\f9 K G kvs a:=by
 rcases h with ⟨c,d,e,b,i⟩ | ⟨_,a,e,b,i⟩
 ·cases e
 ·cases e;exact⟨a,b,i⟩
def Ar.eq{l:Hp}{π:Pl}{q a:Addr}(h:Ar K σ H π q)(b:Ar K σ l π a)(e:eZ H l):q=a:=by
 cases π with
 |sl i=>have n:σ[i]?=Y (Y (.ref q)):=h;have d:σ[i]?=Y (Y (.ref a)):=b;rw[n] at d;cases d;rfl
 |fl i c f=>obtain⟨C,p,w,v,t,y,s,r⟩:=h;obtain⟨z,u,o,m,k,x,j,g⟩:=b;rw[t] at k;cases k;rw[e _ _ s] at j;cases j;rw[r] at g;cases g;rfl
noncomputable def mD(π:Pl)(f:bb->Od):bb->Option gC:=λρ=>(qQ π ρ).bind λl=>(f ρ).bind λd=>match l with
 |.list ds=>if ds.length<sizeLine then Y (.nx (vz π (.list (ds++[d])) ρ)) else Z
 |_=>Z
def ml{π:Pl}{b a:Pos} (j:O.Nodup) (T:PP X o π) (U:PV X O e f) (I:π.ix∈O:=by decide) (u:wu O π=false:=by rfl) (p:starEach [e] X.env=(false,eval e X.env)::starEach [] X.env:=by rfl)
  (h:attributeBase o "append" X.env (eval o X.env)=eval o X.env:=by rfl)
  (t:((backTo a (starEach [e] X.env)).all (λx=>!x.1)&&(backToKw a (keywordEach [] X.env)).all (λx=>x.1.isSome)&&decide (([e]:Lx).length+([]:List Keyword).length+(if ([]:List Keyword).isEmpty then 0 else 1)<30))=true:=by rfl)
  (g:(b.endLine==a.line)=true:=by rfl) (c:(backTo a (starEach [] X.env)).any (·.1)=false:=by rfl)
  (s:swapsWith (.Call (.Attribute o "append" b) [e] [] a) Z pos.line X.env=pure false:=by rfl):
  wx X m O (.Expr (.Call (.Attribute o "append" b) [e] [] a) pos) (mD π f) :=
 PS.imp (rY (Be bH PySem.F.slot_list_append PySem.F.type_list_append Bf T (lC U qf p) h t g p c) s) <| by
  rintro D σ H ⟨ρ,o,G,s,e,k⟩;obtain⟨l,J,V⟩:=bind_some e;obtain⟨d,W,i⟩:=bind_some V;obtain⟨E,rfl⟩:∃E,l=.list E:=by cases l<;>first|exact⟨_,rfl⟩|cases i
  dsimp only at i;by_cases A:E.length<sizeLine
  ·rw[ah A] at i;cases i;obtain⟨q,ob,r,S,P,_⟩:=s.o.place j I J rfl u;obtain⟨K,rfl,i4⟩:=P.lst;refine⟨q,r,.inl ⟨rfl,K,ng.of S⟩,ρ,d,G,s.o,W,λv H' G' L M B R=>?_⟩;obtain⟨q',Q,N,C,y,cl⟩:=B.place j I J rfl u;have:=Ar.eq r N L;subst this;obtain⟨w,rfl,n⟩:=y.lst;refine⟨q,w,v,rfl,rfl,C,by rw[<-n.length];exact A,?_⟩;exact k _ _ G' M ⟨cl _ _ (.inl ⟨_,_,rfl,rfl,n.append (c6.cons R c6.nil)⟩),s.z⟩
  ·rw[ai A] at i;cases i
end
section
variable {m:Md}{a c:Expr}{fb fc:bb->Od}{p2:Pos}{rest:List Stmt}{g h:bb->Option gC}{gc:bb->Option Bool}
def QH(π:Pl):bb->Option gC:=λρ=>(qQ π ρ).bind λl=>match l with
 |.list ds=>if ds.isEmpty=true then Z else Y (.nx (vz π (.list ds.dropLast) ρ))
 |_=>Z
theorem c6.dropLast{K:Fg}{H:Hp}{b:Lp}{a:List V}(h:c6 K H b a):c6 K H b.dropLast a.dropLast:=by rw[List.dropLast_eq_take,List.dropLast_eq_take,h.length];exact h.take _
def QI{π:Pl}{b a:Pos} (j:O.Nodup) (v:PP X o π) (x:π.ix∈O:=by decide) (p:wu O π=false:=by rfl)
  (d:attributeBase o "pop" X.env (eval o X.env)=eval o X.env:=by rfl) (c:(b.endLine==a.line)=true:=by rfl)
  (h:swapsWith (.Call (.Attribute o "pop" b) [] [] a) Z pos.line X.env=pure false:=by rfl):
  wx X m O (.Expr (.Call (.Attribute o "pop" b) [] [] a) pos) (QH π) :=
 PS.imp (rY (MA bH PySem.F.slot_list_pop PySem.F.type_list_pop MC v d c) h) <| by
  rintro D σ H ⟨ρ,o,G,h,e,k⟩;obtain⟨l,y,f⟩:=bind_some e;obtain⟨i,rfl⟩:∃i,l=.list i:=by cases l<;>first|exact⟨_,rfl⟩|cases f
  dsimp only at f;by_cases n:i.isEmpty=true
  ·rw[ah n] at f;cases f
  ·rw[ai n] at f;cases f;obtain⟨q,B,r,t,u,A⟩:=h.o.place j x y rfl p;obtain⟨g,rfl,s⟩:=u.lst;have w:g.length - 1<g.length:=by
    have:=s.length;have:i≠[]:=λz=>n (by rw[z];rfl);have:=List.length_pos_iff.mpr this;omega
   exact⟨q,r,.inl ⟨rfl,g,ng.of t⟩,q,g,_,rfl,rfl,t,aI w,k _ _ G (.refl G) ⟨A _ _ (.inl ⟨_,_,rfl,rfl,s.dropLast⟩),h.z⟩⟩
def X2:V->V->V->Hp->(Hp->Prop)->Prop:=λo i v H Q=>∃p a k,o=.ref p/\i=kV k/\H p=Y (.dK a)/\a.length<sizeLine/\Q (upd H p (.dK (putK a k v)))
def Ng(r:X.A.units+64<cLine):Ce X X2:=by intro a s σ H o i v l n u Q I c d b h;obtain⟨p,m,k,rfl,rfl,e,f,q⟩:=h;cases c;exact Kp (by omega) I (Qo.k e f) d b λj g=>⟨_,g,q⟩
def Ce.or{t u:P7}(h:Ce X t)(j:Ce X u):Ce X (λo i v H Q=>t o i v H Q\/u o i v H Q):=λa s σ H o i v f g b Q I e d c q=>q.elim (@h a s σ H o i v f g b Q I e d c) (@j a s σ H o i v f g b Q I e d c)
noncomputable def yw(k d l:eW):Od:=match l with
 |.list ds=>match k with
  |.int i=>(Co ds.length i).map λj=>.list (ds.set j d)
  |_=>Z
 |.dict kvs=>if kvs.length<sizeLine/\fZ kvs=false then (pq k).map λ_=>.dict (Aq k d kvs) else Z
 |_=>Z
def uy(π:Pl)(e c:bb->Od):bb->Option gC:=λρ=>(qQ π ρ).bind λl=>(c ρ).bind λd=>(e ρ).bind λb=>(yw b d l).map λa=>.nx (vz π a ρ)
theorem c6.set{K:Fg}{H:Hp}{d:eW}{v:V}(i:dy K H d v):∀{c:Lp}{e:List V} (j:Nat),c6 K H c e->c6 K H (c.set j d) (e.set j v)
 |[],_,_,h=>by rw[c6.fe.mp h];exact c6.nil
 |x::c,_,j,h=>by
  obtain⟨u,r,rfl,a,b⟩:=c6.da.mp h;cases j with
  |zero=>exact c6.cons i b
  |succ j=>exact c6.cons a (c6.set i j b)
def oT(hu:X.A.units+64<cLine) {π:Pl}{b:Pos} (n:O.Nodup) (ho:PP X o π) (hk:PV X O a fa) (he:PV X O e f) (M:π.ix∈O:=by decide) (x:wu O π=false:=by rfl)
  (ha:∀v,assign (.Subscript o a b) X.env v=(do
   let ov <-holding [v] (eval o X.env);let iv <-holding [v,ov] (eval a X.env)
   standAt b
   holding [v,ov,iv] (setItem ov iv v)
   release [v,ov,iv] []):=by intro _;rfl)
  (u:swapsWithSole [.Subscript o a b] e pos.line X.env=pure false:=by rfl) (hw:swappedStores [.Subscript o a b] e X.env=pure Z:=by rfl)
  (h1:(assignEach [.Subscript o a b] X.env).map (·.2)=[assign (.Subscript o a b) X.env]:=by rfl):
  wx X m O (.Assign [.Subscript o a b] e pos) (uy π fa f) :=
 PS.imp (Mm he (Ml ho hk (Ce.or En (Ng hu)) ha) u hw h1) <| by
  rintro D σ H ⟨ρ,o,G,u,e,k⟩;obtain⟨l,N,ea⟩:=bind_some e;obtain⟨d,e2,eb⟩:=bind_some ea;obtain⟨J,e3,ec⟩:=bind_some eb;obtain⟨l',g,rfl⟩:=aa.mp ec;have E:vA l=true:=by
   cases l<;>try (simp[yw] at g;done)
   ·rfl
   ·rename_i c;simp only[yw] at g;by_cases h:c.length<sizeLine/\fZ c=false
    ·show (!fZ c)=true;rw[h.2];rfl
    ·rw[ai h] at g;cases g
  refine⟨ρ,d,G,u.o,e2,λv H1 G1 _ I t W=>?_⟩;obtain⟨q,ob,r,hq,oc,_⟩:=t.place n M N E x;refine⟨q,r,ρ,J,G1,t,e3,λkv H2 Q S y C L=>?_⟩;obtain⟨q',U,T,w,i,P⟩:=C.place n M N E x;have:=Ar.eq r T S;subst this;have s:=W.same y;cases l with
  |list ds=>
   obtain⟨R,rfl,p⟩:=i.lst;cases J<;>try (simp[yw] at g;done)
   rename_i j;simp only[yw] at g;obtain⟨K,F,rfl⟩:=aa.mp g;refine .inl ⟨q,R,j,K,rfl,dy.fw.mp L,w,by rw[<-p.length];exact F,?_⟩;exact k _ _ Q (I.trans y) ⟨P _ _ (.inl ⟨_,_,rfl,rfl,p.set s K⟩),u.z⟩
  |dict c=>
   obtain⟨B,rfl,p⟩:=i.jt;simp only[yw] at g;by_cases h:c.length<sizeLine/\fZ c=false
   ·rw[ah h] at g;obtain⟨V,F,rfl⟩:=aa.mp g;have:=g9 F;subst this;refine .inr ⟨q,B,V,rfl,iz L,w,by rw[<-p.length];exact h.1,?_⟩;exact k _ _ Q (I.trans y) ⟨P _ _ (.inr ⟨_,_,rfl,rfl,p.put s⟩),u.z⟩
   ·rw[ai h] at g;cases g
  |_=>cases E
noncomputable def uz(π:Pl)(f:bb->Od):bb->Option gC:=λρ=>(qQ π ρ).bind λl=>(f ρ).bind λd=>match l,d with
 |.list ds,.list a=>if ds.length+a.length<=sizeLine then Y (.nx (vz π (.list (ds++a)) ρ)) else Z
 |_,_=>Z
def Hf{π:Pl}{c a:Pos} (n:O.Nodup) (ho:PP X o π) (he:X1 X O e f) (R:π.ix∈O:=by decide) (w:wu O π=false:=by rfl) (s:starEach [e] X.env=(false,eval e X.env)::starEach [] X.env:=by rfl)
  (i:attributeBase o "extend" X.env (eval o X.env)=eval o X.env:=by rfl)
  (u:((backTo a (starEach [e] X.env)).all (λx=>!x.1)&&(backToKw a (keywordEach [] X.env)).all (λx=>x.1.isSome)&&decide (([e]:Lx).length+([]:List Keyword).length+(if ([]:List Keyword).isEmpty then 0 else 1)<30))=true:=by rfl)
  (h:(c.endLine==a.line)=true:=by rfl) (g:(backTo a (starEach [] X.env)).any (·.1)=false:=by rfl)
  (t:swapsWith (.Call (.Attribute o "extend" c) [e] [] a) Z pos.line X.env=pure false:=by rfl):
  wx X m O (.Expr (.Call (.Attribute o "extend" c) [e] [] a) pos) (uz π f) :=
 PS.imp (rY (Be bH cX PySem.F.type_list_extend Kl ho (lC he qf s) i u h s g) t) <| by
  rintro D σ H ⟨ρ,o,G,t,e,k⟩;obtain⟨l,S,ea⟩:=bind_some e;obtain⟨d,e2,j⟩:=bind_some ea;obtain⟨M,rfl⟩:∃M,l=.list M:=by cases l<;>first|exact⟨_,rfl⟩|(cases d<;>cases j)
  obtain⟨L,rfl⟩:∃L,d=.list L:=by cases d<;>first|exact⟨_,rfl⟩|cases j
  dsimp only at j;by_cases C:M.length+L.length<=sizeLine
  ·rw[ah C] at j;cases j;obtain⟨q,ob,r,hq,oc,_⟩:=t.o.place n R S rfl w;obtain⟨T,rfl,i4⟩:=oc.lst;refine⟨q,r,.inl ⟨rfl,T,ng.of hq⟩,ρ,_,G,t.o,e2,λv H' G' B' U V I K ot=>?_⟩;obtain⟨b,ob,rfl,rfl,A⟩:=ot.cont rfl;obtain⟨N,rfl,Q⟩:=A.lst;obtain⟨G2,P,g2,E⟩:=I.grow K.same;obtain⟨q',ob',W,J,B,cl⟩:=E.place n R S rfl w;have:=Ar.eq r W (U.trans K.same);subst this;obtain⟨y,rfl,p⟩:=B.lst;refine⟨q,b,y,N,rfl,rfl,J,fV K.nd (b,.lst N) (by simp),by rw[<-p.length,<-Q.length];exact C,?_⟩;exact k _ _ G2 (V.trans P) ⟨cl _ _ (.inl ⟨_,_,rfl,rfl,p.append (Q.same P)⟩),t.z⟩
  ·rw[ai C] at j;cases j
noncomputable def jw(i:Nat)(c n:Str)(f:bb->Od):bb->Option gC:=λρ=>(ρ[i]?).join.bind λx=>(f ρ).bind λd=>match x with
 |.dict ((.none,.str a)::r)=>if a=c/\mh c n=false/\r.length<1000 then Y (.nx (ρ.set i (Y (.dict ((.none,.str c)::qj n d r))))) else Z
 |_=>Z
theorem iT(i:Nat) {c n:Str}{a P:Pos} (w:O.Nodup) (hC:fT X.K c n) (he:PV X O e f) (hO:i∈O:=by decide) (hN:X.N[i]?=Y x:=by rfl) (hv:LZ X.env.scope x:=by first|exact b5 rfl|exact bN (b5 rfl)|exact bN (bN rfl)) (hd:zg x:=by decide)
  (I:(x==("__classdict__":Str))=false:=by decide) (j:swapsWith e (Y (.Attribute (.Name x P) n a)) pos.line X.env=pure false:=by rfl):
  wx X m O (.Assign [.Attribute (.Name x P) n a] e pos) (jw i c n f) :=
 PS.imp (GL (qT hN hv hd I) he j) <| by
  rintro D σ H ⟨ρ,o,G,j,e,k⟩;obtain⟨y,e1,ea⟩:=bind_some e;obtain⟨d,e2,g⟩:=bind_some ea;obtain⟨C',g1,g2,g3⟩:=hC;split at g
  ·rename_i M r;by_cases E:M=c/\mh c n=false/\r.length<1000
   ·rw[ah E] at g;cases g;obtain⟨rfl,B,A⟩:=E;refine⟨ρ,d,G,j.o,e2,λv H' s _ U F i'=>?_⟩;obtain⟨v0,T,B1,S,e3,L,l,V,k1,W,cl,_⟩:=F.own w hO (join_some e1);obtain⟨C,p,b,J,t,rfl,rfl,R,Q⟩:=V.inst;have:=R.uniq g1;subst this;have q:∀u:HO,T++(((p,u)::(b,HO.own p)::t)++S)=T++(p,u)::((b,HO.own p)::t++S):=λu=>by simp
    rw[q] at L l;refine⟨_,e3,p,C,b,J,rfl,by rw[L];exact fV l.nd (p,.ins C b J) (by simp),g2,g3,by rw[Q.len];exact A,?_⟩;have h:jE (kS O) X.K s (.dict ((.none,.str M)::qj n d r)) (.ref p) ((p,.ins C b (mf n v J))::(b,.own p)::t):=.inr ⟨M,C,p,b,_,_,t,rfl,rfl,rfl,R,Q.put B i'⟩;rw[L,n5 l.nd,<-q];exact k _ _ s U ⟨cl s _ _ (.refl s) h (by rw[q];exact l.put (by rw[<-q];exact k1.append (h.nh.append W))),j.z⟩
   ·rw[ai E] at g;cases g
  ·cases g
noncomputable def EG(i:Nat)(c n:Str)(f:bb->Od):bb->Option gC:=λρ=>(ρ[i]?).join.bind λx=>(f ρ).bind λd=>match x with
 |.dict ((.none,.str a)::r)=>if a=c/\mh c n=true/\r.length<1000/\pP n r=Z/\vA d=true/\(qk c n=false\/Hd d=true) then Y (.nx (ρ.set i (Y (.dict ((.none,.str c)::qj n d r))))) else Z
 |_=>Z
theorem uA(i:Nat) {c n:Str}{t ep:Pos} (R:O.Nodup) (hC:fT X.K c n) (he:X1 X O e f) (hO:i∈O:=by decide) (hN:X.N[i]?=Y x:=by rfl) (hv:LZ X.env.scope x:=by first|exact b5 rfl|exact bN (b5 rfl)|exact bN (bN rfl)) (hd:zg x:=by decide)
  (hcd:(x==("__classdict__":Str))=false:=by decide) (J:swapsWith e (Y (.Attribute (.Name x ep) n t)) pos.line X.env=pure false:=by rfl):
  wx X m O (.Assign [.Attribute (.Name x ep) n t] e pos) (EG i c n f) :=
 PS.imp (GL (qT hN hv hd hcd) he J) <| by
  rintro D σ H ⟨ρ,o,G,J,e,k⟩;obtain⟨y,e1,ea⟩:=bind_some e;obtain⟨d,e2,w⟩:=bind_some ea;obtain⟨C',g1,g2,g3⟩:=hC;split at w
  ·rename_i c' r;by_cases hz:c'=c/\mh c n=true/\r.length<1000/\pP n r=Z/\vA d=true/\(qk c n=false\/Hd d=true)
   ·rw[ah hz] at w;cases w;obtain⟨rfl,W,V,U,T,S⟩:=hz;refine⟨ρ,d,G,J.o,e2,λv H' B B2 _ sG hs' fB M=>?_⟩;obtain⟨q,b,rfl,rfl,oc⟩:=M.cont T;obtain⟨v0,l,B1,j,e3,eH,fm,ot,k1,k2,cl,_⟩:=hs'.own R hO (join_some e1);obtain⟨C,p,a,g,h,rfl,rfl,a4,a5⟩:=ot.inst;have:=a4.uniq g1;subst this;have L:∀Q:HO,l++(((p,Q)::(a,HO.own p)::(h++[(q,b)]))++j)=l++(p,Q)::((a,HO.own p)::(h++[(q,b)])++j):=λQ=>by simp
    have u:((q,b)::(l++(((p,HO.ins C a g)::(a,HO.own p)::h)++j))).Perm (l++(((p,HO.ins C a g)::(a,HO.own p)::(h++[(q,b)]))++j)):=by
     have h1:l++(((p,HO.ins C a g)::(a,HO.own p)::(h++[(q,b)]))++j)=(l++((p,HO.ins C a g)::(a,HO.own p)::h))++((q,b)::j):=by simp
     have h2:(q,b)::(l++(((p,HO.ins C a g)::(a,HO.own p)::h)++j))=(q,b)::((l++((p,HO.ins C a g)::(a,HO.own p)::h))++j):=by simp
     rw[h1,h2];exact List.perm_middle.symm
    have P:qi (l++(((p,HO.ins C a g)::(a,HO.own p)::(h++[(q,b)]))++j)):=k1.append ((qi.ins (a5.nh.append (.one oc.frm .nil))).append k2);have F:j6 B ((q,b)::(l++(((p,HO.ins C a g)::(a,HO.own p)::h)++j))):=by have:=fm.join (A:=[(q,b)]) (by rw[<-eH];exact fB);exact this
    have s:=F.perm u P;have I:fi H' [(q,b)]=fi B (l++(((p,HO.ins C a g)::(a,HO.own p)::(h++[(q,b)]))++j)):=by rw[<-i9 F.nd u,eH];rfl
    rw[L] at I s;rw[I];refine⟨_,e3,p,C,a,g,rfl,fV s.nd (p,.ins C a g) (by simp),g2,g3,by rw[a5.len];exact V,?_⟩;have E:jE (kS O) X.K B (.dict ((.none,.str c')::qj n d r)) (.ref p) ((p,.ins C a (mf n (.ref q) g))::(a,.own p)::(h++[(q,b)])):=.inr ⟨c',C,p,a,_,_,_,rfl,rfl,rfl,a4,a5.add W (oc.gen S) U⟩;rw[n5 s.nd,<-L];exact k _ _ B sG ⟨cl B _ _ (.refl B) E (by rw[L];exact s.put (by rw[<-L];exact k1.append (E.nh.append k2))),J.z⟩
   ·rw[ai hz] at w;cases w
  ·cases w
noncomputable def Kz(i:Nat)(c:Int->Int->Int)(f:bb->Od):bb->Option gC:=λρ=>(ρ[i]?).join.bind λx=>(f ρ).bind λd=>match x,d with
 |.int a,.int b=>Y (.nx (ρ.set i (Y (.int (c a b)))))
 |_,_=>Z
def xJ(i:Nat) {a:Pos}{h:Operator}{o:Int->Int->Int} (B:X.N.Nodup) (s:WQ X h (Xc o)) (A:PV X O e f) (n:i∉O:=by decide) (t:X.N[i]?=Y x:=by rfl) (r:Iv X.env.scope x:=by first|exact b5 rfl|exact bN rfl)
  (w:X.fn x=true\/X.env.scope.names.lookup x=Y .local:=by first|exact .inl rfl|exact .inr rfl|assumption):wx X m O (.AugAssign (.Name x a) h e pos) (Kz i o f) :=
 PS.imp (Mn B t r A s w) <| by
  rintro D σ H ⟨ρ,L,G,c,e,k⟩;obtain⟨y,J,C⟩:=bind_some e;obtain⟨d,I,g⟩:=bind_some C;obtain⟨j,rfl⟩:∃j,y=.int j:=by cases y<;>first|exact⟨_,rfl⟩|(cases d<;>cases g)
  obtain⟨l,rfl⟩:∃l,d=.int l:=by cases d<;>first|exact⟨_,rfl⟩|cases g
  cases g;obtain⟨v,F,E⟩:=c.o.lB i _ (join_some J) n;refine⟨v,F,ρ,_,G,c.o,I,λu M K _ p b q=>⟨j,l,dy.fw.mp E,dy.fw.mp q,?_⟩⟩;exact k _ _ K p (lA.set ⟨b,c.z⟩ n (dy.fw.mpr rfl))
inductive Tg where
 |one (i:Nat)|many (is:List Nat)
def Tg.free(O:List Nat):Tg->Prop
 |.one i=>i∉O
 |.many is=>∀i∈is,i∉O
instance {O:List Nat}:(t:Tg)->Decidable (t.free O)
 |.one i=>inferInstanceAs (Decidable (i∉O))
 |.many is=>inferInstanceAs (Decidable (∀i∈is,i∉O))
noncomputable def CI:bb->List Nat->Lp->bb
 |ρ,i::is,d::ds=>CI (ρ.set i (Y d)) is ds
 |ρ,_,_=>ρ
noncomputable def w9:Tg->eW->bb->Option bb
 |.one i,d,ρ=>Y (ρ.set i (Y d))
 |.many is,.tuple ds,ρ=>if ds.length=is.length then Y (CI ρ is ds) else Z
 |_,_,_=>Z
def xK:St->List Nat->List V->St
 |σ,i::is,v::vs=>xK (σ.set i (Y v)) is vs
 |σ,_,_=>σ
def gT(K:Fg):Tg->TG
 |.one i=>IC i
 |.many is=>λv σ H Q=>∃p a,v=.ref p/\qL K H p a/\a.length=is.length/\Q (xK σ is a) H
theorem lA.vD{K:Fg}{H G:Hp}:∀{is:List Nat}{σ:St}{ρ:bb}{b:Lp}{a:List V},lA m O K σ ρ H G->(∀i∈is,i∉O)->c6 K G b a->lA m O K (xK σ is a) (CI ρ is b) H G
 |[],σ,ρ,b,a,h,_,_=>by cases b<;>cases a<;>exact h
 |i::is,σ,ρ,[],a,h,_,d=>by rw[c6.fe.mp d];exact h
 |i::is,σ,ρ,d::b,a,h,hi,ds'=>by obtain⟨v,r,rfl,e,c⟩:=c6.da.mp ds';exact lA.vD (is:=is) (σ:=σ.set i (Y v)) (ρ:=ρ.set i (Y d)) (h.set (hi i (by simp)) e) (λj f=>hi j (aj _ f)) c
def lA.bind{ρ':bb}{a:Tg}{Q:St->Hp->Prop}(h:lA m O K σ ρ H G)(c:a.free O)(i:dy K G d v)(e:w9 a d ρ=Y ρ')(k:∀σ',lA m O K σ' ρ' H G->Q σ' H):gT K a v σ H Q:=by
 cases a with
 |one j=>cases e;exact k _ (h.set c i)
 |many is=>
  cases d<;>try (simp[w9] at e;done)
  rename_i ds;dsimp only[w9] at e;by_cases b:ds.length=is.length
  ·rw[ah b] at e;cases e;obtain⟨p,g,rfl,l,f⟩:=i.gP;exact⟨p,g,rfl,h.o.sub.sC l,by rw[<-f.length];exact b,k _ (h.vD c f)⟩
  ·rw[ai b] at e;cases e
def lK(i:Nat)(d:X.N.Nodup)(b:X.N[i]?=Y x:=by rfl)(a:Iv X.env.scope x:=by first|exact b5 rfl|exact bN rfl)(c:X.fn x=true\/X.env.scope.names.lookup x=Y .local:=by first|exact .inl rfl|exact .inr rfl|assumption):PG X (.Name x pos) (gT X.K (.one i)):=ug d b a c
def r9(i j:Nat) {y:Str}{b a:Pos}{h:Nat} (s:X.calm=true) (f:X.N.Nodup) (o:X.N[i]?=Y x:=by rfl) (n:X.N[j]?=Y y:=by rfl) (l:Iv X.env.scope x:=by first|exact b5 rfl|exact bN rfl) (k:Iv X.env.scope y:=by first|exact b5 rfl|exact bN rfl)
  (r:X.fn x=true\/X.env.scope.names.lookup x=Y .local:=by first|exact .inl rfl|exact .inr rfl|assumption) (d:X.fn y=true\/X.env.scope.names.lookup y=Y .local:=by first|exact .inl rfl|exact .inr rfl|assumption)
  (m:(assignEach [.Name x b,.Name y a] X.env).length=2:=by rfl) (c:(assignEach [.Name x b,.Name y a] X.env).findIdx? (·.1)=Z:=by rfl):PG X (.Tuple [.Name x b,.Name y a] h pos) (gT X.K (.many [i,j])) :=
 PG.imp (Mj s (x5 (ug f o l r) (x5 (ug f n k d) ID)) m c) <| by
  rintro v σ H Q ⟨p,e,u,t,g,q⟩;refine⟨p,e,u,t,g,?_⟩
  match e,g with
  |[v1,v2],_=>exact⟨v1,[v2],rfl,v2,[],rfl,rfl,q⟩
noncomputable def X3(f:bb->Od)(a:Tg):bb->Option gC:=λρ=>(f ρ).bind λd=>(w9 a d ρ).map .nx
end
section
variable {m:Md}{a c:Expr}{fb fc:bb->Od}{p2:Pos}{rest:List Stmt}{g h:bb->Option gC}{gc:bb->Option Bool}
def pv(K:Fg)(J:It)(e:Lp)(G:Hp):Prop :=
 ∀H',eZ G H'->(J.stop e.length H')/\∀(i:Nat) (d:eW),e[i]?=Y d->J.go i H'/\∀x b,J.P8 i H' x b->eZ H' b/\∀c,eZ G c->(∀a,H' a=Z->c a=b a)->dy K c d x
def tOI(K:Fg)(q:bb->Option Lp):TI:=λσ G R=>∃ρ b,jD K G σ ρ/\q ρ=Y b/\∀J a,eZ G a->pv K J b a->R J a
def Vg(X:Cx)(b a:Expr)(q:bb->Option Lp):Prop:=PI X b a (tOI X.K q)
def QJ(h:PD X e f):Vg X tg e (og f) :=
 PI.imp (PI.or (Cf h) (Mo h)) <| by
  rintro σ H R ⟨ρ,C,u,e,k⟩;obtain⟨d,w,a⟩:=bind_some e;cases d<;>try (simp at a;done)
  ·cases a;refine .inl ⟨ρ,_,u,w,λv t m r=>?_⟩;obtain⟨p,b,rfl,a,j⟩:=dy.fG.mp r;refine⟨p,rfl,⟨b,a⟩,k _ t m λA c=>⟨⟨b,c.seq a,by rw[j.length];exact aA _⟩,λi d q=>?_⟩⟩;obtain⟨x,g,s⟩:=j.get q;refine⟨⟨b,x,c.seq a,g⟩,?_⟩;rintro y z ⟨o,n⟩;have:=n b (c.seq a);rw[g] at this;cases this;subst o;exact⟨.refl _,λB l _=>s.same l⟩
  ·cases a;refine .inr ⟨ρ,_,u,w,λv t m r=>?_⟩;obtain⟨p,b,rfl,a,j⟩:=r.gP;refine⟨p,rfl,⟨b,a⟩,k _ t m λA c=>⟨⟨b,c.sC a,by rw[j.length];exact aA _⟩,λi d q=>?_⟩⟩;obtain⟨x,g,s⟩:=j.get q;refine⟨⟨b,x,c.sC a,g⟩,?_⟩;rintro y z ⟨o,n⟩;have:=n b (c.sC a);rw[g] at this;cases this;subst o;exact⟨.refl _,λB l _=>s.same l⟩
def CJ(a:Int)(n:Nat)(G:Hp):pv K (Xd a n) (oh a n) G:=λh f=>by
 refine⟨by show n<=(oh a n).length;simp[oh],λi d q=>?_⟩;have b:i<n:=by have:=(ay.mp q).1;simpa [oh] using this
 refine⟨b,?_⟩;rintro x g ⟨e,c⟩;have:d=.int (a+(i:Nat)):=by unfold oh at q;rw[az,dR b] at q;cases q;rfl
 subst this c e;exact⟨.refl _,λj _ _=>dy.fw.mpr rfl⟩
def yx(n:Gl X "range")(m:X.mg "range"=Z)(h:PD X e f)(b:starEach [e] X.env=[(false,eval e X.env)]:=by rfl):Vg X tg (.Call (.Name "range" p) [e] [] pos) (ko f) :=
 PI.imp (A9 n m (lC h qf (by rw[b];rfl)) b) <| by
  rintro σ H R ⟨ρ,q,b,e,k⟩;obtain⟨d,o,a⟩:=bind_some e;cases d<;>try (simp at a;done)
  rename_i j;dsimp only at a;by_cases c:-(2 ^ 62)<=j/\j<2 ^ 62
  ·rw[ah c] at a;cases a;exact⟨ρ,_,b,o,λv g i l=>⟨j,by rw[dy.fw.mp l],c.1,c.2,k _ g i (CJ 0 _ g)⟩⟩
  ·rw[ai c] at a;cases a
def POJ(X:Cx)(O:List Nat)(e a:Expr)(q:bb->Option Lp):Prop:=PI X e a (λσ H R=>∃ρ d G,ip O X.K σ ρ H G/\q ρ=Y d/\∀J b c,eZ H b->eZ G c->ip O X.K σ ρ b c->pv X.K J d c->R J b)
def L3(O:List Nat)(q:bb->Option Lp):bb->Option Lp:=λρ=>q (ja O ρ)
def pw{a:Expr}(h:Vg X tg a q):POJ X O tg a (L3 O q) :=
 PI.imp (PI.frame h) <| by rintro σ H R ⟨ρ,j,G,b,i,k⟩;obtain⟨B,g,f,d⟩:=b.ex;refine⟨G,B,g,f,ja O ρ,j,b.rest,i,λJ l c w e=>?_⟩;subst g;exact k J _ l (tH f.nd c) c (ip.CG b.len d b.lB c e) w
def qz(q:bb->Option Lp)(a:Tg)(g:bb->Option gC):bb->Option gC:=λρ=>(q ρ).bind λb=>nP (w9 a) g b ρ
theorem mE{a:Expr}{t:Tg}{h:List Stmt} (hp:PassesOwn (model X.prog X.w) X.A X.env X.xe) (hc:X.calm=true) (R:POJ X O tg a q) (hg:PG X tg (gT X.K t)) (hO:t.free O) (hb:q7 X m O h g)
  (u:∀x,foldedSetIterable a X.env x=pure x:=by intro _;rfl):wx X m O (.For tg a h [] pos) (qz q t g) :=
 PS.imp (GD hp hc R hg hb u) <| by
  rintro D σ H ⟨ρ,o,G0,u,e,k⟩;obtain⟨b,e1,e2⟩:=bind_some e;refine⟨ρ,b,G0,u.o,e1,λJ H1 M _ F h1 w=>?_⟩;refine⟨λi Q σ' B=>Q=b.length - i/\i<=b.length/\∃ρ' E,eZ M E/\lA m O X.K σ' ρ' B E/\nP (w9 t) g (b.drop i) ρ'=Y o,⟨b.length,by simp,cB _,ρ,M,.refl _,⟨h1,u.z⟩,by simpa using e2⟩,?_⟩;rintro i Q σ' B ⟨rfl,R,ρ',E,s,f,p⟩;obtain⟨w1,W⟩:=w B (s.trans f.o.sub);by_cases j:i<b.length
  ·right;have hd:b[i]?=Y b[i]:=aI j;obtain⟨V,U⟩:=W i _ hd;rw[bT j] at p;unfold nP at p;obtain⟨P,e4,v⟩:=bind_some p;obtain⟨ρ1,e6,e7⟩:=bind_some e4;refine⟨V,λσ3 S=>∃ρ3 C,eZ M C/\lA m O X.K σ3 ρ3 S C/\nP (w9 t) g (b.drop (i+1)) ρ3=Y o,by rintro σ3 S ⟨ρ3,C,s3,h3,I⟩;exact⟨b.length - (i+1),by omega,rfl,j,ρ3,C,s3,h3,I⟩,λx H2 y=>?_⟩;obtain⟨r1,r2⟩:=U x H2 y;obtain⟨T,N,g2,G⟩:=f.o.grow r1;have i4:=r2 T (s.trans N) g2;refine lA.bind (m:=m) ⟨G,f.z⟩ hO i4 e6 λσ5 h5=>⟨ρ1,P,T,h5,e7,?_⟩
   have c:=s.trans N;cases P with
   |nx ρ3=>exact λσ6 L r l n=>⟨ρ3,r,c.trans l,n,v⟩
   |ct ρ3=>exact λσ6 L r l n=>⟨ρ3,r,c.trans l,n,v⟩
   |bk ρ3=>cases v;exact λσ6 L r l n=>k σ6 L r (F.trans (c.trans l)) n
   |rt d=>cases v;exact TM.later (F.trans c) k
  ·have I:i=b.length:=by omega
   subst I;rw[eJ] at p;cases p;exact .inl ⟨w1,k σ' B E (F.trans s) f⟩
noncomputable def om(c:bb->Option Bool)(g:bb->Option gC):Nat->bb->Option gC
 |0,_=>Z
 |n+1,ρ=>(c ρ).bind λb=>if b=true then (g ρ).bind λo=>match o with
  |.nx ρ'=>om c g n ρ'
  |.ct ρ'=>om c g n ρ'
  |.bk ρ'=>Y (.nx ρ')
  |.rt d=>Y (.rt d)
  else Y (.nx ρ)
def IX:Nat:=1000000
def CK(c:bb->Option Bool)(g:bb->Option gC):bb->Option gC:=λρ=>om c g IX ρ
def Br{h:List Stmt}(M:PassesOwn (model X.prog X.w) X.A X.env X.xe)(N:Bi X c gc)(P:q7 X m O h g):wx X m O (.While c h [] pos) (CK gc g) :=
 PS.imp (Ed M N P) <| by
  rintro D σ H ⟨ρ,o,x,L,e,k⟩;refine⟨λn σ' F=>∃ρ' y,eZ x y/\lA m O X.K σ' ρ' F y/\om gc g n ρ'=Y o,⟨IX,ρ,x,.refl _,L,e⟩,?_⟩;rintro n σ' F ⟨ρ',y,B,f,u⟩;cases n with
  |zero=>cases u
  |succ n=>
   unfold om at u;obtain⟨b,R,t⟩:=bind_some u;refine⟨ρ',b,f.o.full,R,λS J=>?_⟩;obtain⟨I,i,_,l⟩:=f.o.grow J;cases b with
   |false=>rw[ai aF] at t ⊢;cases t;exact k σ' S I (B.trans i) ⟨l,f.z⟩
   |true=>
    rw[ah rfl] at t ⊢;obtain⟨C,Q,s⟩:=bind_some t;refine⟨λσ3 E=>∃ρ3 G,eZ x G/\lA m O X.K σ3 ρ3 E G/\om gc g n ρ3=Y o,λσ3 E q=>⟨n,cQ n,q⟩,ρ',C,I,⟨l,f.z⟩,Q,?_⟩;have a:=B.trans i;cases C with
    |nx ρ3=>exact λσ6 v r j p=>⟨ρ3,r,a.trans j,p,s⟩
    |ct ρ3=>exact λσ6 v r j p=>⟨ρ3,r,a.trans j,p,s⟩
    |bk ρ3=>cases s;exact λσ6 v r j p=>k σ6 v r (a.trans j) p
    |rt d=>cases s;exact TM.later a k
def Nh(h:Bool)(K:Fg)(n:Nat)(f:Lp->Option (eW×eW)):Sp:=λvs H Q _=>∃e a i ds d b G B,vs=e::a/\H=fi G B/\j6 G B/\jE h K G i e B/\c6 K G ds a/\ds.length+1=n/\f (i::ds)=Y (d,b) /\
 ∀v c g,eZ G c->j6 c g->jE h K c b e g->dy K c d v->Q v (fi c g)
abbrev X4(K:W.Frag)(n:Nat)(f:List eW->Option (eW×eW)):Sp:=Nh false K n f
noncomputable def pQ(N:Lr)(g:bb->Option gC):Lp->Option (eW×eW):=λds=>(g (hQ N ds)).bind λo=>match o with
 |.rt (.tuple [d,a])=>Y (d,a)
 |.nx ρ=>(ρ[0]?).join.map λa=>(.none,a)
 |_=>Z
noncomputable def nF(f:bb->Od):bb->Option gC:=λρ=>(Kx f ρ).bind λd=>(ρ[0]?).join.map λa=>.rt (.tuple [d,a])
def lA.out{i:V}{r:eW}(j:O.Nodup)(m:lA (.io dp i) O K σ ρ H G)(e:(ρ[0]?).join=Y r):∃c B,eZ G c/\H=fi c B/\j6 c B/\jE dp K c r i B:=by
 obtain⟨u,t,s⟩:=m.z dp i rfl;obtain⟨v,g,h,d,q,w,f,b,l,k,_,_⟩:=m.o.own j u (join_some e);rw[s] at b;rw[t] at q;cases q;have a:(g++(h++d)).Perm (h++(g++d)):=by rw[<-aJ,<-aJ];exact dn _ bj
 have p:j6 G (h++(g++d)):=f.perm a (b.nh.append (l.append k));have n:=p.Kw (l.append k);exact⟨fi G (g++d),h,n.same,by rw[w,i9 f.nd a,jh],p.Kv b.nh,b.same n.same⟩
def ji{g:V}(a:O.Nodup)(h:PD X e f):wx X (.io dp g) O (.Return (Y e) pos) (nF f) :=
 PS.imp (vv h) <| by rintro D σ H ⟨ρ,o,G,c,e,k⟩;obtain⟨d,A,y⟩:=bind_some e;obtain⟨F,w,rfl⟩:=aa.mp y;obtain⟨u,t⟩:=ED A;refine⟨ρ,d,c.o.full,u,λv I m i=>?_⟩;obtain⟨J,j,_,b⟩:=c.o.grow m;obtain⟨E,B,l,s,q,n⟩:=lA.out (σ:=σ) (ρ:=ρ) a ⟨b,c.z⟩ w;obtain⟨x,C,r,p⟩:=k;cases r;rw[s];exact p v E B (j.trans l) q n (i.jL t)
noncomputable def Ni:bb->Option gC:=λρ=>(ρ[0]?).join.map λa=>.rt (.tuple [.none,a])
def KA{b:V}(a:O.Nodup):wx X (.io dp b) O (.Return Z pos) Ni :=
 PS.imp IB <| by rintro D σ H ⟨ρ,o,G,g,e,k⟩;obtain⟨p,l,rfl⟩:=aa.mp e;obtain⟨n,B,c,j,h,d⟩:=lA.out a g l;obtain⟨x,m,i,f⟩:=k;cases i;rw[j];exact f .lB n B c h d (dy.gU.mpr rfl)
theorem TN{P:Program}{w:World}{m:Heap}{b:Str}{R:Addr}{N T:Lr}{k:Nat} (F:IL K x b st R fd) (S:iD N T (fj st)) (hn:n=T.length) (h1:n≠0) (X:(0::O).Nodup) (hO:∀i∈O,n<=i)
  (r:∀(v0:V) (qy:Value) (A:Around) (outer:List Env) (s:Shared) (H:Hp) (E:XK),iO k (A.deeper (envOfC b (fj st) (zB s) R qy)) ->
   q7 (vx vo P w K mg m N b (fj st) R qy A outer s H E).Mf (.io (kS (0::O)) v0) (0::O) (jd st) g):k7 P w K mg m vo (k+1) R fd T (Nh (kS (0::O)) K n (pQ N g)):=by
 refine F.ok S (by rintro vs H Q E ⟨v0,a,f,ds,d,J,G,B,I,_,_,_,i,l,_⟩;rw[I,<-hn,<-l,ao,<-i.length]) ?_;rintro qy A outer s H vs Q E hr ⟨v0,a,f,ds,d,J,G,B,I,eH,M,ot,i,l,e,k⟩;refine⟨_,r v0 qy A outer s H E hr,?_⟩;subst I eH;obtain⟨o,I,t⟩:=bind_some e;have p:c6 K (fi G B) (f::ds) (v0::a):=c6.cons (ot.L1 M.same λx hx=>fV M.nd x hx) (i.same M.same);have hd:=qh (N:=N) p;have D:(hQ N (f::ds))[0]?=Y (Y f):=rfl;have c:∀j∈O,((hQ N (f::ds))[j]?).join=Z:=λj hj=>by
  have:¬ j<(f::ds).length:=by have:=hO j hj;rw[ao];omega
  unfold hQ;rw[aD (by simpa using this),bG];split<;>rfl
 have U:∀L:List Nat,(∀j∈L,j∈O)->iy (kS (0::O)) K (lD N (v0::a)) (hQ N (f::ds)) G L []:=by
  intro L;induction L with
  |nil=>intro _;rfl
  |cons j L ih=>exact λh=>.inl ⟨c j (h j (by simp)),ih λi hi=>h i (aj _ hi)⟩
 obtain⟨u0,hu0,aa5⟩:=hd.2 0 f D;have v:(lD N (v0::a))[0]?=Y (Y v0):=rfl;refine⟨hQ N (f::ds),o,G,⟨⟨hd.1,⟨B,rfl,M,.inr ⟨f,v0,B,[],D,v,by simp,ot,U O λ_ h=>h⟩⟩,λj dj q hj=>?_⟩,λdp1 v1 z=>⟨by simp,by cases z;exact v,by cases z;rfl⟩⟩,I,?_⟩
 ·
  have hj0:j≠0:=λz=>hj (by rw[z];simp);have hd2:=qh (K:=K) (H:=G) (N:=N) (vs:=v0::a) (ds:=.none::ds);have hh:c6 K G ds a:=i;cases j with
  |zero=>exact absurd rfl hj0
  |succ j=>
   by_cases C:j<ds.length
   ·have q':ds[j]?=Y dj:=by
     unfold hQ at q;rw[af,aR,bY,aS (by simpa using C),az] at q;cases z:ds[j]? with
     |none=>rw[z] at q;cases q
     |some y=>rw[z] at q;cases q;rfl
    obtain⟨u,a1,a2⟩:=hh.get q';refine⟨u,?_,a2⟩;have X0:j<a.length:=(ay.mp a1).1;unfold lD;rw[af,aR,bY,aS (by simpa using X0),az,a1];rfl
   ·unfold hQ at q;rw[af,aR,bY,aD (by simpa using C),bG] at q;split at q<;>cases q
 ·cases o with
  |rt x=>
   split at t
   ·rename_i d1 d2 he;cases he;cases t;exact⟨d,J,rfl,k⟩
   ·rename_i ρ he;cases he
   ·cases t
  |nx ρ'=>obtain⟨d1,e3,e4⟩:=aa.mp t;cases e4;intro σ H' G' sG hs;obtain⟨G2,B2,s2,eH,fm2,W⟩:=lA.out X hs e3;rw[eH];exact k .lB G2 B2 (sG.trans s2) fm2 W (dy.gU.mpr rfl)
  |bk _=>cases t
  |ct _=>cases t
theorem Nj{P:Program}{w:World}{c:Heap}{a:Str}{r:Addr}{N u:Lr}{k:Nat} (F:IL K x a st r fd) (S:iD N u (fj st)) (G:n=u.length) (L:∀i∈O,n<=i)
  (f:∀(qy:Value) (A:Around) (outer:List Env) (s:Shared) (H:Hp) (E:XK),iO k (A.deeper (envOfC a (fj st) (zB s) r qy)) ->
   q7 (vx vo P w K mg c N a (fj st) r qy A outer s H E).Mf .dat O (jd st) g):k7 P w K mg c vo (k+1) r fd u (TF K n (jS N g)):=by
 refine F.ok S (by rintro vs H Q E ⟨m,d,i,l,_⟩;rw[<-i.length,l,G]) ?_;rintro qy A outer s H vs Q E D ⟨m,d,i,l,e,k⟩;refine⟨_,f qy A outer s H E D,?_⟩;obtain⟨o,R,t⟩:=bind_some e;have y:=qh (N:=N) i;have b:∀i∈O,((hQ N m)[i]?).join=Z:=λj I=>by
  have:¬ j<m.length:=by have:=L j I;omega
  unfold hQ;rw[aD (by simpa using this),bG];split<;>rfl
 have v:∀p:List Nat,(∀i∈p,i∈O)->iy (kS O) K (lD N vs) (hQ N m) H p []:=by
  intro p;induction p with
  |nil=>intro _;rfl
  |cons j p C=>exact λh=>.inl ⟨b j (h j (by simp)),C λi J=>h i (aj _ J)⟩
 refine⟨hQ N m,o,H,⟨⟨y.1,⟨[],rfl,j6.nil,v O λ_ h=>h⟩,λi d q _=>y.2 i d q⟩,λU v0 z=>nomatch z⟩,R,?_⟩;cases o with
 |rt V=>cases t;exact k
 |nx ρ'=>cases t;exact λσ T W B M=>k .lB T (B.trans M.o.sub) (dy.gU.mpr rfl)
 |bk _=>cases t
 |ct _=>cases t
def spF(K:Fg)(n:Nat)(f:Lp->Od):Sp:=λb H Q _=>∃a d,c6 K H a b/\a.length=n/\f a=Y d/\KO K H d Q
noncomputable def yy(N:Lr)(g:bb->Option gC):Lp->Od:=λa=>(g (hQ N a)).bind λo=>match o with
 |.rt d=>Y d
 |_=>Z
theorem Nk{P:Program}{w:World}{c:Heap}{a:Str}{r:Addr}{N u:Lr}{k:Nat} (F:IL K x a st r fd) (S:iD N u (fj st)) (D:n=u.length) (J:∀i∈O,n<=i)
  (f:∀(qy:Value) (A:Around) (outer:List Env) (s:Shared) (H:Hp) (E:XK),iO k (A.deeper (envOfC a (fj st) (zB s) r qy)) ->
   q7 (vx vo P w K mg c N a (fj st) r qy A outer s H E).Mf .own O (jd st) g):k7 P w K mg c vo (k+1) r fd u (spF K n (yy N g)):=by
 refine F.ok S (by rintro vs H Q E ⟨m,d,i,l,_⟩;rw[<-i.length,l,D]) ?_;rintro qy A outer s H vs Q E C ⟨m,d,i,l,e,k⟩;refine⟨_,f qy A outer s H E C,?_⟩;obtain⟨o,L,t⟩:=bind_some e;have y:=qh (N:=N) i;have b:∀i∈O,((hQ N m)[i]?).join=Z:=λj G=>by
  have:¬ j<m.length:=by have:=J j G;omega
  unfold hQ;rw[aD (by simpa using this),bG];split<;>rfl
 have v:∀p:List Nat,(∀i∈p,i∈O)->iy (kS O) K (lD N vs) (hQ N m) H p []:=by
  intro p;induction p with
  |nil=>intro _;rfl
  |cons j p B=>exact λh=>.inl ⟨b j (h j (by simp)),B λi I=>h i (aj _ I)⟩
 refine⟨hQ N m,o,H,⟨⟨y.1,⟨[],rfl,j6.nil,v O λ_ h=>h⟩,λi d q _=>y.2 i d q⟩,λM v0 z=>nomatch z⟩,L,?_⟩;cases o with
 |rt R=>cases t;exact k
 |nx _=>cases t
 |bk _=>cases t
 |ct _=>cases t
end
structure rh (P:Program) (w:World) (K:Fg) (mg:Str->Ow) (base:Heap) (x:Str) (k n:Nat) (f:Lp->Od):Prop where
 ex:∃a fd ps,k7 P w K mg base vo k a fd ps (spF K n f)/\mg x=Y (.ref a)/\W.keepIn K (.ref a)=true/\kQ K fd ps []
structure Hg (dp:Bool) (P:Program) (w:World) (K:Fg) (mg:Str->Ow) (base:Heap) (x:Str) (k n:Nat) (f:Lp->Option (eW×eW)):Prop where
 ex:∃a fd ps,k7 P w K mg base vo k a fd ps (Nh dp K n f)/\mg x=Y (.ref a)/\W.keepIn K (.ref a)=true/\kQ K fd ps []
abbrev EH:=Hg false
structure vE (P:Program) (w:World) (K:Fg) (mg:Str->Ow) (base:Heap) (c:Str) (k n:Nat) (f:Lp->Option (eW×eW)):Prop where
 ex:∃C a fd ps,jC K c C/\mg c=Y (.ref C)/\Mk K C a/\k7 P w K mg base vo k a fd ps (X4 K n f)/\kQ K fd ps []
structure kY (P:Program) (w:World) (K:Fg) (mg:Str->Ow) (base:Heap) (c m:Str) (k n:Nat) (f:Lp->Od):Prop where
 ex:∃C a fd ps,jC K c C/\GJ K C/\GK K C m a/\k7 P w K mg base vo k a fd ps (TF K n f)/\kQ K fd ps []
section
variable {m:Md}{a c:Expr}{fb fc:bb->Od}{p2 apos:Pos}{rest:List Stmt}{g h:bb->Option gC}{ga gc:bb->Option Bool}{j k:Nat}
def KO.kd{Q:VK}(h:KD K H d Q):KO K H d Q:=λv e f s a b=>h v _ (s.trans a.same) (b.L1 a.same λx c=>fV a.nd x c)
def PF.pd(h:PF X e f):PD X e f:=PE.imp h <| by rintro σ H Q ⟨ρ,d,a,e,k⟩;exact⟨ρ,d,a,e,KO.kd k⟩
def vF{F:Lp->Od} (N:rh X.prog X.w X.K X.mg X.base x j n F) (s:iO k X.A) (u:Gl X x) (y:Bj X (e::es) ff) (t:j<=k:=by decide) (h:zg x:=by decide)
  (v:zE e es X:=by rfl) (f:(backTo pos (starEach es X.env)).any (·.1)=false:=by rfl):PF X (.Call (.Name x p) (e::es) [] pos) (jR n F ff):=by
 obtain⟨a,E,D,B,m,o,b⟩:=N.ex;refine PE.imp (xH (B.mono t) s u m o b .nil oa y h v f) ?_;rintro σ H Q ⟨ρ,d,r,e,k⟩;obtain⟨i,z,c⟩:=bind_some e;by_cases g:i.length=n
 ·rw[ah g] at c;exact⟨ρ,i,r,z,λC G l q=>⟨i,d,by rw[aL];exact q,g,c,k.later l⟩⟩
 ·rw[ai g] at c;cases c
def KO.Ao{Q:VK}(k:KO K H (.list ds) Q)(e:c6 K H ds vs):∀p,H p=Z->Q (.ref p) (upd H p (.lst vs)):=λp h=>
 k (.ref p) H [(p,.lst vs)] (.refl H) ⟨by simp,(λx a=>by simp at a;subst a;exact h),.one aV .nil⟩ (jE.ZH (.inl ⟨_,vs,rfl,rfl,e⟩))
noncomputable def uB(f:bb->Od)(l h:FO):bb->Od:=λρ=>(f ρ).bind λx=>(l ρ).bind λa=>(h ρ).bind λb=>match x with | .list xs=>Y (.list (nk xs a b))|_=>Z
def yz{n o:Option Expr}{l h:FO}(z:PD X e f)(y:WS X n l)(w:WS X o h):PF X (.Subscript e (.Slice n o Z p2) pos) (uB f l h) :=
 PE.imp (El IK z y w) <| by
  rintro σ H Q ⟨ρ,d,i,e,k⟩;obtain⟨x,E,D⟩:=bind_some e;obtain⟨a,C,B⟩:=bind_some D;obtain⟨b,A,q⟩:=bind_some B;obtain⟨j,rfl⟩:∃j,x=.list j:=by cases x<;>first|exact⟨_,rfl⟩|cases q
  cases q;refine⟨ρ,_,i,E,λv I g u=>⟨ρ,a,i.same g,C,λG c=>⟨ρ,b,i.same (g.trans c),A,λF m=>?_⟩⟩⟩;obtain⟨p,r,rfl,t,s⟩:=dy.fG.mp (u.same (c.trans m));exact⟨p,r,rfl,t,(k.later (g.trans (c.trans m))).Ao (s.cut a b)⟩
def QK:jU X (.type "list") (λxs H Q=>∃a c,c6 X.K H a xs/\IQ a=Y c/\KO X.K H c Q):=by
 refine jU.imp uj ?_;rintro xs H Q ⟨a,c,i,e,k⟩
 match a,e with
 |[.list ys],e=>cases e;obtain⟨v,rfl,d⟩:=jf i;obtain⟨p,b,rfl,g,f⟩:=dy.fG.mp d;exact⟨p,b,rfl,.inl g,k.Ao f⟩
 |[.tuple ys],e=>cases e;obtain⟨v,rfl,d⟩:=jf i;obtain⟨p,b,rfl,g,f⟩:=d.gP;exact⟨p,b,rfl,.inr g,k.Ao f⟩
noncomputable def yA(c:Str)(n:Nat)(F:Lp->Option (eW×eW))(b:bb->Option Lp):bb->Od:=λρ=>(b ρ).bind λa=>if a.length+1=n then (F (.dict [(.none,.str c)]::a)).bind λr=>match r with|(.none,d)=>Y d|_=>Z else Z
def IY{c:Str}{C:Addr}(t:jC K c C){F:Lp->Option (eW×eW)}{Q:VK}{E:XK}(p:c6 K H ds vs)(s:ds.length+1=n)(A:(F (.dict [(.none,.str c)]::ds)).bind (λr=>match r with|(.none,d)=>Y d|_=>Z)=Y d)(k:KO K H d Q):
  ∀x a,H x=Z->H a=Z->a≠x->X4 K n F (.ref x::(vs++[])) (upd (upd H a (.own x)) x (.ins C a [])) (λv H2=>v=.lB/\Q (.ref x) H2) E:=by
 intro x a q g f;obtain⟨r,z,j⟩:=bind_some A;obtain⟨i,h⟩:=r;have w:i=.none/\h=d:=by cases i<;>first|(cases j;exact⟨rfl,rfl⟩)|cases j
 obtain⟨rfl,rfl⟩:=w;refine⟨.ref x,vs++[],.dict [(.none,.str c)],ds,.none,h,H,[(x,.ins C a []),(a,.own x)],rfl,rfl,⟨?_,λy b=>?_,.ins .nil⟩,.inr ⟨c,C,x,a,[],[],[],rfl,rfl,rfl,t,rfl,rfl⟩,by rw[aL];exact p,s,z,λv B D l u m o=>⟨dy.gU.mp o,k _ B D l u m⟩⟩
 ·simp[Ne.symm f]
 ·rcases av.mp b with e|b
  ·rw[e];exact q
  ·have:y=(a,HO.own x):=by simpa using b
   rw[this];exact g
def CL{c:Str}{F:Lp->Option (eW×eW)} (N:vE X.prog X.w X.K X.mg X.base c j n F) (s:iO (k+1) X.A) (u:Gl X c) (x:Bj X (e::es) ff) (t:j<=k:=by decide) (i:zg c:=by decide)
  (v:zE e es X:=by rfl) (g:(backTo pos (starEach es X.env)).any (·.1)=false:=by rfl):PF X (.Call (.Name c p) (e::es) [] pos) (yA c n F ff):=by
 obtain⟨C,a,G,E,y,o,M,B,b⟩:=N.ex;refine PE.imp (Cn M (B.mono t) s u o b .nil oa x i v g) ?_;rintro σ H Q ⟨ρ,d,r,e,k⟩;obtain⟨l,z,f⟩:=bind_some e;by_cases h:l.length+1=n
 ·rw[ah h] at f;exact⟨ρ,l,r,z,λD I m q=>IY y q h f (k.later m)⟩
 ·rw[ai h] at f;cases f
def Nl{c:Str}{F:Lp->Option (eW×eW)}(N:vE X.prog X.w X.K X.mg X.base c j n F)(l:iO (k+1) X.A)(o:Gl X c)(m:j<=k:=by decide)(h:zg c:=by decide):PF X (.Call (.Name c p) [] [] pos) (yA c n F f7):=by
 obtain⟨C,a,v,t,q,i,M,s,b⟩:=N.ex;refine PE.imp (Mv M (s.mono m) l o i b .nil oa h) ?_;rintro σ H Q ⟨ρ,d,u,e,k⟩;obtain⟨x,r,f⟩:=bind_some e;cases r;by_cases g:([]:Lp).length+1=n
 ·rw[ah g] at f;exact IY q c6.nil g f k
 ·rw[ai g] at f;cases f
noncomputable def kL(c a:Str)(d:eW):Bool:=match d with
 |.dict ((.none,.str b)::r)=>decide (b=c)&&(pP a r).isNone
 |_=>false
noncomputable def iK(c b:Str)(n:Nat)(F:Lp->Od)(f:bb->Od)(e:bb->Option Lp):bb->Od:=λρ=>(f ρ).bind λd=>if kL c b d=true then (e ρ).bind λa=>if a.length+1=n then F (d::a) else Z else Z
def yB{c e:Str}(h:kL c e d=true)(i:dy K H d v):∃p C b a,v=.ref p/\jC K c C/\H p=Y (.ins C b a)/\a.lookup e=Z:=by
 unfold kL at h;split at h
 ·rename_i m r;simp only[b9,cM,d9] at h;obtain⟨rfl,f⟩:=h;obtain⟨p,C,b,a,l,k,j,g⟩:=i.Ha;exact⟨p,C,b,a,l,k,j,g.none f⟩
 ·cases h
def sd{t c:Str}{F:Lp->Od}{pl:Sem Bool} (N:kY X.prog X.w X.K X.mg X.base t c j n F) (I:PD X o f) (G:iO k X.A) (M:Bj X (e::es) ff) (L:j<=k:=by decide)
  (l:zE e es X:=by rfl) (m:(backTo pos (starEach es X.env)).any (·.1)=false:=by rfl)
  (E:eval (.Call (.Attribute o c apos) (e::es) [] pos) X.env=(do
   let ov <-eval o X.env
   standAt apos.atName
   let (f,first) <-holding [ov] (getMethod ov c pl)
   callWith pos f first (backTo pos (starEach (e::es) X.env)) (backToKw pos (keywordEach [] X.env))):=by rfl):PD X (.Call (.Attribute o c apos) (e::es) [] pos) (iK t c n F f ff):=by
 obtain⟨C,a,fd,ps,O,r,J,Fn,b⟩:=N.ex;refine PE.imp (Cm (pl:=pl) I r J (Fn.mono L) G b .nil oa M l m E) ?_;rintro σ H Q ⟨ρ,d,B,e,k⟩;obtain⟨x,V,h⟩:=bind_some e;by_cases i:kL t c x=true
 ·rw[ah i] at h;obtain⟨s,U,g⟩:=bind_some h;by_cases q:s.length+1=n
  ·rw[ah q] at g;refine⟨ρ,x,B,V,λv H1 y z=>?_⟩;obtain⟨p,C',W,T,rfl,S,R,P⟩:=yB i z;have:=S.uniq O;subst this;exact⟨p,W,T,rfl,R,P,ρ,s,B.same y,U,λvs H2 u D=>⟨x::s,d,by rw[aL];exact c6.cons (z.same u) D,by simpa using q,g,k.later (y.trans u)⟩⟩
  ·rw[ai q] at g;cases g
 ·rw[ai i] at h;cases h
def pR{q c:Str}{F:Lp->Od}{pl:Sem Bool} (N:kY X.prog X.w X.K X.mg X.base q c j n F) (z:PD X o f) (y:iO k X.A) (D:j<=k:=by decide)
  (t:eval (.Call (.Attribute o c apos) [] [] pos) X.env=(do
   let ov <-eval o X.env
   standAt apos.atName
   let (f,first) <-holding [ov] (getMethod ov c pl)
   callWith pos f first (backTo pos (starEach [] X.env)) (backToKw pos (keywordEach [] X.env))):=by rfl):PD X (.Call (.Attribute o c apos) [] [] pos) (iK q c n F f f7):=by
 obtain⟨C,a,T,S,E,m,B,R,b⟩:=N.ex;refine PE.imp (Eh (pl:=pl) z m B (R.mono D) y b .nil oa t) ?_;rintro σ H Q ⟨ρ,d,u,e,k⟩;obtain⟨x,O,h⟩:=bind_some e;by_cases i:kL q c x=true
 ·rw[ah i] at h;obtain⟨U,M,g⟩:=bind_some h;cases M;by_cases l:([]:Lp).length+1=n
  ·rw[ah l] at g;refine⟨ρ,x,u,O,λv V s r=>?_⟩;obtain⟨p,W,P,L,rfl,J,I,G⟩:=yB i r;have:=J.uniq E;subst this;exact⟨p,P,L,rfl,I,G,[x],d,c6.cons r c6.nil,by simpa using l,g,k.later s⟩
  ·rw[ai l] at g;cases g
 ·rw[ai i] at h;cases h
def PX(X:Cx)(O:List Nat)(e:Expr)(h:bb->Option (eW×bb)):Prop:=PE X e (λσ H Q=>∃ρ d ρ' G,ip O X.K σ ρ H G/\h ρ=Y (d,ρ')/\∀v a b,eZ G b->ip O X.K σ ρ' a b->(∀F,dy X.K F d v)->Q v a)
noncomputable def yC(O:List Nat)(i n:Nat)(F:Lp->Option (eW×eW))(b:bb->Option Lp):bb->Option (eW×bb):=λρ=>(ρ[i]?).join.bind λc=>(b (ja O ρ)).bind λa=>if a.length+1=n then (F (c::a)).bind λr=>if me r.1=true then Y (r.1,ρ.set i (Y r.2)) else Z else Z
def uC(i:Nat) {y:Str}{T:Pos}{F:Lp->Option (eW×eW)} (N:Hg dp X.prog X.w X.K X.mg X.base x j n F) (C:O.Nodup) (hr:iO k X.A) (hg:Gl X x) (ha:Bj X es ff) (hO:i∈O:=by decide) (hj:j<=k:=by decide) (L:kS O=dp:=by rfl)
  (hN:X.N[i]?=Y y:=by rfl) (hv:LZ X.env.scope y:=by first|exact b5 rfl|exact bN (b5 rfl)|exact bN (bN rfl)) (hd:zg y:=by decide) (P:(y==("__classdict__":Str))=false:=by decide) (M:zg x:=by decide)
  (he:starEach (.Name y T::es) X.env=(false,eval (.Name y T) X.env)::starEach es X.env:=by rfl) (I:(backTo pos (starEach es X.env)).any (·.1)=false:=by rfl):PX X O (.Call (.Name x p) (.Name y T::es) [] pos) (yC O i n F ff):=by
 obtain⟨a,fd,ps,Fn,mm,kp,b⟩:=N.ex;refine PE.imp (PE.frame (xH (Fn.mono hj) hr hg mm kp b .nil oa (lC (qT hN hv hd P) (PA.frame ha) he) M he I)) ?_;rintro σ H Q ⟨ρ,d,ρ',G,hs,e,k⟩;obtain⟨d0,e1,e2⟩:=bind_some e;obtain⟨V,e3,B⟩:=bind_some e2;by_cases J:V.length+1=n
 ·rw[ah J] at B;obtain⟨r,e5,z⟩:=bind_some B;obtain⟨r1,r2⟩:=r;by_cases l:me r1=true
  ·rw[ah l] at z;cases z;obtain⟨W,g,q,f,e7,eH,fm,u,E,D,cl,_⟩:=hs.own C hO (join_some e1);rw[L] at u cl;have h:(g++(q++f)).Perm ((g++f)++q):=by
    rw[aJ];exact cJ _ bj
   have f2:j6 G ((g++f)++q):=fm.perm h ((E.append D).append u.nh);have S:=f2.Kw u.nh;refine⟨fi G q,g++f,by rw[eH,i9 fm.nd h,jh],f2.Kv (E.append D),W,e7,G,q,rfl,S,ja O ρ,V,hs.rest,e3,λvs G1 s1 i1 t=>?_⟩;refine⟨W,vs++[],d0,V,r1,r2,G1,q,rfl,rfl,t,u.same s1,by rw[aL];exact i1,J,e5,λv m o s2 R s iv fR=>?_⟩;have sG:eZ G m:=s1.trans s2;have f3:j6 m ((g++f)++o):=R.join fR;have c:((g++f)++o).Perm (g++(o++f)):=by rw[aJ];exact cJ _ bj
   have f4:j6 m (g++(o++f)):=f3.perm c (E.append (s.nh.append D));have U:fi (fi m o) (g++f)=fi m (g++(o++f)):=by rw[<-jh,i9 f3.nd c]
   rw[U];exact k v _ m sG (cl m r2 o sG s f4) λF=>iv.jL l
  ·rw[ai l] at z;cases z
 ·rw[ai J] at B;cases B
def Hh(h:bb->Option (eW×bb)):bb->Option gC:=λρ=>(h ρ).map λr=>.nx r.2
def KC{h:bb->Option (eW×bb)}(d:PX X O e h)(a:swapsWith e Z pos.line X.env=pure false:=by rfl):wx X m O (.Expr e pos) (Hh h) :=
 PS.imp (rY d a) <| by rintro D σ H ⟨ρ,o,G,a,e,k⟩;obtain⟨r,f,rfl⟩:=aa.mp e;exact⟨ρ,r.1,r.2,G,a.o,f,λv g i c b _=>k σ g i c ⟨b,a.z⟩⟩
noncomputable def EI(h:bb->Option (eW×bb)):bb->Option gC:=λρ=>(h ρ).bind λr=>(r.2[0]?).join.map λa=>.rt (.tuple [r.1,a])
def yD{f:V}{h:bb->Option (eW×bb)}(a:O.Nodup)(n:PX X O e h):wx X (.io dp f) O (.Return (Y e) pos) (EI h) :=
 PS.imp (vv n) <| by rintro D σ H ⟨ρ,o,G,c,e,k⟩;obtain⟨r,w,u⟩:=bind_some e;obtain⟨A,t,rfl⟩:=aa.mp u;refine⟨ρ,r.1,r.2,G,c.o,w,λv C E g b m=>?_⟩;obtain⟨d,B,i,s,p,j⟩:=lA.out (σ:=σ) (ρ:=r.2) a ⟨b,c.z⟩ t;obtain⟨x,y,q,l⟩:=k;cases q;rw[s];exact l v d B (g.trans i) p j (m d)
def tXT(O:List Nat)(K:Fg)(h:bb->Option (Bool×bb)):TT:=λσ H Q=>∃ρ b ρ' G,ip O K σ ρ H G/\h ρ=Y (b,ρ')/\∀a c,eZ G c->ip O K σ ρ' a c->Q b a
def WU(X:Cx)(O:List Nat)(e:Expr)(h:bb->Option (Bool×bb)):Prop:=PT X e (tXT O X.K h)
def ZI(X:Cx)(O:List Nat)(e:Expr)(h:bb->Option (Bool×bb)):Prop:=PW X e (tXT O X.K h)
noncomputable def hT(h:bb->Option (eW×bb)):bb->Option (Bool×bb):=λρ=>(h ρ).bind λr=>match r with|(.bool b,ρ')=>Y (b,ρ')|_=>Z
def QL{h:bb->Option (eW×bb)}(m:PX X O e h)(j:∀whole,isTrue e X.env whole=(do let v <-whole;standAt e.pos;holding [v] (truthy v)):=by intro _;rfl):WU X O e (hT h) :=
 PT.imp (yb m j) <| by
  rintro σ H Q ⟨ρ,b,ρ',G,l,e,k⟩;obtain⟨r,o,c⟩:=bind_some e;obtain⟨d,ρ2⟩:=r;have n:d=.bool b/\ρ2=ρ':=by cases d<;>first|(cases c;exact⟨rfl,rfl⟩)|cases c
  obtain⟨rfl,rfl⟩:=n;exact⟨ρ,_,_,G,l,o,λv f p g a i=>⟨b,MT (i f) rfl,k f p g a⟩⟩
noncomputable def Vh(h:bb->Option (Bool×bb)):bb->Option (Bool×bb):=λρ=>(h ρ).map λr=>(!r.1,r.2)
def QM{h:bb->Option (Bool×bb)}(g:WU X O a h):WU X O (.UnaryOp .Not a pos) (Vh h) :=
 PT.imp (Gx g) <| by rintro σ H Q ⟨ρ,b,ρ',G,f,e,k⟩;obtain⟨r,j,i⟩:=aa.mp e;cases i;exact⟨ρ,r.1,r.2,G,f,j,λl m d c=>k l m d c⟩
noncomputable def ZJ(g:bb->Option Bool)(h:bb->Option (Bool×bb)):bb->Option (Bool×bb):=λρ=>(g ρ).bind λb=>if b=true then Y (true,ρ) else h ρ
def QN{h:bb->Option (Bool×bb)}(b:WU X O a h):ZI X O (.BoolOp .Or [a] pos) h:=L9 b
def Vi{i:Lx}{h:bb->Option (Bool×bb)}(p:Bi X a ga)(o:ZI X O (.BoolOp .Or (b::i) pos) h):ZI X O (.BoolOp .Or (a::b::i) pos) (ZJ ga h) :=
 PW.imp (Ts p o) <| by
  rintro σ H Q ⟨ρ,b,ρ',G,j,e,k⟩;obtain⟨y,q,d⟩:=bind_some e;refine⟨ρ,y,j.full,q,λs n=>?_⟩;obtain⟨l,g,_,c⟩:=j.grow n;cases y with
  |false=>rw[ai aF] at d ⊢;exact⟨ρ,b,ρ',l,c,d,λr t m f=>k r t (g.trans m) f⟩
  |true=>rw[ah rfl] at d ⊢;cases d;exact k s l g c
def X5{h:bb->Option (Bool×bb)}(a:ZI X O e h):WU X O e h:=a.pt
def QO(c:bb->Option (Bool×bb))(g h:bb->Option gC):bb->Option gC:=λρ=>(c ρ).bind λr=>if r.1=true then g r.2 else h r.2
def QP{j i:List Stmt}{n:bb->Option (Bool×bb)}(q:WU X O c n)(t:q7 X m O j g)(s:q7 X m O i h):wx X m O (.If c j i pos) (QO n g h) :=
 PS.imp (Mh q t s) <| by
  rintro D σ H ⟨ρ,o,G,f,e,k⟩;obtain⟨r,u,d⟩:=bind_some e;obtain⟨b,ρ'⟩:=r;refine⟨ρ,b,ρ',G,f.o,u,λv p l a=>?_⟩;cases b with
  |true=>rw[ah rfl] at d ⊢;exact⟨ρ',o,p,⟨a,f.z⟩,d,k.later l⟩
  |false=>rw[ai aF] at d ⊢;exact⟨ρ',o,p,⟨a,f.z⟩,d,k.later l⟩
end
end L2
namespace L2
open PySem PySem.Spec PyProof.Rows PySem.Builtin PySem.Builtin.Str
theorem Bs:∀(l:List (Str×Tok)),fY ((l.map (·.1)).map V.str) (strValues l)
 |[]=>.nil
 | (x,t)::l=>.cons ⟨t,rfl⟩ (Bs l)
theorem Bt:∀{b:Lr}{a:Lw},fY (b.map V.str) a->∃l:List (Str×Tok),a=strValues l/\l.map (·.1)=b
 |[],_,r=>by cases r;exact⟨[],rfl,rfl⟩
 |x::b,_,r=>by
  rw[af] at r;cases r with
  |cons h t=>obtain⟨c,rfl⟩:=h;obtain⟨l,rfl,e⟩:=Bt t;exact⟨(x,c)::l,rfl,by simp[e]⟩
noncomputable def ri:Lp->Option Lr
 |[]=>Y []
 |.str x::r=>(ri r).map (x::·)
 |_::_=>Z
theorem wy:∀{b:Lp}{a:Lr},ri b=Y a->b=a.map .str
 |[],_,h=>by cases h;rfl
 |d::r,a,h=>by
  cases d<;>try (simp[ri] at h;done)
  obtain⟨c,e,rfl⟩:=aa.mp (show (ri r).map _=Y a from h);rw[wy e];rfl
theorem yE:∀a:Lr,ri (a.map .str)=Y a
 |[]=>rfl
 |x::a=>by show (ri (a.map .str)).map _=_;rw[yE a];rfl
theorem Bu{K:Fg}{H:Hp}:∀{c:Lr}{d:List V},c6 K H (c.map .str) d->d=c.map .str
 |[],_,h=>c6.fe.mp h
 |x::c,_,h=>by obtain⟨v,r,rfl,a,b⟩:=c6.da.mp h;rw[dy.fz.mp a,Bu b];rfl
theorem qm{K:Fg}{H:Hp}:∀(a:Lr),c6 K H (a.map .str) (a.map .str)
 |[]=>c6.nil
 |x::a=>c6.cons (dy.fz.mpr rfl) (qm a)
section
variable {a c:Expr}{fb fc:bb->Od}{p2 apos gd:Pos}{ga gc:bb->Option Bool}
def xM(g:eW->Lp->Od)(f:bb->Od)(a:bb->Option Lp):bb->Od:=λρ=>(f ρ).bind λd=>(a ρ).bind λds=>match d with | .str z=>g (.str z) ds|_=>Z
def Hi{a:Str}{n:String}{g:eW->Lp->Od} (j:Slot "str" a n) (p:typeOf (.builtin n)=pure (.type "method_descriptor")) (y:UM X n (λx vs H Q=>∃d ds c,dy X.K H d x/\c6 X.K H ds vs/\g d ds=Y c/\KD X.K H c Q)) (w:PD X o f) (A:Bj X (e::es) ff)
  (i:attributeBase o a X.env (eval o X.env)=eval o X.env:=by rfl)
  (l:((backTo gd (starEach (e::es) X.env)).all (λx=>!x.1)&&(backToKw gd (keywordEach [] X.env)).all (λx=>x.1.isSome)
  &&decide ((e::es).length+([]:List Keyword).length+(if ([]:List Keyword).isEmpty then 0 else 1)<30))=true:=by rfl)
  (h:(apos.endLine==gd.line)=true:=by rfl) (m:zE e es X:=by rfl) (b:(backTo gd (starEach es X.env)).any (·.1)=false:=by rfl):
  PD X (.Call (.Attribute o a apos) (e::es) [] gd) (xM g f ff) :=
 PE.imp (Be PySem.F.plainAttrs_str j p y w A i l h m b) <| by
  rintro σ H Q ⟨ρ,d,m,e,k⟩;obtain⟨x,D,C⟩:=bind_some e;obtain⟨ds,B,t⟩:=bind_some C;obtain⟨z,rfl⟩:∃z,x=.str z:=by cases x<;>first|exact⟨_,rfl⟩|cases t
  refine⟨ρ,_,m,D,λv G r s=>⟨?_,ρ,ds,m.same r,B,λvs E q u=>⟨_,ds,d,s.same q,u,t,k.later (r.trans q)⟩⟩⟩;rw[dy.fz.mp s];rfl
noncomputable def iW(d:eW)(a:Lp):Od:=match d,a with
 |.str x,[.str y]=>if (y.length==0)=false/\x.length<=sizeLine/\(partsBetween x (occurrences x y 0 x.length (x.length+1)) y.length).length<=sizeLine then Y (.list ((Txt.split x y).map .str)) else Z
 |_,_=>Z
def Nm:UM X "str.split" (λx vs H Q=>∃d n c,dy X.K H d x/\c6 X.K H n vs/\iW d n=Y c/\KD X.K H c Q):=by
 intro a s σ H v vs u D Q I o p h;obtain⟨d,n,F,z,w,e,k⟩:=h;unfold iW at e;split at e
 ·rename_i x y;by_cases j:(y.length==0)=false/\x.length<=sizeLine/\(partsBetween x (occurrences x y 0 x.length (x.length+1)) y.length).length<=sizeLine
  ·rw[ah j] at e;cases e;obtain⟨q,m,b⟩:=j;rw[dy.fz.mp z] at o;obtain⟨t,rfl⟩:=o;obtain⟨C,rfl,r⟩:=jf w;rw[dy.fz.mp r] at p;obtain⟨E,rfl,t',rfl⟩:=p.one;have f:∀(l:List (Str×Tok)) (i:Nat),l.map (·.1)=Txt.split x y->l.length<=sizeLine->EP X a σ Q (.ref (zB s)) { s with heap:=s.heap.push { cls:=.type "list",data:=.seq (strValues l).toArray },toks:=i }:=λl i A g=>by
    have B:=I.XB (t':=i) (ys:=(l.map (·.1)).map V.str) (Bs l) (by simpa using g);refine⟨.ref (zB s),_,B,rfl,k.Ao ?_ _ I.fresh⟩;rw[A];exact qm _
   cases h1:(decide (x.length<y.length)||decide (strKind x<strKind y))
   ·cases hf:(occurrences x y 0 x.length (x.length+1)).isEmpty
    ·refine cO eK (d6 _ _ _) et (d8 _ _) (meets_str_split_sep x y t t' h1 q hf m b) ?_;show EP X a σ Q _ { s with toks:=_,heap:=s.heap.push { cls:=.type "list",data:=.seq (strsFrom s.toks (partsBetween x (occurrences x y 0 x.length (x.length+1)) y.length)).toArray } };rw[strsFrom_eq];refine f _ _ ((numbered_texts _ _).trans ((ai (dS h1)).trans (ai (dS hf))).symm) ?_;have:=bL List.length (numbered_texts s.toks (partsBetween x (occurrences x y 0 x.length (x.length+1)) y.length));rw[aC] at this;rw[this];exact b
    ·exact cO eK (d6 _ _ _) et (d8 _ _) (meets_str_split_not_found x y t t' h1 q hf)
      (f [(x,t)] s.toks ((ai (dS h1)).trans (ah hf)).symm (by show 1<=sizeLine;decide))
   ·exact cO eK (d6 _ _ _) et (d8 _ _) (meets_str_split_cannot_occur x y t t' h1)
     (f [(x,t)] s.toks (ah h1).symm (by show 1<=sizeLine;decide))
  ·rw[ai j] at e;cases e
 ·cases e
noncomputable def pS(d:eW)(ds:Lp):Od:=match d,ds with
 |.str x,[.list b]=>(ri b).bind λa=>if JoinOk x a=true then Y (.str (Txt.join x a)) else Z
 |_,_=>Z
def IZ:UM X "str.join" (λx vs H Q=>∃d g c,dy X.K H d x/\c6 X.K H g vs/\pS d g=Y c/\KD X.K H c Q):=by
 intro m s σ H v vs u L Q I j q h;obtain⟨d,g,O,D,C,e,k⟩:=h;unfold pS at e;split at e
 ·rename_i x N;obtain⟨a,F,b⟩:=bind_some e;by_cases f:JoinOk x a=true
  ·rw[ah f] at b;cases b;have:=wy F;subst this;rw[dy.fz.mp D] at j;obtain⟨t,rfl⟩:=j;obtain⟨J,rfl,B⟩:=jf C;obtain⟨p,G,rfl,i,z⟩:=dy.fG.mp B;obtain⟨M,rfl,w⟩:=q.one;cases w;rw[Bu z] at i;obtain⟨A,r,y,_⟩:=I.list i;obtain⟨l,rfl,E⟩:=Bt r;exact SC.join y.isList E f λo n=>⟨.str _,H,I.tok n,⟨o,rfl⟩,k.here (dy.fz.mpr rfl)⟩
  ·rw[ai f] at b;cases b
 ·cases e
noncomputable def Bv(x y:eW):Od:=match x,y with
 |.str z,.int n=>if 0<=n/\n<=64/\z.length<=64 then Y (.str (Txt.mul z n)) else Z
 |x,y=>U0 x y
def EJ{z:Str}{n:Int}(h:0<=n/\n<=64/\z.length<=64):MulOk z n:=mulOk_of 64 64 (by omega) (by omega) (by omega) (by decide) (by decide)
def QQ:k6 X (binaryOp .Mult) (λx y H Q=>∃z n,x=.str z/\y=.int n/\(0<=n/\n<=64/\z.length<=64)/\Q (.str (Txt.mul z n)) H):=by intro a s σ H x y v u Q I d c h;obtain⟨z,n,rfl,rfl,e,q⟩:=h;obtain⟨t,rfl⟩:=d;obtain⟨f,rfl⟩:=c;exact SB.mul (EJ e) λb k=>⟨.str _,H,I.tok _,⟨b,rfl⟩,q⟩
def I0:uf X (binaryOp .Mult) Bv:=by
 refine k6.imp (k6.or U1 QQ) ?_;rintro x y H Q ⟨a,b,d,g,f,e,k⟩;unfold Bv at e;split at e
 ·rename_i z n;by_cases c:0<=n/\n<=64/\z.length<=64
  ·rw[ah c] at e;cases e;exact .inr ⟨z,n,dy.fz.mp g,dy.fw.mp f,c,k.here (dy.fz.mpr rfl)⟩
  ·rw[ai c] at e;cases e
 ·exact .inl ⟨a,b,d,g,f,e,k⟩
noncomputable def qo(x y:eW):Od:=match x,y with
 |.str a,.str b=>Y (.bool (!decide (b.cps.toList<a.cps.toList)))
 |x,y=>Zz x y
def KG:k6 X (compareOp .LtE) (λx y H Q=>∃i j,x=.str i/\y=.str j/\Q (.bl (!decide (j.cps.toList<i.cps.toList))) H):=by intro a s σ H x y v u Q I c b h;obtain⟨i,j,rfl,rfl,q⟩:=h;obtain⟨t,rfl⟩:=c;obtain⟨d,rfl⟩:=b;exact PySem.P.le_str (x9 I q rfl)
def vG:uf X (compareOp .LtE) qo:=by
 refine k6.imp (k6.or XJ KG) ?_;rintro x y H Q ⟨a,b,d,f,c,e,k⟩;unfold qo at e;split at e
 ·rename_i z n;cases e;exact .inr ⟨z,n,dy.fz.mp f,dy.fz.mp c,k.here (dy.fC.mpr rfl)⟩
 ·exact .inl ⟨a,b,d,f,c,e,k⟩
noncomputable def qp(g a:eW->eW->Od)(e d c:bb->Od):bb->Option Bool:=λρ=>(e ρ).bind λx=>(d ρ).bind λy=>(g x y).bind λr=>(QR r).bind λk=>if k=true then (c ρ).bind λz=>(a y z).bind QR else Y false
where QR:eW->Option Bool | .bool b=>Y b|_=>Z
def Bw{b:Bool}(h:qp.QR d=Y b):d=.bool b:=by cases d<;>first|(cases h;rfl)|cases h
def Bx{l d:CmpOp}{g B:eW->eW->Od} (J:uf X (compareOp l) g) (o:uf X (compareOp d) B) (N:PD X a fa) (M:PD X b fb) (L:PD X c fc)
  (K:lastMarks [l,d] [b,c]=false:=by with_unfolding_all rfl):Bi X (.Compare a [l,d] [b,c] pos) (qp g B fa fb fc) :=
 PT.imp (Mq J o N M L K) <| by
  rintro σ H Q ⟨ρ,b,n,e,k⟩;obtain⟨x,V,t⟩:=bind_some e;obtain⟨y,U,s⟩:=bind_some t;obtain⟨r,T,q⟩:=bind_some s;obtain⟨m,S,j⟩:=bind_some q;have:=Bw S;subst this;clear e t s q;refine⟨ρ,x,n,V,λv H1 i I=>⟨ρ,y,n.same i,U,λu H2 h A=>⟨x,y,.bool m,I.same h,A,T,λw H3 f G=>⟨m,dy.fC.mp G,?_⟩⟩⟩⟩;cases m with
  |false=>rw[ai aF] at j ⊢;cases j;exact⟨false,rfl,k H3 (i.trans (h.trans f))⟩
  |true=>rw[ah rfl] at j ⊢;obtain⟨z,R,D⟩:=bind_some j;obtain⟨r2,P,O⟩:=bind_some D;have:=Bw O;subst this;exact⟨ρ,z,n.same (i.trans (h.trans f)),R,λw2 H4 p F=>⟨y,z,.bool b,A.same (f.trans p),F,P,λw3 W C E=>⟨b,dy.fC.mp E,k W (i.trans (h.trans (f.trans (p.trans C))))⟩⟩⟩
def X6(f:bb->Od):bb->Od:=λρ=>(f ρ).bind λd=>match d with | .str x=>if x.length<=sizeLine then Y (.str x) else Z|_=>Z
def Nn(h:X6 f ρ=Y d):∃x,f ρ=Y (.str x)/\d=.str x/\x.length<=sizeLine:=by
 obtain⟨x,c,a⟩:=bind_some h;obtain⟨y,rfl⟩:∃y,x=.str y:=by cases x<;>first|exact⟨_,rfl⟩|cases a
 dsimp only at a;by_cases b:y.length<=sizeLine
 ·rw[ah b] at a;cases a;exact⟨y,c,rfl,b⟩
 ·rw[ai b] at a;cases a
def TQ(q:PD X e f):PD X (.FormattedValue e (-1) Z pos) (X6 f):=by
 intro a s σ H Q I ⟨ρ,d,p,u,k⟩;obtain⟨x,r,rfl,o⟩:=Nn u;refine wpAny_FormattedValue_plain (hZ (@q a s σ H (λv H'=>v=.str x/\eZ H H') I ⟨ρ,_,p,r,λv H' j i=>⟨dy.fz.mp i,j⟩⟩) ?_);rintro v h ⟨y,z,w,l,n,m⟩;subst n;obtain⟨t,rfl⟩:=l;have b:∀g c,EP X a σ Q (.str x g) { h with toks:=c }:=λg c=>⟨.str x,z,w.tok c,⟨g,rfl⟩,(k.later m).here (dy.fz.mpr rfl)⟩
 exact wpAny_formatField_str (b t h.toks) (b _ _) o
def PJ(X:Cx)(e:Lx)(d:bb->Option Str):Prop :=
 ∀(a:Str) (pins:Ax) (s:Shared) (σ:St) (H:Hp) (Q:Str->Shared->Prop),fu X pins σ H s->(∃ρ z,jD X.K H σ ρ/\d ρ=Y z/\(a++z).length<=sizeLine/\∀c b,eZ H c->fu X pins σ c b->Q (a++z) b) ->
  Joins (model X.prog X.w) X.A X.xe (evalEach e X.env) a Q s
def yF(a:Str):a++Str.empty=a:=by cases a with|mk c=>show Str.mk (c++#[])=Str.mk c;rw[Array.append_empty]
def pT(a b c:Str):a++b++c=a++(b++c):=by cases a with|mk x=>cases b with|mk y=>cases c with|mk z=>show Str.mk (x++y++z)=Str.mk (x++(y++z));rw[Array.append_assoc]
def oU(a b:Str):(a++b).length=a.length+b.length:=strLen_append ..
def Vj:PJ X [] (λ_=>Y Str.empty):=by intro b a s σ H Q I ⟨ρ,z,d,e,c,k⟩;cases e;have:=k H s (.refl H) I;rw[yF] at this;exact this
noncomputable def EK(f:bb->Od)(g:bb->Option Str):bb->Option Str:=λρ=>(f ρ).bind λd=>(g ρ).bind λz=>match d with | .str y=>Y (y++z)|_=>Z
def CM(B:PD X e f){m:bb->Option Str}(w:PJ X es m)(h:evalEach (e::es) X.env=eval e X.env::evalEach es X.env:=by rfl):PJ X (e::es) (EK f m):=by
 intro b a s σ H Q I ⟨ρ,z,l,F,g,k⟩;obtain⟨d,E,D⟩:=bind_some F;obtain⟨o,C,n⟩:=bind_some D;obtain⟨y,rfl⟩:∃y,d=.str y:=by cases d<;>first|exact⟨_,rfl⟩|cases n
 cases n;rw[h];refine hZ (@B a s σ H (λv H'=>v=.str y/\eZ H H') I ⟨ρ,_,l,E,λv H' c i=>⟨dy.fz.mp i,c⟩⟩) ?_;rintro v q ⟨x,K,G,r,u,j⟩;subst u;obtain⟨t,rfl⟩:=r;have A:(b++y).length<=sizeLine:=by rw[oU] at g ⊢;rw[oU] at g;omega
 refine⟨y,t,rfl,A,w (b++y) a q σ K Q G ⟨ρ,o,l.same j,C,by rw[pT];exact g,λH' c p J=>?_⟩⟩;rw[pT];exact k H' c (j.trans p) J
noncomputable def dFs(a:bb->Option Str):bb->Od:=λρ=>(a ρ).bind λz=>if z.length<=sizeLine then Y (.str z) else Z
def QS{h g:Expr}{a:Lx}{i:bb->Option Str}(n:PJ X (h::g::a) i):PD X (.JoinedStr (h::g::a) pos) (dFs i):=by
 intro b s σ H Q I ⟨ρ,d,m,p,k⟩;obtain⟨z,o,f⟩:=bind_some p;by_cases e:z.length<=sizeLine
 ·rw[ah e] at f;cases f;have j:Str.empty++z=z:=by cases z with|mk c=>show Str.mk (#[]++c)=Str.mk c;rw[Array.empty_append]
  refine wpAny_JoinedStr (n Str.empty b s σ H _ I ⟨ρ,z,m,o,by rw[j];exact e,λr t l q=>?_⟩);rw[j];exact⟨e,.str z,r,q.tok _,⟨_,rfl⟩,(k.later l).here (dy.fz.mpr rfl)⟩
 ·rw[ai e] at f;cases f
def xN(p:eW->Bool):Lp->Nat->Option Nat
 |[],_=>Z
 |d::ds,k=>if p d=true then Y k else xN p ds (k+1)
noncomputable def CN(l:eW)(a:Lp):Od:=match l,a with
 |.list xs,[x]=>if SeqAt.shaped x=true/\xs.all SeqAt.shaped=true/\x.depth<=60/\xs.length<=sizeLine then (xN (λy=>eW.eqv y x) xs 0).map λ(j:Nat)=>eW.int (j:Int) else Z
 |_,_=>Z
theorem uD{p:eW->Bool}:∀{a:Lp}{k j:Nat},xN p a k=Y j->k<=j/\j - k<a.length/\(∃d,a[j - k]?=Y d/\p d=true)/\∀i d,i<j - k->a[i]?=Y d->p d=false
 |[],_,_,h=>by cases h
 |x::a,k,j,h=>by
  unfold xN at h;by_cases b:p x=true
  ·rw[ah b] at h;cases h;refine⟨aA _,by simp,⟨x,by simp,b⟩,λi d f=>by omega⟩
  ·rw[ai b] at h;obtain⟨o,n,⟨d,m,l⟩,g⟩:=uD h;have e:j - k=(j - (k+1))+1:=by omega
   refine⟨by omega,by rw[e];simpa using n,⟨d,by rw[e];simpa using m,l⟩,λi y f c=>?_⟩;cases i with
   |zero=>simp at c;subst c;simpa using b
   |succ i=>exact g i y (by omega) (by simpa using c)
end
end L2
local macro_rules
| `(zT $a $b) => `(L2.Hi PySem.F.slot_str_split PySem.F.type_str_split L2.Nm $a $b)
namespace PySem
open Builtin
def vH:typeLookup (.type "list") "keys"=pure Z:=by rw[eQ,dB];kernel_rfl
theorem CO{e:Program}{w:World}{j:Heap}{o:Array GenState}{p:Drawn}{u:Nat}{m:OsState}{r:Array Ow}{h:Array Value}{f:Str}{Q:Ow->Shared->Prop}
    (s:j.get? a=Y { cls:=.type "list",dict:=Z,data:=.seq h n,slots:=r }) (d:typeLookup (.type "list") f=pure Z) (c:(["__module__","__name__","__qualname__","__doc__","__annotations__"]:Lr).contains f=false) (i:A.handled=Z) (b:f.length+100<=sizeLine)
    (k:∀XS tk' x,Heap.NewExcOf j XS x "AttributeError"->Q Z ⟨XS,o,p,tk',m⟩):wpAny (model e w) A (getAttr? (.ref a) f) Q E ⟨j,o,p,u,m⟩:=by
  have q:∀t,Shared.TypeIs ⟨j,o,p,t,m⟩ (.ref a) "list":=λt=>⟨_,s,rfl⟩
  have B:=sub_AttributeError;have z:=F.slot_list_getattribute.lookup;have y:=F.slot_list_getattribute.bind (.ref a);have v:=am_list_getattr_none;unfold getAttr? getAttrBy? getAttrBy
  repeat (any_goals (first
    |assumption
    |exact q _
    | ((with_reducible show wpAny _ _ (call (Value.builtin "list.__getattribute__") _ _) _ _ _)
       refine cO F.slot_list_getattribute (q _) am_entry_list_getattribute (F.args_list_getattribute_2 _ _) (meets_getattribute_miss_list a h n r f _ d c b) ⟨s,i,λXS tk' x g=>?_⟩)
    |wp_step))
  obtain⟨_,_,l⟩:=g.there;show wpAny _ _ (getattributeRaised _ _ _ _ _ _ _) _ _ _;unfold getattributeRaised
  repeat (any_goals (first|assumption|wp_step))
  exact k _ _ _ g.of
namespace F
def kT:entryFor table "dict.update.loop"=Y Builtin.«dict.update.loop»:=entryFor_of_tree (zK 0)
def h9:plainId "dict.update.loop"=true:=by decide +kernel
end F
section
variable {prog:Program}{w:World}{K:Type} [DecidableEq K] {knd:KeyKind prog w K}
inductive mF (knd:KeyKind prog w K) (h:Heap):Lw->List (K×Value)->Prop
 |nil:mF knd h [] []
 |cons {T:Addr}{key v:Value}{k:K}{vs:Lw}{ps:List (K×Value)}:h.IsTuple T #[key,v]->knd.is k key=true->mF knd h vs ps->mF knd h (.ref T::vs) ((k,v)::ps)
def mF.keep{h h':Heap}{d:Lw}{e:List (K×Value)}(x:mF knd h d e)(k:∀b o xs n,h.get? b=Y o->o.data=.seq xs n->h'.get? b=Y o):mF knd h' d e:=by
 induction x with
 |nil=>exact .nil
 |cons a b c g=>obtain⟨o,j,i,n,f⟩:=a;exact .cons ⟨o,k _ _ _ _ j f,i,n,f⟩ b g
def EL(b c:List (K×Value)):List (K×Value):=c.foldl (λa p=>stored a p.1 p.2) b
def Hj(a:List (K×Value))(k:K)(v:Value):(stored a k v).length<=a.length+1:=by unfold stored;split<;>simp
theorem Np{D I l:Addr}{a:Array Value}{R:Result->Shared->Prop}(hh:A.in1.handled=Z)(j:D≠I)(c:Heap)(L:c.get? D=Z)(t:c.get? I=Z):
  ∀(B:Lw) (ps:List (K×Value)) (i:Nat) (s:Shared) (acc:List (K×Value)),a.toList.drop i=B->mF knd s.heap B ps->(∀b o,c.get? b=Y o->s.heap.get? b=Y o)->s.heap.IsListIter I l i->s.heap.IsList l a->s.heap.DictOf knd D acc->acc.length+ps.length<=sizeLine ->
  (∀p S,p.DictOf knd D (EL acc ps)->(∀b o,c.get? b=Y o->p.get? b=Y o)->R (.ok (.ret .none)) { s with heap:=p,toks:=S }) ->
  codeAny (model prog w) A (.builtin "dict.update.loop" ⟨[.ref D,.ref I,rawInt i,.none],[]⟩) R s
 |[],_,i,s,acc,E,G,h0,J,O,hd,U,hR=>by
  cases G;refine ck F.kT ?_;rw[bX F.h9 _];show wpAny _ A.in1 (pyNext (.ref I)>>=_) _ _ s;have hn:a[i]?=Z:=by have:=List.drop_eq_nil_iff.mp E;simp at this ⊢;omega
  refine ae (dw hh J O hn λp eb=>?_);show wpAny _ A.in1 (Builtin.Dict.addKeywords D []>>=_) _ _ _;refine ae (ar (ar ?_));obtain⟨o,P,Q,x,r⟩:=hd;exact hR p s.toks ⟨o,P,Q,eb _ _ j x,r⟩ λb o e=>eb b o (λz=>by rw[z,t] at e;cases e) (h0 b o e)
 |v::B,_,i,s,acc,E,G,h0,J,O,hd,U,hR=>by
  cases G with
  |@cons T q g k _ ps ht hk G=>
   refine ck F.kT ?_;rw[bX F.h9 _];show wpAny _ A.in1 (pyNext (.ref I)>>=_) _ _ s;have W:i<a.size:=by have:=bL List.length E;simp at this;omega
   have hx:a[i]?=Y (.ref T):=by have:=bL (·[0]?) E;simpa using this
   have V:a.toList.drop (i+1)=B:=by
    have e:=bT (l:=a.toList) (i:=i) (by simpa using W);rw[E] at e;injection e with _ f
    exact f.symm
   refine ae (c9 J O hx λp hI' C=>?_);have hT':p.IsTuple T #[q,g]:=by obtain⟨o,d,f,n,y⟩:=ht;refine⟨o,(C.2 _ λz=>?_).trans d,f,n,y⟩;subst z;obtain⟨oi,u,ci,N⟩:=J;rw[d] at u;cases u;rw[y] at N;cases N
   obtain⟨ot,M,et2,nt,et3⟩:=id hT';show wpAny _ A.in1 (holding [.ref T] _>>=_) _ _ _;refine ae (bw ?_);refine ae (wpAny_tryCatch ?_);unfold Builtin.Dict.pairItems;refine ae (cD (T:="tuple") ⟨ot,M,et2⟩ ?_);have hc1:((Value.type "tuple"==Value.type "list")||(Value.type "tuple"==Value.type "tuple"))=true:=by decide
   simp only[hc1,bD];refine ae ?_;unfold seqItems?;refine ae (wpAny_load M ?_);rw[et3];refine ar (ar ?_);show wpAny _ _ (holding [q,g] (dictSet D q g)) _ _ _;have hd':p.DictOf knd D acc:=by obtain⟨o,P,Q,x,r⟩:=id hd;exact⟨o,P,Q,(C.2 _ j).trans x,r⟩
   have nI:∀b o m n,s.heap.get? b=Y o->o.data=.seq m n->b≠I:=λb o m n d f z=>by subst z;obtain⟨oi,u,ci,N⟩:=J;rw[d] at u;cases u;rw[f] at N;cases N
   have nD:∀b o m n,s.heap.get? b=Y o->o.data=.seq m n->b≠D:=λb o m n d f z=>by subst z;obtain⟨o',P,Q,x,hx2,H,_⟩:=hd;rw[d] at x;cases x;rw[f] at H;cases H
   refine bw (wpAny_dictSet_pairs hk hd' (λh2 hd2 h=>?_) (hsz:=by simp at U;omega));refine ar ⟨cH F.h9 _,?_⟩;have u:((i:Int)+1)=((i+1:Nat):Int):=by omega
   rw[u];have X:h2.IsList l a:=by obtain⟨o,d,f,n,y⟩:=O;exact⟨o,(h.2 _ (nD _ _ _ _ d y)).trans ((C.2 _ (nI _ _ _ _ d y)).trans d),f,n,y⟩
   have hI2:h2.IsListIter I l (i+1):=hI'.at λo e=>(h.2 _ (Ne.symm j)).trans e;refine Np hh j c L t B ps (i+1) { s with heap:=h2,toks:=s.toks+1 } (stored acc k g) V (G.keep λb o m n d f=>(h.2 _ (nD b o m n d f)).trans ((C.2 _ (nI b o m n d f)).trans d)) (λb o e=>?_) hI2 X hd2 ?_ λh3 S hd3 k3=>hR h3 S hd3 k3
   ·have b1:b≠I:=λz=>by rw[z,t] at e;cases e
    have b2:b≠D:=λz=>by rw[z,L] at e;cases e
    exact(h.2 b b2).trans ((C.2 b b1).trans (h0 b o e))
   ·have:=Hj acc k g;simp at U ⊢;omega
theorem xa{l:Addr}{o:Obj}{a:Array Value}{v:List (K×Value)}{Q:Px} (J:A.handled=Z) (R:s.heap.get? l=Y o) (L:o.cls=.type "list") (i:o.data=.seq a n) (u:o.dict=Z)
  (S:mF knd s.heap a.toList v) (B:v.length<=sizeLine)
  (h:∀h' tk,h'.DictOf knd (zB s) (EL [] v)->(∀b o,s.heap.get? b=Y o->h'.get? b=Y o)->Q (.ref (zB s)) { s with heap:=h',toks:=tk }):
  wpAny (model prog w) A (call (.type "dict") [.ref l]) Q E s:=by
 refine callType_codes (Q₁:=λk f=>k=.ref (zB s)/\f={ s with heap:=s.heap.push { cls:=.type "dict",data:=.dict #[] } }) F.kt_called_dict (F.kt_typeCall_dict_1 _) F.entry_dict_init (kt_code_dict_new _ ⟨rfl,rfl⟩) ?_;rintro k f ⟨rfl,rfl⟩;have c:(s.heap.push { cls:=.type "dict",data:=.dict #[] }).DictOf knd (zB s) []:=Heap.DictOf.new s.heap;obtain⟨oc,od,N,M⟩:=o;simp only at L i u;subst L i u;have d:=ak { cls:=.type "dict",data:=.dict #[] } R;refine⟨c.typeIs,F.args_dict_init_2 _ _,?_⟩;unfold Builtin.«dict.__init__»;refine ae ?_;unfold Builtin.Dict.selfAndRest;refine ae (wpAny_notOrdered_dict c.typeIs ?_);show wpAny _ _ (pure ((zB s),[Value.ref l])) _ _ _;refine ar ?_;show wpAny _ _ (Builtin.Dict.updateFrom "dict.__init__" (zB s) (.ref l) [] .none) _ _ _;unfold Builtin.Dict.updateFrom;refine ae (cD (T:="list") ⟨_,d,rfl⟩ ?_);rw[ah (by decide)];refine ae (CO d vH (by decide +kernel) (show A.in1.in1.handled=Z from J) (by decide) λj y e1 t=>?_);rw[ah (show (Z:Ow).isNone=true from rfl)];refine ae (eV ?_);have D:j.IsList l a:=⟨_,t.keeps _ _ d,rfl,n,rfl⟩
 refine ae (de D ?_);refine ar ⟨cH F.h9 _,?_⟩;have g:(zB s)<j.objs.size:=aw (t.keeps _ _ (aB s.heap (o:={ cls:=.type "dict",data:=.dict #[] }) rfl));have I:∀b p,s.heap.get? b=Y p->(j.push { cls:=.type "list_iterator",data:=.fields #[.ref l,.int 0 0] }).get? b=Y p:=λb p e=>ak _ (t.keeps _ _ (ak _ e));have H:(j.push { cls:=.type "list_iterator",data:=.fields #[.ref l,.int 0 0] }).DictOf knd (zB s) []:=by obtain⟨O,W,X,U,r⟩:=c;exact⟨O,W,X,ak _ (t.keeps _ _ U),r⟩
 have C:(j.push { cls:=.type "list_iterator",data:=.fields #[.ref l,.int 0 0] }).IsList l a:=⟨_,ak _ (t.keeps _ _ d),rfl,n,rfl⟩
 exact Np (knd:=knd) (s:={ s with heap:=j.push { cls:=.type "list_iterator",data:=.fields #[.ref l,.int 0 0] },toks:=y }) (show A.in1.in1.handled=Z from J) (aN g) s.heap (by
   cases q:s.heap.get? (zB s) with
   |none=>rfl
   |some z=>exact absurd (aw q) (aZ _)) (by
   cases q:s.heap.get? j.objs.size with
   |none=>rfl
   |some z=>exact absurd (eO (aw q) g) (aZ _)) a.toList v 0 [] rfl (S.keep λb p xs m e _=>I b p e) I ⟨_,aB _ rfl,rfl,rfl⟩ C H (by simpa using B)
  λV x G P=>⟨rfl,h V x G P⟩
end
end PySem
namespace L2
open PySem PySem.Spec PyProof.Rows
noncomputable def uE:Lp->Option (List (Key×eW))
 |[]=>Y []
 |.tuple [k,d]::r=>(pq k).bind λy=>(uE r).map ((y,d)::·)
 |_::_=>Z
def TR(b:List (Key×eW))(a:List (eW×eW)):List (eW×eW):=b.foldl (λa p=>Aq (j8 p.1) p.2 a) a
noncomputable def sZ(b:List (Key×V))(a:List (Key×V)):List (Key×V):=b.foldl (λa p=>putK a p.1 p.2) a
noncomputable def CP:Lp->Od
 |[.list ds]=>(uE ds).bind λa=>if a.length<=sizeLine then Y (.dict (TR a [])) else Z
 |_=>Z
section
theorem EM(I:fu X pins σ H s):∀{j:Lp}{g:List (Key×eW)}{l:List V}{m:Lw},uE j=Y g->c6 X.K H j l->fY l m ->
  ∃(c:List (Key×V)) (ws:List (Key×Value)),mF (fU X.prog X.w) s.heap m ws/\KV c ws/\c.length=g.length/\∀a b,f9 X.K H a b->f9 X.K H (TR g a) (sZ c b)
 |[],_,_,_,e,i,r=>by cases e;rw[c6.fe.mp i] at r;cases r;exact⟨[],[],.nil,.nil,rfl,λa b h=>h⟩
 |d::j,_,_,_,e,i,r=>by
  obtain⟨v,l,rfl,N,M⟩:=c6.da.mp i;obtain⟨k,f,rfl⟩:∃k f,d=.tuple [k,f]:=by
   unfold uE at e;split at e
   ·rename_i z;cases z
   ·rename_i k f r z;injection z with o z2;exact⟨k,f,o⟩
   ·cases e
  obtain⟨y,Q,P⟩:=bind_some (show (pq k).bind (λy=>(uE j).map ((y,f)::·))=Y _ from e);obtain⟨g,O,rfl⟩:=aa.mp P;cases r with
  |cons B A=>
   obtain⟨c,ws,W,U,S,R⟩:=EM I O M A;obtain⟨T,ts,rfl,x,L⟩:=N.gP;cases B;obtain⟨v1,q,rfl,G,F⟩:=MU L;obtain⟨J,n,E,_⟩:=I.tuple x;have:=g9 Q;subst this;rw[iz G] at n;cases n with
   |@cons _ w1 _ _ D u=>
    cases u with
    |@cons _ p _ _ C t=>cases t;exact⟨(y,q)::c,(y,p)::ws,mF.cons E (mK D) W,Paired.cons ⟨rfl,C⟩ U,by rw[ao,ao,S],λa b h=>R _ _ (h.put F)⟩
def KV.aaz{c:List (Key×V)}{e:List (Key×Value)}(r:KV c e):∀{a:List (Key×V)}{b:List (Key×Value)},KV a b->KV (sZ c a) (EL b e):=by
 induction r with
 |nil=>exact λh=>h
 |@cons p q c f h t g=>intro a b d;obtain⟨j,i⟩:=h;have:=d.put p.1 i;rw[show sZ (p::c) a=sZ c (putK a p.1 p.2) from rfl,show EL b (q::f)=EL (stored b q.1 q.2) f from rfl,<-j];exact g this
theorem By:∀(b:List (Key×V)) (a:List (Key×V)),(sZ b a).length<=a.length+b.length
 |[],a=>by simp[sZ]
 |p::b,a=>by have d:=By b (putK a p.1 p.2);have c:=qZ a p.1 p.2;rw[show sZ (p::b) a=sZ b (putK a p.1 p.2) from rfl,ao];omega
def QT(K:X.calm=true):Bl X (.type "dict") CP:=by
 intro q s σ H S U Q I r h;obtain⟨ds,c,i,e,k⟩:=h;unfold CP at e;split at e
 ·rename_i V;obtain⟨m,M,f⟩:=bind_some e;by_cases g:m.length<=sizeLine
  ·rw[ah g] at f;cases f;obtain⟨v,rfl,L⟩:=jf i;obtain⟨u,rfl,B⟩:=yc r;obtain⟨p,T,rfl,z,D⟩:=dy.fG.mp L;cases B;obtain⟨E,A,⟨o,n,F,l,j,d⟩,_⟩:=I.list z;obtain⟨b,x,P,t,O,N⟩:=EM I M D A;have hw:x.length=m.length:=by rw[<-t.length,O]
   refine xa (knd:=fU X.prog X.w) (I.ok.hd K) F l d j (by simpa using P) (by rw[hw];exact g) λW y J C=>?_;have G:(sZ b []).length<=sizeLine:=by have:=By b [];simp at this;omega
   have R:=I.laid (a:=(zB s)) (o:=.dK (sZ b [])) (t':=y) C (aA _) (GZ G (aU.mpr (Ne.symm (aN I.big))) (KV.aaz t .nil) J);refine⟨.ref (zB s),_,R,rfl,k _ _ (ka I.fresh) (dy.lE.mpr ⟨_,rfl,.inl ⟨_,.inl fx,?_⟩⟩)⟩;exact(N [] [] (f9.fe.mpr rfl)).same (ka I.fresh)
  ·rw[ai g] at f;cases f
 ·cases e
end
end L2
namespace PySem
open Builtin
section
variable {prog:Program}{w:World}
abbrev aaA(a:Program)(w:World)(A:Around)(R:Result->Shared->Prop):Fin->Shared->Prop:=λb c=>match b with
 |.done f=>R (.ok f) c
 |.again d=>d.quiet=true/\codeAny (model a w) A d R c
theorem wz{x:Value}{Q:Px}
  (j:∀h2 c,h2.get? (zB s)=Y (zl #[] c)->(∀b o,s.heap.get? b=Y o->h2.get? b=Y o) ->
   wpAny (model prog w) A.in1.in1 (Builtin.List.listExtendWith (.ref (zB s)) x .none) (aaA prog w A.in1 (wants (λr s₂=>r=.none/\Q (.ref (zB s)) s₂) E)) (λe s'=>wants (λr s₂=>r=.none/\Q (.ref (zB s)) s₂) E (.error e) s') { s with heap:=h2 }):
  wpAny (model prog w) A (call (.type "list") [x]) Q E s:=by
 refine callType_codes (Q₁:=λf d=>f=.ref (zB s)/\d={ s with heap:=s.heap.push { cls:=.type "list",data:=.seq #[] } }) F.called_list (F.typeCall_list_1 _) F.entry_list_init (code_list_new _ ⟨rfl,rfl⟩) λf d g=>?_;obtain⟨rfl,rfl⟩:=g;have a:(s.heap.push { cls:=.type "list",data:=.seq #[] }).get? (zB s)=Y { cls:=.type "list",data:=.seq #[] }:=aB _ rfl;refine⟨⟨_,a,rfl⟩,F.args_list_init_2 _ _,?_⟩;show wpAny _ A.in1.in1 (do
  let h <-Builtin.List.listItems (.ref (zB s))
  Builtin.List.listUpdate (.ref (zB s)) (λ_=>#[])
  letGo h.toList.reverse
  Builtin.List.listExtendWith (.ref (zB s)) x .none) _ _ _
 refine ae ?_;unfold Builtin.List.listItems;refine ae (eT a rfl (ar ?_));show wpAny _ A.in1.in1 (updateSeq (zB s) (λ_=>#[])>>=_) _ _ _;refine ae (b6 a rfl (ae (wpAny_letGo ?_)));refine j _ _ (bE (Obj.mapSeq λ_=>(#[]:Array Value)) a rfl) λb o e=>?_;have i:(zB s)≠b:=λz=>aZ _ (by have:=aw e;rw[<-z] at this;exact this);exact(bo _ _ i).trans (ak _ e)
variable {K:Type} [DecidableEq K] {knd:KeyKind prog w K}
theorem yG{d:Addr}{a:List (K×Value)}{Q:Px} (X:A.handled=Z) (hS:(d==sysModules)=false) (hd:s.heap.DictOf knd d a) (W:a.length<=sizeLine)
  (h:∀h' tk its c,its.size=a.length->(∀(j:Nat) v,its[j]?=Y v->∃k x,a[j]?=Y (k,x)/\knd.is k v=true)->h'.get? (zB s)=Y (zl its c)->(∀b o,s.heap.get? b=Y o->h'.get? b=Y o)->Q (.ref (zB s)) { s with heap:=h',toks:=tk }):
  wpAny (model prog w) A (call (.type "list") [.ref d]) Q E s:=by
 obtain⟨r,t⟩:=hd.dictAt;have i:d<(zB s):=t.lt_size;refine wz λg c B M=>?_;have f:g.DictAt knd d a r:=t.at' λo e=>M _ _ e;have P:Shared.TypeIs { s with heap:=g } (.ref d) "dict":=f.dictOf.typeIs;have l:(zB s)<g.objs.size:=aw B;unfold Builtin.List.listExtendWith;refine ae (cD P ?_);have V:Builtin.List.listSameRef (.ref (zB s)) (.ref d)=false:=by simp[Builtin.List.listSameRef,dZ i]
 have U:(Value.type "dict"==Value.type "list")=false:=by decide
 have T:(Value.type "dict"==Value.type "tuple")=false:=by decide
 simp only[V,U,T,dM,bO,bV];refine ae (wpAny_pyIter_dict hS f ?_);refine ae (bw ?_);have p:Shared.TypeIs { s with heap:=g.push { cls:=.type "dict_keyiterator",data:=.fields #[.ref d,.int 0 0,.int a.length 0,.int r 0] } } (.ref d) "dict":=(f.push _).dictOf.typeIs;unfold Builtin.List.listLengthHint;refine ae (dO p F.slot_dict_len.lookup ?_);have R:splitId "dict.__len__"=Y ("dict","__len__"):=by kernel_rfl
 dsimp only;rw[R];dsimp only;refine ae (wpAny_isInstance p isSubtype_dict_dict ?_);rw[ai (by decide),ah (by decide)];refine ae (cD p ?_);show wpAny _ _ (pure false) _ _ _;refine ar ?_;rw[ah (by decide)];refine ae (eV (ae ?_));show wpAny _ _ (updateSeq (zB s) (·.push .none)>>=λ_=>updateSeq (zB s) (·.pop)) _ _ _;have y:(g.push { cls:=.type "dict_keyiterator",data:=.fields #[.ref d,.int 0 0,.int a.length 0,.int r 0] }).get? (zB s)=Y (zl #[] c):=ak _ B;refine ae (b6 y rfl ?_);have u:=bE (Obj.mapSeq (·.push Value.none)) y rfl;refine b6 (hz:=by seq_fits) u rfl ?_;have J:=bE (Obj.mapSeq (·.pop)) u rfl;have q:∀b o,b≠(zB s)->(g.push { cls:=.type "dict_keyiterator",data:=.fields #[.ref d,.int 0 0,.int a.length 0,.int r 0] }).get? b=Y o->(((g.push { cls:=.type "dict_keyiterator",data:=.fields #[.ref d,.int 0 0,.int a.length 0,.int r 0] }).update (zB s) (Obj.mapSeq (·.push Value.none))).update (zB s) (Obj.mapSeq (·.pop))).get? b=Y o :=
  λb o N e=>(bo _ _ (Ne.symm N)).trans ((bo _ _ (Ne.symm N)).trans e)
 have H:(zB s)∉[g.objs.size,d]:=by
  intro m;rcases av.mp m with e|m
  ·exact absurd e (aN l)
  ·exact absurd (by simpa using m) (dZ i)
 have dI:d≠g.objs.size:=aN (eO i l);refine ar ⟨cH b7 _,codeAny_extend_loopS (Walks.dictKeys (knd:=knd) (show A.in1.in1.handled=Z from X) g.objs.size d dI a r).toS W _ H _ a.length 0 _ _ _ rfl (cB _) ⟨?_,?_⟩ J (ItemsOf.nil _) λS L c' C I n=>?_⟩
 ·exact Heap.IsKeyIter.at ⟨_,aB _ rfl,rfl,rfl⟩ λo e=>q _ _ (Ne.symm (aN l)) e
 ·exact(f.push _).at' λo e=>q _ _ (aN i) e
 ·obtain⟨h',g',d',D,G⟩:=S;have eg:g'=s.gens:=C.gens;have ed:d'=s.drawn:=C.drawn;have eo:G=s.os:=C.os;subst eg ed eo;refine⟨rfl,h h' D L c' n.1 (λj v e=>n.2 j v e) I λb o e=>?_⟩;have O:b≠(zB s):=λz=>aZ _ (by have:=aw e;rw[z] at this;exact this);have bI:b≠g.objs.size:=λz=>aZ g.objs.size (eO (by have:=aw e;rw[z] at this;exact this) l);refine C.heap b o (by simp[O,bI]) (q b o O (ak _ (M b o e)))
end
end PySem
namespace PySem
open Builtin
section
variable {prog:Program}{w:World}
def QU{M:Model}{Q:Option Obj->Shared->Prop}(h:Q (s.heap.get? a) s):wpAny M A (loadIfAlive a) Q E s:=λΓ p b=>by show Sem.wp M Γ (Sem.loadIfAlive a _) _ _ p s;rw[Sem.wp_loadIfAlive];exact h
abbrev vI(h:Heap)(z c a T:Addr)(b:Bool):Prop:=h.get? z=Y { cls:=.type "zip",dict:=Z,data:=.fields #[rawInt T,.bool b,.bool false,.ref c,.ref a],slots:=#[] }
def wA{z e d T:Addr}{b:Bool}{g:Obj}{Q:Bool->Shared->Prop} (a:vI s.heap z e d T b) (h:s.heap.get? T=Y g)
  (k:∀h',vI h' z e d T true->Heap.SameBut z s.heap h'->Q false { s with heap:=h' }):wpAny (model prog w) A (Builtin.SmallTypes.ownedTupleIsFree (.ref z)) Q E s:=by
 unfold Builtin.SmallTypes.ownedTupleIsFree;refine ae (cC a rfl (x:=rawInt T) rfl ?_);show wpAny _ _ (loadIfAlive ((T:Int)).toNat>>=_) _ _ _;refine ae (QU ?_);rw[show ((T:Int)).toNat=T from cN T,h];rw[ai (by simp)];refine ae (cC a rfl (x:=.bool b) rfl ?_);cases b with
 |true=>rw[ai (by decide)];exact ar (k _ a (Heap.SameBut.refl _ _))
 |false=>rw[ah (by decide)];refine ae (wpAny_setField_rec a (by simp) λh' c f=>ar (k h' c f))
def Hk{z j I T h g n m:Addr}{b:Bool}{M:Obj}{q p:Nat}{K J:Array Value}{x y:Value}{Q:Px} (D:ZipApart z j I h g n m) (B:vI s.heap z j I T b) (W:s.heap.get? T=Y M) (C:IsPair s.heap j (.ref h) (.ref g))
  (S:s.heap.IsListIter h n q) (R:s.heap.IsListIter g m p) (O:s.heap.IsList n K) (N:s.heap.IsList m J) (V:K[q]?=Y x) (U:J[p]?=Y y)
  (k:∀h',vI h' z j I T true->h'.IsListIter h n (q+1)->h'.IsListIter g m (p+1)->IsPair h' (zB s) x y->(∀c o,c≠z->c≠h->c≠g->s.heap.get? c=Y o->h'.get? c=Y o)->Q (.ref (zB s)) { s with heap:=h' }):
  wpAny (model prog w) A (Builtin.«zip.__next__» ⟨[.ref z],[]⟩) (λfin s'=>∃v,fin=.done (.ret v)/\Q v s') E s:=by
 show wpAny _ _ (field (.ref z) 2>>=_) _ _ _;refine ae (cC B rfl (x:=.bool false) rfl ?_);show wpAny _ _ (field (.ref z) 3>>=_) _ _ _;refine ae (cC B rfl (x:=.ref j) rfl (ae (eT C rfl ?_)));show wpAny _ _ (Builtin.SmallTypes.ownedTupleIsFree (.ref z)>>=_) _ _ _;refine ae (wA B W λh1 u a=>?_);rw[ai aF];refine ae ?_;rw[<-Array.forIn_toList];simp only[dP,d7];refine ae (ae (bw ?_));show wpAny _ _ (Builtin.SmallTypes.nextOf (.ref h)>>=_) _ _ _;refine ae (dq (S.extBut a.extBut D.i1z) (O.extBut a.extBut D.l1z) V λX t d=>ar (ar ?_));dsimp only;refine ae (ae (bw ?_));show wpAny _ _ (Builtin.SmallTypes.nextOf (.ref g)>>=_) _ _ _;refine ae (dq ((R.extBut a.extBut D.i2z).extBut d.extBut D.i12.symm) ((N.extBut a.extBut D.l2z).extBut d.extBut D.l2i1) U λi r f=>ar (ar (ar ?_)));have L:i.objs.size=(zB s):=by rw[f.1,d.1,a.1]
 have P:∀c o,c≠z->c≠h->c≠g->s.heap.get? c=Y o->i.get? c=Y o:=λc o H G F e=>f.extBut _ _ F (d.extBut _ _ G (a.extBut _ _ H e));refine ae (wpAny_newTuple (ar ⟨_,rfl,?_⟩) (by show 2<=sizeLine;decide));show Q (.ref i.objs.size) _;rw[L];have l:∀c o,i.get? c=Y o->(i.push { cls:=.type "tuple",data:=.seq #[x,y] }).get? c=Y o:=λc o e=>ak _ e;refine k _ (l _ _ (f.extBut _ _ D.i2z.symm (d.extBut _ _ D.i1z.symm u))) ((t.extBut f.extBut D.i12).at λo e=>l _ _ e) (r.at λo e=>l _ _ e) (by rw[<-L];exact aB _ rfl) λc o H G F e=>l _ _ (P c o H G F e)
def Hl{z i K T h g p n:Addr}{b:Bool}{L:Obj}{t r:Nat}{l j:Array Value}{Q:Fin->Shared->Prop} (I:A.handled=Z) (D:ZipApart z i K h g p n) (u:vI s.heap z i K T b) (S:s.heap.get? T=Y L) (B:IsPair s.heap i (.ref h) (.ref g))
  (H:s.heap.IsListIter h p t) (N:s.heap.IsListIter g n r) (G:s.heap.IsList p l) (M:s.heap.IsList n j) (f:l[t]?=Z\/j[r]?=Z)
  (k:∀h' e,(∀c o,c≠z->c≠h->c≠g->s.heap.get? c=Y o->h'.get? c=Y o)->(∃o,h'.get? e=Y o/\o.cls=.type "StopIteration")->E (.ref e) { s with heap:=h' }):
  wpAny (model prog w) A (Builtin.«zip.__next__» ⟨[.ref z],[]⟩) Q E s:=by
 show wpAny _ _ (field (.ref z) 2>>=_) _ _ _;refine ae (cC u rfl (x:=.bool false) rfl ?_);show wpAny _ _ (field (.ref z) 3>>=_) _ _ _;refine ae (cC u rfl (x:=.ref i) rfl (ae (eT B rfl ?_)));show wpAny _ _ (Builtin.SmallTypes.ownedTupleIsFree (.ref z)>>=_) _ _ _;refine ae (wA u S λh1 P a=>?_);rw[ai aF];refine ae ?_;rw[<-Array.forIn_toList];simp only[dP,d7];refine ae (ae (bw ?_));show wpAny _ _ (Builtin.SmallTypes.nextOf (.ref h)>>=_) _ _ _;cases v:l[t]? with
 |none=>exact ae (wpAny_nextOf_list_end I (H.extBut a.extBut D.i1z) (G.extBut a.extBut D.l1z) v λJ e d y=>k J e (λc o F C _ q=>d _ _ C (a.extBut _ _ F q)) y)
 |some x=>have R:j[r]?=Z:=f.resolve_left (by rw[v];exact λq=>nomatch q);refine ae (dq (H.extBut a.extBut D.i1z) (G.extBut a.extBut D.l1z) v λJ O d=>ar (ar ?_));dsimp only;refine ae (ae (bw ?_));show wpAny _ _ (Builtin.SmallTypes.nextOf (.ref g)>>=_) _ _ _;exact ae (wpAny_nextOf_list_end I ((N.extBut a.extBut D.i2z).extBut d.extBut D.i12.symm) ((M.extBut a.extBut D.l2z).extBut d.extBut D.l2i1) R λU e m y=>k U e (λc o F C V q=>m _ _ V (d.extBut _ _ C (a.extBut _ _ F q))) y)
def CQ(S:Addr)(h:Heap)(c b a:Array Value):Prop:=∀(j:Nat) v,a[j]?=Y v->∃T x y,v=.ref T/\c[j]?=Y x/\b[j]?=Y y/\IsPair h T x y/\S<T
theorem CS{S z TI TO T E C P O:Addr}{l r:Array Value}(g:Heap)(hh:A.in1.handled=Z)(D:ZipApart z TI TO E C P O)(B:g.get? S=Z/\g.get? z=Z/\g.get? E=Z/\g.get? C=Z)(X:(∃o,g.get? P=Y o)/\∃o,g.get? O=Y o)(hn:min l.size r.size<=sizeLine):
    ∀(m i:Nat) (s:Shared) (acc:Array Value) (c:Nat) (b:Bool),min l.size r.size - i=m->i<=min l.size r.size->acc.size=i->(∃K,s.heap.get? T=Y K/\∃v n,K.cls=.type "tuple"/\K.data=.seq v n)->vI s.heap z TI TO T b->IsPair s.heap TI (.ref E) (.ref C)->s.heap.IsListIter E P i->s.heap.IsListIter C O i->s.heap.IsList P l->s.heap.IsList O r ->
      s.heap.get? S=Y (zl acc c)->CQ S s.heap l r acc->(∀b o,g.get? b=Y o->s.heap.get? b=Y o) ->
      (∀u t c',t.size=min l.size r.size->CQ S u l r t->u.get? S=Y (zl t c')->(∀b o,g.get? b=Y o->u.get? b=Y o)->R (.ok (.ret .none)) { s with heap:=u }) ->
      codeAny (model prog w) A (.builtin "list.extend.loop" ⟨[.ref S,.ref z,.none],[]⟩) R s
:=by
  intro m;induction m using Nat.strongRecOn with
  |_ m ih=>
    rintro i s acc c b hm hi ha ⟨K,ht,tv,tn,tc,td⟩ V G j1 j2 m1 m2 hS W Q hR;have tz:s.TypeIs (.ref z) "zip":=⟨_,V,rfl⟩
    refine ck F.entry_extend_loop ?_;rw[bX b7 _];show wpAny _ A.in1 (pyNext (.ref z)>>=_) _ _ s;refine ae ?_;unfold pyNext;have nz:∀a o v n,s.heap.get? a=Y o->o.data=.seq v n->a≠z:=λa o v n f h q=>by subst q;rw[V] at f;cases f;cases h
    have M:∀a o v n,s.heap.get? a=Y o->o.data=.seq v n->a≠E:=λa o v n f h q=>by subst q;obtain⟨o',p,_,e4⟩:=j1;rw[f] at p;cases p;rw[h] at e4;cases e4
    have L:∀a o v n,s.heap.get? a=Y o->o.data=.seq v n->a≠C:=λa o v n f h q=>by subst q;obtain⟨o',p,_,e4⟩:=j2;rw[f] at p;cases p;rw[h] at e4;cases e4
    by_cases TJ:i<min l.size r.size
    · obtain⟨x,hx⟩:∃x,l[i]?=Y x:=⟨l[i]'(by omega),by simp⟩
      obtain⟨y,hy⟩:∃y,r[i]?=Y y:=⟨r[i]'(by omega),by simp⟩
      refine ae (wpAny_attempt (cy (name:=zZ "__next__") tz dQ
        (dG dQ tz F.entry_zip_next (Hk D V ht G j1 j2 m1 m2 hx hy λu hz' j1' j2' hT' U=>ar ?_) (F.args_zip_next_1 _))))
      have d:∀a o v n,s.heap.get? a=Y o->o.data=.seq v n->u.get? a=Y o:=λa o v n f h=>U a o (nz a o v n f h) (M a o v n f h) (L a o v n f h) f;have hS':=d _ _ _ _ hS rfl;show wpAny _ A.in1 (updateSeq S (·.push (.ref (zB s)))>>=_) _ _ _;refine ae (b6 hS' rfl ?_ (by rw[ha];omega));have I:=bE (Obj.mapSeq (·.push (Value.ref (zB s)))) hS' rfl;have k:∀a o,a≠S->u.get? a=Y o->(u.update S (Obj.mapSeq (·.push (Value.ref (zB s))))).get? a=Y o:=λa o q e=>(bo _ _ (Ne.symm q)).trans e;refine ar ⟨cH b7 _,?_⟩;have H:∀a o,s.heap.get? a=Y o->o.cls≠.type "list"->a≠S:=λa o f h q=>by subst q;rw[hS] at f;cases f;exact h rfl
      have l1S:P≠S:=λq=>by obtain⟨o,e⟩:=X.1;rw[q,B.1] at e;cases e
      have l2S:O≠S:=λq=>by obtain⟨o,e⟩:=X.2;rw[q,B.1] at e;cases e
      have zS:z≠S:=H z _ V (by intro q;injection q with q;revert q;decide);have TS:T≠S:=H T _ ht (by rw[tc];intro q;injection q with q;revert q;decide);have TIS:TI≠S:=H TI _ G (by intro q;injection q with q;revert q;decide);have i1S:E≠S:=by obtain⟨o,f,h,p⟩:=id j1;exact H E o f (by rw[h];intro q;injection q with q;revert q;decide)
      have i2S:C≠S:=by obtain⟨o,f,h,p⟩:=id j2;exact H C o f (by rw[h];intro q;injection q with q;revert q;decide)
      have N:(zB s)≠S:=λq=>by have:=aw hS;rw[<-q] at this;exact aZ _ this
      refine ih (min l.size r.size - (i+1)) (by omega) (i+1) _ (acc.push (.ref (zB s))) _ true rfl TJ (by rw[Array.size_push,ha]) ⟨K,k _ _ TS (d _ _ _ _ ht td),tv,tn,tc,td⟩ (k _ _ zS hz') (k _ _ TIS (d _ _ _ _ G rfl)) (j1'.at λo e=>k _ _ i1S e) (j2'.at λo e=>k _ _ i2S e)
        ?_ ?_ I ?_ (λa o e=>?_) λh2 t c' q1 q2 q3 q4=>hR h2 t c' q1 q2 q3 q4
      · obtain⟨o,f,h,n,p⟩:=m1
        exact⟨o,k _ _ l1S (d _ _ _ _ f p),h,n,p⟩
      · obtain⟨o,f,h,n,p⟩:=m2
        exact⟨o,k _ _ l2S (d _ _ _ _ f p),h,n,p⟩
      · intro j v e
        by_cases hj:j<acc.size
        · have e':acc[j]?=Y v:=by rw[dU] at e;rw[ai (aN hj)] at e;exact e
          obtain⟨T',x',y',r1,r2,r3,r4,r5⟩:=W j v e';exact⟨T',x',y',r1,r2,r3,k _ _ (H _ _ r4 (by intro q;injection q with q;revert q;decide)) (d _ _ _ _ r4 rfl),r5⟩
        · have hj2:j=acc.size:=by
            by_cases q:j=acc.size
            · exact q
            · rw[dU,ai q] at e
              have:acc[j]?=Z:=by simp;omega
              rw[this] at e;cases e
          subst hj2;rw[dU,ah rfl] at e;cases e;rw[ha];exact⟨_,x,y,rfl,hx,hy,k _ _ N hT',aw hS⟩
      · have a1:a≠S:=λq=>by rw[q,B.1] at e;cases e
        have a2:a≠z:=λq=>by rw[q,B.2.1] at e;cases e
        have a3:a≠E:=λq=>by rw[q,B.2.2.1] at e;cases e
        have a4:a≠C:=λq=>by rw[q,B.2.2.2] at e;cases e
        exact k a o a1 (U a o a2 a3 a4 (Q a o e))
    · have J:l[i]?=Z\/r[i]?=Z:=by
        by_cases q:l.size<=i
        · exact .inl (by simp;omega)
        · exact .inr (by simp;omega)
      refine ae (wpAny_attempt (cy (name:=zZ "__next__") tz dQ
        (dG dQ tz F.entry_zip_next (Hl hh D V ht G j1 j2 m1 m2 J λu e U he=>?_) (F.args_zip_next_1 _))))
      obtain⟨o,ho,hc⟩:=he;refine ae (wpAny_isInstance (T:="StopIteration") (b:=true) ⟨o,ho,hc⟩ isSubtype_stop (ar ?_));have d:∀a o v n,s.heap.get? a=Y o->o.data=.seq v n->u.get? a=Y o:=λa o v n f h=>U a o (nz a o v n f h) (M a o v n f h) (L a o v n f h) f;show wpAny _ A.in1 (ret Value.none) _ _ _;refine ar (hR u acc c (by omega) (λj v e=>?_) (d _ _ _ _ hS rfl) λa o e=>?_)
      · obtain⟨T',x',y',r1,r2,r3,r4,r5⟩:=W j v e
        exact⟨T',x',y',r1,r2,r3,d _ _ _ _ r4 rfl,r5⟩
      · have a2:a≠z:=λq=>by rw[q,B.2.1] at e;cases e
        have a3:a≠E:=λq=>by rw[q,B.2.2.1] at e;cases e
        have a4:a≠C:=λq=>by rw[q,B.2.2.2] at e;cases e
        exact U a o a2 a3 a4 (Q a o e)
theorem As{S z J I E B O N:Addr}{g k:Array Value}{a b:Value}{c:Nat} (d:Heap) (hh:A.in1.handled=Z) (D:ZipApart z J I E B O N) (t:d.get? S=Z/\d.get? z=Z/\d.get? E=Z/\d.get? B=Z) (nTO:d.get? I=Z) (G:(∃o,d.get? O=Y o)/\∃o,d.get? N=Y o) (hn:min g.size k.size<=sizeLine)
  (hz:IsZip s.heap z J I .none) (l:IsPair s.heap J (.ref E) (.ref B)) (H:IsPair s.heap I a b) (j1:s.heap.IsListIter E O 0) (j2:s.heap.IsListIter B N 0) (m1:s.heap.IsList O g) (m2:s.heap.IsList N k)
  (U:s.heap.get? S=Y (zl #[] c)) (kp0:∀b o,d.get? b=Y o->s.heap.get? b=Y o)
  (hR:∀h' its c',its.size=min g.size k.size->CQ S h' g k its->h'.get? S=Y (zl its c')->(∀b o,d.get? b=Y o->h'.get? b=Y o)->R (.ok (.ret .none)) { s with heap:=h' }):
  codeAny (model prog w) A (.builtin "list.extend.loop" ⟨[.ref S,.ref z,.none],[]⟩) R s:=by
 refine ck F.entry_extend_loop ?_;rw[bX b7 _];show wpAny _ A.in1 (pyNext (.ref z)>>=_) _ _ s;have M:∀a o,s.heap.get? a=Y o->o.cls≠.type "list"->a≠S:=λa o i m q=>by subst q;rw[U] at i;cases i;exact m rfl
 have l1S:O≠S:=λq=>by obtain⟨o,e⟩:=G.1;rw[q,t.1] at e;cases e
 have l2S:N≠S:=λq=>by obtain⟨o,e⟩:=G.2;rw[q,t.1] at e;cases e
 have X:z≠S:=M z _ hz (by intro q;injection q with q;revert q;decide);have TIS:J≠S:=M J _ l (by intro q;injection q with q;revert q;decide);have W:I≠S:=M I _ H (by intro q;injection q with q;revert q;decide);have C:E≠S:=by obtain⟨o,i,m,V⟩:=id j1;exact M E o i (by rw[m];intro q;injection q with q;revert q;decide)
 have u:B≠S:=by obtain⟨o,i,m,V⟩:=id j2;exact M B o i (by rw[m];intro q;injection q with q;revert q;decide)
 have r:∀h':Heap,(∀c o,c≠z->c≠I->c≠E->c≠B->s.heap.get? c=Y o->h'.get? c=Y o)->∀a o,d.get? a=Y o->h'.get? a=Y o:=λh' h a o e=>
  h a o (λq=>by rw[q,t.2.1] at e;cases e) (λq=>by rw[q,nTO] at e;cases e) (λq=>by rw[q,t.2.2.1] at e;cases e) (λq=>by rw[q,t.2.2.2] at e;cases e) (kp0 a o e)
 by_cases TJ:0<min g.size k.size
 ·obtain⟨x,hx⟩:∃x,g[0]?=Y x:=⟨g[0]'(by omega),by simp⟩
  obtain⟨y,hy⟩:∃y,k[0]?=Y y:=⟨k[0]'(by omega),by simp⟩
  refine ae (wpAny_pyNext_zip_item D hz l H j1 j2 m1 m2 hx hy λh' hz' aa6 j1' j2' P sz h=>?_);have Q:h'.get? S=Y (zl #[] c):=h S _ (Ne.symm X) (Ne.symm W) (Ne.symm C) (Ne.symm u) U;show wpAny _ A.in1 (updateSeq S (·.push (.ref (zB s)))>>=_) _ _ _;refine ae (b6 Q rfl ?_);have K:=bE (Obj.mapSeq (·.push (Value.ref (zB s)))) Q rfl;have f:∀a o,a≠S->h'.get? a=Y o->(h'.update S (Obj.mapSeq (·.push (Value.ref (zB s))))).get? a=Y o:=λa o q e=>(bo _ _ (Ne.symm q)).trans e;have p:(zB s)≠S:=λq=>by have:=aw U;rw[<-q] at this;exact aZ _ this
  refine ar ⟨cH b7 _,CS (T:=(zB s)) d hh D t G hn (min g.size k.size - 1) 1 _ #[.ref (zB s)] _ false rfl TJ rfl ⟨_,f _ _ p P,_,_,rfl,rfl⟩ (f _ _ X hz') (f _ _ TIS (h J _ D.TIz D.TITO D.TIi1 D.TIi2 l)) (j1'.at λo e=>f _ _ C e) (j2'.at λo e=>f _ _ u e) ?_ ?_ K ?_ (λa o e=>?_) λh2 its c' q1 q2 q3 q4=>hR h2 its c' q1 q2 q3 q4⟩
  ·obtain⟨o,i,m,n,V⟩:=m1;exact⟨o,f _ _ l1S (h _ _ D.l1z D.l1TO D.l1i1 D.l1i2 i),m,n,V⟩
  ·obtain⟨o,i,m,n,V⟩:=m2;exact⟨o,f _ _ l2S (h _ _ D.l2z D.l2TO D.l2i1 D.l2i2 i),m,n,V⟩
  ·intro j v e;cases j with
   |zero=>cases e;exact⟨_,x,y,rfl,hx,hy,f _ _ p P,aw U⟩
   |succ j=>simp at e
  ·exact f a o (λq=>by rw[q,t.1] at e;cases e) (r h' h a o e)
 ·have L:g[0]?=Z\/k[0]?=Z:=by
   by_cases q:g.size<=0
   ·exact .inl (cE (by omega))
   ·exact .inr (cE (by omega))
  refine ae (wpAny_pyNext_zip_end hh D hz l H j1 j2 m1 m2 L λh' h=>?_);show wpAny _ A.in1 (ret Value.none) _ _ _;exact ar (hR h' #[] c (by show 0=_;omega) (λj v e=>by simp at e) (h S _ (Ne.symm X) (Ne.symm W) (Ne.symm C) (Ne.symm u) U) (r h' h))
def CT:typeLookup (.type "zip") "__len__"=pure Z:=by rw[eQ,dB];kernel_rfl
def Au:typeLookup (.type "zip") "__length_hint__"=pure Z:=by rw[eQ,dB];kernel_rfl
def Av{z u k t r p n:Addr}{m l:Array Value}{a b:Value}{Q:Px} (d:Heap) (hh:A.handled=Z) (D:ZipApart z u k t r p n) (V:d.get? z=Z/\d.get? t=Z/\d.get? r=Z) (y:d.get? k=Z) (C:(∃o,d.get? p=Y o)/\∃o,d.get? n=Y o) (hn:min m.size l.size<=sizeLine) (I:d.objs.size<=(zB s))
  (hz:IsZip s.heap z u k .none) (G:IsPair s.heap u (.ref t) (.ref r)) (F:IsPair s.heap k a b) (j1:s.heap.IsListIter t p 0) (j2:s.heap.IsListIter r n 0) (X:s.heap.IsList p m) (W:s.heap.IsList n l) (B:∀b o,d.get? b=Y o->s.heap.get? b=Y o)
  (h:∀h' its c,its.size=min m.size l.size->CQ (zB s) h' m l its->h'.get? (zB s)=Y (zl its c)->(∀b o,d.get? b=Y o->h'.get? b=Y o)->Q (.ref (zB s)) { s with heap:=h' }):
  wpAny (model prog w) A (call (.type "list") [.ref z]) Q E s:=by
 have v:z<(zB s):=aw hz;refine wz λH c j K=>?_;have g:IsZip H z u k .none:=K _ _ hz;have x:Shared.TypeIs { s with heap:=H } (.ref z) "zip":=⟨_,g,rfl⟩
 unfold Builtin.List.listExtendWith;refine ae (cD x ?_);have U:Builtin.List.listSameRef (.ref (zB s)) (.ref z)=false:=by simp[Builtin.List.listSameRef,dZ v]
 have T:(Value.type "zip"==Value.type "list")=false:=by decide
 have S:(Value.type "zip"==Value.type "tuple")=false:=by decide
 simp only[U,T,S,dM,bO,bV];refine ae (wpAny_pyIter_zip g (ae (bw ?_)));unfold Builtin.List.listLengthHint;refine ae (dO x CT ?_);dsimp only;rw[ai (by decide),ai (by decide)];refine ae (dO x Au ?_);show wpAny _ _ (pure true) _ _ _;refine ar ?_;rw[ah (by decide)];refine ae (eV (ae ?_));show wpAny _ _ (updateSeq (zB s) (·.push .none)>>=λ_=>updateSeq (zB s) (·.pop)) _ _ _;refine ae (b6 j rfl ?_);have i:=bE (Obj.mapSeq (·.push Value.none)) j rfl;refine b6 (hz:=by seq_fits) i rfl ?_;have J:=bE (Obj.mapSeq (·.pop)) i rfl;have f:∀b o,s.heap.get? b=Y o->((H.update (zB s) (Obj.mapSeq (·.push Value.none))).update (zB s) (Obj.mapSeq (·.pop))).get? b=Y o :=
  λb o e=>by
   have L:(zB s)≠b:=λq=>by have:=aw e;rw[<-q] at this;exact aZ _ this
   exact(bo _ _ L).trans ((bo _ _ L).trans (K b o e))
 have R:d.get? (zB s)=Z:=by
  cases q:d.get? (zB s) with
  |none=>rfl
  |some o=>have:=aw q;exact absurd (aE this I) (aZ _)
 refine ar ⟨cH b7 _,As d (show A.in1.in1.handled=Z from hh) D ⟨R,V⟩ y C hn (f _ _ hz) (f _ _ G) (f _ _ F) (j1.at λo e=>f _ _ e) (j2.at λo e=>f _ _ e) (X.at λo e=>f _ _ e) (W.at λo e=>f _ _ e) J (λb o e=>f b o (B b o e)) λh' its c' P O N M=>⟨rfl,h h' its c' P O N M⟩⟩
end
end PySem
namespace L2
open PySem PySem.Spec PyProof.Rows PySem.Builtin PySem.Builtin.Str
section
variable {h':Heap}
def fu.QV{t':Nat}{i1 i2:Addr}(I:fu X pins σ H s)(k:∀b o,b≠i1->b≠i2->s.heap.get? b=Y o->h'.get? b=Y o)(y:qM X pins H i1)(x:qM X pins H i2):fu X pins σ H { s with heap:=h',toks:=t' }:=by
 obtain⟨t,g,_,i,D,l⟩:=y;obtain⟨p,f,_,h,C,j⟩:=x;have d:∀b u,H b=Y u->b≠i1/\b≠i2:=λb u e=>⟨(λz=>by rw[z,t] at e;cases e),(λz=>by rw[z,p] at e;cases e)⟩
 have a:∀b,b∉[i1,i2]->b≠i1/\b≠i2:=λb hb=>⟨λz=>hb (by simp[z]),λz=>hb (by simp[z])⟩
 refine I.step (g':=s.gens) (d':=s.drawn) (ch:=[i1,i2]) ?_ (λb o _ _ hc e _=>k b o (a b hc).1 (a b hc).2 e) (λb o _ _ hc e _=>⟨o.slots,k b o (a b hc).1 (a b hc).2 e⟩) (λ_ _ _ _ n=>n)
  (λb o hc e=>⟨o,k b o (a b hc).1 (a b hc).2 e⟩) (λ_ _ e=>e) (λ_ _ _ e=>e) (λb ps e=>⟨#[],by rw[e];simp⟩) ?_ ?_ I.bare
 ·intro b hb;rcases av.mp hb with e|hb
  ·subst e;exact⟨i,g,D,l⟩
  ·have e:b=i2:=by simpa using hb
   subst e;exact⟨h,f,C,j⟩
 ·rintro m ⟨o,A,B,w,r⟩;exact⟨o,A,B,k _ o (Ne.symm g) (Ne.symm f) w,r⟩
 ·intro b u e;refine(I.iS b u e).vq (λc v hc q=>?_) (λ_ q=>q) λ_ _ q=>q;rcases hc with z|z
  ·rw[z] at q ⊢;exact k _ _ (d b u e).1 (d b u e).2 q
  ·exact k _ _ (d c _ z).1 (d c _ z).2 q
end
def Ite(K:Fg)(l:Addr):It where
 go:=λi H=>∃a x,ng K H l a/\a[i]?=Y x
 P8:=λi H y c=>∃T x,y=.ref T/\H T=Z/\(∀b,ng K H l b->b[i]?=Y x)/\c=upd H T (.tup [.int (i:Nat),x])
 stop:=λi H=>∃a,ng K H l a/\a.length<=i
def KH{P:Program}{w:World}{G:Lx}{kt:Nat}{tp:Pos}(l n g:Addr)(C:n≠g):Ef P w K (.Tuple G kt tp) (Ite K l) [n,g] n (λi h=>(∃f,IsEnum h n g (i:Nat) f)/\h.IsListIter g l i) where
 mem:=by simp
 obj:=λi h j b hb=>by
  obtain⟨⟨f,m⟩,y⟩:=j;rcases av.mp hb with e|hb
  ·subst e;exact⟨_,m,λv z=>by cases z⟩
  ·have e:b=g:=by simpa using hb
   subst e;obtain⟨o,e,c,d⟩:=y;exact⟨o,e,λv z=>by rw[d] at z;cases z⟩
 keep:=λi h h' j k=>⟨by obtain⟨f,m⟩:=j.1;exact⟨f,k n (by simp) _ m⟩,j.2.at λo e=>k g (by simp) o e⟩
 item:=by
  intro X U hw V hc i r s σ H E I R j Q;subst U hw V;obtain⟨⟨f,m⟩,y⟩:=j;obtain⟨xs,x,J,N⟩:=Q;obtain⟨M,L,p,hz⟩:=I.list J;obtain⟨u,hu,ru⟩:=L.get N;refine wpAny_pyNext_enum_item m y p.isList (x:=u) (by simpa using hu) C λh1 S O B hsz kp=>⟨_,rfl,?_⟩
  refine wpAny_letOwnedTupleGo_enum S λh2 T W=>?_;have F:n<(zB s):=aw m;have A:g<(zB s):=by obtain⟨o,e,_⟩:=y;exact aw e
  have I1:=I.laid (a:=(zB s)) (o:=.tup [.int (i:Nat),x]) (t':=s.toks+1) (h':=s.heap.push { cls:=.type "tuple",data:=.seq #[.int i s.toks,u] }) (λ_ _ q=>ak _ q) (aA _) ⟨by show 2<=sizeLine;decide,[.int i s.toks,u],.cons ⟨_,rfl⟩ (.cons ru .nil),_,aB _ rfl,rfl,0,rfl⟩;have t:∀b∈[n,g],qM X r (upd H (zB s) (.tup [.int (i:Nat),x])) b:=λb hb=>by
   obtain⟨g1,g2⟩:=R b hb;refine⟨?_,g2⟩;have:b≠(zB s):=by
    rcases av.mp hb with e|hb
    ·rw[e];exact aN F
    ·rw[show b=g by simpa using hb];exact aN A
   rw[ee this];exact g1
  have I2:=I1.QV (h':=h2) (t':=s.toks+1) (i1:=n) (i2:=g) (λb o b1 b2 e=>(W.2 b b1).trans (by
   by_cases hb:b=(zB s)
   ·subst hb;have e':Y o=Y { cls:=.type "tuple",data:=.seq #[.int i s.toks,u] }:=e.symm.trans (aB _ rfl);cases e';exact B
   ·have D:=aw e;rw[d5] at D;have aa7:b<(zB s):=Nat.lt_of_le_of_ne (Nat.le_of_lt_succ D) hb;have q:s.heap.get? b=Y o:=(Heap.get?_push_ne _ _ _ hb).symm.trans e;exact kp b o b1 b2 q)) (t n (by simp)) (t g (by simp))
  exact⟨.ref (zB s),_,I2,rfl,⟨_,x,rfl,I.fresh,λys hy=>by rw[I.x4 hy J];exact N,rfl⟩,⟨⟨u,T⟩,O.at λo e=>(W.2 _ (Ne.symm C)).trans e⟩,λb hb=>(t b hb).1⟩
 done:=by intro X U hw V hc i r s σ H E I R j Q;subst U hw V;obtain⟨⟨f,m⟩,y⟩:=j;obtain⟨xs,J,N⟩:=Q;obtain⟨M,L,p,hz⟩:=I.list J;obtain⟨f0,f1,f2,f3,f4,f5⟩:=R g (by simp);have hl:=L.length;exact wpAny_pyNext_enum_end (I.ok.hd hc) m y p.isList (by simp;omega) λh' eb=>⟨rfl,I.turned (t':=s.toks) (λb o hb e=>eb b o hb e) f0 f1 f3 f4 f5⟩
 self:=λ_ _ _ _ _ j h=>by obtain⟨f,m⟩:=j.1;exact wpAny_pyIter_enum m h
section
variable {a c:Expr}{fb fc:bb->Od}{p2 apos gd:Pos}
def X7(K:Fg)(c:TE):TI:=λσ H R=>c σ H λv a=>∃l b,v=.ref l/\ng K a l b/\R (Ite K l) a
def I7{f:Lx}{t:Nat}{n:Pos}{k:TE}(B:Gl X "enumerate")(A:X.mg "enumerate"=Z)(C:PE X e k)(m:starEach [e] X.env=[(false,eval e X.env)]:=by rfl):PI X (.Tuple f t n) (.Call (.Name "enumerate" p) [e] [] pos) (X7 X.K k):=by
 intro a s σ H R I h;refine bg (pb I B A (by rfl) ?_);refine bq ?_ (by rw[m];rfl) (by rfl);rw[m];refine aX (hZ (@C a s σ H _ I h) ?_);rintro v c ⟨x,j,g,o,l,J,F,y,q⟩;refine bx ?_;subst F;cases o;obtain⟨w,M,r,N⟩:=g.list y;refine call_enumerate_list r.isList λD d i L u=>?_;refine wpAny_pyIter_enum d ?_;have G:fu X a σ j { c with heap:=D }:=g.kept (t':=c.toks) u;have E:∀b,(zB c)<=b->qM X a j b:=λb hb=>g.Ee hb (g.iS.fresh hb);exact⟨_,[(zB c)+1,(zB c)],_,_,j,rfl,G,KH l _ _ (dZ (cQ _)),⟨⟨_,d⟩,i⟩,λb hb=>E b (by
  rcases av.mp hb with z|hb
  ·rw[z];exact eS _
  ·rw[show b=(zB c) by simpa using hb];exact aA _),q⟩
noncomputable def qA(a:Lp):Lp:=a.zipIdx.map λx=>.tuple [.int x.2,x.1]
noncomputable def I8(f:bb->Od):bb->Option Lp:=λρ=>(f ρ).bind λd=>match d with | .list ds=>Y (qA ds)|_=>Z
def KI(h:(qA ds)[i]?=Y d):∃x,ds[i]?=Y x/\d=.tuple [.int (i:Nat),x]:=by
 unfold qA at h;rw[az,List.getElem?_zipIdx] at h;cases q:ds[i]? with
 |none=>rw[q] at h;cases h
 |some x=>rw[q] at h;simp at h;exact⟨x,rfl,h.symm⟩
def wB{c:Hp}{l:Addr}(b:ng K c l vs)(j:c6 K c ds vs):pv K (Ite K l) (qA ds) c:=λu a=>by
 have p:(qA ds).length=ds.length:=by simp[qA]
 refine⟨⟨vs,a.seq b,by rw[p,j.length];exact aA _⟩,λi d q=>?_⟩;obtain⟨x,r,rfl⟩:=KI q;obtain⟨v,h,s⟩:=j.get r;refine⟨⟨vs,v,a.seq b,h⟩,?_⟩;rintro y t ⟨T,z,o,f,n,m⟩;have e:=n vs (a.seq b);rw[h] at e;cases e;subst o m;refine⟨ka f,λw k g=>dy.j9.mpr ⟨T,_,rfl,qL.of (by rw[g T f];exact fx),c6.cons (dy.fw.mpr rfl) (c6.cons (s.same k) c6.nil)⟩⟩
end
end L2
namespace L2
open PySem PySem.Spec PyProof.Rows PySem.Builtin PySem.Builtin.Str
def Its(x:Str):It where
 go:=λi _=>i<x.cps.size
 P8:=λi H y a=>a=H/\∃c,x.cps[i]?=Y c/\y=.str ⟨#[c]⟩
 stop:=λi _=>x.cps.size<=i
def EN{P:Program}{w:World}{D:String}(p:D="str_ascii_iterator"\/D="str_iterator")(x:Str)(t:Tok)(m:Addr):Ef P w K tg (Its x) [m] m (λi h=>h.IsStrIter m D x t i) where
 mem:=by simp
 obj:=λi h f b a=>by
  have e:b=m:=by simpa using a
  subst e;obtain⟨o,e,c,d⟩:=f;exact⟨o,e,λv z=>by rw[d] at z;cases z⟩
 keep:=λi h l f k=>by obtain⟨o,e,r⟩:=f;exact⟨o,k m (by simp) o e,r⟩
 item:=by
  intro X J hw L G i j s σ H E I q f hg;subst J hw L;obtain⟨C,B,O,A,y,u⟩:=q m (by simp);have n:x.cps[i]?=Y (x.cps[i]'hg):=Array.getElem?_eq_getElem hg;rcases p with rfl|rfl
  ·refine wpAny_pyNext_ascii_item f n λl g F=>?_;have N:fu X j σ H { s with heap:=l,toks:=s.toks+1 }:=I.turned (t':=s.toks+1) (λb o a e=>(F.2 b a).trans e) C B A y u;obtain⟨o,e,c,d⟩:=id g;exact⟨_,rfl,x6 (s:={ s with heap:=l,toks:=s.toks+1 }) e c d (by decide) ⟨.str _,H,N,⟨_,rfl⟩,⟨rfl,_,n,rfl⟩,g,λb a=>(q b a).1⟩⟩
  ·refine wpAny_pyNext_wide_item f n λl g F=>?_;have N:fu X j σ H { s with heap:=l,toks:=s.toks+1 }:=I.turned (t':=s.toks+1) (λb o a e=>(F.2 b a).trans e) C B A y u;obtain⟨o,e,c,d⟩:=id g;exact⟨_,rfl,x6 (s:={ s with heap:=l,toks:=s.toks+1 }) e c d (by decide) ⟨.str _,H,N,⟨_,rfl⟩,⟨rfl,_,n,rfl⟩,g,λb a=>(q b a).1⟩⟩
 done:=by
  intro X J hw L G i j s σ H E I q f hg;subst J hw L;obtain⟨C,B,O,A,y,u⟩:=q m (by simp);have n:x.cps[i]?=Z:=cE hg;rcases p with rfl|rfl
  ·exact wpAny_pyNext_ascii_end (I.ok.hd G) f n λl M=>⟨rfl,I.turned (t':=s.toks) (λb o a e=>M b o a e) C B A y u⟩
  ·exact wpAny_pyNext_wide_end (I.ok.hd G) f n λl M=>⟨rfl,I.turned (t':=s.toks) (λb o a e=>M b o a e) C B A y u⟩
 self:=λ_ _ _ _ _ f h=>by
  rcases p with rfl|rfl
  ·exact wpAny_pyIter_striter_ascii f h
  ·exact wpAny_pyIter_striter_wide f h
section
variable {a c:Expr}{fb fc:bb->Od}{p2 apos gd:Pos}
def Vk{g:TE}(l:PE X e g):PI X tg e (λσ H R=>g σ H λv d=>∃x,v=.str x/\R (Its x) d):=by
 intro a s σ H R I h;refine hZ (@l a s σ H _ I h) ?_;rintro v c ⟨y,d,f,k,x,n,q⟩;subst n;obtain⟨t,rfl⟩:=k;have j:∀b∈[(zB c)],qM X a d b:=λb m=>by rw[show b=(zB c) by simpa using m];exact f.Ee (aA _) (f.iS.fresh (aA _))
 cases i:x.cps.all (·<128)
 ·exact wpAny_pyIter_wide i ⟨_,[(zB c)],_,_,d,rfl,f.kept (t':=c.toks) λb o e=>ak _ e,EN (.inr rfl) x t _,⟨_,aB _ rfl,rfl,rfl⟩,j,q⟩
 ·exact wpAny_pyIter_ascii i ⟨_,[(zB c)],_,_,d,rfl,f.kept (t':=c.toks) λb o e=>ak _ e,EN (.inl rfl) x t _,⟨_,aB _ rfl,rfl,rfl⟩,j,q⟩
def tI(x:Str):Lp:=x.cps.toList.map λc=>.str ⟨#[c]⟩
noncomputable def oV(f:bb->Od):bb->Option Lp:=λρ=>(f ρ).bind λd=>match d with | .list ds=>Y ds | .tuple ds=>Y ds | .str x=>Y (tI x)|_=>Z
def Hm(x:Str)(G:Hp):pv K (Its x) (tI x) G:=λk h=>by
 have f:(tI x).length=x.cps.size:=by simp[tI]
 refine⟨by show x.cps.size<=_;rw[f];exact aA _,λi d q=>?_⟩;have g:i<x.cps.size:=by have:=(ay.mp q).1;omega
 refine⟨g,?_⟩;rintro y j ⟨e,c,b,a⟩;subst e a;have:d=.str ⟨#[c]⟩:=by unfold tI at q;rw[az,Array.getElem?_toList,b] at q;cases q;rfl
 subst this;exact⟨.refl _,λl _ _=>dy.fz.mpr rfl⟩
def oq(h:PD X e f):Vg X tg e (oV f) :=
 PI.imp (PI.or (QJ h) (Vk h)) <| by
  rintro σ H R ⟨ρ,g,b,e,k⟩;obtain⟨d,c,a⟩:=bind_some e;cases d with
  |list j=>exact .inl ⟨ρ,g,b,by show (f ρ).bind _=_;rw[c];exact a,k⟩
  |tuple j=>exact .inl ⟨ρ,g,b,by show (f ρ).bind _=_;rw[c];exact a,k⟩
  |str x=>cases a;exact .inr ⟨ρ,_,b,c,λv i l m=>⟨x,dy.fz.mp m,k _ i l (Hm x i)⟩⟩
  |_=>cases a
def EO{a:Lx}{o:Nat}{m:Pos}(s:Gl X "enumerate")(r:X.mg "enumerate"=Z)(h:PD X e f)(b:starEach [e] X.env=[(false,eval e X.env)]:=by rfl):Vg X (.Tuple a o m) (.Call (.Name "enumerate" p) [e] [] pos) (I8 f) :=
 PI.imp (I7 s r h b) <| by
  rintro σ H R ⟨ρ,x,b,e,k⟩;obtain⟨d,u,i⟩:=bind_some e;obtain⟨c,rfl⟩:∃c,d=.list c:=by cases d<;>first|exact⟨_,rfl⟩|cases i
  cases i;refine⟨ρ,_,b,u,λv w n q=>?_⟩;obtain⟨l,j,rfl,g,t⟩:=dy.fG.mp q;exact⟨l,j,rfl,g,k _ w n (wB g t)⟩
noncomputable def kM:Lp->Od
 |[.dict kvs]=>if fZ kvs=true then Z else Y (.list (kvs.map (·.1)))
 |ds=>IQ ds
def Bz{P:Program}{w:World}{k:Key}{v:Value}(h:(fU P w).is k v=true):fQ (kV k) v:=by
 rcases iJ h with ⟨i,t,rfl,rfl⟩ | ⟨x,t,rfl,rfl⟩
 ·exact⟨t,rfl⟩
 ·exact⟨t,rfl⟩
theorem vJ{K:Fg}{H H':Hp}:∀{a:List (eW×eW)}{b:List (Key×V)},f9 K H a b->c6 K H' (a.map (·.1)) (b.map λx=>kV x.1)
 |[],_,h=>by rw[f9.fe.mp h];exact c6.nil
 | (k,d)::r,_,h=>by
  obtain⟨y,v,c,rfl,rfl,i,t⟩:=f9.da.mp h;refine c6.cons ?_ (vJ t);cases y with
  |inl i=>exact dy.fw.mpr rfl
  |inr x=>exact dy.fz.mpr rfl
theorem BA{P:Program}{w:World}:∀{d:List (Key×V)}{c:List (Key×Value)}{its:Lw},KV d c->its.length=c.length->(∀(j:Nat) v,its[j]?=Y v->∃k x,c[j]?=Y (k,x)/\(fU P w).is k v=true)->fY (d.map λx=>kV x.1) its
 |_,_,its,.nil,hl,_=>by
  cases its with
  |nil=>exact .nil
  |cons _ _=>simp at hl
 |_,_,its,.cons (a:=p) (b:=q) h t,hl,hi=>by
  cases its with
  |nil=>simp at hl
  |cons u l=>
   obtain⟨k,x,i,g⟩:=hi 0 u rfl;have f:q=(k,x):=by simpa using i
   refine .cons ?_ (BA t (by simpa using hl) λj v e=>hi (j+1) v (by simpa using e));show fQ (kV p.1) u;rw[h.1,f];exact Bz g
def Nq(F:X.calm=true):jU X (.type "list") (λxs H Q=>∃l c,c6 X.K H l xs/\kM l=Y c/\KO X.K H c Q):=by
 have E:jU X (.type "list") (λxs H Q=>∃b d p,xs=[V.ref p]/\Rd H p (.dK d)/\f9 X.K H b d/\KO X.K H (.list (b.map (·.1))) Q):=by intro n s σ H xs T Q I r h;obtain⟨b,d,p,rfl,C,A,k⟩:=h;obtain⟨u,rfl,t⟩:=yc r;cases t;obtain⟨z,G,S,f,N⟩:=sW I.iS C;refine yG (knd:=fU X.prog X.w) (I.ok.hd F) G N (by rw[<-f.length];exact z) λU q its O D g m y=>?_;have B:=BA (P:=X.prog) (w:=X.w) (its:=its.toList) f (by simpa using D) (λj v e=>g j v (by simpa using e));have R:=I.laid (a:=(zB s)) (o:=.lst (d.map λx=>kV x.1)) (t':=q) y (aA _) ⟨by rw[aC];exact z,its.toList,O,B,by simpa using m⟩;exact⟨.ref (zB s),_,R,rfl,k.Ao (vJ A) _ I.fresh⟩
 refine jU.imp (jU.or QK E) ?_;rintro xs H Q ⟨l,c,i,e,k⟩;unfold kM at e;split at e
 ·rename_i b;by_cases g:fZ b=true
  ·rw[ah g] at e;cases e
  ·rw[ai g] at e;cases e;obtain⟨v,rfl,J⟩:=jf i;obtain⟨p,d,rfl,M,L⟩:=J.oR (by simpa using g);exact .inr ⟨b,d,p,rfl,M,L,k⟩
 ·exact .inl ⟨l,c,i,e,k⟩
def oW(l:X.calm=true)(i:Gl X "list")(h:X.mg "list"=Z)(m:Bj X (e::es) ff)(j:zE e es X:=by rfl)(a:(backTo pos (starEach es X.env)).any (·.1)=false:=by rfl):
  PF X (.Call (.Name "list" p) (e::es) [] pos) (lj kM ff) :=
 PE.imp (vy (Nq l) i h (by rfl) m (by decide) (by decide) j a) <| by rintro σ H Q ⟨ρ,d,g,e,k⟩;obtain⟨b,o,n⟩:=bind_some e;exact⟨ρ,b,g,o,λq r c f=>⟨b,d,f,n,k.later c⟩⟩
noncomputable def X8(b a:Lp):Lp:=(b.zip a).map λp=>.tuple [p.1,p.2]
noncomputable def X9(x y:eW):Od:=match x,y with
 |.list xs,.list ys=>Y (.list (X8 xs ys))
 |_,_=>Z
def fu.TU{a:Addr}{u:HO}(I:fu X pins σ H s)(f:qM X pins H a)(g:iU X.prog X.w (upd H a u) s.heap a u):fu X pins σ (upd H a u) s:=by
 obtain⟨j,k,_,h,l,i⟩:=f;have d:∀b v,H b=Y v->upd H a u b=Y v:=λb v e=>by rw[ee (gp e j)];exact e
 have:=I.step (g':=s.gens) (d':=s.drawn) (t':=s.toks) (h':=s.heap) (H':=upd H a u) (ch:=[a]) (λb hb=>by rw[show b=a by simpa using hb];exact⟨h,k,l,i⟩) (λb o _ _ _ e _=>e) (λb o _ _ _ e _=>⟨o.slots,e⟩) (λb o hc _ n=>by rw[ee (λz=>hc (by simp[z]))];exact n)
  (λb o _ e=>⟨o,e⟩) (λb xs e=>d b _ e) (λb o v e=>d b _ e) (λb ps e=>⟨#[],by rw[d b _ e];simp⟩) (λm hm=>hm) ?_ I.bare
 ·exact this
 ·intro b v e;by_cases hb:b=a
  ·subst hb;rw[fx] at e;cases e;exact g
  ·rw[ee hb] at e;exact(I.iS b v e).vq (λ_ _ _ q=>q) (λc q=>d c _ q) λc xs q=>d c _ q
def fQ.uniq{x y:V}{u:Value}(a:fQ x u)(b:fQ y u):x=y:=by have c:=a.abs;rw[b.abs] at c;exact(bu c).symm
theorem Ja{b:Ax}{σ:St}:∀(m:List (V×V)) (us:Lw) {H:Hp}{s:Shared},fu X b σ H s->us.length=m.length ->
  (∀(j:Nat) (v:Value) (p:V×V),us[j]?=Y v->m[j]?=Y p->∃T x y,v=.ref T/\IsPair s.heap T x y/\fQ p.1 x/\fQ p.2 y/\(qM X b H T\/∃d c l k,IsPair s.heap T d c/\fQ l d/\fQ k c/\H T=Y (.tup [l,k]))) ->
  ∃A z,eZ H A/\fu X b σ A s/\fY z us/\(∀a,H a=Z->A a=Z\/.ref a∈us)/\∀(j:Nat) (p:V×V),m[j]?=Y p->∃T,z[j]?=Y (.ref T)/\A T=Y (.tup [p.1,p.2])
 |[],us,H,s,I,hl,_=>by
  cases us with
  |nil=>exact⟨H,[],.refl H,I,.nil,(λa h=>.inl h),λj p e=>by simp at e⟩
  |cons _ _=>simp at hl
 |p::m,us,H,s,I,hl,hi=>by
  cases us with
  |nil=>simp at hl
  |cons v us=>
   obtain⟨T,x,y,rfl,E,C,B,M⟩:=hi 0 v p rfl rfl;have first:∃i,eZ H i/\fu X b σ i s/\i T=Y (.tup [p.1,p.2])/\∀a,a≠T->i a=H a:=by
    rcases M with f | ⟨d,c,l,k,D,U,S,hT⟩
    ·refine⟨upd H T (.tup [p.1,p.2]),ka f.1,I.TU f ⟨by show 2<=sizeLine;decide,[x,y],.cons C (.cons B .nil),_,E,rfl,0,rfl⟩,fx,λa F=>ee F⟩
    ·have e:(#[d,c]:Array Value)=#[x,y]:=by
      have W:s.heap.get? T=Y { cls:=.type "tuple",data:=.seq #[d,c] }:=D;have g:s.heap.get? T=Y { cls:=.type "tuple",data:=.seq #[x,y] }:=E;rw[W] at g;injection g with g
      injection g with _ _ g _;injection g
     have e':[d,c]=[x,y]:=by simpa using bL Array.toList e
     injection e' with G t;injection t with t _;subst G t;rw[U.uniq C,S.uniq B] at hT;exact⟨H,.refl H,I,hT,λa _=>rfl⟩
   obtain⟨i,O,I1,hT,n⟩:=first
   obtain⟨H2,z,N,I2,R,fr,L⟩:=Ja m us (H:=i) I1 (by simpa using hl) λj v q G t=>by
    obtain⟨w,d,c,a1,a2,a3,a4,u⟩:=hi (j+1) v q (by simpa using G) (by simpa using t);refine⟨w,d,c,a1,a2,a3,a4,?_⟩;by_cases r:w=T
    ·subst r;exact .inr ⟨x,y,p.1,p.2,E,C,B,hT⟩
    ·rcases u with f | ⟨Q,P,l,k,K,J,b3,b4⟩
     ·exact .inl ⟨by rw[n w r];exact f.1,f.2⟩
     ·exact .inr ⟨Q,P,l,k,K,J,b3,O _ _ b4⟩
   refine⟨H2,.ref T::z,O.trans N,I2,.cons rfl R,λa F=>?_,λj q e=>?_⟩
   ·by_cases o:a=T
    ·exact .inr (by simp[o])
    ·rcases fr a (by rw[n a o];exact F) with h|h
     ·exact .inl h
     ·exact .inr (aj _ h)
   ·cases j with
    |zero=>simp at e;subst e;exact⟨T,rfl,N _ _ hT⟩
    |succ j=>obtain⟨w,K,J⟩:=L j q (by simpa using e);exact⟨w,by simpa using K,J⟩
theorem Hn{m pz:Pos} (hc:X.calm=true) (hgl:Gl X "list") (hml:X.mg "list"=Z) (hgz:Gl X "zip") (hmz:X.mg "zip"=Z) (ha:PD X a fa) (hb:PD X b fb)
  (s1:starEach [.Call (.Name "zip" pz) [a,b] [] m] X.env=[(false,eval (.Call (.Name "zip" pz) [a,b] [] m) X.env)]:=by rfl) (s2:starEach [a,b] X.env=[(false,eval a X.env),(false,eval b X.env)]:=by rfl) (s3:starEach [b] X.env=[(false,eval b X.env)]:=by rfl):
  PF X (.Call (.Name "list" p) [.Call (.Name "zip" pz) [a,b] [] m] [] pos) (d2 X9 fa fb):=by
 intro c s σ H Q I ⟨ρ,d,hs,e,k⟩;obtain⟨x,e1,q1⟩:=bind_some e;obtain⟨y,e2,q2⟩:=bind_some q1;obtain⟨xs,rfl⟩:∃xs,x=.list xs:=by cases x<;>first|exact⟨_,rfl⟩|(cases y<;>cases q2)
 obtain⟨ys,rfl⟩:∃ys,y=.list ys:=by cases y<;>first|exact⟨_,rfl⟩|cases q2
 cases q2;refine bg (pb I hgl hml (by rfl) ?_);refine bq ?_ (by rw[s1];rfl) (by rfl);rw[s1];refine aX ?_;refine bg (pb I hgz hmz (by rfl) ?_);refine bq ?_ (by rw[s2,s3]) (by rw[s3];rfl);rw[s2];refine aX (hZ (@ha c s σ H (λv H1=>eZ H H1/\dy X.K H1 (.list xs) v) I ⟨ρ,_,hs,e1,λv H1 sH i=>⟨sH,i⟩⟩) ?_);rintro u1 t1 ⟨v1,H1,I1,r1,sH1,i1⟩;refine aX (hZ (@hb c t1 σ H1 (λv J=>eZ H1 J/\dy X.K J (.list ys) v) I1 ⟨ρ,_,hs.same sH1,e2,λv J sH i=>⟨sH,i⟩⟩) ?_);rintro u2 l ⟨v2,J,W,r2,sH2,i2⟩;refine bx ?_;obtain⟨l1,M,rfl,sq1,U9⟩:=dy.fG.mp (i1.same sH2);obtain⟨l2,L,rfl,sq2,id2⟩:=dy.fG.mp i2;cases r1;cases r2;obtain⟨G,S,B,z1⟩:=W.list sq1;obtain⟨F,rv2,A,z2⟩:=W.list sq2;have b1:l1<(zB l):=by obtain⟨o,n,e,_⟩:=B;exact aw e
 have b2:l2<(zB l):=by obtain⟨o,n,e,_⟩:=A;exact aw e
 have fr:∀j,(zB l)<=j->l.heap.get? j=Z:=λj hj=>by
  cases q:l.heap.get? j with
  |none=>rfl
  |some o=>exact absurd (aE (aw q) hj) (aZ _)
 have hn:min G.toArray.size F.toArray.size<=sizeLine:=by rw[au,au,<-S.length];omega
 refine call_zip_2 B.isList A.isList λh' hz hTI hTO j1 j2 sz kp=>bx ?_;refine Av l.heap (W.ok.hd hc) (zipApart_new b1 b2) ⟨fr _ (cb _ _),fr _ (aA _),fr _ (cb _ _)⟩ (fr _ (cb _ _)) ⟨by obtain⟨o,_,e,_⟩:=B;exact⟨o,e⟩,by obtain⟨o,_,e,_⟩:=A;exact⟨o,e⟩⟩ hn (by show _<=h'.objs.size;rw[sz];exact cb _ _) hz hTI hTO j1 j2 (Heap.IsList.at B.isList λo e=>kp _ _ e) (Heap.IsList.at A.isList λo e=>kp _ _ e) kp λh2 U cc z D C kp2=>?_;have I3:fu X c σ J { l with heap:=h2 }:=W.kept (t':=l.toks) kp2;have E:U.toList.length=(M.zip L).length:=by rw[List.length_zip,S.length,rv2.length,cw,z,au,au]
 have h:∀b,(zB l)<=b->qM X c J b:=λb hb=>W.Ee hb (W.iS.fresh hb);obtain⟨H3,rs,P,I4,R,Gs,at3⟩:=Ja (M.zip L) U.toList I3 E λj v q g1 g2=>by
  obtain⟨T,x,y,O,t2',t3',t4',N⟩:=D j v (by simpa using g1);obtain⟨w1,w2⟩:=q;obtain⟨g3,g4⟩:=List.getElem?_zip_eq_some.mp g2;obtain⟨x',gx,rx⟩:=S.get g3;obtain⟨y',gy,ry⟩:=rv2.get g4;have ex:x'=x:=by have:G.toArray[j]?=Y x:=t2';rw[List.getElem?_toArray,gx] at this;cases this;rfl
  have ey:y'=y:=by have:F.toArray[j]?=Y y:=t3';rw[List.getElem?_toArray,gy] at this;cases this;rfl
  subst ex ey;exact⟨T,x',y',O,t4',rx,ry,.inl (h T (by have:h'.objs.size<T:=N;rw[sz] at this;exact bK (cb _ _) (dY this)))⟩
 have w:H3 h'.objs.size=Z:=by
  rcases Gs h'.objs.size (W.iS.fresh (by rw[sz];exact cb _ _)) with g|g
  ·exact g
  ·obtain⟨j,gj⟩:=List.mem_iff_getElem?.mp g;obtain⟨T,x,y,O,_,_,_,N⟩:=D j _ (by simpa using gj);cases O;exact absurd N (aZ _)
 have fS:qM X c H3 h'.objs.size:=⟨w,(h _ (by rw[sz];exact cb _ _)).2⟩
 have rl:rs.length<=sizeLine:=by rw[R.length,cw,z];exact hn
 have I5:=I4.TU fS (u:=.lst rs) ⟨rl,U.toList,cc,R,by simpa using C⟩;refine⟨.ref h'.objs.size,_,I5,rfl,?_⟩;refine(k.later (sH1.trans (sH2.trans P))).Ao ?_ _ w;have go:∀(t f:Lp) (a1 a2:List V) (rr:List V),c6 X.K J t a1->c6 X.K J f a2->rr.length=(a1.zip a2).length->(∀(j:Nat) (q:V×V),(a1.zip a2)[j]?=Y q->∃T,rr[j]?=Y (.ref T)/\H3 T=Y (.tup [q.1,q.2]))->c6 X.K H3 (X8 t f) rr:=by
  intro t;induction t with
  |nil=>
   intro f a1 a2 rr h1 h2 z _;rw[c6.fe.mp h1] at z;have:rr=[]:=by simpa using z
   subst this;exact c6.nil
  |cons d1 t ih=>
   intro f a1 a2 rr h1 h2 z C;obtain⟨w1,a1',rfl,g1,g2⟩:=c6.da.mp h1;cases f with
   |nil=>
    rw[c6.fe.mp h2] at z;have:rr=[]:=by simpa using z
    subst this;exact c6.nil
   |cons d2 f=>
    obtain⟨w2,a2',rfl,g3,g4⟩:=c6.da.mp h2;cases rr with
    |nil=>simp at z
    |cons r rr=>
     obtain⟨T,t1,l⟩:=C 0 (w1,w2) rfl;have er:r=.ref T:=by simpa using t1
     subst er;refine c6.cons (dy.j9.mpr ⟨T,_,rfl,qL.of l,c6.cons (g1.same P) (c6.cons (g3.same P) c6.nil)⟩) (ih f a1' a2' rr g2 g4 (by simpa using z) λj q e=>?_);obtain⟨T',u1,u2⟩:=C (j+1) q (by simpa using e);exact⟨T',by simpa using u1,u2⟩
 exact go xs ys M L rs U9 id2 (by rw[R.length];exact E) at3
end
end L2
namespace PySem
open Builtin
def pU:entryFor table "set.update.loop"=Y Builtin.«set.update.loop»:=entryFor_of_tree (zK 0)
def mq:plainId "set.update.loop"=true:=by decide +kernel
section
variable {prog:Program}{w:World}{K:Type} [DecidableEq K] {knd:KeyKind prog w K}
def tJ(a:List K)(k:K):List K:=if k∈a then a else a++[k]
def nH(a b:List K):List K:=b.foldl tJ a
def ER(a:List K)(k:K):(tJ a k).length<=a.length+1:=by unfold tJ;split<;>simp
inductive vK (knd:KeyKind prog w K):Lw->List K->Prop
 |nil:vK knd [] []
 |cons {v:Value}{k:K}{vs:Lw}{ks:List K}:knd.is k v=true->v.scannable=true->vK knd vs ks->vK knd (v::vs) (k::ks)
theorem yH{D I l:Addr}{a:Array Value}{R:Result->Shared->Prop}(hh:A.in1.handled=Z)(d:D≠I)(c:Heap)(G:c.get? D=Z)(u:c.get? I=Z):
  ∀(B:Lw) (ks:List K) (i:Nat) (s:Shared) (acc:List K),a.toList.drop i=B->vK knd B ks->(∀b o,c.get? b=Y o->s.heap.get? b=Y o)->s.heap.IsListIter I l i->s.heap.IsList l a->s.heap.SetOf knd D (λk=>decide (k∈acc)) acc.length->acc.length+ks.length+1<scanBound ->
  (∀j O,j.SetOf knd D (λk=>decide (k∈nH acc ks)) (nH acc ks).length->(∀b o,c.get? b=Y o->j.get? b=Y o)->R (.ok (.ret .none)) { s with heap:=j,toks:=O }) ->
  codeAny (model prog w) A (.builtin "set.update.loop" ⟨[.ref D,.ref I],[]⟩) R s
 |[],_,i,s,acc,C,E,h0,J,H,hd,hz,X=>by
  cases E;refine ck pU ?_;rw[bX mq _];show wpAny _ A.in1 (pyNext (.ref I)>>=_) _ _ s;have hn:a[i]?=Z:=by have:=List.drop_eq_nil_iff.mp C;exact cE (by simpa using this)
  refine ae (dw hh J H hn λj eb=>?_);show wpAny _ A.in1 (ret Value.none) _ _ _;refine ar ?_;obtain⟨o,M,N,t,x,r⟩:=hd;exact X j s.toks ⟨o,M,N,t,eb _ _ d x,r⟩ λb o e=>eb b o (λz=>by rw[z,u] at e;cases e) (h0 b o e)
 |v::B,_,i,s,acc,C,E,h0,J,H,hd,hz,X=>by
  cases E with
  |@cons _ k _ ks hk S E=>
   refine ck pU ?_;rw[bX mq _];show wpAny _ A.in1 (pyNext (.ref I)>>=_) _ _ s;have T:i<a.size:=by have:=bL List.length C;simp at this;omega
   have hx:a[i]?=Y v:=by have:=bL (·[0]?) C;simpa using this
   have Q:a.toList.drop (i+1)=B:=by
    have e:=bT (l:=a.toList) (i:=i) (by simpa using T);rw[C] at e;injection e with _ f
    exact f.symm
   refine ae (c9 J H hx λj hI' P=>?_);have W:j.SetOf knd D (λk=>decide (k∈acc)) acc.length:=by obtain⟨o,M,N,t,x,r⟩:=id hd;exact⟨o,M,N,t,(P.2 _ d).trans x,r⟩
   have nI:∀b o y n,s.heap.get? b=Y o->o.data=.seq y n->b≠I:=λb o y n g f z=>by subst z;obtain⟨oi,ei,ci,di⟩:=J;rw[g] at ei;cases ei;rw[f] at di;cases di
   have nD:∀b o y n,s.heap.get? b=Y o->o.data=.seq y n->b≠D:=λb o y n g f z=>by subst z;obtain⟨o',M,N,t,x,_,F,_⟩:=hd;rw[g] at x;cases x;rw[f] at F;cases F
   show wpAny _ A.in1 (holding [v] (setAdd D v)>>=_) _ _ _;refine ae (bw ?_);unfold setAdd;refine bw (ae (knd.pyHash hk ?_));simp only[ao] at hz;refine wpAny_setAddHashed_of (knd:=knd) (s:={ s with heap:=j,toks:=s.toks+1 }) hk S W (by omega) λL m V=>?_;have p:L.SetOf knd D (λh=>decide (h∈tJ acc k)) (tJ acc k).length:=by
    have g:(λh=>decide (h∈acc)||decide (h=k))=λh=>decide (h∈tJ acc k):=by
     funext h
     unfold tJ;by_cases q:k∈acc
     ·rw[ah q];by_cases q2:h=k
      ·subst q2;simp[q]
      ·simp[q2]
     ·rw[ai q];simp
    have f:(if decide (k∈acc)=true then acc.length else acc.length+1)=(tJ acc k).length:=by
     unfold tJ;by_cases q:k∈acc
     ·simp[q]
     ·simp[q]
    rw[<-g,<-f];exact V
   refine ar ⟨cH mq _,?_⟩;have U:L.IsList l a:=by obtain⟨o,g,f,n,e3⟩:=H;exact⟨o,(m.2 _ (nD _ _ _ _ g e3)).trans ((P.2 _ (nI _ _ _ _ g e3)).trans g),f,n,e3⟩
   have hI2:L.IsListIter I l (i+1):=hI'.at λo e=>(m.2 _ (Ne.symm d)).trans e;refine yH hh d c G u B ks (i+1) { s with heap:=L,toks:=s.toks+1 } (tJ acc k) Q E (λb o e=>?_) hI2 U p ?_ λh3 O p k3=>X h3 O p k3
   ·have b1:b≠I:=λz=>by rw[z,u] at e;cases e
    have b2:b≠D:=λz=>by rw[z,G] at e;cases e
    exact(m.2 b b2).trans ((P.2 b b1).trans (h0 b o e))
   ·have:=ER acc k;omega
theorem Aw{l:Addr}{o:Obj}{c:Array Value}{u:List K}{Q:Px} (W:A.handled=Z) (T:s.heap.get? l=Y o) (J:o.cls=.type "list") (i:o.data=.seq c n)
  (U:vK knd c.toList u) (D:u.length+1<scanBound)
  (h:∀h' tk,h'.SetOf knd (zB s) (λk=>decide (k∈nH [] u)) (nH [] u).length->(∀b o,s.heap.get? b=Y o->h'.get? b=Y o)->Q (.ref (zB s)) { s with heap:=h',toks:=tk }):
  wpAny (model prog w) A (call (.type "set") [.ref l]) Q E s:=by
 obtain⟨oc,P,O,B⟩:=o;simp only at J i;subst J i;have w1:=F.called_set.made;have w2:=F.called_set.sub;have w3:=F.called_set.notType;have w4:=F.called_set.canCreate;have w5:=F.typeCall_set_1 (.ref l);obtain⟨mc,mt,w6⟩:=F.called_set.mro;refine wpAny_call (codeAny_of_tree ?_);show wpAny _ _ (callAny (.type "set") _) _ _ _;refine ar ⟨Code.quiet_builtin _ (by decide +kernel),ck F.entry_type_call ?_⟩;rw[Around.under_plain (weight_type_call_type "set" [.ref l] []) rfl]
 repeat (any_goals (first|assumption|wp_step))
 refine df (code_set_new_1 (.ref l) (E:=E) (Q₁:=λv t=>∃a:Bool,v=.ref (zB s)/\t={ s with heap:=s.heap.push { cls:=.type "set",dict:=Z,data:=.set #[] 0 (.fresh 0 0 a) } }) λa=>⟨a,rfl,rfl⟩) λN t1 f=>?_
 match N,f with
 |.error e,f=>exact f
 |.ok .next,f=>exact f.elim
 |.ok .brk,f=>exact f.elim
 |.ok .cont,f=>exact f.elim
 |.ok (.ret v),⟨a,e1,e2⟩=>
  subst e1 e2;have x:(s.heap.push { cls:=.type "set",dict:=Z,data:=.set #[] 0 (.fresh 0 0 a) }).get? (zB s)=Y { cls:=.type "set",dict:=Z,data:=.set #[] 0 (.fresh 0 0 a) }:=aB _ rfl;have H:(s.heap.push { cls:=.type "set",dict:=Z,data:=.set #[] 0 (.fresh 0 0 a) }).get? l=Y { cls:=.type "list",dict:=P,data:=.seq c n,slots:=B }:=ak _ T;have L:Shared.TypeIs { s with heap:=s.heap.push { cls:=.type "set",dict:=Z,data:=.set #[] 0 (.fresh 0 0 a) } } (.ref (zB s)) "set":=⟨_,x,rfl⟩
  have w7:=F.called_set.init.lookup;have X:=F.called_set.init.bind (.ref (zB s))
  repeat (any_goals (first|assumption|wp_step))
  refine df (codeAny_call_builtin (R:=wants (λr t=>r=.none/\∃h' tk,t={ s with heap:=h',toks:=tk }/\h'.SetOf knd (zB s) (λk=>decide (k∈nH [] u)) (nH [] u).length/\∀b o,s.heap.get? b=Y o->h'.get? b=Y o) E) F.called_set.init.plain F.entry_set_init (check_set_init_1 L ?_)) λM t2 d=>?_
  ·have v1:=F.sub_list_set;have v2:=F.sub_list_frozenset;have v3:(Value.type "list"==Value.type "dict")=false:=by decide
   have I:(s.heap.push { cls:=.type "set",dict:=Z,data:=.set #[] 0 (.fresh 0 0 a) }).IsList l c:=⟨_,H,rfl,n,rfl⟩
   unfold Builtin.«set.__init__» noKeywords Builtin.Frozenset.updateFrom;generalize p:pyIter=walk
   wp_walk
   subst p;refine de I (ae (wpAny_runValue ?_));have y:(zB s)<(s.heap.push { cls:=.type "set",dict:=Z,data:=.set #[] 0 (.fresh 0 0 a) }).objs.size:=aw x;have m:∀j,(zB s)<=j->s.heap.get? j=Z:=λj V=>by
    cases q:s.heap.get? j with
    |none=>rfl
    |some z=>exact absurd (aE (aw q) V) (aZ _)
   have C:∀b o,s.heap.get? b=Y o->((s.heap.push { cls:=.type "set",dict:=Z,data:=.set #[] 0 (.fresh 0 0 a) }).push { cls:=.type "list_iterator",data:=.fields #[.ref l,.int 0 0] }).get? b=Y o:=λb o e=>ak _ (ak _ e);have g:((s.heap.push { cls:=.type "set",dict:=Z,data:=.set #[] 0 (.fresh 0 0 a) }).push { cls:=.type "list_iterator",data:=.fields #[.ref l,.int 0 0] }).SetOf knd (zB s) (λk=>decide (k∈([]:List K))) ([]:List K).length :=
    (funext λk=>by simp:(λ_:K=>false)=λk=>decide (k∈([]:List K)))▸(PyProof.Rows.setObjOf_fresh (knd:=knd) a).setOf (ak _ x) (by unfold scanBound;omega)
   refine yH (knd:=knd) (show A.in1.in1.in1.handled=Z from W) (aN y) s.heap (m _ (aA _)) (m _ (dY y)) c.toList u 0 _ [] rfl U C ⟨_,aB _ rfl,rfl,rfl⟩ (I.push _) g (by simpa using D) λh' tk G S=>?_;show wpAny _ _ _ _ _ _;refine ar ?_;show wpAny _ _ (ret Value.none) _ _ _;exact ar ⟨rfl,h',tk,rfl,G,S⟩
  ·match M,d with
   |.error e,d=>exact d
   |.ok .next,d=>exact d.elim
   |.ok .brk,d=>exact d.elim
   |.ok .cont,d=>exact d.elim
   |.ok (.ret v),⟨e3,h',tk,e4,G,C⟩=>
    subst e3 e4
    repeat (any_goals (first|assumption|wp_step))
    exact h _ _ G C
end
end PySem
namespace L2
open PySem PySem.Spec PyProof.Rows PySem.Builtin PySem.Builtin.Str
def tK:Lp->Option (List Key)
 |[]=>Y []
 |d::r=>(pq d).bind λk=>(tK r).map (k::·)
theorem Jb{P:Program}{w:World}{K:Fg}{H:Hp}:∀{f:Lp}{c:List Key}{b:List V}{g:Lw},tK f=Y c->c6 K H f b->fY b g->vK (fU P w) g c
 |[],_,_,_,e,i,r=>by cases e;rw[c6.fe.mp i] at r;cases r;exact .nil
 |d::f,_,_,_,e,i,r=>by
  obtain⟨k,o,n⟩:=bind_some e;obtain⟨c,m,rfl⟩:=aa.mp n;obtain⟨v,b,rfl,l,j⟩:=c6.da.mp i;cases r with
  |cons a h=>
   have:=g9 o;subst this;rw[iz l] at a;refine .cons (mK a) ?_ (Jb m j h);cases k with
   |inl i=>obtain⟨t,rfl⟩:=a;rfl
   |inr x=>obtain⟨t,rfl⟩:=a;rfl
section
variable {a c:Expr}{fb fc:bb->Od}{p2 apos gd:Pos}
noncomputable def CU(f:bb->Od):bb->Od:=λρ=>(f ρ).bind λd=>match d with
 |.list ds=>(tK ds).bind λa=>if a.length+1<4096 then Y (.int (nH [] a).length) else Z
 |_=>Z
theorem BB{K:Type}[DecidableEq K]:∀(b a:List K),(nH a b).length<=a.length+b.length
 |[],a=>by simp[nH]
 |k::b,a=>by have d:=BB b (tJ a k);have c:=ER a k;rw[show nH a (k::b)=nH (tJ a k) b from rfl,ao];omega
theorem KJ{a r:Pos} (hc:X.calm=true) (D:Gl X "len") (A:X.mg "len"=Z) (C:Gl X "set") (z:X.mg "set"=Z) (ha:PD X e f)
  (L:starEach [.Call (.Name "set" r) [e] [] a] X.env=[(false,eval (.Call (.Name "set" r) [e] [] a) X.env)]:=by rfl) (J:starEach [e] X.env=[(false,eval e X.env)]:=by rfl):
  PD X (.Call (.Name "len" p) [.Call (.Name "set" r) [e] [] a] [] pos) (CU f):=by
 intro g s σ H Q I ⟨ρ,d,W,e,k⟩;obtain⟨x,e1,M⟩:=bind_some e;obtain⟨j,rfl⟩:∃j,x=.list j:=by cases x<;>first|exact⟨_,rfl⟩|cases M
 obtain⟨c,e2,m⟩:=bind_some (show (tK j).bind (λc=>if c.length+1<4096 then Y (eW.int (nH [] c).length) else Z)=Y d from M);by_cases y:c.length+1<4096
 ·rw[ah y] at m;cases m;refine bg (pb I D A PySem.boot_len ?_);refine dE ?_ (by rw[L];rfl) (by rfl);rw[L];refine aX ?_;refine bg (pb I C z (by rfl) ?_);refine bq ?_ (by rw[J];rfl) (by rfl);rw[J];refine aX (hZ (@ha g s σ H (λv H1=>eZ H H1/\dy X.K H1 (.list j) v) I ⟨ρ,_,W,e1,λv H1 P i=>⟨P,i⟩⟩) ?_);rintro u1 t1 ⟨v1,H1,G,S,q,V⟩;refine bx ?_;obtain⟨l,ws,rfl,O,u⟩:=dy.fG.mp V;cases S;obtain⟨U,R,⟨o,n,ho,E,_,h⟩,z1⟩:=G.list O;refine Aw (knd:=fU X.prog X.w) (G.ok.hd hc) ho E h (by simpa using Jb e2 u R) (by unfold scanBound;exact y) λh' N hd T=>bx ?_;obtain⟨o',F,ep,t,g1,g2,g3,g4,g5,g6,g7,g8⟩:=hd;have b:F.size=(nH [] c).length:=g8;have B:=BB c ([]:List Key);refine call_len_set g1 g2 g3 g7 (by rw[b];simp at B;omega) ?_;rw[b];exact⟨.int _,H1,(G.kept (t':=N) T).tok _,⟨_,rfl⟩,(k.later q).here (dy.fw.mpr rfl)⟩
 ·rw[ai y] at m;cases m
def Nr(I:fu X pins σ H s){x:eW}{u:Value}(h:SeqAt.shaped x=true)(m:dy X.K H x v)(k:fQ v u)(z:A.units+x.depth<cLine):
  ∃e:Value->Bool,∀(d:eW) (w:V) (y:Value),SeqAt.shaped d=true->dy X.K H d w->fQ w y->SeqAt.EqAt A s y u (e y)/\e y=eW.eqv d x:=by
 obtain⟨t,j⟩:=I.qg (aQ h) m k;refine⟨λy=>@decide (∃d a,Reads s.heap y d a/\SeqAt.shaped d=true/\eW.eqv d x=true) (Classical.propDecidable _),λd w y b n c=>?_⟩;obtain⟨a,f⟩:=I.qg (aQ b) n c;have i:@decide (∃d a,Reads s.heap y d a/\SeqAt.shaped d=true/\eW.eqv d x=true) (Classical.propDecidable _)=eW.eqv d x:=by
  cases q:eW.eqv d x with
  |true=>exact @decide_eq_true _ (Classical.propDecidable _) ⟨d,a,f,b,q⟩
  |false=>refine @decide_eq_false _ (Classical.propDecidable _) ?_;rintro⟨p,r,l,o,g⟩;have:=SeqAt.Reads.unique d p y _ _ (aQ b) f l;subst this;rw[q] at g;cases g
 refine⟨?_,i⟩;show SeqAt.EqAt A s y u (@decide _ (Classical.propDecidable _));rw[i];refine SeqAt.eqAt_reads d x A s _ _ a t f j (aQ b) (aQ h) ?_;have:min d.depth x.depth<=x.depth:=eG _ _;omega
theorem ES(hu:X.A.units+64<cLine):UM X "list.index" (λx vs H Q=>∃d J c,dy X.K H d x/\c6 X.K H J vs/\CN d J=Y c/\KD X.K H c Q):=by
 intro O s σ H v vs u us Q I rx rv h;obtain⟨d,J,cc,i1,i2,e,k⟩:=h;unfold CN at e;split at e
 ·rename_i r x;by_cases l:SeqAt.shaped x=true/\r.all SeqAt.shaped=true/\x.depth<=60/\r.length<=sizeLine
  ·rw[ah l] at e;obtain⟨j,e1,rfl⟩:=aa.mp e;obtain⟨h1,V,⟨dj,U,h4⟩,T⟩:=uD e1;simp only[Nat.sub_zero] at V U T;obtain⟨p,w,rfl,sq,P⟩:=dy.fG.mp i1;cases rx;obtain⟨v2,rfl,i3⟩:=jf i2;obtain⟨N,rfl,B⟩:=rv.one;obtain⟨a,f,⟨⟨cls,dd,W,sl⟩,n,R,S,hdd,q⟩,z1⟩:=I.list sq;simp only at S q;subst S q;obtain⟨G,he⟩:=Nr I (A:=X.A.in1) l.1 i3 B (by show X.A.units+1+x.depth<cLine;omega);have sh:∀d∈r,SeqAt.shaped d=true:=cA.mp l.2.1;have b:∀(i:Nat) (y:Value),a[i]?=Y y->∃d,r[i]?=Y d/\SeqAt.EqAt X.A.in1 s y N (G y)/\G y=eW.eqv d x:=λi y t=>by
    have E:i<w.length:=by rw[f.length];exact(ay.mp t).1
    have hw:w[i]?=Y w[i]:=aI E;obtain⟨y',o,z⟩:=f.get hw;rw[t] at o;cases o;obtain⟨d,q,C⟩:=P.get' hw;obtain⟨g,M⟩:=he d _ y (sh d (bP q)) C z;exact⟨d,q,g,M⟩
   have hj:j<a.toArray.size:=by rw[au,<-f.length,<-P.length];exact V
   refine cO F.slot_list_index ⟨_,R,rfl⟩ F.entry_list_index (F.args_list_index_2 _ _) (SeqAt.list_indexAt p a.toArray n dd sl N G j hj ?_ ?_ ?_) ⟨R,λy t=>?_,?_⟩
   ·have h6:=l.2.2.2;have h7:sizeLine<2 ^ 62:=by decide
    omega
   ·obtain⟨d,g,_,L⟩:=b j (a.toArray[j]) (by simp);rw[U] at g;cases g;rw[L];exact h4
   ·intro m hm D;obtain⟨d,g,_,L⟩:=b m (a.toArray[m]) (by simp);rw[L];exact T m d D g
   ·obtain⟨i,hi⟩:=List.mem_iff_getElem?.mp (show y∈a by simpa using t);obtain⟨d,_,M,_⟩:=b i y hi;exact M
   ·exact⟨.int _,H,I.tok _,⟨_,rfl⟩,k.here (dy.fw.mpr rfl)⟩
  ·rw[ai l] at e;cases e
 ·cases e
def QW(g:eW->Lp->Od)(f:bb->Od)(a:bb->Option Lp):bb->Od:=λρ=>(f ρ).bind λd=>(a ρ).bind λb=>match d with | .list z=>g (.list z) b|_=>Z
def Nt{a:Str}{n:String}{g:eW->Lp->Od} (j:Slot "list" a n) (q:typeOf (.builtin n)=pure (.type "method_descriptor")) (C:UM X n (λx vs H Q=>∃d ds c,dy X.K H d x/\c6 X.K H ds vs/\g d ds=Y c/\KD X.K H c Q)) (B:PD X o f) (D:Bj X (e::es) ff)
  (i:attributeBase o a X.env (eval o X.env)=eval o X.env:=by rfl)
  (l:((backTo gd (starEach (e::es) X.env)).all (λx=>!x.1)&&(backToKw gd (keywordEach [] X.env)).all (λx=>x.1.isSome)
  &&decide ((e::es).length+([]:List Keyword).length+(if ([]:List Keyword).isEmpty then 0 else 1)<30))=true:=by rfl)
  (h:(apos.endLine==gd.line)=true:=by rfl) (m:zE e es X:=by rfl) (b:(backTo gd (starEach es X.env)).any (·.1)=false:=by rfl):
  PD X (.Call (.Attribute o a apos) (e::es) [] gd) (QW g f ff) :=
 PE.imp (Be bH j q C B D i l h m b) <| by
  rintro σ H Q ⟨ρ,d,m,e,k⟩;obtain⟨x,G,F⟩:=bind_some e;obtain⟨ds,E,u⟩:=bind_some F;obtain⟨z,rfl⟩:∃z,x=.list z:=by cases x<;>first|exact⟨_,rfl⟩|cases u
  refine⟨ρ,_,m,G,λv L s t=>?_⟩;obtain⟨p,vs,rfl,y,I⟩:=dy.fG.mp t;exact⟨.inl ⟨rfl,vs,y⟩,ρ,ds,m.same s,E,λw J r A=>⟨_,ds,d,t.same r,A,u,k.later (s.trans r)⟩⟩
end
end L2
namespace L2
open PySem PySem.Spec PyProof.Rows
section
noncomputable def yI(g:bb->Option Bool)(f:bb->Od)(ρc:bb):Lp->Option Lp
 |[]=>Y []
 |d::ds=>match d with
  |.tuple [a,b]=>(g (Y a::Y b::ρc)).bind λc=>if c then (f (Y a::Y b::ρc)).bind λy=>(yI g f ρc ds).bind λe=>Y (y::e) else yI g f ρc ds
  |_=>Z
def CV(q:bb->Option Lp)(a:List (Nat×Str))(g:bb->Option Bool)(f:bb->Od):bb->Od:=λρ=>
 (q ρ).bind λb=>if b.length<=sizeLine then (yI g f (pj a ρ) b).map .list else Z
def Nu{m a:Expr}{b:Str}{o i r:Pos}{t:Nat}{j:Lx}
  (A:X.calm=true) (S:kq scope x) (u:scope.names.lookup b=Y .local) (n:∀p∈scope.names,p.2=.free->∃c,X.env.cells.lookup p.1=Y c) (l:lI X scope iP) (k:(x::b::iP.map (·.2)).Nodup)
  (w:M4 X (.Tuple [.Name x o,.Name b i] t r) a q)
  (v:∀C s H fp,yr (mM X scope C (x::b::iP.map (·.2)) s H fp) j g)
  (y:∀C s H fp,PD (mM X scope C (x::b::iP.map (·.2)) s H fp) m f):Ku X (.ListComp m [⟨.Tuple [.Name x o,.Name b i] t r,a,j,0⟩] scope pos) scope a (tD X.K (CV q iP g f)):=
 (EB (bd:=Qw 2 (MZ (IS 0) (MZ (IS 1) XQ))) (λ_ G ds vs=>c6 X.K G ds vs) c6.length (λh s=>h.same s) [x,b] (yI g f) A S n l w (λC s H fp=>Qx rfl (Bm (yo 0 k rfl (.inl (bW S.var)) (.inr (bW S.var))) (Bm (yo 1 k rfl (.inl (bW u)) (.inr (bW u))) M3))) v (λC s H fp=>IU (y C s H fp) rfl) n4 (λ_ _ e=>by cases e;rfl) λc d ds D h=>by
  unfold yI at h;split at h
  ·obtain⟨z,B,e⟩:=bind_some h;exact⟨[Y _,Y _],z,rfl,rfl,B,IT e⟩
  ·cases h).data
def Ku.pe2{f a:Expr}{j:Str}{k d l:Pos}{n:Nat}{e:Lx}{t:TE} (h:Ku X (.ListComp f [⟨.Tuple [.Name x k,.Name j d] n l,a,e,0⟩] scope pos) scope a t) (S:kq scope x) (i:∀p∈scope.names,p.2=.free->∃c,X.env.cells.lookup p.1=Y c)
  (r:∀x,foldedSetIterable a X.env x=pure x:=by intro _;rfl):PE X (.ListComp f [⟨.Tuple [.Name x k,.Name j d] n l,a,e,0⟩] scope pos) t:=by
 intro b s σ H Q I y;rw[eval_ListComp];refine cW (use:=Z) rfl r (ph i) S.kind S.loc (@h b s σ H Q (compPost (model X.prog X.w) X.A X.xe Z (EP X b σ Q)) I y ?_);intro D C E B F m z v u o q;exact⟨m,v,λG g=>⟨.ref D,B,z.yt u o g,rfl,q⟩⟩
end
section
variable {a c:Expr}{rest:Lx}{fb fc:bb->Od}{p2:Pos}
def Ya(d:eW):Option Bool:=match d with | .bool b=>Y b|_=>Z
noncomputable def uF(f g:bb->Od):bb->Od:=λρ=>(f ρ).bind λd=>(Ya d).bind λb=>if b then g ρ else Y (.bool false)
def Nv{b:Bool}(h:Ya d=Y b):d=.bool b:=by cases d<;>first|(cases h;rfl)|cases h
def xO{b:BoolOp}(h:PD X a f):PD X (.BoolOp b [a] pos) f:=Mb h
def se(j:PD X a fa)(i:PD X (.BoolOp .And (b::rest) pos) fb):PD X (.BoolOp .And (a::b::rest) pos) (uF fa fb) :=
 PE.imp (Mc j i) <| by
  rintro σ H Q ⟨ρ,d,g,e,k⟩;obtain⟨x,n,m⟩:=bind_some e;obtain⟨y,l,c⟩:=bind_some m;cases Nv l;refine⟨ρ,_,g,n,λv o f h=>⟨y,dy.fC.mp h,?_⟩⟩;cases y with
  |true=>rw[ah rfl] at c ⊢;exact⟨ρ,d,g.same f,c,k.later f⟩
  |false=>rw[ai aF] at c ⊢;cases c;exact k _ o f (dy.fC.mpr rfl)
noncomputable def dIs(x y:eW):Od:=match x,y with | .bool a,.bool b=>Y (.bool (a==b))|_,_=>Z
noncomputable def Ho(x y:eW):Od:=match x,y with | .bool a,.bool b=>Y (.bool (a != b))|_,_=>Z
def Yb:uf X (compareOp .Is) dIs:=by
 intro f s σ H x y v u Q I b a ⟨d,i,c,h,g,e,k⟩;cases d<;>cases i<;>try (simp[dIs] at e;done)
 cases e;rw[dy.fC.mp h] at b;rw[dy.fC.mp g] at a;cases b;cases a;exact is_bool ⟨.bl _,H,I,rfl,k.here (dy.fC.mpr rfl)⟩
def Nw:uf X (compareOp .IsNot) Ho:=by
 intro f s σ H x y v u Q I b a ⟨d,i,c,h,g,e,k⟩;cases d<;>cases i<;>try (simp[Ho] at e;done)
 cases e;rw[dy.fC.mp h] at b;rw[dy.fC.mp g] at a;cases b;cases a;exact isnot_bool ⟨.bl _,H,I,rfl,k.here (dy.fC.mpr rfl)⟩
def qq:Lp->Option (List Bool)
 |[]=>Y []
 |.bool b::r=>(qq r).map (b::·)
 |_::_=>Z
theorem uG:∀{b:Lp}{a:List Bool},qq b=Y a->b=a.map .bool
 |[],a,h=>by cases h;rfl
 |d::r,a,h=>by
  cases d<;>try (simp[qq] at h;done)
  obtain⟨c,e,rfl⟩:=aa.mp h;rw[uG e];rfl
noncomputable def QX:Lp->Od | [.list ds]=>(qq ds).map λa=>.bool (a.all id)|_=>Z
def Hq{c:List Bool}{a:Lw}(i:c6 K H (c.map .bool) vs)(r:fY vs a){j:Nat}{v:Value}(e:a[j]?=Y v):∃b,c[j]?=Y b/\v=.bool b:=by
 have n:j<a.length:=(ay.mp e).1;have k:=r.length;have d:=i.length;have f:j<c.length:=by simpa [k,d] using (by rw[aC] at d;omega:j<c.length)
 have q:(c.map eW.bool)[j]?=Y (.bool c[j]):=by rw[az,aI f];rfl
 obtain⟨x,m,l⟩:=i.get q;obtain⟨u,h,g⟩:=r.get m;rw[e] at h;cases h;rw[dy.fC.mp l] at g;exact⟨_,aI f,g⟩
def Nx(w:X.calm=true):Bl X (.builtin "all") QX:=by
 intro j s σ H E G Q I r ⟨D,c,i,e,k⟩
 match D,e with
 |[.list ys],e=>
  obtain⟨d,C,rfl⟩:=aa.mp e;cases uG C;obtain⟨v,rfl,z⟩:=jf i;obtain⟨p,F,rfl,B,m⟩:=dy.fG.mp z;obtain⟨u,rfl,n⟩:=yc r;cases n;obtain⟨a,h,o,M⟩:=I.list B;have g:=o.isList;have f:p<(zB s):=by obtain⟨_,e,_⟩:=g;exact aw e
  refine call_all_walk (de g ?_);refine⟨(zB s),[(zB s),p],[(zB s)],a.toArray.size,_,_,λi=>(d[i]?).getD true,rfl,Walks.list (A:=X.A.in1) (I.ok.hd w) _ p (aN f) a.toArray,
   ⟨⟨_,aB _ rfl,rfl,rfl⟩,g.push _⟩,λi v K O P y l=>?_,λN J t=>?_⟩
  ·obtain⟨b,e,rfl⟩:=Hq m h (by simpa using y);simp only[e,Option.getD_some] at l;exact cm l
  ·have e:((List.range a.toArray.size).all λi=>(d[i]?).getD true)=d.all id:=by
    have L:=h.length;have q:=m.length;rw[aC] at q;rw[au,show a.length=d.length by omega];exact LSm.range_all d
   rw[e];refine⟨.bl _,H,I.kept λb x e=>?_,rfl,k.here (dy.fC.mpr rfl)⟩;exact t b x (λhm=>by rw[List.mem_singleton.mp hm] at e;exact aZ _ (aw e)) (ak _ e)
def yJ(X:Cx)(a:Scope):Bool:=a.names.all λp=>p.2 != .free||(X.env.kindOf p.1==Y .cell||X.env.kindOf p.1==Y .free)
def ou{i b:Expr}{l:Pos}{c:Lx} (a:List (Nat×Str))
  (t:M4 X (.Name x l) b q)
  (n:∀C s H fp,yr (mM X scope C (x::a.map (·.2)) s H fp) c g)
  (u:∀C s H fp,PD (mM X scope C (x::a.map (·.2)) s H fp) i f)
  (v:X.calm=true:=by rfl) (S:kq scope x:=by exact⟨rfl,by decide +kernel,by decide +kernel,rfl,aV⟩) (k:yJ X scope=true:=by rfl) (d:lI X scope a:=by repeat' (first|exact aV|refine⟨⟨rfl,.inl rfl,rfl⟩,?_⟩|refine⟨⟨rfl,.inr rfl,rfl⟩,?_⟩)) (j:(x::a.map (·.2)).Nodup:=by decide +kernel)
  (o:∀x,foldedSetIterable b X.env x=pure x:=by intro _;rfl):PD X (.ListComp i [⟨.Name x l,b,c,0⟩] scope pos) (jg q a g f):=by
 intro m s σ H Q I w;refine QA v S (λp r e=>I.ok.has p.1 ?_) d j t n u o s σ H Q I w;have:=cA.mp k p r;simp only[eR,bne_iff_ne,ne_eq,cu] at this;rcases this with h|h
 ·exact absurd e h
 ·exact h
def mr(I:fu X pins σ H s)(a:yJ X scope=true):∀p∈scope.names,p.2=.free->∃c,X.env.cells.lookup p.1=Y c:=λp b e=>I.ok.has p.1 (by
 have:=cA.mp a p b;simp only[eR,bne_iff_ne,ne_eq,cu] at this;rcases this with h|h
 ·exact absurd e h
 ·exact h)
end
section
variable {m:Md}{a c i:Expr}{fb fc:bb->Od}{p2 apos gd:Pos}
def ku(d:eW):Option Bool:=match d with
 |.dict kvs=>if fZ kvs=true then Z else Y (!kvs.isEmpty)
 |d=>G3 d
def vp(f:bb->Od):bb->Option Bool:=λρ=>(f ρ).bind ku
def gQ(h:PD X e f)(q:∀whole,isTrue e X.env whole=(do let v <-whole;standAt e.pos;holding [v] (truthy v)):=by intro _;rfl):Bi X e (vp f) :=
 PT.imp (yb h q) <| by
  rintro σ H Q ⟨ρ,b,o,e,k⟩;obtain⟨d,r,a⟩:=bind_some e;refine⟨ρ,d,o,r,λv s l j=>⟨b,?_,k s l⟩⟩;cases d with
  |dict c=>
   unfold ku at a;by_cases g:fZ c=true
   ·dsimp only at a;rw[ah g] at a;cases a
   ·dsimp only at a;rw[ai g] at a;cases a;obtain⟨p,i,rfl,n,m⟩:=j.oR (by simpa using g);refine .inr (.inr ⟨i,n,?_⟩);have:=m.length;cases c<;>cases i<;>first|rfl|(simp at this)
  |_=>exact MT j a
def CW:eW->Bool
 |.none=>true
 |_=>false
def qR(x y:eW):Od:=match y with
 |.none=>Y (.bool (CW x))
 |y=>dIs x y
def jy(x y:eW):Od:=match y with
 |.none=>Y (.bool (!CW x))
 |y=>Ho x y
def TV(i:dy K H d v):decide (v=.lB)=CW d:=by
 cases d with
 |none=>rw[dy.gU.mp i];rfl
 |bool b=>rw[dy.fC.mp i];rfl
 |int j=>rw[dy.fw.mp i];rfl
 |str x=>rw[dy.fz.mp i];rfl
 |list a=>obtain⟨p,c,rfl,_⟩:=dy.fG.mp i;rfl
 |tuple a=>obtain⟨p,c,rfl,_⟩:=i.gP;rfl
 |dict e=>obtain⟨p,rfl,_⟩:=dy.lE.mp i;rfl
def qr:uf X (compareOp .Is) qR:=by
 refine k6.imp (k6.or Yb UD) ?_;rintro x y H Q ⟨a,b,d,f,c,e,k⟩;cases b with
 |none=>cases e;exact .inr ⟨dy.gU.mp c,k.here (dy.fC.mpr (by rw[TV f]))⟩
 |_=>exact .inl ⟨a,_,d,f,c,e,k⟩
def n6:uf X (compareOp .IsNot) jy:=by
 refine k6.imp (k6.or Nw Qb) ?_;rintro x y H Q ⟨a,b,d,f,c,e,k⟩;cases b with
 |none=>cases e;exact .inr ⟨dy.gU.mp c,k.here (dy.fC.mpr (by rw[TV f]))⟩
 |_=>exact .inl ⟨a,_,d,f,c,e,k⟩
structure ET (K:Fg) (mg:Str->Ow) (x:Str) (d:eW):Prop where
 ex:∃u v,mg x=Y u/\fQ v u/\∀H:Hp,dy K H d v
def rj(c:ET X.K X.mg x d)(a:Gl X x)(b:zg x:=by decide):PD X (.Name x pos) (dC d):=by obtain⟨u,v,h,g,f⟩:=c.ex;exact PE.imp (xF a h g b) <| by rintro σ H Q ⟨ρ,j,i,e,k⟩;cases e;exact k.here (f H)
structure lL (P:Program) (w:World) (K:Fg) (mg:Str->Ow) (x:Str) (kvs:List (eW×eW)):Prop where
 ex:∃(a:Addr) (vs:List (Key×Value)),mg x=Y (.ref a)/\(a==sysModules)=false/\(∀h:Heap,K.In h->h.DictOf (fU P w) a vs) /\
  ∀k:Key,(jb (j8 k) kvs=Z/\valueAt vs k=Z)\/∃d v u,jb (j8 k) kvs=Y d/\valueAt vs k=Y u/\fQ v u/\∀H:Hp,dy K H d v
def TX(a:List (eW×eW))(k:eW):Od:=(pq k).map λ_=>(jb k a).getD .none
def QY(L:lL X.prog X.w X.K X.mg x kvs)(G:Gl X x)(J:PD X e fb)(j:M1 X (.Name x p) "get" apos e gd)(o:zg x:=by decide):PD X (.Call (.Attribute (.Name x p) "get" apos) [e] [] gd) (λρ=>(fb ρ).bind (TX kvs)):=by
 obtain⟨a,W,O,N,B,M⟩:=L.ex;intro c s σ H Q I ⟨ρ,d,F,V,k⟩;obtain⟨y,U,T⟩:=bind_some V;obtain⟨z,S,l⟩:=aa.mp T;have:=g9 S;subst this;have C:=B s.heap I.ue;refine dh j.base j.XH j.line cz bF dA (oP I G O ?_ o);refine⟨C.typeIs,λb q=>?_,?_⟩
 ·cases q;obtain⟨E,_,_,g,f,_⟩:=C;exact⟨E,g,f.2.1⟩
 rw[j.trees];refine bQ rfl (cp (aX (hZ (@J c s σ H (λv H1=>eZ H H1/\dy X.K H1 (j8 z) v) I ⟨ρ,_,F,U,λv H1 m i=>⟨m,i⟩⟩) ?_)));rintro iv t ⟨v,H1,r,u,m,n⟩;refine bx ?_;rw[iz n] at u;have h:=B t.heap r.ue;refine cS bF h.typeIs b8 (cZ _ _) (meets_dict_get (fU X.prog X.w) a (mK u) N) ⟨_,h.mapOf,?_⟩;have A:=k.later m;rcases M z with ⟨g,f⟩ | ⟨d',D,u',g,f,R,P⟩
 ·rw[g] at l;subst l;rw[f];exact⟨.lB,H1,r.tok _,rfl,A.here (dy.gU.mpr rfl)⟩
 ·rw[g] at l;subst l;rw[f];exact⟨D,H1,r.tok _,R,A.here (P H1)⟩
noncomputable def Ny(a:List (eW×eW))(k:eW):Od:=(pq k).map λ_=>.bool (jb k a).isSome
def Nz(a:List (eW×eW))(k:eW):Od:=(pq k).bind λ_=>jb k a
def Vl(z:lL X.prog X.w X.K X.mg x kvs)(r:Gl X x)(u:PD X i fb)(g:Er i)(h:zg x:=by decide):PD X (.Subscript (.Name x p) i pos) (λρ=>(fb ρ).bind (Nz kvs)):=by
 obtain⟨U,O,C,S,B,A⟩:=z.ex;intro a s σ H Q I ⟨ρ,d,q,N,k⟩;obtain⟨y,M,L⟩:=bind_some N;obtain⟨m,J,c⟩:=bind_some L;have:=g9 J;subst this;refine Cu PySem.F.slot_dict_getitem.lookup g (oP I r C (hZ (@u a s σ H (λv H1=>eZ H H1/\dy X.K H1 (j8 m) v) I ⟨ρ,_,q,M,λv H1 e i=>⟨e,i⟩⟩) ?_) h);rintro R t ⟨v,H1,n,l,e,f⟩;rw[iz f] at l;have b:=B t.heap n.ue;refine⟨b.typeIs,?_⟩;rcases A m with ⟨j,_⟩ | ⟨T,o,P,j,G,E,D⟩
 ·rw[j] at c;cases c
 ·rw[j] at c;cases c;exact eI (mK l) b.mapOf G ⟨o,H1,n.tok _,E,(k.later e).here (D H1)⟩
end
def aaB{n:Int}{t:Tok}(h:mg x=Y (.int n t)):ET K mg x (.int n):=⟨_,.int n,h,⟨t,rfl⟩,λH=>dy.fw.mpr rfl⟩
def Yc{b:Array Value}{c:List V}(h:K.lookup a=Y (zy b n))(d:b.size<=sizeLine)(e:fY c b.toList)(H:Hp):qL K H a c:=.inr ⟨_,b,n,h,rfl,rfl,d,e⟩
def ow{b:Array Value}{xs:Lr}(h:K.lookup a=Y (zy b n))(c:b.size<=sizeLine)(d:fY (xs.map V.str) b.toList)(H:Hp):dy K H (.tuple (xs.map .str)) (.ref a) :=
 dy.j9.mpr ⟨a,_,rfl,Yc h c d H,qm xs⟩
def KL(P:Params)(x:Str)(t:Tok)(v:Value):DictEntry:={ hash:=eW.keyHash P x,key:=.str x t,val:=v }
def wC(w:World)(x:Str):eW.keyHash w.params x=Uk w (.inr x):=by
 first
 |rfl
 | (unfold eW.keyHash Uk hashStr;rfl)
theorem BC{P:Program}{w:World}:∀(l:List (Str×Tok×Value×eW)),Pairs (fU P w) (l.map λq=>KL w.params q.1 q.2.1 q.2.2.1) (l.map λq=>((.inr q.1:Key),q.2.2.1))
 |[]=>.nil
 |q::l=>.cons (mI P w q.1 q.2.1) rfl (BC l)
theorem EU{K:Fg}(k:Key):∀(l:List (Str×Tok×Value×eW)),(∀q∈l,∃v,fQ v q.2.2.1/\∀H:Hp,dy K H q.2.2.2 v) ->
  (jb (j8 k) (l.map λq=>(.str q.1,q.2.2.2))=Z/\valueAt (l.map λq=>((.inr q.1:Key),q.2.2.1)) k=Z)\/∃d v u,jb (j8 k) (l.map λq=>(.str q.1,q.2.2.2))=Y d/\valueAt (l.map λq=>((.inr q.1:Key),q.2.2.1)) k=Y u/\fQ v u/\∀H:Hp,dy K H d v
 |[],_=>.inl ⟨rfl,rfl⟩
 |q::l,hv=>by
  by_cases e:(.inr q.1:Key)=k
  ·right;obtain⟨v,g,f⟩:=hv q (by simp);have a:nB (.str q.1) (j8 k)=true:=by rw[show eW.str q.1=j8 (.inr q.1) from rfl,k8];exact aW e
   exact⟨q.2.2.2,v,q.2.2.1,by simp[jb,a],by simp[valueAt,bR,e],g,f⟩
  ·have a:¬ nB (.str q.1) (j8 k)=true:=by rw[show eW.str q.1=j8 (.inr q.1) from rfl,k8];simp[e]
   rcases EU k l (λz h=>hv z (aj _ h)) with ⟨c,b⟩ | ⟨d,v,u,c,b,i⟩
   ·exact .inl ⟨by rw[af];unfold jb;rw[ai a];exact c,by simp only[valueAt,af,bR,aO e];exact b⟩
   ·exact .inr ⟨d,v,u,by rw[af];unfold jb;rw[ai a];exact c,by simp only[valueAt,af,bR,aO e];exact b,i⟩
def CY{P:Program}{w:World}{l:List (Str×Tok×Value×eW)} (g:mg x=Y (.ref a)) (m:(a==sysModules)=false)
  (i:K.lookup a=Y { cls:=.type "dict",data:=.dict (l.map λq=>KL w.params q.1 q.2.1 q.2.2.1).toArray n }) (d:(l.map (·.1)).Nodup) (f:∀q∈l,∃v,fQ v q.2.2.1/\∀H:Hp,dy K H q.2.2.2 v):
  lL P w K mg x (l.map λq=>(.str q.1,q.2.2.2)):=by
 refine⟨a,l.map λq=>(.inr q.1,q.2.2.1),g,m,λh o=>?_,λk=>EU k l f⟩;refine⟨_,_,n,o a _ i,⟨rfl,rfl,rfl⟩,rfl,λe j=>?_,by simpa using BC l,?_⟩
 ·have c:e∈l.map λq=>KL w.params q.1 q.2.1 q.2.2.1:=by simpa using j
  obtain⟨q,_,rfl⟩:=aK.mp c;exact⟨.inr q.1,mI P w q.1 q.2.1,wC w q.1⟩
 ·rw[bc];have:((λx:Key×Value=>x.1)∘λq:Str×Tok×Value×eW=>((.inr q.1:Key),q.2.2.1))=(λz:Str=>(.inr z:Key))∘(·.1):=rfl;rw[this,<-bc];exact eA _ (λa b h z=>h (by injection z)) d
section
variable {m:Md}{a c i:Expr}{fb fc:bb->Od}{p2 apos gd:Pos}{rest:List Stmt}{g h:bb->Option gC}
def PS.frame{t:TS}(h:PS X st t):PS X st (λD σ H=>∃G B,H=fi G B/\j6 G B/\t { nx:=λσ' a=>j6 a B->D.nx σ' (fi a B),rt:=λv a=>j6 a B->D.rt v (fi a B),bk:=λσ' a=>j6 a B->D.bk σ' (fi a B),ct:=λσ' a=>j6 a B->D.ct σ' (fi a B) } σ G):=by
 intro g s σ H D I ⟨G,B,k,f,i⟩;subst k;obtain⟨m,l,_,_,b⟩:=Bp f.ok I f;refine hZ (@h _ s σ G _ l i) λj e q=>?_;cases j with
 |next=>obtain⟨σ',a,J,q⟩:=q;obtain⟨c,d⟩:=b a e σ' J;exact⟨σ',_,d,q c⟩
 |brk=>obtain⟨σ',a,J,q⟩:=q;obtain⟨c,d⟩:=b a e σ' J;exact⟨σ',_,d,q c⟩
 |cont=>obtain⟨σ',a,J,q⟩:=q;obtain⟨c,d⟩:=b a e σ' J;exact⟨σ',_,d,q c⟩
 |ret u=>obtain⟨v,σ',a,J,r,q⟩:=q;obtain⟨c,d⟩:=b a e σ' J;exact⟨v,σ',_,d,r,q c⟩
def NA(i:Nat) {y:Str}{J c:Pos}{l b:Expr}{r:Pos}{h:Lx} (a:List (Nat×Str)) {g:bb->Option Bool} (W:X.N.Nodup)
  (Q:M4 X (.Name x r) b q)
  (P:∀C s H fp,yr (mM X scope C (x::a.map (·.2)) s H fp) h g)
  (R:∀C s H fp,PD (mM X scope C (x::a.map (·.2)) s H fp) l f) (V:i∉O:=by decide)
  (T:X.calm=true:=by rfl) (S:kq scope x:=by exact⟨rfl,by decide +kernel,by decide +kernel,rfl,aV⟩) (n:yJ X scope=true:=by rfl) (p:lI X scope a:=by repeat' (first|exact aV|refine⟨⟨rfl,.inl rfl,rfl⟩,?_⟩|refine⟨⟨rfl,.inr rfl,rfl⟩,?_⟩)) (w:(x::a.map (·.2)).Nodup:=by decide +kernel)
  (A:X.N[i]?=Y y:=by rfl) (M:X.env.scope.names.lookup y=Y .local:=by rfl) (u:swapsWith (.ListComp l [⟨.Name x r,b,h,0⟩] scope pos) (Y (.Name y J)) c.line X.env=pure true:=by rfl)
  (j:∀x,foldedSetIterable b X.env x=pure x:=by intro _;rfl):wx X m O (.Assign [.Name y J] (.ListComp l [⟨.Name x r,b,h,0⟩] scope pos) c) (ig (iF O (jg q a g f)) i):=by
 intro K s σ H D I U;refine PS.imp (PS.frame (IV (CF T S (mr I n) p w Q P R) S (mr I n) W A M u j)) (?_) s σ H D I U;rintro D σ H ⟨ρ,o,G,j,e,k⟩;obtain⟨d,e1,rfl⟩:=aa.mp e;obtain⟨B,eH,fm,t⟩:=j.o.ex;refine⟨G,B,eH,fm,ja O ρ,d,j.o.rest,e1,λv G' F L E=>?_⟩;exact k _ _ G' F (lA.set ⟨ip.CG j.o.len t j.o.lB F E,j.z⟩ V L)
def BE{j b:Expr}{c:Str}{l d m:Pos}{o:Nat}{e:Lx} (a:List (Nat×Str)) {g:bb->Option Bool}
  (t:M4 X (.Tuple [.Name x l,.Name c d] o m) b q)
  (p:∀C s H fp,yr (mM X scope C (x::c::a.map (·.2)) s H fp) e g)
  (u:∀C s H fp,PD (mM X scope C (x::c::a.map (·.2)) s H fp) j f)
  (v:X.calm=true:=by rfl) (S:kq scope x:=by exact⟨rfl,by decide +kernel,by decide +kernel,rfl,aV⟩) (y:scope.names.lookup c=Y .local:=by rfl) (h:yJ X scope=true:=by rfl) (i:lI X scope a:=by repeat' (first|exact aV|refine⟨⟨rfl,.inl rfl,rfl⟩,?_⟩|refine⟨⟨rfl,.inr rfl,rfl⟩,?_⟩)) (k:(x::c::a.map (·.2)).Nodup:=by decide +kernel)
  (r:∀x,foldedSetIterable b X.env x=pure x:=by intro _;rfl):PD X (.ListComp j [⟨.Tuple [.Name x l,.Name c d] o m,b,e,0⟩] scope pos) (CV q a g f):=by
 intro n s σ H Q I w;exact Ku.pe2 (Nu v S y (mr I h) i k t p u) S (mr I h) r s σ H Q I w
section
variable {O':List Nat}{j:Nat}
theorem iy.snoc{l:Bool}(e:(ρ[j]?).join=Z):∀{k:List Nat}{B:List (Addr×HO)},iy l K σ ρ G k B↔iy l K σ ρ G (k++[j]) B
 |[],B=>⟨λh=>.inl ⟨e,h⟩,λh=>by
   rcases h with ⟨_,h⟩ | ⟨d,v,g,f,a,_⟩
   ·exact h
   ·rw[a] at e;cases e⟩
 |i::k,B=>by
  constructor
  ·rintro(⟨a,b⟩ | ⟨d,v,g,f,a,b,c,q,t⟩)
   ·exact .inl ⟨a,(iy.snoc e).mp b⟩
   ·exact .inr ⟨d,v,g,f,a,b,c,q,(iy.snoc e).mp t⟩
  ·rintro(⟨a,b⟩ | ⟨d,v,g,f,a,b,c,q,t⟩)
   ·exact .inl ⟨a,(iy.snoc e).mpr b⟩
   ·exact .inr ⟨d,v,g,f,a,b,c,q,(iy.snoc e).mpr t⟩
def ip.freeze(r:(O'++[j]).Nodup)(l:kS (O'++[j])=kS O')(h:ip (O'++[j]) K σ ρ H G):∃D,eZ G D/\ip O' K σ ρ H D:=by
 have I:j∉O':=by rw[bA] at r;exact λz=>r.2.2 j z j (by simp) rfl
 cases hd:(ρ[j]?).join with
 |none=>
  obtain⟨B,w,f,b⟩:=h.ex;rw[l] at b;refine⟨G,.refl G,h.len,⟨B,w,f,(iy.snoc hd).mpr b⟩,λi d q k=>?_⟩;by_cases a:i=j
  ·subst a;rw[q] at hd;cases hd
  ·exact h.lB i d q (by simp[k,a])
 |some d=>
  have e:=join_some hd;obtain⟨v,o,g,n,M,L,f,p,A,y,_,O⟩:=h.own r (by simp) e;have c:(o++(g++n)).Perm ((o++n)++g):=by rw[aJ];exact cJ _ bj
  have C:j6 G ((o++n)++g):=f.perm c ((A.append y).append p.nh);have m:=C.Kw p.nh;have t:=O (fi G g) m.same (C.Kv (A.append y));have w:H=fi (fi G g) (o++n):=by rw[L,i9 f.nd c,jh]
  rw[<-w] at t;have F:j<ρ.length:=(ay.mp e).1;obtain⟨B,J,u,b⟩:=t.ex;rw[l] at b;have s:((ρ.set j Z)[j]?).join=Z:=by rw[aH F];rfl
  refine⟨fi G g,m.same,h.len,⟨B,J,u,((iy.snoc s).mpr b).other λi k=>?_⟩,λi N q k=>?_⟩
  ·have:j≠i:=λz=>I (z▸k);exact⟨(ax this).symm,rfl⟩
  ·by_cases a:i=j
   ·subst a;rw[e] at q;cases q;exact⟨v,M,p.L1 m.same λx E=>fV m.nd x E⟩
   ·exact t.lB i N (by rw[ax (Ne.symm a)];exact q) (by simp[k,a])
def ip.NB(m:j∉O')(k:kS (O'++[j])=kS O')(h:ip O' K σ ρ H G):ip (O'++[j]) K σ (ρ.set j Z) H G:=by
 obtain⟨B,n,f,a⟩:=h.ex;rw[<-k] at a;have c:((ρ.set j Z)[j]?).join=Z:=by
  by_cases l:j<ρ.length
  ·rw[aH l];rfl
  ·rw[cI (by simpa using l)];rfl
 refine⟨by simpa using h.len,⟨B,n,f,(iy.snoc c).mp (a.other λi b=>?_)⟩,λi d q b=>?_⟩
 ·have:j≠i:=λz=>m (z▸b);exact⟨ax this,rfl⟩
 ·have g:i∉O':=λz=>b (by simp[z]);have e:j≠i:=λz=>b (by simp[z]);rw[ax e] at q;exact h.lB i d q g
end
noncomputable def Hr(j:Nat):gC->gC
 |.nx ρ=>.nx (ρ.set j Z)
 |.bk ρ=>.bk (ρ.set j Z)
 |.ct ρ=>.ct (ρ.set j Z)
 |.rt d=>.rt d
def QZ(j:Nat)(g:bb->Option gC):bb->Option gC:=λρ=>(g ρ).map (Hr j)
def wD{O':List Nat}(j:Nat){i:List Stmt}(r:(O'++[j]).Nodup)(y:j≠0)(h:q7 X m O' i g)(c:kS (O'++[j])=kS O':=by rfl):q7 X m (O'++[j]) i (QZ j g) :=
 vu.imp h <| by
  rintro D σ H ⟨ρ,o,G,u,e,k⟩;have x:j∉O':=by rw[bA] at r;exact λz=>r.2.2 j z j (by simp) rfl
  obtain⟨t,A,rfl⟩:=aa.mp e;obtain⟨F,n,s⟩:=u.o.freeze r c;have v:∀(σ':St),(∀b a,m=.io b a->0∈O'++[j]/\σ'[0]?=Y (Y a)/\kS (O'++[j])=b)->∀b a,m=.io b a->0∈O'/\σ'[0]?=Y (Y a)/\kS O'=b:=λσ' w b a q=>by
   obtain⟨E,C,B⟩:=w b a q;refine⟨?_,C,c▸B⟩;rcases aP.mp E with z|z
   ·exact z
   ·exact absurd (by simpa using z:0=j).symm y
  have p:∀(σ':St) (ρ':bb) (H' f:Hp),lA m O' X.K σ' ρ' H' f->lA m (O'++[j]) X.K σ' (ρ'.set j Z) H' f:=λσ' ρ' H' f q=>⟨q.o.NB x c,λb a z=>⟨by simp[(q.z b a z).1],(q.z b a z).2.1,c▸(q.z b a z).2.2⟩⟩
  refine⟨ρ,t,F,⟨s,v σ u.z⟩,A,?_⟩;cases t with
  |nx ρ'=>exact λσ' H' f l q=>k σ' H' f (n.trans l) (p _ _ _ _ q)
  |bk ρ'=>exact λσ' H' f l q=>k σ' H' f (n.trans l) (p _ _ _ _ q)
  |ct ρ'=>exact λσ' H' f l q=>k σ' H' f (n.trans l) (p _ _ _ _ q)
  |rt d=>exact TM.later n k
end
section
variable {m:Md}{a c i:Expr}{fb fc:bb->Od}{p2 apos gd:Pos}
def mG{n:Int}{j:Nat}{q:Pos}:PD X (.UnaryOp .USub (.Constant (.int n) j q) pos) (zI (-n)) :=
 PE.imp (Xh UC c4) <| by rintro σ H Q ⟨ρ,d,c,e,k⟩;cases e;exact⟨ρ,_,c,rfl,λv f a b=>⟨_,dy.fw.mp b,k _ f a (dy.fw.mpr rfl)⟩⟩
theorem Q0(F:lL X.prog X.w X.K X.mg x kvs)(D:Gl X x)(E:PD X a fa)(C:behindInMarks .In (.Name x p)=false:=by with_unfolding_all rfl)(c:zg x:=by decide):Bi X (.Compare a [.In] [.Name x p] pos) (fB (λρ=>(fa ρ).bind (Ny kvs))):=by
 obtain⟨m,n,M,L,J,G⟩:=F.ex;have A:k6 X (compareOp .In) (λy z H Q=>∃k:Key,y=kV k/\z=.ref m/\Q (.bl (valueAt n k).isSome) H):=by intro j s σ H y z v u Q I t r ⟨k,h,g,q⟩;subst h g;cases r;exact wpAny_in_of (mK t) L (J s.heap I.ue).mapOf ⟨.bl _,H,I.tok _,rfl,q⟩
 refine PT.imp (xG A E (xF (v:=.ref m) D M rfl c) C) ?_;rintro σ H Q ⟨ρ,d,B,h,k⟩;obtain⟨y,g,P⟩:=bind_some (xI h);obtain⟨l,O,N⟩:=aa.mp P;have:=g9 O;subst this;refine⟨ρ,_,B,g,λv R o i=>⟨l,iz i,rfl,?_⟩⟩;have b:=k R o;cases N;rcases G l with ⟨f,e⟩ | ⟨W,S,T,f,e,V,U⟩
 ·rw[f] at b;rw[e];exact⟨_,rfl,b⟩
 ·rw[f] at b;rw[e];exact⟨_,rfl,b⟩
def Yd(w:PF X e f):PV X O e (Ve f) :=
 PE.imp w <| by
  rintro σ H Q ⟨ρ,d,G,p,B,k⟩;obtain⟨x,A,b⟩:=bind_some B;by_cases a:EF x=true
  ·rw[ah a] at b;cases b;refine⟨ρ,d,p.full,A,λv E F n j r=>?_⟩;have m:eZ H (fi E F):=n.trans j.same;obtain⟨D,g,y,h⟩:=p.grow m;refine k v _ D m g h ?_;cases d<;>try (simp[EF] at a;done)
   rename_i I;obtain⟨q,o,rfl,rfl,s⟩:=r.cont rfl;rcases s with ⟨C,c,l,rfl,i⟩ | ⟨_,_,l,_⟩
   ·cases l;have t:H q=Z:=by
     cases u:H q with
     |none=>rfl
     |some z=>have:=n _ _ u;rw[j.free (q,.lst c) (by simp)] at this;cases this
    exact dy.fG.mpr ⟨q,c,rfl,.inl (.inl (by rw[y q t];exact fV j.nd (q,.lst c) (by simp))),i.jL a⟩
   ·cases l
  ·rw[ai a] at b;cases b
end
section
open PySem.AutoSeq1 Builtin
def Q1(p:Addr)(a:Array Value)(j:Nat)(q:Addr)(b:Array Value)(k:Nat)(i:Array Ow)(u:¬(!a.isEmpty&&Builtin.List.listTooLong (a.size+b.size))=true)(n:a.size<=sizeLine)(m:a.size+b.size<=sizeLine+1):
  Meets (Builtin.«list.extend» ⟨[.ref p,.ref q],[]⟩) (λ_ R s=>
   s.heap.get? p=Y ⟨.type "list",Z,.seq a j,#[]⟩/\s.heap.get? q=Y ⟨.type "list",Z,.seq b k,i⟩ /\
   R (.ok (.ret Value.none)) { s with heap:=s.heap.update p (Obj.mapSeq λz=>z++b),toks:=s.toks }) :=
 .of_wp λe w A R s h=>by
  obtain⟨t,g,d,o,r⟩:=s;obtain⟨f,l,h⟩:=h;have C:=PySem.AutoSeq1.idx_int;have B:=PySem.AutoSeq1.sub_tuple_tuple;have y:=PySem.AutoSeq1.sub_list_list;have x:=PySem.AutoSeq1.sub_tuple_list;have v:=PySem.AutoSeq1.sub_list_tuple;have c:(a++b).size<=sizeLine+1:=by rw[Array.size_append];exact m
  wp_walk using (b6 f rfl (hz:=n) (_hz':=c)),wpAny_loadPart' f,wpAny_loadPart' l
  exact⟨_,rfl,h⟩
end
section
variable {m:Md}{a c i:Expr}{fb fc:bb->Od}{p2 apos gd:Pos}
def Ye(K:Fg):V->List V->Hp->VK->Prop:=λx d H Q=>∃l b c a,x=.ref l/\d=[.ref b]/\H l=Y (.lst c)/\ng K H b a/\c.length+a.length<=sizeLine/\Q .lB (upd H l (.lst (c++a)))
def Q2:Zv X "list.extend" (Ye X.K):=by
 intro h s σ H x O v P Q I p t ⟨l,b,N,M,E,G,k,D,R,q⟩;subst E G;cases p;obtain⟨u,rfl,w⟩:=t.one;cases w;obtain⟨z,c,n,r,S,e⟩:=I.MB k;obtain⟨a,g,⟨⟨L,T,m,o⟩,B,J,j,d,i⟩,C⟩:=I.list D;simp only at j d i;subst j d i;have A:=r.length;have y:=g.length;have f:c.toArray.size+a.toArray.size<=sizeLine:=by rw[au,au];omega
 refine cO cX ⟨_,e,rfl⟩ PySem.F.entry_list_extend (PySem.F.args_list_extend_2 _ _) (Q1 l c.toArray n b a.toArray B o (by rw[Eo f,Bool.and_false];exact aF) (by rw[au];omega) (by omega)) ⟨e,J,?_⟩;refine⟨.lB,_,I.Ql (its':=c++a) k e (by simp) (r.append g) ?_,rfl,q⟩;rw[bp];omega
def EV{π:Pl} (i:O.Nodup) (W:PP X o π) (he:PV X O e f) (J:π.ix∈O:=by decide) (u:wu O π=false:=by rfl) (n:starEach [e] X.env=(false,eval e X.env)::starEach [] X.env:=by rfl)
  (g:attributeBase o "extend" X.env (eval o X.env)=eval o X.env:=by rfl)
  (t:((backTo gd (starEach [e] X.env)).all (λx=>!x.1)&&(backToKw gd (keywordEach [] X.env)).all (λx=>x.1.isSome)&&decide (([e]:Lx).length+([]:List Keyword).length+(if ([]:List Keyword).isEmpty then 0 else 1)<30))=true:=by rfl)
  (c:(apos.endLine==gd.line)=true:=by rfl) (a:(backTo gd (starEach [] X.env)).any (·.1)=false:=by rfl)
  (s:swapsWith (.Call (.Attribute o "extend" apos) [e] [] gd) Z pos.line X.env=pure false:=by rfl):
  wx X m O (.Expr (.Call (.Attribute o "extend" apos) [e] [] gd) pos) (uz π f) :=
 PS.imp (rY (Be bH cX PySem.F.type_list_extend Q2 W (lC he qf n) g t c n a) s) <| by
  rintro D σ H ⟨ρ,o,G,s,e,k⟩;obtain⟨l,K,ea⟩:=bind_some e;obtain⟨d,e2,h⟩:=bind_some ea;obtain⟨E,rfl⟩:∃E,l=.list E:=by cases l<;>first|exact⟨_,rfl⟩|(cases d<;>cases h)
  obtain⟨C,rfl⟩:∃C,d=.list C:=by cases d<;>first|exact⟨_,rfl⟩|cases h
  dsimp only at h;by_cases A:E.length+C.length<=sizeLine
  ·rw[ah A] at h;cases h;obtain⟨q,ob,r,V,S,_⟩:=s.o.place i J K rfl u;obtain⟨M,rfl,i4⟩:=S.lst;refine⟨q,r,.inl ⟨rfl,M,ng.of V⟩,ρ,_,G,s.o,e2,λv H' G' P Q p U=>?_⟩;obtain⟨b,L,rfl,N,I⟩:=dy.fG.mp U;obtain⟨q',T,R,B,y,cl⟩:=p.place i J K rfl u;have:=Ar.eq r R P;subst this;obtain⟨w,rfl,j⟩:=y.lst;refine⟨q,b,w,L,rfl,rfl,B,p.sub.seq N,by rw[<-j.length,<-I.length];exact A,?_⟩;exact k _ _ G' Q ⟨cl _ _ (.inl ⟨_,_,rfl,rfl,j.append I⟩),s.z⟩
  ·rw[ai A] at h;cases h
def Vm(π:Pl):bb->Option gC:=λρ=>(qQ π ρ).bind λl=>match l with
 |.list _=>Y (.nx (vz π (.list []) ρ))
 |_=>Z
end
def Itw(K:Fg)(l:Addr)(n:Nat):It where
 go:=λi H=>i<n/\∃a,ng K H l a/\a.length=n
 P8:=λi H y b=>b=H/\i<n/\∀a,ng K H l a->a[n - 1 - i]?=Y y
 stop:=λi _=>n<=i
def NC{P:Program}{w:World}(l m:Addr)(n:Nat):Ef P w K tg (Itw K l n) [m] m (λi h=>i<=n/\h.IsRevIter m l ((n:Int) - 1 - (i:Int))) where
 mem:=by simp
 obj:=λi h f b p=>by
  have e:b=m:=by simpa using p
  subst e;obtain⟨_,o,e,c,d⟩:=f;exact⟨o,e,λv z=>by rw[d] at z;cases z⟩
 keep:=λi h r f k=>⟨f.1,f.2.at λo e=>k m (by simp) o e⟩
 item:=by
  intro X A hw B N i g s σ H E I q f y;subst A hw B;obtain⟨hi,t,M,hl⟩:=y;obtain⟨J,G,f2,F,D,C⟩:=q m (by simp);obtain⟨T,Q,S,hz⟩:=I.list M;have W:n - 1 - i<t.length:=by omega
  have L:t[n - 1 - i]?=Y t[n - 1 - i]:=aI W;obtain⟨u,V,R⟩:=Q.get L;have ei:(n:Int) - 1 - (i:Int)=((n - 1 - i:Nat):Int):=by omega
  have a:=f.2;rw[ei] at a;refine wpAny_pyNext_rev_item a S.isList (x:=u) (by simpa using V) λr j O=>?_;have I1:fu X g σ H { s with heap:=r,toks:=s.toks }:=I.turned (t':=s.toks) (λb o p e=>(O.2 b p).trans e) J G F D C;obtain⟨o,e,c,d⟩:=id j;have ej:((n - 1 - i:Nat):Int) - 1=(n:Int) - 1 - ((i+1:Nat):Int):=by omega
  rw[ej] at j;exact⟨_,rfl,x6 (s:={ s with heap:=r,toks:=s.toks }) e c d (by decide) ⟨_,H,I1,R,⟨rfl,hi,λys U=>by rw[I.x4 U M];exact L⟩,⟨by omega,j⟩,λb p=>(q b p).1⟩⟩
 done:=by
  intro X A hw B N i g s σ H E I q f y;subst A hw B;obtain⟨J,G,f2,F,D,C⟩:=q m (by simp);have hg':n<=i:=y;have:(n:Int) - 1 - (i:Int)=-1:=by have:=f.1;omega
  have a:=f.2;rw[this] at a;exact wpAny_pyNext_rev_end (I.ok.hd N) a λr eb=>⟨rfl,I.turned (t':=s.toks) (λb o p e=>eb b o p e) J G F D C⟩
 self:=λ_ _ _ _ _ f h=>wpAny_pyIter_revIter f.2 h
section
variable {m:Md}{a c:Expr}{fb fc:bb->Od}{p2 apos gd:Pos}
def Vn{j:TE}(z:Gl X "reversed")(w:X.mg "reversed"=Z)(A:PE X e j)(m:starEach [e] X.env=[(false,eval e X.env)]:=by rfl):PI X tg (.Call (.Name "reversed" p) [e] [] pos) (λσ H R=>j σ H λv f=>∃l g,v=.ref l/\ng X.K f l g/\R (Itw X.K l g.length) f):=by
 intro c s σ H R I h;refine bg (pb I z w (by rfl) ?_);refine bq ?_ (by rw[m];rfl) (by rfl);rw[m];refine aX (hZ (@A c s σ H _ I h) ?_);rintro v a ⟨x,f,i,r,l,g,C,u,q⟩;refine bx ?_;subst C;cases r;obtain⟨d,n,t,E⟩:=i.list u;have y:=n.length;refine call_reversed_list t.isList ?_;have k:({ a with heap:=a.heap.push (revObj l ((d.toArray.size:Int) - 1)) }:Shared).heap.IsRevIter (zB a) l ((g.length:Int) - 1 - ((0:Nat):Int)):=⟨_,aB _ rfl,rfl,by simp[revObj,y]⟩
 refine wpAny_pyIter_revIter k ?_;have D:fu X c σ f { a with heap:=a.heap.push (revObj l ((d.toArray.size:Int) - 1)) }:=i.kept (t':=a.toks) λb o e=>ak _ e;exact⟨_,[(zB a)],_,_,f,rfl,D,NC l _ _,⟨cB _,k⟩,λb B=>(by rw[show b=(zB a) by simpa using B];exact i.Ee (aA _) (i.iS.fresh (aA _))),q⟩
noncomputable def Q3(f:bb->Od):bb->Option Lp:=λρ=>(f ρ).bind λd=>match d with | .list ds=>Y ds.reverse|_=>Z
def Hs{a:Hp}{l:Addr}(j:ng K a l vs)(h:c6 K a ds vs):pv K (Itw K l vs.length) ds.reverse a:=λs b=>by have e:=h.length;refine⟨by show vs.length<=_;simp[e],λi d q=>?_⟩;have f:i<ds.reverse.length:=(ay.mp q).1;rw[dW] at f;refine⟨⟨by omega,vs,b.seq j,rfl⟩,?_⟩;rintro y r ⟨n,p,m⟩;subst n;refine⟨.refl _,λt k _=>?_⟩;have c:=m vs (b.seq j);rw[List.getElem?_reverse f] at q;obtain⟨v,g,o⟩:=h.get q;rw[e] at g;rw[g] at c;cases c;exact o.same k
def Jc(q:Gl X "reversed")(o:X.mg "reversed"=Z)(h:PD X e f)(a:starEach [e] X.env=[(false,eval e X.env)]:=by rfl):Vg X tg (.Call (.Name "reversed" p) [e] [] pos) (Q3 f) :=
 PI.imp (Vn q o h a) <| by
  rintro σ H R ⟨ρ,t,a,e,k⟩;obtain⟨d,r,g⟩:=bind_some e;obtain⟨b,rfl⟩:∃b,d=.list b:=by cases d<;>first|exact⟨_,rfl⟩|cases g
  cases g;refine⟨ρ,_,a,r,λv s j n=>?_⟩;obtain⟨l,i,rfl,c,m⟩:=dy.fG.mp n;exact⟨l,i,rfl,c,k _ s j (Hs c m)⟩
end
end L2
namespace L2
open PySem PySem.Spec PyProof.Rows PySem.Builtin PySem.Builtin.Str
section
variable {m:Md}{a:Expr}{p2:Pos}{sts:List Stmt}
def yK:q7 X m O sts rf:=vu.imp Kd <| by rintro D σ H ⟨ρ,o,G,a,e,k⟩;cases e
noncomputable def aaC(f:bb->Od):bb->Od:=λρ=>(f ρ).bind λd=>match d with | .list xs=>Y (.list xs.reverse)|_=>Z
end
end L2
namespace L2
open PySem PySem.Spec PyProof.Rows
section
variable {m:Md}{a c:Expr}{fb fc fk:bb->Od}{p2 apos gd:Pos}
def Yf(e:(B.map (·.1)).Nodup)(f:∀x∈B,H x.1=Y x.2):∃G,H=fi G B/\(∀x∈B,G x.1=Z)/\∀a,(∀x∈B,x.1≠a)->G a=H a:=by
 let G:Hp:=λa=>if (∃x∈B,x.1=a) then Z else H a
 have d:∀a,(∀x∈B,x.1≠a)->G a=H a:=λa c=>ai λ⟨x,b,z⟩=>c x b z;have g:∀x∈B,G x.1=Z:=λx b=>ah ⟨x,b,rfl⟩;exact⟨G,r8 e f λa c=>(d a c).symm,g,d⟩
end
section
variable {m:Md}{a c:Expr}{fb fc:bb->Od}{p2 apos gd:Pos}
def vL(x k z:eW):Od:=match x with
 |.dict kvs=>if fZ kvs=true then Z else (pq k).bind λ_=>Y ((jb k kvs).getD z)
 |_=>Z
def d3(g:eW->eW->eW->Od)(c b a:bb->Od):bb->Od:=λρ=>(c ρ).bind λx=>(b ρ).bind λy=>(a ρ).bind λz=>g x y z
def EW(T:X.A.units+64<cLine)(L:PD X o fa)(K:PD X e fb)(J:PD X c fc)(m:M2 X o "get" apos e c gd):PD X (.Call (.Attribute o "get" apos) [e,c] [] gd) (d3 vL fa fb fc) :=
 PE.imp (MJ (by omega) L K J m) λσ H Q h=>by
  obtain⟨ρ,d,n,e,k⟩:=h;obtain⟨x,P,e⟩:=bind_some e;obtain⟨y,O,e⟩:=bind_some e;obtain⟨z,R,e⟩:=bind_some e;refine⟨ρ,x,n,P,λv H1 i I=>?_⟩;obtain⟨a,rfl⟩:∃a,x=.dict a:=by cases x<;>first|exact⟨_,rfl⟩|(simp[vL] at e)
  unfold vL at e;by_cases q:fZ a=true
  ·dsimp only at e;rw[ah q] at e;cases e
  ·dsimp only at e;rw[ai q] at e;obtain⟨D,N,f⟩:=bind_some e;obtain⟨p,E,rfl,B,M⟩:=I.oR (by simpa using q);refine⟨p,rfl,.inl ⟨E,B⟩,ρ,y,n.same i,O,λu W b G=>⟨ρ,z,n.same (i.trans b),R,λw V g F=>?_⟩⟩;have:=g9 N;subst this;rw[iz G];refine⟨_,pL.r (g.rd (b.rd B)),?_⟩;have s:=M.same (b.trans g);have t:=k.later (i.trans (b.trans g));rcases s.val (y:=D) with ⟨l,j⟩ | ⟨U,S,l,j,C⟩
   ·rw[l] at f;cases f;rw[j];exact t.here F
   ·rw[l] at f;cases f;rw[j];exact t.here C
end
section
variable {m:Md}{a c:Expr}{fb fc:bb->Od}{p2 apos gd:Pos}
end
structure yL (P:Program) (w:World) (K:Fg) (mg:Str->Ow) (base:Heap) (c m:Str) (k n:Nat) (f:Lp->Od):Prop where
 ex:∃C a fd ps,jC K c C/\GJ K C/\GK K C m a/\k7 P w K mg base vo k a fd ps (spF K n f)/\kQ K fd ps []
section
variable {m:Md}{a c:Expr}{fb fc:bb->Od}{p2 apos gd:Pos}{j k:Nat}
def Q4{t c:Str}{F:Lp->Od}{pl:Sem Bool} (N:yL X.prog X.w X.K X.mg X.base t c j n F) (I:PD X o f) (G:iO k X.A) (M:Bj X (e::es) ff) (L:j<=k:=by decide)
  (l:zE e es X:=by rfl) (m:(backTo pos (starEach es X.env)).any (·.1)=false:=by rfl)
  (E:eval (.Call (.Attribute o c apos) (e::es) [] pos) X.env=(do
   let ov <-eval o X.env
   standAt apos.atName
   let (f,first) <-holding [ov] (getMethod ov c pl)
   callWith pos f first (backTo pos (starEach (e::es) X.env)) (backToKw pos (keywordEach [] X.env))):=by rfl):PF X (.Call (.Attribute o c apos) (e::es) [] pos) (iK t c n F f ff):=by
 obtain⟨C,a,fd,ps,O,r,J,Fn,b⟩:=N.ex;refine PE.imp (Cm (pl:=pl) I r J (Fn.mono L) G b .nil oa M l m E) ?_;rintro σ H Q ⟨ρ,d,B,e,k⟩;obtain⟨x,V,h⟩:=bind_some e;by_cases i:kL t c x=true
 ·rw[ah i] at h;obtain⟨s,U,g⟩:=bind_some h;by_cases q:s.length+1=n
  ·rw[ah q] at g;refine⟨ρ,x,B,V,λv H1 y z=>?_⟩;obtain⟨p,C',W,T,rfl,S,R,P⟩:=yB i z;have:=S.uniq O;subst this;exact⟨p,W,T,rfl,R,P,ρ,s,B.same y,U,λvs H2 u D=>⟨x::s,d,by rw[aL];exact c6.cons (z.same u) D,by simpa using q,g,k.later (y.trans u)⟩⟩
  ·rw[ai q] at g;cases g
 ·rw[ai i] at h;cases h
end
section
variable {a:Expr}{fb:bb->Od}
end
def Q5:Nat->(Lw->Prop)->Prop
 |0,p=>p []
 |n+1,p=>∀v,Q5 n λa=>p (v::a)
theorem Q5.all:∀{n:Nat}{p:Lw->Prop},Q5 n p->∀a:Lw,a.length=n->p a
 |0,_,h,[],_=>h
 |_+1,_,h,v::a,e=>(h v).all a (Nat.succ.inj e)
def KN(x q:Str)(a:Stmt)(d:Lr):Prop:=∀(f b e:Value) (an:Option Addr) (qy ct:Value),Q5 d.length λc=>bindArgs (W.fnOf x q (oQ a) (jd a) (fj a) .none f b e an qy ct) ⟨c,[]⟩=pure (d.zip c)
theorem KN.to{q:Str}{d:Lr}(h:KN x q st d)(F:IL K x q st a fd):kQ K fd d []:=F.binds λi b g k c j f e=>(h i b g k c j).all f e
def gY(K:Fg)(c:Str->Ow)(x:Str)(b:Stmt):Prop:=∃a d,c x=Y (.ref a)/\IL K x x b a d
def pV(K:Fg)(c m q:Str)(b:Stmt):Prop:=∃C a d,jC K c C/\GJ K C/\GK K C m a/\IL K m q b a d
def xb(K:Fg)(d:Str->Ow)(c q:Str)(b:Stmt):Prop:=∃C a e,jC K c C/\d c=Y (.ref C)/\Mk K C a/\IL K "__init__" q b a e
section
variable {h:Heap}{m q:Str}{C f:Addr}{od an:Option Addr}{sl:Array Ow}{oc kV dc pm cd ct:Value}
def fnAt(X:K.In h)(G:h.Ns mainGlobals mg)(a:W.nsIn K mainGlobals x=Y (Y (.ref f)))(l:K.lookup f=Y ⟨oc,od,.func (W.fnOf x x (oQ st) (jd st) (fj st) .none kV dc pm an cd ct),sl⟩)(c:W.codeIn K cd x=true)(k:W.keepIn K (.ref f)=true):gY K mg x st :=
 ⟨f,_,W.mg_of X G a,GX l c k⟩
def intAt{n:Int}{t:Tok}(X:K.In h)(G:h.Ns mainGlobals mg)(a:W.nsIn K mainGlobals x=Y (Y (.int n t))):ET K mg x (.int n):=aaB (W.mg_of X G a)
def Yg(a:W.nsIn K mainGlobals c=Y (Y (.ref C))) (p:W.plainGet K C Str.empty=true) (d:W.hasDictIn K C=true) (o:W.plainOver K C=true) (s:W.findIn K (.ref C) "__setattr__"=Y (Y (.builtin "object.__setattr__")))
  (n:W.findIn K (.ref C) x=Y Z):fT K c x:=⟨C,a,⟨p,d,o,s⟩,n⟩
def aaD(a:W.nsIn K mainGlobals c=Y (Y (.ref C))) (p:W.plainGet K C Str.empty=true) (d:W.hasDictIn K C=true) (o:W.plainOver K C=true) (s:W.findIn K (.ref C) "__setattr__"=Y (Y (.builtin "object.__setattr__")))
  (n:W.findIn K (.ref C) m=Y (Y (.ref f))) (i:W.isFn K (.ref f)=true) (l:K.lookup f=Y ⟨oc,od,.func (W.fnOf m q (oQ st) (jd st) (fj st) .none kV dc pm an cd ct),sl⟩) (e:W.codeIn K cd q=true) (k:W.keepIn K (.ref f)=true):pV K c m q st :=
 ⟨C,f,_,a,⟨p,d,o,s⟩,⟨n,i,k⟩,GX l e k⟩
def Vo(X:K.In h) (G:h.Ns mainGlobals mg) (a:W.nsIn K mainGlobals c=Y (Y (.ref C))) (m:W.makesIn K C=true) (b:W.keepIn K (.ref C)=true)
  (n:W.findIn K (.ref C) "__init__"=Y (Y (.ref f))) (i:W.isFn K (.ref f)=true) (l:K.lookup f=Y ⟨oc,od,.func (W.fnOf "__init__" q (oQ st) (jd st) (fj st) .none kV dc pm an cd ct),sl⟩) (e:W.codeIn K cd q=true) (k:W.keepIn K (.ref f)=true):xb K mg c q st :=
 ⟨C,f,_,a,W.mg_of X G a,⟨m,n,i,b⟩,GX l e k⟩
end
section
variable {P:Program}{w:World}{base:Heap}{m q:Str}{N:Lr}{k:Nat}{g:bb->Option gC}{fa:Addr}
abbrev BF(P:Program)(w:World)(K:W.Frag)(f:Str->Option Value)(c:Heap)(q:Str)(d:Stmt)(N:List Str)(k:Nat)(h:V->Md)(O:List Nat)(g:bb->Option gC):Prop :=
 ∀{v0:V}{e:Addr}{b:Value}{A:Around}{a:List Env}{s:Shared}{H:Hp}{E:XK},iO k (A.deeper (envOfC q (fj d) (zB s) e b))->(A.deeper (envOfC q (fj d) (zB s) e b)).units+64<cLine->N.Nodup->O.Nodup ->
  q7 (vx vo P w K f c N q (fj d) e b A a s H E).Mf (h v0) O (jd d) g
theorem iX(O:List Nat) (F:gY K mg x st) (f:BF P w K mg base x st N k (λ_=>.dat) O g) (S:iD N (N.take n) (fj st):=by exact⟨rfl,rfl,rfl,by decide +kernel,rfl,by decide +kernel,by decide +kernel⟩) (e:n=(N.take n).length:=by rfl) (h:∀i∈O,n<=i:=by decide) (c:O.Nodup:=by decide)
  (o:KN x x st (N.take n):=by intro _ _ _ _ _ _;(repeat' intro _);exact rfl):wq P w K mg base x (k+1) n (jS N g):=by
 obtain⟨a,l,j,F⟩:=F;exact⟨a,l,N.take n,Nj F S e h λm A b s H E d=>f (v0:=.lB) d d.units S.nd c,j,F.kp,o.to F⟩
theorem yM(O:List Nat) (F:gY K mg x st) (f:BF P w K mg base x st N k (λ_=>.own) O g) (S:iD N (N.take n) (fj st):=by exact⟨rfl,rfl,rfl,by decide +kernel,rfl,by decide +kernel,by decide +kernel⟩) (e:n=(N.take n).length:=by rfl) (h:∀i∈O,n<=i:=by decide) (c:O.Nodup:=by decide)
  (o:KN x x st (N.take n):=by intro _ _ _ _ _ _;(repeat' intro _);exact rfl):rh P w K mg base x (k+1) n (yy N g):=by
 obtain⟨a,l,j,F⟩:=F;exact⟨a,l,N.take n,Nk F S e h λm A b s H E d=>f (v0:=.lB) d d.units S.nd c,j,F.kp,o.to F⟩
theorem EX(O:List Nat) (F:gY K mg x st) (f:BF P w K mg base x st N k (.io (kS (0::O))) (0::O) g) (S:iD N (N.take n) (fj st):=by exact⟨rfl,rfl,rfl,by decide +kernel,rfl,by decide +kernel,by decide +kernel⟩) (e:n=(N.take n).length:=by rfl) (h:∀i∈O,n<=i:=by decide) (b:(0::O).Nodup:=by decide) (j:n≠0:=by decide)
  (p:KN x x st (N.take n):=by intro _ _ _ _ _ _;(repeat' intro _);exact rfl):Hg (kS (0::O)) P w K mg base x (k+1) n (pQ N g):=by
 obtain⟨a,l,m,F⟩:=F;exact⟨a,l,N.take n,TN F S e j b h λq o A c s H E d=>f d d.units S.nd b,m,F.kp,p.to F⟩
def CZ(O:List Nat) (F:xb K mg c q st) (l:BF P w K mg base q st N k (.io (kS (0::O))) (0::O) g) (S:iD N (N.take n) (fj st):=by exact⟨rfl,rfl,rfl,by decide +kernel,rfl,by decide +kernel,by decide +kernel⟩) (h:n=(N.take n).length:=by rfl) (m:∀i∈O,n<=i:=by decide) (b:(0::O).Nodup:=by decide) (o:n≠0:=by decide) (j:kS (0::O)=false:=by rfl)
  (v:KN "__init__" q st (N.take n):=by intro _ _ _ _ _ _;(repeat' intro _);exact rfl):vE P w K mg base c (k+1) n (pQ N g):=by
 obtain⟨C,a,p,t,r,M,F⟩:=F;have f:=TN F S h o b m λx u A d s H E e=>l e e.units S.nd b;rw[j] at f;exact⟨C,a,p,N.take n,t,r,M,f,v.to F⟩
def uH(O:List Nat) (F:pV K c m q st) (h:BF P w K mg base q st N k (λ_=>.dat) O g) (S:iD N (N.take n) (fj st):=by exact⟨rfl,rfl,rfl,by decide +kernel,rfl,by decide +kernel,by decide +kernel⟩) (f:n=(N.take n).length:=by rfl) (j:∀i∈O,n<=i:=by decide) (d:O.Nodup:=by decide)
  (t:KN m q st (N.take n):=by intro _ _ _ _ _ _;(repeat' intro _);exact rfl):kY P w K mg base c m (k+1) n (jS N g):=by
 obtain⟨C,a,l,p,o,M,F⟩:=F;exact⟨C,a,l,N.take n,p,o,M,Nj F S f j λr A b s H E e=>h (v0:=.lB) e e.units S.nd d,t.to F⟩
def Vp(O:List Nat) (F:pV K c m q st) (h:BF P w K mg base q st N k (λ_=>.own) O g) (S:iD N (N.take n) (fj st):=by exact⟨rfl,rfl,rfl,by decide +kernel,rfl,by decide +kernel,by decide +kernel⟩) (f:n=(N.take n).length:=by rfl) (j:∀i∈O,n<=i:=by decide) (d:O.Nodup:=by decide)
  (t:KN m q st (N.take n):=by intro _ _ _ _ _ _;(repeat' intro _);exact rfl):yL P w K mg base c m (k+1) n (yy N g):=by
 obtain⟨C,a,l,p,o,M,F⟩:=F;exact⟨C,a,l,N.take n,p,o,M,Nk F S f j λr A b s H E e=>h (v0:=.lB) e e.units S.nd d,t.to F⟩
variable {a:Expr}{fa fb:bb->Od}
def jF(d:X.A.units+64<cLine)(g:PD X a fa)(f:PD X b fb)(e:ui b:=by exact λ_ _=>rfl)(c:Er b:=by exact λ_ _=>rfl):PD X (.Subscript a b pos) (zX fa fb):=Vb d g f e c
def fW{c:CmpOp}{g:eW->eW->Od}(d:uf X (compareOp c) g)(h:PD X a fa)(f:PD X b fb)(e:behindInMarks c b=false:=by first|exact GF _|with_unfolding_all rfl):Bi X (.Compare a [c] [b] pos) (fB (d2 g fa fb)):=Qt d h f e
def sF{c:CmpOp}{g:eW->eW->Od}(d:uf X (compareOp c) g)(h:PD X a fa)(f:PD X b fb)(e:behindInMarks c b=false:=by first|exact GF _|with_unfolding_all rfl):PD X (.Compare a [c] [b] pos) (d2 g fa fb):=UY d h f e
noncomputable def ND:Lx->Option Lr
 |[]=>Y []
 |.Constant (.str x) _ _::es=>(ND es).map (x::·)
 |_=>Z
def TY:Lr->bb->Option Lp
 |[]=>f7
 |x::xs=>gq (zA x) (TY xs)
def NF(a:Lr)(h:ND es=Y a):Bj X es (TY a):=by
 induction es generalizing a with
 |nil=>cases h;exact jx
 |cons e es c=>
  unfold ND at h;split at h
  ·rename_i z;cases z
  ·rename_i z;cases z;obtain⟨b,e,rfl⟩:=aa.mp h;exact fy c7 (c b e)
  ·cases h
end
section
def fu.told(I:fu X pins σ H s) {u u':HO} (k:H a=Y u) (C:∀b,u≠.own b) (l:∀xs,u≠.tup xs) (B:∀ps,u≠.P1 ps) (t:∀o v,X.H₀ a≠Y (.ud o v))
  (h:∀H',iU X.prog X.w H' s.heap a u'):fu X pins σ (upd H a u') s:=by
 have g:∀b,H b=Z->b≠a:=λb e z=>by subst z;rw[k] at e;cases e
 have f:∀b o,H b=Y o->o≠u->b≠a:=λb o e n z=>by subst z;rw[k] at e;exact n (bu e).symm
 refine⟨I.ok,I.os,I.bare,⟨I.base.keep,I.base.slot,λb o e n y=>?_,I.base.there,λb xs e=>?_,λb o v e=>?_,λb ps e=>?_⟩,I.loc,I.cell,?_,λx c e=>?_,λp A=>?_,λb o e=>?_,I.len⟩
 ·have:=I.base.free b o e n y;rw[ee (g b this)];exact this
 ·have:=I.base.vt b xs e;rw[ee (f b _ this (l xs).symm)];exact this
 ·rw[ee (λz:b=a=>t o v (by rw[<-z];exact e))];exact I.base.tB b o v e
 ·obtain⟨d,this⟩:=I.base.wY b ps e;exact⟨d,by rw[ee (f b _ this (B _).symm)];exact this⟩
 ·rw[ee (g _ I.free)];exact I.free
 ·rw[ee (g _ (I.nA x c e))];exact I.nA x c e
 ·obtain⟨r,i,m⟩:=I.pin p A;exact⟨r,by rw[ee (g _ i)];exact i,m⟩
 ·by_cases j:b=a
  ·subst j;rw[fx] at e;cases e;exact h _
  ·rw[ee j] at e;exact(I.iS b o e).vq (λc v _ q=>q) (λc q=>by rw[ee (f c _ q (C b).symm)];exact q) λc xs q=>by rw[ee (f c _ q (l xs).symm)];exact q
theorem Paired.at'{α β:Type}{F:α->β->Prop}:∀{d:List α}{c:List β}{i:Nat}{a:α}{b:β},Paired F d c->d[i]?=Y a->c[i]?=Y b->F a b
 |_,_,i,_,_,.nil,h,_=>by simp at h
 |_,_,0,_,_,.cons r _,h,h'=>by simp at h h';subst h h';exact r
 |_,_,i+1,_,_,.cons _ t,h,h'=>Paired.at' t (by simpa using h) (by simpa using h')
def Yh(a:Addr)(c:Obj)(b:List (Key×V)):It :=
 ⟨λi H=>H a=Y (.ud c (.dK b))/\i<b.length,λi H x H'=>H'=H/\∃y v,b[i]?=Y (y,v)/\x=kV y,λi H=>H a=Y (.ud c (.dK b))/\b.length<=i⟩
def BG{P:Program}{w:World}{h:Heap}{g:Obj}{k:Array DictEntry}{l:Nat}(x:iU P w H h a (.ud g (.dK kv)))(j:g.data=.dict k l):
  ∃e,KV kv e/\h.DictAt (fU P w) a e l:=by
 obtain⟨i,z,p,e,f,o,m,n,b,c,d,r⟩:=x;rw[i] at b;cases b;rw[j] at d;cases d;exact⟨e,f,g,k,i,c,j,r⟩
def KP{P:Program}{w:World}(a p:Addr)(R:Obj)(m:List (Key×V)):Ef P w K tg (Yh a R m) [p] p (λi h=>∃t n,R.data=.dict t n/\h.IsKeyIter p a i m.length n) where
 mem:=by simp
 obj:=by
  rintro i h ⟨t,n,_,o,e,c,d⟩ b r;have e':b=p:=by simpa using r
  subst e';exact⟨o,e,λv z=>by rw[d] at z;cases z⟩
 keep:=λi h B ⟨t,n,q,f⟩ k=>⟨t,n,q,f.at λo e=>k p (by simp) o e⟩
 item:=by intro X F hw G W i l s σ H E I A ⟨t,n,x,f⟩ ⟨D,U⟩;subst F hw G;obtain⟨j,g,Q⟩:=BG (I.iS a _ D) x;have y:m.length=j.length:=cG g;obtain⟨O,N,f2,M,L,J⟩:=A p (by simp);have T:m[i]?=Y m[i]:=aI U;have S:j[i]?=Y j[i]:=aI (by omega);have hr:=Paired.at' g T S;rw[y] at f;refine wpAny_pyNext_dict_item f Q (k:=j[i].1) (v:=j[i].2) (by rw[S]) λC B hy u sb=>?_;have I1:fu X l σ H { s with heap:=B }:=I.turned (t':=s.toks) (λb o r e=>(sb.2 b r).trans e) O N M L J;obtain⟨o,e,c,d⟩:=id u;exact⟨C,rfl,x6 (s:={ s with heap:=B }) e c d (by decide) ⟨kV j[i].1,H,I1,Bz hy,⟨rfl,m[i].1,m[i].2,T,by rw[hr.1]⟩,⟨t,n,x,by rw[y];exact u⟩,λb r=>(A b r).1⟩⟩
 done:=by intro X F hw G W i l s σ H E I A ⟨t,n,x,f⟩ ⟨D,U⟩;subst F hw G;obtain⟨j,g,Q⟩:=BG (I.iS a _ D) x;have y:m.length=j.length:=cG g;obtain⟨O,N,f2,M,L,J⟩:=A p (by simp);rw[y] at f;exact wpAny_pyNext_dict_end (I.ok.hd W) f Q (cI (by omega)) λB eb=>⟨rfl,I.turned (t':=s.toks) (λb o r e=>eb b o r e) O N M L J⟩
 self:=λ_ _ _ _ _ ⟨_,_,_,f⟩ h=>wpAny_pyIter_keyiter f h
def Q6{E:TE}(M:PE X e E):PI X tg e (λσ H R=>E σ H λv n=>∃a i,v=.ref a/\Rd n a (.dK i)/\(∀g,n a=Y (.ud g (.dK i))->R (Yh a g i) n) /\
  ∀g,n a=Y (.dK i)->(∀o v,X.H₀ a≠Y (.ud o v))->R (Yh a g i) (upd n a (.ud g (.dK i)))):=by
 intro f s σ H R I h;refine hZ (@M f s σ H _ I h) ?_;rintro v k ⟨y,n,A,J,a,i,P,j,L,K⟩;subst P;cases J;have G:∀{m:Hp}{g:Obj},fu X f σ m k->m a=Y (.ud g (.dK i))->R (Yh a g i) m->(zw X) (pyIter (.ref a)) (Z9 X f σ tg R) X.xe k:=λ{m g} x e2 q=>by
  obtain⟨t,z,B,D,l,o,u,C,p,c,d,r⟩:=(show iU X.prog X.w m k.heap a (.ud g (.dK i)) from x.iS a _ e2)
  rw[t] at p;cases p;have O:∀b∈[(zB k)],qM X f m b:=λb N=>by rw[show b=(zB k) by simpa using N];exact x.Ee (aA _) (x.iS.fresh (aA _))
  refine wpAny_pyIter_dict (knd:=fU X.prog X.w) B ⟨g,u,t,c,d,r⟩ ?_;exact⟨_,[(zB k)],_,_,m,rfl,x.kept (t':=k.toks) λb o e=>ak _ e,KP a _ g i,⟨u,C,d,_,aB _ rfl,rfl,by rw[cG l];rfl⟩,O,q⟩
 rcases j with j | ⟨g,j⟩
 ·obtain⟨z,B,D,l,o,u,C,t,r⟩:=(show iU X.prog X.w n k.heap a (.dK i) from A.iS a _ j)
  have F:∀o v,X.H₀ a≠Y (.ud o v):=λo v e=>by have:=A.base.tB a o v e;rw[j] at this;cases this
  exact G (A.told (u':=.ud o (.dK i)) j (λ_ q=>by cases q) (λ_ q=>by cases q) (λ_ q=>by cases q) F λQ=>⟨t,z,B,D,l,o,u,C,t,r⟩) fx (K o j F)
 ·exact G A j (L g j)
def Q7{t:TS}(h:PS X st t):PS X st (λD σ H=>t { D with nx:=λσ' b=>D.nx σ' b\/∃a e d,b a=Y (.ud e (.dK d))/\(∀o v,X.H₀ a≠Y (.ud o v))/\D.nx σ' (upd b a (.dK d)) } σ H):=by
 intro c s σ H D I m;refine hZ (@h c s σ H _ I m) λf k q=>?_;cases f with
 |next=>
  obtain⟨σ',b,i,q | ⟨a,e,d,j,l,q⟩⟩:=q
  ·exact⟨σ',b,i,q⟩
  ·obtain⟨_,g⟩:=(show iU X.prog X.w b k.heap a (.ud e (.dK d)) from i.iS a _ j)
   exact⟨σ',_,i.told (u':=.dK d) j (λ_ q=>by cases q) (λ_ q=>by cases q) (λ_ q=>by cases q) l λ_=>g,q⟩
 |brk=>exact q
 |cont=>exact q
 |ret v=>exact q
end
def Ht(u:HO)(a:List (Key×V)):Prop:=u=.dK a\/∃o,u=.ud o (.dK a)
def EY{u g:HO}(j:G a=Y u)(i:Ht u kv)(e:Ht g kv):Am K G (upd G a g):=by
 have c:∀{b:Addr}{v:HO},G b=Y v->(∀kv,¬ Ht v kv)->b≠a:=λ{b v} h n z=>by subst z;rw[j] at h;cases h;exact n _ i
 refine⟨λ{b xs} h=>?_,λ{b xs} h=>?_,λ{b d} h=>?_,λ{b C dx fs} h=>?_⟩
 ·rcases h with (h | ⟨o,h⟩)|h
  ·exact .inl (.inl (by rw[ee (c h λ_ z=>by rcases z with z | ⟨_,z⟩<;>cases z)];exact h))
  ·exact .inl (.inr ⟨o,by rw[ee (c h λ_ z=>by rcases z with z | ⟨_,z⟩<;>cases z)];exact h⟩)
  ·exact .inr h
 ·rcases h with (h | ⟨o,h⟩)|h
  ·exact .inl (.inl (by rw[ee (c h λ_ z=>by rcases z with z | ⟨_,z⟩<;>cases z)];exact h))
  ·exact .inl (.inr ⟨o,by rw[ee (c h λ_ z=>by rcases z with z | ⟨_,z⟩<;>cases z)];exact h⟩)
  ·exact .inr h
 ·by_cases f:b=a
  ·subst f;have:d=kv:=by
    rcases h with h | ⟨o,h⟩<;>rw[j] at h<;>cases h<;>rcases i with z | ⟨_,z⟩<;>cases z<;>rfl
   subst this;rcases e with z | ⟨o,z⟩<;>subst z
   ·exact .inl fx
   ·exact .inr ⟨o,fx⟩
  ·rcases h with h | ⟨o,h⟩
   ·exact .inl (by rw[ee f];exact h)
   ·exact .inr ⟨o,by rw[ee f];exact h⟩
 ·rw[ee (c h λ_ z=>by rcases z with z | ⟨_,z⟩<;>cases z)];exact h
section
variable {m:Md}{a c:Expr}{g:bb->Option gC}
def wF{n:Hp}{a:Addr}{c:Obj}(g:G a=Y (.ud c (.dK kv)))(e:f9 K n kvs kv):pv K (Yh a c kv) (kvs.map (·.1)) G:=λH' b=>by
 have f:kvs.length=kv.length:=e.length;refine⟨⟨b _ _ g,by simp[f]⟩,λi d q=>⟨⟨b _ _ g,?_⟩,λx r ⟨l,y,v,k,j⟩=>?_⟩⟩
 ·have:=(ay.mp q).1;simpa [f] using this
 ·subst l j;refine⟨.refl _,λo _ _=>?_⟩;obtain⟨p,h,m⟩:=(vJ (H':=o) e).get q;rw[az,k] at h;cases h;exact m
end
inductive MV where
 |d (x:eW)
 |l (n:Nat)
 |t (xs:List MV)
inductive MO where
 |lst (xs:List MV)
 |jt (kvs:List (Key×MV))
 |ins (c:Str) (fs:List (Str×MV))
 |gone
abbrev MH:=List MO
abbrev MR:=List (Option MV)
abbrev AL:=List (Addr×Addr)
mutual
def hE (K:Fg) (G:Hp) (as:AL):MV->V->Prop
  |.d x,v=>dy K G x v
  |.l n,v=>∃a,as[n]?=Y a/\v=.ref a.1
  |.t xs,v=>∃p vs,v=.ref p/\qL K G p vs/\fL K G as xs vs
def fL (K:Fg) (G:Hp) (as:AL):List MV->List V->Prop
  |[],vs=>vs=[]
  |x::xs,vs=>∃v r,vs=v::r/\hE K G as x v/\fL K G as xs r
end
def pG(c b:AL):Prop:=∀(n:Nat) (a:Addr×Addr),c[n]?=Y a->b[n]?=Y a
def pG.refl(a:AL):pG a a:=λ_ _ h=>h
def pG.trans{a b c:AL}(h:pG a b)(h':pG b c):pG a c:=λn x e=>h' n x (h n x e)
def pG.snoc{b:AL}{x:Addr×Addr}:pG b (b++[x]):=λn a e=>by rw[aS (ay.mp e).1];exact e
section
variable {G':Hp}{as Gu:AL}
def hE.hI{x:eW}:hE K G as (.d x) v↔dy K G x v:=by unfold hE;exact cL
def hE.kU:hE K G as (.l n) v↔∃a,as[n]?=Y a/\v=.ref a.1:=by unfold hE;exact cL
def hE.yN{a:List MV}:hE K G as (.t a) v↔∃p b,v=.ref p/\qL K G p b/\fL K G as a b:=by unfold hE;exact cL
def fL.fe:fL K G as [] vs↔vs=[]:=by unfold fL;exact cL
def fL.da{x:MV}{a:List MV}:fL K G as (x::a) vs↔∃v r,vs=v::r/\hE K G as x v/\fL K G as a r:=by
 constructor
 ·intro h;unfold fL at h;exact h
 ·intro h;unfold fL;exact h
mutual
theorem hE.mono (e:Am K G G') (x:pG as Gu):∀{m:MV}{v:V},hE K G as m v->hE K G' Gu m v
  |.d _,_,h=>hE.hI.mpr ((hE.hI.mp h).sim e)
  |.l _,_,h=>by
    obtain⟨a,e1,e2⟩:=hE.kU.mp h
    exact hE.kU.mpr ⟨a,x _ _ e1,e2⟩
  |.t _,_,h=>by
    obtain⟨p,vs,e1,e2,e3⟩:=hE.yN.mp h
    exact hE.yN.mpr ⟨p,vs,e1,e.sC e2,fL.mono e x e3⟩
theorem fL.mono (e:Am K G G') (x:pG as Gu):∀{ms:List MV}{vs:List V},fL K G as ms vs->fL K G' Gu ms vs
  |[],_,h=>fL.fe.mpr (fL.fe.mp h)
  |_::_,_,h=>by
    obtain⟨v,r,e1,e2,e3⟩:=fL.da.mp h
    exact fL.da.mpr ⟨v,r,e1,hE.mono e x e2,fL.mono e x e3⟩
end
def fL.nil:fL K G as [] []:=fL.fe.mpr rfl
def fL.cons{x:MV}{xs:List MV}{v:V}{vs:List V}(h:hE K G as x v)(t:fL K G as xs vs):fL K G as (x::xs) (v::vs):=fL.da.mpr ⟨v,vs,rfl,h,t⟩
theorem fL.length:∀{xs:List MV}{vs:List V},fL K G as xs vs->xs.length=vs.length
 |[],_,h=>by rw[fL.fe.mp h];rfl
 |_::_,_,h=>by obtain⟨v,r,rfl,_,t⟩:=fL.da.mp h;simp[t.length]
theorem fL.get:∀{c:List MV}{vs:List V}{i:Nat}{x:MV},fL K G as c vs->c[i]?=Y x->∃v,vs[i]?=Y v/\hE K G as x v
 |[],_,_,_,_,e=>by simp at e
 |_::_,_,i,_,h,e=>by
  obtain⟨v,r,rfl,d,t⟩:=fL.da.mp h;cases i with
  |zero=>simp at e;subst e;exact⟨v,rfl,d⟩
  |succ i=>obtain⟨u,a,b⟩:=t.get (by simpa using e);exact⟨u,by simpa using a,b⟩
theorem fL.append:∀{b a:List MV}{c d:List V},fL K G as b c->fL K G as a d->fL K G as (b++a) (c++d)
 |[],_,_,_,h,h'=>by rw[fL.fe.mp h];exact h'
 |_::_,_,_,_,h,h'=>by obtain⟨v,r,rfl,e,t⟩:=fL.da.mp h;exact fL.cons e (t.append h')
theorem fL.set:∀{a:List MV}{b:List V}{i:Nat}{x:MV}{v:V},fL K G as a b->hE K G as x v->fL K G as (a.set i x) (b.set i v)
 |[],_,_,_,_,h,_=>by rw[fL.fe.mp h];exact fL.nil
 |_::_,_,i,_,_,h,h'=>by
  obtain⟨v,r,rfl,c,t⟩:=fL.da.mp h;cases i with
  |zero=>exact fL.cons h' t
  |succ i=>exact fL.cons c (t.set h')
theorem fL.dropLast:∀{a:List MV}{b:List V},fL K G as a b->fL K G as a.dropLast b.dropLast
 |[],_,h=>by rw[fL.fe.mp h];exact fL.nil
 |[_],_,h=>by obtain⟨v,r,rfl,c,t⟩:=fL.da.mp h;rw[fL.fe.mp t];exact fL.nil
 |_::_::_,_,h=>by obtain⟨v,r,rfl,c,t⟩:=fL.da.mp h;obtain⟨e,g,rfl,d,f⟩:=fL.da.mp t;exact fL.cons c (fL.dropLast t)
def lZ(K:Fg)(G:Hp)(c:AL){κ:Type}(b:List (κ×MV))(a:List (κ×V)):Prop:=a.map (·.1)=b.map (·.1)/\fL K G c (b.map (·.2)) (a.map (·.2))
theorem lZ.mono{κ:Type}{b:List (κ×MV)}{a:List (κ×V)}(e:Am K G G')(x:pG as Gu)(h:lZ K G as b a):lZ K G' Gu b a:=⟨h.1,h.2.mono e x⟩
theorem lZ.nil{κ:Type}:lZ K G as ([]:List (κ×MV)) []:=⟨rfl,fL.nil⟩
theorem lZ.cases{κ:Type}{k:κ}{x:MV}{c:List (κ×MV)}{b:List (κ×V)}(h:lZ K G as ((k,x)::c) b):∃v r,b=(k,v)::r/\hE K G as x v/\lZ K G as c r:=by
 obtain⟨a,d⟩:=h;cases b with
 |nil=>cases a
 |cons y r=>obtain⟨j,v⟩:=y;obtain⟨f,g,e,i,t⟩:=fL.da.mp d;simp at a e;obtain⟨rfl,a⟩:=a;obtain⟨rfl,rfl⟩:=e;exact⟨v,r,rfl,i,a,t⟩
theorem lZ.cons{κ:Type}{k:κ}{x:MV}{v:V}{b:List (κ×MV)}{a:List (κ×V)}(i:hE K G as x v)(h:lZ K G as b a):lZ K G as ((k,x)::b) ((k,v)::a):=⟨by simp[h.1],fL.cons i h.2⟩
def lZ.C0{κ:Type}{a:List (κ×V)}(h:lZ K G as ([]:List (κ×MV)) a):a=[]:=by simpa using h.1
theorem lZ.length{κ:Type}{b:List (κ×MV)}{a:List (κ×V)}(h:lZ K G as b a):b.length=a.length:=by simpa using (bL List.length h.1).symm
def pW(f:Str):List (Str×MV)->Option MV
 |[]=>Z
 | (g,x)::r=>if g=f then Y x else pW f r
def EZ(f:Str)(y:MV):List (Str×MV)->List (Str×MV)
 |[]=>[(f,y)]
 | (g,x)::r=>if g=f then (g,y)::r else (g,x)::EZ f y r
theorem lZ.look{f:Str}{x:MV}:∀{d:List (Str×MV)}{c:List (Str×V)},lZ K G as d c->pW f d=Y x->∃v,c.lookup f=Y v/\hE K G as x v
 |[],_,_,e=>by cases e
 | (g,y)::r,_,h,e=>by
  obtain⟨v,j,rfl,i,t⟩:=h.cases;by_cases q:g=f
  ·simp only[pW,ah q] at e;cases e;exact⟨v,by rw[aY,cu.mpr q.symm],i⟩
  ·simp only[pW,ai q] at e;obtain⟨u,a,b⟩:=t.look e;exact⟨u,by rw[aY,aU.mpr (λz=>q z.symm)];exact a,b⟩
theorem lZ.put{f:Str}{y:MV}{u:V}(i:hE K G as y u):∀{b:List (Str×MV)}{a:List (Str×V)},lZ K G as b a->lZ K G as (EZ f y b) (mf f u a)
 |[],_,h=>by rw[h.C0];exact lZ.cons i lZ.nil
 | (g,x)::r,_,h=>by
  obtain⟨v,d,rfl,c,t⟩:=h.cases;unfold EZ mf;by_cases q:g=f
  ·rw[ah q,ah q];exact lZ.cons i t
  ·rw[ai q,ai q];exact lZ.cons c (t.put i)
def tf(k:Key)(a:List (Key×MV)):Option MV:=(a.find? λb=>decide (b.1=k)).map (·.2)
def wG(k:Key)(v:MV)(a:List (Key×MV)):List (Key×MV) :=
 if (a.any λb=>decide (b.1=k))=true then a.map (λb=>if b.1=k then (b.1,v) else b) else a++[(k,v)]
def yO(k:Key)(a:List (Key×MV)):List (Key×MV):=a.filter λb=>decide (b.1≠k)
theorem lZ.val{k:Key}:∀{d:List (Key×MV)}{f:List (Key×V)},lZ K G as d f->(tf k d=Z/\mJ f k=Z)\/∃x v,tf k d=Y x/\mJ f k=Y v/\hE K G as x v
 |[],_,h=>by rw[h.C0];exact .inl ⟨rfl,rfl⟩
 | (y,x)::r,_,h=>by
  obtain⟨v,l,rfl,i,t⟩:=h.cases;by_cases e:y=k
  ·exact .inr ⟨x,v,by simp[tf,e],by simp[mJ,e],i⟩
  ·rcases lZ.val (k:=k) t with ⟨a,b⟩ | ⟨g,j,a,b,c⟩
   ·exact .inl ⟨by simpa [tf,e] using a,by simpa [mJ,e] using b⟩
   ·exact .inr ⟨g,j,by simpa [tf,e] using a,by simpa [mJ,e] using b,c⟩
theorem lZ.any{k:Key}:∀{a:List (Key×MV)}{b:List (Key×V)},lZ K G as a b->(b.any λx=>decide (x.1=k))=a.any λx=>decide (x.1=k)
 |[],_,h=>by rw[h.C0];rfl
 | (y,x)::r,_,h=>by obtain⟨v,c,rfl,i,t⟩:=h.cases;simp only[bz,t.any]
theorem lZ.snoc{κ:Type}{k:κ}{y:MV}{u:V}(i:hE K G as y u):∀{a:List (κ×MV)}{b:List (κ×V)},lZ K G as a b->lZ K G as (a++[(k,y)]) (b++[(k,u)])
 |[],_,h=>by rw[h.C0];exact lZ.cons i lZ.nil
 | (_,_)::_,_,h=>by obtain⟨v,d,rfl,c,t⟩:=h.cases;exact lZ.cons c (t.snoc i)
theorem lZ.Vq{k:Key}{y:MV}{u:V}(i:hE K G as y u):∀{a:List (Key×MV)}{b:List (Key×V)},lZ K G as a b->lZ K G as (a.map λx=>if x.1=k then (x.1,y) else x) (b.map λx=>if x.1=k then (x.1,u) else x)
 |[],_,h=>by rw[h.C0];exact lZ.nil
 | (z,_)::_,_,h=>by
  obtain⟨v,d,rfl,c,t⟩:=h.cases;simp only[af];by_cases e:z=k
  ·simp only[ah e];exact lZ.cons i (t.Vq i)
  ·simp only[ai e];exact lZ.cons c (t.Vq i)
theorem lZ.putK{k:Key}{y:MV}{u:V}{a:List (Key×MV)}{b:List (Key×V)}(i:hE K G as y u)(h:lZ K G as a b):lZ K G as (wG k y a) (L2.putK b k u):=by
 unfold wG L2.putK;rw[h.any];split
 ·exact h.Vq i
 ·exact h.snoc i
theorem lZ.drop{k:Key}:∀{a:List (Key×MV)}{b:List (Key×V)},lZ K G as a b->lZ K G as (yO k a) (yj b k)
 |[],_,h=>by rw[h.C0];exact lZ.nil
 | (z,_)::_,_,h=>by
  obtain⟨v,d,rfl,c,t⟩:=h.cases;unfold yO yj;by_cases e:z=k
  ·simp only[cR,e,ne_eq,not_true_eq_false,decide_false,bO,bV];exact t.drop
  ·simp only[cR,e,ne_eq,not_false_eq_true,decide_true,bD];exact lZ.cons c t.drop
def PR(K:Fg)(G:Hp)(b:AL)(a:Addr×Addr):MO->List (Addr×HO)->Prop
 |.lst xs,B=>∃d,B=[(a.1,.lst d)]/\fL K G b xs d
 |.jt kvs,B=>∃e,B=[(a.1,.dK e)]/\lZ K G b kvs e
 |.ins c fs,B=>∃C f,B=[(a.1,.ins C a.2 f),(a.2,.own a.1)]/\jC K c C/\lZ K G b fs f
 |.gone,B=>B=[]
def E1(K:Fg)(G:Hp)(b:AL):AL->MH->List (Addr×HO)->Prop
 |[],μ,B=>μ=[]/\B=[]
 |a::l,μ,B=>∃o μ' d c,μ=o::μ'/\B=d++c/\PR K G b a o d/\E1 K G b l μ' c
theorem PR.mono{a:Addr×Addr}{o:MO}{B:List (Addr×HO)}(e:Am K G G')(x:pG as Gu)(h:PR K G as a o B):PR K G' Gu a o B:=by
 cases o with
 |lst k=>obtain⟨vs,d,b⟩:=h;exact⟨vs,d,b.mono e x⟩
 |jt f=>obtain⟨g,d,b⟩:=h;exact⟨g,d,b.mono e x⟩
 |ins c l=>obtain⟨C,i,d,b,j⟩:=h;exact⟨C,i,d,b,j.mono e x⟩
 |gone=>exact h
def PR.nh{a:Addr×Addr}{o:MO}(h:PR K G as a o B):qi B:=by
 cases o with
 |lst d=>obtain⟨e,rfl,_⟩:=h;exact .one aV .nil
 |jt b=>obtain⟨f,rfl,_⟩:=h;exact .one aV .nil
 |ins c i=>obtain⟨C,g,rfl,_⟩:=h;exact .ins .nil
 |gone=>cases (show B=[] from h);exact .nil
theorem E1.mono(e:Am K G G')(x:pG as Gu):∀{l:AL}{μ:MH}{B:List (Addr×HO)},E1 K G as l μ B->E1 K G' Gu l μ B
 |[],_,_,h=>h
 |_::_,_,_,⟨o,μ',B1,B2,e1,e2,e3,t⟩=>⟨o,μ',B1,B2,e1,e2,e3.mono e x,E1.mono e x t⟩
theorem E1.nh:∀{l:AL}{μ:MH}{B:List (Addr×HO)},E1 K G as l μ B->qi B
 |[],_,_,h=>by rw[h.2];exact .nil
 |_::_,_,_,⟨o,μ',B1,B2,e1,e2,e3,t⟩=>by rw[e2];exact e3.nh.append t.nh
theorem E1.len:∀{l:AL}{μ:MH}{B:List (Addr×HO)},E1 K G as l μ B->l.length=μ.length
 |[],_,_,h=>by rw[h.1];rfl
 |_::_,_,_,⟨o,μ',B1,B2,e1,e2,e3,t⟩=>by rw[e1];simp[t.len]
theorem E1.at{o:MO}:∀{l:AL}{μ:MH}{B:List (Addr×HO)}{n:Nat},E1 K G as l μ B->μ[n]?=Y o ->
  ∃a g d f,l[n]?=Y a/\B=g++(d++f)/\qi g/\qi f/\PR K G as a o d/\∀c b,PR K G as a c b->E1 K G as l (μ.set n c) (g++(b++f))
 |[],_,_,_,h,e=>by rw[h.1] at e;cases e
 |a::l,_,_,0,⟨o1,μ',d,B2,e1,e2,e3,t⟩,e=>by subst e1 e2;cases e;exact⟨a,[],d,B2,rfl,rfl,.nil,t.nh,e3,λc b h=>⟨c,μ',b,B2,rfl,rfl,h,t⟩⟩
 |a::l,_,_,n+1,⟨o1,μ',d,B2,e1,e2,e3,t⟩,e=>by subst e1 e2;obtain⟨q,g,b,f,p,rfl,m,k,j,i⟩:=t.at (n:=n) (by simpa using e);exact⟨q,d++g,b,f,by simpa using p,by simp,e3.nh.append m,k,j,λc B h=>⟨o1,μ'.set n c,d,g++(B++f),rfl,by simp,e3,i c B h⟩⟩
theorem E1.snoc{a:Addr×Addr}{o:MO}{B':List (Addr×HO)}(b:PR K G as a o B'):∀{l:AL}{μ:MH}{B:List (Addr×HO)},E1 K G as l μ B->E1 K G as (l++[a]) (μ++[o]) (B++B')
 |[],_,_,h=>by rw[h.1,h.2];exact⟨o,[],B',[],rfl,by simp,b,rfl,rfl⟩
 |_::_,_,_,⟨o1,μ',B1,B2,e1,e2,e3,t⟩=>⟨o1,μ'++[o],B1,B2++B',by rw[e1];rfl,by rw[e2];simp,e3,t.snoc b⟩
structure jv (K:Fg) (μ:MH) (H G:Hp) (as:AL):Prop where
 ex:∃B,H=fi G B/\j6 G B/\E1 K G as as μ B
structure iG (K:Fg) (σ:St) (ρ:MR) (μ:MH) (H G:Hp) (as:AL):Prop where
 h:jv K μ H G as
 len:σ.length=ρ.length
 loc:∀(i:Nat) (x:MV),ρ[i]?=Y (Y x)->∃v,σ[i]?=Y (Y v)/\hE K G as x v
variable {μ:MH}{ρ:MR}
def jv.sub(h:jv K μ H G as):eZ G H:=by obtain⟨B,rfl,f,_⟩:=h.ex;intro b o e;rw[gf λx a z=>by have:=f.free x a;rw[z,e] at this;cases this];exact e
theorem jv.lst{n:Nat}{xs:List MV}(h:jv K μ H G as)(e:μ[n]?=Y (.lst xs)):∃a d,as[n]?=Y a/\H a.1=Y (.lst d)/\fL K G as xs d /\
  ∀c b,fL K G as c b->jv K (μ.set n (.lst c)) (upd H a.1 (.lst b)) G as:=by
 obtain⟨B,rfl,f,m⟩:=h.ex;obtain⟨a,q,r,p,o,rfl,l,k,⟨d,rfl,j⟩,g⟩:=m.at e;refine⟨a,d,o,fV f.nd (a.1,.lst d) (by simp),j,λc b i=>⟨_,n5 f.nd,f.put ?_,g (.lst c) [(a.1,.lst b)] ⟨b,rfl,i⟩⟩⟩;exact l.append (.one aV k)
theorem jv.jt{n:Nat}{kvs:List (Key×MV)}(h:jv K μ H G as)(e:μ[n]?=Y (.jt kvs)):∃a d,as[n]?=Y a/\H a.1=Y (.dK d)/\lZ K G as kvs d /\
  ∀b c,lZ K G as b c->jv K (μ.set n (.jt b)) (upd H a.1 (.dK c)) G as:=by
 obtain⟨B,rfl,f,m⟩:=h.ex;obtain⟨a,q,r,p,o,rfl,l,k,⟨d,rfl,j⟩,g⟩:=m.at e;refine⟨a,d,o,fV f.nd (a.1,.dK d) (by simp),j,λb c i=>⟨_,n5 f.nd,f.put ?_,g (.jt b) [(a.1,.dK c)] ⟨c,rfl,i⟩⟩⟩;exact l.append (.one aV k)
theorem jv.ins{n:Nat}{c:Str}{l:List (Str×MV)}(h:jv K μ H G as)(e:μ[n]?=Y (.ins c l)):∃a C g,as[n]?=Y a/\H a.1=Y (.ins C a.2 g)/\jC K c C/\lZ K G as l g /\
  ∀d b,lZ K G as d b->jv K (μ.set n (.ins c d)) (upd H a.1 (.ins C a.2 b)) G as:=by
 obtain⟨B,rfl,f,m⟩:=h.ex;obtain⟨a,t,u,s,r,rfl,q,p,⟨C,g,rfl,k,j⟩,o⟩:=m.at e;refine⟨a,C,g,r,fV f.nd (a.1,.ins C a.2 g) (by simp),k,j,λd b i=>⟨_,n5 f.nd,f.put ?_,o (.ins c d) [(a.1,.ins C a.2 b),(a.2,.own a.1)] ⟨C,b,rfl,k,i⟩⟩⟩;exact q.append (.ins p)
end
end L2
variable  {gc:L2.MR->L2.MH->Option (Bool×L2.MH)}{μ:L2.MH}
local macro_rules
| `(zd $a) => `(some (.d $a))
namespace L2
open PySem PySem.Spec PyProof.Rows
section
variable {G' H':Hp}{as Gu:AL}{μ':MH}{ρ:MR}
def jv.new{a:Addr×Addr}{o:MO}{B':List (Addr×HO)}(h:jv K μ H G as)(m:PR K G (as++[a]) a o B')(g:j6 H B'):jv K (μ++[o]) (fi H B') G (as++[a]):=by
 obtain⟨B,rfl,f,c⟩:=h.ex;have d:=f.join g;have b:(B'++B).Perm (B++B'):=bj;refine⟨⟨B++B',?_,d.perm b (c.nh.append m.nh),?_⟩⟩
 ·rw[<-jh];exact i9 d.nd b
 ·exact E1.snoc m (c.mono (eZ.refl G).sim pG.snoc)
def jv.NG(h:jv K μ H G as)(e:eZ H H'):∃b,eZ G b/\(∀a,H a=Z->b a=H' a)/\jv K μ H' b as:=by
 obtain⟨B,rfl,f,j⟩:=h.ex;obtain⟨b,l,k,i⟩:=Yf (H:=H') f.nd λx c=>e _ _ (fV f.nd x c);have g:eZ G b:=λa o q=>by
  have d:∀x∈B,x.1≠a:=λx c z=>by have:=f.free x c;rw[z,q] at this;cases this
  rw[i a d];exact e _ _ (by rw[gf d];exact q)
 exact⟨b,g,λa d=>i a λx c z=>(by have:=fV (G:=G) f.nd x c;rw[z,d] at this;cases this),⟨B,l,⟨f.nd,k,f.ok⟩,j.mono g.sim (pG.refl _)⟩⟩
def jv.grow(h:jv K μ H G as)(e:eZ H H'):∃c,eZ G c/\jv K μ H' c as:=by obtain⟨c,a,_,b⟩:=h.NG e;exact⟨c,a,b⟩
theorem iG.mono(h:iG K σ ρ μ H G as)(e:Am K G G')(x:pG as Gu)(c:jv K μ' H' G' Gu):iG K σ ρ μ' H' G' Gu :=
 ⟨c,h.len,λi y q=>by obtain⟨v,a,b⟩:=h.loc i y q;exact⟨v,a,b.mono e x⟩⟩
theorem iG.set{i:Nat}{x:MV}{v:V}(h:iG K σ ρ μ H G as)(e:hE K G as x v):iG K (σ.set i (Y v)) (ρ.set i (Y x)) μ H G as:=by
 refine⟨h.h,by simpa using h.len,λj y q=>?_⟩;by_cases c:i=j
 ·subst c;have d:i<ρ.length:=by
   have:=(ay.mp q).1;simpa using this
  rw[aH d] at q;cases q;exact⟨v,aH (by rw[h.len];exact d),e⟩
 ·rw[ax c] at q;obtain⟨u,a,b⟩:=h.loc j y q;exact⟨u,by rw[ax c];exact a,b⟩
def ia{α β:Type}(f:α->Option β):List α->Option (List β)
 |[]=>Y []
 |x::xs=>(f x).bind λy=>(ia f xs).map (y::·)
noncomputable def fg(μ:MH):Nat->MV->Od
 |0,_=>Z
 |_+1,.d x=>Y x
 |n+1,.t xs=>(ia (fg μ n) xs).map .tuple
 |n+1,.l k=>(μ[k]?).bind λo=>match o with
  |.lst xs=>(ia (fg μ n) xs).map .list
  |.jt kvs=>(ia (λq=>(fg μ n q.2).map λy=>(j8 q.1,y)) kvs).map .dict
  |.ins c fs=>(ia (λq=>(fg μ n q.2).map λy=>(eW.str q.1,y)) fs).map λr=>.dict ((.none,.str c)::r)
  |.gone=>Z
def pX(μ:MH)(ρ:MR):bb:=ρ.map λo=>o.bind (fg μ 9)
theorem vM{f:MV->Od}(c:∀m d v,f m=Y d->hE K G as m v->dy K H d v):∀{a:List MV}{g:Lp}{b:List V},ia f a=Y g->fL K G as a b->c6 K H g b
 |[],_,_,e,h=>by cases e;rw[fL.fe.mp h];exact c6.nil
 |x::a,_,_,e,h=>by obtain⟨y,l,k⟩:=bind_some e;obtain⟨n,j,rfl⟩:=aa.mp k;obtain⟨v,r,rfl,i,t⟩:=fL.da.mp h;exact c6.cons (c _ _ _ l i) (vM c j t)
theorem ox(h:jv K μ H G as):∀(n:Nat) (m:MV) (d:eW) (v:V),fg μ n m=Y d->hE K G as m v->dy K H d v
 |0,_,_,_,e,_=>by cases e
 |n+1,.d x,_,_,e,i=>by cases e;exact(hE.hI.mp i).same h.sub
 |n+1,.t xs,_,_,e,i=>by obtain⟨u,f,rfl⟩:=aa.mp e;obtain⟨p,w,rfl,b,g⟩:=hE.yN.mp i;exact dy.j9.mpr ⟨p,w,rfl,h.sub.sC b,vM (ox h n) f g⟩
 |n+1,.l k,_,_,e,i=>by
  obtain⟨a,F,rfl⟩:=hE.kU.mp i;obtain⟨o,f,b⟩:=bind_some e;cases o with
  |lst xs=>obtain⟨u,g,rfl⟩:=aa.mp b;obtain⟨N,w,j,r,q,_⟩:=h.lst f;rw[F] at j;cases j;exact dy.fG.mpr ⟨a.1,w,rfl,ng.of r,vM (ox h n) g q⟩
  |jt s=>
   obtain⟨u,g,rfl⟩:=aa.mp b;obtain⟨N,J,j,r,q,_⟩:=h.jt f;rw[F] at j;cases j;refine dy.lE.mpr ⟨a.1,rfl,.inl ⟨J,.inl r,?_⟩⟩;clear f r b e;induction s generalizing J u with
   |nil=>cases g;rw[q.C0];exact f9.fe.mpr rfl
   |cons y s D=>obtain⟨B,x⟩:=y;obtain⟨v,A,rfl,E,t⟩:=q.cases;obtain⟨z,f,b⟩:=bind_some g;obtain⟨O,Q,rfl⟩:=aa.mp b;obtain⟨R,I,rfl⟩:=aa.mp f;exact f9.da.mpr ⟨B,v,A,rfl,rfl,ox h n _ _ _ I E,by apply D<;>assumption⟩
  |ins c M=>
   obtain⟨u,g,rfl⟩:=aa.mp b;obtain⟨N,C,L,j,r,P,q,_⟩:=h.ins f;rw[F] at j;cases j;refine dy.lE.mpr ⟨a.1,rfl,.inr ⟨c,C,a.2,L,P,r,pM.da.mpr ⟨rfl,rfl,?_⟩⟩⟩;clear f r b e;induction M generalizing L u with
   |nil=>cases g;rw[q.C0];exact km.fe.mpr rfl
   |cons y M D=>obtain⟨B,x⟩:=y;obtain⟨v,A,rfl,E,t⟩:=q.cases;obtain⟨z,f,b⟩:=bind_some g;obtain⟨O,Q,rfl⟩:=aa.mp b;obtain⟨R,I,rfl⟩:=aa.mp f;exact km.da.mpr ⟨B,v,A,rfl,rfl,ox h n _ _ _ I E,by apply D<;>assumption⟩
  |gone=>cases b
def iG.view(h:iG K σ ρ μ H G as):jD K H σ (pX μ ρ):=by refine⟨by rw[h.len];simp[pX],λi d q=>?_⟩;unfold pX at q;rw[az] at q;obtain⟨o,f,e⟩:=aa.mp q;obtain⟨m,rfl,c⟩:=bind_some e;obtain⟨v,a,b⟩:=h.loc i m f;exact⟨v,a,ox h.h 9 m d v c b⟩
def Vr:eW->Bool
 |.tuple xs=>xs.all me
 |d=>me d
def vN(d:qi B){p:Addr}{o:HO}(f:j6 G B)(h:fi G B p=Y o)(g:∀xs,o≠.lst xs)(j:∀kv,o≠.dK kv)(i:∀C dx fs,o≠.ins C dx fs)(e:∀x,o≠.own x):G p=Y o:=by
 rcases oS (a:=p) B with ⟨x,b,rfl⟩|k
 ·rw[fV f.nd x b] at h;cases h;exfalso;clear f;induction d with
  |nil=>cases b
  |@one q u r l _ c=>
   rcases av.mp b with rfl|b
   ·cases u<;>first|exact g _ rfl|exact j _ rfl|exact l
   ·exact c b
  |@ins q C dx fs r _ c=>
   rcases av.mp b with rfl|b
   ·exact i _ _ _ rfl
   ·rcases av.mp b with rfl|b
    ·exact e _ rfl
    ·exact c b
 ·rw[gf k] at h;exact h
def jv.imm(h:jv K μ H G as)(b:Vr d=true)(i:dy K H d v):dy K G d v:=by
 cases d with
 |tuple g=>
  obtain⟨p,c,rfl,e1,e⟩:=i.gP;obtain⟨B,rfl,f,a⟩:=h.ex;refine dy.j9.mpr ⟨p,c,rfl,?_,e.jL b⟩;rcases e1 with (e1 | ⟨o,e1⟩)|e1
  ·exact .inl (.inl (vN a.nh f e1 (by intro _ z;cases z) (by intro _ z;cases z) (by intro _ _ _ z;cases z) (by intro _ z;cases z)))
  ·exact .inl (.inr ⟨o,vN a.nh f e1 (by intro _ z;cases z) (by intro _ z;cases z) (by intro _ _ _ z;cases z) (by intro _ z;cases z)⟩)
  ·exact .inr e1
 |_=>exact i.jL b
mutual
def qs:MV->Od
  |.d x=>Y x
  |.l _=>Z
  |.t xs=>(uI xs).map .tuple
def uI:List MV->Option Lp
  |[]=>Y []
  |x::xs=>(qs x).bind λy=>(uI xs).map (y::·)
end
mutual
theorem hE.dat:∀{m:MV}{d:eW}{v:V},qs m=Y d->hE K G as m v->dy K G d v
  |.d _,_,_,e,i=>by unfold qs at e;cases e;exact hE.hI.mp i
  |.l _,_,_,e,_=>by unfold qs at e;cases e
  |.t xs,_,_,e,i=>by
    unfold qs at e
    obtain⟨ds,e1,rfl⟩:=aa.mp e
    obtain⟨p,vs,rfl,e2,e3⟩:=hE.yN.mp i
    exact dy.j9.mpr ⟨p,vs,rfl,e2,fL.dat e1 e3⟩
theorem fL.dat:∀{ms:List MV}{ds:Lp}{vs:List V},uI ms=Y ds->fL K G as ms vs->c6 K G ds vs
  |[],_,_,e,i=>by unfold uI at e;cases e;rw[fL.fe.mp i];exact c6.nil
  |x::xs,_,_,e,i=>by
    unfold uI at e
    obtain⟨y,e1,e2⟩:=bind_some e
    obtain⟨ys,e3,rfl⟩:=aa.mp e2
    obtain⟨v,r,rfl,i1,t⟩:=fL.da.mp i
    exact c6.cons (hE.dat e1 i1) (fL.dat e3 t)
end
def uJ(ρ:MR):bb:=ρ.map λo=>o.bind qs
theorem iG.dat(h:iG K σ ρ μ H G as):jD K G σ (uJ ρ):=by refine⟨by rw[h.len];simp[uJ],λi d q=>?_⟩;unfold uJ at q;rw[az] at q;obtain⟨o,f,e⟩:=aa.mp q;obtain⟨m,rfl,c⟩:=bind_some e;obtain⟨v,a,b⟩:=h.loc i m f;exact⟨v,a,hE.dat c b⟩
end
abbrev MF:=MR->MH->Option (MV×MH)
def KM(K:Fg)(σ:St)(ρ:MR)(G:Hp)(d:AL)(μ':MH)(v:MV)(Q:VK):Prop:=∀u c b a,eZ G b->pG d a->iG K σ ρ μ' c b a->hE K b a v u->Q u c
def PM(X:Cx)(e:Expr)(f:MF):Prop:=PE X e (λσ H Q=>∃ρ μ v μ' G as,iG X.K σ ρ μ H G as/\f ρ μ=Y (v,μ')/\KM X.K σ ρ G as μ' v Q)
def Q8(X:Cx)(g:Lx)(f:MR->MH->Option (List MV×MH)):Prop:=PA X g (λσ H Q=>∃ρ μ vs μ' G d,iG X.K σ ρ μ H G d/\f ρ μ=Y (vs,μ') /\
 ∀c e b a,eZ G b->pG d a->iG X.K σ ρ μ' e b a->fL X.K b a vs c->Q c e)
def Q9(X:Cx)(e:Expr)(f:MR->MH->Option (Bool×MH)):Prop:=PT X e (λσ H Q=>∃ρ μ b μ' G c,iG X.K σ ρ μ H G c/\f ρ μ=Y (b,μ')/\∀d g a,eZ G g->pG c a->iG X.K σ ρ μ' d g a->Q b d)
section
variable {a c:Expr}{fb fc:bb->Od}{ma mb mc m:MF}{ff:MR->MH->Option (List MV×MH)}{ep apos gd:Pos}{gc:bb->Option Bool}
def KM.later{ρ:MR}{d:Hp}{c a:AL}{μ':MH}{v:MV}{Q:VK}(k:KM K σ ρ G c μ' v Q)(e:eZ G d)(x:pG c a):KM K σ ρ d a μ' v Q:=λu f g b s y h i=>k u f g b (e.trans s) (x.trans y) h i
noncomputable def cn(i:Nat):MF:=λρ μ=>(ρ[i]?).join.map λv=>(v,μ)
def bS(i:Nat)(h:X.N[i]?=Y x:=by rfl)(f:LZ X.env.scope x:=by first|exact b5 rfl|exact bN (b5 rfl)|exact bN (bN rfl))(g:zg x:=by decide)(a:(x==("__classdict__":Str))=false:=by decide):PM X (.Name x pos) (cn i) :=
 PE.imp (qT h f g a) <| by rintro σ H Q ⟨ρ,μ,v,μ',G,n,b,e,k⟩;obtain⟨m,l,j⟩:=aa.mp e;cases j;obtain⟨u,d,c⟩:=b.loc i v (join_some l);exact⟨u,d,k u H G n (.refl _) (.refl _) b c⟩
noncomputable def fF(f:bb->Od):MF:=λρ μ=>(f (uJ ρ)).map λd=>(.d d,μ)
def fA(h:PD X e f):PM X e (fF f) :=
 PE.imp (PE.frame h) <| by rintro σ H Q ⟨ρ,μ,v,μ',G,o,b,e,k⟩;obtain⟨d,n,m⟩:=aa.mp e;cases m;obtain⟨B,l,j,g⟩:=b.h.ex;exact⟨G,B,l,j,uJ ρ,d,b.dat,n,λu p a i c=>k u _ p o a (.refl _) (b.mono a.sim (.refl _) ⟨B,rfl,c,g.mono a.sim (.refl _)⟩) (hE.hI.mpr i)⟩
def lp(f:bb->Od):MF:=λρ μ=>(f (pX μ ρ)).bind λd=>if Vr d=true then Y (.d d,μ) else Z
def sf(h:PD X e f):PM X e (lp f) :=
 PE.imp h <| by
  rintro σ H Q ⟨ρ,μ,v,μ',G,n,b,e,k⟩;obtain⟨d,m,a⟩:=bind_some e;by_cases c:Vr d=true
  ·rw[ah c] at a;cases a;refine⟨pX μ ρ,d,b.view,m,λu o l i=>?_⟩;obtain⟨p,g,j⟩:=b.h.grow l;exact k u o p n g (.refl _) (b.mono g.sim (.refl _) j) (hE.hI.mpr (j.imm c i))
  ·rw[ai c] at a;cases a
def gk(g:bb->Option Bool):MR->MH->Option (Bool×MH):=λρ μ=>(g (pX μ ρ)).map λb=>(b,μ)
def gs(h:Bi X e gc):Q9 X e (gk gc) :=
 PT.imp h <| by rintro σ H Q ⟨ρ,μ,b,μ',G,l,a,e,k⟩;obtain⟨d,j,i⟩:=aa.mp e;cases i;refine⟨pX μ ρ,b,a.view,j,λm f=>?_⟩;obtain⟨n,c,g⟩:=a.h.grow f;exact k m n l c (.refl _) (a.mono c.sim (.refl _) g)
noncomputable def gm(c n:Str)(m:MF):MF:=λρ μ=>(m ρ μ).bind λr=>match r.1 with
 |.l k=>(r.2[k]?).bind λo=>match o with
  |.ins a fs=>if a=c then (pW n fs).map λv=>(v,r.2) else Z
  |_=>Z
 |_=>Z
def gn{c n:Str}(I:fT X.K c n)(E:PM X e m)(F:attributeBase e n X.env (eval e X.env)=eval e X.env:=by rfl):PM X (.Attribute e n pos) (gm c n m) :=
 PE.imp (Cj E F) <| by
  rintro σ H Q ⟨ρ,μ,v,μ',G,V,D,e,k⟩;obtain⟨⟨x,μ1⟩,T,o⟩:=bind_some e;cases x with
  |l j=>
   obtain⟨z,S,b⟩:=bind_some o;cases z with
   |ins U fs=>
    dsimp only at b;by_cases d:U=c
    ·rw[ah d] at b;subst d;obtain⟨y,R,P⟩:=aa.mp b;cases P;refine⟨ρ,μ,_,_,G,V,D,T,λu W G1 f q p i B=>?_⟩;obtain⟨a,O,rfl⟩:=hE.kU.mp B;obtain⟨a',C,N,g,t,r,s,_⟩:=i.h.ins S;rw[O] at g;cases g;obtain⟨C',M,L,J⟩:=I;have:=r.uniq M;subst this;obtain⟨w,l,A⟩:=s.look R;exact⟨a.1,C,a.2,N,w,rfl,t,L,J,l,k w W G1 f q p i A⟩
    ·rw[ai d] at b;cases b
   |_=>cases b
  |_=>cases o
def qB(a:Lr)(n:Str)(m:MF):MF:=λρ μ=>(m ρ μ).bind λr=>(qs r.1).bind λd=>(gG a n d).map λx=>(.d x,r.2)
def uK{cs:Lr}{n:Str}(D:∀c∈cs,fT X.K c n)(A:PM X e m)(B:attributeBase e n X.env (eval e X.env)=eval e X.env:=by rfl):PM X (.Attribute e n pos) (qB cs n m) :=
 PE.imp (Cj A B) <| by
  rintro σ H Q ⟨ρ,μ,v,μ',G,U,z,e,k⟩;obtain⟨⟨x,μ1⟩,S,R⟩:=bind_some e;obtain⟨d,P,O⟩:=bind_some R;obtain⟨y,a,N⟩:=aa.mp O;cases N;refine⟨ρ,μ,_,_,G,U,z,S,λu V W g o j i t=>?_⟩;have s:=hE.dat P t;unfold gG at a;split at a
  ·rename_i c r;by_cases b:c∈cs
   ·rw[ah b] at a;obtain⟨p,C,T,M,rfl,f,F,E⟩:=s.Ha;obtain⟨C',L,J,I⟩:=D c b;have:=f.uniq L;subst this;obtain⟨w,l,q⟩:=E.get a;exact⟨p,C,T,M,w,rfl,i.h.sub _ _ F,J,I,l,k w V W g o j i (hE.hI.mpr q)⟩
   ·rw[ai b] at a;cases a
  ·cases a
end
abbrev mP:=List MV->MH->Option (MV×MH)
def WV(K:Fg)(n:Nat)(F:mP):Sp:=λf H Q _=>∃b μ r μ' G c,fL K G c b f/\b.length=n/\jv K μ H G c/\F b μ=Y (r,μ')/\∀u e d a,eZ G d->pG c a->jv K μ' e d a->hE K d a r u->Q u e
structure nQ (P:Program) (w:World) (K:Fg) (mg:Str->Ow) (base:Heap) (x:Str) (k n:Nat) (F:mP):Prop where
 ex:∃a fd ps,k7 P w K mg base vo k a fd ps (WV K n F)/\mg x=Y (.ref a)/\W.keepIn K (.ref a)=true/\kQ K fd ps []
structure uL (P:Program) (w:World) (K:Fg) (mg:Str->Ow) (base:Heap) (c:Str) (k n:Nat) (F:mP):Prop where
 ex:∃C a fd ps,jC K c C/\mg c=Y (.ref C)/\Mk K C a/\k7 P w K mg base vo k a fd ps (WV K n F)/\kQ K fd ps []
structure ti (P:Program) (w:World) (K:Fg) (mg:Str->Ow) (base:Heap) (c m:Str) (k n:Nat) (F:mP):Prop where
 ex:∃C a fd ps,jC K c C/\GJ K C/\GK K C m a/\k7 P w K mg base vo k a fd ps (WV K n F)/\kQ K fd ps []
section
variable {a c:Expr}{fb fc:bb->Od}{ma mb mc m:MF}{ff:MR->MH->Option (List MV×MH)}{ep apos gd:Pos}{gc:bb->Option Bool}{j k:Nat}{F:mP}
abbrev Ah:=MR->MH->Option (List MV×MH)
def eX:Ah:=λ_ μ=>Y ([],μ)
def gZ:Q8 X [] eX:=PA.imp qf <| by rintro σ H Q ⟨ρ,μ,c,μ',G,b,a,e,k⟩;cases e;exact k [] H G b (.refl _) (.refl _) a fL.nil
def c5(m:MF)(a:Ah):Ah:=λρ μ=>(m ρ μ).bind λr=>(a ρ r.2).map λq=>(r.1::q.1,q.2)
def ft(p:PM X e m)(o:Q8 X es ff)(n:zE e es X:=by rfl):Q8 X (e::es) (c5 m ff) :=
 PA.imp (lC p o n) <| by rintro σ H Q ⟨ρ,μ,D,μ',G,y,l,e,k⟩;obtain⟨⟨x,μ1⟩,w,v⟩:=bind_some e;obtain⟨⟨C,μ2⟩,t,s⟩:=aa.mp v;cases s;exact⟨ρ,μ,_,_,G,y,l,w,λu E B b h f r j=>⟨ρ,μ1,_,_,B,b,r,t,λg z A a d c q i=>k (u::g) z A a (h.trans d) (f.trans c) q (fL.cons (j.mono d.sim c) i)⟩⟩
def Hu{ρ:MR}{μ':MH}{b:AL}{a:List MV}{v:MV}{Q:VK}{E:XK}(h:iG K σ ρ μ H G b)(i:fL K G b a vs)(j:a.length=n)(e:F a μ=Y (v,μ'))(k:KM K σ ρ G b μ' v Q):WV K n F vs H Q E :=
 ⟨a,μ,v,μ',G,b,i,j,h.h,e,λu m o c f d l g=>k u m o c f d (h.mono f.sim d l) g⟩
def Hv(n:Nat)(F:mP)(a:Ah):MF:=λρ μ=>(a ρ μ).bind λr=>if r.1.length=n then F r.1 r.2 else Z
def sg(N:nQ X.prog X.w X.K X.mg X.base x j n F) (o:iO k X.A) (t:Gl X x) (z:Q8 X (e::es) ff) (s:j<=k:=by decide) (f:zg x:=by decide)
  (u:zE e es X:=by rfl) (c:(backTo pos (starEach es X.env)).any (·.1)=false:=by rfl):PM X (.Call (.Name x p) (e::es) [] pos) (Hv n F ff):=by
 obtain⟨a,M,L,I,q,r,y⟩:=N.ex;refine PE.imp (xH (I.mono s) o t q r y .nil oa z f u c) ?_;rintro σ H Q ⟨ρ,μ,v,μ',G,E,m,e,k⟩;obtain⟨⟨g,μ1⟩,C,b⟩:=bind_some e;by_cases d:g.length=n
 ·simp only[ah d] at b;exact⟨ρ,μ,g,μ1,G,E,m,C,λJ O P D i h B l=>Hu B (by rw[aL];exact l) d b (k.later i h)⟩
 ·simp only[ai d] at b;cases b
def uM(c a:Str)(μ:MH):MV->Bool
 |.l k=>match μ[k]? with
  |some (.ins c' fs)=>decide (c'=c)&&(pW a fs).isNone
  |_=>false
 |_=>false
def E2{s:AL}{c f:Str}{r:MV}(h:uM c f μ r=true)(B:jv K μ H G s)(i:hE K G s r v):∃p C E b,v=.ref p/\jC K c C/\H p=Y (.ins C E b)/\b.lookup f=Z:=by
 cases r with
 |l k=>
  unfold uM at h;dsimp only at h;split at h
  ·rename_i J b e;simp only[b9,cM,d9] at h;obtain⟨rfl,d⟩:=h;obtain⟨a,D,rfl⟩:=hE.kU.mp i;obtain⟨L,C,o,n,m,u,j,_⟩:=B.ins e;rw[D] at n;cases n;refine⟨a.1,C,a.2,o,rfl,u,m,?_⟩;clear e m;induction b generalizing o with
   |nil=>rw[j.C0];rfl
   |cons y b A=>
    obtain⟨g,x⟩:=y;obtain⟨w,F,rfl,I,t⟩:=j.cases;by_cases q:g=f
    ·simp only[pW,ah q] at d;cases d
    ·simp only[pW,ai q] at d;rw[aY,aU.mpr (λz=>q z.symm)];exact A d _ t
  ·cases h
 |_=>cases h
noncomputable def gN(c mn:Str)(n:Nat)(F:mP)(m:MF)(a:Ah):MF:=λρ μ=>(m ρ μ).bind λr=>if uM c mn r.2 r.1=true then (a ρ r.2).bind λq=>if q.1.length+1=n then F (r.1::q.1) q.2 else Z else Z
def uN{t c:Str}{pl:Sem Bool} (N:ti X.prog X.w X.K X.mg X.base t c j n F) (V:PM X o m) (U:iO k X.A) (ha:Q8 X (e::es) ff) (hj:j<=k:=by decide)
  (l:zE e es X:=by rfl) (q:(backTo pos (starEach es X.env)).any (·.1)=false:=by rfl)
  (T:eval (.Call (.Attribute o c apos) (e::es) [] pos) X.env=(do
   let ov <-eval o X.env
   standAt apos.atName
   let (f,first) <-holding [ov] (getMethod ov c pl)
   callWith pos f first (backTo pos (starEach (e::es) X.env)) (backToKw pos (keywordEach [] X.env))):=by rfl):PM X (.Call (.Attribute o c apos) (e::es) [] pos) (gN t c n F m ff):=by
 obtain⟨C,a,fd,ps,hC,s,W,Fn,b⟩:=N.ex;refine PE.imp (Cm (pl:=pl) V s W (Fn.mono hj) U b .nil oa ha l q T) ?_;rintro σ H Q ⟨ρ,μ,v,μ',G,as,S,e,k⟩;obtain⟨⟨x,μ1⟩,e1,g⟩:=bind_some e;by_cases i:uM t c μ1 x=true
 ·simp only[ah i] at g;obtain⟨⟨P,μ2⟩,e3,d⟩:=bind_some g;by_cases r:P.length+1=n
  ·simp only[ah r] at d;refine⟨ρ,μ,_,_,G,as,S,e1,λu H1 G1 y J I E D=>?_⟩;obtain⟨p,C',dx,fs,rfl,O,M,L⟩:=E2 i E.h D;have:=O.uniq hC;subst this;exact⟨p,dx,fs,rfl,M,L,ρ,μ1,_,_,G1,y,E,e3,λus H2 G2 as2 B z h2 R=>Hu h2 (by rw[aL];exact fL.cons (D.mono B.sim z) R) (by simpa using r) d (k.later (J.trans B) (I.trans z))⟩
  ·simp only[ai r] at d;cases d
 ·simp only[ai i] at g;cases g
def mQ{s c:Str}{pl:Sem Bool} (N:ti X.prog X.w X.K X.mg X.base s c j n F) (T:PM X o m) (S:iO k X.A) (V:j<=k:=by decide)
  (R:eval (.Call (.Attribute o c apos) [] [] pos) X.env=(do
   let ov <-eval o X.env
   standAt apos.atName
   let (f,first) <-holding [ov] (getMethod ov c pl)
   callWith pos f first (backTo pos (starEach [] X.env)) (backToKw pos (keywordEach [] X.env))):=by rfl):PM X (.Call (.Attribute o c apos) [] [] pos) (gN s c n F m eX):=by
 obtain⟨C,a,fd,ps,W,q,U,Fn,b⟩:=N.ex;refine PE.imp (Eh (pl:=pl) T q U (Fn.mono V) S b .nil oa R) ?_;rintro σ H Q ⟨ρ,μ,v,μ',G,as,P,e,k⟩;obtain⟨⟨x,μ1⟩,e1,g⟩:=bind_some e;by_cases i:uM s c μ1 x=true
 ·simp only[ah i] at g;obtain⟨⟨ms,μ2⟩,e3,d⟩:=bind_some g;cases e3;by_cases l:([]:List MV).length+1=n
  ·simp only[ah l] at d;refine⟨ρ,μ,_,_,G,as,P,e1,λu H1 G1 t I E r D=>?_⟩;obtain⟨p,C',dx,fs,rfl,M,L,J⟩:=E2 i r.h D;have:=M.uniq W;subst this;exact⟨p,dx,fs,rfl,L,J,[x],μ1,v,μ',G1,t,fL.cons D fL.nil,by simpa using l,r.h,d,λu H' G' y B z h' O=>k u H' G' y (I.trans B) (E.trans z) (r.mono B.sim z h') O⟩
  ·simp only[ai l] at d;cases d
 ·simp only[ai i] at g;cases g
def rm(c:Str)(n:Nat)(F:mP)(a:Ah):MF:=λρ μ=>(a ρ μ).bind λr=>if r.1.length+1=n then (F (.l r.2.length::r.1) (r.2++[.ins c []])).bind λq=>match q.1 with | .d .none=>Y (.l r.2.length,q.2)|_=>Z else Z
def NH{A:Str}{C:Addr} (P:jC K A C) {ρ:MR}{μ':MH}{c:AL}{m:List MV}{v:MV}{Q:VK}{E:XK} (s:iG K σ ρ μ H G c) (i:fL K G c m vs) (O:m.length+1=n)
  (e:((F (.l μ.length::m) (μ++[.ins A []])).bind λq=>match q.1 with | .d .none=>Y (MV.l μ.length,q.2)|_=>Z)=Y (v,μ')) (k:KM K σ ρ G c μ' v Q):
  ∀x b,H x=Z->H b=Z->b≠x->WV K n F (.ref x::(vs++[])) (upd (upd H b (.own x)) x (.ins C b [])) (λv H2=>v=.lB/\Q (.ref x) H2) E:=by
 intro x b M w t;obtain⟨⟨r,μ1⟩,T,z⟩:=bind_some e;have S:r=.d .none/\v=.l μ.length/\μ'=μ1:=by
  rcases r with r|_|_<;>try (cases z;done)
  cases r<;>first|(cases z;done)|skip
  cases z;exact⟨rfl,rfl,rfl⟩
 obtain⟨rfl,rfl,rfl⟩:=S;have f:c.length=μ.length:=by obtain⟨B,_,_,J⟩:=s.h.ex;exact J.len
 have N:=s.h.new (a:=(x,b)) (o:=.ins A []) (B':=[(x,.ins C b []),(b,.own x)]) ⟨C,[],rfl,P,lZ.nil⟩ ⟨by simp[Ne.symm t],λy p=>by
  rcases av.mp p with e|p
  ·rw[e];exact M
  ·have:y=(b,HO.own x):=by simpa using p
   rw[this];exact w,.ins .nil⟩
 have g:(c++[(x,b)])[μ.length]?=Y (x,b):=by rw[<-f];simp
 refine⟨_,_,_,_,G,c++[(x,b)],fL.cons (hE.kU.mpr ⟨(x,b),g,rfl⟩) (by rw[aL];exact i.mono (eZ.refl G).sim pG.snoc),by simpa using O,N,T,λu U V D I j R L=>⟨dy.gU.mp (hE.hI.mp L),?_⟩⟩;exact k _ U V D I (pG.snoc.trans j) (s.mono I.sim (pG.snoc.trans j) R) (hE.kU.mpr ⟨(x,b),j _ _ g,rfl⟩)
def xP{c:Str} (N:uL X.prog X.w X.K X.mg X.base c j n F) (s:iO (k+1) X.A) (u:Gl X c) (y:Q8 X (e::es) ff) (t:j<=k:=by decide) (h:zg c:=by decide)
  (x:zE e es X:=by rfl) (f:(backTo pos (starEach es X.env)).any (·.1)=false:=by rfl):PM X (.Call (.Name c p) (e::es) [] pos) (rm c n F ff):=by
 obtain⟨C,a,P,O,z,o,M,J,b⟩:=N.ex;refine PE.imp (Cn M (J.mono t) s u o b .nil oa y h x f) ?_;rintro σ H Q ⟨ρ,μ,v,μ',G,I,r,e,k⟩;obtain⟨⟨i,μ1⟩,D,d⟩:=bind_some e;by_cases g:i.length+1=n
 ·simp only[ah g] at d;exact⟨ρ,μ,i,μ1,G,I,r,D,λL R S E m l B q=>NH z B q g d (k.later m l)⟩
 ·simp only[ai g] at d;cases d
def oy:MF:=λ_ μ=>Y (.l μ.length,μ++[.lst []])
def nR:PM X (.List [] pos) oy :=
 PE.imp (GP gZ) <| by
  rintro σ H Q ⟨ρ,μ,v,μ',G,s,n,e,k⟩;cases e;refine⟨ρ,μ,[],μ,G,s,n,rfl,λt u g d j i c m=>?_⟩;rw[fL.fe.mp m];refine⟨cB _,λq p=>?_⟩;have b:d.length=μ.length:=by obtain⟨B,_,_,l⟩:=c.h.ex;exact l.len
  have r:=c.h.new (a:=(q,q)) (o:=.lst []) (B':=[(q,.lst [])]) ⟨[],rfl,fL.nil⟩ ⟨by simp,(λy f=>by simp at f;subst f;exact p),.one aV .nil⟩;exact k _ _ g _ j (i.trans pG.snoc) (c.mono (eZ.refl g).sim pG.snoc r) (hE.kU.mpr ⟨(q,q),by rw[<-b];simp,rfl⟩)
def nJ:MF:=λ_ μ=>Y (.l μ.length,μ++[.jt []])
def nS:PM X (.Dict [] [] pos) nJ :=
 PE.imp Et <| by
  rintro σ H Q ⟨ρ,μ,v,μ',G,j,c,e,k⟩;cases e;intro q g;have b:j.length=μ.length:=by obtain⟨B,_,_,f⟩:=c.h.ex;exact f.len
  have i:=c.h.new (a:=(q,q)) (o:=.jt []) (B':=[(q,.dK [])]) ⟨[],rfl,lZ.nil⟩ ⟨by simp,(λy d=>by simp at d;subst d;exact g),.one aV .nil⟩;exact k _ _ G _ (.refl _) pG.snoc (c.mono (eZ.refl G).sim pG.snoc i) (hE.kU.mpr ⟨(q,q),by rw[<-b];simp,rfl⟩)
def Vs(a:Ah):MF:=λρ μ=>(a ρ μ).bind λr=>if r.1.length<=sizeLine then Y (.t r.1,r.2) else Z
def NI{x1}(h:Q8 X es ff):PM X (.Tuple es x1 pos) (Vs ff) :=
 PE.imp (Mt h) <| by
  rintro σ H Q ⟨ρ,μ,v,μ',G,y,s,e,k⟩;obtain⟨⟨i,μ1⟩,x,a⟩:=bind_some e;by_cases d:i.length<=sizeLine
  ·simp only[ah d] at a;cases a;refine⟨ρ,μ,i,_,G,y,s,x,λb A C g p x1 m j=>⟨by rw[<-j.length];exact d,λq t=>?_⟩⟩;obtain⟨n,c,l⟩:=m.h.grow (ka (o:=.tup b) t);have u:n q=Y (.tup b):=by
    obtain⟨B,w,f,r⟩:=l.ex;exact vN r.nh f (by rw[<-w];exact fx) (by intro _ z;cases z) (by intro _ z;cases z) (by intro _ _ _ z;cases z) (by intro _ z;cases z)
   exact k _ _ n g (p.trans c) x1 (m.mono c.sim (.refl _) l) (hE.yN.mpr ⟨q,b,rfl,.inl (.inl u),j.mono c.sim (.refl _)⟩)
  ·simp only[ai d] at a;cases a
end
inductive Ra where
 |nx (ρ:MR) (μ:MH)
 |rt (v:MV) (μ:MH)
 |bk (ρ:MR) (μ:MH)
 |ct (ρ:MR) (μ:MH)
abbrev MS:=MR->MH->Option Ra
def NJ(K:Fg)(G:Hp)(d:AL)(D:Aj):Ra->Prop
 |.nx ρ μ=>∀σ c b a,eZ G b->pG d a->iG K σ ρ μ c b a->D.nx σ c
 |.bk ρ μ=>∀σ c b a,eZ G b->pG d a->iG K σ ρ μ c b a->D.bk σ c
 |.ct ρ μ=>∀σ c b a,eZ G b->pG d a->iG K σ ρ μ c b a->D.ct σ c
 |.rt v μ=>∀u c b a,eZ G b->pG d a->jv K μ c b a->hE K b a v u->D.rt u c
def NJ.later{k:Hp}{j g:AL}{D:Aj}(e:eZ G k)(x:pG j g):∀{o:Ra},NJ K G j D o->NJ K k g D o
 |.nx _ _,h=>λσ d f a c b q=>h σ d f a (e.trans c) (x.trans b) q
 |.bk _ _,h=>λσ d f a c b q=>h σ d f a (e.trans c) (x.trans b) q
 |.ct _ _,h=>λσ d f a c b q=>h σ d f a (e.trans c) (x.trans b) q
 |.rt _ _,h=>λu d f a c b q i=>h u d f a (e.trans c) (x.trans b) q i
def tU(K:Fg)(g:MS):TS:=λD σ H=>∃ρ μ o G a,iG K σ ρ μ H G a/\g ρ μ=Y o/\NJ K G a D o
def PU(X:Cx)(a:Stmt)(g:MS):Prop:=PS X a (tU X.K g)
def KQ(X:Cx)(a:List Stmt)(g:MS):Prop:=vu X a (tU X.K g)
section
variable {a c:Expr}{fb fc:bb->Od}{ma mb mc m mo:MF}{ff:Ah}{ep apos gd:Pos}{rest:List Stmt}{g h:MS}{j k:Nat}{F:mP}
noncomputable def oO:MS:=λρ μ=>Y (.nx ρ μ)
def jW:KQ X [] oO:=vu.imp Iz <| by rintro D σ H ⟨ρ,μ,o,G,b,a,e,k⟩;cases e;exact k σ H G b (.refl _) (.refl _) a
noncomputable def fI(g h:MS):MS:=λρ μ=>(g ρ μ).bind λo=>match o with
 |.nx ρ' μ'=>h ρ' μ'
 |o=>Y o
def c0(m:PU X st g)(l:KQ X rest h):KQ X (st::rest) (fI g h) :=
 vu.imp (Ea m l) <| by
  rintro D σ H ⟨ρ,μ,o,G,p,j,e,k⟩;obtain⟨d,n,a⟩:=bind_some e;refine⟨ρ,μ,d,G,p,j,n,?_⟩;cases d with
  |nx ρ' μ'=>exact λσ' r q c i f b=>⟨ρ',μ',o,q,c,b,a,k.later i f⟩
  |rt _ _=>cases a;exact k
  |bk _ _=>cases a;exact k
  |ct _ _=>cases a;exact k
def eY(a:PU X st g):KQ X [st] g:=vu.imp (IA a) λD σ H h=>h
noncomputable def si(a:MR->MH->Option (Bool×MH))(g h:MS):MS:=λρ μ=>(a ρ μ).bind λr=>if r.1=true then g ρ r.2 else h ρ r.2
def kI{f d:List Stmt}(p:Q9 X c gc)(r:KQ X f g)(q:KQ X d h):PU X (.If c f d pos) (si gc g h) :=
 PS.imp (Mh p r q) <| by
  rintro D σ H ⟨ρ,μ,o,G,t,n,e,k⟩;obtain⟨⟨y,μ1⟩,s,l⟩:=bind_some e;refine⟨ρ,μ,y,μ1,G,t,n,s,λu m a i b j=>?_⟩;cases y with
  |true=>rw[ah rfl];exact⟨ρ,μ1,o,m,a,j,l,k.later i b⟩
  |false=>rw[ai aF];exact⟨ρ,μ1,o,m,a,j,l,k.later i b⟩
def Rb:PU X (.Pass pos) oO:=PS.imp P5 <| by rintro D σ H ⟨ρ,μ,o,G,b,a,e,k⟩;cases e;exact k σ H G b (.refl _) (.refl _) a
def E3:PU X (.Continue pos) (λρ μ=>Y (.ct ρ μ)):=PS.imp Eb <| by rintro D σ H ⟨ρ,μ,o,G,b,a,e,k⟩;cases e;exact k σ H G b (.refl _) (.refl _) a
def kN:MS:=λ_ _=>Z
def yP:PU X st kN:=PS.imp Ec <| by rintro D σ H ⟨ρ,μ,o,G,b,a,e,k⟩;cases e
def jj{l:List Stmt}:KQ X l kN:=by intro a s σ H D I ⟨ρ,μ,o,G,c,b,e,k⟩;cases e
noncomputable def hU(m:MF)(i:Nat):MS:=λρ μ=>(m ρ μ).map λr=>.nx (ρ.set i (Y r.1)) r.2
def gH(i:Nat) {a:Pos} (q:X.N.Nodup) (p:PM X e m) (l:X.N[i]?=Y x:=by rfl) (g:Iv X.env.scope x:=by first|exact b5 rfl|exact bN rfl) (j:swapsWith e (Y (.Name x a)) pos.line X.env=pure false:=by rfl)
  (n:X.fn x=true\/X.env.scope.names.lookup x=Y .local:=by first|exact .inl rfl|exact .inr rfl|assumption):PU X (.Assign [.Name x a] e pos) (hU m i) :=
 PS.imp (Gy q l g p j n) <| by rintro D σ H ⟨ρ,μ,o,G,t,h,e,k⟩;obtain⟨⟨v,μ1⟩,s,rfl⟩:=aa.mp e;exact⟨ρ,μ,v,μ1,G,t,h,s,λu w y b d c r f=>k _ w y b d c (r.set f)⟩
def ij(m:MF):MS:=λρ μ=>(m ρ μ).map λr=>.nx ρ r.2
def iH(h:PM X e m)(f:swapsWith e Z pos.line X.env=pure false:=by rfl):PU X (.Expr e pos) (ij m) :=
 PS.imp (rY h f) <| by rintro D σ H ⟨ρ,μ,o,G,j,d,e,k⟩;obtain⟨⟨v,μ1⟩,i,rfl⟩:=aa.mp e;exact⟨ρ,μ,v,μ1,G,j,d,i,λu l n a c b g p=>k _ l n a c b g⟩
def px(m:MF):MS:=λρ μ=>(m ρ μ).map λr=>.rt r.1 r.2
def nr(h:PM X e m):PU X (.Return (Y e) pos) (px m) :=
 PS.imp (vv h) <| by rintro D σ H ⟨ρ,μ,o,G,j,f,e,k⟩;obtain⟨⟨v,μ1⟩,i,rfl⟩:=aa.mp e;exact⟨ρ,μ,v,μ1,G,j,f,i,λu l n a c b g d=>k u l n a c b g.h d⟩
def Rc:PU X (.Return Z pos) (λ_ μ=>Y (.rt (.d .none) μ)):=PS.imp IB <| by rintro D σ H ⟨ρ,μ,o,G,b,a,e,k⟩;cases e;exact k .lB H G b (.refl _) (.refl _) a.h (hE.hI.mpr (dy.gU.mpr rfl))
def Hw(c n:Str)(v:MV)(r:MV)(μ:MH):Option MH:=match r with
 |.l k=>(μ[k]?).bind λo=>match o with
  |.ins a fs=>if a=c/\fs.length<1000 then Y (μ.set k (.ins c (EZ n v fs))) else Z
  |_=>Z
 |_=>Z
def Jd{c n:Str}{v r:MV}{μ':MH}{f:AL}{uv i:V}(h:Hw c n v r μ=Y μ')(x:jv K μ H G f)(u:hE K G f v uv)(w:hE K G f r i):
  ∃p C o e,i=.ref p/\H p=Y (.ins C o e)/\jC K c C/\e.length<1000/\jv K μ' (upd H p (.ins C o (mf n uv e))) G f:=by
 cases r with
 |l k=>
  obtain⟨t,A,b⟩:=bind_some h;cases t with
  |ins B e=>
   dsimp only at b;by_cases d:B=c/\e.length<1000
   ·rw[ah d] at b;cases b;obtain⟨rfl,d⟩:=d;obtain⟨a,z,rfl⟩:=hE.kU.mp w;obtain⟨D,C,y,m,s,q,j,g⟩:=x.ins A;rw[z] at m;cases m;exact⟨a.1,C,a.2,y,rfl,s,q,by rw[<-j.length];exact d,g _ _ (j.put u)⟩
   ·rw[ai d] at b;cases b
  |_=>cases b
 |_=>cases h
def ie(c n:Str)(mo m:MF):MS:=λρ μ=>(m ρ μ).bind λr=>(mo ρ r.2).bind λq=>(Hw c n r.1 q.1 q.2).map λμ'=>.nx ρ μ'
def gu{c n:Str}{a:Pos}(F:fT X.K c n)(B:PM X o mo)(E:PM X e m)(A:swapsWith e (Y (.Attribute o n a)) pos.line X.env=pure false:=by rfl):PU X (.Assign [.Attribute o n a] e pos) (ie c n mo m) :=
 PS.imp (GL B E A) <| by rintro D σ H ⟨ρ,μ,oo,G,U,z,e,k⟩;obtain⟨⟨v,μ1⟩,S,P⟩:=bind_some e;obtain⟨⟨r,μ2⟩,R,O⟩:=bind_some P;obtain⟨μ3,Q,rfl⟩:=aa.mp O;refine⟨ρ,μ,v,μ1,G,U,z,S,λW H1 V d q l I y=>⟨ρ,μ1,r,μ2,V,d,I,R,λur H2 j b g f i x=>?_⟩⟩;obtain⟨p,C,T,N,rfl,w,u,t,s⟩:=Jd Q i.h (y.mono g.sim f) x;obtain⟨C',M,L,J⟩:=F;have:=u.uniq M;subst this;exact⟨p,C,T,N,rfl,w,L,J,t,k _ _ j b (q.trans g) (l.trans f) (i.mono (eZ.refl j).sim (.refl _) s)⟩
def Yi(v r:MV)(μ:MH):Option MH:=match r with
 |.l k=>(μ[k]?).bind λo=>match o with
  |.lst xs=>if xs.length<sizeLine then Y (μ.set k (.lst (xs++[v]))) else Z
  |_=>Z
 |_=>Z
def BH(μ:MH):MV->Bool
 |.l k=>match μ[k]? with
  |some (.lst _)=>true
  |_=>false
 |_=>false
def kZ(a m:MF):MF:=λρ μ=>(a ρ μ).bind λr=>if BH r.2 r.1=true then (m ρ r.2).bind λq=>(Yi q.1 r.1 q.2).map λμ'=>(.d .none,μ') else Z
def NK{r:MV}{f:AL}{c:V}(h:BH μ r=true)(j:jv K μ H G f)(i:hE K G f r c):∃p b,c=.ref p/\H p=Y (.lst b):=by
 cases r with
 |l k=>
  unfold BH at h;dsimp only at h;split at h
  ·rename_i n e;obtain⟨a,m,rfl⟩:=hE.kU.mp i;obtain⟨o,b,d,g,_⟩:=j.lst e;rw[m] at d;cases d;exact⟨a.1,b,rfl,g⟩
  ·cases h
 |_=>cases h
def kx(ho:PM X o mo) (he:PM X e m) (i:starEach [e] X.env=(false,eval e X.env)::starEach [] X.env:=by rfl)
  (d:attributeBase o "append" X.env (eval o X.env)=eval o X.env:=by rfl)
  (j:((backTo gd (starEach [e] X.env)).all (λx=>!x.1)&&(backToKw gd (keywordEach [] X.env)).all (λx=>x.1.isSome)&&decide (([e]:Lx).length+([]:List Keyword).length+(if ([]:List Keyword).isEmpty then 0 else 1)<30))=true:=by rfl)
  (c:(apos.endLine==gd.line)=true:=by rfl) (b:(backTo gd (starEach [] X.env)).any (·.1)=false:=by rfl):
  PM X (.Call (.Attribute o "append" apos) [e] [] gd) (kZ mo m) :=
 PE.imp (Be bH PySem.F.slot_list_append PySem.F.type_list_append Bf ho (lC he qf i) d j c i b) <| by
  rintro σ H Q ⟨ρ,μ,v,μ',G,as,V,e,k⟩;obtain⟨⟨r,μ1⟩,e1,f⟩:=bind_some e;by_cases t:BH μ1 r=true
  ·simp only[ah t] at f;obtain⟨⟨y,μ2⟩,e2,eb⟩:=bind_some f;obtain⟨μ3,J,e4⟩:=aa.mp eb;cases e4;refine⟨ρ,μ,r,μ1,G,as,V,e1,λur H1 G1 w R M I D=>?_⟩;obtain⟨p,O,rfl,W⟩:=NK t I.h D;refine⟨.inl ⟨rfl,O,ng.of W⟩,ρ,μ1,y,μ2,G1,w,I,e2,λP H2 K u A z E U=>?_⟩;have q:=D.mono A.sim z;cases r with
   |l kk=>
    obtain⟨T,e5,g⟩:=bind_some J;cases T with
    |lst L=>
     dsimp only at g;by_cases s:L.length<sizeLine
     ·rw[ah s] at g;cases g;obtain⟨a,f,er⟩:=hE.kU.mp q;cases er;obtain⟨a',N,C,S,B,n⟩:=E.h.lst e5;rw[f] at C;cases C;exact⟨a.1,N,P,rfl,rfl,S,by rw[<-B.length];exact s,k .lB _ K u (R.trans A) (M.trans z) (E.mono (eZ.refl K).sim (.refl _) (n _ _ (B.append (fL.cons U fL.nil)))) (hE.hI.mpr (dy.gU.mpr rfl))⟩
     ·rw[ai s] at g;cases g
    |_=>cases g
   |_=>cases J
  ·simp only[ai t] at f;cases f
end
section
variable {a c:Expr}{ma mb mc m mo mk:MF}{ff:Ah}{ep apos gd:Pos}{rest:List Stmt}{g h:MS}{j k:Nat}{F:mP}
def Rf(b:MF):MF:=λρ μ=>(b ρ μ).bind λr=>match r.1 with
 |.l k=>(r.2[k]?).bind λa=>match a with
  |.lst xs=>(xs[xs.length - 1]?).map λv=>(v,r.2.set k (.lst xs.dropLast))
  |_=>Z
 |_=>Z
def Hx(D:PM X o mo)(c:attributeBase o "pop" X.env (eval o X.env)=eval o X.env:=by rfl)(b:(apos.endLine==gd.line)=true:=by rfl):PM X (.Call (.Attribute o "pop" apos) [] [] gd) (Rf mo) :=
 PE.imp (MA bH PySem.F.slot_list_pop PySem.F.type_list_pop MC D c b) <| by
  rintro σ H Q ⟨ρ,μ,v,μ',G,M,C,e,k⟩;obtain⟨⟨r,μ1⟩,L,s⟩:=bind_some e;refine⟨ρ,μ,r,μ1,G,M,C,L,λO S t g x w n B=>?_⟩;cases r with
  |l P=>
   obtain⟨z,K,q⟩:=bind_some s;cases z with
   |lst N=>obtain⟨y,J,I⟩:=aa.mp q;cases I;obtain⟨a,E,rfl⟩:=hE.kU.mp B;obtain⟨R,i,m,j,d,f⟩:=n.h.lst K;rw[E] at m;cases m;obtain⟨u,p,A⟩:=d.get J;rw[d.length] at p;exact⟨.inl ⟨rfl,i,ng.of j⟩,a.1,i,u,rfl,rfl,j,p,k u _ t g x w (n.mono (eZ.refl t).sim (.refl _) (f _ _ d.dropLast)) A⟩
   |_=>cases q
  |_=>cases s
def Yj(a v r:MV)(μ:MH):Option MH:=match r with
 |.l n=>(μ[n]?).bind λb=>match b with
  |.lst xs=>match a with
   |.d (.int i)=>(Co xs.length i).map λj=>μ.set n (.lst (xs.set j v))
   |_=>Z
  |.jt kvs=>if kvs.length<sizeLine then ((qs a).bind pq).map λy=>μ.set n (.jt (wG y v kvs)) else Z
  |_=>Z
 |_=>Z
def uO(a b m:MF):MS:=λρ μ=>(m ρ μ).bind λv=>(a ρ v.2).bind λr=>(b ρ r.2).bind λq=>(Yj q.1 v.1 r.1 q.2).map λμ'=>.nx ρ μ'
def oz(E:X.A.units+64<cLine) {b:Pos} (ho:PM X o mo) (hk:PM X a mk) (he:PM X e m)
  (ha:∀v,assign (.Subscript o a b) X.env v=(do
   let ov <-holding [v] (eval o X.env);let iv <-holding [v,ov] (eval a X.env)
   standAt b
   holding [v,ov,iv] (setItem ov iv v)
   release [v,ov,iv] []):=by intro _;rfl)
  (hs:swapsWithSole [.Subscript o a b] e pos.line X.env=pure false:=by rfl) (hw:swappedStores [.Subscript o a b] e X.env=pure Z:=by rfl)
  (F:(assignEach [.Subscript o a b] X.env).map (·.2)=[assign (.Subscript o a b) X.env]:=by rfl):PU X (.Assign [.Subscript o a b] e pos) (uO mo mk m) :=
 PS.imp (Mm he (Ml ho hk (Ce.or En (Ng E)) ha) hs hw F) <| by
  rintro D σ H ⟨ρ,μ,oo,G,as,E,e,k⟩;obtain⟨⟨v,μ1⟩,e1,ea⟩:=bind_some e;obtain⟨⟨r,μ2⟩,e2,eb⟩:=bind_some ea;obtain⟨⟨t,μ3⟩,e3,ec⟩:=bind_some eb;obtain⟨μ4,P,rfl⟩:=aa.mp ec;refine⟨ρ,μ,v,μ1,G,as,E,e1,λuv H1 G1 K M L F i1=>⟨ρ,μ1,r,μ2,G1,K,F,e2,λur H2 G2 J y x h2 W=>⟨ρ,μ2,t,μ3,G2,J,h2,e3,λuk H3 w p s q u N=>?_⟩⟩⟩;have iv:=i1.mono (y.trans s).sim (x.trans q);have V:=W.mono s.sim q;cases r with
  |l n=>
   obtain⟨R,O,c⟩:=bind_some P;obtain⟨a,j,rfl⟩:=hE.kU.mp V;cases R with
   |lst xs=>
    rcases t with t|_|_<;>try (cases c;done)
    cases t with
    |int i=>obtain⟨U,I,rfl⟩:=aa.mp c;obtain⟨a',Q,g,z,f,d⟩:=u.h.lst O;rw[j] at g;cases g;exact .inl ⟨a.1,Q,i,U,rfl,dy.fw.mp (hE.hI.mp N),z,by rw[<-f.length];exact I,k _ _ w p (M.trans (y.trans s)) (L.trans (x.trans q)) (u.mono (eZ.refl w).sim (.refl _) (d _ _ (f.set iv)))⟩
    |_=>cases c
   |jt B=>
    dsimp only at c;by_cases C:B.length<sizeLine
    ·rw[ah C] at c;obtain⟨S,I,rfl⟩:=aa.mp c;obtain⟨dk,e8,e9⟩:=bind_some I;have:=g9 e9;subst this;obtain⟨a',T,g,z,f,d⟩:=u.h.jt O;rw[j] at g;cases g;exact .inr ⟨a.1,T,S,rfl,iz (hE.dat e8 N),z,by rw[<-f.length];exact C,k _ _ w p (M.trans (y.trans s)) (L.trans (x.trans q)) (u.mono (eZ.refl w).sim (.refl _) (d _ _ (f.putK iv)))⟩
    ·rw[ai C] at c;cases c
   |_=>cases c
  |_=>cases P
def Rh(μ:MH):MV->Bool
 |.l k=>match μ[k]? with
  |some (.jt _)=>true
  |_=>false
 |_=>false
def Je(b c m:MF):MF:=λρ μ=>(b ρ μ).bind λr=>if Rh r.2 r.1=true then (c ρ r.2).bind λq=>(m ρ q.2).bind λw=>((qs q.1).bind pq).bind λy=>match r.1 with
 |.l n=>(w.2[n]?).bind λa=>match a with
  |.jt kvs=>match tf y kvs with
   |some v=>Y (v,w.2.set n (.jt (yO y kvs)))
   |none=>Y (w.1,w.2)
  |_=>Z
 |_=>Z else Z
def Ri(ho:PM X o mo)(hk:PM X a mk)(he:PM X e m)(M:M2 X o "pop" apos a e gd:=by exact⟨rfl,rfl,rfl,rfl⟩):PM X (.Call (.Attribute o "pop" apos) [a,e] [] gd) (Je mo mk m) :=
 PE.imp (ML ho hk he M) <| by
  rintro σ H Q ⟨ρ,μ,v,μ',G,as,hu,e,k⟩;obtain⟨⟨r,μ1⟩,e1,p⟩:=bind_some e;by_cases c:Rh μ1 r=true
  ·simp only[ah c] at p;obtain⟨⟨V,μ2⟩,e2,eb⟩:=bind_some p;obtain⟨⟨w,μ3⟩,e3,ec⟩:=bind_some eb;obtain⟨C,e4,ed⟩:=bind_some ec;obtain⟨dk,e8,e9⟩:=bind_some e4;have:=g9 e9;subst this;refine⟨ρ,μ,r,μ1,G,as,hu,e1,λur H1 G1 K R O S i1=>?_⟩;cases r with
   |l nn=>
    obtain⟨a,i,rfl⟩:=hE.kU.mp i1;have F:Eu H1 a.1:=by
     unfold Rh at c;dsimp only at c;split at c
     ·rename_i D e;obtain⟨a',E,g,A,_⟩:=S.h.jt e;rw[i] at g;cases g;exact .inl ⟨E,.inl A⟩
     ·cases c
    refine⟨a.1,rfl,F,ρ,μ1,V,μ2,G1,K,S,e2,λuk H2 G2 J P s h2 i2=>⟨ρ,μ2,w,μ3,G2,J,h2,e3,λT H3 L j u q I W=>?_⟩⟩;obtain⟨U,e5,d⟩:=bind_some ed;cases U with
    |jt D=>
     obtain⟨a',E,g,A,x,B⟩:=I.h.jt e5;rw[(s.trans q) _ _ i] at g;cases g;refine⟨E,C,A,iz ((hE.dat e8 i2).same u),λy n=>?_,λn=>?_⟩
     ·rcases x.val (k:=C) with ⟨f,b⟩ | ⟨z,t,f,b,N⟩
      ·rw[n] at b;cases b
      ·rw[n] at b;cases b;dsimp only at d;rw[f] at d;cases d;exact k y _ L j (R.trans (P.trans u)) (O.trans (s.trans q)) (I.mono (eZ.refl L).sim (.refl _) (B _ _ x.drop)) N
     ·rcases x.val (k:=C) with ⟨f,b⟩ | ⟨z,t,f,b,N⟩
      ·dsimp only at d;rw[f] at d;cases d;exact k T H3 L j (R.trans (P.trans u)) (O.trans (s.trans q)) I W
      ·rw[n] at b;cases b
    |_=>cases d
   |_=>cases c
  ·simp only[ai c] at p;cases p
def C1(c n:Str)(a:Int->Int->Int)(mo m:MF):MS:=λρ μ=>(mo ρ μ).bind λr=>match r.1 with
 |.l k=>(r.2[k]?).bind λb=>match b with
  |.ins e fs=>if e=c then (pW n fs).bind λy=>(m ρ r.2).bind λq=>match y,q.1 with
   |.d (.int i),.d (.int j)=>(Hw c n (.d (.int (a i j))) (.l k) q.2).map λμ'=>.nx ρ μ'
   |_,_=>Z else Z
  |_=>Z
 |_=>Z
theorem KS{c n:Str}{d:Pos}{B:Operator}{g:Int->Int->Int}(hC:fT X.K c n)(ho:PM X o mo)(he:PM X e m)(j:WQ X B (Xc g)):PU X (.AugAssign (.Attribute o n d) B e pos) (C1 c n g mo m) :=
 PS.imp (Kj ho he j) <| by
  rintro D σ H ⟨ρ,μ,oo,G,as,hu,e,k⟩;obtain⟨⟨r,μ1⟩,e1,M⟩:=bind_some e;cases r with
  |l kk=>
   obtain⟨ob,e2,b⟩:=bind_some M;cases ob with
   |ins c' fs=>
    dsimp only at b;by_cases p:c'=c
    ·rw[ah p] at b;subst p;obtain⟨y,e3,ec⟩:=bind_some b;obtain⟨⟨q,μ2⟩,e4,f⟩:=bind_some ec;refine⟨ρ,μ,_,μ1,G,as,hu,e1,λur H1 G1 v T S J F=>?_⟩;obtain⟨a,t,rfl⟩:=hE.kU.mp F;obtain⟨a',C,fv,A,W,U,V,_⟩:=J.h.ins e2;rw[t] at A;cases A;obtain⟨C',L,g2,g3⟩:=hC;have:=U.uniq L;subst this;obtain⟨w,l,iw⟩:=V.look e3;refine⟨a.1,C,a.2,fv,w,rfl,W,g2,g3,l,ρ,μ1,q,μ2,G1,v,J,e4,λuq H2 N u z x I i2=>?_⟩;rcases y with y|_|_<;>try (cases f;done)
     cases y with
     |int i=>
      rcases q with q|_|_<;>try (cases f;done)
      cases q with
      |int E=>obtain⟨μ4,e6,rfl⟩:=aa.mp f;refine⟨i,E,dy.fw.mp (hE.hI.mp iw),dy.fw.mp (hE.hI.mp i2),?_⟩;obtain⟨p',C2,dx,s,er,R,Q,P,O⟩:=Jd (K:=X.K) e6 I.h (uv:=.int (g i E)) (hE.hI.mpr (dy.fw.mpr rfl)) (F.mono z.sim x);cases er;have:=Q.uniq L;subst this;exact⟨dx,s,R,P,k _ _ N u (T.trans z) (S.trans x) (I.mono (eZ.refl N).sim (.refl _) O)⟩
      |_=>cases f
     |_=>cases f
    ·rw[ai p] at b;cases b
   |_=>cases b
  |_=>cases M
end
section
variable {G' H':Hp}{as Gu:AL}{μ':MH}{ρ:MR}
def xQ:MR->List Nat->List MV->MR
 |ρ,i::is,v::vs=>xQ (ρ.set i (Y v)) is vs
 |ρ,_,_=>ρ
def Ai:Tg->MV->MR->Option MR
 |.one i,v,ρ=>Y (ρ.set i (Y v))
 |.many is,.t xs,ρ=>if xs.length=is.length then Y (xQ ρ is xs) else Z
 |.many is,.d (.tuple ds),ρ=>if ds.length=is.length then Y (xQ ρ is (ds.map .d)) else Z
 |_,_,_=>Z
theorem iG.vD:∀{is:List Nat}{σ:St}{ρ:MR}{b:List MV}{a:List V},iG K σ ρ μ H G as->fL K G as b a->iG K (xK σ is a) (xQ ρ is b) μ H G as
 |[],σ,ρ,b,a,h,_=>by cases b<;>cases a<;>exact h
 |i::is,σ,ρ,[],a,h,d=>by rw[fL.fe.mp d];exact h
 |i::is,σ,ρ,m::b,a,h,ds=>by obtain⟨v,r,rfl,e,c⟩:=fL.da.mp ds;exact iG.vD (is:=is) (h.set e) c
def uP(h:c6 K G ds vs):fL K G as (ds.map .d) vs:=by
 induction ds generalizing vs with
 |nil=>rw[c6.fe.mp h];exact fL.nil
 |cons d ds a=>obtain⟨v,r,rfl,i,t⟩:=c6.da.mp h;exact fL.cons (hE.hI.mpr i) (a t)
def iG.bind{ρ':MR}{f:Tg}{m:MV}{Q:St->Hp->Prop}(h:iG K σ ρ μ H G as)(i:hE K G as m v)(e:Ai f m ρ=Y ρ')(k:∀σ',iG K σ' ρ' μ H G as->Q σ' H):gT K f v σ H Q:=by
 cases f with
 |one j=>cases e;exact k _ (h.set i)
 |many is=>
  rcases m with d|_|xs
  ·cases d with
   |tuple ds=>
    dsimp only[Ai] at e;by_cases a:ds.length=is.length
    ·rw[ah a] at e;cases e;obtain⟨p,c,rfl,g,b⟩:=(hE.hI.mp i).gP;exact⟨p,c,rfl,h.h.sub.sC g,by rw[<-b.length];exact a,k _ (h.vD (uP b))⟩
    ·rw[ai a] at e;cases e
   |_=>cases e
  ·cases e
  ·dsimp only[Ai] at e;by_cases a:xs.length=is.length
   ·rw[ah a] at e;cases e;obtain⟨p,c,rfl,g,b⟩:=hE.yN.mp i;exact⟨p,c,rfl,h.h.sub.sC g,by rw[<-b.length];exact a,k _ (h.vD b)⟩
   ·rw[ai a] at e;cases e
noncomputable def mR(a:MV->MR->Option MR)(g:MS):List MV->MS
 |[],ρ,μ=>Y (.nx ρ μ)
 |m::ms,ρ,μ=>((a m ρ).bind λρ1=>g ρ1 μ).bind λo=>match o with
  |.nx ρ' μ'=>mR a g ms ρ' μ'
  |.ct ρ' μ'=>mR a g ms ρ' μ'
  |.bk ρ' μ'=>Y (.nx ρ' μ')
  |.rt v μ'=>Y (.rt v μ')
def Hy(K:Fg)(J:It)(f:List MV)(G:Hp)(g:AL):Prop :=
 ∀b,eZ G b->J.stop f.length b/\∀(i:Nat) (m:MV),f[i]?=Y m->J.go i b/\∀x d,J.P8 i b x d->eZ b d/\∀e c,eZ G e->pG g c->(∀a,b a=Z->e a=d a)->hE K e c m x
def pv.u{J:It}(w:pv K J ds G):Hy K J (ds.map .d) G as:=λH' s'=>by obtain⟨f,e⟩:=w H' s';refine⟨by simpa using f,λi m q=>?_⟩;rw[az] at q;obtain⟨d,j,rfl⟩:=aa.mp q;obtain⟨c,a⟩:=e i d j;exact⟨c,λx b y=>⟨(a x b y).1,λl k g _ h=>hE.hI.mpr ((a x b y).2 l g h)⟩⟩
def vO{J:It}{t:Tg}{c:List MV}{g:MS}{o:Ra}{D:Aj}(w:Hy K J c G as)(h1:iG K σ ρ μ H G as)(e2:mR (Ai t) g c ρ μ=Y o)(k:NJ K G as D o):
  ∃W:Nat->Nat->St->Hp->Prop,(∃n,W 0 n σ H)/\∀i n σ H,W i n σ H ->
   (J.stop i H/\D.nx σ H)\/(J.go i H/\∃N:St->Hp->Prop,(∀σ' d,N σ' d->∃R,R<n/\W (i+1) R σ' d)/\∀x d,J.P8 i H x d->gT K t x σ d λσ2 P=>tU K g { D with nx:=N,ct:=N,bk:=D.nx } σ2 P):=by
 refine⟨λi n σ' d=>n=c.length - i/\i<=c.length/\∃ρ' μ' F b,eZ G F/\pG as b/\iG K σ' ρ' μ' d F b/\mR (Ai t) g (c.drop i) ρ' μ'=Y o,⟨c.length,by simp,cB _,ρ,μ,G,as,.refl _,.refl _,h1,by simpa using e2⟩,?_⟩;rintro i n σ' d ⟨rfl,hi,ρ',μ',F,b,B,s,f,z⟩;obtain⟨w1,w2⟩:=w d (B.trans f.h.sub);by_cases p:i<c.length
 ·right;have hd:c[i]?=Y c[i]:=aI p;obtain⟨X,V⟩:=w2 i _ hd;rw[bT p] at z;unfold mR at z;obtain⟨Q,e4,C⟩:=bind_some z;obtain⟨ρ1,e6,e7⟩:=bind_some e4;refine⟨X,λσ3 S=>∃ρ3 μ3 E j,eZ G E/\pG as j/\iG K σ3 ρ3 μ3 S E j/\mR (Ai t) g (c.drop (i+1)) ρ3 μ3=Y o,by rintro σ3 S ⟨ρ3,μ3,E,j,s3,U,h3,O⟩;exact⟨c.length - (i+1),by omega,rfl,p,ρ3,μ3,E,j,s3,U,h3,O⟩,λx P y=>?_⟩;obtain⟨r1,r2⟩:=V x P y;obtain⟨T,I,g2,M⟩:=f.h.NG r1;have L:=f.mono I.sim (.refl _) M;have i4:=r2 T b (B.trans I) s g2;refine iG.bind L i4 e6 λσ5 h5=>⟨ρ1,μ',Q,T,b,h5,e7,?_⟩
  have e:=B.trans I;cases Q with
  |nx ρ3 μ3=>exact λσ6 A r a m l q=>⟨ρ3,μ3,r,a,e.trans m,s.trans l,q,C⟩
  |ct ρ3 μ3=>exact λσ6 A r a m l q=>⟨ρ3,μ3,r,a,e.trans m,s.trans l,q,C⟩
  |bk ρ3 μ3=>cases C;exact λσ6 A r a m l q=>k σ6 A r a (e.trans m) (s.trans l) q
  |rt v μ3=>cases C;exact λu A r a m l q i6=>k u A r a (e.trans m) (s.trans l) q i6
 ·have O:i=c.length:=by omega
  subst O;rw[eJ] at z;cases z;exact .inl ⟨w1,k σ' d F b B s f⟩
def jv.tell{u e:HO}(h:jv K μ H G as)(i:G a=Y u)(k:Ht u kv)(f:Ht e kv):jv K μ (upd H a e) (upd G a e) as:=by
 obtain⟨B,rfl,d,j⟩:=h.ex;have g:∀x∈B,x.1≠a:=λx c z=>by have:=d.free x c;rw[z,i] at this;cases this
 refine⟨⟨B,?_,⟨d.nd,λx c=>by rw[ee (g x c)];exact d.free x c,d.ok⟩,j.mono (EY i k f) (.refl _)⟩⟩
 funext b
 rcases oS (a:=b) B with ⟨x,c,rfl⟩|h'
 ·rw[fV d.nd x c,ee (g x c),fV d.nd x c]
 ·rw[gf h'];unfold upd;split
  ·rfl
  ·rw[gf h']
theorem iG.tell{a:Addr}{d:List (Key×V)}{u c:HO}(h:iG K σ ρ μ H G as)(f:G a=Y u)(e:Ht u d)(b:Ht c d):iG K σ ρ μ (upd H a c) (upd G a c) as:=h.mono (EY f e b) (.refl _) (h.h.tell f e b)
end
section
variable {a c:Expr}{fs:bb->Option Lp}{ma mb mc m mo mk:MF}{ff:Ah}{ep apos gd:Pos}{rest:List Stmt}{g h:MS}{j k:Nat}{F:mP}
def ZK(X:Cx)(g b:Expr)(q:Ah):Prop:=PI X g b (λσ H R=>∃ρ μ d μ' G e,iG X.K σ ρ μ H G e/\q ρ μ=Y (d,μ')/\∀J f c a,eZ G c->pG e a->iG X.K σ ρ μ' f c a->Hy X.K J d c a->R J f)
def C3(q:bb->Option Lp):Ah:=λρ μ=>(q (uJ ρ)).map λa=>(a.map .d,μ)
def C4{a:Expr}(g:Vg X tg a q):ZK X tg a (C3 q) :=
 PI.imp (PI.frame g) <| by rintro σ H R ⟨ρ,μ,r,μ',G,o,c,e,k⟩;obtain⟨n,m,l⟩:=aa.mp e;cases l;obtain⟨B,j,i,f⟩:=c.h.ex;exact⟨G,B,j,i,uJ ρ,n,c.dat,m,λJ p b w d=>k J _ p o b (.refl _) (c.mono b.sim (.refl _) ⟨B,rfl,d,f.mono b.sim (.refl _)⟩) w.u⟩
def Jf(m:MF):Ah:=λρ μ=>(m ρ μ).bind λr=>match r.1 with
 |.d (.list ds)=>Y (ds.map .d,r.2)
 |_=>Z
def Rj(h:PM X e m):ZK X tg e (Jf m) :=
 PI.imp (Cf h) <| by
  rintro σ H R ⟨ρ,μ,I,μ',G,D,A,e,k⟩;obtain⟨⟨r,μ1⟩,C,f⟩:=bind_some e;refine⟨ρ,μ,r,μ1,G,D,A,C,λu E F g s o l x=>?_⟩;rcases r with d|_|_<;>try (cases f;done)
  cases d with
  |list J=>cases f;obtain⟨q,a,rfl,b,j⟩:=dy.fG.mp (hE.hI.mp x);refine⟨q,rfl,⟨a,l.h.sub.seq b⟩,k _ E F g s o l (pv.u λL c=>⟨⟨a,c.seq b,by rw[j.length];exact aA _⟩,λi d w=>?_⟩)⟩;obtain⟨y,n,B⟩:=j.get w;refine⟨⟨a,y,c.seq b,n⟩,?_⟩;rintro z K ⟨v,t⟩;have:=t a (c.seq b);rw[n] at this;cases this;subst v;exact⟨.refl _,λM p _=>B.same p⟩
  |_=>cases f
def xc(q:Ah)(t:Tg)(g:MS):MS:=λρ μ=>(q ρ μ).bind λr=>mR (Ai t) g r.1 ρ r.2
def yQ{a:Expr}{t:Tg}{b:List Stmt}{q:Ah} (j:PassesOwn (model X.prog X.w) X.A X.env X.xe) (n:X.calm=true) (l:ZK X tg a q) (m:PG X tg (gT X.K t)) (p:KQ X b g)
  (i:∀x,foldedSetIterable a X.env x=pure x:=by intro _;rfl):PU X (.For tg a b [] pos) (xc q t g) :=
 PS.imp (GD j n l m p i) <| by rintro D σ H ⟨ρ,μ,o,G,y,h,e,k⟩;obtain⟨⟨f,μ1⟩,u,s⟩:=bind_some e;exact⟨ρ,μ,f,μ1,G,y,h,u,λJ z B v d c r w=>vO w r s (k.later d c)⟩
def BI(m:MF)(t:Tg)(g:MS):MS:=λρ μ=>(m ρ μ).bind λr=>match r.1 with
 |.d (.dict kvs)=>if fZ kvs=true then Z else (mR (Ai t) g (kvs.map λx=>.d x.1) ρ r.2).bind λo=>match o with
  |.nx ρ' μ'=>Y (.nx ρ' μ')
  |_=>Z
 |_=>Z
def Jg{i:Expr}{t:Tg}{j:List Stmt} (hp:PassesOwn (model X.prog X.w) X.A X.env X.xe) (hc:X.calm=true) (hi:PM X i m) (hg:PG X tg (gT X.K t)) (B:KQ X j g)
  (hs:∀x,foldedSetIterable i X.env x=pure x:=by intro _;rfl):PU X (.For tg i j [] pos) (BI m t g) :=
 PS.imp (Q7 (GD hp hc (Q6 hi) hg B hs)) <| by
  rintro D σ H ⟨ρ,μ,o,G,as,hu,e,k⟩;obtain⟨⟨r,μ1⟩,e1,s⟩:=bind_some e;rcases r with d|_|_<;>try (cases s;done)
  obtain⟨c,rfl⟩:∃c,d=.dict c:=by cases d<;>first|exact⟨_,rfl⟩|cases s
  dsimp only at s;by_cases p:fZ c=true
  ·rw[ah p] at s;cases s
  rw[ai p] at s;obtain⟨S,O,e4⟩:=bind_some s;obtain⟨ρN,μN,rfl,rfl⟩:∃ρN μN,S=.nx ρN μN/\o=.nx ρN μN:=by cases S<;>cases e4;exact⟨_,_,rfl,rfl⟩
  have em:(c.map λx=>MV.d x.1)=(c.map (·.1)).map .d:=by simp
  rw[em] at O;refine⟨ρ,μ,.d (.dict c),μ1,G,as,hu,e1,λv H1 L as1 R Q z V=>?_⟩;obtain⟨a,n,rfl,f,T⟩:=(hE.hI.mp V).oR (by simpa using p);refine⟨a,n,rfl,z.h.sub.rd f,λl F=>?_,λl F W=>?_⟩
  ·have I:L a=Y (.ud l (.dK n)):=by
    rcases f with f | ⟨o,f⟩
    ·have:=z.h.sub _ _ f;rw[F] at this;cases this
    ·have:=z.h.sub _ _ f;rw[F] at this;cases this;exact f
   exact vO (wF I T).u z O λσ' U P y E M J=>.inl (k σ' U P y (R.trans E) (Q.trans M) J)
  ·have I:L a=Y (.dK n):=by
    rcases f with f | ⟨o,f⟩
    ·exact f
    ·have:=z.h.sub _ _ f;rw[F] at this;cases this
   refine vO (wF (G:=upd L a (.ud l (.dK n))) fx T).u (z.tell I (.inl rfl) (.inr ⟨l,rfl⟩)) O λσ' U P y E M J=>.inr ?_;have C:=E _ _ (fx (H:=L) (a:=a) (o:=.ud l (.dK n)));refine⟨a,l,n,J.h.sub _ _ C,W,k σ' _ (upd P a (.dK n)) y (λb o q=>?_) (Q.trans M) (J.tell C (.inr ⟨l,rfl⟩) (.inl rfl))⟩;have N:=R b o q;by_cases B:b=a
   ·subst B;rw[I] at N;cases N;exact fx
   ·rw[ee B];exact E b o (by rw[ee B];exact N)
def E4(m:MF):MR->MH->Option (Bool×MH):=λρ μ=>(m ρ μ).bind λr=>match r.1 with
 |.d (.bool b)=>Y (b,r.2)
 |_=>Z
def Jh(h:PM X e m)(l:∀whole,isTrue e X.env whole=(do let v <-whole;standAt e.pos;holding [v] (truthy v)):=by intro _;rfl):Q9 X e (E4 m) :=
 PT.imp (yb h l) <| by
  rintro σ H Q ⟨ρ,μ,b,μ',G,p,j,e,k⟩;obtain⟨⟨r,μ1⟩,o,a⟩:=bind_some e;refine⟨ρ,μ,r,μ1,G,p,j,o,λu q s c g f n i=>?_⟩;rcases r with d|_|_<;>try (cases a;done)
  cases d with
  |bool t=>cases a;rw[dy.fC.mp (hE.hI.mp i)];exact⟨b,rfl,k q s c g f n⟩
  |_=>cases a
def TZ(a:MR->MH->Option (Bool×MH)):MR->MH->Option (Bool×MH):=λρ μ=>(a ρ μ).map λr=>(!r.1,r.2)
def Rl(h:Q9 X a gc):Q9 X (.UnaryOp .Not a pos) (TZ gc) :=
 PT.imp (Gx h) <| by rintro σ H Q ⟨ρ,μ,b,μ',G,m,g,e,k⟩;obtain⟨⟨y,μ1⟩,l,j⟩:=aa.mp e;cases j;exact⟨ρ,μ,y,μ1,G,m,g,l,λn o c f d i=>k n o c f d i⟩
noncomputable def mu(a:MR->MH->Option (Bool×MH))(g:MS):Nat->MS
 |0,_,_=>Z
 |n+1,ρ,μ=>(a ρ μ).bind λr=>if r.1=true then (g ρ r.2).bind λo=>match o with
  |.nx ρ' μ'=>mu a g n ρ' μ'
  |.ct ρ' μ'=>mu a g n ρ' μ'
  |.bk ρ' μ'=>Y (.nx ρ' μ')
  |.rt v μ'=>Y (.rt v μ')
  else Y (.nx ρ r.2)
def Hz(a:MR->MH->Option (Bool×MH))(g:MS):MS:=mu a g IX
theorem E5{h:List Stmt}(U:PassesOwn (model X.prog X.w) X.A X.env X.xe)(V:Q9 X c gc)(W:KQ X h g):PU X (.While c h [] pos) (Hz gc g) :=
 PS.imp (Ed U V W) <| by
  rintro D σ H ⟨ρ,μ,o,G,E,T,e,k⟩;refine⟨λn σ' P=>∃ρ' μ' z f,eZ G z/\pG E f/\iG X.K σ' ρ' μ' P z f/\mu gc g n ρ' μ'=Y o,⟨IX,ρ,μ,G,E,.refl _,.refl _,T,e⟩,?_⟩;rintro n σ' P ⟨ρ',μ',z,f,J,F,B,C⟩;cases n with
  |zero=>cases C
  |succ n=>
   unfold mu at C;obtain⟨⟨y,μ1⟩,e2,x⟩:=bind_some C;refine⟨ρ',μ',y,μ1,z,f,B,e2,λH1 R r L I N=>?_⟩;cases y with
   |true=>
    simp only[bD] at x;obtain⟨M,e4,t⟩:=bind_some x;have d:=J.trans L;have b:=F.trans I;rw[ah rfl];refine⟨λσ3 O=>∃ρ3 μ3 Q p,eZ G Q/\pG E p/\iG X.K σ3 ρ3 μ3 O Q p/\mu gc g n ρ3 μ3=Y o,λσ3 O q=>⟨n,cQ n,q⟩,ρ',μ1,M,R,r,N,e4,?_⟩;cases M with
    |nx ρ3 μ3=>exact λσ6 s m a j i l=>⟨ρ3,μ3,m,a,d.trans j,b.trans i,l,t⟩
    |ct ρ3 μ3=>exact λσ6 s m a j i l=>⟨ρ3,μ3,m,a,d.trans j,b.trans i,l,t⟩
    |bk ρ3 μ3=>cases t;exact λσ6 s m a j i l=>k σ6 s m a (d.trans j) (b.trans i) l
    |rt v μ3=>cases t;exact λu s m a j i l S=>k u s m a (d.trans j) (b.trans i) l S
   |false=>simp only[bO,bV] at x;cases x;rw[ai aF];exact k σ' H1 R r (J.trans L) (F.trans I) N
end
def tL(N:Lr)(a:List MV):MR:=a.map Y++List.replicate (N.length - a.length) Z
def yR{b:AL}{N:Lr}{a:List MV}(i:fL K G b a vs)(h:jv K μ H G b):iG K (lD N vs) (tL N a) μ H G b:=by
 have d:=i.length;refine⟨h,by simp[lD,tL,d],λj m q=>?_⟩;unfold tL at q;by_cases c:j<a.length
 ·rw[aS (by simpa using c),az] at q;obtain⟨l,k,g⟩:=aa.mp q;cases g;obtain⟨v,f,e⟩:=i.get k;refine⟨v,?_,e⟩;unfold lD;rw[aS (by simp;omega),az,f];rfl
 ·rw[aD (by simpa using c),bG] at q;split at q<;>cases q
noncomputable def hV(N:Lr)(g:MS):mP:=λa μ=>(g (tL N a) μ).bind λo=>match o with
 |.rt v μ'=>Y (v,μ')
 |.nx _ μ'=>Y (.d .none,μ')
 |_=>Z
noncomputable def yS(N:Lr)(g:MS):Lp->Od:=λds=>(g (tL N (ds.map .d)) []).bind λo=>match o with
 |.rt v μ'=>fg μ' 9 v
 |.nx _ _=>Y .none
 |_=>Z
def jv.empty:jv K [] H H []:=⟨[],rfl,j6.nil,rfl,rfl⟩
section
variable {P:Program}{w:World}{base:Heap}{qual:Str}{fa:Addr}{N ps:Lr}{k:Nat}{g:MS}
theorem C5(F:IL K x qual st fa fd) (S:iD N ps (fj st)) (B:n=ps.length)
  (a:∀(qy:Value) (A:Around) (outer:List Env) (s:Shared) (H:Hp) (E:XK),iO k (A.deeper (envOfC qual (fj st) (zB s) fa qy)) ->
   KQ (vx vo P w K mg base N qual (fj st) fa qy A outer s H E).Mf (jd st) g):k7 P w K mg base vo (k+1) fa fd ps (WV K n (hV N g)):=by
 refine F.ok S (by rintro vs H Q E ⟨q,μ,r,μ',G,t,i,l,_⟩;rw[<-i.length,l,B]) ?_;rintro qy A outer s H vs Q E z ⟨q,μ,r,μ',G,t,i,l,C,e,k⟩;refine⟨_,a qy A outer s H E z,?_⟩;obtain⟨o,D,c⟩:=bind_some e;refine⟨tL N q,μ,o,G,t,yR i C,D,?_⟩;cases o with
 |rt v μ1=>cases c;exact λu m p b f d j y=>k u m p b f d j y
 |nx ρ' μ1=>cases c;exact λσ m p b f d j=>k .lB m p b f d j.h (hE.hI.mpr (dy.gU.mpr rfl))
 |bk _ _=>cases c
 |ct _ _=>cases c
theorem E6(F:IL K x qual st fa fd) (S:iD N ps (fj st)) (y:n=ps.length)
  (a:∀(qy:Value) (A:Around) (outer:List Env) (s:Shared) (H:Hp) (E:XK),iO k (A.deeper (envOfC qual (fj st) (zB s) fa qy)) ->
   KQ (vx vo P w K mg base N qual (fj st) fa qy A outer s H E).Mf (jd st) g):k7 P w K mg base vo (k+1) fa fd ps (TF K n (yS N g)):=by
 refine F.ok S (by rintro vs H Q E ⟨p,d,i,l,_⟩;rw[<-i.length,l,y]) ?_;rintro qy A outer s H vs Q E t ⟨p,d,i,l,e,k⟩;refine⟨_,a qy A outer s H E t,?_⟩;obtain⟨o,z,c⟩:=bind_some e;refine⟨tL N (p.map .d),[],o,H,[],yR (uP i) jv.empty,z,?_⟩;cases o with
 |rt v μ1=>exact λu m B j f q b r=>k u m (f.trans b.sub) (ox b 9 v d u c r)
 |nx ρ' μ1=>cases c;exact λσ m B j f q b=>k .lB m (f.trans b.h.sub) (dy.gU.mpr rfl)
 |bk _ _=>cases c
 |ct _ _=>cases c
abbrev E7(P:Program)(w:World)(K:W.Frag)(f:Str->Option Value)(c:Heap)(q:Str)(d:Stmt)(N:List Str)(k:Nat)(g:MS):Prop :=
 ∀{e:Addr}{b:Value}{A:Around}{a:List Env}{s:Shared}{H:Hp}{E:XK},iO k (A.deeper (envOfC q (fj d) (zB s) e b))->(A.deeper (envOfC q (fj d) (zB s) e b)).units+64<cLine->N.Nodup ->
  KQ (vx vo P w K f c N q (fj d) e b A a s H E).Mf (jd d) g
variable {m q:Str}
theorem jT(F:gY K mg x st) (e:E7 P w K mg base x st N k g) (S:iD N (N.take n) (fj st):=by exact⟨rfl,rfl,rfl,by decide +kernel,rfl,by decide +kernel,by decide +kernel⟩) (d:n=(N.take n).length:=by rfl)
  (j:KN x x st (N.take n):=by intro _ _ _ _ _ _;(repeat' intro _);exact rfl):nQ P w K mg base x (k+1) n (hV N g):=by
 obtain⟨a,h,f,F⟩:=F;exact⟨a,h,N.take n,C5 F S d λi A b s H E c=>e c c.units S.nd,f,F.kp,j.to F⟩
theorem Rm(F:gY K mg x st) (e:E7 P w K mg base x st N k g) (S:iD N (N.take n) (fj st):=by exact⟨rfl,rfl,rfl,by decide +kernel,rfl,by decide +kernel,by decide +kernel⟩) (d:n=(N.take n).length:=by rfl)
  (j:KN x x st (N.take n):=by intro _ _ _ _ _ _;(repeat' intro _);exact rfl):wq P w K mg base x (k+1) n (yS N g):=by
 obtain⟨a,h,f,F⟩:=F;exact⟨a,h,N.take n,E6 F S d λi A b s H E c=>e c c.units S.nd,f,F.kp,j.to F⟩
def pY(F:xb K mg c q st) (f:E7 P w K mg base q st N k g) (S:iD N (N.take n) (fj st):=by exact⟨rfl,rfl,rfl,by decide +kernel,rfl,by decide +kernel,by decide +kernel⟩) (e:n=(N.take n).length:=by rfl)
  (m:KN "__init__" q st (N.take n):=by intro _ _ _ _ _ _;(repeat' intro _);exact rfl):uL P w K mg base c (k+1) n (hV N g):=by
 obtain⟨C,a,h,j,i,M,F⟩:=F;exact⟨C,a,h,N.take n,j,i,M,C5 F S e λl A b s H E d=>f d d.units S.nd,m.to F⟩
def tM(F:pV K c m q st) (f:E7 P w K mg base q st N k g) (S:iD N (N.take n) (fj st):=by exact⟨rfl,rfl,rfl,by decide +kernel,rfl,by decide +kernel,by decide +kernel⟩) (e:n=(N.take n).length:=by rfl)
  (o:KN m q st (N.take n):=by intro _ _ _ _ _ _;(repeat' intro _);exact rfl):ti P w K mg base c m (k+1) n (hV N g):=by
 obtain⟨C,a,h,j,i,M,F⟩:=F;exact⟨C,a,h,N.take n,j,i,M,C5 F S e λl A b s H E d=>f d d.units S.nd,o.to F⟩
theorem Rn{b:Str} (f:mg x=Y (.ref fa)) (F:gY K mg x st) (o:∀base:Heap,E7 P w K mg base x st (b::N) k g) (S:iD (b::N) [b] (fj st):=by exact⟨rfl,rfl,rfl,by decide +kernel,rfl,by decide +kernel,by decide +kernel⟩)
  (r:KN x x st [b]:=by intro _ _ _ _ _ _;(repeat' intro _);exact rfl):∃d:FuncData,(∀(s:Shared) (u:Value),BindsTo s d ⟨[u],[]⟩ [(b,u)])/\∀base:Heap,K.In base->base.Ns mainGlobals mg->k7 P w K mg base vo (k+1) fa d [b] (TF K 1 (yS (b::N) g)):=by
 obtain⟨a,d,p,F⟩:=F;cases f.symm.trans p;refine⟨d,λs u=>?_,λbase _ _=>E6 F S rfl λc A e s H E i=>o base i i.units S.nd⟩;obtain⟨y,v,m,h,j,t,c,q,l,rfl,z,n⟩:=F.ex;exact .of_eq (r m h j t c q u)
end
section
variable {j k:Nat}{F:mP}
def tN(c:Str)(n:Nat)(F:mP)(b:bb->Option Lp):bb->Od:=λρ=>(b ρ).bind λa=>if a.length+1=n then (F (.l 0::a.map .d) [.ins c []]).bind λq=>match q.1 with
 |.d .none=>fg q.2 9 (.l 0)
 |_=>Z else Z
def E8{f:Str} (N:uL X.prog X.w X.K X.mg X.base f j n F) (R:iO (k+1) X.A) (U:Gl X f) (W:Bj X (e::es) ff) (T:j<=k:=by decide) (s:zg f:=by decide)
  (V:zE e es X:=by rfl) (i:(backTo pos (starEach es X.env)).any (·.1)=false:=by rfl):PD X (.Call (.Name f p) (e::es) [] pos) (tN f n F ff):=by
 obtain⟨C,a,fd,ps,hC,I,M,Fn,b⟩:=N.ex;refine PE.imp (Cn M (Fn.mono T) R U I b .nil oa W s V i) ?_;rintro σ H Q ⟨ρ,d,P,e,k⟩;obtain⟨z,e1,g⟩:=bind_some e;by_cases m:z.length+1=n
 ·rw[ah m] at g;refine⟨ρ,z,P,e1,λvs B E J x c O q l=>?_⟩;obtain⟨⟨r,μ1⟩,e3,t⟩:=bind_some g;rcases r with r|_|_<;>try (cases t;done)
  cases r<;>try (cases t;done)
  have S:=(jv.empty (K:=X.K) (H:=B)).new (a:=(x,c)) (o:=.ins f []) (B':=[(x,.ins C c []),(c,.own x)]) ⟨C,[],rfl,hC,lZ.nil⟩ ⟨by simp[Ne.symm l],λy h=>by
   rcases av.mp h with e|h
   ·rw[e];exact O
   ·have:y=(c,HO.own x):=by simpa using h
    rw[this];exact q,.ins .nil⟩
  refine⟨_,_,_,_,B,[(x,c)],fL.cons (hE.kU.mpr ⟨(x,c),rfl,rfl⟩) (by rw[aL];exact uP J),by simpa using m,S,e3,λu H' G' Gu G D v L=>⟨dy.gU.mp (hE.hI.mp L),?_⟩⟩;exact k _ H' (E.trans (G.trans v.sub)) (ox v 9 _ _ _ t (hE.kU.mpr ⟨(x,c),D _ _ rfl,rfl⟩))
 ·rw[ai m] at g;cases g
end
def pZ{α:Type}(y:Str):List (Str×α)->Option α
 |[]=>Z
 | (z,v)::r=>if z=y then Y v else pZ y r
structure yT (P:Program) (w:World) (K:Fg) (mg:Str->Ow) (x:Str) (l:List (Str×Str)):Prop where
 ex:∃(a:Addr) (vs:List (Key×Value)),mg x=Y (.ref a)/\(a==sysModules)=false/\(∀h:Heap,K.In h->h.DictOf (fU P w) a vs)/\(∀i,valueAt vs (.inl i)=Z) /\
  ∀y:Str,(pZ y l=Z/\valueAt vs (.inr y)=Z)\/∃fn fa,pZ y l=Y fn/\valueAt vs (.inr y)=Y (.ref fa)/\mg fn=Y (.ref fa)
def Vt{P:Program}{w:World}{l:List (Str×Tok×Addr×Str)} (p:mg x=Y (.ref a)) (s:(a==sysModules)=false)
  (g:K.lookup a=Y { cls:=.type "dict",data:=.dict (l.map λq=>KL w.params q.1 q.2.1 (.ref q.2.2.1)).toArray n }) (d:(l.map (·.1)).Nodup) (f:∀q∈l,mg q.2.2.2=Y (.ref q.2.2.1)):
  yT P w K mg x (l.map λq=>(q.1,q.2.2.2)):=by
 refine⟨a,l.map λq=>(.inr q.1,.ref q.2.2.1),p,s,λh A=>?_,λi=>?_,λy=>?_⟩
 ·refine⟨_,_,n,A a _ g,⟨rfl,rfl,rfl⟩,rfl,λe r=>?_,?_,?_⟩
  ·have j:e∈l.map λq=>KL w.params q.1 q.2.1 (.ref q.2.2.1):=by simpa using r
   obtain⟨q,_,rfl⟩:=aK.mp j;exact⟨.inr q.1,mI P w q.1 q.2.1,wC w q.1⟩
  ·have:∀l:List (Str×Tok×Addr×Str),Pairs (fU P w) (l.map λq=>KL w.params q.1 q.2.1 (.ref q.2.2.1)) (l.map λq=>((.inr q.1:Key),Value.ref q.2.2.1)):=by
    intro l;induction l with
    |nil=>exact .nil
    |cons q l c=>exact .cons (mI P w q.1 q.2.1) rfl c
   simpa using this l
  ·rw[bc];have:((λx:Key×Value=>x.1)∘λq:Str×Tok×Addr×Str=>((.inr q.1:Key),Value.ref q.2.2.1))=(λz:Str=>(.inr z:Key))∘(·.1):=rfl;rw[this,<-bc];exact eA _ (λa b h z=>h (by injection z)) d
 ·clear g d f;induction l with
  |nil=>rfl
  |cons q l c=>simpa [valueAt] using c
 ·clear g d;induction l with
  |nil=>exact .inl ⟨rfl,rfl⟩
  |cons q l c=>
   by_cases e:q.1=y
   ·exact .inr ⟨q.2.2.2,q.2.2.1,by simp[pZ,e],by simp[valueAt,e],f q (by simp)⟩
   ·rcases c λq o=>f q (aj _ o) with ⟨m,k⟩ | ⟨t,u,m,k,v⟩
    ·exact .inl ⟨by simp[pZ,e,m],by simpa [valueAt,e] using k⟩
    ·exact .inr ⟨t,u,by simp[pZ,e,m],by simpa [valueAt,e] using k,v⟩
section
variable {a c i:Expr}{mi:MF}{ff:Ah}{sp:Pos}{j k:Nat}
def NL(l:List (Str×Str))(k:eW):Od:=match k with
 |.str y=>Y (.bool (pZ y l).isSome)
 |_=>Z
def KU{l:List (Str×Str)}(J:yT X.prog X.w X.K X.mg x l)(F:Gl X x)(G:PD X a fa)(E:behindInMarks .In (.Name x p)=false:=by with_unfolding_all rfl)(c:zg x:=by decide):Bi X (.Compare a [.In] [.Name x p] pos) (fB (λρ=>(fa ρ).bind (NL l))):=by
 obtain⟨o,r,O,N,M,_,L⟩:=J.ex;have C:k6 X (compareOp .In) (λy z H Q=>∃k:Key,y=kV k/\z=.ref o/\Q (.bl (valueAt r k).isSome) H):=by intro m s σ H y z v u Q I B A ⟨k,j,h,q⟩;subst j h;cases A;exact wpAny_in_of (mK B) N (M s.heap I.ue).mapOf ⟨.bl _,H,I.tok _,rfl,q⟩
 refine PT.imp (xG C G (xF (v:=.ref o) F O rfl c) E) ?_;rintro σ H Q ⟨ρ,d,D,j,k⟩;obtain⟨y,h,n⟩:=bind_some (xI j);obtain⟨z,rfl⟩:∃z,y=.str z:=by cases y<;>first|exact⟨_,rfl⟩|cases n
 cases n;refine⟨ρ,_,D,h,λv P t i=>⟨.inr z,dy.fz.mp i,rfl,?_⟩⟩;have b:=k P t;rcases L z with ⟨g,e⟩ | ⟨fn,f,g,e,g3⟩
 ·rw[g] at b;rw[e];exact⟨_,rfl,b⟩
 ·rw[g] at b;rw[e];exact⟨_,rfl,b⟩
def NM(n:Nat)(a:List (Str×Str×mP))(b:MF)(c:Ah):MF:=λρ μ=>(b ρ μ).bind λr=>match r.1 with
 |.d (.str y)=>(pZ y a).bind λF=>(c ρ r.2).bind λq=>if q.1.length=n then F.2 q.1 q.2 else Z
 |_=>Z
def KW{c:List (Str×Str×mP)}{y:Str}{F:Str×mP}(h:pZ y c=Y F):pZ y (c.map λq=>(q.1,q.2.1))=Y F.1/\(y,F)∈c:=by
 induction c with
 |nil=>cases h
 |cons q t d=>
  unfold pZ at h;by_cases e:q.1=y
  ·rw[ah e] at h;cases h;exact⟨by simp[pZ,e],by rw[<-e];simp⟩
  ·rw[ai e] at h;obtain⟨a,b⟩:=d h;exact⟨by simp[pZ,e,a],aj _ b⟩
def Ro{c:List (Str×Str×mP)} (hC:yT X.prog X.w X.K X.mg x (c.map λq=>(q.1,q.2.1))) (hF:∀q∈c,nQ X.prog X.w X.K X.mg X.base q.2.1 j n q.2.2) (hr:iO k X.A) (hg:Gl X x) (hi:PM X i mi) (ha:Q8 X (e::es) ff) (hj:j<=k:=by decide)
  (C:Er i:=by exact λ_ _=>rfl) (L:zg x:=by decide) (he:zE e es X:=by rfl) (D:(backTo pos (starEach es X.env)).any (·.1)=false:=by rfl)
  (ht:eval (.Call (.Subscript (.Name x p) i sp) (e::es) [] pos) X.env=(do callWith pos (<-eval (.Subscript (.Name x p) i sp) X.env) [] (backTo pos (starEach (e::es) X.env)) (backToKw pos (keywordEach [] X.env))):=by rfl):
  PM X (.Call (.Subscript (.Name x p) i sp) (e::es) [] pos) (NM n c mi ff):=by
 obtain⟨ad,vs,M,S,h3,_,h4⟩:=hC.ex;intro b s σ H Q I ⟨ρ,μ,v,μ',G,U,hu,e1,k⟩;obtain⟨⟨r,μ1⟩,e2,N⟩:=bind_some e1;rcases r with r|_|_<;>try (cases N;done)
 cases r with
 |str y=>
  obtain⟨F,e4,e5⟩:=bind_some N;obtain⟨⟨P,μ2⟩,e6,m⟩:=bind_some e5;by_cases J:P.length=n
  ·simp only[ah J] at m;obtain⟨R,l2⟩:=KW e4;rcases h4 y with ⟨g,_⟩ | ⟨fn,f,g,g2,g3⟩
   ·rw[R] at g;cases g
   rw[R] at g;cases g;obtain⟨T,fd,ps,Fn,hm,hk,hb⟩:=(hF _ l2).ex;have ef:T=f:=by have:(Value.ref T)=.ref f:=bu (hm.symm.trans g3);cases this;rfl
   subst ef;refine Call_ (Cu PySem.F.slot_dict_getitem.lookup C (oP I hg M (hZ (@hi b s σ H (λu H1=>∃d a,eZ G d/\pG U a/\iG X.K σ ρ μ1 H1 d a/\u=.str y) I ⟨ρ,μ,_,_,G,U,hu,e2,λu H1 d a l z M i1=>⟨d,a,l,z,M,dy.fz.mp (hE.hI.mp i1)⟩⟩) ?_) L)) ht;rintro iv t ⟨u,H1,o,r1,d,a,l,z,B,eu⟩;subst eu;have h:=h3 t.heap o.ue;refine⟨h.typeIs,?_⟩;refine eI (mK (k:=.inr y) r1) h.mapOf g2 ?_;have I2:=o.tok (t.toks+1);refine W.callWith_K (h₀:=X.base) o.ok.mod.Ur hk (hZ (@ha pos b _ σ H1 _ (o.tok _) ⟨ρ,μ1,P,μ2,d,a,B,e6,λO H2 G2 as2 s2 x2 S i2=>Hu (E:=λ_ _ _=>False) S (vs:=O++[]) (by rw[aL];exact i2) J m (k.later (l.trans s2) (z.trans x2))⟩) ?_) he D;rintro O l ⟨ws,H2,V,rr,q⟩;refine⟨V.ue,?_⟩;exact yh (Fn.mono hj) hr hb .nil oa V rr q
  ·simp only[ai J] at m;cases m
 |_=>cases N
end
section
variable {a c i:Expr}{rest:Lx}{g:eW->eW->Od}{ma mb mc m mo mk:MF}{ff:Ah}{sp:Pos}{ga gb:MR->MH->Option (Bool×MH)}{j k:Nat}
def WW(r q:MV)(μ:MH):Option MV:=match r with
 |.l n=>match μ[n]? with
  |some (.lst xs)=>match q with
   |.d (.int i)=>pJ xs i
   |_=>Z
  |some (.jt kvs)=>((qs q).bind pq).bind λy=>tf y kvs
  |_=>Z
 |.t xs=>match q with
  |.d (.int i)=>pJ xs i
  |_=>Z
 |.d (.list ds)=>match q with
  |.d (.int i)=>(pJ ds i).map .d
  |_=>Z
 |.d (.tuple ds)=>match q with
  |.d (.int i)=>(pJ ds i).map .d
  |_=>Z
 |.d (.dict kvs)=>if fZ kvs=true then Z else (qs q).bind λy=>(pq y).bind λ_=>(jb y kvs).map .d
 |_=>Z
def xR(b a:MF):MF:=λρ μ=>(b ρ μ).bind λr=>(a ρ r.2).bind λq=>(WW r.1 q.1 q.2).map λv=>(v,q.2)
def xS{as:AL}{a:List MV}{i:Int}{m:MV}(h:fL K G as a vs)(e:pJ a i=Y m):∃v,pJ vs i=Y v/\hE K G as m v:=by obtain⟨j,f,d⟩:=bind_some e;obtain⟨v,c,b⟩:=h.get d;exact⟨v,by show (Co vs.length i).bind _=_;rw[<-h.length,f];exact c,b⟩
def Ji{i:Int}(e:pJ ds i=Y d):pJ (ds.map MV.d) i=zd d:=by obtain⟨j,b,a⟩:=bind_some e;show (Co (ds.map MV.d).length i).bind _=_;rw[aC,b];show (ds.map MV.d)[j]?=_;rw[az,a];rfl
def oA(R:X.A.units+64<cLine)(ha:PM X a ma)(hb:PM X b mb)(hs:ui b:=by exact λ_ _=>rfl)(hs2:Er b:=by exact λ_ _=>rfl):PM X (.Subscript a b pos) (xR ma mb) :=
 PE.imp (PE.or (PE.or (Mx IJ ha hb hs) (Mx My ha hb hs)) (IM (by omega) ha hb hs2)) <| by
  rintro σ H Q ⟨ρ,μ,v,μ',G,as,R,e,k⟩;obtain⟨⟨r,μ1⟩,W,e2⟩:=bind_some e;obtain⟨⟨q,μ2⟩,U,e4⟩:=bind_some e2;obtain⟨y,f,e6⟩:=aa.mp e4;cases e6;have M:∀{i:Int}{K:Fg}{G:Hp}{as:AL}{u:V},hE K G as (.d (.int i)) u->u=.int i:=λh=>dy.fw.mp (hE.hI.mp h);unfold WW at f;cases r with
  |l nn=>
   dsimp only at f;split at f
   ·rename_i xs N;split at f
    ·rename_i i;refine .inl (.inl ⟨ρ,μ,_,_,G,as,R,W,λu H1 L j x s F E=>⟨ρ,μ1,_,_,L,j,F,U,λw I J c n m o D=>?_⟩⟩);obtain⟨a,ea,rfl⟩:=hE.kU.mp (E.mono n.sim m);obtain⟨a',O,q1,C,B,_⟩:=o.h.lst N;rw[ea] at q1;cases q1;obtain⟨t,g,P⟩:=xS B f;exact⟨a.1,O,_,t,rfl,M D,ng.of C,g,k t I J c (x.trans n) (s.trans m) o P⟩
    ·cases f
   ·rename_i kvs N;obtain⟨ky,e8,e9⟩:=bind_some f;obtain⟨dk,T,g⟩:=bind_some e8;have:=g9 g;subst this;refine .inr ⟨ρ,μ,_,_,G,as,R,W,λu H1 L j x s F E=>⟨ρ,μ1,_,_,L,j,F,U,λw I J c n m o D=>?_⟩⟩;obtain⟨a,ea,rfl⟩:=hE.kU.mp (E.mono n.sim m);obtain⟨a',kv,q1,C,B,_⟩:=o.h.jt N;rw[ea] at q1;cases q1;rcases B.val (k:=ky) with ⟨p,_⟩ | ⟨z,t,p,z2,z3⟩
    ·rw[e9] at p;cases p
    ·rw[e9] at p;cases p;rw[iz (hE.dat T D)];exact⟨a.1,t,rfl,by rw[<-z2];exact pL.k C,k t I J c (x.trans n) (s.trans m) o z3⟩
   ·cases f
  |t xs=>
   dsimp only at f;split at f
   ·refine .inl (.inr ⟨ρ,μ,_,_,G,as,R,W,λu H1 L j x s F E=>⟨ρ,μ1,_,_,L,j,F,U,λw I J c n m o D=>?_⟩⟩);obtain⟨q,O,rfl,C,B⟩:=hE.yN.mp (E.mono n.sim m);obtain⟨t,g,P⟩:=xS B f;exact⟨q,O,_,t,rfl,M D,o.h.sub.sC C,g,k t I J c (x.trans n) (s.trans m) o P⟩
   ·cases f
  |d dd=>
   cases dd with
   |list ds=>
    dsimp only at f;split at f
    ·obtain⟨z,N,rfl⟩:=aa.mp f;refine .inl (.inl ⟨ρ,μ,_,_,G,as,R,W,λu H1 L j x s F E=>⟨ρ,μ1,_,_,L,j,F,U,λw I J c n m o D=>?_⟩⟩);obtain⟨q,O,rfl,C,B⟩:=dy.fG.mp (hE.hI.mp (E.mono n.sim m));obtain⟨t,g,P⟩:=xS (uP (as:=c) B) (Ji N);exact⟨q,O,_,t,rfl,M D,o.h.sub.seq C,g,k t I J c (x.trans n) (s.trans m) o P⟩
    ·cases f
   |tuple ds=>
    dsimp only at f;split at f
    ·obtain⟨z,N,rfl⟩:=aa.mp f;refine .inl (.inr ⟨ρ,μ,_,_,G,as,R,W,λu H1 L j x s F E=>⟨ρ,μ1,_,_,L,j,F,U,λw I J c n m o D=>?_⟩⟩);obtain⟨q,O,rfl,C,B⟩:=(hE.hI.mp (E.mono n.sim m)).gP;obtain⟨t,g,P⟩:=xS (uP (as:=c) B) (Ji N);exact⟨q,O,_,t,rfl,M D,o.h.sub.sC C,g,k t I J c (x.trans n) (s.trans m) o P⟩
    ·cases f
   |dict kvs=>
    dsimp only at f;by_cases S:fZ kvs=true
    ·rw[ah S] at f;cases f
    rw[ai S] at f;obtain⟨dk,N,e8⟩:=bind_some f;obtain⟨ky,e9,T⟩:=bind_some e8;obtain⟨z,g,rfl⟩:=aa.mp T;have:=g9 e9;subst this;refine .inr ⟨ρ,μ,_,_,G,as,R,W,λu H1 L j x s F E=>⟨ρ,μ1,_,_,L,j,F,U,λw I J c n m o D=>?_⟩⟩;obtain⟨q,kv,rfl,C,B⟩:=(hE.hI.mp (E.mono n.sim m)).oR (by simpa using S);rcases B.val (y:=ky) with ⟨p,_⟩ | ⟨d',t,p,z2,z3⟩
    ·rw[g] at p;cases p
    ·rw[g] at p;cases p;rw[iz (hE.dat N D)];exact⟨q,t,rfl,by rw[<-z2];exact pL.r (o.h.sub.rd C),k t I J c (x.trans n) (s.trans m) o (hE.hI.mpr z3)⟩
   |_=>cases f
def k6.frame{f:Value->Value->Sem Value}{r:R2}(h:k6 X f r):k6 X f (λx y H Q=>∃G B,H=fi G B/\j6 G B/\r x y G λv b=>j6 b B->Q v (fi b B)):=by intro c s σ H x y v u Q I i g ⟨G,B,l,d,j⟩;subst l;obtain⟨o,n,_,_,a⟩:=Bp d.ok I d;refine hZ (h _ s σ G x y v u _ n i g j) ?_;rintro w e ⟨z,b,J,r,q⟩;obtain⟨k,m⟩:=a b e σ J;exact⟨z,fi b B,m,r,q k⟩
def m2(g:eW->eW->Od)(b a:MF):MF:=λρ μ=>(b ρ μ).bind λr=>(a ρ r.2).bind λq=>(qs r.1).bind λx=>(qs q.1).bind λy=>(g x y).map λd=>(.d d,q.2)
def tM2{Q:VK}(h:∃ρ μ v μ' G as,iG X.K σ ρ μ H G as/\m2 g ma mb ρ μ=Y (v,μ')/\KM X.K σ ρ G as μ' v Q):
  WR (λx y H Q=>∃G B,H=fi G B/\j6 G B/\Zx X.K g x y G λv a=>j6 a B->Q v (fi a B)) (λσ H Q=>∃ρ μ v μ' G as,iG X.K σ ρ μ H G as/\ma ρ μ=Y (v,μ')/\KM X.K σ ρ G as μ' v Q) (λσ H Q=>∃ρ μ v μ' G as,iG X.K σ ρ μ H G as/\mb ρ μ=Y (v,μ')/\KM X.K σ ρ G as μ' v Q) σ H Q:=by
 obtain⟨ρ,μ,v,μ',G,as,C,e,k⟩:=h;obtain⟨⟨r,μ1⟩,S,R⟩:=bind_some e;obtain⟨⟨q,μ2⟩,P,O⟩:=bind_some R;obtain⟨U,N,M⟩:=bind_some O;obtain⟨T,L,J⟩:=bind_some M;obtain⟨d,I,f⟩:=aa.mp J;cases f;refine⟨ρ,μ,_,_,G,as,C,S,λu H1 W l s p D A=>⟨ρ,μ1,_,_,W,l,D,P,λw H2 V j n m o t=>?_⟩⟩;obtain⟨B,F,E,mb⟩:=o.h.ex;exact⟨V,B,F,E,U,T,d,hE.dat N (A.mono n.sim m),hE.dat L t,I,λz a b i c=>k z _ a j (s.trans (n.trans b)) (p.trans m) (o.mono b.sim (.refl _) ⟨B,rfl,c,mb.mono b.sim (.refl _)⟩) (hE.hI.mpr i)⟩
def Vu{c:CmpOp}(d:uf X (compareOp c) g)(i:PM X a ma)(f:PM X b mb)(e:behindInMarks c b=false:=by first|exact GF _|with_unfolding_all rfl):PM X (.Compare a [c] [b] pos) (m2 g ma mb):=PE.imp (IE (k6.frame d) i f e) λ_ _ _ h=>tM2 h
def KY(b a:MF):MF:=λρ μ=>(b ρ μ).bind λr=>match r.1 with
 |.d (.bool true)=>a ρ r.2
 |.d (.bool false)=>Y (.d (.bool false),r.2)
 |_=>Z
def Jj(o:PM X a ma)(n:PM X (.BoolOp .And (b::rest) pos) mb):PM X (.BoolOp .And (a::b::rest) pos) (KY ma mb) :=
 PE.imp (Mc o n) <| by
  rintro σ H Q ⟨ρ,μ,v,μ',G,q,m,e,k⟩;obtain⟨⟨r,μ1⟩,p,f⟩:=bind_some e;rcases r with d|_|_<;>try (cases f;done)
  obtain⟨y,rfl⟩:∃y,d=.bool y:=by cases d<;>first|exact⟨_,rfl⟩|cases f
  refine⟨ρ,μ,_,_,G,q,m,p,λu s j c h g i l=>⟨y,dy.fC.mp (hE.hI.mp l),?_⟩⟩;cases y with
  |true=>rw[ah rfl];exact⟨ρ,μ1,_,_,j,c,i,f,k.later h g⟩
  |false=>rw[ai aF];cases f;exact k _ s j c h g i (hE.hI.mpr (dy.fC.mpr rfl))
def KZ(n:Nat)(f:Lp->Od)(b:Ah):MF:=λρ μ=>(b ρ μ).bind λr=>(uI r.1).bind λa=>if a.length=n then (f a).map λd=>(.d d,r.2) else Z
def C6(m:MF):Ah:=λρ μ=>(m ρ μ).bind λr=>match r.1 with
 |.d (.list ds)=>Y ((qA ds).map .d,r.2)
 |_=>Z
def NN{a:Lx}{q:Nat}{n:Pos}(x:Gl X "enumerate")(w:X.mg "enumerate"=Z)(h:PM X e m)(v:starEach [e] X.env=[(false,eval e X.env)]:=by rfl):ZK X (.Tuple a q n) (.Call (.Name "enumerate" p) [e] [] pos) (C6 m) :=
 PI.imp (I7 x w h v) <| by
  rintro σ H R ⟨ρ,μ,D,μ',G,A,t,e,k⟩;obtain⟨⟨r,μ1⟩,z,b⟩:=bind_some e;refine⟨ρ,μ,r,μ1,G,A,t,z,λu B C c o i f s=>?_⟩;rcases r with d|_|_<;>try (cases b;done)
  cases d with
  |list E=>cases b;obtain⟨l,j,rfl,g,y⟩:=dy.fG.mp (hE.hI.mp s);exact⟨l,j,rfl,f.h.sub.seq g,k _ B C c o i f (wB g y).u⟩
  |_=>cases b
def Rp(F:Nat) {y:Str}{A c:Pos}{j b:Expr}{p:Pos}{i:Lx} (a:List (Nat×Str)) {g:bb->Option Bool} (U:X.N.Nodup)
  (P:M4 X (.Name x p) b q)
  (M:∀C s H fp,yr (mM X scope C (x::a.map (·.2)) s H fp) i g)
  (Q:∀C s H fp,PD (mM X scope C (x::a.map (·.2)) s H fp) j f)
  (R:X.calm=true:=by rfl) (S:kq scope x:=by exact⟨rfl,by decide +kernel,by decide +kernel,rfl,aV⟩) (l:yJ X scope=true:=by rfl) (m:lI X scope a:=by repeat' (first|exact aV|refine⟨⟨rfl,.inl rfl,rfl⟩,?_⟩|refine⟨⟨rfl,.inr rfl,rfl⟩,?_⟩)) (u:(x::a.map (·.2)).Nodup:=by decide +kernel)
  (w:X.N[F]?=Y y:=by rfl) (L:X.env.scope.names.lookup y=Y .local:=by rfl) (t:swapsWith (.ListComp j [⟨.Name x p,b,i,0⟩] scope pos) (Y (.Name y A)) c.line X.env=pure true:=by rfl)
  (O:∀x,foldedSetIterable b X.env x=pure x:=by intro _;rfl):PU X (.Assign [.Name y A] (.ListComp j [⟨.Name x p,b,i,0⟩] scope pos) c) (hU (fF (jg q a g f)) F):=by
 intro E s σ H D I T;refine PS.imp (PS.frame (IV (CF R S (mr I l) m u P M Q) S (mr I l) U w L t O)) (?_) s σ H D I T;rintro D σ H ⟨ρ,μ,o,G,as,r,e,k⟩;obtain⟨⟨v,μ1⟩,e1,rfl⟩:=aa.mp e;obtain⟨d,e2,e3⟩:=aa.mp e1;cases e3;obtain⟨B,W,V,J⟩:=r.h.ex;refine⟨G,B,W,V,uJ ρ,d,r.dat,e2,λv G' n K z=>?_⟩;exact k _ _ G' as n (.refl _) (iG.set (r.mono n.sim (.refl _) ⟨B,rfl,z,J.mono n.sim (.refl _)⟩) (hE.hI.mpr K))
def NO(m:MF):MF:=λρ μ=>(m ρ μ).bind λr=>match r.1 with
 |.l n=>match r.2[n]? with
  |some (.lst xs)=>(uI xs).map λa=>(.d (.list a),r.2)
  |_=>Z
 |_=>Z
def Rq(E:Gl X "list")(C:X.mg "list"=Z)(h:PM X e m)(q:starEach [e] X.env=(false,eval e X.env)::starEach [] X.env:=by rfl)(f:(backTo pos (starEach [] X.env)).any (·.1)=false:=by rfl):PM X (.Call (.Name "list" p) [e] [] pos) (NO m) :=
 PE.imp (vy uj E C (by rfl) (ft h gZ q) (by decide) (by decide) q f) <| by
  rintro σ H Q ⟨ρ,μ,v,μ',G,N,B,e,k⟩;obtain⟨⟨r,μ1⟩,M,b⟩:=bind_some e;refine⟨ρ,μ,[r],μ1,G,N,B,by show (m ρ μ).bind _=_;rw[M];rfl,λR W G1 i t s g A=>?_⟩;obtain⟨u,S,rfl,z,y⟩:=fL.da.mp A;rw[fL.fe.mp y];cases r with
  |l T=>
   dsimp only at b;split at b
   ·rename_i P L;obtain⟨U,K,J⟩:=aa.mp b;cases J;obtain⟨a,I,rfl⟩:=hE.kU.mp z;obtain⟨V,c,j,x,w,_⟩:=g.h.lst L;rw[I] at j;cases j;refine⟨a.1,c,rfl,.inl (ng.of x),λl n=>?_⟩;obtain⟨O,d,F,D⟩:=g.h.NG (ka (o:=.lst c) n);exact k _ _ O i (t.trans d) s (g.mono d.sim (.refl _) D) (hE.hI.mpr (dy.fG.mpr ⟨l,c,rfl,ng.of (by rw[F l n];exact fx),(fL.dat K w).same d⟩))
   ·cases b
  |_=>cases b
end
section
variable {a c i:Expr}{rest:Lx}{m:MF}{sp:Pos}{ga gb:MR->MH->Option (Bool×MH)}
def Ru{b:BoolOp}(h:PM X a m):PM X (.BoolOp b [a] pos) m:=Mb h
def ZL(X:Cx)(e:Expr)(f:MR->MH->Option (Bool×MH)):Prop:=PW X e (λσ H Q=>∃ρ μ b μ' G c,iG X.K σ ρ μ H G c/\f ρ μ=Y (b,μ')/\∀d g a,eZ G g->pG c a->iG X.K σ ρ μ' d g a->Q b d)
def Yk(h:ZL X e ga):Q9 X e ga:=h.pt
def NP(h:Q9 X a ga):ZL X (.BoolOp .And [a] pos) ga:=Iy h
def T1(b a:MR->MH->Option (Bool×MH)):MR->MH->Option (Bool×MH):=λρ μ=>(b ρ μ).bind λr=>if r.1=true then a ρ r.2 else Y (false,r.2)
def Rv(p:Q9 X a ga)(o:ZL X (.BoolOp .And (b::rest) pos) gb):ZL X (.BoolOp .And (a::b::rest) pos) (T1 ga gb) :=
 PW.imp (Ma p o) <| by
  rintro σ H Q ⟨ρ,μ,y,μ',G,s,n,e,k⟩;obtain⟨⟨z,μ1⟩,r,i⟩:=bind_some e;refine⟨ρ,μ,z,μ1,G,s,n,r,λu j c g f h=>?_⟩;cases z with
  |true=>rw[ah rfl];exact⟨ρ,μ1,y,μ',j,c,h,i,λt v d m l q=>k t v d (g.trans m) (f.trans l) q⟩
  |false=>rw[ai aF];cases i;exact k u j c g f h
def Yl(a:Nat)(b:Int->Int->Int)(m:MF):MS:=λρ μ=>(ρ[a]?).join.bind λy=>(m ρ μ).bind λq=>match y,q.1 with
 |.d (.int i),.d (.int j)=>Y (.nx (ρ.set a (zd (.int (b i j)))) q.2)
 |_,_=>Z
def Vv(c:Nat) {a:Pos}{f:Operator}{g:Int->Int->Int} (z:X.N.Nodup) (r:WQ X f (Xc g)) (w:PM X e m) (s:X.N[c]?=Y x:=by rfl) (p:Iv X.env.scope x:=by first|exact b5 rfl|exact bN rfl)
  (t:X.fn x=true\/X.env.scope.names.lookup x=Y .local:=by first|exact .inl rfl|exact .inr rfl|assumption):PU X (.AugAssign (.Name x a) f e pos) (Yl c g m) :=
 PS.imp (Mn z s p w r t) <| by
  rintro D σ H ⟨ρ,μ,L,G,J,h,e,k⟩;obtain⟨y,I,B⟩:=bind_some e;obtain⟨⟨q,μ1⟩,F,b⟩:=bind_some B;rcases y with y|_|_<;>try (cases b;done)
  cases y with
  |int i=>
   rcases q with q|_|_<;>try (cases b;done)
   cases q with
   |int j=>cases b;obtain⟨v,E,C⟩:=h.loc c _ (join_some I);refine⟨v,E,ρ,μ,_,_,G,J,h,F,λu M K d n l A o=>⟨i,j,dy.fw.mp (hE.hI.mp C),dy.fw.mp (hE.hI.mp o),?_⟩⟩;exact k _ _ K d n l (A.set (hE.hI.mpr (dy.fw.mpr rfl)))
   |_=>cases b
  |_=>cases b
end
def nQ.up{P:Program}{w:World}{b:Heap}{k c:Nat}{F:mP}(h:nQ P w K mg b x k n F)(e:k<=c):nQ P w K mg b x c n F:=by obtain⟨a,f,d,g,r⟩:=h.ex;exact⟨a,f,d,g.mono e,r⟩
section
variable {a:Expr}
def vP(a:List (eW×eW))(k:eW):Od:=(pq k).map λ_=>.bool (!(jb k a).isSome)
theorem HA(F:lL X.prog X.w X.K X.mg x kvs)(D:Gl X x)(E:PD X a fa)(C:behindInMarks .NotIn (.Name x p)=false:=by with_unfolding_all rfl)(c:zg x:=by decide):Bi X (.Compare a [.NotIn] [.Name x p] pos) (fB (λρ=>(fa ρ).bind (vP kvs))):=by
 obtain⟨m,n,M,L,J,G⟩:=F.ex;have A:k6 X (compareOp .NotIn) (λy z H Q=>∃k:Key,y=kV k/\z=.ref m/\Q (.bl (!(valueAt n k).isSome)) H):=by intro j s σ H y z v u Q I t r ⟨k,h,g,q⟩;subst h g;cases r;exact wpAny_notIn_of (mK t) L (J s.heap I.ue).mapOf ⟨.bl _,H,I.tok _,rfl,q⟩
 refine PT.imp (xG A E (xF (v:=.ref m) D M rfl c) C) ?_;rintro σ H Q ⟨ρ,d,B,h,k⟩;obtain⟨y,g,P⟩:=bind_some (xI h);obtain⟨l,O,N⟩:=aa.mp P;have:=g9 O;subst this;refine⟨ρ,_,B,g,λv R o i=>⟨l,iz i,rfl,?_⟩⟩;have b:=k R o;cases N;rcases G l with ⟨f,e⟩ | ⟨W,S,T,f,e,V,U⟩
 ·rw[f] at b;rw[e];exact⟨_,rfl,b⟩
 ·rw[f] at b;rw[e];exact⟨_,rfl,b⟩
end
section
variable {ff:Ah}{j k:Nat}
theorem C7{f:Lp->Od} (N:rh X.prog X.w X.K X.mg X.base x j n f) (hr:iO k X.A) (hg:Gl X x) (ha:Q8 X (e::es) ff) (hj:j<=k:=by decide) (D:zg x:=by decide)
  (he:zE e es X:=by rfl) (z:(backTo pos (starEach es X.env)).any (·.1)=false:=by rfl):PM X (.Call (.Name x p) (e::es) [] pos) (KZ n f ff):=by
 obtain⟨a,fd,ps,Fn,hm,hk,hb⟩:=N.ex;intro l s σ H Q I ⟨ρ,μ,v,μ',G,O,hu,e1,k⟩;obtain⟨⟨V,μ1⟩,e2,e3⟩:=bind_some e1;obtain⟨F,e4,q⟩:=bind_some e3;by_cases C:F.length=n
 ·rw[ah C] at q;obtain⟨d,e6,e7⟩:=aa.mp q;cases e7;refine bg (oP I hg hm ?_ D);refine W.callWith_K (h₀:=X.base) I.ok.mod.Ur hk (hZ (@ha pos l s σ H (λus H1=>∃g b,eZ G g/\pG O b/\iG X.K σ ρ μ1 H1 g b/\c6 X.K g F us) I ⟨ρ,μ,V,μ1,G,O,hu,e2,λus H1 g b L S o y=>⟨g,b,L,S,o,fL.dat e4 y⟩⟩) ?_) he z;rintro us L ⟨vs,H1,P,r,g,b,T,R,o,y⟩;refine⟨P.ue,?_⟩;obtain⟨B,eH,M,mb⟩:=o.h.ex;subst eH;obtain⟨PB,I2,_,_,m⟩:=Bp M.ok P M;refine hZ (yh (Q:=λu i=>eZ g i/\dy X.K i d u) (E:=E0) (Fn.mono hj) hr hb .nil oa I2 r ⟨F,d,by rw[aL];exact y,C,e6,KO.kd λu i t i'=>⟨t,i'⟩⟩) ?_;rintro w t ⟨u,i,J,U,c,iu⟩;obtain⟨f',J'⟩:=m i t σ J;exact⟨u,fi i B,J',U,k u _ i b (T.trans c) R (o.mono c.sim (.refl _) ⟨B,rfl,f',mb.mono c.sim (.refl _)⟩) (hE.hI.mpr iu)⟩
 ·rw[ai C] at q;cases q
end
end L2
namespace K07
open PySem L2
def jG(i:Nat):Stmt:=PySem.Challenge.pw_pointsure_k07_copies_told.main.body.getD i (.Pass ⟨0,0,0,0⟩)
noncomputable def C8:List (eW×eW):=[((.str "new"),(.tuple [(.str "X"),(.str "KIND")])),((.str "row"),(.tuple [(.str "X")])),((.str "func"),(.tuple [(.str "X"),(.str "FUNCTION"),(.str "A")])),((.str "copy"),(.tuple [(.str "X"),(.str "Y")])),((.str "take"),(.tuple [(.str "X"),(.str "Y"),(.str "FIELD")])),((.str "put"),(.tuple [(.str "Y"),(.str "FIELD"),(.str "X")])),((.str "push"),(.tuple [(.str "Y"),(.str "X")])),((.str "pull"),(.tuple [(.str "X"),(.str "Y")])),((.str "do"),(.tuple [(.str "X"),(.str "Y"),(.str "A")])),((.str "ask"),(.tuple [(.str "X"),(.str "Y"),(.str "METHOD"),(.str "A")])),((.str "straight"),(.tuple [(.str "X"),(.str "Y"),(.str "KIND"),(.str "METHOD"),(.str "A")])),((.str "give"),(.tuple [(.str "X")])),((.str "tell"),(.tuple [(.str "X")])),((.str "rest"),(.tuple [])),((.str "check"),(.tuple [(.str "Y"),(.str "FIELD")])),((.str "fresh"),(.tuple [(.str "X"),(.str "KIND")])),((.str "own"),(.tuple [(.str "X"),(.str "Y"),(.str "FIELD")])),((.str "place"),(.tuple [(.str "Y"),(.str "FIELD"),(.str "X")]))]
noncomputable def nT:List (eW×eW):=[((.str "choose"),(.tuple [])),((.str "some"),(.tuple [(.str "X")])),((.str "same"),(.tuple [(.str "X"),(.str "Y")]))]
noncomputable def xT:List (eW×eW):=[((.str "take"),(.str "record")),((.str "put"),(.str "record")),((.str "check"),(.str "record")),((.str "ask"),(.str "record")),((.str "straight"),(.str "record")),((.str "push"),(.str "row")),((.str "pull"),(.str "row")),((.str "do"),(.str "func")),((.str "own"),(.str "mark")),((.str "place"),(.str "mark"))]
noncomputable def sj:List (Str×Str):=[("new","do_new"),("row","do_row_thing"),("func","do_func"),("copy","do_copy"),("take","do_take"),("put","do_put"),("push","do_push"),("pull","do_pull"),("tell","do_tell"),("rest","do_nothing"),("check","do_nothing"),("fresh","do_fresh"),("own","do_own"),("place","do_place")]
abbrev K0:Stmt:=jG 24
def K1:bb->Option gC :=
(fq (kK (fB (d2 CH (zX (a7 0) (zI 0)) (dC (.tuple [(.str "if"),(.str "while")]))))
(fq (kK (qO (fB (d2 U2 (zN (a7 0)) (zI 1))) (fB (λρ=>((zX (a7 0) (zI 1)) ρ).bind (Ny nT))))
(gA (d2 kb (lz (zC "CONDITION" f7)) (λρ=>((zX (a7 0) (zI 1)) ρ).bind (Nz nT))))
gX)
(gA (dC .none)))
gX)
(gA (λρ=>((zX (a7 0) (zI 0)) ρ).bind (TX C8))))
def sk:Lp->Od:=jS ["words"] K1
abbrev HB:Stmt:=jG 25
def Ay:bb->Option gC :=
(mD (.sl 1) (iF [1] (zA "A")))
def HC:bb->Option gC :=
(fq (nE (iF [1] (lj kM (zQ (jR 1 sk (zQ (a7 0)))))) 1)
(fq (CK (fB (d2 An (zN (a7 1)) (d2 MN (zN (a7 0)) (zI 1)))) Ay)
(gA (d2 X9 (a7 1) (iE (a7 0) (iV (zI 1)) jV)))))
def qt:Lp->Od:=jS ["words","form"] HC
abbrev HE:Stmt:=gM (jG 20) 0
def Az:bb->Option Bool:=(fB (d2 kJ (a7 0) (zA "A")))
def AA:bb->Od:=(a7 1)
def AB:bb->Option Bool:=(fB (d2 CH (a7 0) (lz (zC "X" (zC "Y" (zC "A" f7))))))
def AD:bb->Od:=(a7 1)
def HF:bb->Option gC :=
(fq (ig (iF [0] (lj CP (zQ (jR 1 qt (zQ (a7 1)))))) 2)
(fq (jw 0 "Row" "word" (iF [0] (zX (a7 1) (zI 0))))
(fq (jw 0 "Row" "condition" (iF [0] (d2 nq (a7 2) (zA "CONDITION"))))
(fq (jw 0 "Row" "x" (iF [0] (d2 nq (a7 2) (zA "X"))))
(fq (jw 0 "Row" "y" (iF [0] (d2 nq (a7 2) (zA "Y"))))
(fq (jw 0 "Row" "kind" (iF [0] (d2 nq (a7 2) (zA "KIND"))))
(fq (jw 0 "Row" "field" (iF [0] (d2 nq (a7 2) (zA "FIELD"))))
(fq (jw 0 "Row" "method" (iF [0] (d2 nq (a7 2) (zA "METHOD"))))
(fq (jw 0 "Row" "function" (iF [0] (d2 nq (a7 2) (zA "FUNCTION"))))
(fq (jw 0 "Row" "handed" (iF [0] (CV (og (jR 1 qt (zQ (a7 1)))) [] Az AA)))
(jw 0 "Row" "names" (iF [0] (CV (og (jR 1 qt (zQ (a7 1)))) [] AB AD)))))))))))))
def oB:Lp->Option (eW×eW):=pQ ["self","words","parts"] HF
abbrev tP:Stmt:=gM (jG 70) 5
def oD:bb->Option gC :=
(gA (zX (zX (fJ ["Program"] "numbered" (a7 0)) (a7 1)) (zI 2)))
def jz:Lp->Od:=jS ["self","number"] oD
abbrev xf:Stmt:=gM (jG 70) 1
def qC:bb->Option gC :=
(gA (fJ ["Program"] "text" (a7 0)))
def hJ:Lp->Od:=jS ["self"] qC
abbrev xg:Stmt:=jG 10
def oE:bb->Option Bool:=(λ_=>Y true)
def oF:bb->Od:=(xM iW (a7 0) (zC " " f7))
def qD:bb->Option gC :=
(gA (jg (og (xM iW (iK "Program" "shown" 1 hJ (a7 0) f7) (zC "\n" f7))) [] oE oF))
def jH:Lp->Od:=jS ["program"] qD
abbrev tQ:Stmt:=jG 12
def tR:bb->Option gC :=
(fq (kK (qO (vp (a7 0)) (fB (d2 kJ (zX (a7 0) (zI 0)) (zA "of"))))
(gA (lz (gq (zX (a7 0) (zI 1)) (zQ (iE (a7 0) (iV (zI 3)) jV)))))
gX)
(gA (lz (gq (dC .none) (zQ (iE (a7 0) (iV (zI 1)) jV))))))
def k9:Lp->Od:=jS ["words"] tR
abbrev C9:Stmt:=jG 11
def hP:bb->Option gC :=
(fq (kK (fB (d2 w8 (zX (a7 2) (zI 0)) (zA "kind")))
(λρ=>Y (.bk ρ))
gX)
(uy (.sl 1) (iF [1] (zX (a7 2) (zI 1))) (iF [1] (jR 1 k9 (zQ (iE (a7 2) (iV (zI 2)) jV))))))
def uQ:bb->Option gC :=
(fq (nE (iF [1] (dC (.dict []))) 1)
(fq (qz (L3 [1] (oV (jR 1 jH (zQ (a7 0))))) (.one 2) hP)
(gA (a7 1))))
def kz:Lp->Od:=jS ["program","table","words"] uQ
abbrev AE:Stmt:=jG 8
def pA:bb->Option gC :=
(gA (dFs (EK (X6 (a7 0)) (EK (zA ".") (EK (X6 (a7 1)) (λ_=>Y Str.empty))))))
def jM:Lp->Od:=jS ["kind","method"] pA
abbrev E9:Stmt:=jG 9
def rn:bb->Option gC :=
(fq (kK (fB (d2 kJ (zX (a7 0) (zI 0)) (zA "method")))
(gA (jR 2 jM (gq (zX (a7 0) (zI 1)) (zQ (zX (a7 0) (zI 2))))))
gX)
(fq (kK (fB (d2 kJ (zX (a7 0) (zI 0)) (zA "func")))
(gA (zX (a7 0) (zI 1)))
gX)
(gA (zA "main"))))
def gv:Lp->Od:=jS ["head"] rn
abbrev Dc:Stmt:=jG 14
def fP:bb->Option gC :=
(kK (fB (d2 kJ (zX (a7 3) (zI 0)) (zA "end")))
(Kz 2 (λi j=>i - j) (iF [1] (zI 1)))
(kK (qO (fB (d2 kJ (a7 2) (zI 0))) (fB (d2 w8 (zX (a7 3) (zI 0)) (zA "kind"))))
(fq (uy (.sl 1) (iF [1] (jR 1 gv (zQ (a7 3)))) (iF [1] (a7 3)))
(ig (iF [1] (zI 1)) 2))
(kK (fB (d2 CH (zX (a7 3) (zI 0)) (lz (zC "if" (zC "while" f7)))))
(Kz 2 (λi j=>i+j) (iF [1] (zI 1)))
gX)))
def uR:bb->Option gC :=
(fq (nE (iF [1] (dC (.dict []))) 1)
(fq (ig (iF [1] (zI 0)) 2)
(fq (qz (L3 [1] (oV (jR 1 jH (zQ (a7 0))))) (.one 3) fP)
(gA (a7 1)))))
def iI:Lp->Od:=jS ["program","heads","depth","words"] uR
abbrev sI:Stmt:=gM (jG 70) 4
def nK:bb->Option gC :=
(gA (lj kM (zQ (zX (zX (fJ ["Program"] "numbered" (a7 0)) (a7 1)) (zI 1)))))
def iA:Lp->Od:=yy ["self","number"] nK
abbrev AF:Stmt:=jG 6
def AG:bb->Option gC :=
(fq (kK (fB (d2 kJ (zX (a7 0) (zI 0)) (zA "method")))
(gA (lj kM (zQ (iE (a7 0) (iV (zI 3)) jV))))
gX)
(fq (nE (iF [1] (lj kM (zQ (iE (a7 0) (iV (zI 2)) jV)))) 1)
(fq (kK (fB (d2 CH (zA "keeps") (a7 1)))
(gA (uB (a7 1) jV (iV (QW CN (a7 1) (zC "keeps" f7)))))
gX)
(gA (a7 1)))))
def pB:Lp->Od:=yy ["head","names"] AG
abbrev Fb:Stmt:=jG 7
def Fc:bb->Option gC :=
(fq (kK (Cz (fB (d2 w8 (zX (a7 0) (zI 0)) (zA "func"))) (fB (d2 ql (zA "keeps") (iE (a7 0) (iV (zI 2)) jV))))
(gA (kn f7))
gX)
(fq (ig (iF [] (lj kM (zQ (iE (a7 0) (iV (zI 2)) jV)))) 1)
(gA (uB (a7 1) (iV (d2 kb (QW CN (a7 1) (zC "keeps" f7)) (zI 1))) jV))))
def lq:Lp->Od:=yy ["head","names"] Fc
abbrev uS:Stmt:=jG 13
def i0:bb->Option gC :=
(fq (mD (.sl 2) (iF [2] (a7 3)))
(ig (iF [2] (zX (zX (a7 0) (a7 3)) (zI 0))) 3))
def oX:bb->Option gC :=
(fq (nE (iF [2] (kn f7)) 2)
(fq (ig (iF [2] (a7 1)) 3)
(fq (CK (fB (d2 jy (a7 3) (dC .none))) i0)
(gA (a7 2)))))
def jX:Lp->Od:=jS ["table","kind","line","one"] oX
abbrev Fd:Stmt:=jG 4
def kf:bb->Option gC :=
(uz (.sl 2) (iF [2] (zX (zX (a7 0) (a7 3)) (zI 1))))
def wH:bb->Option gC :=
(fq (nE (iF [2] (kn f7)) 2)
(fq (qz (L3 [2] (Q3 (jR 2 jX (gq (a7 0) (zQ (a7 1)))))) (.one 3) kf)
(gA (a7 2))))
def lu:Lp->Od:=yy ["table","kind","fields","one"] wH
abbrev sJ:Stmt:=gM (jG 70) 3
def nL:bb->Option gC :=
(gA (zN (fJ ["Program"] "numbered" (a7 0))))
def fX:Lp->Od:=jS ["self"] nL
abbrev yU:Stmt:=gM (jG 37) 0
def lM:bb->Option Bool:=(λ_=>Y true)
def jY:bb->Od:=(yA "Row" 2 oB (zQ (iK "Program" "row_words" 2 iA (a7 1) (zQ (a7 0)))))
def lN:bb->Option Bool:=(λ_=>Y true)
def jZ:bb->Od:=(iK "Program" "row_body" 2 jz (a7 1) (zQ (a7 0)))
def oY:MS :=
(fI (uO (gm "Outline" "params" (cn 0)) (cn 2) (KZ 1 pB (c5 (xR (gm "Outline" "heads" (cn 0)) (cn 2)) eX)))
(fI (uO (gm "Outline" "kept" (cn 0)) (cn 2) (KZ 1 lq (c5 (xR (gm "Outline" "heads" (cn 0)) (cn 2)) eX)))
(uO (gm "Outline" "own_rows" (cn 0)) (cn 2) oy)))
def ik:MS :=
(ij (kZ (xR (gm "Outline" "own_rows" (cn 0)) (cn 2)) (cn 3)))
def j0:MS :=
(uO (gm "Outline" "fields" (cn 0)) (cn 4) (KZ 2 lu (c5 (gm "Outline" "table" (cn 0)) (c5 (cn 4) eX))))
def lO:MS :=
(fI (ie "Outline" "rows" (cn 0) (fF (jg (ko (iK "Program" "many_rows" 1 fX (a7 1) f7)) [(1,"program")] lM jY)))
(fI (ie "Outline" "homes" (cn 0) (fF (jg (ko (iK "Program" "many_rows" 1 fX (a7 1) f7)) [(1,"program")] lN jZ)))
(fI (ie "Outline" "table" (cn 0) (fF (jR 1 kz (zQ (a7 1)))))
(fI (ie "Outline" "heads" (cn 0) (fF (jR 1 iI (zQ (a7 1)))))
(fI (ie "Outline" "params" (cn 0) nJ)
(fI (ie "Outline" "kept" (cn 0) nJ)
(fI (ie "Outline" "own_rows" (cn 0) nJ)
(fI (BI (gm "Outline" "heads" (cn 0)) (.one 2) oY)
(fI (xc (C6 (gm "Outline" "homes" (cn 0))) (.many [3,2]) ik)
(fI (ie "Outline" "fields" (cn 0) nJ)
(BI (gm "Outline" "table" (cn 0)) (.one 4) j0)))))))))))
def kg:mP:=hV ["self","program","body","number","kind"] lO
abbrev Dd:Stmt:=jG 35
def fE:MS :=
(fI (hU (fF (xM iW (a7 4) (zC " " f7))) 5)
(fI (hU (fF (zX (a7 5) (zI 0))) 6)
(fI (si (gk (sD (vp (a7 2))))
(fI (si (gk (fB (d2 w8 (a7 6) (zA "kind"))))
(fI (ij (kZ (cn 1) (Vs (c5 (cn 5) (c5 oy eX)))))
(ij (kZ (cn 2) (fF (dC .none)))))
oO)
(λρ μ=>Y (.ct ρ μ)))
oO)
(fI (si (gk (fB (d2 kJ (a7 6) (zA "end"))))
(hU (Vs (c5 (cn 6) (c5 (Rf (cn 2)) eX))) 7)
(si (gk (fB (d2 kJ (a7 6) (zA "else"))))
(hU (fF (lz (gq (a7 6) (zQ (dC .none))))) 7)
(fI (hU (fF (lz (gq (a7 6) (zQ (a7 3))))) 7)
(fI (si (gk (fB (d2 CH (a7 6) (dC (.tuple [(.str "if"),(.str "while")])))))
(ij (kZ (cn 2) (fF (dIf (fB (d2 kJ (a7 6) (zA "while"))) (a7 3) (dC .none)))))
oO)
(Yl 3 (λi j=>i+j) (fF (zI 1)))))))
(si (gk (vp (a7 2)))
(ij (kZ (xR (xR (cn 1) (fF (zI (-1)))) (fF (zI 1))) (cn 7)))
oO)))))
def nU:MS :=
(fI (hU oy 1)
(fI (hU oy 2)
(fI (hU (fF (zI 0)) 3)
(fI (xc (C3 (oV (xM iW (iK "Program" "shown" 1 hJ (a7 0) f7) (zC "\n" f7)))) (.one 4) fE)
(px (cn 1))))))
def kA:Lp->Od:=yS ["program","bodies","blocks","number","row","words","word","mark"] nU
abbrev vQ:Stmt:=gM (jG 34) 1
def iB:MS :=
(si (gk (fB (d2 kJ (a7 4) (zA "end"))))
(fI (ij (kZ (cn 3) (fF (lz (gq (a7 2) (zQ (a7 2)))))))
(si (gk (fB (d2 jy (a7 5) (dC .none))))
(hU (cn 5) 2)
oO))
(si (gk (fB (d2 kJ (a7 4) (zA "else"))))
(fI (uO (cn 3) (fF (zI (-1))) (lp (lz (gq (zX (zX (a7 3) (zI (-1))) (zI 0)) (zQ (a7 2))))))
(hU (xR (xR (cn 3) (fF (zI (-1)))) (fF (zI 0))) 2))
(fI (uO (gm "Flow" "behind" (cn 0)) (cn 5) (cn 2))
(fI (uO (gm "Flow" "otherwise" (cn 0)) (cn 5) (cn 2))
(fI (si (gk (fB (d2 CH (a7 4) (dC (.tuple [(.str "if"),(.str "while")])))))
(uO (gm "Flow" "otherwise" (cn 0)) (cn 5) (xR (Rf (cn 3)) (fF (zI 1))))
oO)
(hU (cn 5) 2))))))
def kB:MS :=
(fI (hU (fF (dC .none)) 2)
(fI (hU oy 3)
(fI (xc (C3 (Q3 (a7 1))) (.many [4,5]) iB)
(px (cn 2)))))
def jk:mP:=hV ["self","marks","follows","blocks","word","number"] kB
abbrev Fe:Stmt:=gM (jG 34) 0
def lP:MS :=
(uO (gm "Flow" "first" (cn 0)) (fF (jR 1 gv (zQ (a7 2)))) (gN "Flow" "join_rows" 2 jk (cn 0) (c5 (cn 3) eX)))
def oZ:MS :=
(fI (ie "Flow" "first" (cn 0) nJ)
(fI (ie "Flow" "behind" (cn 0) nJ)
(fI (ie "Flow" "otherwise" (cn 0) nJ)
(xc (C3 (oV (jR 1 kA (zQ (a7 1))))) (.many [2,3]) lP))))
def mT:mP:=hV ["self","program","head","marks"] oZ
abbrev De:Stmt:=gM (jG 41) 0
def nV:MS :=
(fI (ie "State" "outline" (cn 0) (fF (tN "Outline" 2 kg (zQ (a7 1)))))
(fI (ie "State" "flow" (cn 0) (fF (tN "Flow" 2 mT (zQ (a7 1)))))
(fI (ie "State" "inputs" (cn 0) (fF (lj kM (zQ (a7 2)))))
(fI (ie "State" "used" (cn 0) (fF (zI 0)))
(fI (ie "State" "fuel" (cn 0) (cn 3))
(fI (ie "State" "stack" (cn 0) oy)
(fI (ie "State" "made" (cn 0) oy)
(fI (ie "State" "shown_texts" (cn 0) oy)
(ie "State" "ended" (cn 0) (fF (dC .none)))))))))))
def kC:mP:=hV ["self","program","inputs","fuel"] nV
abbrev Ff:Stmt:=gM (jG 39) 0
def Fh:MS :=
(fI (ie "Call" "body" (cn 0) (cn 1))
(fI (ie "Call" "path" (cn 0) (cn 2))
(fI (ie "Call" "row" (cn 0) (cn 3))
(ie "Call" "named" (cn 0) nJ))))
def wI:mP:=hV ["self","body","path","row"] Fh
abbrev Fi:Stmt:=jG 60
def Fj:MS :=
(fI (hU (rm "Call" 4 wI (c5 (cn 1) (c5 (cn 2) (c5 (xR (qB ["Flow"] "first" (gm "State" "flow" (cn 0))) (cn 1)) eX)))) 3)
(fI (ij (kZ (gm "State" "stack" (cn 0)) (cn 3)))
(px (cn 3))))
def mU:mP:=hV ["state","body","path","call"] Fj
abbrev uT:Stmt:=gM (jG 37) 3
def o2:bb->Option gC :=
(fq (kK (qO (qp qo An (zI 0) (a7 1) (zN (fJ ["Outline"] "rows" (a7 0)))) (fB (d2 kJ (fJ ["Row"] "word" (zX (fJ ["Outline"] "rows" (a7 0)) (a7 1))) (a7 2))))
(gA (zX (fJ ["Outline"] "rows" (a7 0)) (a7 1)))
gX)
(gA (dC .none)))
def j3:Lp->Od:=jS ["self","number","word"] o2
abbrev sL:Stmt:=gM (jG 37) 4
def nM:bb->Option gC :=
(fq (ig (iF [] (iK "Outline" "made_by" 3 j3 (a7 0) (gq (a7 1) (zC "new" f7)))) 2)
(fq (kK (fB (d2 qR (a7 2) (dC .none)))
(gA (dC .none))
gX)
(gA (fJ ["Row"] "kind" (a7 2)))))
def je:Lp->Od:=jS ["self","number","row"] nM
abbrev xh:Stmt:=gM (jG 41) 4
def qE:bb->Option gC :=
(fq (kK (fB (d2 qR (a7 1) (dC .none)))
(gA (dC .none))
gX)
(fq (kK (fB (d2 kJ (zX (a7 1) (zI 0)) (zA "mark")))
(gA (zX (a7 1) (zI 1)))
gX)
(gA (iK "Outline" "made_kind" 2 je (fJ ["State"] "outline" (a7 0)) (zQ (fJ ["Call","Thing"] "row" (zX (fJ ["State"] "made" (a7 0)) (zX (a7 1) (zI 1)))))))))
def k0:Lp->Od:=jS ["self","value"] qE
abbrev AH:Stmt:=jG 43
def tj:bb->Option gC :=
(fq (kK (fB (d2 qR (a7 1) (dC .none)))
(gA (zA "none"))
gX)
(fq (ig (iF [] (iK "State" "kind_of" 2 k0 (a7 0) (zQ (a7 1)))) 2)
(fq (kK (fB (d2 jy (a7 2) (dC .none)))
(gA (a7 2))
gX)
rf)))
def gz:Lp->Od:=jS ["state","value","kind","thing"] tj
abbrev HG:Stmt:=jG 63
def qu:MS :=
(fI (ij (Rf (gm "State" "stack" (cn 0))))
(fI (si (gk (sD (vp (fJ ["State"] "stack" (a7 0)))))
(fI (ie "State" "ended" (cn 0) (lp (lz (zC "given" (zQ (jR 2 gz (gq (a7 0) (zQ (a7 1)))))))))
(λ_ μ=>Y (.rt (.d .none) μ)))
oO)
kN))
def oG:mP:=hV ["state","value","call"] qu
abbrev Fm:Stmt:=gM (jG 41) 1
def Fo:bb->Option gC :=
(gA (zX (fJ ["State"] "stack" (a7 0)) (zI (-1))))
def ro:Lp->Od:=jS ["self"] Fo
def Fp:MS :=
(px (xR (gm "State" "stack" (cn 0)) (fF (zI (-1)))))
def gg:mP:=hV ["self"] Fp
abbrev Fq:Stmt:=jG 62
def oH:MS :=
(ij (Hv 2 oG (c5 (cn 0) (c5 (fF (dC .none)) eX))))
def mV:MS :=
(Hz (gk (qO (vp (fJ ["State"] "stack" (a7 0))) (fB (d2 qR (fJ ["Call"] "row" (iK "State" "top" 1 ro (a7 0) f7)) (dC .none))))) oH)
def iL:mP:=hV ["state"] mV
abbrev yV:Stmt:=gM (jG 65) 0
def lQ:MS :=
(fI (ie "Machine" "state" (cn 0) (rm "State" 4 kC (c5 (cn 1) (c5 (cn 2) (c5 (cn 3) eX)))))
(fI (ij (Hv 3 mU (c5 (gm "Machine" "state" (cn 0)) (c5 (fF (zA "main")) (c5 (fF (lz f7)) eX)))))
(ij (Hv 1 iL (c5 (gm "Machine" "state" (cn 0)) eX)))))
def jl:mP:=hV ["self","program","inputs","fuel"] lQ
abbrev NQ:Stmt:=jG 29
def Fs:bb->Option gC :=
(fq (ig (iF [] (zX (fJ ["Outline"] "rows" (fJ ["State"] "outline" (a7 0))) (a7 1))) 2)
(fq (kK (fB (λρ=>((fJ ["Row"] "word" (a7 2)) ρ).bind (vP xT)))
(gA (dC .none))
gX)
rf))
def rp:Lp->Od:=jS ["state","number","row","value","word"] Fs
abbrev Df:Stmt:=gM (jG 40) 0
def nW:MS :=
(fI (ie "Thing" "row" (cn 0) (cn 1))
(fI (ie "Thing" "path" (cn 0) (cn 2))
(fI (ie "Thing" "form" (cn 0) (cn 3))
(fI (ie "Thing" "slots" (cn 0) nJ)
(ie "Thing" "members" (cn 0) oy)))))
def kD:mP:=hV ["self","row","path","form"] nW
abbrev tS:Stmt:=gM (jG 41) 5
def jA:MS :=
(fI (ij (kZ (gm "State" "made" (cn 0)) (rm "Thing" 4 kD (c5 (cn 1) (c5 (gm "Call" "path" (gN "State" "top" 1 gg (cn 0) eX)) (c5 (cn 2) eX))))))
(px (lp (lz (zC "thing" (zQ (d2 MN (zN (fJ ["State"] "made" (a7 0))) (zI 1))))))))
def iQ:mP:=hV ["self","row","form"] jA
abbrev vR:Stmt:=gM (jG 41) 3
def kE:MS :=
(fI (si (gk (Cz (fB (d2 qR (a7 1) (dC .none))) (fB (d2 w8 (zX (a7 1) (zI 0)) (zA "thing")))))
kN
oO)
(px (xR (gm "State" "made" (cn 0)) (fF (zX (a7 1) (zI 1))))))
def jm:mP:=hV ["self","value"] kE
abbrev vS:Stmt:=gM (jG 39) 1
def hW:MS :=
(si (gk (fB (d2 qR (a7 2) (dC .none))))
(ij (Je (gm "Call" "named" (cn 0)) (cn 1) (fF (dC .none))))
(uO (gm "Call" "named" (cn 0)) (cn 1) (cn 2)))
def f6:mP:=hV ["self","name","value"] hW
abbrev NR:Stmt:=jG 44
def Ft:MS :=
(uO (gm "Thing" "slots" (cn 4)) (cn 5) (fF (dC .none)))
def uU:MS :=
(fI (hU (gN "State" "make_thing" 3 iQ (cn 0) (c5 (cn 2) (c5 (fF (zA "record")) eX))) 3)
(fI (hU (gN "State" "thing_of" 2 jm (cn 0) (c5 (cn 3) eX)) 4)
(fI (xc (Jf (xR (qB ["Outline"] "fields" (gm "State" "outline" (cn 0))) (fF (fJ ["Row"] "kind" (a7 1))))) (.one 5) Ft)
(ij (gN "Call" "give_name" 3 f6 (gN "State" "top" 1 gg (cn 0) eX) (c5 (fF (fJ ["Row"] "x" (a7 1))) (c5 (cn 3) eX)))))))
def rq:mP:=hV ["state","row","number","value","thing","field"] uU
abbrev yW:Stmt:=jG 45
def yX:MS :=
kN
def rz:mP:=hV ["state","row","number"] yX
abbrev K2:Stmt:=jG 46
def K3:MS :=
kN
def BJ:mP:=hV ["state","row","number","value","thing","kept","name"] K3
abbrev vT:Stmt:=gM (jG 41) 2
def p0:bb->Option gC :=
(gA (d2 nq (fJ ["Call"] "named" (zX (fJ ["State"] "stack" (a7 0)) (zI (-1)))) (a7 1)))
def gF:Lp->Od:=jS ["self","name"] p0
abbrev K4:Stmt:=jG 47
def sm:MS :=
(ij (gN "Call" "give_name" 3 f6 (gN "State" "top" 1 gg (cn 0) eX) (c5 (fF (fJ ["Row"] "x" (a7 1))) (c5 (lp (iK "State" "value_of" 2 gF (a7 0) (zQ (fJ ["Row"] "y" (a7 1))))) eX))))
def p1:mP:=hV ["state","row","number"] sm
abbrev K5:Stmt:=jG 48
def K6:MS :=
kN
def BK:mP:=hV ["state","row","number","thing"] K6
abbrev NS:Stmt:=jG 49
def NT:MS :=
kN
def Fv:mP:=hV ["state","row","number","thing"] NT
abbrev K7:Stmt:=jG 50
def K8:MS :=
kN
def BL:mP:=hV ["state","row","number","thing"] K8
abbrev K9:Stmt:=jG 51
def La:MS :=
kN
def BM:mP:=hV ["state","row","number","thing","value"] La
abbrev Lb:Stmt:=jG 52
def so:MS :=
(ij (kZ (gm "State" "shown_texts" (cn 0)) (lp (jR 2 gz (gq (a7 0) (zQ (iK "State" "value_of" 2 gF (a7 0) (zQ (fJ ["Row"] "x" (a7 1))))))))))
def p3:mP:=hV ["state","row","number"] so
abbrev Dg:Stmt:=jG 53
def Dh:MS :=
oO
def nX:mP:=hV ["state","row","number"] Dh
abbrev HH:Stmt:=jG 54
def HI:MS :=
kN
def yY:mP:=hV ["state","row","number","field"] HI
abbrev NU:Stmt:=jG 55
def NV:MS :=
kN
def Fw:mP:=hV ["state","row","number"] NV
abbrev HJ:Stmt:=jG 56
def HK:MS :=
kN
def yZ:mP:=hV ["state","row","number"] HK
abbrev Lc:Stmt:=jG 59
def Ld:MS :=
kN
def BN:mP:=hV ["state","row","one","other"] Ld
abbrev NW:Stmt:=jG 58
noncomputable def Di:List (Str×Str×mP):=[("new","do_new",rq),("row","do_row_thing",rz),("func","do_func",BJ),("copy","do_copy",p1),("take","do_take",BK),("put","do_put",Fv),("push","do_push",BL),("pull","do_pull",BM),("tell","do_tell",p3),("rest","do_nothing",nX),("check","do_nothing",nX),("fresh","do_fresh",yY),("own","do_own",Fw),("place","do_place",yZ)]
def uV:MS :=
(fI (hU (xR (qB ["Outline"] "rows" (gm "State" "outline" (cn 0))) (cn 1)) 2)
(fI (hU (gN "State" "top" 1 gg (cn 0) eX) 3)
(fI (si (gk (fB (d2 CH (fJ ["Row"] "word" (a7 2)) (dC (.tuple [(.str "do"),(.str "ask"),(.str "straight")])))))
kN
(si (gk (fB (d2 kJ (fJ ["Row"] "word" (a7 2)) (zA "give"))))
kN
(si (T1 (gk (fB (d2 CH (fJ ["Row"] "word" (a7 2)) (dC (.tuple [(.str "if"),(.str "while")]))))) (TZ (E4 (Hv 2 BN (c5 (cn 0) (c5 (cn 2) eX))))))
(ie "Call" "row" (cn 3) (xR (qB ["Flow"] "otherwise" (gm "State" "flow" (cn 0))) (cn 1)))
(fI (si (gk (fB (λρ=>((fJ ["Row"] "word" (a7 2)) ρ).bind (NL sj))))
(ij (NM 3 Di (fF (fJ ["Row"] "word" (a7 2))) (c5 (cn 0) (c5 (cn 2) (c5 (cn 1) eX)))))
oO)
(ie "Call" "row" (cn 3) (xR (qB ["Flow"] "behind" (gm "State" "flow" (cn 0))) (cn 1)))))))
(ij (Hv 1 iL (c5 (cn 0) eX))))))
def rA:mP:=hV ["state","number","row","call"] uV
abbrev y0:Stmt:=gM (jG 65) 1
def gK:MS :=
(fI (hU (gm "Machine" "state" (cn 0)) 1)
(fI (si (gk (fB (d2 jy (fJ ["State"] "ended" (a7 1)) (dC .none))))
(px (fF (dC (.bool false))))
oO)
(fI (si (gk (fB (d2 qo (fJ ["State"] "fuel" (a7 1)) (zI 0))))
(fI (ie "State" "ended" (cn 1) (fF (lz (zC "dry" f7))))
(px (fF (dC (.bool true)))))
oO)
(fI (C1 "State" "fuel" (λi j=>i - j) (cn 1) (fF (zI 1)))
(fI (hU (gm "Call" "row" (gN "State" "top" 1 gg (cn 1) eX)) 2)
(fI (ie "State" "ended" (cn 1) (lp (jR 2 rp (gq (a7 1) (zQ (a7 2))))))
(fI (si (gk (fB (d2 qR (fJ ["State"] "ended" (a7 1)) (dC .none))))
(ij (Hv 2 rA (c5 (cn 1) (c5 (cn 2) eX))))
oO)
(px (fF (dC (.bool true)))))))))))
def fM:mP:=hV ["self","state","number"] gK
abbrev y1:Stmt:=gM (jG 65) 2
def lR:MS :=
(px (NO (gm "State" "shown_texts" (gm "Machine" "state" (cn 0)))))
def jn:mP:=hV ["self"] lR
abbrev AI:Stmt:=jG 86
def pC:bb->Option gC :=
(fq (kK (fB (d2 An (a7 1) (zN (a7 0))))
(gA (zX (a7 0) (a7 1)))
gX)
(gA (zI 0)))
def iM:Lp->Od:=jS ["_law_script","_law_k"] pC
abbrev Fx:Stmt:=jG 87
def kh:bb->Option gC :=
(ig (iF [5] (d2 kb (a7 2) (zX (a7 1) (d2 pN (d2 qN (a7 0) (d2 kb (zI 8) (d2 Bv (a7 3) (a7 3)))) (zI 26))))) 2)
def ki:bb->Option gC :=
(fq (ig (iF [5] (zX (a7 1) (d2 pN (d2 kb (d2 qN (a7 0) (zI 3)) (d2 Bv (zI 4) (a7 3))) (zI 26)))) 6)
(mD (.sl 5) (iF [5] (d2 kb (d2 kb (iE (a7 2) jV (iV (a7 4))) (a7 6)) (iE (a7 2) (iV (d2 kb (a7 4) (zI 1))) jV)))))
def wJ:bb->Option gC :=
(fq (ig (iF [5] (zA "abcdefghijklmnopqrstuvwxyz")) 1)
(fq (ig (iF [5] (zA "")) 2)
(fq (qz (L3 [5] (ko (d2 kb (zI 1) (d2 pN (a7 0) (zI 8))))) (.one 3) kh)
(fq (ig (iF [5] (d2 pN (d2 qN (a7 0) (zI 7)) (zN (a7 2)))) 4)
(fq (nE (iF [5] (kn f7)) 5)
(fq (qz (L3 [5] (ko (zI 6))) (.one 3) ki)
(gA (a7 5))))))))
def lx:Lp->Od:=yy ["_law_cell","_law_letters","_law_word","_law_k","_law_at","_law_names_here","_law_other"] wJ
abbrev Le:Stmt:=jG 88
def n7:bb->Option gC :=
(fq (ig (iF [] (zX (a7 1) (d2 pN (d2 qN (a7 0) (zI 4)) (zI 6)))) 3)
(fq (ig (iF [] (zX (a7 1) (d2 pN (d2 qN (a7 0) (zI 24)) (zI 6)))) 4)
(fq (ig (iF [] (d2 pN (a7 0) (zI 4))) 5)
(fq (kK (fB (d2 kJ (a7 5) (zI 0)))
(gA (kn (zC "new" (gq (a7 3) (zQ (zX (a7 2) (d2 pN (d2 qN (a7 0) (zI 24)) (zN (a7 2)))))))))
gX)
(fq (kK (fB (d2 kJ (a7 5) (zI 1)))
(gA (kn (zC "copy" (gq (a7 3) (zQ (a7 4))))))
gX)
(fq (kK (fB (d2 kJ (a7 5) (zI 2)))
(gA (kn (zC "tell" (zQ (a7 3)))))
gX)
(gA (zX (kn (gq (kn (zC "tell" (zQ (a7 4)))) (zQ (kn (zC "rest" f7))))) (d2 pN (d2 qN (a7 0) (zI 144)) (zI 2))))))))))
def ly:Lp->Od:=jS ["_law_cell","_law_names_here","_law_kinds","_law_x","_law_y","_law_way"] n7
abbrev y2:Stmt:=gM (jG 74) 0
def y3:bb->Option gC :=
(fq (EG 0 "Reading" "fields" (iF [0] (dC (.dict []))))
(fq (EG 0 "Reading" "heads" (iF [0] (dC (.dict []))))
(fq (jw 0 "Reading" "body" (iF [0] (dC .none)))
(fq (EG 0 "Reading" "blocks" (iF [0] (kn f7)))
(fq (jw 0 "Reading" "over" (iF [0] (dC (.bool false))))
(EG 0 "Reading" "later" (iF [0] (kn f7))))))))
def oI:Lp->Option (eW×eW):=pQ ["self"] y3
abbrev xi:Stmt:=jG 71
def fH:bb->Option gC :=
(fq (ig (iF [1] (xM iW (a7 5) (zC " " f7))) 6)
(kK (fB (d2 kJ (zX (a7 6) (zI 0)) (zA "end")))
(Kz 3 (λi j=>i - j) (iF [1] (zI 1)))
(kK (fB (d2 U2 (a7 3) (zI 0)))
(fq (kK (fB (d2 w8 (zX (a7 6) (zI 0)) (zA "else")))
(uy (.sl 1) (Kx (zN (a7 1))) (iF [1] (lz (gq (a7 4) (gq (a7 6) (zQ (a7 2)))))))
gX)
(kK (fB (d2 CH (zX (a7 6) (zI 0)) (dC (.tuple [(.str "if"),(.str "while")]))))
(Kz 3 (λi j=>i+j) (iF [1] (zI 1)))
gX))
(kK (fB (d2 w8 (zX (a7 6) (zI 0)) (zA "kind")))
(fq (ig (iF [1] (jR 1 gv (zQ (a7 6)))) 2)
(ig (iF [1] (zI 1)) 3))
gX))))
def qF:bb->Option gC :=
(fq (nE (iF [1] (dC (.dict []))) 1)
(fq (ig (iF [1] (dC .none)) 2)
(fq (ig (iF [1] (zI 0)) 3)
(fq (qz (L3 [1] (I8 (xM iW (a7 0) (zC "\n" f7)))) (.many [4,5]) fH)
(gA (a7 1))))))
def jI:Lp->Od:=jS ["text","rows","body","depth","line","row","words"] qF
abbrev y4:Stmt:=gM (jG 70) 0
def rB:bb->Option gC :=
(fq (jw 0 "Program" "text" (iF [0] (a7 1)))
(fq (jw 0 "Program" "numbered" (iF [0] (jR 1 jI (zQ (a7 1)))))
(jw 0 "Program" "body_texts" (Ve (lj kM (zQ (jR 1 iI (zQ (a7 0)))))))))
def kj:Lp->Option (eW×eW):=pQ ["self","text"] rB
abbrev rD:Stmt:=jG 84
def kl:bb->Option gC :=
(fq (kK (fB (d2 kJ (fJ ["Row"] "word" (a7 1)) (zA "straight")))
(gA (d2 CH (jR 2 jM (gq (fJ ["Row"] "kind" (a7 1)) (zQ (fJ ["Row"] "method" (a7 1))))) (fJ ["Reading"] "heads" (a7 0))))
gX)
(fq (kK (Cz (fB (d2 kJ (fJ ["Row"] "function" (a7 1)) (zA "main"))) (fB (d2 ql (fJ ["Row"] "function" (a7 1)) (fJ ["Reading"] "heads" (a7 0)))))
(gA (dC (.bool false)))
gX)
(gA (d2 kJ (zN (jR 1 lq (zQ (zX (fJ ["Reading"] "heads" (a7 0)) (fJ ["Row"] "function" (a7 1)))))) (zN (fJ ["Row"] "handed" (a7 1)))))))
def ic:Lp->Od:=jS ["reading","row"] kl
abbrev AJ:Stmt:=jG 82
def mH:bb->Option gC :=
(fq (kK (vp (fJ ["Reading"] "blocks" (a7 0)))
(fq (QH (.fl 0 "Reading" "blocks"))
Ni)
gX)
(fq (jw 0 "Reading" "over" (Kx (d2 kJ (fJ ["Reading"] "body" (a7 0)) (zA "main"))))
(jw 0 "Reading" "body" (iF [0] (dC .none)))))
def jN:Lp->Option (eW×eW):=pQ ["reading"] mH
abbrev xj:Stmt:=jG 83
def nu:bb->Option gC :=
(fq (kK (Cz (sD (vp (fJ ["Reading"] "blocks" (a7 0)))) (fB (d2 w8 (zX (fJ ["Reading"] "blocks" (a7 0)) (zI (-1))) (zA "if"))))
(nF (dC (.bool false)))
gX)
(fq (uy (.fl 0 "Reading" "blocks") (iF [0] (zI (-1))) (iF [0] (zA "else")))
(nF (dC (.bool true)))))
def k4:Lp->Option (eW×eW):=pQ ["reading"] nu
abbrev Dj:Stmt:=jG 21
def jJ:bb->Option gC :=
(kK (sD (qp qo qo (zA "a") (a7 1) (zA "z")))
(gA (dC (.bool false)))
gX)
def uW:bb->Option gC :=
(fq (qz (L3 [] (oV (a7 0))) (.one 1) jJ)
(gA (d2 w8 (a7 0) (zA ""))))
def nY:Lp->Od:=jS ["word","sign"] uW
abbrev Lf:Stmt:=jG 22
def BO:bb->Option gC :=
(gA (uF (d2 qo (zN (a7 0)) (zI 8)) (jR 1 nY (zQ (a7 0)))))
def n8:Lp->Od:=jS ["word"] BO
abbrev NX:Stmt:=jG 23
def wK:bb->Option Bool:=(λ_=>Y true)
def wL:bb->Od:=(jR 1 n8 (zQ (a7 0)))
def NY:bb->Option gC :=
(fq (kK (Cz (sD (vp (a7 0))) (sD (vp (lj QX (zQ (jg (og (a7 0)) [] wK wL))))))
(gA (dC (.bool false)))
gX)
(fq (ig (iF [] (jR 1 sk (zQ (a7 0)))) 1)
(fq (kK (fB (d2 qR (a7 1) (dC .none)))
(gA (dC (.bool false)))
gX)
(fq (kK (qO (vp (a7 1)) (fB (d2 kJ (zX (a7 1) (zI (-1))) (zA "A"))))
(gA (d2 dGe (zN (a7 0)) (zN (a7 1))))
gX)
(gA (d2 kJ (zN (a7 0)) (d2 kb (zN (a7 1)) (zI 1))))))))
def uX:Lp->Od:=jS ["words","form"] NY
abbrev y7:Stmt:=jG 81
def jo:bb->Option gC :=
(fq (kK (fB (d2 kJ (a7 2) (kn (zC "end" f7))))
(fq (Hh (yC [0] 0 1 jN f7))
(nF (dC (.bool true))))
gX)
(fq (kK (fB (d2 kJ (a7 2) (kn (zC "else" f7))))
(EI (yC [0] 0 1 k4 f7))
gX)
(fq (kK (sD (vp (jR 1 uX (zQ (a7 2)))))
(nF (dC (.bool false)))
gX)
(fq (ig (iF [0] (yA "Row" 2 oB (zQ (a7 2)))) 3)
(fq (kK (qO (fB (d2 jy (fJ ["Row"] "kind" (a7 3)) (dC .none))) (fB (d2 ql (fJ ["Row"] "kind" (a7 3)) (fJ ["Reading"] "fields" (a7 0)))))
(nF (dC (.bool false)))
gX)
(fq (kK (fB (d2 CH (fJ ["Row"] "word" (a7 3)) (dC (.tuple [(.str "if"),(.str "while")]))))
(mD (.fl 0 "Reading" "blocks") (iF [0] (fJ ["Row"] "word" (a7 3))))
gX)
(fq (kK (fB (d2 CH (fJ ["Row"] "word" (a7 3)) (lz (zC "func" (zC "straight" f7)))))
(mD (.fl 0 "Reading" "later") (iF [0] (lz (gq (a7 1) (zQ (a7 3))))))
gX)
(nF (d2 qo (zN (fJ ["Reading"] "blocks" (a7 0))) (zI 8))))))))))
def gw:Lp->Option (eW×eW):=pQ ["reading","line","words","row"] jo
abbrev HL:Stmt:=jG 80
def y8:bb->Option gC :=
(gA (d2 kJ (CU (a7 0)) (zN (a7 0))))
def oJ:Lp->Od:=jS ["names"] y8
abbrev Dk:Stmt:=jG 77
def qv:bb->Option gC :=
(fq (kK (Cz (vp (fJ ["Reading"] "heads" (a7 0))) (Cz (fB (d2 An (zN (a7 1)) (zI 2))) (fB (d2 CH (zX (a7 1) (zI 1)) (fJ ["Reading"] "fields" (a7 0))))))
(nF (dC (.bool false)))
gX)
(fq (ig (iF [0,3] (iE (a7 1) (iV (zI 2)) jV)) 2)
(fq (nE (iF [0,3] (kn f7)) 3)
(fq (kK (qO (vp (a7 2)) (fB (d2 kJ (zX (a7 2) (zI 0)) (zA "of"))))
(fq (kK (Cz (fB (d2 An (zN (a7 2)) (zI 2))) (fB (d2 ql (zX (a7 2) (zI 1)) (fJ ["Reading"] "fields" (a7 0)))))
(nF (dC (.bool false)))
gX)
(fq (nE (Ve (lj kM (zQ (zX (fJ ["Reading"] "fields" (a7 0)) (zX (a7 2) (zI 1)))))) 3)
(ig (iF [0,3] (iE (a7 2) (iV (zI 2)) jV)) 2)))
gX)
(fq (kK (qO (vp (a7 2)) (Cz (fB (d2 w8 (zX (a7 2) (zI 0)) (zA "fields"))) (fB (d2 An (zN (a7 2)) (zI 2)))))
(nF (dC (.bool false)))
gX)
(fq (uz (.sl 3) (iF [0,3] (uB (a7 2) (iV (zI 1)) jV)))
(QZ 3 (fq (uy (.fl 0 "Reading" "fields") (iF [0] (zX (a7 1) (zI 1))) (iF [0] (a7 3)))
(nF (jR 1 oJ (zQ (a7 3))))))))))))
def nZ:Lp->Option (eW×eW):=pQ ["reading","words","behind","fields"] qv
abbrev uY:Stmt:=jG 79
def uZ:bb->Option gC :=
(fq (kK (qO (fB (d2 kJ (zX (a7 0) (zI 0)) (zA "func"))) (qO (fB (d2 CH (zA "keeps") (iE (a7 0) (iV (zI 2)) jV))) (sD (vp (jR 1 lq (zQ (a7 0)))))))
(gA (dC (.bool false)))
gX)
(fq (ig (iF [] (d2 kb (jR 1 pB (zQ (a7 0))) (jR 1 lq (zQ (a7 0))))) 1)
(gA (uF (d2 ql (zA "self") (a7 1)) (jR 1 oJ (zQ (a7 1)))))))
def lS:Lp->Od:=jS ["words","names"] uZ
abbrev Lg:Stmt:=jG 78
def Lh:bb->Option gC :=
(fq (kK (fB (d2 kJ (zX (a7 1) (zI 0)) (zA "func")))
(gA (uF (d2 U2 (zN (a7 1)) (zI 1)) (uF (d2 w8 (zX (a7 1) (zI 1)) (zA "main")) (jR 1 lS (zQ (a7 1))))))
gX)
(fq (kK (fB (d2 kJ (zX (a7 1) (zI 0)) (zA "method")))
(gA (uF (d2 U2 (zN (a7 1)) (zI 2)) (uF (d2 CH (zX (a7 1) (zI 1)) (fJ ["Reading"] "fields" (a7 0))) (jR 1 lS (zQ (a7 1))))))
gX)
(gA (d2 kJ (a7 1) (kn (zC "main" f7))))))
def vU:Lp->Od:=jS ["reading","words"] Lh
abbrev Fy:Stmt:=jG 76
def mW:bb->Option gC :=
(fq (kK (vp (fJ ["Reading"] "over" (a7 0)))
(nF (dC (.bool false)))
gX)
(fq (kK (fB (d2 jy (fJ ["Reading"] "body" (a7 0)) (dC .none)))
(EI (yC [0] 0 3 gw (gq (a7 1) (zQ (a7 2)))))
gX)
(fq (kK (fB (d2 kJ (zX (a7 2) (zI 0)) (zA "kind")))
(EI (yC [0] 0 2 nZ (zQ (a7 2))))
gX)
(fq (kK (Cz (sD (vp (jR 2 vU (gq (a7 0) (zQ (a7 2)))))) (fB (d2 CH (jR 1 gv (zQ (a7 2))) (fJ ["Reading"] "heads" (a7 0)))))
(nF (dC (.bool false)))
gX)
(fq (jw 0 "Reading" "body" (iF [0] (jR 1 gv (zQ (a7 2)))))
(fq (uy (.fl 0 "Reading" "heads") (Kx (fJ ["Reading"] "body" (a7 0))) (iF [0] (a7 2)))
(nF (dC (.bool true)))))))))
def gR:Lp->Option (eW×eW):=pQ ["reading","line","words"] mW
abbrev y9:Stmt:=jG 75
def o3:bb->Option Bool:=(λ_=>Y true)
def o4:bb->Od:=(xM iW (a7 0) (zC " " f7))
def o5:bb->Option Bool:=(λ_=>Y true)
def o6:bb->Od:=(jR 1 n8 (zQ (a7 0)))
def i5:bb->Option gC :=
(QO (ZJ (sD (vp (lj QX (zQ (jg (og (a7 4)) [] o5 o6))))) (Vh (hT (yC [1] 1 3 gR (gq (a7 3) (zQ (a7 4)))))))
rf
gX)
def j4:bb->Option gC :=
(kK (sD (vp (jR 2 ic (gq (a7 1) (zQ (a7 5))))))
rf
gX)
def rE:bb->Option gC :=
(fq (nE (iF [1] (yA "Reading" 1 oI f7)) 1)
(fq (ig (iF [1] (jg (og (xM iW (a7 0) (zC "\n" f7))) [] o3 o4)) 2)
(fq (qz (L3 [1] (I8 (a7 2))) (.many [3,4]) i5)
(fq (kK (sD (vp (fJ ["Reading"] "over" (a7 1))))
rf
gX)
(QZ 1 (fq (qz (L3 [] (oV (fJ ["Reading"] "later" (a7 1)))) (.many [3,5]) j4)
(gA (yA "Program" 2 kj (zQ (a7 0))))))))))
def g0:Lp->Od:=jS ["text","reading","rows","line","words","row"] rE
abbrev AK:Stmt:=gM (jG 65) 3
def AM:bb->Option gC :=
(gA (fJ ["State"] "ended" (fJ ["Machine"] "state" (a7 0))))
def kW:Lp->Od:=jS ["self"] AM
abbrev Li:Stmt:=jG 89
def i8:bb->Option gC :=
(kK (fB (d2 kJ (zX (a7 4) (zI 0)) (zA "new")))
(uy (.sl 2) (iF [2,3] (zX (a7 4) (zI 1))) (iF [2,3] (zX (a7 4) (zI 2))))
(kK (fB (d2 kJ (zX (a7 4) (zI 0)) (zA "copy")))
(uy (.sl 2) (iF [2,3] (zX (a7 4) (zI 1))) (Kx (d3 vL (a7 2) (zX (a7 4) (zI 2)) (zA "none"))))
(kK (fB (d2 kJ (zX (a7 4) (zI 0)) (zA "tell")))
(mD (.sl 3) (Kx (d3 vL (a7 2) (zX (a7 4) (zI 1)) (zA "none"))))
gX)))
def BP:bb->Option gC :=
(fq (nE (iF [2,3] (dC (.dict []))) 2)
(fq (nE (iF [2,3] (kn f7)) 3)
(fq (qz (L3 [2,3] (oV (iE (a7 0) jV (iV (a7 1))))) (.one 4) i8)
(gA (a7 3)))))
def mv:Lp->Od:=yy ["_law_rows","_law_fuel","_law_names_here","_law_told","_law_words"] BP
abbrev Ym:Stmt:=jG 90
def rF:bb->Option Bool:=(λ_=>Y true)
def p4:bb->Od:=(jR 3 ly (gq (a7 0) (gq (a7 1) (zQ (a7 2)))))
def p5:bb->Option Bool:=(λ_=>Y true)
def oK:bb->Od:=(d2 kb (zA "kind ") (a7 0))
def rG:bb->Option Bool:=(λ_=>Y true)
def rH:bb->Od:=(xM pS (zA " ") (zQ (a7 0)))
def u3:MS :=
(hU (fF (d2 kb (a7 8) (zI 1))) 8)
def Jk:MS :=
(fI (hU (fF (jR 2 iM (gq (a7 0) (zQ (zI 0))))) 1)
(fI (hU (fF (jR 1 lx (zQ (d2 qN (a7 1) (zI 486))))) 2)
(fI (hU (fF (iE (zX (kn (gq (kn (zC "ka" (zC "k" (zC "kab" f7)))) (zQ (iE (a7 2) jV (iV (zI 3)))))) (d2 pN (d2 qN (a7 1) (zI 243)) (zI 2))) jV (iV (d2 kb (zI 1) (d2 pN (a7 1) (zI 3)))))) 3)
(fI (hU (fF (jg (og (iE (a7 0) (iV (zI 1)) (iV (zI 63)))) [(2,"_law_names_here"),(3,"_law_kinds")] rF p4)) 4)
(fI (hU (fF (d2 kb (d2 kb (d2 kb (jg (og (a7 3)) [] p5 oK) (kn (zC "main" f7))) (jg (og (a7 4)) [] rG rH)) (kn (zC "end" f7)))) 5)
(fI (hU (fF (d2 pN (d2 qN (a7 1) (zI 3)) (zI 81))) 6)
(fI (hU (rm "Machine" 4 jl (c5 (fF (jR 1 g0 (zQ (xM pS (zA "\n") (zQ (a7 5)))))) (c5 (fF (kn f7)) (c5 (cn 6) eX)))) 7)
(fI (hU (fF (zI 0)) 8)
(fI (Hz (E4 (gN "Machine" "step" 1 fM (cn 7) eX)) u3)
(fI (hU (fF (lz (zC "given" (zC "none" f7)))) 9)
(fI (hU (fF (zN (a7 4))) 10)
(fI (si (gk (fB (d2 An (a7 6) (zN (a7 4)))))
(fI (hU (fF (lz (zC "dry" f7))) 9)
(hU (fF (d2 kb (a7 6) (zI 1))) 10))
oO)
(fI (si (gk (Cz (fB (d2 w8 (a7 8) (a7 10))) (fB (d2 w8 (iK "Machine" "end" 1 kW (a7 7) f7) (a7 9)))))
(px (fF (dC (.bool false))))
oO)
(fI (hU (gN "Machine" "told" 1 jn (cn 7) eX) 11)
(px (KY (fF (MY "list" (a7 11))) (KY (fF (d2 kJ (a7 11) (jR 2 mv (gq (a7 4) (zQ (a7 6)))))) (m2 qR (gN "Machine" "step" 1 fM (cn 7) eX) (fF (dC (.bool false)))))))))))))))))))))
def Jl:Lp->Od:=yS ["_law_script","_law_first","_law_names_here","_law_kinds","_law_rows","_law_lines","_law_fuel","_law_machine","_law_steps","_law_due_here","_law_many","_law_told"] Jk
structure Md (P:Program) (w:World) (K:Fg) (mg:Str->Ow):Prop where
 all:mg "all"=Z
 dict:mg "dict"=Z
 enumerate:mg "enumerate"=Z
 isinstance:mg "isinstance"=Z
 len:mg "len"=Z
 list:mg "list"=Z
 range:mg "range"=Z
 reversed:mg "reversed"=Z
 set:mg "set"=Z
 zip:mg "zip"=Z
 Fz:fT K "Call" "body"
 n0:fT K "Call" "named"
 wM:fT K "Call" "path"
 mw:fT K "Call" "row"
 pD:fT K "Flow" "behind"
 qw:fT K "Flow" "first"
 kF:fT K "Flow" "otherwise"
 iY:fT K "Machine" "state"
 mx:fT K "Outline" "fields"
 k5:fT K "Outline" "heads"
 qG:fT K "Outline" "homes"
 rJ:fT K "Outline" "kept"
 lb:fT K "Outline" "own_rows"
 p6:fT K "Outline" "params"
 jq:fT K "Outline" "rows"
 nv:fT K "Outline" "table"
 rK:fT K "Program" "body_texts"
 jB:fT K "Program" "numbered"
 rL:fT K "Program" "text"
 gS:fT K "Reading" "blocks"
 jr:fT K "Reading" "body"
 hY:fT K "Reading" "fields"
 iq:fT K "Reading" "heads"
 ny:fT K "Reading" "later"
 lT:fT K "Reading" "over"
 xk:fT K "Row" "condition"
 FA:fT K "Row" "field"
 lU:fT K "Row" "function"
 u4:fT K "Row" "handed"
 my:fT K "Row" "kind"
 u5:fT K "Row" "method"
 FC:fT K "Row" "names"
 ir:fT K "Row" "word"
 xU:fT K "Row" "x"
 Jm:fT K "Row" "y"
 jc:fT K "State" "ended"
 n1:fT K "State" "flow"
 qx:fT K "State" "fuel"
 za:fT K "State" "inputs"
 lV:fT K "State" "made"
 jK:fT K "State" "outline"
 kO:fT K "State" "shown_texts"
 iN:fT K "State" "stack"
 Dl:fT K "State" "used"
 Dm:fT K "Thing" "form"
 xl:fT K "Thing" "members"
 Dn:fT K "Thing" "path"
 wN:fT K "Thing" "row"
 tm:fT K "Thing" "slots"
 sj:yT P w K mg "DEEDS" sj
 jO:ET K mg "BLOCK_WORDS" (.tuple [(.str "if"),(.str "while")])
 Lj:ET K mg "CALLERS" (.tuple [(.str "do"),(.str "ask"),(.str "straight")])
 u6:lL P w K mg "CONDITIONS" nT
 Rw:lL P w K mg "FORMS" C8
 AN:ET K mg "MOST_BLOCKS" (.int 8)
 Rx:lL P w K mg "SORTS" xT
 Lk:gY K mg "form_of" K0
 HM:gY K mg "parts_of" HB
 HN:xb K mg "Row" "Row.__init__" HE
 tT:pV K "Program" "row_body" "Program.row_body" tP
 xm:pV K "Program" "shown" "Program.shown" xf
 xn:gY K mg "rows_of_words" xg
 tV:gY K mg "elder_and_fields" tQ
 Dp:gY K mg "kind_table" C9
 AO:gY K mg "method_body" AE
 FD:gY K mg "head_body" E9
 Dq:gY K mg "body_heads" Dc
 sM:pV K "Program" "row_words" "Program.row_words" sI
 AQ:gY K mg "head_params" AF
 FF:gY K mg "head_kept" Fb
 u7:gY K mg "kind_and_elders" uS
 FI:gY K mg "fields_by" Fd
 sN:pV K "Program" "many_rows" "Program.many_rows" sJ
 zb:xb K mg "Outline" "Outline.__init__" yU
 Dr:gY K mg "body_marks" Dd
 vV:pV K "Flow" "join_rows" "Flow.join_rows" vQ
 FJ:xb K mg "Flow" "Flow.__init__" Fe
 Ds:xb K mg "State" "State.__init__" De
 FK:xb K mg "Call" "Call.__init__" Ff
 FN:gY K mg "call_body" Fi
 u9:pV K "Outline" "made_by" "Outline.made_by" uT
 sO:pV K "Outline" "made_kind" "Outline.made_kind" sL
 xo:pV K "State" "kind_of" "State.kind_of" xh
 AR:gY K mg "shown_value" AH
 HP:gY K mg "end_call" HG
 wO:pV K "State" "top" "State.top" Fm
 FP:gY K mg "end_calls" Fq
 zc:xb K mg "Machine" "Machine.__init__" yV
 NZ:gY K mg "end_at" NQ
 Dt:xb K mg "Thing" "Thing.__init__" Df
 tW:pV K "State" "make_thing" "State.make_thing" tS
 vW:pV K "State" "thing_of" "State.thing_of" vR
 vX:pV K "Call" "give_name" "Call.give_name" vS
 N1:gY K mg "do_new" NR
 ze:gY K mg "do_row_thing" yW
 Ll:gY K mg "do_func" K2
 vY:pV K "State" "value_of" "State.value_of" vT
 Lm:gY K mg "do_copy" K4
 Ln:gY K mg "do_take" K5
 N2:gY K mg "do_put" NS
 Lo:gY K mg "do_push" K7
 Lq:gY K mg "do_pull" K9
 Ls:gY K mg "do_tell" Lb
 Du:gY K mg "do_nothing" Dg
 HQ:gY K mg "do_fresh" HH
 N3:gY K mg "do_own" NU
 HR:gY K mg "do_place" HJ
 Lu:gY K mg "is_true" Lc
 N4:gY K mg "do_row" NW
 zf:pV K "Machine" "step" "Machine.step" y0
 zh:pV K "Machine" "told" "Machine.told" y1
 AU:gY K mg "_law_cell_at" AI
 FQ:gY K mg "_law_names" Fx
 Lv:gY K mg "_law_row" Le
 zk:xb K mg "Reading" "Reading.__init__" y2
 xp:gY K mg "numbered_rows" xi
 zm:xb K mg "Program" "Program.__init__" y4
 rM:gY K mg "names_what_is_told" rD
 AV:gY K mg "close_block" AJ
 xq:gY K mg "turns_to_else" xj
 Dv:gY K mg "is_letters" Dj
 Ly:gY K mg "is_name" Lf
 N5:gY K mg "is_row" NX
 zo:gY K mg "reads_within" y7
 HS:gY K mg "are_once" HL
 Dw:gY K mg "reads_kind" Dk
 va:gY K mg "are_heads_names" uY
 Lz:gY K mg "is_head" Lg
 FR:gY K mg "reads_row" Fy
 zp:gY K mg "read_program" y9
 AW:pV K "Machine" "end" "Machine.end" AK
 LA:gY K mg "_law_due" Li
 Yn:gY K mg "law" Ym
section
variable {P:Program}{w:World}{base:Heap} (M:Md P w K mg)
include M
def zq:wq P w K mg base "form_of" 1 1 sk :=
 iX [] M.Lk λd a c b=>(a8 (fD (fW (nC a) (jF a (a6 0) c4) (rj M.jO rfl))
  (a8 (fD (lh (lF (fW IP (zL M.len (a6 0)) c4) (kR (Q0 M.u6 rfl (jF a (a6 0) c4)))))
  (a9 (fh (gI jP (jQ (zO c7)) (Vl M.u6 rfl (jF a (a6 0) c4) (λ_ _=>rfl)))))
  eB)
  (a9 (fh gO)))
  eB)
  (a9 (fh (QY M.Rw rfl (jF a (a6 0) c4) ⟨rfl,rfl,rfl,rfl⟩))))
def rN:wq P w K mg base "parts_of" 2 1 qt :=
 iX [1] M.HM λc d b a=>(a8 (kr 1 b a (ke (oW rfl rfl M.list (zO (gi (zq M) c rfl (zO (a6 0)))))))
  (a8 (Br aT (fW yl (zL M.len (a6 1)) (gI MP (zL M.len (a6 0)) c4))
  (a9 (ml a (rg 1) (fN c7))))
  (a9 (fh (PF.pd (Hn rfl rfl M.list rfl M.zip (a6 1) (ib (a6 0) (gJ c4) gW)))))))
def wQ:vE P w K mg base "Row" 3 2 oB :=
 CZ [] M.HN λd b e a=>(a8 (gE 2 e (fN (Kr (QT rfl) rfl M.dict (by rfl) (zO (gi (rN M) d rfl (zO (a6 1)))))))
  (a8 (iT 0 (c:="Row") a M.ir (fN (jF b (a6 1) c4)))
  (a8 (iT 0 (c:="Row") a M.xk (fN (mN b (a6 2) c7 ⟨rfl,rfl,rfl,rfl⟩)))
  (a8 (iT 0 (c:="Row") a M.xU (fN (mN b (a6 2) c7 ⟨rfl,rfl,rfl,rfl⟩)))
  (a8 (iT 0 (c:="Row") a M.Jm (fN (mN b (a6 2) c7 ⟨rfl,rfl,rfl,rfl⟩)))
  (a8 (iT 0 (c:="Row") a M.my (fN (mN b (a6 2) c7 ⟨rfl,rfl,rfl,rfl⟩)))
  (a8 (iT 0 (c:="Row") a M.FA (fN (mN b (a6 2) c7 ⟨rfl,rfl,rfl,rfl⟩)))
  (a8 (iT 0 (c:="Row") a M.u5 (fN (mN b (a6 2) c7 ⟨rfl,rfl,rfl,rfl⟩)))
  (a8 (iT 0 (c:="Row") a M.lU (fN (mN b (a6 2) c7 ⟨rfl,rfl,rfl,rfl⟩)))
  (a8 (iT 0 (c:="Row") a M.u4 (fN (BE [] (nO (gi (rN M) d rfl (zO (a6 1)))) (λ_ _ _ _=>(EA (fW (hH b) (a6 0) c7))) (λ_ _ _ _=>(a6 1)))))
  (a9 (iT 0 (c:="Row") a M.FC (fN (BE [] (nO (gi (rN M) d rfl (zO (a6 1)))) (λ_ _ _ _=>(EA (fW (nC b) (a6 0) (jQ (NF ["X","Y","A"] rfl))))) (λ_ _ _ _=>(a6 1))))))))))))))))
def sP:kY P w K mg base "Program" "row_body" 1 2 jz :=
 uH [] M.tT λd a c b=>(a9 (fh (jF a (jF a (zP "Program" M.jB (a6 0)) (a6 1)) c4)))
def p7:kY P w K mg base "Program" "shown" 1 1 hJ :=
 uH [] M.xm λd c b a=>(a9 (fh (zP "Program" M.rL (a6 0))))
def p8:wq P w K mg base "rows_of_words" 2 1 jH :=
 iX [] M.xn λb d c a=>(a9 (fh (ou [] (nO (zT (pR (p7 M) (a6 0) b) (zO c7))) (λ_ _ _ _=>lJ) (λ_ _ _ _=>(zT (a6 0) (zO c7))))))
def sQ:wq P w K mg base "elder_and_fields" 1 1 k9 :=
 iX [] M.tV λd a c b=>(a8 (fD (lh (lF (gQ (a6 0)) (kR (fW (hH a) (jF a (a6 0) c4) c7))))
  (a9 (fh (jQ (fy (jF a (a6 0) c4) (zO (ib (a6 0) (gJ c4) gW))))))
  eB)
  (a9 (fh (jQ (fy gO (zO (ib (a6 0) (gJ c4) gW)))))))
def AX:wq P w K mg base "kind_table" 3 1 kz :=
 iX [1] M.Dp λd b c a=>(a8 (kr 1 c a (ke vB))
  (a8 (mE aT rfl (pw (oq (gi (p8 M) d rfl (zO (a6 0))))) (lK 2 c) (by decide)
  (a8 (fD (fW (pO b) (jF b (a6 2) c4) c7)
  (a9 Ky)
  eB)
  (a9 (oT b a (rg 1) (fN (jF b (a6 2) c4)) (fN (gi (sQ M) d rfl (zO (ib (a6 2) (gJ c4) gW))))))))
  (a9 (fh (a6 1)))))
def rO:wq P w K mg base "method_body" 1 2 jM :=
 iX [] M.AO λd c b a=>(a9 (fh (QS (CM (TQ (a6 0)) (CM c7 (CM (TQ (a6 1)) Vj))))))
def lW:wq P w K mg base "head_body" 2 1 gv :=
 iX [] M.FD λc a d b=>(a8 (fD (fW (hH a) (jF a (a6 0) c4) c7)
  (a9 (fh (gi (rO M) c rfl (fy (jF a (a6 0) c4) (zO (jF a (a6 0) c4))))))
  eB)
  (a8 (fD (fW (hH a) (jF a (a6 0) c4) c7)
  (a9 (fh (jF a (a6 0) c4)))
  eB)
  (a9 (fh c7))))
def tq:wq P w K mg base "body_heads" 3 1 iI :=
 iX [1] M.Dq λd a b c=>(a8 (kr 1 b c (ke vB))
  (a8 (gE 2 b (fN c4))
  (a8 (mE aT rfl (pw (oq (gi (p8 M) d rfl (zO (a6 0))))) (lK 3 b) (by decide)
  (a9 (fD (fW (hH a) (jF a (a6 3) c4) c7)
  (a9 (xJ 2 b GA (fN c4)))
  (a9 (fD (lh (lF (fW (hH a) (a6 2) c4) (kR (fW (pO a) (jF a (a6 3) c4) c7))))
  (a8 (oT a c (rg 1) (fN (gi (lW M) d rfl (zO (a6 3)))) (fN (a6 3)))
  (a9 (gE 2 b (fN c4))))
  (a9 (fD (fW (nC a) (jF a (a6 3) c4) (jQ (fy c7 (zO c7))))
  (a9 (xJ 2 b Gz (fN c4)))
  eB)))))))
  (a9 (fh (a6 1))))))
def rP:yL P w K mg base "Program" "row_words" 1 2 iA :=
 Vp [] M.sM λd a c b=>(a9 (q9 (oW rfl rfl M.list (zO (jF a (jF a (zP "Program" M.jB (a6 0)) (a6 1)) c4)))))
def rQ:rh P w K mg base "head_params" 1 1 pB :=
 yM [1] M.AQ λd b c a=>(a8 (fD (fW (hH b) (jF b (a6 0) c4) c7)
  (a9 (q9 (oW rfl rfl M.list (zO (ib (a6 0) (gJ c4) gW)))))
  eB)
  (a8 (kr 1 c a (ke (oW rfl rfl M.list (zO (ib (a6 0) (gJ c4) gW)))))
  (a8 (fD (fW (nC b) c7 (a6 1))
  (a9 (q9 (yz (a6 1) gW (gJ (Nt PySem.F.slot_list_index PySem.F.type_list_index (ES b) (a6 1) (zO c7))))))
  eB)
  (a9 (ux 1 a)))))
def n2:rh P w K mg base "head_kept" 1 1 lq :=
 yM [] M.FF λd a c b=>(a8 (fD (lh (oe (fW (pO a) (jF a (a6 0) c4) c7) (mB (fW (q5 a) c7 (ib (a6 0) (gJ c4) gW)))))
  (a9 (q9 (q8 jx)))
  eB)
  (a8 (gE 1 c (fN (PF.pd (oW rfl rfl M.list (zO (ib (a6 0) (gJ c4) gW))))))
  (a9 (q9 (yz (a6 1) (gJ (gI jP (Nt PySem.F.slot_list_index PySem.F.type_list_index (ES a) (a6 1) (zO c7)) c4)) gW)))))
def tX:wq P w K mg base "kind_and_elders" 1 2 jX :=
 iX [2] M.u7 λd c b a=>(a8 (kr 2 b a (ke (q8 jx)))
  (a8 (gE 3 b (fN (a6 1)))
  (a8 (Br aT (fW n6 (a6 3) gO)
  (a8 (ml a (rg 2) (fN (a6 3)))
  (a9 (gE 3 b (fN (jF c (jF c (a6 0) (a6 3)) c4))))))
  (a9 (fh (a6 2))))))
def Dx:rh P w K mg base "fields_by" 2 2 lu :=
 yM [2] M.FI λd c b a=>(a8 (kr 2 b a (ke (q8 jx)))
  (a8 (mE aT rfl (pw (Jc rfl M.reversed (gi (tX M) d rfl (fy (a6 0) (zO (a6 1)))))) (lK 3 b) (by decide)
  (a9 (EV a (rg 2) (fN (jF c (jF c (a6 0) (a6 3)) c4)))))
  (a9 (ux 2 a))))
def mX:kY P w K mg base "Program" "many_rows" 1 1 fX :=
 uH [] M.sN λd c b a=>(a9 (fh (zL M.len (zP "Program" M.jB (a6 0)))))
def xr:uL P w K mg base "Outline" 5 2 kg :=
 pY M.zb λa b c=>(c0 (gu M.jq (bS 0) (fA (ou [(1,"program")] (yp rfl M.range (pR (mX M) (a6 1) a)) (λ_ _ _ _=>lJ) (λ_ _ _ _=>(PF.pd (CL (wQ M) a rfl (zO (PF.pd (Q4 (rP M) (a6 1) a (zO (a6 0)))))))))))
  (c0 (gu M.qG (bS 0) (fA (ou [(1,"program")] (yp rfl M.range (pR (mX M) (a6 1) a)) (λ_ _ _ _=>lJ) (λ_ _ _ _=>(sd (sP M) (a6 1) a (zO (a6 0)))))))
  (c0 (gu M.nv (bS 0) (fA (gi (AX M) a rfl (zO (a6 1)))))
  (c0 (gu M.k5 (bS 0) (fA (gi (tq M) a rfl (zO (a6 1)))))
  (c0 (gu M.p6 (bS 0) nS)
  (c0 (gu M.rJ (bS 0) nS)
  (c0 (gu M.lb (bS 0) nS)
  (c0 (Jg aT rfl (gn M.k5 (bS 0)) (lK 2 c)
  (c0 (oz b (gn M.p6 (bS 0)) (bS 2) (C7 (rQ M) a rfl (ft (oA b (gn M.k5 (bS 0)) (bS 2)) gZ)))
  (c0 (oz b (gn M.rJ (bS 0)) (bS 2) (C7 (n2 M) a rfl (ft (oA b (gn M.k5 (bS 0)) (bS 2)) gZ)))
  (eY (oz b (gn M.lb (bS 0)) (bS 2) nR)))))
  (c0 (yQ aT rfl (NN rfl M.enumerate (gn M.qG (bS 0))) (r9 3 2 rfl c)
  (eY (iH (kx (oA b (gn M.lb (bS 0)) (bS 2)) (bS 3)))))
  (c0 (gu M.mx (bS 0) nS)
  (eY (Jg aT rfl (gn M.nv (bS 0)) (lK 4 c)
  (eY (oz b (gn M.mx (bS 0)) (bS 4) (C7 (Dx M) a rfl (ft (gn M.nv (bS 0)) (ft (bS 4) gZ)))))))))))))))))
def AY:wq P w K mg base "body_marks" 2 1 kA :=
 Rm M.Dr λc b a=>(c0 (gH 1 a nR)
  (c0 (gH 2 a nR)
  (c0 (gH 3 a (fA c4))
  (c0 (yQ aT rfl (C4 (oq (zT (pR (p7 M) (a6 0) c) (zO c7)))) (lK 4 a)
  (c0 (gH 5 a (fA (zT (a6 4) (zO c7))))
  (c0 (gH 6 a (fA (jF b (a6 5) c4)))
  (c0 (kI (gs (kX (gQ (a6 2))))
  (c0 (kI (gs (fW (pO b) (a6 6) c7))
  (c0 (iH (kx (bS 1) (NI (ft (bS 5) (ft nR gZ)))))
  (eY (iH (kx (bS 2) (fA gO)))))
  jW)
  (eY E3))
  jW)
  (c0 (kI (gs (fW (hH b) (a6 6) c7))
  (eY (gH 7 a (NI (ft (bS 6) (ft (Hx (bS 2)) gZ)))))
  (eY (kI (gs (fW (hH b) (a6 6) c7))
  (eY (gH 7 a (fA (jQ (fy (a6 6) (zO gO))))))
  (c0 (gH 7 a (fA (jQ (fy (a6 6) (zO (a6 3))))))
  (c0 (kI (gs (fW (nC b) (a6 6) (rj M.jO rfl)))
  (eY (iH (kx (bS 2) (fA (XO (fW (hH b) (a6 6) c7) (a6 3) gO)))))
  jW)
  (eY (Vv 3 a Gz (fA c4))))))))
  (eY (kI (gs (gQ (a6 2)))
  (eY (iH (kx (oA b (oA b (bS 1) (fA mG)) (fA c4)) (bS 7))))
  jW)))))))
  (eY (nr (bS 1)))))))
def vb:ti P w K mg base "Flow" "join_rows" 1 2 jk :=
 tM M.vV λc a b=>(c0 (gH 2 b (fA gO))
  (c0 (gH 3 b nR)
  (c0 (yQ aT rfl (C4 (Jc rfl M.reversed (a6 1))) (r9 4 5 rfl b)
  (eY (kI (gs (fW (hH a) (a6 4) c7))
  (c0 (iH (kx (bS 3) (fA (jQ (fy (a6 2) (zO (a6 2)))))))
  (eY (kI (gs (fW n6 (a6 5) gO))
  (eY (gH 2 b (bS 5)))
  jW)))
  (eY (kI (gs (fW (hH a) (a6 4) c7))
  (c0 (oz a (bS 3) (fA mG) (sf (jQ (fy (jF a (jF a (a6 3) mG) c4) (zO (a6 2))))))
  (eY (gH 2 b (oA a (oA a (bS 3) (fA mG)) (fA c4)))))
  (c0 (oz a (gn M.pD (bS 0)) (bS 5) (bS 2))
  (c0 (oz a (gn M.kF (bS 0)) (bS 5) (bS 2))
  (c0 (kI (gs (fW (nC a) (a6 4) (rj M.jO rfl)))
  (eY (oz a (gn M.kF (bS 0)) (bS 5) (oA a (Hx (bS 3)) (fA c4))))
  jW)
  (eY (gH 2 b (bS 5)))))))))))
  (eY (nr (bS 2))))))
def Dy:uL P w K mg base "Flow" 3 2 mT :=
 pY M.FJ λa c b=>(c0 (gu M.qw (bS 0) nS)
  (c0 (gu M.pD (bS 0) nS)
  (c0 (gu M.kF (bS 0) nS)
  (eY (yQ aT rfl (C4 (oq (gi (AY M) a rfl (zO (a6 1))))) (r9 2 3 rfl b)
  (eY (oz c (gn M.qw (bS 0)) (fA (gi (lW M) a rfl (zO (a6 2)))) (uN (vb M) (bS 0) a (ft (bS 3) gZ)))))))))
def AZ:uL P w K mg base "State" 7 4 kC :=
 pY M.Ds λa c b=>(c0 (gu M.jK (bS 0) (fA (E8 (xr M) a rfl (zO (a6 1)))))
  (c0 (gu M.n1 (bS 0) (fA (E8 (Dy M) a rfl (zO (a6 1)))))
  (c0 (gu M.za (bS 0) (fA (PF.pd (oW rfl rfl M.list (zO (a6 2))))))
  (c0 (gu M.Dl (bS 0) (fA c4))
  (c0 (gu M.qx (bS 0) (bS 3))
  (c0 (gu M.iN (bS 0) nR)
  (c0 (gu M.lV (bS 0) nR)
  (c0 (gu M.kO (bS 0) nR)
  (eY (gu M.jc (bS 0) (fA gO)))))))))))
def Dz:uL P w K mg base "Call" 1 4 wI :=
 pY M.FK λc b a=>(c0 (gu M.Fz (bS 0) (bS 1))
  (c0 (gu M.wM (bS 0) (bS 2))
  (c0 (gu M.mw (bS 0) (bS 3))
  (eY (gu M.n0 (bS 0) nS)))))
def DA:nQ P w K mg base "call_body" 3 3 mU :=
 jT M.FN λc b a=>(c0 (gH 3 a (xP (Dz M) c rfl (ft (bS 1) (ft (bS 2) (ft (oA b (uK (cs:=["Flow"]) (ag.mpr ⟨M.qw,bt _⟩) (gn M.n1 (bS 0))) (bS 1)) gZ)))))
  (c0 (iH (kx (gn M.iN (bS 0)) (bS 3)))
  (eY (nr (bS 3)))))
def tY:kY P w K mg base "Outline" "made_by" 1 3 j3 :=
 uH [] M.u9 λd a c b=>(a8 (fD (lh (lF (Bx vG yl c4 (a6 1) (zL M.len (zP "Outline" M.jq (a6 0)))) (kR (fW (hH a) (zP "Row" M.ir (jF a (zP "Outline" M.jq (a6 0)) (a6 1))) (a6 2)))))
  (a9 (fh (jF a (zP "Outline" M.jq (a6 0)) (a6 1))))
  eB)
  (a9 (fh gO)))
def rR:kY P w K mg base "Outline" "made_kind" 2 2 je :=
 uH [] M.sO λc d b a=>(a8 (gE 2 b (fN (sd (tY M) (a6 0) c (fy (a6 1) (zO c7)))))
  (a8 (fD (fW qr (a6 2) gO)
  (a9 (fh gO))
  eB)
  (a9 (fh (zP "Row" M.my (a6 2))))))
def vZ:kY P w K mg base "State" "kind_of" 3 2 k0 :=
 uH [] M.xo λc a d b=>(a8 (fD (fW qr (a6 1) gO)
  (a9 (fh gO))
  eB)
  (a8 (fD (fW (hH a) (jF a (a6 1) c4) c7)
  (a9 (fh (jF a (a6 1) c4)))
  eB)
  (a9 (fh (sd (rR M) (zP "State" M.jK (a6 0)) c (zO (Nc (cs:=["Call","Thing"]) (ag.mpr ⟨M.mw,ag.mpr ⟨M.wN,bt _⟩⟩) (jF a (zP "State" M.lV (a6 0)) (jF a (a6 1) c4)))))))))
def rS:wq P w K mg base "shown_value" 4 2 gz :=
 iX [] M.AR λc d b a=>(a8 (fD (fW qr (a6 1) gO)
  (a9 (fh c7))
  eB)
  (a8 (gE 2 b (fN (sd (vZ M) (a6 0) c (zO (a6 1)))))
  (a8 (fD (fW n6 (a6 2) gO)
  (a9 (fh (a6 2)))
  eB)
  yK)))
def FT:nQ P w K mg base "end_call" 5 2 oG :=
 jT M.HP λa c b=>(c0 (iH (Hx (gn M.iN (bS 0))))
  (c0 (kI (gs (kX (gQ (zP "State" M.iN (a6 0)))))
  (c0 (gu M.jc (bS 0) (sf (jQ (fy c7 (zO (gi (rS M) a rfl (fy (a6 0) (zO (a6 1)))))))))
  (eY Rc))
  jW)
  jj))
def DB:kY P w K mg base "State" "top" 1 1 ro :=
 uH [] M.wO λd b c a=>(a9 (fh (jF b (zP "State" M.iN (a6 0)) mG)))
def lX:ti P w K mg base "State" "top" 1 1 gg :=
 tM M.wO λc a b=>(eY (nr (oA a (gn M.iN (bS 0)) (fA mG))))
def vc:nQ P w K mg base "end_calls" 6 1 iL :=
 jT M.FP λa c b=>(eY (E5 aT (gs (lh (lF (gQ (zP "State" M.iN (a6 0))) (kR (fW qr (zP "Call" M.mw (pR (DB M) (a6 0) a)) gO)))))
  (eY (iH (sg (FT M) a rfl (ft (bS 0) (ft (fA gO) gZ)))))))
def xt:uL P w K mg base "Machine" 9 4 jl :=
 pY M.zc λa c b=>(c0 (gu M.iY (bS 0) (xP (AZ M) a rfl (ft (bS 1) (ft (bS 2) (ft (bS 3) gZ)))))
  (c0 (iH (sg (DA M) a rfl (ft (gn M.iY (bS 0)) (ft (fA c7) (ft (fA (jQ jx)) gZ)))))
  (eY (iH (sg (vc M) a rfl (ft (gn M.iY (bS 0)) gZ))))))
def LB:wq P w K mg base "end_at" 1 2 rp :=
 iX [] M.NZ λd c b a=>(a8 (gE 2 b (fN (jF c (zP "Outline" M.jq (zP "State" M.jK (a6 0))) (a6 1))))
  (a8 (fD (HA M.Rx rfl (zP "Row" M.ir (a6 2)))
  (a9 (fh gO))
  eB)
  yK))
def A0:uL P w K mg base "Thing" 1 4 kD :=
 pY M.Dt λc b a=>(c0 (gu M.wN (bS 0) (bS 1))
  (c0 (gu M.Dn (bS 0) (bS 2))
  (c0 (gu M.Dm (bS 0) (bS 3))
  (c0 (gu M.tm (bS 0) nS)
  (eY (gu M.xl (bS 0) nR))))))
def sR:ti P w K mg base "State" "make_thing" 3 3 iQ :=
 tM M.tW λa c b=>(c0 (iH (kx (gn M.lV (bS 0)) (xP (A0 M) a rfl (ft (bS 1) (ft (gn M.wM (mQ (lX M) (bS 0) a)) (ft (bS 2) gZ))))))
  (eY (nr (sf (jQ (fy c7 (zO (gI MP (zL M.len (zP "State" M.lV (a6 0))) c4))))))))
def vd:ti P w K mg base "State" "thing_of" 1 2 jm :=
 tM M.vW λc a b=>(c0 (kI (gs (lh (oe (fW qr (a6 1) gO) (mB (fW (pO a) (jF a (a6 1) c4) c7)))))
  (eY yP)
  jW)
  (eY (nr (oA a (gn M.lV (bS 0)) (fA (jF a (a6 1) c4))))))
def o7:ti P w K mg base "Call" "give_name" 1 3 f6 :=
 tM M.vX λc a b=>(eY (kI (gs (fW qr (a6 2) gO))
  (eY (iH (Ri (gn M.n0 (bS 0)) (bS 1) (fA gO))))
  (eY (oz a (gn M.n0 (bS 0)) (bS 1) (bS 2)))))
def LC:nQ P w K mg base "do_new" 4 3 rq :=
 jT M.N1 λa c b=>(c0 (gH 3 b (uN (sR M) (bS 0) a (ft (bS 2) (ft (fA c7) gZ))))
  (c0 (gH 4 b (uN (vd M) (bS 0) a (ft (bS 3) gZ)))
  (c0 (yQ aT rfl (Rj (oA c (uK (cs:=["Outline"]) (ag.mpr ⟨M.mx,bt _⟩) (gn M.jK (bS 0))) (fA (zP "Row" M.my (a6 1))))) (lK 5 b)
  (eY (oz c (gn M.tm (bS 4)) (bS 5) (fA gO))))
  (eY (iH (uN (o7 M) (mQ (lX M) (bS 0) a) a (ft (fA (zP "Row" M.xU (a6 1))) (ft (bS 3) gZ))))))))
def xu:nQ P w K mg base "do_row_thing" 1 3 rz :=
 jT M.ze λc b a=>jj
def HU:nQ P w K mg base "do_func" 1 3 BJ :=
 jT M.Ll λc b a=>jj
def o8:kY P w K mg base "State" "value_of" 1 2 gF :=
 uH [] M.vY λd a c b=>(a9 (fh (mN a (zP "Call" M.n0 (jF a (zP "State" M.iN (a6 0)) mG)) (a6 1) ⟨rfl,rfl,rfl,rfl⟩)))
def HV:nQ P w K mg base "do_copy" 2 3 p1 :=
 jT M.Lm λa c b=>(eY (iH (uN (o7 M) (mQ (lX M) (bS 0) a) a (ft (fA (zP "Row" M.xU (a6 1))) (ft (sf (sd (o8 M) (a6 0) a (zO (zP "Row" M.Jm (a6 1))))) gZ)))))
def HW:nQ P w K mg base "do_take" 1 3 BK :=
 jT M.Ln λc b a=>jj
def LD:nQ P w K mg base "do_put" 1 3 Fv :=
 jT M.N2 λc b a=>jj
def HX:nQ P w K mg base "do_push" 1 3 BL :=
 jT M.Lo λc b a=>jj
def HY:nQ P w K mg base "do_pull" 1 3 BM :=
 jT M.Lq λc b a=>jj
def HZ:nQ P w K mg base "do_tell" 5 3 p3 :=
 jT M.Ls λa c b=>(eY (iH (kx (gn M.kO (bS 0)) (sf (gi (rS M) a rfl (fy (a6 0) (zO (sd (o8 M) (a6 0) a (zO (zP "Row" M.xU (a6 1)))))))))))
def A1:nQ P w K mg base "do_nothing" 1 3 nX :=
 jT M.Du λc b a=>(eY Rb)
def FU:nQ P w K mg base "do_fresh" 1 3 yY :=
 jT M.HQ λc b a=>jj
def LF:nQ P w K mg base "do_own" 1 3 Fw :=
 jT M.N3 λc b a=>jj
def FV:nQ P w K mg base "do_place" 1 3 yZ :=
 jT M.HR λc b a=>jj
def H0:nQ P w K mg base "is_true" 1 2 BN :=
 jT M.Lu λc b a=>jj
def LG:nQ P w K mg base "do_row" 7 2 rA :=
 jT M.N4 λb a c=>(c0 (gH 2 c (oA a (uK (cs:=["Outline"]) (ag.mpr ⟨M.jq,bt _⟩) (gn M.jK (bS 0))) (bS 1)))
  (c0 (gH 3 c (mQ (lX M) (bS 0) b))
  (c0 (kI (gs (fW (nC a) (zP "Row" M.ir (a6 2)) (rj M.Lj rfl)))
  (eY yP)
  (eY (kI (gs (fW (hH a) (zP "Row" M.ir (a6 2)) c7))
  (eY yP)
  (eY (kI (Yk (Rv (gs (fW (nC a) (zP "Row" M.ir (a6 2)) (rj M.jO rfl))) (NP (Rl (Jh (sg (H0 M) b rfl (ft (bS 0) (ft (bS 2) gZ))))))))
  (eY (gu M.mw (bS 3) (oA a (uK (cs:=["Flow"]) (ag.mpr ⟨M.kF,bt _⟩) (gn M.n1 (bS 0))) (bS 1))))
  (c0 (kI (gs (KU M.sj rfl (zP "Row" M.ir (a6 2))))
  (eY (iH (Ro (j:=5) M.sj (by intro q d;simp only[Di,av,List.not_mem_nil,or_false] at d;rcases d with rfl|rfl|rfl|rfl|rfl|rfl|rfl|rfl|rfl|rfl|rfl|rfl|rfl|rfl<;>first|exact((LC M)).up (by decide)|exact((xu M)).up (by decide)|exact((HU M)).up (by decide)|exact((HV M)).up (by decide)|exact((HW M)).up (by decide)|exact((LD M)).up (by decide)|exact((HX M)).up (by decide)|exact((HY M)).up (by decide)|exact((HZ M)).up (by decide)|exact((A1 M)).up (by decide)|exact((FU M)).up (by decide)|exact((LF M)).up (by decide)|exact((FV M)).up (by decide)) b rfl (fA (zP "Row" M.ir (a6 2))) (ft (bS 0) (ft (bS 2) (ft (bS 1) gZ))))))
  jW)
  (eY (gu M.mw (bS 3) (oA a (uK (cs:=["Flow"]) (ag.mpr ⟨M.pD,bt _⟩) (gn M.n1 (bS 0))) (bS 1))))))))))
  (eY (iH (sg (vc M) b rfl (ft (bS 0) gZ)))))))
def qH:ti P w K mg base "Machine" "step" 8 1 fM :=
 tM M.zf λa c b=>(c0 (gH 1 b (gn M.iY (bS 0)))
  (c0 (kI (gs (fW n6 (zP "State" M.jc (a6 1)) gO))
  (eY (nr (fA kG)))
  jW)
  (c0 (kI (gs (fW vG (zP "State" M.qx (a6 1)) c4))
  (c0 (gu M.jc (bS 1) (fA (jQ (zO c7))))
  (eY (nr (fA kG))))
  jW)
  (c0 (KS M.qx (bS 1) (fA c4) GA)
  (c0 (gH 2 b (gn M.mw (mQ (lX M) (bS 1) a)))
  (c0 (gu M.jc (bS 1) (sf (gi (LB M) a rfl (fy (a6 1) (zO (a6 2))))))
  (c0 (kI (gs (fW qr (zP "State" M.jc (a6 1)) gO))
  (eY (iH (sg (LG M) a rfl (ft (bS 1) (ft (bS 2) gZ)))))
  jW)
  (eY (nr (fA kG))))))))))
def xv:ti P w K mg base "Machine" "told" 1 1 jn :=
 tM M.zh λc b a=>(eY (nr (Rq rfl M.list (gn M.kO (gn M.iY (bS 0))))))
def zr:wq P w K mg base "_law_cell_at" 1 2 iM :=
 iX [] M.AU λd b c a=>(a8 (fD (fW yl (a6 1) (zL M.len (a6 0)))
  (a9 (fh (jF b (a6 0) (a6 1))))
  eB)
  (a9 (fh c4)))
def DC:rh P w K mg base "_law_names" 1 1 lx :=
 yM [5] M.FQ λd c a b=>(a8 (gE 1 a (fN c7))
  (a8 (gE 2 a (fN c7))
  (a8 (mE aT rfl (pw (yx rfl M.range (gI jP c4 (gI nj (a6 0) c4)))) (lK 3 a) (by decide)
  (a9 (gE 2 a (fN (gI jP (a6 2) (jF c (a6 1) (gI nj (gI pf (a6 0) (gI jP c4 (gI I0 (a6 3) (a6 3)))) c4)))))))
  (a8 (gE 4 a (fN (gI nj (gI pf (a6 0) c4) (zL M.len (a6 2)))))
  (a8 (kr 5 a b (ke (q8 jx)))
  (a8 (mE aT rfl (pw (yx rfl M.range c4)) (lK 3 a) (by decide)
  (a8 (gE 6 a (fN (jF c (a6 1) (gI nj (gI jP (gI pf (a6 0) c4) (gI I0 c4 (a6 3))) c4))))
  (a9 (ml b (rg 5) (fN (gI jP (gI jP (ib (a6 2) gW (gJ (a6 4))) (a6 6)) (ib (a6 2) (gJ (gI jP (a6 4) c4)) gW)))))))
  (a9 (ux 5 b))))))))
def H7:wq P w K mg base "_law_row" 1 3 ly :=
 iX [] M.Lv λd a b c=>(a8 (gE 3 b (fN (jF a (a6 1) (gI nj (gI pf (a6 0) c4) c4))))
  (a8 (gE 4 b (fN (jF a (a6 1) (gI nj (gI pf (a6 0) c4) c4))))
  (a8 (gE 5 b (fN (gI nj (a6 0) c4)))
  (a8 (fD (fW (hH a) (a6 5) c4)
  (a9 (fh (lG (fy c7 (fy (a6 3) (zO (jF a (a6 2) (gI nj (gI pf (a6 0) c4) (zL M.len (a6 2))))))))))
  eB)
  (a8 (fD (fW (hH a) (a6 5) c4)
  (a9 (fh (lG (fy c7 (fy (a6 3) (zO (a6 4)))))))
  eB)
  (a8 (fD (fW (hH a) (a6 5) c4)
  (a9 (fh (lG (fy c7 (zO (a6 3))))))
  eB)
  (a9 (fh (jF a (lG (fy (lG (fy c7 (zO (a6 4)))) (zO (lG (zO c7))))) (gI nj (gI pf (a6 0) c4) c4))))))))))
def xw:vE P w K mg base "Reading" 1 1 oI :=
 CZ [] M.zk λe d b a=>(a8 (uA 0 (c:="Reading") a M.hY (ke vB))
  (a8 (uA 0 (c:="Reading") a M.iq (ke vB))
  (a8 (iT 0 (c:="Reading") a M.jr (fN gO))
  (a8 (uA 0 (c:="Reading") a M.gS (ke (q8 jx)))
  (a8 (iT 0 (c:="Reading") a M.lT (fN kG))
  (a9 (uA 0 (c:="Reading") a M.ny (ke (q8 jx)))))))))
def v5:wq P w K mg base "numbered_rows" 3 1 jI :=
 iX [1] M.xp λd b a c=>(a8 (kr 1 a c (ke vB))
  (a8 (gE 2 a (fN gO))
  (a8 (gE 3 a (fN c4))
  (a8 (mE aT rfl (pw (EO rfl M.enumerate (zT (a6 0) (zO c7)))) (r9 4 5 rfl a) (by decide)
  (a8 (gE 6 a (fN (zT (a6 5) (zO c7))))
  (a9 (fD (fW (hH b) (jF b (a6 6) c4) c7)
  (a9 (xJ 3 a GA (fN c4)))
  (a9 (fD (fW IP (a6 3) c4)
  (a8 (fD (fW (pO b) (jF b (a6 6) c4) c7)
  (a9 (oT b c (rg 1) (EE (zL M.len (a6 1))) (fN (jQ (fy (a6 4) (fy (a6 6) (zO (a6 2))))))))
  eB)
  (a9 (fD (fW (nC b) (jF b (a6 6) c4) (rj M.jO rfl))
  (a9 (xJ 3 a Gz (fN c4)))
  eB)))
  (a9 (fD (fW (pO b) (jF b (a6 6) c4) c7)
  (a8 (gE 2 a (fN (gi (lW M) d rfl (zO (a6 6)))))
  (a9 (gE 3 a (fN c4))))
  eB))))))))
  (a9 (fh (a6 1)))))))
def xx:vE P w K mg base "Program" 4 2 kj :=
 CZ [] M.zm λb e d a=>(a8 (iT 0 (c:="Program") a M.rL (fN (a6 1)))
  (a8 (iT 0 (c:="Program") a M.jB (fN (gi (v5 M) b rfl (zO (a6 1)))))
  (a9 (iT 0 (c:="Program") a M.rK (Yd (oW rfl rfl M.list (zO (gi (tq M) b rfl (zO (a6 0))))))))))
def qS:wq P w K mg base "names_what_is_told" 2 2 ic :=
 iX [] M.rM λb a d c=>(a8 (fD (fW (hH a) (zP "Row" M.ir (a6 1)) c7)
  (a9 (fh (sF (nC a) (gi (rO M) b rfl (fy (zP "Row" M.my (a6 1)) (zO (zP "Row" M.u5 (a6 1))))) (zP "Reading" M.iq (a6 0)))))
  eB)
  (a8 (fD (lh (oe (fW (hH a) (zP "Row" M.lU (a6 1)) c7) (mB (fW (q5 a) (zP "Row" M.lU (a6 1)) (zP "Reading" M.iq (a6 0))))))
  (a9 (fh kG))
  eB)
  (a9 (fh (sF (hH a) (zL M.len (PF.pd (vF (n2 M) b rfl (zO (jF a (zP "Reading" M.iq (a6 0)) (zP "Row" M.lU (a6 1))))))) (zL M.len (zP "Row" M.u4 (a6 1))))))))
def zt:EH P w K mg base "close_block" 1 1 jN :=
 EX [] M.AV λe b d a=>(a8 (fD (gQ (zP "Reading" M.gS (a6 0)))
  (a8 (QI a (Bq 0 (c:="Reading") M.gS))
  (a9 (KA a)))
  eB)
  (a8 (iT 0 (c:="Reading") a M.lT (EE (sF (hH b) (zP "Reading" M.jr (a6 0)) c7)))
  (a9 (iT 0 (c:="Reading") a M.jr (fN gO)))))
def v7:EH P w K mg base "turns_to_else" 1 1 k4 :=
 EX [] M.xq λe b d a=>(a8 (fD (lh (oe (kX (gQ (zP "Reading" M.gS (a6 0)))) (mB (fW (pO b) (jF b (zP "Reading" M.gS (a6 0)) mG) c7))))
  (a9 (ji a kG))
  eB)
  (a8 (oT b a (Bq 0 (c:="Reading") M.gS) (fN mG) (fN c7))
  (a9 (ji a kG))))
def A2:wq P w K mg base "is_letters" 1 1 nY :=
 iX [] M.Dv λd c b a=>(a8 (mE aT rfl (pw (oq (a6 0))) (lK 1 b) (by decide)
  (a9 (fD (kX (Bx vG vG c7 (a6 1) c7))
  (a9 (fh kG))
  eB)))
  (a9 (fh (sF (pO c) (a6 0) c7))))
def zu:wq P w K mg base "is_name" 2 1 n8 :=
 iX [] M.Ly λb d c a=>(a9 (fh (se (sF vG (zL M.len (a6 0)) c4) (xO (gi (A2 M) b rfl (zO (a6 0)))))))
def LH:wq P w K mg base "is_row" 3 1 uX :=
 iX [] M.N5 λb a d c=>(a8 (fD (lh (oe (kX (gQ (a6 0))) (mB (kX (gQ (yn (Nx rfl) rfl M.all (by rfl) (zO (ou [] (nO (a6 0)) (λ_ _ _ _=>lJ) (λ_ _ _ _=>(gi (zu M) b rfl (zO (a6 0))))))))))))
  (a9 (fh kG))
  eB)
  (a8 (gE 1 d (fN (gi (zq M) b rfl (zO (a6 0)))))
  (a8 (fD (fW qr (a6 1) gO)
  (a9 (fh kG))
  eB)
  (a8 (fD (lh (lF (gQ (a6 1)) (kR (fW (hH a) (jF a (a6 1) mG) c7))))
  (a9 (fh (sF XM (zL M.len (a6 0)) (zL M.len (a6 1)))))
  eB)
  (a9 (fh (sF (hH a) (zL M.len (a6 0)) (gI jP (zL M.len (a6 1)) c4))))))))
def xy:EH P w K mg base "reads_within" 5 3 gw :=
 EX [] M.zo λd b e a=>(a8 (fD (fW (hH b) (a6 2) (lG (zO c7)))
  (a8 (KC (uC 0 (zt M) a d rfl jx))
  (a9 (ji a kG)))
  eB)
  (a8 (fD (fW (hH b) (a6 2) (lG (zO c7)))
  (a9 (yD a (uC 0 (v7 M) a d rfl jx)))
  eB)
  (a8 (fD (kX (gQ (gi (LH M) d rfl (zO (a6 2)))))
  (a9 (ji a kG))
  eB)
  (a8 (gE 3 e (fN (PF.pd (CL (wQ M) d rfl (zO (a6 2))))))
  (a8 (fD (lh (lF (fW n6 (zP "Row" M.my (a6 3)) gO) (kR (fW (q5 b) (zP "Row" M.my (a6 3)) (zP "Reading" M.hY (a6 0))))))
  (a9 (ji a kG))
  eB)
  (a8 (fD (fW (nC b) (zP "Row" M.ir (a6 3)) (rj M.jO rfl))
  (a9 (ml a (Bq 0 (c:="Reading") M.gS) (fN (zP "Row" M.ir (a6 3)))))
  eB)
  (a8 (fD (fW (nC b) (zP "Row" M.ir (a6 3)) (jQ (fy c7 (zO c7))))
  (a9 (ml a (Bq 0 (c:="Reading") M.ny) (fN (jQ (fy (a6 1) (zO (a6 3)))))))
  eB)
  (a9 (ji a (sF vG (zL M.len (zP "Reading" M.gS (a6 0))) (rj M.AN rfl)))))))))))
def wR:wq P w K mg base "are_once" 1 1 oJ :=
 iX [] M.HS λd b c a=>(a9 (fh (sF (hH b) (KJ rfl rfl M.len rfl M.set (a6 0)) (zL M.len (a6 0)))))
def A3:EH P w K mg base "reads_kind" 2 2 nZ :=
 EX [3] M.Dw λe b d a=>(a8 (fD (lh (oe (gQ (zP "Reading" M.iq (a6 0))) (oe (fW yl (zL M.len (a6 1)) c4) (mB (fW (nC b) (jF b (a6 1) c4) (zP "Reading" M.hY (a6 0)))))))
  (a9 (ji a kG))
  eB)
  (a8 (gE 2 d (fN (ib (a6 1) (gJ c4) gW)))
  (a8 (kr 3 d a (ke (q8 jx)))
  (a8 (fD (lh (lF (gQ (a6 2)) (kR (fW (hH b) (jF b (a6 2) c4) c7))))
  (a8 (fD (lh (oe (fW yl (zL M.len (a6 2)) c4) (mB (fW (q5 b) (jF b (a6 2) c4) (zP "Reading" M.hY (a6 0))))))
  (a9 (ji a kG))
  eB)
  (a8 (kr 3 d a (Vf (oW rfl rfl M.list (zO (jF b (zP "Reading" M.hY (a6 0)) (jF b (a6 2) c4))))))
  (a9 (gE 2 d (fN (ib (a6 2) (gJ c4) gW))))))
  eB)
  (a8 (fD (lh (lF (gQ (a6 2)) (kR (lh (oe (fW (pO b) (jF b (a6 2) c4) c7) (mB (fW yl (zL M.len (a6 2)) c4)))))))
  (a9 (ji a kG))
  eB)
  (a8 (Hf a (rg 3) (ke (yz (a6 2) (gJ c4) gW)))
  (wD (O':=[0]) 3 (by decide) (by decide)
  (have a:([0]:List Nat).Nodup:=by decide
  (a8 (oT b a (Bq 0 (c:="Reading") M.hY) (fN (jF b (a6 1) c4)) (fN (a6 3)))
  (a9 (ji a (gi (wR M) e rfl (zO (a6 3))))))))))))))
def oM:wq P w K mg base "are_heads_names" 2 1 lS :=
 iX [] M.va λb a d c=>(a8 (fD (lh (lF (fW (hH a) (jF a (a6 0) c4) c7) (lF (fW (nC a) c7 (ib (a6 0) (gJ c4) gW)) (kR (kX (gQ (PF.pd (vF (n2 M) b rfl (zO (a6 0))))))))))
  (a9 (fh kG))
  eB)
  (a8 (gE 1 d (fN (gI jP (PF.pd (vF (rQ M) b rfl (zO (a6 0)))) (PF.pd (vF (n2 M) b rfl (zO (a6 0)))))))
  (a9 (fh (se (sF (q5 a) c7 (a6 1)) (xO (gi (wR M) b rfl (zO (a6 1)))))))))
def Ia:wq P w K mg base "is_head" 3 2 vU :=
 iX [] M.Lz λb a d c=>(a8 (fD (fW (hH a) (jF a (a6 1) c4) c7)
  (a9 (fh (se (sF IP (zL M.len (a6 1)) c4) (se (sF (pO a) (jF a (a6 1) c4) c7) (xO (gi (oM M) b rfl (zO (a6 1))))))))
  eB)
  (a8 (fD (fW (hH a) (jF a (a6 1) c4) c7)
  (a9 (fh (se (sF IP (zL M.len (a6 1)) c4) (se (sF (nC a) (jF a (a6 1) c4) (zP "Reading" M.hY (a6 0))) (xO (gi (oM M) b rfl (zO (a6 1))))))))
  eB)
  (a9 (fh (sF (hH a) (a6 1) (lG (zO c7)))))))
def DD:EH P w K mg base "reads_row" 6 3 gR :=
 EX [] M.FR λb d e a=>(a8 (fD (gQ (zP "Reading" M.lT (a6 0)))
  (a9 (ji a kG))
  eB)
  (a8 (fD (fW n6 (zP "Reading" M.jr (a6 0)) gO)
  (a9 (yD a (uC 0 (xy M) a b rfl (fy (a6 1) (zO (a6 2))))))
  eB)
  (a8 (fD (fW (hH d) (jF d (a6 2) c4) c7)
  (a9 (yD a (uC 0 (A3 M) a b rfl (zO (a6 2)))))
  eB)
  (a8 (fD (lh (oe (kX (gQ (gi (Ia M) b rfl (fy (a6 0) (zO (a6 2)))))) (mB (fW (nC d) (gi (lW M) b rfl (zO (a6 2))) (zP "Reading" M.iq (a6 0))))))
  (a9 (ji a kG))
  eB)
  (a8 (iT 0 (c:="Reading") a M.jr (fN (gi (lW M) b rfl (zO (a6 2)))))
  (a8 (oT d a (Bq 0 (c:="Reading") M.iq) (EE (zP "Reading" M.jr (a6 0))) (fN (a6 2)))
  (a9 (ji a kG))))))))
def xA:wq P w K mg base "read_program" 7 1 g0 :=
 iX [1] M.zp λb d c a=>(a8 (kr 1 c a (ke (Nl (xw M) b rfl)))
  (a8 (NA 2 [] c (nO (zT (a6 0) (zO c7))) (λ_ _ _ _=>lJ) (λ_ _ _ _=>(zT (a6 0) (zO c7))))
  (a8 (mE aT rfl (pw (EO rfl M.enumerate (a6 2))) (r9 3 4 rfl c) (by decide)
  (a9 (QP (X5 (Vi (kX (gQ (yn (Nx rfl) rfl M.all (by rfl) (zO (ou [] (nO (a6 4)) (λ_ _ _ _=>lJ) (λ_ _ _ _=>(gi (zu M) b rfl (zO (a6 0))))))))) (QN (QM (QL (uC 1 (DD M) a b rfl (fy (a6 3) (zO (a6 4)))))))))
  (a9 vC)
  eB)))
  (a8 (fD (kX (gQ (zP "Reading" M.lT (a6 1))))
  (a9 vC)
  eB)
  (wD (O':=[]) 1 (by decide) (by decide)
  (have a:([]:List Nat).Nodup:=by decide
  (a8 (mE aT rfl (pw (oq (zP "Reading" M.ny (a6 1)))) (r9 3 5 rfl c) (by decide)
  (a9 (fD (kX (gQ (gi (qS M) b rfl (fy (a6 1) (zO (a6 5))))))
  (a9 vC)
  eB)))
  (a9 (fh (PF.pd (CL (xx M) b rfl (zO (a6 0)))))))))))))
def zx:kY P w K mg base "Machine" "end" 1 1 kW :=
 uH [] M.AW λd c b a=>(a9 (fh (zP "State" M.jc (zP "Machine" M.iY (a6 0)))))
def Ib:rh P w K mg base "_law_due" 1 2 mv :=
 yM [2,3] M.LA λd a c b=>(a8 (kr 2 c b (ke vB))
  (a8 (kr 3 c b (ke (q8 jx)))
  (a8 (mE aT rfl (pw (oq (ib (a6 0) gW (gJ (a6 1))))) (lK 4 c) (by decide)
  (a9 (fD (fW (hH a) (jF a (a6 4) c4) c7)
  (a9 (oT a b (rg 2) (fN (jF a (a6 4) c4)) (fN (jF a (a6 4) c4))))
  (a9 (fD (fW (hH a) (jF a (a6 4) c4) c7)
  (a9 (oT a b (rg 2) (fN (jF a (a6 4) c4)) (EE (EW a (a6 2) (jF a (a6 4) c4) c7 ⟨rfl,rfl,rfl,rfl⟩))))
  (a9 (fD (fW (hH a) (jF a (a6 4) c4) c7)
  (a9 (ml b (rg 3) (EE (EW a (a6 2) (jF a (a6 4) c4) c7 ⟨rfl,rfl,rfl,rfl⟩))))
  eB)))))))
  (a9 (ux 3 b)))))
def Vw{g:Addr}(e:mg "law"=Y (.ref g)):∃f:FuncData,(∀(s:Shared) (u:Value),BindsTo s f ⟨[u],[]⟩ [("_law_script",u)])/\∀b:Heap,K.In b->b.Ns mainGlobals mg->k7 P w K mg b vo 11 g f ["_law_script"] (TF K 1 Jl) :=
 Rn e M.Yn λ_=>λc d a=>(c0 (gH 1 a (fA (gi (zr M) c rfl (fy (a6 0) (zO c4)))))
  (c0 (gH 2 a (fA (PF.pd (vF (DC M) c rfl (zO (gI pf (a6 1) c4))))))
  (c0 (gH 3 a (fA (ib (jF d (lG (fy (lG (NF ["ka","k","kab"] rfl)) (zO (ib (a6 2) gW (gJ c4))))) (gI nj (gI pf (a6 1) c4) c4)) gW (gJ (gI jP c4 (gI nj (a6 1) c4))))))
  (c0 (Rp 4 [(2,"_law_names_here"),(3,"_law_kinds")] a (nO (ib (a6 0) (gJ c4) (gJ c4))) (λ_ _ _ _=>lJ) (λ_ _ _ _=>(gi (H7 M) c rfl (fy (a6 0) (fy (a6 1) (zO (a6 2)))))))
  (c0 (gH 5 a (fA (gI jP (gI jP (gI jP (ou [] (nO (a6 3)) (λ_ _ _ _=>lJ) (λ_ _ _ _=>(gI jP c7 (a6 0)))) (lG (zO c7))) (ou [] (nO (a6 4)) (λ_ _ _ _=>lJ) (λ_ _ _ _=>(Hi PySem.F.slot_str_join PySem.F.type_str_join IZ c7 (zO (a6 0)))))) (lG (zO c7)))))
  (c0 (gH 6 a (fA (gI nj (gI pf (a6 1) c4) c4)))
  (c0 (gH 7 a (xP (xt M) c rfl (ft (fA (gi (xA M) c rfl (zO (Hi PySem.F.slot_str_join PySem.F.type_str_join IZ c7 (zO (a6 5)))))) (ft (fA (lG jx)) (ft (bS 6) gZ)))))
  (c0 (gH 8 a (fA c4))
  (c0 (E5 aT (Jh (mQ (qH M) (bS 7) c))
  (eY (gH 8 a (fA (gI jP (a6 8) c4)))))
  (c0 (gH 9 a (fA (jQ (fy c7 (zO c7)))))
  (c0 (gH 10 a (fA (zL M.len (a6 4))))
  (c0 (kI (gs (fW yl (a6 6) (zL M.len (a6 4))))
  (c0 (gH 9 a (fA (jQ (zO c7))))
  (eY (gH 10 a (fA (gI jP (a6 6) c4)))))
  jW)
  (c0 (kI (gs (lh (oe (fW (pO d) (a6 8) (a6 10)) (mB (fW (pO d) (pR (zx M) (a6 7) c) (a6 9))))))
  (eY (nr (fA kG)))
  jW)
  (c0 (gH 11 a (mQ (xv M) (bS 7) c))
  (eY (nr (Jj (fA (Ks (bN (b5 rfl)) (a6 11) rfl M.isinstance rfl M.list (by rfl))) (Jj (fA (sF (hH d) (a6 11) (PF.pd (vF (Ib M) c rfl (fy (a6 4) (zO (a6 6))))))) (Ru (Vu qr (mQ (qH M) (bS 7) c) (fA kG)))))))))))))))))))))
end
section
variable {P:Program}{w:World}{h:Heap}{A:Addr}{N:Nat}
def LI{B y x v u t s r q p d c b a:Addr}{O M L J I H F E D C i g f e:Tok} (X:K.In h) (G:h.Ns mainGlobals mg) (k:W.nsIn K mainGlobals "DEEDS"=Y (Y (.ref A))) (z:(A==sysModules)=false) (l:K.lookup A=Y { cls:=.type "dict",data:=.dict #[⟨eW.keyHash w.params "new",.str "new" O,.ref B⟩,⟨eW.keyHash w.params "row",.str "row" M,.ref y⟩,⟨eW.keyHash w.params "func",.str "func" L,.ref x⟩,⟨eW.keyHash w.params "copy",.str "copy" J,.ref v⟩,⟨eW.keyHash w.params "take",.str "take" I,.ref u⟩,⟨eW.keyHash w.params "put",.str "put" H,.ref t⟩,⟨eW.keyHash w.params "push",.str "push" F,.ref s⟩,⟨eW.keyHash w.params "pull",.str "pull" E,.ref r⟩,⟨eW.keyHash w.params "tell",.str "tell" D,.ref q⟩,⟨eW.keyHash w.params "rest",.str "rest" C,.ref p⟩,⟨eW.keyHash w.params "check",.str "check" i,.ref d⟩,⟨eW.keyHash w.params "fresh",.str "fresh" g,.ref c⟩,⟨eW.keyHash w.params "own",.str "own" f,.ref b⟩,⟨eW.keyHash w.params "place",.str "place" e,.ref a⟩] N })
  (l0:W.nsIn K mainGlobals "do_new"=Y (Y (.ref B)))
  (l1:W.nsIn K mainGlobals "do_row_thing"=Y (Y (.ref y)))
  (l2:W.nsIn K mainGlobals "do_func"=Y (Y (.ref x)))
  (l3:W.nsIn K mainGlobals "do_copy"=Y (Y (.ref v)))
  (V:W.nsIn K mainGlobals "do_take"=Y (Y (.ref u)))
  (U:W.nsIn K mainGlobals "do_put"=Y (Y (.ref t)))
  (T:W.nsIn K mainGlobals "do_push"=Y (Y (.ref s)))
  (S:W.nsIn K mainGlobals "do_pull"=Y (Y (.ref r)))
  (R:W.nsIn K mainGlobals "do_tell"=Y (Y (.ref q)))
  (Q:W.nsIn K mainGlobals "do_nothing"=Y (Y (.ref p)))
  (o:W.nsIn K mainGlobals "do_nothing"=Y (Y (.ref d)))
  (n:W.nsIn K mainGlobals "do_fresh"=Y (Y (.ref c)))
  (m:W.nsIn K mainGlobals "do_own"=Y (Y (.ref b)))
  (j:W.nsIn K mainGlobals "do_place"=Y (Y (.ref a))):yT P w K mg "DEEDS" sj :=
 Vt (P:=P) (l:=[("new",O,B,"do_new"),("row",M,y,"do_row_thing"),("func",L,x,"do_func"),("copy",J,v,"do_copy"),("take",I,u,"do_take"),("put",H,t,"do_put"),("push",F,s,"do_push"),("pull",E,r,"do_pull"),("tell",D,q,"do_tell"),("rest",C,p,"do_nothing"),("check",i,d,"do_nothing"),("fresh",g,c,"do_fresh"),("own",f,b,"do_own"),("place",e,a,"do_place")]) (W.mg_of X G k) z l (by show (["new","row","func","copy","take","put","push","pull","tell","rest","check","fresh","own","place"]:Lr).Nodup;decide +kernel) (ag.mpr ⟨W.mg_of X G l0,ag.mpr ⟨W.mg_of X G l1,ag.mpr ⟨W.mg_of X G l2,ag.mpr ⟨W.mg_of X G l3,ag.mpr ⟨W.mg_of X G V,ag.mpr ⟨W.mg_of X G U,ag.mpr ⟨W.mg_of X G T,ag.mpr ⟨W.mg_of X G S,ag.mpr ⟨W.mg_of X G R,ag.mpr ⟨W.mg_of X G Q,ag.mpr ⟨W.mg_of X G o,ag.mpr ⟨W.mg_of X G n,ag.mpr ⟨W.mg_of X G m,ag.mpr ⟨W.mg_of X G j,bt _⟩⟩⟩⟩⟩⟩⟩⟩⟩⟩⟩⟩⟩⟩)
def xB{b a:Tok}(X:K.In h)(G:h.Ns mainGlobals mg)(k:W.nsIn K mainGlobals "BLOCK_WORDS"=Y (Y (.ref A)))(l:K.lookup A=Y (zy #[.str "if" b,.str "while" a] N)):ET K mg "BLOCK_WORDS" (.tuple [(.str "if"),(.str "while")]) :=
 ⟨.ref A,.ref A,W.mg_of X G k,rfl,ow (xs:=["if","while"]) l (by show 2<=sizeLine;decide) (.cons ⟨_,rfl⟩ (.cons ⟨_,rfl⟩ .nil))⟩
def FW{c b a:Tok}(X:K.In h)(G:h.Ns mainGlobals mg)(k:W.nsIn K mainGlobals "CALLERS"=Y (Y (.ref A)))(l:K.lookup A=Y (zy #[.str "do" c,.str "ask" b,.str "straight" a] N)):ET K mg "CALLERS" (.tuple [(.str "do"),(.str "ask"),(.str "straight")]) :=
 ⟨.ref A,.ref A,W.mg_of X G k,rfl,ow (xs:=["do","ask","straight"]) l (by show 3<=sizeLine;decide) (.cons ⟨_,rfl⟩ (.cons ⟨_,rfl⟩ (.cons ⟨_,rfl⟩ .nil)))⟩
def zz{f e d:Addr}{o n m:Nat}{j i c g b a:Tok} (X:K.In h) (G:h.Ns mainGlobals mg) (k:W.nsIn K mainGlobals "CONDITIONS"=Y (Y (.ref A))) (z:(A==sysModules)=false) (l:K.lookup A=Y { cls:=.type "dict",data:=.dict #[⟨eW.keyHash w.params "choose",.str "choose" j,.ref f⟩,⟨eW.keyHash w.params "some",.str "some" i,.ref e⟩,⟨eW.keyHash w.params "same",.str "same" g,.ref d⟩] N })
  (r:K.lookup f=Y (zy #[] o))
  (q:K.lookup e=Y (zy #[.str "X" c] n))
  (p:K.lookup d=Y (zy #[.str "X" b,.str "Y" a] m)):lL P w K mg "CONDITIONS" nT :=
 CY (P:=P) (l:=[("choose",j,.ref f,.tuple (([]:Lr).map .str)),("some",i,.ref e,.tuple ((["X"]:Lr).map .str)),("same",g,.ref d,.tuple ((["X","Y"]:Lr).map .str))]) (W.mg_of X G k) z l (by show (["choose","some","same"]:Lr).Nodup;decide +kernel) (ag.mpr ⟨⟨.ref f,rfl,ow (xs:=[]) r (by show 0<=sizeLine;decide) .nil⟩,ag.mpr ⟨⟨.ref e,rfl,ow (xs:=["X"]) q (by show 1<=sizeLine;decide) (.cons ⟨_,rfl⟩ .nil)⟩,ag.mpr ⟨⟨.ref d,rfl,ow (xs:=["X","Y"]) p (by show 2<=sizeLine;decide) (.cons ⟨_,rfl⟩ (.cons ⟨_,rfl⟩ .nil))⟩,bt _⟩⟩⟩)
def LJ{V0 V1 V2 V3 V4 V5 V6 V7 V8 V9 i g f e d c b a:Addr}{m0 m1 m2 m3 m4 m5 m6 m7 m8 m9 m10 m11 m12 m13 m14 m15 m16 m17:Nat}{t0 aaE aaF t1 aaG t2 aaH aaI aaJ t3 aaK aaL t4 aaM aaN aaO t5 aaP V U t6 T S t7 R Q t8 O M L t9 J I H F t10 E D C B y t11 x t12 v t13 t14 u t t15 s r t16 q p o t17 n m j:Tok} (X:K.In h) (G:h.Ns mainGlobals mg) (k:W.nsIn K mainGlobals "FORMS"=Y (Y (.ref A))) (z:(A==sysModules)=false) (l:K.lookup A=Y { cls:=.type "dict",data:=.dict #[⟨eW.keyHash w.params "new",.str "new" t0,.ref V0⟩,⟨eW.keyHash w.params "row",.str "row" t1,.ref V1⟩,⟨eW.keyHash w.params "func",.str "func" t2,.ref V2⟩,⟨eW.keyHash w.params "copy",.str "copy" t3,.ref V3⟩,⟨eW.keyHash w.params "take",.str "take" t4,.ref V4⟩,⟨eW.keyHash w.params "put",.str "put" t5,.ref V5⟩,⟨eW.keyHash w.params "push",.str "push" t6,.ref V6⟩,⟨eW.keyHash w.params "pull",.str "pull" t7,.ref V7⟩,⟨eW.keyHash w.params "do",.str "do" t8,.ref V8⟩,⟨eW.keyHash w.params "ask",.str "ask" t9,.ref V9⟩,⟨eW.keyHash w.params "straight",.str "straight" t10,.ref i⟩,⟨eW.keyHash w.params "give",.str "give" t11,.ref g⟩,⟨eW.keyHash w.params "tell",.str "tell" t12,.ref f⟩,⟨eW.keyHash w.params "rest",.str "rest" t13,.ref e⟩,⟨eW.keyHash w.params "check",.str "check" t14,.ref d⟩,⟨eW.keyHash w.params "fresh",.str "fresh" t15,.ref c⟩,⟨eW.keyHash w.params "own",.str "own" t16,.ref b⟩,⟨eW.keyHash w.params "place",.str "place" t17,.ref a⟩] N })
  (l0:K.lookup V0=Y (zy #[.str "X" aaE,.str "KIND" aaF] m0))
  (l1:K.lookup V1=Y (zy #[.str "X" aaG] m1))
  (l2:K.lookup V2=Y (zy #[.str "X" aaH,.str "FUNCTION" aaI,.str "A" aaJ] m2))
  (l3:K.lookup V3=Y (zy #[.str "X" aaK,.str "Y" aaL] m3))
  (l4:K.lookup V4=Y (zy #[.str "X" aaM,.str "Y" aaN,.str "FIELD" aaO] m4))
  (l5:K.lookup V5=Y (zy #[.str "Y" aaP,.str "FIELD" V,.str "X" U] m5))
  (l6:K.lookup V6=Y (zy #[.str "Y" T,.str "X" S] m6))
  (l7:K.lookup V7=Y (zy #[.str "X" R,.str "Y" Q] m7))
  (l8:K.lookup V8=Y (zy #[.str "X" O,.str "Y" M,.str "A" L] m8))
  (l9:K.lookup V9=Y (zy #[.str "X" J,.str "Y" I,.str "METHOD" H,.str "A" F] m9))
  (l10:K.lookup i=Y (zy #[.str "X" E,.str "Y" D,.str "KIND" C,.str "METHOD" B,.str "A" y] m10))
  (l11:K.lookup g=Y (zy #[.str "X" x] m11))
  (l12:K.lookup f=Y (zy #[.str "X" v] m12))
  (l13:K.lookup e=Y (zy #[] m13))
  (l14:K.lookup d=Y (zy #[.str "Y" u,.str "FIELD" t] m14))
  (l15:K.lookup c=Y (zy #[.str "X" s,.str "KIND" r] m15))
  (l16:K.lookup b=Y (zy #[.str "X" q,.str "Y" p,.str "FIELD" o] m16))
  (l17:K.lookup a=Y (zy #[.str "Y" n,.str "FIELD" m,.str "X" j] m17)):lL P w K mg "FORMS" C8 :=
 CY (P:=P) (l:=[("new",t0,.ref V0,.tuple ((["X","KIND"]:Lr).map .str)),("row",t1,.ref V1,.tuple ((["X"]:Lr).map .str)),("func",t2,.ref V2,.tuple ((["X","FUNCTION","A"]:Lr).map .str)),("copy",t3,.ref V3,.tuple ((["X","Y"]:Lr).map .str)),("take",t4,.ref V4,.tuple ((["X","Y","FIELD"]:Lr).map .str)),("put",t5,.ref V5,.tuple ((["Y","FIELD","X"]:Lr).map .str)),("push",t6,.ref V6,.tuple ((["Y","X"]:Lr).map .str)),("pull",t7,.ref V7,.tuple ((["X","Y"]:Lr).map .str)),("do",t8,.ref V8,.tuple ((["X","Y","A"]:Lr).map .str)),("ask",t9,.ref V9,.tuple ((["X","Y","METHOD","A"]:Lr).map .str)),("straight",t10,.ref i,.tuple ((["X","Y","KIND","METHOD","A"]:Lr).map .str)),("give",t11,.ref g,.tuple ((["X"]:Lr).map .str)),("tell",t12,.ref f,.tuple ((["X"]:Lr).map .str)),("rest",t13,.ref e,.tuple (([]:Lr).map .str)),("check",t14,.ref d,.tuple ((["Y","FIELD"]:Lr).map .str)),("fresh",t15,.ref c,.tuple ((["X","KIND"]:Lr).map .str)),("own",t16,.ref b,.tuple ((["X","Y","FIELD"]:Lr).map .str)),("place",t17,.ref a,.tuple ((["Y","FIELD","X"]:Lr).map .str))]) (W.mg_of X G k) z l (by show (["new","row","func","copy","take","put","push","pull","do","ask","straight","give","tell","rest","check","fresh","own","place"]:Lr).Nodup;decide +kernel) (ag.mpr ⟨⟨.ref V0,rfl,ow (xs:=["X","KIND"]) l0 (by show 2<=sizeLine;decide) (.cons ⟨_,rfl⟩ (.cons ⟨_,rfl⟩ .nil))⟩,ag.mpr ⟨⟨.ref V1,rfl,ow (xs:=["X"]) l1 (by show 1<=sizeLine;decide) (.cons ⟨_,rfl⟩ .nil)⟩,ag.mpr ⟨⟨.ref V2,rfl,ow (xs:=["X","FUNCTION","A"]) l2 (by show 3<=sizeLine;decide) (.cons ⟨_,rfl⟩ (.cons ⟨_,rfl⟩ (.cons ⟨_,rfl⟩ .nil)))⟩,ag.mpr ⟨⟨.ref V3,rfl,ow (xs:=["X","Y"]) l3 (by show 2<=sizeLine;decide) (.cons ⟨_,rfl⟩ (.cons ⟨_,rfl⟩ .nil))⟩,ag.mpr ⟨⟨.ref V4,rfl,ow (xs:=["X","Y","FIELD"]) l4 (by show 3<=sizeLine;decide) (.cons ⟨_,rfl⟩ (.cons ⟨_,rfl⟩ (.cons ⟨_,rfl⟩ .nil)))⟩,ag.mpr ⟨⟨.ref V5,rfl,ow (xs:=["Y","FIELD","X"]) l5 (by show 3<=sizeLine;decide) (.cons ⟨_,rfl⟩ (.cons ⟨_,rfl⟩ (.cons ⟨_,rfl⟩ .nil)))⟩,ag.mpr ⟨⟨.ref V6,rfl,ow (xs:=["Y","X"]) l6 (by show 2<=sizeLine;decide) (.cons ⟨_,rfl⟩ (.cons ⟨_,rfl⟩ .nil))⟩,ag.mpr ⟨⟨.ref V7,rfl,ow (xs:=["X","Y"]) l7 (by show 2<=sizeLine;decide) (.cons ⟨_,rfl⟩ (.cons ⟨_,rfl⟩ .nil))⟩,ag.mpr ⟨⟨.ref V8,rfl,ow (xs:=["X","Y","A"]) l8 (by show 3<=sizeLine;decide) (.cons ⟨_,rfl⟩ (.cons ⟨_,rfl⟩ (.cons ⟨_,rfl⟩ .nil)))⟩,ag.mpr ⟨⟨.ref V9,rfl,ow (xs:=["X","Y","METHOD","A"]) l9 (by show 4<=sizeLine;decide) (.cons ⟨_,rfl⟩ (.cons ⟨_,rfl⟩ (.cons ⟨_,rfl⟩ (.cons ⟨_,rfl⟩ .nil))))⟩,ag.mpr ⟨⟨.ref i,rfl,ow (xs:=["X","Y","KIND","METHOD","A"]) l10 (by show 5<=sizeLine;decide) (.cons ⟨_,rfl⟩ (.cons ⟨_,rfl⟩ (.cons ⟨_,rfl⟩ (.cons ⟨_,rfl⟩ (.cons ⟨_,rfl⟩ .nil)))))⟩,ag.mpr ⟨⟨.ref g,rfl,ow (xs:=["X"]) l11 (by show 1<=sizeLine;decide) (.cons ⟨_,rfl⟩ .nil)⟩,ag.mpr ⟨⟨.ref f,rfl,ow (xs:=["X"]) l12 (by show 1<=sizeLine;decide) (.cons ⟨_,rfl⟩ .nil)⟩,ag.mpr ⟨⟨.ref e,rfl,ow (xs:=[]) l13 (by show 0<=sizeLine;decide) .nil⟩,ag.mpr ⟨⟨.ref d,rfl,ow (xs:=["Y","FIELD"]) l14 (by show 2<=sizeLine;decide) (.cons ⟨_,rfl⟩ (.cons ⟨_,rfl⟩ .nil))⟩,ag.mpr ⟨⟨.ref c,rfl,ow (xs:=["X","KIND"]) l15 (by show 2<=sizeLine;decide) (.cons ⟨_,rfl⟩ (.cons ⟨_,rfl⟩ .nil))⟩,ag.mpr ⟨⟨.ref b,rfl,ow (xs:=["X","Y","FIELD"]) l16 (by show 3<=sizeLine;decide) (.cons ⟨_,rfl⟩ (.cons ⟨_,rfl⟩ (.cons ⟨_,rfl⟩ .nil)))⟩,ag.mpr ⟨⟨.ref a,rfl,ow (xs:=["Y","FIELD","X"]) l17 (by show 3<=sizeLine;decide) (.cons ⟨_,rfl⟩ (.cons ⟨_,rfl⟩ (.cons ⟨_,rfl⟩ .nil)))⟩,bt _⟩⟩⟩⟩⟩⟩⟩⟩⟩⟩⟩⟩⟩⟩⟩⟩⟩⟩)
def LK{x m v j u i t g s f r e q d p c o b n a:Tok}(X:K.In h)(G:h.Ns mainGlobals mg)(k:W.nsIn K mainGlobals "SORTS"=Y (Y (.ref A)))(z:(A==sysModules)=false)(l:K.lookup A=Y { cls:=.type "dict",data:=.dict #[⟨eW.keyHash w.params "take",.str "take" x,.str "record" m⟩,⟨eW.keyHash w.params "put",.str "put" v,.str "record" j⟩,⟨eW.keyHash w.params "check",.str "check" u,.str "record" i⟩,⟨eW.keyHash w.params "ask",.str "ask" t,.str "record" g⟩,⟨eW.keyHash w.params "straight",.str "straight" s,.str "record" f⟩,⟨eW.keyHash w.params "push",.str "push" r,.str "row" e⟩,⟨eW.keyHash w.params "pull",.str "pull" q,.str "row" d⟩,⟨eW.keyHash w.params "do",.str "do" p,.str "func" c⟩,⟨eW.keyHash w.params "own",.str "own" o,.str "mark" b⟩,⟨eW.keyHash w.params "place",.str "place" n,.str "mark" a⟩] N }):lL P w K mg "SORTS" xT :=
 CY (P:=P) (l:=[("take",x,.str "record" m,.str "record"),("put",v,.str "record" j,.str "record"),("check",u,.str "record" i,.str "record"),("ask",t,.str "record" g,.str "record"),("straight",s,.str "record" f,.str "record"),("push",r,.str "row" e,.str "row"),("pull",q,.str "row" d,.str "row"),("do",p,.str "func" c,.str "func"),("own",o,.str "mark" b,.str "mark"),("place",n,.str "mark" a,.str "mark")]) (W.mg_of X G k) z l (by show (["take","put","check","ask","straight","push","pull","do","own","place"]:Lr).Nodup;decide +kernel) (ag.mpr ⟨⟨.str "record",⟨_,rfl⟩,λ_=>dy.fz.mpr rfl⟩,ag.mpr ⟨⟨.str "record",⟨_,rfl⟩,λ_=>dy.fz.mpr rfl⟩,ag.mpr ⟨⟨.str "record",⟨_,rfl⟩,λ_=>dy.fz.mpr rfl⟩,ag.mpr ⟨⟨.str "record",⟨_,rfl⟩,λ_=>dy.fz.mpr rfl⟩,ag.mpr ⟨⟨.str "record",⟨_,rfl⟩,λ_=>dy.fz.mpr rfl⟩,ag.mpr ⟨⟨.str "row",⟨_,rfl⟩,λ_=>dy.fz.mpr rfl⟩,ag.mpr ⟨⟨.str "row",⟨_,rfl⟩,λ_=>dy.fz.mpr rfl⟩,ag.mpr ⟨⟨.str "func",⟨_,rfl⟩,λ_=>dy.fz.mpr rfl⟩,ag.mpr ⟨⟨.str "mark",⟨_,rfl⟩,λ_=>dy.fz.mpr rfl⟩,ag.mpr ⟨⟨.str "mark",⟨_,rfl⟩,λ_=>dy.fz.mpr rfl⟩,bt _⟩⟩⟩⟩⟩⟩⟩⟩⟩⟩)
end
open PySem L2 PySem.StrLaws PySem.Builtin PySem.Builtin.Str
open PySem
def Jn(i:Nat)(ρ:bb):a7 i ρ=(ρ[i]?).join:=rfl
def Ry(d:eW)(ρ:bb):dC d ρ=Y d:=rfl
def N6(o:eW->eW->Od)(f g:bb->Od)(ρ:bb):d2 o f g ρ=(f ρ).bind λx=>(g ρ).bind λy=>o x y:=rfl
def aaQ(n:Nat)(f:Lp->Od)(a:bb->Option Lp)(ρ:bb):jR n f a ρ=(a ρ).bind λb=>if b.length=n then f b else Z:=rfl
def N7(f:Lp->Od)(a:bb->Option Lp)(ρ:bb):lj f a ρ=(a ρ).bind f:=rfl
def DE(ρ:bb):f7 ρ=Y []:=rfl
def xV(f:bb->Od)(a:bb->Option Lp)(ρ:bb):gq f a ρ=(f ρ).bind λx=>(a ρ).bind λb=>Y (x::b):=rfl
def Yo(b:bb->Option Lp)(ρ:bb):lz b ρ=(b ρ).bind λa=>if a.length<=sizeLine then Y (.tuple a) else Z:=rfl
def T2(b:bb->Option Lp)(ρ:bb):kn b ρ=(b ρ).bind λa=>if a.length<=sizeLine then Y (.list a) else Z:=rfl
def Rz(f:bb->Od)(l h:FO)(ρ:bb):iE f l h ρ=(f ρ).bind λx=>(l ρ).bind λa=>(h ρ).bind λb=>L0 x a b:=rfl
def RA(f:bb->Od)(ρ:bb):iV f ρ=(f ρ).bind λd=>match d with | .int i=>Y (Y i)|_=>Z:=rfl
def RB(ρ:bb):jV ρ=Y Z:=rfl
def N8(f:bb->Od)(l h:FO)(ρ:bb):uB f l h ρ=(f ρ).bind λx=>(l ρ).bind λa=>(h ρ).bind λb=>match x with | .list xs=>Y (.list (nk xs a b))|_=>Z:=rfl
def aaR(o:eW->Lp->Od)(f:bb->Od)(a:bb->Option Lp)(ρ:bb):xM o f a ρ=(f ρ).bind λd=>(a ρ).bind λb=>match d with | .str z=>o (.str z) b|_=>Z:=rfl
def Yp(o:eW->Lp->Od)(f:bb->Od)(a:bb->Option Lp)(ρ:bb):QW o f a ρ=(f ρ).bind λd=>(a ρ).bind λb=>match d with | .list z=>o (.list z) b|_=>Z:=rfl
def T3(a:Lr)(n:Str)(f:bb->Od)(ρ:bb):fJ a n f ρ=(f ρ).bind (gG a n):=rfl
def DF(q:bb->Option Lp)(a:List (Nat×Str))(g:bb->Option Bool)(f:bb->Od)(ρ:bb):jg q a g f ρ=(q ρ).bind λb=>if b.length<=sizeLine then (kH g f (pj a ρ) b).map .list else Z:=rfl
def Vx(f:bb->Od)(ρ:bb):og f ρ=(f ρ).bind λd=>match d with | .list ds=>Y ds | .tuple ds=>Y ds|_=>Z:=rfl
def Vy(f:bb->Od)(ρ:bb):oV f ρ=(f ρ).bind λd=>match d with | .list ds=>Y ds | .tuple ds=>Y ds | .str x=>Y (tI x)|_=>Z:=rfl
def Yq(f:bb->Od)(ρ:bb):gA f ρ=(f ρ).map .rt:=rfl
def N9(f:bb->Od)(i:Nat)(ρ:bb):ig f i ρ=(f ρ).map λd=>.nx (ρ.set i (Y d)):=rfl
def Vz(f:bb->Od)(i:Nat)(ρ:bb):nE f i ρ=(f ρ).bind λd=>if i<ρ.length then Y (.nx (ρ.set i (Y d))) else Z:=rfl
def Yr(ρ:bb):gX ρ=Y (.nx ρ):=rfl
def T4(O:List Nat)(f:bb->Od)(ρ:bb):iF O f ρ=f (ja O ρ):=rfl
def T5(f:bb->Od)(ρ:bb):Kx f ρ=(f ρ).bind λd=>if me d=true then Y d else Z:=rfl
def Ys(f:bb->Od)(ρ:bb):Ve f ρ=(f ρ).bind λd=>if EF d=true then Y d else Z:=rfl
def Yt(O:List Nat)(f:bb->Option Lp)(ρ:bb):L3 O f ρ=f (ja O ρ):=rfl
def aaS(f:bb->Od)(ρ:bb):fB f ρ=(f ρ).bind λd=>match d with | .bool b=>Y b|_=>Z:=rfl
def Yu(f:bb->Od)(ρ:bb):vp f ρ=(f ρ).bind ku:=rfl
def VA(f:bb->Option Bool)(ρ:bb):sD f ρ=(f ρ).map (!·):=rfl
def Yv(i:Nat)(o:Int->Int->Int)(f:bb->Od)(ρ:bb):Kz i o f ρ=(ρ[i]?).join.bind λx=>(f ρ).bind λd=>match x,d with | .int a,.int b=>Y (.nx (ρ.set i (Y (.int (o a b)))))|_,_=>Z:=rfl
def wU(π:Pl)(b a:bb->Od)(ρ:bb):uy π b a ρ=(qQ π ρ).bind λl=>(a ρ).bind λd=>(b ρ).bind λe=>(yw e d l).map λc=>.nx (vz π c ρ):=rfl
def Oa(π:Pl)(f:bb->Od)(ρ:bb):mD π f ρ=(qQ π ρ).bind λl=>(f ρ).bind λd=>match l with | .list ds=>if ds.length<sizeLine then Y (.nx (vz π (.list (ds++[d])) ρ)) else Z|_=>Z:=rfl
def Yw(f:bb->Od)(a:Tg)(ρ:bb):X3 f a ρ=(f ρ).bind λd=>(w9 a d ρ).map .nx:=rfl
def Yx(q:bb->Option Lp)(a:Tg)(g:bb->Option gC)(ρ:bb):qz q a g ρ=(q ρ).bind λb=>nP (w9 a) g b ρ:=rfl
def Ob(f:bb->Od)(ρ:bb):nF f ρ=(Kx f ρ).bind λd=>(ρ[0]?).join.map λa=>.rt (.tuple [d,a]):=rfl
def v8(i:Nat)(c n:Str)(f:bb->Od)(ρ:bb):jw i c n f ρ=(ρ[i]?).join.bind λx=>(f ρ).bind λd=>match x with | .dict ((.none,.str c')::r)=>if c'=c/\mh c n=false/\r.length<1000 then Y (.nx (ρ.set i (Y (.dict ((.none,.str c)::qj n d r))))) else Z|_=>Z:=rfl
def VB(c a:Str)(n:Nat)(F:Lp->Od)(f:bb->Od)(b:bb->Option Lp)(ρ:bb):iK c a n F f b ρ=(f ρ).bind λd=>if kL c a d=true then (b ρ).bind λe=>if e.length+1=n then F (d::e) else Z else Z:=rfl
def Oc(c:Str)(n:Nat)(F:Lp->Option (eW×eW))(a:bb->Option Lp)(ρ:bb):yA c n F a ρ=(a ρ).bind λb=>if b.length+1=n then (F (.dict [(.none,.str c)]::b)).bind λr=>match r with|(.none,d)=>Y d|_=>Z else Z:=rfl
def aaT(a:bb->Option Str)(ρ:bb):dFs a ρ=(a ρ).bind λz=>if z.length<=sizeLine then Y (.str z) else Z:=rfl
def aaU(f:bb->Od)(a:bb->Option Str)(ρ:bb):EK f a ρ=(f ρ).bind λd=>(a ρ).bind λz=>match d with | .str y=>Y (y++z)|_=>Z:=rfl
def aaV(f:bb->Od)(ρ:bb):X6 f ρ=(f ρ).bind λd=>match d with | .str x=>if x.length<=sizeLine then Y (.str x) else Z|_=>Z:=rfl
def RC(O:List Nat)(i n:Nat)(F:Lp->Option (eW×eW))(a:bb->Option Lp)(ρ:bb):yC O i n F a ρ=(ρ[i]?).join.bind λc=>(a (ja O ρ)).bind λb=>if b.length+1=n then (F (c::b)).bind λr=>if me r.1=true then Y (r.1,ρ.set i (Y r.2)) else Z else Z:=rfl
def VC(h:bb->Option (eW×bb))(ρ:bb):EI h ρ=(h ρ).bind λr=>(r.2[0]?).join.map λa=>.rt (.tuple [r.1,a]):=rfl
def aaW(h:bb->Option (eW×bb))(ρ:bb):hT h ρ=(h ρ).bind λr=>match r with|(.bool b,ρ')=>Y (b,ρ')|_=>Z:=rfl
def VD(h:bb->Option (Bool×bb))(ρ:bb):Vh h ρ=(h ρ).map λr=>(!r.1,r.2):=rfl
def RD(ρ:bb):rf ρ=Z:=rfl
def Yy(T:String)(f:bb->Od)(ρ:bb):MY T f ρ=(f ρ).bind λd=>if MX d then Z else Y (.bool (TB d==T||(TB d=="bool"&&T=="int"))):=rfl
def aaX(f:bb->Od)(ρ:bb):ko f ρ=(f ρ).bind λd=>match d with | .int j=>if -(2 ^ 62)<=j/\j<2 ^ 62 then Y (oh 0 j.toNat) else Z|_=>Z:=rfl
def VE(f:bb->Od)(ρ:bb):I8 f ρ=(f ρ).bind λd=>match d with | .list ds=>Y (qA ds)|_=>Z:=rfl
def Yz(f:bb->Od)(ρ:bb):aaC f ρ=(f ρ).bind λd=>match d with | .list xs=>Y (.list xs.reverse)|_=>Z:=rfl
def VF(f:bb->Od)(ρ:bb):Q3 f ρ=(f ρ).bind λd=>match d with | .list ds=>Y ds.reverse|_=>Z:=rfl
def YA(π:Pl)(f:bb->Od)(ρ:bb):uz π f ρ=(qQ π ρ).bind λl=>(f ρ).bind λd=>match l,d with | .list ds,.list es=>if ds.length+es.length<=sizeLine then Y (.nx (vz π (.list (ds++es)) ρ)) else Z|_,_=>Z:=rfl
def RE(π:Pl)(ρ:bb):Vm π ρ=(qQ π ρ).bind λl=>match l with | .list _=>Y (.nx (vz π (.list []) ρ))|_=>Z:=rfl
def ZM(h:bb->Option gC):Option gC->Option gC
 |some (.nx ρ)=>h ρ
 |o=>o
def Jo(g h:bb->Option gC)(ρ:bb):fq g h ρ=ZM h (g ρ):=by
 unfold fq ZM;cases g ρ with
 |none=>rfl
 |some o=>cases o<;>rfl
def Oe(h:bb->Option gC)(ρ:bb):ZM h (Y (.nx ρ))=h ρ:=rfl
def Of(h:bb->Option gC)(d:eW):ZM h (Y (.rt d))=Y (.rt d):=rfl
def L4(c:Option Bool)(g h:bb->Option α)(ρ:bb):Option α:=match c with
 |some true=>g ρ
 |some false=>h ρ
 |none=>none
def YB{α:Type}(g h:bb->Option α)(ρ:bb):L4 (Y true) g h ρ=g ρ:=rfl
def YC{α:Type}(g h:bb->Option α)(ρ:bb):L4 (Y false) g h ρ=h ρ:=rfl
def VG(c:bb->Option Bool)(g h:bb->Option gC)(ρ:bb):kK c g h ρ=L4 (c ρ) g h ρ:=by unfold kK L4;rcases c ρ with _|_|_<;>rfl
def YD(f g:bb->Option Bool)(ρ:bb):qO f g ρ=L4 (f ρ) g (λ_=>Y false) ρ:=by unfold qO L4;rcases f ρ with _|_|_<;>rfl
def aaY(f g:bb->Option Bool)(ρ:bb):Cz f g ρ=L4 (f ρ) (λ_=>Y true) g ρ:=by unfold Cz L4;rcases f ρ with _|_|_<;>rfl
def VH(f g:bb->Od)(ρ:bb):uF f g ρ=L4 ((f ρ).bind Ya) g (λ_=>Y (.bool false)) ρ:=by
 unfold uF L4;rcases f ρ with _|d
 ·rfl
 ·simp only[ab];rcases Ya d with _|_|_<;>rfl
def YE(b:Bool):Ya (.bool b)=Y b:=rfl
noncomputable def LL:Option gC->Od
 |some (.rt d)=>Y d
 |some (.nx _)=>Y .none
 |_=>Z
def T6(N:Lr)(g:bb->Option gC)(a:Lp):jS N g a=LL (g (hQ N a)):=by
 unfold jS LL;cases g (hQ N a) with
 |none=>rfl
 |some o=>cases o<;>rfl
def RF(d:eW):LL (Y (.rt d))=Y d:=rfl
def RG(ρ:bb):LL (Y (.nx ρ))=Y .none:=rfl
def VI:Option gC->Od
 |some (.rt d)=>Y d
 |_=>Z
def VJ(N:Lr)(g:bb->Option gC)(a:Lp):yy N g a=VI (g (hQ N a)):=by
 unfold yy VI;cases g (hQ N a) with
 |none=>rfl
 |some o=>cases o<;>rfl
def RH(d:eW):VI (Y (.rt d))=Y d:=rfl
noncomputable def Ic:Option gC->Option (eW×eW)
 |some (.rt (.tuple [d,d0]))=>Y (d,d0)
 |some (.nx ρ)=>(ρ[0]?).join.map λd0=>(.none,d0)
 |_=>Z
def v9(N:Lr)(g:bb->Option gC)(e:Lp):pQ N g e=Ic (g (hQ N e)):=by
 unfold pQ;cases g (hQ N e) with
 |none=>rfl
 |some o=>cases o<;>first|rfl|(rename_i d;cases d<;>first|rfl|(rename_i l;rcases l with _ | ⟨a,_ | ⟨b,_ | ⟨c,l⟩⟩⟩<;>rfl))
def ve(a b:eW):Ic (Y (.rt (.tuple [a,b])))=Y (a,b):=rfl
def RI(ρ:bb):Ic (Y (.nx ρ))=(ρ[0]?).join.map λa=>(.none,a):=rfl
def DG(N:Lr)(a:Lp):hQ N a=a.map Y++List.replicate (N.length - a.length) Z:=rfl
def er0(ρ:bb):ja [] ρ=ρ:=rfl
def er1(i:Nat)(O:List Nat)(ρ:bb):ja (i::O) ρ=(ja O ρ).set i Z:=rfl
def YF(i:Nat)(ρ:bb):qQ (.sl i) ρ=(ρ[i]?).join:=rfl
def YG(i:Nat)(d:eW)(ρ:bb):vz (.sl i) d ρ=ρ.set i (Y d):=rfl
def sizeLine_eq:sizeLine=16777216:=by decide
def j5{a b:Prop}(x:a)(y:b):a/\b:=⟨x,y⟩
def evQ:=j5 @Jn (j5 @Ry (j5 @N6 (j5 @aaQ (j5 @N7 (j5 @DE (j5 @xV (j5 @Yo (j5 @T2 (j5 @Rz (j5 @RA (j5 @RB (j5 @N8 (j5 @aaR (j5 @Yp (j5 @T3 (j5 @DF (j5 @Vx (j5 @Vy (j5 @Yq (j5 @N9 (j5 @Vz (j5 @Yr (j5 @T4 (j5 @T5 (j5 @Ys (j5 @Yt (j5 @aaS (j5 @Yu (j5 @VA (j5 @Yv (j5 @Oa (j5 @Yw (j5 @Yx (j5 @Ob (j5 @VB (j5 @Oc (j5 @aaT (j5 @aaU (j5 @aaV (j5 @RC (j5 @VC (j5 @aaW (j5 @VD (j5 @RD (j5 @Yy (j5 @VE (j5 @Yz (j5 @VF (j5 @YA (j5 @RE (j5 @Jo (j5 @Oe (j5 @Of (j5 @YB (j5 @YC (j5 @VG (j5 @YD (j5 @aaY (j5 @VH (j5 @YE (j5 @T6 (j5 @RF (j5 @RG (j5 @VJ (j5 @RH (j5 @v9 (j5 @ve (j5 @RI (j5 @DG (j5 @er0 (j5 @er1 (j5 @YF (j5 @YG @sizeLine_eq)))))))))))))))))))))))))))))))))))))))))))))))))))))))))))))))))))))))))
local macro_rules
  | `(tactic| simp? only [$a,*]) => `(tactic| simp only [$a,*, evQ, List.map_cons, List.map_nil, List.length_cons, List.length_nil, List.cons_append, List.nil_append, List.getElem?_cons_zero, List.getElem?_cons_succ, List.getElem?_nil, Option.join_some, Option.join_none, Option.bind_some, Option.bind_none, Option.map_some, Option.map_none, List.set_cons_zero, List.set_cons_succ, List.replicate_zero, List.replicate_succ, Nat.reduceAdd, Nat.reduceSub, Nat.reduceLeDiff, Nat.reduceLT, Nat.reduceEqDiff, Nat.zero_add, ↓reduceIte, if_true, if_false, Bool.not_true, Bool.not_false, reduceCtorEq, and_self, and_true, true_and, Nat.zero_le])
def Og:zZ "\n"=⟨#[10]⟩:=by decide +kernel
def tZ:zZ " "=⟨#[32]⟩:=by decide +kernel
theorem Jp{c:Nat}:∀(f d i g:List Nat),c∉f->c∉d->f++c::i=d++c::g->f=d/\i=g
 |[],[],_,_,_,_,h=>by simp at h;exact⟨rfl,h⟩
 |[],a::d,_,_,_,h2,h=>by simp at h;exact absurd h.1 (by intro e;subst e;simp at h2)
 |a::f,[],_,_,h1,_,h=>by simp at h;exact absurd h.1 (by intro e;subst e;simp at h1)
 |a::f,b::d,i,g,h1,h2,h=>by simp only[aR,List.cons.injEq] at h;simp only[av,not_or] at h1 h2;obtain⟨k,j⟩:=Jp f d i g h1.2 h2.2 h.2;exact⟨by rw[h.1,k],j⟩
def Oh{c:Nat}(a d b:List Nat)(e:c∉a)(h:a=d++c::b):False:=e (by rw[h];simp)
def p9(c:Nat)(a b:Str)(r:Lr):(Str.join ⟨#[c]⟩ (a::b::r)).cps.toList=a.cps.toList++c::(Str.join ⟨#[c]⟩ (b::r)).cps.toList:=by show (a++(⟨#[c]⟩:Str)++Str.join ⟨#[c]⟩ (b::r)).cps.toList=_;simp[eU]
theorem FX(c:Nat):∀(g f:Lr),g≠[]->f≠[]->(∀p∈g,c∉p.cps.toList)->(∀p∈f,c∉p.cps.toList)->Str.join ⟨#[c]⟩ g=Str.join ⟨#[c]⟩ f->g=f
 |[],_,h,_,_,_,_=>absurd rfl h
 |_::_,[],_,h,_,_,_=>absurd rfl h
 |[a],[b],_,_,_,_,h=>by have:a=b:=h;rw[this]
 |[a],b::j::r,_,_,h1,_,h=>by have e:=bL (λz:Str=>z.cps.toList) h;simp only[p9] at e;exact(Oh _ _ _ (h1 a (by simp)) e).elim
 |a::a2::r,[b],_,_,_,d,h=>by have e:=bL (λz:Str=>z.cps.toList) h;simp only[p9] at e;exact(Oh _ _ _ (d b (by simp)) e.symm).elim
 |a::a2::r,b::j::t,_,_,h1,d,h=>by have e:=bL (λz:Str=>z.cps.toList) h;simp only[p9] at e;obtain⟨n,m⟩:=Jp _ _ _ _ (h1 a (by simp)) (d b (by simp)) e;have l:a=b:=Str.ext' (eL.mp n);have k:=FX c (a2::r) (j::t) (by simp) (by simp) (λp i=>h1 p (by simp[i])) (λp i=>d p (by simp[i])) (Str.ext' (eL.mp m));rw[l,k]
def Oi(x y:Str):Txt.split x y≠[]:=by
 unfold Txt.split;split
 ·simp
 ·split
  ·simp
  ·rw[partsBetween_eq];obtain⟨p,r,e⟩:=partsFrom_ne x y.length 0 (occurrences x y 0 x.length (x.length+1));rw[e];simp
def Ie(c:Nat)(a:Lr)(d:a≠[])(h:∀p∈a,c∉p.cps.toList):Txt.split (Str.join ⟨#[c]⟩ a) ⟨#[c]⟩=a :=
 FX c _ _ (Oi _ _) d (λp b=>split_free _ c p b) h (join_split _ _)
theorem tr(x:Str)(w:Nat):∀(b:List Nat) (a:Nat),(partsFrom x w a b).length=b.length+1
 |[],_=>rfl
 |c::r,a=>by show (strSub x a c::partsFrom x w (c+w) r).length=_;simp[tr x w r]
abbrev wl(a:List Str):eW:=.list (a.map .str)
def Jq(c:Nat)(a:Lr)(b:a≠[])(h:∀p∈a,c∉p.cps.toList)(d:(Str.join ⟨#[c]⟩ a).length<=1000000):
  iW (.str (Str.join ⟨#[c]⟩ a)) [.str ⟨#[c]⟩]=Y (wl a):=by
 have e:=occ_length_le_len (Str.join ⟨#[c]⟩ a) ⟨#[c]⟩ 0 (Str.join ⟨#[c]⟩ a).length ((Str.join ⟨#[c]⟩ a).length+1);show (if _ then _ else Z)=_;rw[ah ⟨rfl,by rw[sizeLine_eq];omega,by rw[partsBetween_eq,tr,sizeLine_eq];omega⟩,Ie c a b h]
def Oj(c:Nat)(a:Lr){B:Nat}(b:∀y∈a,y.length<=B)(h:a.length*B+a.length<=1000000):
  pS (.str ⟨#[c]⟩) [wl a]=Y (.str (Str.join ⟨#[c]⟩ a)):=by
 show (ri (a.map .str)).bind (λtexts=>if JoinOk ⟨#[c]⟩ texts=true then Y (eW.str (Txt.join ⟨#[c]⟩ texts)) else Z)=_;rw[yE];have:JoinOk ⟨#[c]⟩ a=true:=by unfold JoinOk;rw[joinFits b (by show _+a.length*1<=_;omega)];rfl
 show (if JoinOk ⟨#[c]⟩ a=true then Y (eW.str (glued ⟨#[c]⟩ a)) else Z)=_;rw[ah this,glued_eq_join]
def FY(c:Nat)(a:Lr){B:Nat}(b:∀y∈a,y.length<=B):(Str.join ⟨#[c]⟩ a).length<=a.length*B+a.length:=by have d:=join_length_le ⟨#[c]⟩ a;have e:=sumLen_le a b;have:(⟨#[c]⟩:Str).length=1:=rfl;rw[this] at d;omega
theorem BQ(c k:Nat)(e:k≠c):∀d:Lr,(∀p∈d,k∉p.cps.toList)->k∉(Str.join ⟨#[c]⟩ d).cps.toList
 |[],_=>by simp[Str.join,Str.empty]
 |[a],h=>h a (by simp)
 |a::b::r,h=>by rw[p9];have:=BQ c k e (b::r) (λp f=>h p (by simp[f]));have g:=h a (by simp);simp only[aP,av,not_or];exact⟨g,e,this⟩
def ua(x:Str):Bool:=decide (1<=x.length)&&decide (x.length<=8)&&x.cps.toList.all λc=>decide (97<=c)&&decide (c<=122)
def ub:ua x=true↔1<=x.length/\x.length<=8/\∀c∈x.cps.toList,97<=c/\c<=122:=by simp only[ua,b9,cM,cA,and_assoc]
def Jr(h:ua x=true){c:Nat}(b:c<97):c∉x.cps.toList:=λa=>by have:=((ub.mp h).2.2 c a).1;omega
def Ol(h:ua x=true):eW.strOk x=true:=by unfold eW.strOk;rw[Array.all_eq_true_iff_forall_mem];intro c a;have:=((ub.mp h).2.2 c (by simpa using a)).2;simp;omega
def mY(h:eW.strOk x=true):SeqAt.shaped (.str x)=true:=by simp[SeqAt.shaped,eW.canLay0,eW.depth,h]
def Om(a b:Str):eW.eqv (.str a) (.str b)=(a==b):=by rw[eW.eqv]
def VL{a b:Str}(d:eW.strOk a=true)(c:eW.strOk b=true):kJ (.str a) (.str b)=Y (.bool (a==b)):=by rw[kJ,ah ⟨mY d,mY c⟩,Om]
def YH{a b:Str}(d:eW.strOk a=true)(c:eW.strOk b=true):w8 (.str a) (.str b)=Y (.bool (!(a==b))):=by rw[w8,ah ⟨mY d,mY c⟩,Om]
theorem zD:∀a:Lr,eW.depthAll (a.map .str)=0
 |[]=>by simp[eW.depthAll]
 |w::a=>by simp[eW.depthAll,eW.depth,zD a]
def BR{a:Lr}(h:∀w∈a,eW.strOk w=true):SeqAt.shaped (wl a)=true:=by
 have:eW.canLayAll0 (a.map .str)=true:=by rw[PyProof.Rows.canLayAll_strs'];simpa using h
 simp[SeqAt.shaped,eW.canLay0,eW.depth,this,zD]
theorem wV:∀d c:Lr,eW.eqvAll (d.map .str) (c.map .str)=decide (d=c)
 |[],[]=>by rw[bB,eW.eqvAll];rfl
 |[],b::c=>by rw[bB,af,eW.eqvAll];simp
 |a::d,[]=>by rw[bB,af,eW.eqvAll];simp
 |a::d,b::c=>by
  rw[af,af,eW.eqvAll,Om,wV d c];by_cases e:a=b
  ·subst e;simp
  ·simp[e]
def VM(b a:Lr):eW.eqv (wl b) (wl a)=decide (b=a):=by rw[eW.eqv,wV]
def Ig{b a:Lr}(d:∀w∈b,eW.strOk w=true)(c:∀w∈a,eW.strOk w=true):kJ (wl b) (wl a)=Y (.bool (decide (b=a))):=by rw[kJ,ah ⟨BR d,BR c⟩,VM]
def lt1(c d:Nat):decide (([c]:List Nat)<[d])=decide (c<d):=by rw[lt_cons_cons];simp
def YI:zZ "a"=⟨#[97]⟩:=by decide +kernel
def YJ:zZ "z"=⟨#[122]⟩:=by decide +kernel
def LM{c:Nat}(h:97<=c/\c<=122)(x:eW):jJ [Y x,Y (.str ⟨#[c]⟩)]=Y (.nx [Y x,Y (.str ⟨#[c]⟩)]):=by
 have d:qo (.str ⟨#[97]⟩) (.str ⟨#[c]⟩)=Y (.bool true):=by show Y (eW.bool (!decide (([c]:List Nat)<[97])))=_;rw[lt1,aO (by omega)];rfl
 have b:qo (.str ⟨#[c]⟩) (.str ⟨#[122]⟩)=Y (.bool true):=by show Y (eW.bool (!decide (([122]:List Nat)<[c])))=_;rw[lt1,aO (by omega)];rfl
 have a:qp qo qo (zA "a") (a7 1) (zA "z") [Y x,Y (.str ⟨#[c]⟩)]=Y true:=by simp only[qp,dC,a7,YI,YJ,bY,c8,Option.join_some,ab,d,b];rfl
 simp? only[jJ,a]
theorem zF(x:eW):∀(l:List Nat) (o:Od),(∀c∈l,97<=c/\c<=122)->∃a,nP (w9 (.one 1)) jJ (l.map λc=>.str ⟨#[c]⟩) [Y x,o]=Y (.nx [Y x,a])
 |[],o,_=>⟨o,rfl⟩
 |c::l,o,h=>by obtain⟨a,e⟩:=zF x l (Y (.str ⟨#[c]⟩)) λz b=>h z (by simp[b]);refine⟨a,?_⟩;rw[af,nP];show ((jJ [Y x,Y (.str ⟨#[c]⟩)])).bind _=_;rw[LM (h c (by simp))];exact e
def Oo:eW.strOk (zZ "")=true:=by decide +kernel
def RJ(h:ua x=true):n8 [.str x]=Y (.bool true):=by
 obtain⟨i,l,g⟩:=ub.mp h;obtain⟨k,e⟩:=zF (.str x) x.cps.toList Z g;have a:(x==zZ "")=false:=by rw[aU];intro z;subst z;exact absurd i (by decide +kernel)
 have f:nY [.str x]=Y (.bool true):=by
  simp? only[nY,uW]
  rw[show tI x=x.cps.toList.map λc=>eW.str ⟨#[c]⟩ from rfl,e]
  simp? only[YH (Ol h) Oo,a]
 have b:(x.length:Int)<=8:=by omega
 have d:x.length<=16777216:=by omega
 have j:qo (.int x.length) (.int 8)=Y (.bool true):=by simp[qo,Zz,dI,b]
 simp? only[n8,BO,mO,MW,ah d,f,j]
def iR(a b:String):kJ (.str (zZ a)) (.str (zZ b))=Y (.bool (a==b)):=by rw[VL (fO a) (fO b),lH]
def nN(a b:String):w8 (.str (zZ a)) (.str (zZ b))=Y (.bool (!(a==b))):=by rw[YH (fO a) (fO b),lH]
def zG(l:Lp)(i:Int):mj (.list l) (.int i)=pJ l i:=rfl
def YK(l:Lp)(i:Int):mj (.tuple l) (.int i)=pJ l i:=rfl
def Gv(a:α)(l:List α):pJ (a::l) 0=Y a:=by
 have:(0:Int)<((l.length:Nat):Int)+1:=by omega
 simp[pJ,Co,this]
def LN(a b:α)(l:List α):pJ (a::b::l) 1=Y b:=by
 have:(1:Int)<((l.length:Nat):Int)+1+1:=by omega
 simp[pJ,Co,this]
def at2(a b c:α)(l:List α):pJ (a::b::c::l) 2=Y c:=by
 have:(2:Int)<((l.length:Nat):Int)+1+1+1:=by omega
 simp[pJ,Co,this]
def rT(n d:Nat)(v:Int):HT.j7 n d (Y v)=if v<0 then (v+(n:Int)).toNat else min v.toNat n:=rfl
def FZ(l:List α)(k:Nat)(a:k<=l.length):nk l (Y (k:Int)) Z=l.drop k:=by unfold nk;rw[rT,ai (by omega)];simp only[HT.j7];rw[cN,Nat.min_eq_left a,cF];simp
def VN(l:List α)(k:Nat)(a:k<=l.length):nk l Z (Y (k:Int))=l.take k:=by unfold nk;rw[rT,ai (by omega)];simp only[HT.j7];rw[cN,Nat.min_eq_left a];simp
def VO(a b:α)(l:List α):nk (a::b::l) (Y 2) Z=l:=by have:=FZ (a::b::l) 2 (by simp);simpa using this
def Js(l:Lp):kM [.list l]=Y (.list l):=rfl
def YL(l:Lp)(a b:Option Int):L0 (.list l) a b=Y (.list (nk l a b)):=rfl
def A4(l:Lp):mO [.list l]=Y (.int l.length):=rfl
def o9(x y:eW):CH x y=(oj x y).map .bool:=rfl
def zH(x y:eW):ql x y=(oj x y).map λb=>.bool (!b):=rfl
def RK(f:Str)(r:Lr):gv [wl (zZ "func"::f::r)]=Y (.str f):=by
 have b:("func"=="method")=false:=by decide
 have a:("func"=="func")=true:=by decide
 simp? only[gv,rn,wl,zG,Gv,LN,iR,b,a]
def RL(k m:Str)(r:Lr)(f:k.length<=8)(e:m.length<=8):gv [wl (zZ "method"::k::m::r)]=Y (.str (k++(zZ "."++m))):=by
 have d:("method"=="method")=true:=by decide
 have c:k.length<=16777216:=by omega
 have b:m.length<=16777216:=by omega
 have a:(k++(zZ "."++m)).length<=16777216:=by rw[dt,dt,show (zZ ".").length=1 by decide +kernel];omega
 simp? only[gv,rn,jM,pA,wl,zG,Gv,LN,at2,iR,d,ah c,ah b,ah a,Str.append_empty]
def Jt:gv [wl ["main"]]=Y (.str "main"):=by kernel_rfl
theorem BS:∀a:Lr,tK (a.map .str)=Y (a.map .inr)
 |[]=>rfl
 |w::a=>by show ((pq (.str w)).bind λk=>(tK (a.map .str)).map (k::·))=_;rw[BS a];rfl
theorem zJ{K:Type}[DecidableEq K]:∀(b a:List K),(a++b).Nodup->nH a b=a++b
 |[],a,_=>by simp[nH]
 |k::b,a,h=>by
  have c:k∉a:=λz=>by rw[bA] at h;exact h.2.2 k z k (by simp) rfl
  show nH (tJ a k) b=_;have e:tJ a k=a++[k]:=by simp[tJ,c]
  rw[e,zJ b (a++[k]) (by simpa using h)];simp
def RM{c:Lr}(h:c.Nodup)(g:c.length<=900):oJ [wl c]=Y (.bool true):=by
 have d:(c.map (Sum.inr:Str->Key)).Nodup:=by unfold List.Nodup at h ⊢;exact eA _ (λa b q z=>q (by injection z)) h
 have f:CU (a7 0) [Y (.list (c.map .str))]=Y (.int c.length):=by show (tK (c.map .str)).bind _=_;rw[BS];show (if _ then _ else Z)=_;rw[ah (by rw[aC];omega),zJ _ _ (by simpa using d)];simp
 have e:kJ (zi c.length) (zi c.length)=Y (.bool true):=by rw[kJ,ah ⟨by rfl,by rfl⟩,eW.eqv];simp
 simp? only[oJ,y8,wl,f,A4,aC,e]
noncomputable def gD(H:List (Str×eW)):eW:=.dict (H.map λp=>(.str p.1,p.2))
theorem BU{t:Str}:∀{H:List (Str×eW)},t∉H.map (·.1)->jb (.str t) (H.map λp=>(.str p.1,p.2))=Z
 |[],_=>rfl
 |p::H,h=>by simp only[af,av,not_or] at h;rw[af,jb,ai (by show ¬ (decide (p.1=t))=true;simpa using λz:p.1=t=>h.1 z.symm)];exact BU h.2
theorem BV{t:Str}{d:eW}:∀{H:List (Str×eW)},(H.map (·.1)).Nodup->(t,d)∈H->jb (.str t) (H.map λp=>(.str p.1,p.2))=Y d
 |[],_,h=>by simp at h
 |p::H,nd,h=>by
  rw[af,bJ] at nd;rw[af,jb];rcases av.mp h with e|e
  ·subst e;rw[ah (by show (decide (t=t))=true;simp)]
  ·have:p.1≠t:=λz=>nd.1 (by rw[z];exact aK.mpr ⟨(t,d),e,rfl⟩);rw[ai (by show ¬ (decide (p.1=t))=true;simpa using this)];exact BV nd.2 e
theorem F1{t:Str}:∀{H:List (Str×eW)},t∉H.map (·.1)->((H.map λp=>((.str p.1:eW),p.2)).any λx=>nB x.1 (.str t))=false
 |[],_=>rfl
 |p::H,h=>by
  simp only[af,av,not_or] at h;rw[af,bz,F1 h.2];have:nB (.str p.1) (.str t)=false:=by show decide (p.1=t)=false;simpa using λz:p.1=t=>h.1 z.symm
  rw[this];rfl
def vf(H:List (Str×eW)):fZ (H.map λp=>((.str p.1:eW),p.2))=false:=by cases H<;>rfl
def DH{t:Str}{H:List (Str×eW)}(h:t∉H.map (·.1))(a:H.length<=900):yw (.str t) d (gD H)=Y (gD (H++[(t,d)])):=by show (if _ then _ else Z)=_;rw[ah ⟨by rw[aC,sizeLine_eq];omega,vf H⟩];show Y (eW.dict (Aq (.str t) d _))=_;rw[Aq,ai (by rw[F1 h];simp)];simp[gD]
theorem Ju{t:Str}:∀{H:List (Str×eW)},t∈H.map (·.1)->(jb (.str t) (H.map λp=>(.str p.1,p.2))).isSome=true
 |[],h=>by simp at h
 |p::H,h=>by
  rw[af,jb];by_cases q:p.1=t
  ·rw[ah (by show (decide (p.1=t))=true;simpa using q)];rfl
  ·rw[ai (by show ¬ (decide (p.1=t))=true;simpa using q)];refine Ju ?_;rw[af] at h;rcases av.mp h with e|e
   ·exact absurd e.symm q
   ·exact e
def BW{t:Str}{H:List (Str×eW)}:oj (.str t) (gD H)=Y (decide (t∈H.map (·.1))):=by
 show (if fZ _=true then Z else _)=_;rw[ai (by rw[vf];simp)];show Y (jb (.str t) _).isSome=_;by_cases h:t∈H.map (·.1)
 ·rw[aW h,Ju h]
 ·rw[aO h,BU h];rfl
def Oq{t:Str}{H:List (Str×eW)}(a:(H.map (·.1)).Nodup)(h:(t,d)∈H):mj (gD H) (.str t)=Y d:=by show (if fZ _=true then Z else _)=_;rw[ai (by rw[vf];simp)];exact BV a h
def RN(H:List (Str×eW)):kM [gD H]=Y (wl (H.map (·.1))):=by show (if fZ _=true then Z else _)=_;rw[ai (by rw[vf];simp)];simp[wl,Function.comp_def]
def vg:jy .none .none=Y (.bool false):=rfl
def xW(t:Str):jy (.str t) .none=Y (.bool true):=rfl
def DI(b:Bool):ku (.bool b)=Y b:=rfl
def lY(b:Bool):me (.bool b)=true:=rfl
def VP(b:Str):me (.str b)=true:=rfl
def VQ(b:Int):me (.int b)=true:=rfl
def Jv:me .none=true:=rfl
def Jw(a:Lr):EF (wl a)=true:=by simp[EF,wl,me]
def RO(l:List α)(a:α):pJ (l++[a]) (-1)=Y a:=by
 have c:(1:Int)<=(l.length:Int)+1:=by omega
 have b:(-1+((l.length:Int)+1)).toNat=l.length:=by omega
 simp[pJ,Co,c,b]
def hG{a:BD}{g:bb->Option gC}{ρ1:bb}(h:(a d ρ).bind g=Y (.nx ρ1)):nP a g (d::ds) ρ=nP a g ds ρ1:=by rw[nP,h];rfl
def qa{A B:bb->Option gC}{ρ0 ρ1:bb}{o:Option gC}(b:A ρ0=Y (.nx ρ1))(a:B ρ1=o):fq A B ρ0=o:=by rw[Jo,b,Oe,a]
def RP{c:bb->Option Bool}{A B:bb->Option gC}{o:Option gC}(b:c ρ=Y true)(a:A ρ=o):kK c A B ρ=o:=by rw[VG,b,YB,a]
def zU{c:bb->Option Bool}{A B:bb->Option gC}{o:Option gC}(b:c ρ=Y false)(a:B ρ=o):kK c A B ρ=o:=by rw[VG,b,YC,a]
def DJ{T:bb->Option Bool}{C:bb->Od}{a:Lp}(c:q ρ=Y ds)(d:ds.length<=1000)(b:kH T C (pj iP ρ) ds=Y a):jg q iP T C ρ=Y (.list a):=by rw[DF,c];simp only[ab];rw[ah (by rw[sizeLine_eq];omega),b];rfl
def DK(a b:Str)(h:a.length+b.length<=1000):kb (.str a) (.str b)=Y (.str (a++b)):=by show (if _ then _ else Z)=_;rw[ah (by rw[sizeLine_eq];omega)]
def YM(i j:Int):kJ (.int i) (.int j)=Y (.bool (i==j)):=by rw[kJ,ah ⟨by rfl,by rfl⟩,eW.eqv]
def neI(i j:Int):w8 (.int i) (.int j)=Y (.bool (!(i==j))):=by rw[w8,ah ⟨by rfl,by rfl⟩,eW.eqv]
def Ot(k m:Str):Str:=k++(zZ "."++m)
def ln(a:Lr):Str:=Str.join ⟨#[32]⟩ a
def GR(a:Lr):Prop:=a≠[]/\(∀w∈a,ua w=true)/\a.length<=12
def GR.len{a:Lr}(h:GR a):(Str.join ⟨#[32]⟩ a).length<=108:=by have:=FY 32 a (B:=8) λw hw=>(ub.mp (h.2.1 w hw)).2.1;have:=h.2.2;omega
def GR.split{a:Lr}(h:GR a):iW (.str (Str.join ⟨#[32]⟩ a)) [.str ⟨#[32]⟩]=Y (wl a) :=
 Jq 32 a h.1 (λw hw=>Jr (h.2.1 w hw) (by decide)) (by have:=h.len;omega)
def GR.ok{a:Lr}(h:GR a):∀w∈a,eW.strOk w=true:=λw hw=>Ol (h.2.1 w hw)
structure Hb (t:Str) (ws:Lr):Prop where
 hd:(∃r,ws=zZ "func"::t::r)\/(∃k m r,ws=zZ "method"::k::m::r/\t=Ot k m/\k.length<=8/\m.length<=8)\/(ws=[zZ "main"]/\t=zZ "main")
 tok:eW.strOk t=true
def Hb.YN{t:Str}{a:Lr}(h:Hb t a):gv [wl a]=Y (.str t):=by
 rcases h.hd with ⟨r,rfl⟩ | ⟨k,m,r,rfl,rfl,c,b⟩ | ⟨rfl,rfl⟩
 ·exact RK t r
 ·exact RL k m r c b
 ·exact Jt
theorem Hb.w0{t:Str}{a:Lr}(h:Hb t a):∃(w0:String) (r:Lr),a=zZ w0::r/\(w0="func"\/w0="method"\/w0="main"):=by
 rcases h.hd with ⟨r,rfl⟩ | ⟨k,m,r,rfl,_⟩ | ⟨rfl,_⟩
 ·exact⟨"func",_,rfl,.inl rfl⟩
 ·exact⟨"method",_,rfl,.inr (.inl rfl)⟩
 ·exact⟨"main",_,rfl,.inr (.inr rfl)⟩
inductive Wk:Nat->Str->List Lr->List (Str×Lr)->List (Lr×Str)->Prop
 |nil (b:Str):Wk 0 b [] [] []
 |kind (b:Str) (r:Lr) {rest:List Lr}{hs:List (Str×Lr)}{ns:List (Lr×Str)}:Wk 0 b rest hs ns->Wk 0 b ((zZ "kind"::r)::rest) hs ns
 |head (b:Str) {t:Str}{ws:Lr}{rest:List Lr}{hs:List (Str×Lr)}{ns:List (Lr×Str)}:Hb t ws->Wk 1 t rest hs ns->Wk 0 b (ws::rest) ((t,ws)::hs) ns
 |fin {d:Nat}{b:Str}{rest:List Lr}{hs:List (Str×Lr)}{ns:List (Lr×Str)}:Wk d b rest hs ns->Wk (d+1) b ([zZ "end"]::rest) hs ns
 |ZN {d:Nat}{b:Str}{rest:List Lr}{hs:List (Str×Lr)}{ns:List (Lr×Str)}:Wk (d+1) b rest hs ns->Wk (d+1) b ([zZ "else"]::rest) hs ns
 |row {d:Nat}{b:Str} (w0:String) (r:Lr) (bl:Bool) {rest:List Lr}{hs:List (Str×Lr)}{ns:List (Lr×Str)}:(w0=="end")=false->(w0=="else")=false->(w0=="if"||w0=="while")=bl ->
   Wk (if bl then d+2 else d+1) b rest hs ns->Wk (d+1) b ((zZ w0::r)::rest) hs ((zZ w0::r,b)::ns)
def BX(w0:String):oj (.str (zZ w0)) (.tuple [.str (zZ "if"),.str (zZ "while")])=Y (w0=="if"||w0=="while"):=by
 show (if _ then _ else Z)=_;rw[ah ⟨mY (fO _),by simp[mY (fO _)],by simp[eW.depth]⟩];simp only[bz,List.any_nil,dM,Om,lH]
 congr 1
 rw[eD,eD (b:="while")]
abbrev sS:=Int×(List Str×Str)
def Ou(i:Nat)(x:sS):eW×eW:=(.int (i:Int),.tuple [.int x.1,wl x.2.1,.str x.2.2])
def sr:Nat->List sS->List (eW×eW)
 |_,[]=>[]
 |i,x::r=>Ou i x::sr (i+1) r
theorem Jx:∀(E:List sS) (i:Nat) (x:sS),sr i (E++[x])=sr i E++[Ou (i+E.length) x]
 |[],i,x=>rfl
 |y::E,i,x=>by
  rw[aR,sr,sr,Jx E (i+1) x,aR,ao]
  congr 4;omega
theorem DL:∀(E:List sS) (i:Nat),(sr i E).length=E.length
 |[],_=>rfl
 |y::E,i=>by rw[sr,ao,DL E,ao]
def zV(E:List sS)(i:Nat):fZ (sr i E)=false:=by cases E<;>rfl
theorem Jy:∀(E:List sS) (i n:Nat),i+E.length<=n->((sr i E).any λx=>nB x.1 (zi n))=false
 |[],_,_,_=>rfl
 |y::E,i,n,h=>by
  rw[ao] at h;rw[sr,bz,Jy E (i+1) n (by omega)];have:nB (zi i) (zi n)=false:=by show decide ((i:Int)=(n:Int))=false;exact aO (by omega)
  show (nB (zi i) (zi n)||false)=false;rw[this];rfl
theorem Jz:∀(E:List sS) (i k:Nat) (x:sS),E[k]?=Y x->jb (zi (i+k:Nat)) (sr i E)=Y (.tuple [.int x.1,wl x.2.1,.str x.2.2])
 |[],_,_,_,h=>by simp at h
 |y::E,i,0,x,h=>by rw[c8] at h;cases h;rw[sr,Ou,jb,ah (by show decide ((i:Int)=((i+0:Nat):Int))=true;simp)]
 |y::E,i,k+1,x,h=>by rw[bY] at h;rw[sr,Ou,jb,ai (by show ¬ decide ((i:Int)=((i+(k+1):Nat):Int))=true;simp;omega)];have:=Jz E (i+1) k x h;rwa[show i+1+k=i+(k+1) by omega] at this
def Ov(E:List sS):mO [.dict (sr 0 E)]=Y (zi E.length):=by show (if fZ _=true then Z else Y (eW.int ((sr 0 E).length:Int)))=_;rw[ai (by rw[zV];simp),DL]
def VR(E:List sS)(x:sS)(a:E.length<=900):yw (zi E.length) (.tuple [.int x.1,wl x.2.1,.str x.2.2]) (.dict (sr 0 E))=Y (.dict (sr 0 (E++[x]))):=by show (if _ then _ else Z)=_;rw[ah ⟨by rw[DL,sizeLine_eq];omega,zV E 0⟩];show Y (eW.dict (Aq _ _ _))=_;rw[Aq,ai (by rw[Jy E 0 E.length (by omega)];simp),Jx,Ou,cT]
def T7{E:List sS}{k:Nat}{x:sS}(h:E[k]?=Y x):mj (.dict (sr 0 E)) (zi k)=Y (.tuple [.int x.1,wl x.2.1,.str x.2.2]):=by show (if fZ _=true then Z else _)=_;rw[ai (by rw[zV];simp)];have:=Jz E 0 k x h;rw[cT] at this;exact this
def YO:U2 (.int 0) (.int 0)=Y (.bool false):=by kernel_rfl
def gtS(d:Nat):U2 (zi (d+1:Nat)) (.int 0)=Y (.bool true):=by show Y (eW.bool (decide ((0:Int)<((d+1:Nat):Int))))=_;rw[aW (by omega)]
def YP:kJ (.int 0) (.int 0)=Y (.bool true):=by kernel_rfl
def eqS(d:Nat):kJ (zi (d+1:Nat)) (.int 0)=Y (.bool false):=by
 rw[YM]
 congr 2
def BY(d:Nat):(((d+1:Nat):Int) - 1)=(d:Int):=by omega
def BZ(d:Nat):((d:Nat):Int)+1=((d+1:Nat):Int):=by omega
def wa(k:Nat)(a:List Lr):Lp:=((a.map λb=>eW.str (Str.join ⟨#[32]⟩ b)).zipIdx k).map λx=>.tuple [.int x.2,x.1]
def mZ(k:Nat)(b:Lr)(a:List Lr):wa k (b::a)=.tuple [.int (k:Int),.str (Str.join ⟨#[32]⟩ b)]::wa (k+1) a:=by simp[wa,eM]
def qI(a:Str)(r:Lr):mj (wl (a::r)) (.int 0)=Y (.str a):=by simp only[wl,af,zG,Gv]
def RQ(v:eW):∀{d:Nat}{b:Str}{c:List Lr}{A:List (Str×Lr)}{z:List (Lr×Str)},Wk d b c A z->∀(k:Nat) (E:List sS) (bd:eW) (l r w:Od),(0<d->bd=.str b)->E.length+c.length<=900->(∀f∈c,GR f) ->
  ∃n s q p o,n.map (·.2)=z/\nP (w9 (.many [4,5])) fH (wa k c) [Y v,Y (.dict (sr 0 E)),Y bd,Y (zi d),l,r,w]=Y (.nx [Y v,Y (.dict (sr 0 (E++n))),s,Y (.int 0),q,p,o]):=by
 intro d b c A z h;induction h with
 |nil b=>intro k E bd l r w _ _ _;exact⟨[],Y bd,l,r,w,rfl,by rw[aL];rfl⟩
 |@kind b i j A z G x=>
  intro k E bd l r w B u m;have g:=m _ (ba ..);obtain⟨n,s,q,p,o,y,e⟩:=x (k+1) E bd (Y (zi k)) (Y (.str (Str.join ⟨#[32]⟩ (zZ "kind"::i)))) (Y (wl (zZ "kind"::i))) (by omega) (by simp at u ⊢;omega) λf hw=>m f (aj _ hw);refine⟨n,s,q,p,o,y,?_⟩;rw[mZ,hG ?_,e];show fH [Y v,Y (.dict (sr 0 E)),Y bd,Y (.int 0),Y (zi k),Y (.str (Str.join ⟨#[32]⟩ (zZ "kind"::i))),w]=_;have C:("kind"=="end")=false:=by decide
  have K:(!("kind"=="kind"))=false:=by decide
  simp? only[fH,tZ,g.split,qI,iR,nN,C,K,YO]
  rfl
 |@head b t f j A z O G x=>
  intro k E bd l r w B u m;have g:=m _ (ba ..);obtain⟨n,s,q,p,o,y,e⟩:=x (k+1) E (.str t) (Y (zi k)) (Y (.str (Str.join ⟨#[32]⟩ f))) (Y (wl f)) (λ_=>rfl) (by simp at u ⊢;omega) λf hw=>m f (aj _ hw);refine⟨n,s,q,p,o,y,?_⟩;rw[mZ,hG ?_,e];show fH [Y v,Y (.dict (sr 0 E)),Y bd,Y (.int 0),Y (zi k),Y (.str (Str.join ⟨#[32]⟩ f)),w]=_;obtain⟨a,r,R,hw⟩:=O.w0;have H:(a=="end")=false:=by rcases hw with rfl|rfl|rfl<;>decide
  have F:(a=="kind")=false:=by rcases hw with rfl|rfl|rfl<;>decide
  have C:mj (wl f) (.int 0)=Y (.str (zZ a)):=by rw[R];exact qI _ _
  simp? only[fH,tZ,g.split,C,iR,nN,H,F,YO,O.YN]
  rfl
 |@fin d b j A z G x=>
  intro k E bd l r w B u m;have g:=m _ (ba ..);obtain⟨n,s,q,p,o,y,e⟩:=x (k+1) E bd (Y (zi k)) (Y (.str (Str.join ⟨#[32]⟩ [zZ "end"]))) (Y (wl [zZ "end"])) (λ_=>B (by omega)) (by simp at u ⊢;omega) λf hw=>m f (aj _ hw);refine⟨n,s,q,p,o,y,?_⟩;rw[mZ,hG ?_,e];show fH [Y v,Y (.dict (sr 0 E)),Y bd,Y (zi (d+1:Nat)),Y (zi k),Y (.str (Str.join ⟨#[32]⟩ [zZ "end"])),w]=_;have C:("end"=="end")=true:=by decide
  simp? only[fH,tZ,g.split,qI,iR,nN,C,BY]
 |@ZN d b j A z G x=>
  intro k E bd l r w B u m;have g:=m _ (ba ..);obtain⟨n,s,q,p,o,y,e⟩:=x (k+1) E bd (Y (zi k)) (Y (.str (Str.join ⟨#[32]⟩ [zZ "else"]))) (Y (wl [zZ "else"])) (λ_=>B (by omega)) (by simp at u ⊢;omega) λf hw=>m f (aj _ hw);refine⟨n,s,q,p,o,y,?_⟩;rw[mZ,hG ?_,e];show fH [Y v,Y (.dict (sr 0 E)),Y bd,Y (zi (d+1:Nat)),Y (zi k),Y (.str (Str.join ⟨#[32]⟩ [zZ "else"])),w]=_;have C:("else"=="end")=false:=by decide
  have K:(!("else"=="else"))=false:=by decide
  have S:("else"=="if"||"else"=="while")=false:=by decide
  simp? only[fH,tZ,g.split,qI,iR,nN,C,K,gtS,o9,BX,S]
 |@row d b a i T j A z H F P G x=>
  intro k E bd l r w B u m;have g:=m _ (ba ..);have J:=B (by omega);subst J;obtain⟨n,s,q,p,o,y,e⟩:=x (k+1) (E++[((k:Int),(zZ a::i,b))]) (.str b) (Y (zi k)) (Y (.str (Str.join ⟨#[32]⟩ (zZ a::i)))) (Y (wl (zZ a::i))) (λ_=>rfl) (by simp at u ⊢;omega) λf hw=>m f (aj _ hw);refine⟨((k:Int),(zZ a::i,b))::n,s,q,p,o,by rw[af,y],?_⟩;rw[aJ,List.singleton_append] at e;rw[mZ,hG ?_,e];show fH [Y v,Y (.dict (sr 0 E)),Y (.str b),Y (zi (d+1:Nat)),Y (zi k),Y (.str (Str.join ⟨#[32]⟩ (zZ a::i))),w]=_;have N:E.length<=900:=by simp at u;omega
  have L:=VR E ((k:Int),(zZ a::i,b)) N;have M:=Ov E;have I:=BX a;rw[P] at I;have D:uy (.sl 1) (Kx (zN (a7 1))) (iF [1] (lz (gq (a7 4) (gq (a7 6) (zQ (a7 2)))))) [Y v,Y (.dict (sr 0 E)),Y (.str b),Y (zi (d+1:Nat)),Y (zi k),Y (.str (Str.join ⟨#[32]⟩ (zZ a::i))),Y (wl (zZ a::i))] =
    Y (.nx [Y v,Y (.dict (sr 0 (E++[((k:Int),(zZ a::i,b))]))),Y (.str b),Y (zi (d+1:Nat)),Y (zi k),Y (.str (Str.join ⟨#[32]⟩ (zZ a::i))),Y (wl (zZ a::i))]):=by
   simp? only[wU,M,L,VQ]
  have Q:(!(a=="else"))=true:=by rw[F];rfl
  cases T with
  |false=>simp? only[fH,tZ,g.split,qI,iR,nN,H,F,gtS,D,o9,I,bO]
  |true=>simp? only[fH,tZ,g.split,qI,iR,nN,H,F,gtS,D,o9,I,BZ]
def hg(hs:List (Str×Lr)):List (Str×eW):=hs.map λp=>(p.1,wl p.2)
def xX(a:List (Str×Lr)):(hg a).map (·.1)=a.map (·.1):=by simp[hg,Function.comp_def]
def RS(m:Od):∀{d:Nat}{b:Str}{a:List Lr}{i:List (Str×Lr)}{n:List (Lr×Str)},Wk d b a i n->∀(H:List (Str×eW)) (w:Od),(H.map (·.1)++i.map (·.1)).Nodup->H.length+a.length<=900 ->
  ∃f,nP (w9 (.one 3)) fP (a.map wl) [m,Y (gD H),Y (zi d),w]=Y (.nx [m,Y (gD (H++hg i)),Y (.int 0),f]):=by
 intro d b a i n h;induction h with
 |nil b=>intro H w _ _;exact⟨w,by rw[show hg []=[] from rfl,aL];rfl⟩
 |@kind b q c i n s k=>
  intro H w g j;obtain⟨f,e⟩:=k H (Y (wl (zZ "kind"::q))) g (by simp at j ⊢;omega);refine⟨f,?_⟩;rw[af,hG ?_,e];show fP [m,Y (gD H),Y (.int 0),Y (wl (zZ "kind"::q))]=_;have o:("kind"=="end")=false:=by decide
  have E:(!("kind"=="kind"))=false:=by decide
  have x:("kind"=="if"||"kind"=="while")=false:=by decide
  simp? only[fP,qI,iR,nN,o,E,YP,o9,BX,x]
  rfl
 |@head b t p c i n O s k=>
  intro H w g j;have A:t∉H.map (·.1):=λz=>by rw[bA] at g;exact g.2.2 t z t (by simp) rfl
  obtain⟨f,e⟩:=k (H++[(t,wl p)]) (Y (wl p)) (by simpa using g) (by simp at j ⊢;omega);refine⟨f,?_⟩;have D:H++hg ((t,p)::i)=H++[(t,wl p)]++hg i:=by simp[hg]
  rw[af,hG ?_,e,D];show fP [m,Y (gD H),Y (.int 0),Y (wl p)]=_;obtain⟨l,r,C,hw⟩:=O.w0;have u:(l=="end")=false:=by rcases hw with rfl|rfl|rfl<;>decide
  have y:(l=="kind")=false:=by rcases hw with rfl|rfl|rfl<;>decide
  have o:mj (wl p) (.int 0)=Y (.str (zZ l)):=by rw[C];exact qI _ _
  simp? only[fP,wU,o,iR,nN,u,y,YP,O.YN,DH A (show H.length<=900 by simp at j;omega)]
  rfl
 |@fin d b c i n s k=>
  intro H w g j;obtain⟨f,e⟩:=k H (Y (wl [zZ "end"])) g (by simp at j ⊢;omega);refine⟨f,?_⟩;rw[af,hG ?_,e];show fP [m,Y (gD H),Y (zi (d+1:Nat)),Y (wl [zZ "end"])]=_;have o:("end"=="end")=true:=by decide
  simp? only[fP,qI,iR,nN,o,BY]
 |@ZN d b c i n s k=>
  intro H w g j;obtain⟨f,e⟩:=k H (Y (wl [zZ "else"])) g (by simp at j ⊢;omega);refine⟨f,?_⟩;rw[af,hG ?_,e];show fP [m,Y (gD H),Y (zi (d+1:Nat)),Y (wl [zZ "else"])]=_;have o:("else"=="end")=false:=by decide
  have x:("else"=="if"||"else"=="while")=false:=by decide
  simp? only[fP,qI,iR,nN,o,eqS,o9,BX,x]
 |@row d b l q F c i n u y B s k=>
  intro H w g j;obtain⟨f,e⟩:=k H (Y (wl (zZ l::q))) g (by simp at j ⊢;omega);refine⟨f,?_⟩;rw[af,hG ?_,e];show fP [m,Y (gD H),Y (zi (d+1:Nat)),Y (wl (zZ l::q))]=_;have v:=BX l;rw[B] at v;cases F with
  |false=>simp? only[fP,qI,iR,nN,u,eqS,o9,v,bO]
  |true=>simp? only[fP,qI,iR,nN,u,eqS,o9,v,BZ]
def Ox(l:Lp)(a d:eW):yw (.int (-1)) d (.list (l++[a]))=Y (.list (l++[d])):=by
 have c:(1:Int)<=(l.length:Int)+1:=by omega
 have b:(-1+((l.length:Int)+1)).toNat=l.length:=by omega
 show (Co _ (-1)).map _=_;simp[Co,c,b]
def DM(b a:Lr):wl (b++a)=.list (b.map .str++a.map .str):=by simp[wl]
def RT(B:Lr)(b:Str):mj (wl (B++[b])) (.int (-1))=Y (.str b):=by rw[DM];exact RO _ _
def ok1(s:String):∀w∈[zZ s],eW.strOk w=true:=by intro w hw;simp at hw;subst hw;exact fO _
def Oy{a b:String}(h:(a==b)=false):zZ a≠zZ b:=by intro z;have:=lH a b;rw[z] at this;simp at this;rw[this] at h;simp at h
def tx(a:List Lr):Str:=Str.join ⟨#[10]⟩ (a.map ln)
structure Rt (rows:List Lr) (hs:List (Str×Lr)) (ns:List (Lr×Str)):Prop where
 wk:Wk 0 ⟨#[]⟩ rows hs ns
 gr:∀ws∈rows,GR ws
 nd:(hs.map (·.1)).Nodup
 tok:∀w∈hs.map (·.1),eW.strOk w=true
 len:rows.length<=800
 ne:rows≠[]
def Pr(a:List (eW×eW)):eW:=.dict ((.none,.str "Program")::a)
def RU(a:eW)(x:Str):Prop:=gG ["Program"] "text" a=Y (.str x)/\kL "Program" "shown" a=true
def F2{a:eW}(h:RU a x):hJ [a]=Y (.str x):=by
 simp? only[hJ,qC,h.1]
structure YQ (ws:Lr):Prop where
 line:10∉(ln ws).cps.toList
 len:(ln ws).length<=108
 split:iW (.str (ln ws)) [.str ⟨#[32]⟩]=Y (wl ws)
def GR.line{a:Lr}(h:GR a):10∉(ln a).cps.toList:=BQ 32 10 (by decide) a λw hw=>Jr (h.2.1 w hw) (by decide)
def GR.lnr{a:Lr}(h:GR a):YQ a:=⟨h.line,h.len,h.split⟩
theorem wW(T:bb->Option Bool)(C:bb->Od)(b:T=λ_=>Y true)(c:C=xM iW (a7 0) (zC (zZ " ") f7)):∀{a:List Lr},(∀ws∈a,YQ ws)->kH T C [] ((a.map ln).map .str)=Y (a.map wl)
 |[],_=>rfl
 |ws::a,h=>by
  have d:=wW T C b c λx (f:x∈a)=>h x (by simp[f]);have g:=h ws (by simp);have e:C [Y (.str (ln ws))]=Y (wl ws):=by
   rw[c]
   simp? only[tZ]
   exact g.split
  have i:T [Y (.str (ln ws))]=Y true:=by rw[b]
  rw[af,af,kH,i]
  simp? only[e,d]
def JA(h:∀ws∈rows,YQ ws):∀y∈rows.map ln,y.length<=108:=by intro y a;obtain⟨ws,hw,rfl⟩:=aK.mp a;exact(h ws hw).len
def LO(h:∀ws∈rows,YQ ws)(c:rows.length<=800)(a:rows≠[]):iW (.str (tx rows)) [.str (zZ "\n")]=Y (wl (rows.map ln)):=by
 rw[Og];refine Jq 10 (rows.map ln) (by simpa using a) (λp b=>?_) ?_
 ·obtain⟨ws,hw,rfl⟩:=aK.mp b;exact(h ws hw).line
 ·have:=FY 10 (rows.map ln) (JA h);rw[aC] at this;omega
def Oz(h:∀ws∈rows,YQ ws)(a:rows.length<=800):pS (.str (zZ "\n")) [wl (rows.map ln)]=Y (.str (tx rows)):=by rw[Og];exact Oj 10 (rows.map ln) (JA h) (by rw[aC];omega)
def zW(T:bb->Option Bool)(C:bb->Od)(a:T=λ_=>Y true)(b:C=xM iW (a7 0) (zC (zZ " ") f7))(h:∀ws∈rows,GR ws):kH T C [] ((rows.map ln).map .str)=Y (rows.map wl):=wW T C a b λws hw=>(h ws hw).lnr
def vh(h:∀ws∈rows,GR ws)(b:rows.length<=800)(a:rows≠[]):iW (.str (tx rows)) [.str (zZ "\n")]=Y (wl (rows.map ln)):=LO (λws hw=>(h ws hw).lnr) b a
def RV(h:∀ws∈rows,GR ws)(a:rows.length<=800):pS (.str (zZ "\n")) [wl (rows.map ln)]=Y (.str (tx rows)):=Oz (λws hw=>(h ws hw).lnr) a
section
variable {hs:List (Str×Lr)}{ns:List (Lr×Str)}
def JB(H:Rt rows hs ns){a:eW}(b:RU a (tx rows)):jH [a]=Y (.list (rows.map wl)):=by
 have f:=H.len;have e:=vh H.gr H.len H.ne;have d:=zW oE oF rfl rfl H.gr;have c:((rows.map ln).map eW.str).length<=16777216:=by simp;omega
 simp? only[jH,qD,b.2,F2 b,e,ah c,pj,d]
def F3(H:Rt rows hs ns){pr:eW}(c:RU pr (tx rows)):iI [pr]=Y (gD (hg hs)):=by
 have d:=JB H c;have f:=H.len;obtain⟨e,a⟩:=RS (Y pr) H.wk [] Z (by simpa using H.nd) (by simp;omega);have b:eW.dict []=gD []:=rfl;rw[bC] at a
 simp? only[iI,uR,d,b]
 rw[show eW.int 0=.int ((0:Nat):Int) from rfl,a]
 simp? only[Ry]
def prog(a:List Lr)(b:List (Str×Lr))(E:List sS):eW:=Pr [(.str "text",.str (tx a)),(.str "numbered",.dict (sr 0 E)),(.str "body_texts",wl (b.map (·.1)))]
def F4(H:Rt rows hs ns):∃E,E.map (·.2)=ns/\jI [.str (tx rows)]=Y (.dict (sr 0 E)):=by
 have g:=H.len;have b:=vh H.gr H.len H.ne;obtain⟨E,h,f,d,c,a,e⟩:=RQ (.str (tx rows)) H.wk 0 [] .none Z Z Z (by omega) (by simp;omega) H.gr;refine⟨E,a,?_⟩;have q:qA ((rows.map ln).map eW.str)=wa 0 rows:=by unfold qA wa;rw[bc];rfl
 rw[bC,show sr 0 []=[] from rfl,show eW.int ((0:Nat):Int)=.int 0 from rfl] at e
 simp? only[jI,qF,b,q,e]
def RW{x:eW}(h:f [Y (Pr []),Y x]=Y d):jw 0 "Program" "text" f [Y (Pr []),Y x]=Y (.nx [Y (Pr [(.str "text",d)]),Y x]):=by rw[v8,h];kernel_rfl
def RX{a x:eW}(h:f [Y (Pr [(.str "text",a)]),Y x]=Y d):jw 0 "Program" "numbered" f [Y (Pr [(.str "text",a)]),Y x]=Y (.nx [Y (Pr [(.str "text",a),(.str "numbered",d)]),Y x]):=by rw[v8,h];kernel_rfl
def RY{a b x:eW}(h:f [Y (Pr [(.str "text",a),(.str "numbered",b)]),Y x]=Y d):jw 0 "Program" "body_texts" f [Y (Pr [(.str "text",a),(.str "numbered",b)]),Y x]=Y (.nx [Y (Pr [(.str "text",a),(.str "numbered",b),(.str "body_texts",d)]),Y x]):=by rw[v8,h];kernel_rfl
def RZ(H:Rt rows hs ns):∃E,E.map (·.2)=ns/\kj [Pr [],.str (tx rows)]=Y (.none,prog rows hs E):=by
 obtain⟨E,d,f⟩:=F4 H;refine⟨E,d,?_⟩;have e:=F3 H (pr:=Pr [(.str "text",.str (tx rows)),(.str "numbered",.dict (sr 0 E))]) ⟨by kernel_rfl,by kernel_rfl⟩;have c:(iF [0] (a7 1)) [Y (Pr []),Y (.str (tx rows))]=Y (.str (tx rows)):=rfl;have b:(iF [0] (jR 1 jI (zQ (a7 1)))) [Y (Pr [(.str "text",.str (tx rows))]),Y (.str (tx rows))]=Y (.dict (sr 0 E)):=by
  simp? only[f]
 have a:(Ve (lj kM (zQ (jR 1 iI (zQ (a7 0)))))) [Y (Pr [(.str "text",.str (tx rows)),(.str "numbered",.dict (sr 0 E))]),Y (.str (tx rows))]=Y (wl (hs.map (·.1))):=by
  simp? only[e,RN,xX,Jw]
 simp? only[kj,rB,v9,DG,Jo,RW c,RX b,RY a]
 rfl
def DN(E:List sS):RU (prog rows hs E) (tx rows):=⟨by kernel_rfl,by kernel_rfl⟩
def zY(E:List sS):gG ["Program"] "numbered" (prog rows hs E)=Y (.dict (sr 0 E)):=by kernel_rfl
end
def atN(l:List α)(k:Nat):pJ l (k:Int)=l[k]?:=by
 unfold pJ Co;by_cases h:k<l.length
 ·simp[h]
 ·simp[h]
def WY(h:n<=1000):(-(2 ^ 62)<=(n:Int)/\(n:Int)<2 ^ 62):=by
 have e:(2:Int) ^ 62=4611686018427387904:=by decide
 rw[e];omega
def aaZ{j:Int}(h:f ρ=Y (.int j))(a:-(2 ^ 62)<=j/\j<2 ^ 62):ko f ρ=Y (oh 0 j.toNat):=by rw[aaX,h];simp only[ab];rw[ah a]
def Ih(n:Nat):oh 0 n=(List.range' 0 n).map λ(i:Nat)=>eW.int (i:Int):=by unfold oh;rw[List.range_eq_range'];refine dX λa _=>?_;rw[Int.zero_add]
def JC(a:n<=1000)(ρ:bb)(f:bb->Od)(h:f ρ=Y (zi n)):ko f ρ=Y ((List.range' 0 n).map λ(i:Nat)=>eW.int (i:Int)):=by rw[aaZ h (WY a),cN,Ih]
section
variable {hs:List (Str×Lr)}{ns:List (Lr×Str)}
def R3(E:List sS):kL "Program" "row_words" (prog rows hs E)=true:=by kernel_rfl
def VS(E:List sS):kL "Program" "row_body" (prog rows hs E)=true:=by kernel_rfl
def OA(E:List sS):kL "Program" "many_rows" (prog rows hs E)=true:=by kernel_rfl
end
section
structure KR where
 nm:Str
 el:Option Str
 own:Lr
def B0:Option Str->Lr
 |none=>[]
 |some j=>[zZ "of",j]
def xY:Lr->Lr
 |[]=>[]
 |a::l=>zZ "fields"::a::l
def mz(r:KR):Lr:=zZ "kind"::r.nm::(B0 r.el++xY r.own)
def aa0(a:α)(l:List α):nk (a::l) (Y 1) Z=l:=by have:=FZ (a::l) 1 (by simp);simpa using this
def DO:ku (.list [])=Y false:=rfl
def F5(a:eW)(l:Lp):ku (.list (a::l))=Y true:=rfl
def Rg(a hs b bl la:eW)(ov:Bool):eW:=.dict [(.none,.str "Reading"),(.str "fields",a),(.str "heads",hs),(.str "body",b),(.str "blocks",bl),(.str "over",.bool ov),(.str "later",la)]
abbrev R0:eW:=Rg (gD []) (gD []) .none (.list []) (.list []) false
variable {la:eW}
def vi(c a b bl:eW)(ov:Bool):gG ["Reading"] "over" (Rg c a b bl la ov)=Y (.bool ov):=by kernel_rfl
def su(d c b e:eW)(a:Bool):gG ["Reading"] "body" (Rg d c b e la a)=Y b:=by kernel_rfl
def vj(d a b e:eW)(c:Bool):gG ["Reading"] "heads" (Rg d a b e la c)=Y a:=by kernel_rfl
def sv(a d b e:eW)(c:Bool):gG ["Reading"] "fields" (Rg a d b e la c)=Y a:=by kernel_rfl
def sx(e d b a:eW)(c:Bool):gG ["Reading"] "blocks" (Rg e d b a la c)=Y a:=by kernel_rfl
def OB(c a b bl:eW)(ov:Bool):gG ["Reading"] "later" (Rg c a b bl la ov)=Y la:=by kernel_rfl
def Ii{e c b g:eW}{a:Bool}{x y:Od}(h:f [Y (Rg e c b g la a),x,y]=Y d):
  jw 0 "Reading" "body" f [Y (Rg e c b g la a),x,y]=Y (.nx [Y (Rg e c d g la a),x,y]):=by
 rw[v8,h];kernel_rfl
def F6{h g:bb->Od}{c b f:eW}{H:List (Str×eW)}{t:Str}{a:Bool}{x y:Od}(l:h [Y (Rg c (gD H) b f la a),x,y]=Y (.str t))(k:g [Y (Rg c (gD H) b f la a),x,y]=Y d)(i:t∉H.map (·.1))(j:H.length<=900):
  uy (.fl 0 "Reading" "heads") h g [Y (Rg c (gD H) b f la a),x,y]=Y (.nx [Y (Rg c (gD (H++[(t,d)])) b f la a),x,y]):=by
 have e:qQ (.fl 0 "Reading" "heads") [Y (Rg c (gD H) b f la a),x,y]=Y (gD H):=by kernel_rfl
 rw[wU,e,l,k];simp only[ab,DH i j,aG]
 kernel_rfl
theorem DP{h g:bb->Od}{c b f:eW}{t:Str}{a:Bool}{x y z:Od}(l:h [Y (Rg (gD F) c b f la a),x,y,z]=Y (.str t))(k:g [Y (Rg (gD F) c b f la a),x,y,z]=Y d)(i:t∉F.map (·.1))(j:F.length<=900):
  uy (.fl 0 "Reading" "fields") h g [Y (Rg (gD F) c b f la a),x,y,z]=Y (.nx [Y (Rg (gD (F++[(t,d)])) c b f la a),x,y,z]):=by
 have e:qQ (.fl 0 "Reading" "fields") [Y (Rg (gD F) c b f la a),x,y,z]=Y (gD F):=by kernel_rfl
 rw[wU,e,l,k];simp only[ab,DH i j,aG]
 kernel_rfl
structure VT (F:eW) (t:Str) (ws:Lr):Prop where
 nm:∀w∈ws,ua w=true
 hd:∃w0 r,ws=zZ w0::r/\(w0="func"\/w0="method"\/w0="main")
 len:ws.length<=12
 YN:gv [wl ws]=Y (.str t)
 ish:∀hs b bl la ov,vU [Rg F hs b bl la ov,wl ws]=Y (.bool true)
 tok:eW.strOk t=true
def R5{F:eW}{t:Str}{a:Lr}(O:VT F t a){H:List (Str×eW)}(c:t∉H.map (·.1))(e:H.length<=900)(i:Int):
  gR [Rg F (gD H) .none (.list []) la false,.int i,wl a]=Y (.bool true,Rg F (gD (H++[(t,wl a)])) (.str t) (.list []) la false):=by
 obtain⟨b,r,g,hw⟩:=O.hd;have f:(b=="kind")=false:=by rcases hw with rfl|rfl|rfl<;>decide
 have m:mj (wl a) (.int 0)=Y (.str (zZ b)):=by rw[g];simp only[wl,af,zG,Gv]
 have l:=O.ish (gD H) .none (.list []) la false;have d:=BW (t:=t) (H:=H);rw[aO c] at d;have k:(iF [0] (jR 1 gv (zQ (a7 2)))) [Y (Rg F (gD H) .none (.list []) la false),Y (.int i),Y (wl a)]=Y (.str t):=by
  simp? only[O.YN]
 have j:(Kx (fJ ["Reading"] "body" (a7 0))) [Y (Rg F (gD H) (.str t) (.list []) la false),Y (.int i),Y (wl a)]=Y (.str t):=by
  simp? only[su,VP]
 have h:(iF [0] (a7 2)) [Y (Rg F (gD H) (.str t) (.list []) la false),Y (.int i),Y (wl a)]=Y (wl a):=by
  simp? only[Ry]
 simp? only[gR,mW,vi,su,vj,DI,vg,m,iR,f,l,O.YN,o9,d,Ii k,F6 j h c e,lY]
def ZO{i j:Int}(h:¬ i<j):An (.int i) (.int j)=Y (.bool false):=by simp[An,dI,h]
def VU:ku (gD [])=Y false:=by kernel_rfl
def T8(j:Nat)(g:bb->Option gC)(ρ:bb):QZ j g ρ=(g ρ).map (Hr j):=rfl
def R6(b:Lr):nk ((xY b).map eW.str) (Y 1) Z=b.map .str:=by
 cases b with
 |nil=>rfl
 |cons a l=>rw[xY,af,aa0]
def YR{a b c d:Od}{x:eW}(h:f [Z,b,c,Z]=Y x):ig (iF [0,3] f) 2 [a,b,c,d]=Y (.nx [a,b,Y x,d]):=by rw[N9,T4,er1,er1,er0];show (f [Z,b,c,Z]).map _=_;rw[h];rfl
theorem OC{r:KR}{a:eW}(e:r.nm∉F.map (·.1))(f:ku a=Y false){b j:eW}{d:Bool}:
  (Cz (vp (fJ ["Reading"] "heads" (a7 0))) (Cz (fB (d2 An (zN (a7 1)) (zI 2))) (fB (d2 CH (zX (a7 1) (zI 1)) (fJ ["Reading"] "fields" (a7 0)))))) [Y (Rg (gD F) a b j la d),Y (wl (mz r)),Z,Z]=Y false:=by
 have i:mj (wl (mz r)) (.int 1)=Y (.str (r.nm)):=by simp only[mz,wl,af,zG,LN]
 have h:mO [wl (mz r)]=Y (.int (((mz r).map eW.str).length:Int)):=A4 _;have g:An (.int (((mz r).map eW.str).length:Int)) (.int 2)=Y (.bool false):=ZO (by simp[mz];omega);have c:=BW (t:=r.nm) (H:=F);rw[aO e] at c
 simp? only[vj,f,h,g,i,sv,o9,c]
def ZP(F:List (Str×eW))(b:Option Str)(a:Lr):Prop:=match b with
 |none=>a=[]
 |some j=>(j,wl a)∈F
theorem OD{i:Option Str}{c d:Lr}(q:(F.map (·.1)).Nodup)(k:ZP F i d){g b h w:eW}{f:Bool}:
  (kK (qO (vp (a7 2)) (fB (d2 kJ (zX (a7 2) (zI 0)) (zA "of"))))
   (fq (kK (Cz (fB (d2 An (zN (a7 2)) (zI 2))) (fB (d2 ql (zX (a7 2) (zI 1)) (fJ ["Reading"] "fields" (a7 0)))))
   (nF (dC (.bool false)))
   gX)
   (fq (nE (Ve (lj kM (zQ (zX (fJ ["Reading"] "fields" (a7 0)) (zX (a7 2) (zI 1)))))) 3)
   (ig (iF [0,3] (iE (a7 2) (iV (zI 2)) jV)) 2)))
   gX) [Y (Rg (gD F) g b h la f),Y w,Y (wl (B0 i++xY c)),Y (wl [])]=Y (.nx [Y (Rg (gD F) g b h la f),Y w,Y (wl (xY c)),Y (wl d)]):=by
 cases i with
 |none=>
  have e:d=[]:=k;subst e;refine zU ?_ ?_
  ·cases c with
   |nil=>simp? only[B0,xY,wl,DO]
   |cons a l=>
    have p:("fields"=="of")=false:=by decide
    simp? only[B0,xY,wl,F5,zG,Gv,iR,p]
  ·rfl
 |some j=>
  have e:(j,wl d)∈F:=k;have o:("of"=="of")=true:=by decide
  have y:mj (wl (B0 (Y j)++xY c)) (.int 0)=Y (.str (zZ "of")):=by simp only[B0,wl,aR,af,zG,Gv]
  have n:mj (wl (B0 (Y j)++xY c)) (.int 1)=Y (.str (j)):=by simp only[B0,wl,aR,af,zG,LN]
  have x:L0 (wl (B0 (Y j)++xY c)) (Y 2) Z=Y (wl (xY c)):=by simp only[B0,wl,aR,bC,af,YL,VO]
  have v:ku (wl (B0 (Y j)++xY c))=Y true:=rfl;have u:mO [wl (B0 (Y j)++xY c)]=Y (.int (((B0 (Y j)++xY c).map eW.str).length:Int)):=A4 _;have s:An (.int (((B0 (Y j)++xY c).map eW.str).length:Int)) (.int 2)=Y (.bool false):=ZO (by simp[B0];omega);have m:=BW (t:=j) (H:=F);rw[aW (aK.mpr ⟨_,e,rfl⟩)] at m;have r:=Oq q e;refine RP ?_ (qa (ρ1:=[Y (Rg (gD F) g b h la f),Y w,Y (wl (B0 (Y j)++xY c)),Y (wl [])]) (zU ?_ rfl) (qa (ρ1:=[Y (Rg (gD F) g b h la f),Y w,Y (wl (B0 (Y j)++xY c)),Y (wl d)]) ?_ (YR ?_)))
  ·simp? only[v,y,iR,o]
  ·simp? only[u,s,n,sv,zH,m]
  ·simp? only[sv,n,r,Js,Jw]
  ·simp? only[x]
theorem R7{r:KR}{b:Lr}{c:eW}(j:(F.map (·.1)).Nodup)(e:r.nm∉F.map (·.1))(u:ku c=Y false)(n:ZP F r.el b)(k:(b++r.own).Nodup)(m:F.length<=900)(s:b.length+r.own.length<=900):
  nZ [Rg (gD F) c .none (.list []) la false,wl (mz r)]=Y (.bool true,Rg (gD (F++[(r.nm,wl (b++r.own))])) c .none (.list []) la false):=by
 have z:(b.map eW.str).length+(r.own.map eW.str).length<=16777216:=by simp;omega
 have w:mj (wl (mz r)) (.int 1)=Y (.str (r.nm)):=by simp only[mz,wl,af,zG,LN]
 have v:L0 (wl (mz r)) (Y 2) Z=Y (wl (B0 r.el++xY r.own)):=by simp only[mz,wl,af,YL,VO]
 have i:=RM k (by simpa using s);have g:qv [Y (Rg (gD F) c .none (.list []) la false),Y (wl (mz r)),Z,Z]=Y (.rt (.tuple [.bool true,Rg (gD (F++[(r.nm,wl (b++r.own))])) c .none (.list []) la false])):=by
  refine qa (zU (OC e u) rfl) (qa (YR (x:=wl (B0 r.el++xY r.own)) ?_) (qa (ρ1:=[Y (Rg (gD F) c .none (.list []) la false),Y (wl (mz r)),Y (wl (B0 r.el++xY r.own)),Y (wl [])]) ?_ (qa (OD j n) (qa (ρ1:=[Y (Rg (gD F) c .none (.list []) la false),Y (wl (mz r)),Y (wl (xY r.own)),Y (wl b)]) (zU ?_ rfl) (qa (ρ1:=[Y (Rg (gD F) c .none (.list []) la false),Y (wl (mz r)),Y (wl (xY r.own)),Y (wl (b++r.own))]) ?_ ?_)))))
  ·simp? only[v]
  ·simp? only[Ry];rfl
  ·have p:r.own=[]\/∃a l,r.own=a::l:=by cases r.own<;>simp
   rcases p with q | ⟨a,l,q⟩
   ·rw[q];simp? only[xY,wl,DO]
   ·have h:(!("fields"=="fields"))=false:=by decide
    have f:An (zi ((l.map eW.str).length+1+1:Nat)) (.int 2)=Y (.bool false):=ZO (by omega);rw[q];simp? only[xY,wl,F5,zG,Gv,nN,h,A4,f]
  ·simp? only[wl,R6,ah z,bf]
  ·rw[T8,qa (DP (t:=r.nm) (d:=wl (b++r.own)) ?_ ?_ e m) (o:=Y (.rt (.tuple [.bool true,Rg (gD (F++[(r.nm,wl (b++r.own))])) c .none (.list []) la false]))) ?_]
   ·rfl
   ·simp? only[w]
   ·simp? only[Ry]
   ·simp? only[i,lY]
 rw[nZ,v9];show Ic (qv [Y (Rg (gD F) c .none (.list []) la false),Y (wl (mz r)),Z,Z])=_;rw[g,ve]
theorem R8{r:KR}{a:Lr}{b:eW}(d:(F.map (·.1)).Nodup)(f:r.nm∉F.map (·.1))(k:ku b=Y false)(h:ZP F r.el a)(e:(a++r.own).Nodup)(g:F.length<=900)(j:a.length+r.own.length<=900)(i:Int):
  gR [Rg (gD F) b .none (.list []) la false,.int i,wl (mz r)]=Y (.bool true,Rg (gD (F++[(r.nm,wl (a++r.own))])) b .none (.list []) la false):=by
 have c:("kind"=="kind")=true:=by decide
 have m:mj (wl (mz r)) (.int 0)=Y (.str (zZ "kind")):=by simp only[mz,wl,af,zG,Gv]
 have l:=R7 (la:=la) d f k h e g j
 simp? only[gR,mW,vi,su,DI,vg,m,iR,c,l,lY]
def JD(h:bb->Option (eW×bb))(ρ:bb):Hh h ρ=(h ρ).map λr=>.nx r.2:=rfl
def OE{c a b e:eW}{g d:Bool}(h:f [Y (Rg c a b e la g)]=Y (.bool d)):
  jw 0 "Reading" "over" f [Y (Rg c a b e la g)]=Y (.nx [Y (Rg c a b e la d)]):=by
 rw[v8,h];kernel_rfl
def OF{e c b g:eW}{a:Bool}(h:f [Y (Rg e c b g la a)]=Y d):
  jw 0 "Reading" "body" f [Y (Rg e c b g la a)]=Y (.nx [Y (Rg e c d g la a)]):=by
 rw[v8,h];kernel_rfl
def OG{t:Str}(b:eW.strOk t=true)(F a:eW):
  jN [Rg F a (.str t) (.list []) la false]=Y (.none,Rg F a .none (.list []) la (t==zZ "main")):=by
 have d:(Kx (d2 kJ (fJ ["Reading"] "body" (a7 0)) (zA "main"))) [Y (Rg F a (.str t) (.list []) la false)]=Y (.bool (t==zZ "main")):=by
  simp? only[su,VL b (fO _),lY]
 have c:(iF [0] (dC .none)) [Y (Rg F a (.str t) (.list []) la (t==zZ "main"))]=Y .none:=rfl
 simp? only[jN,mH,sx,DO,OE d,OF c]
def R9:kJ (.list [.str "end"]) (.list [.str "end"])=Y (.bool true):=by kernel_rfl
def VV{t:Str}(a:eW.strOk t=true)(F hs:eW)(i:Int):
  gR [Rg F hs (.str t) (.list []) la false,.int i,wl ["end"]]=Y (.bool true,Rg F hs .none (.list []) la (t==zZ "main")):=by
 have b:gw [Rg F hs (.str t) (.list []) la false,.int i,.list [.str "end"]]=Y (.bool true,Rg F hs .none (.list []) la (t==zZ "main")):=by
  simp? only[gw,jo,R9,JD,OG a,Jv,lY]
 simp? only[gR,mW,wl,vi,su,DI,xW,b,lY]
theorem wb(T:bb->Option Bool)(C:bb->Od)(b:T=λ_=>Y true)(c:C=jR 1 n8 (zQ (a7 0))):∀(a:Lr),(∀w∈a,ua w=true)->kH T C [] (a.map .str)=Y (a.map λ_=>.bool true)
 |[],_=>rfl
 |w::a,h=>by
  have d:=wb T C b c a λz f=>h z (by simp[f]);have e:C [Y (.str w)]=Y (.bool true):=by rw[c];simp? only[RJ (h w (by simp))]
  have g:T [Y (.str w)]=Y true:=by rw[b]
  rw[af,kH,g]
  simp? only[e,d]
theorem z0{α:Type}:∀a:List α,qq (a.map λ_=>eW.bool true)=Y (a.map λ_=>true)
 |[]=>rfl
 |w::a=>by show (qq (a.map λ_=>eW.bool true)).map (true::·)=_;rw[z0 a];rfl
def F7(a:List α):QX [.list (a.map λ_=>eW.bool true)]=Y (.bool true):=by show (qq (a.map λ_=>eW.bool true)).map _=_;rw[z0];simp
def Reads:Nat->eW->List Lr->eW->Prop
 |_,R,[],R'=>R=R'
 |n,R,ws::r,R'=>∃a,(∀w∈ws,ua w=true)/\gR [R,.int (n:Int),wl ws]=Y (.bool true,a)/\Reads (n+1) a r R'
theorem Reads.app:∀{d e:List Lr}{n:Nat}{R g f:eW},Reads n R d g->Reads (n+d.length) g e f->Reads n R (d++e) f
 |[],_,_,_,_,_,h1,h2=>by cases h1;exact h2
 |_::d,_,n,_,_,_,⟨Q,a,b,c⟩,h2=>⟨Q,a,b,c.app (by rw[ao] at h2;rwa[show n+1+d.length=n+(d.length+1) by omega])⟩
def Ij:∀w∈[zZ "end"],ua w=true:=by intro w hw;simp at hw;subst hw;decide +kernel
def Sa:∀w∈[zZ "else"],ua w=true:=by intro w hw;simp at hw;subst hw;decide +kernel
def brX(c:Option (Bool×bb))(g h:bb->Option gC):Option gC:=match c with
 |some (true,ρ)=>g ρ
 |some (false,ρ)=>h ρ
 |none=>Z
def T9(g h:bb->Option gC)(ρ:bb):brX (Y (false,ρ)) g h=h ρ:=rfl
def YS(c:bb->Option (Bool×bb))(g h:bb->Option gC)(ρ:bb):QO c g h ρ=brX (c ρ) g h:=by unfold QO brX;rcases c ρ with _ | ⟨_|_,ρ'⟩<;>rfl
def YT(g:bb->Option Bool)(h:bb->Option (Bool×bb))(ρ:bb):ZJ g h ρ=L4 (g ρ) (λρ=>Y (true,ρ)) h ρ:=by unfold ZJ L4;rcases g ρ with _|_|_<;>rfl
def LP{a:Lr}{R d b rw:eW}{c:Od}{i:Int}(h:∀w∈a,ua w=true)(hw:a.length<=900)(e:gR [R,.int i,wl a]=Y (.bool true,d)):
  i5 [Y b,Y R,Y rw,Y (.int i),Y (wl a),c]=Y (.nx [Y b,Y d,Y rw,Y (.int i),Y (wl a),c]):=by
 have j:=wb o5 o6 rfl rfl a h;have g:=F7 a;have f:a.length<=16777216:=by omega
 simp? only[i5,YS,T9,YT,wl,aC,ah f,pj,j,g,DI]
 rw[show (eW.list (List.map eW.str a))=wl a from rfl,e]
 simp? only[lY,T9]
theorem B3(g rw:eW)(c:Od):∀(d:List Lr) (n:Nat) (R f:eW) (a b:Od),Reads n R d f->(∀ws∈d,ws.length<=900) ->
  ∃j i,nP (w9 (.many [3,4])) i5 (((d.map wl).zipIdx n).map λx=>.tuple [.int x.2,x.1]) [Y g,Y R,Y rw,a,b,c]=Y (.nx [Y g,Y f,Y rw,j,i,c])
 |[],n,R,f,a,b,h,_=>by cases h;exact⟨a,b,rfl⟩
 |ws::d,n,R,f,a,b,⟨R1,h1,h2,h3⟩,hl=>by obtain⟨j,i,e⟩:=B3 g rw c d (n+1) R1 f (Y (.int n)) (Y (wl ws)) h3 λx k=>hl x (by simp[k]);refine⟨j,i,?_⟩;rw[af,eM,af,nP];show (i5 [Y g,Y R,Y rw,Y (.int n),Y (wl ws),c]).bind _=_;rw[LP h1 (hl ws (by simp)) h2];exact e
end
def OH(b a:Lr)(h:b.length+a.length<=900):kb (wl b) (wl a)=Y (wl (b++a)):=by show (if _ then _ else Z)=_;rw[ah (by rw[aC,aC,sizeLine_eq];omega),<-bf]
def VW{b:Lr}(h:b≠[]):ku (wl b)=Y true:=by
 cases b with
 |nil=>exact absurd rfl h
 |cons a l=>rfl
def Sb(F:eW):VT F (zZ "main") [zZ "main"] :=
 ⟨by intro w hw;simp at hw;subst hw;decide +kernel,⟨"main",[],rfl,.inr (.inr rfl)⟩,by decide,Jt,λc b d la a=>by kernel_rfl,fO _⟩
noncomputable def js(w:String)(c x y k e m d:eW)(b a:Lp):eW:=.dict [(.none,.str "Row"),(.str "word",.str (zZ w)),(.str "condition",c),(.str "x",x),(.str "y",y),(.str "kind",k),(.str "field",e),(.str "method",m),(.str "function",d),(.str "handed",.list b),(.str "names",.list a)]
def oN(w:String)(c x y k e m d:eW)(b a:Lp):gG ["Row"] "word" (js w c x y k e m d b a)=Y (.str (zZ w)):=by kernel_rfl
def vk(w:String)(c x y k e m d:eW)(b a:Lp):gG ["Row"] "kind" (js w c x y k e m d b a)=Y k:=by kernel_rfl
def z4(w:String)(c x y k e m d:eW)(b a:Lp):gG ["Row"] "method" (js w c x y k e m d b a)=Y m:=by kernel_rfl
def z5(w:String)(c x y k e m a:eW)(d b:Lp):gG ["Row"] "function" (js w c x y k e m a d b)=Y a:=by kernel_rfl
def z6(w:String)(c x y k e m d:eW)(a b:Lp):gG ["Row"] "handed" (js w c x y k e m d a b)=Y (.list a):=by kernel_rfl
def OI:bb->Option gC:=(fq (ig (iF [] (jR 1 sk (zQ (a7 0)))) 1)
(fq (kK (fB (d2 qR (a7 1) (dC .none)))
(gA (dC (.bool false)))
gX)
(fq (kK (qO (vp (a7 1)) (fB (d2 kJ (zX (a7 1) (zI (-1))) (zA "A"))))
(gA (d2 dGe (zN (a7 0)) (zN (a7 1))))
gX)
(gA (d2 kJ (zN (a7 0)) (d2 kb (zN (a7 1)) (zI 1)))))))
def Ik{a:Lr}(g:GR a):uX [wl a]=LL (OI [Y (wl a),Z]):=by
 have e:=wb wK wL rfl rfl a g.2.1;have d:=F7 a;have c:(a.map eW.str).length<=16777216:=by have:=g.2.2;rw[aC];omega
 have b:=VW g.1;show jS _ (fq _ OI) _=_;rw[T6,DG];refine bL LL (qa (ρ1:=[Y (wl a),Z]) ?_ rfl);simp only[wl] at b
 simp? only[wl,b,ah c,pj,e,d,DI]
local macro_rules
| `(zR 0) => `(⟨⟨_, rfl⟩, fun h => (Ik h).trans (by kernel_rfl), by kernel_rfl, vk .., oN ..⟩)
structure il (ws:Lr) (w0:String) (kd:Option Str) (row:eW):Prop where
 hd:∃r,ws=zZ w0::r
 isr:GR ws->uX [wl ws]=Y (.bool true)
 ini:oB [.dict [(.none,.str "Row")],wl ws]=Y (.none,row)
 kd:gG ["Row"] "kind" row=Y (kd.elim .none .str)
 wd:gG ["Row"] "word" row=Y (.str (zZ w0))
def VX(a b:Str):il [zZ "new",a,b] "new" (Y b) (js "new" .none (.str (a)) .none (.str (b)) .none .none .none [] [.str a]):=zR 0
def VY(a:Str):il [zZ "row",a] "row" Z (js "row" .none (.str (a)) .none .none .none .none .none [] [.str a]):=zR 0
def OJ(a b:Str):il [zZ "func",a,b] "func" Z (js "func" .none (.str (a)) .none .none .none .none (.str (b)) [] [.str a]):=zR 0
def OK(a b c:Str):il [zZ "func",a,b,c] "func" Z (js "func" .none (.str (a)) .none .none .none .none (.str (b)) [.str c] [.str a,.str c]):=zR 0
def OM(a b c d:Str):il [zZ "func",a,b,c,d] "func" Z (js "func" .none (.str (a)) .none .none .none .none (.str (b)) [.str c,.str d] [.str a,.str c,.str d]):=zR 0
def Sd(a b:Str):il [zZ "copy",a,b] "copy" Z (js "copy" .none (.str (a)) (.str (b)) .none .none .none .none [] [.str a,.str b]):=zR 0
def Se(a b c:Str):il [zZ "take",a,b,c] "take" Z (js "take" .none (.str (a)) (.str (b)) .none (.str (c)) .none .none [] [.str a,.str b]):=zR 0
def VZ(a b c:Str):il [zZ "put",a,b,c] "put" Z (js "put" .none (.str (c)) (.str (a)) .none (.str (b)) .none .none [] [.str a,.str c]):=zR 0
def Sf(a b:Str):il [zZ "push",a,b] "push" Z (js "push" .none (.str (b)) (.str (a)) .none .none .none .none [] [.str a,.str b]):=zR 0
def Sg(a b:Str):il [zZ "pull",a,b] "pull" Z (js "pull" .none (.str (a)) (.str (b)) .none .none .none .none [] [.str a,.str b]):=zR 0
def Wa(a b:Str):il [zZ "do",a,b] "do" Z (js "do" .none (.str (a)) (.str (b)) .none .none .none .none [] [.str a,.str b]):=zR 0
def Wb(a b c:Str):il [zZ "do",a,b,c] "do" Z (js "do" .none (.str (a)) (.str (b)) .none .none .none .none [.str c] [.str a,.str b,.str c]):=zR 0
def Wc(a b c d:Str):il [zZ "do",a,b,c,d] "do" Z (js "do" .none (.str (a)) (.str (b)) .none .none .none .none [.str c,.str d] [.str a,.str b,.str c,.str d]):=zR 0
def Sh(a b c:Str):il [zZ "ask",a,b,c] "ask" Z (js "ask" .none (.str (a)) (.str (b)) .none .none (.str (c)) .none [] [.str a,.str b]):=zR 0
def Si(a b c d:Str):il [zZ "ask",a,b,c,d] "ask" Z (js "ask" .none (.str (a)) (.str (b)) .none .none (.str (c)) .none [.str d] [.str a,.str b,.str d]):=zR 0
def Sj(a b c d e:Str):il [zZ "ask",a,b,c,d,e] "ask" Z (js "ask" .none (.str (a)) (.str (b)) .none .none (.str (c)) .none [.str d,.str e] [.str a,.str b,.str d,.str e]):=zR 0
def DQ(a b c d:Str):il [zZ "straight",a,b,c,d] "straight" (Y c) (js "straight" .none (.str (a)) (.str (b)) (.str (c)) .none (.str (d)) .none [] [.str a,.str b]):=zR 0
def DR(a b c d e:Str):il [zZ "straight",a,b,c,d,e] "straight" (Y c) (js "straight" .none (.str (a)) (.str (b)) (.str (c)) .none (.str (d)) .none [.str e] [.str a,.str b,.str e]):=zR 0
def DS(a b c d e f:Str):il [zZ "straight",a,b,c,d,e,f] "straight" (Y c) (js "straight" .none (.str (a)) (.str (b)) (.str (c)) .none (.str (d)) .none [.str e,.str f] [.str a,.str b,.str e,.str f]):=zR 0
def Sk(a:Str):il [zZ "give",a] "give" Z (js "give" .none (.str (a)) .none .none .none .none .none [] [.str a]):=zR 0
def Sl(a:Str):il [zZ "tell",a] "tell" Z (js "tell" .none (.str (a)) .none .none .none .none .none [] [.str a]):=zR 0
def Sm:il [zZ "rest"] "rest" Z (js "rest" .none .none .none .none .none .none .none [] []):=zR 0
def ON(a b:Str):il [zZ "check",a,b] "check" Z (js "check" .none .none (.str (a)) .none (.str (b)) .none .none [] [.str a]):=zR 0
def OO(a b:Str):il [zZ "fresh",a,b] "fresh" (Y b) (js "fresh" .none (.str (a)) .none (.str (b)) .none .none .none [] [.str a]):=zR 0
def Wd(a b c:Str):il [zZ "own",a,b,c] "own" Z (js "own" .none (.str (a)) (.str (b)) .none (.str (c)) .none .none [] [.str a,.str b]):=zR 0
def OP(a b c:Str):il [zZ "place",a,b,c] "place" Z (js "place" .none (.str (c)) (.str (a)) .none (.str (b)) .none .none [] [.str a,.str c]):=zR 0
def DT:il [zZ "if",zZ "choose"] "if" Z (js "if" (.str (zZ "choose")) .none .none .none .none .none .none [] []):=zR 0
def Il(a:Str):il [zZ "if",zZ "some",a] "if" Z (js "if" (.str (zZ "some")) (.str (a)) .none .none .none .none .none [] [.str a]):=zR 0
def Im(a b:Str):il [zZ "if",zZ "same",a,b] "if" Z (js "if" (.str (zZ "same")) (.str (a)) (.str (b)) .none .none .none .none [] [.str a,.str b]):=zR 0
def xC:il [zZ "while",zZ "choose"] "while" Z (js "while" (.str (zZ "choose")) .none .none .none .none .none .none [] []):=zR 0
def A5(a:Str):il [zZ "while",zZ "some",a] "while" Z (js "while" (.str (zZ "some")) (.str (a)) .none .none .none .none .none [] [.str a]):=zR 0
def A6(a b:Str):il [zZ "while",zZ "same",a,b] "while" Z (js "while" (.str (zZ "same")) (.str (a)) (.str (b)) .none .none .none .none [] [.str a,.str b]):=zR 0
def DU{i g b d:eW}{a:Lr}{c:Bool}{w:Str}{x y z:Od}(h:f [Y (Rg i g b (wl a) d c),x,y,z]=Y (.str w))(j:a.length<=900):
  mD (.fl 0 "Reading" "blocks") f [Y (Rg i g b (wl a) d c),x,y,z]=Y (.nx [Y (Rg i g b (wl (a++[w])) d c),x,y,z]):=by
 have e:qQ (.fl 0 "Reading" "blocks") [Y (Rg i g b (wl a) d c),x,y,z]=Y (.list (a.map .str)):=by kernel_rfl
 have z:(a.map eW.str).length<sizeLine:=by rw[sizeLine_eq,aC];omega
 rw[Oa,e,h];simp only[ab,ah z,DM,af,bB]
 kernel_rfl
def F8{g c b i:eW}{L:Lp}{a:Bool}{x y z:Od}(h:f [Y (Rg g c b i (.list L) a),x,y,z]=Y d)(j:L.length<=900):
  mD (.fl 0 "Reading" "later") f [Y (Rg g c b i (.list L) a),x,y,z]=Y (.nx [Y (Rg g c b i (.list (L++[d])) a),x,y,z]):=by
 have e:qQ (.fl 0 "Reading" "later") [Y (Rg g c b i (.list L) a),x,y,z]=Y (.list L):=by kernel_rfl
 have z:L.length<sizeLine:=by rw[sizeLine_eq];omega
 rw[Oa,e,h];simp only[ab,ah z]
 kernel_rfl
def YU(w0:String):oj (.str (zZ w0)) (.tuple [.str (zZ "func"),.str (zZ "straight")])=Y (w0=="func"||w0=="straight"):=by
 show (if _ then _ else Z)=_;rw[ah ⟨mY (fO _),by simp[mY (fO _)],by simp[eW.depth]⟩];simp only[bz,List.any_nil,dM,Om,lH]
 congr 1
 rw[eD,eD (b:="straight")]
def le8(h:n<=8):qo (zi n) (.int 8)=Y (.bool true):=by
 have:(n:Int)<=8:=by omega
 simp[qo,Zz,dI,this]
section
variable {hs:eW}{t:Str}{bs:Lr}{L:Lp}
theorem Sn{a w:eW}{i:Int}{b:Option Str}(h:gG ["Row"] "kind" a=Y (b.elim .none .str))(c:∀k,b=Y k->k∈F.map (·.1)){R:eW}(d:gG ["Reading"] "fields" R=Y (gD F)):
  (qO (fB (d2 jy (fJ ["Row"] "kind" (a7 3)) (dC .none))) (fB (d2 ql (fJ ["Row"] "kind" (a7 3)) (fJ ["Reading"] "fields" (a7 0))))) [Y R,Y (.int i),Y w,Y a]=Y false:=by
 cases b with
 |none=>simp only[Option.elim] at h;simp? only[h,vg]
 |some k=>
  simp only[Option.elim] at h;have e:=BW (t:=k) (H:=F);rw[aW (c k rfl)] at e
  simp? only[h,xW,d,zH,e]
theorem B4{b:Lr}{w0:String}{n:Option Str}{a:eW}(O:il b w0 n a)(g:GR b)(B:(w0=="end")=false)(A:(w0=="else")=false)(x:∀k,n=Y k->k∈F.map (·.1)){c d:Bool}(w:(w0=="if"||w0=="while")=c)(v:(w0=="func"||w0=="straight")=d)(o:(if c then bs++[zZ w0] else bs).length<=8)(y:L.length<=900)(i:Int):
  gw [Rg (gD F) hs (.str t) (wl bs) (.list L) false,.int i,wl b]=Y (.bool true,Rg (gD F) hs (.str t) (wl (if c then bs++[zZ w0] else bs)) (.list (if d then L++[.tuple [.int i,a]] else L)) false):=by
 obtain⟨r,p⟩:=O.hd;have q:=Ig g.ok (ok1 "end");rw[aO (by intro z;rw[p] at z;injection z with z _;exact Oy B z)] at q;have m:=Ig g.ok (ok1 "else");rw[aO (by intro z;rw[p] at z;injection z with z _;exact Oy A z)] at m;have s:kJ (wl b) (.list [.str (zZ "end")])=Y (.bool false):=q;have e:kJ (wl b) (.list [.str (zZ "else")])=Y (.bool false):=m;have j:=BX w0;have h:=YU w0;rw[w] at j;rw[v] at h;have l:bs.length<=900:=by cases c<;>simp at o<;>omega
 have f:=O.ini;have C:jo [Y (Rg (gD F) hs (.str t) (wl bs) (.list L) false),Y (.int i),Y (wl b),Z]=Y (.rt (.tuple [.bool true,Rg (gD F) hs (.str t) (wl (if c then bs++[zZ w0] else bs)) (.list (if d then L++[.tuple [.int i,a]] else L)) false])):=by
  refine qa (zU (by simp? only[s]) rfl) (qa (zU (by simp? only[e]) rfl) (qa (zU (by simp? only[O.isr g,DI]) rfl) (qa (ρ1:=[Y (Rg (gD F) hs (.str t) (wl bs) (.list L) false),Y (.int i),Y (wl b),Y a]) ?_ (qa (zU (Sn O.kd x (sv ..)) rfl) (qa (ρ1:=[Y (Rg (gD F) hs (.str t) (wl (if c then bs++[zZ w0] else bs)) (.list L) false),Y (.int i),Y (wl b),Y a]) ?_ (qa (ρ1:=[Y (Rg (gD F) hs (.str t) (wl (if c then bs++[zZ w0] else bs)) (.list (if d then L++[.tuple [.int i,a]] else L)) false),Y (.int i),Y (wl b),Y a]) ?_ ?_))))))
  ·simp? only[f]
  ·cases c with
   |false=>exact zU (by simp? only[O.wd,o9,j]) rfl
   |true=>exact RP (by simp? only[O.wd,o9,j]) (DU (by simp? only[O.wd]) l)
  ·cases d with
   |false=>exact zU (by simp? only[O.wd,o9,h]) rfl
   |true=>exact RP (by simp? only[O.wd,o9,h]) (F8 (by simp? only[Ry]) y)
  ·have u:mO [wl (if c then bs++[zZ w0] else bs)]=Y (.int ((if c then bs++[zZ w0] else bs).length:Int)):=by rw[A4,aC]
   simp only[Ob,T5,N6,N7,xV,T3,Jn,DE,Ry,c8,Option.join_some,ab,sx,u,le8 o,lY,bD,aG]
 rw[gw,v9];show Ic (jo [Y (Rg (gD F) hs (.str t) (wl bs) (.list L) false),Y (.int i),Y (wl b),Z])=_;rw[C,ve]
def sy{R b:eW}{e c:eW}{a:Lr}{i:Int}(d:R=Rg (gD F) hs (.str t) e c false)(h:gw [R,.int i,wl a]=Y (.bool true,b)):gR [R,.int i,wl a]=Y (.bool true,b):=by
 subst d
 simp? only[gR,mW,vi,su,DI,xW,h,lY]
def We{A B:bb->Option gC}{ρ0:bb}(a:A ρ0=Y (.rt d)):fq A B ρ0=Y (.rt d):=by rw[Jo,a,Of]
def F9(a:Lr)(x:Str):ku (wl (a++[x]))=Y true:=by cases a<;>rfl
def Wf(x:Str)(i:Int):gw [Rg (gD F) hs (.str t) (wl (bs++[x])) (.list L) false,.int i,wl [zZ "end"]]=Y (.bool true,Rg (gD F) hs (.str t) (wl bs) (.list L) false):=by
 have c:jN [Rg (gD F) hs (.str t) (wl (bs++[x])) (.list L) false]=Y (.none,Rg (gD F) hs (.str t) (wl bs) (.list L) false):=by
  have b:mH [Y (Rg (gD F) hs (.str t) (wl (bs++[x])) (.list L) false)]=Y (.rt (.tuple [.none,Rg (gD F) hs (.str t) (wl bs) (.list L) false])):=by
   have p:QH (.fl 0 "Reading" "blocks") [Y (Rg (gD F) hs (.str t) (wl (bs++[x])) (.list L) false)]=Y (.nx [Y (Rg (gD F) hs (.str t) (wl bs) (.list L) false)]):=by
    have e:qQ (.fl 0 "Reading" "blocks") [Y (Rg (gD F) hs (.str t) (wl (bs++[x])) (.list L) false)]=Y (wl (bs++[x])):=by kernel_rfl
    unfold QH;rw[e,DM];have a:(bs.map eW.str++[eW.str x]).isEmpty=false:=by simp
    simp only[ab,af,bB,List.dropLast_concat,a,bO,bV]
    kernel_rfl
   refine We (RP ?_ (qa p rfl))
   simp? only[sx,F9]
  rw[jN,v9];show Ic (mH [Y (Rg (gD F) hs (.str t) (wl (bs++[x])) (.list L) false)])=_;rw[b,ve]
 have q:kJ (wl [zZ "end"]) (.list [.str (zZ "end")])=Y (.bool true):=by kernel_rfl
 simp? only[gw,jo,q,JD,c,Jv,lY]
def Wg(i:Int):gw [Rg (gD F) hs (.str t) (wl (bs++[zZ "if"])) (.list L) false,.int i,wl [zZ "else"]]=Y (.bool true,Rg (gD F) hs (.str t) (wl (bs++[zZ "else"])) (.list L) false):=by
 have c:k4 [Rg (gD F) hs (.str t) (wl (bs++[zZ "if"])) (.list L) false]=Y (.bool true,Rg (gD F) hs (.str t) (wl (bs++[zZ "else"])) (.list L) false):=by
  have d:(!("if"=="if"))=false:=by decide
  have p:uy (.fl 0 "Reading" "blocks") (iF [0] (zI (-1))) (iF [0] (zA "else")) [Y (Rg (gD F) hs (.str t) (wl (bs++[zZ "if"])) (.list L) false)]=Y (.nx [Y (Rg (gD F) hs (.str t) (wl (bs++[zZ "else"])) (.list L) false)]):=by
   have e:qQ (.fl 0 "Reading" "blocks") [Y (Rg (gD F) hs (.str t) (wl (bs++[zZ "if"])) (.list L) false)]=Y (wl (bs++[zZ "if"])):=by kernel_rfl
   rw[wU,e]
   simp? only[DM,Ox]
   kernel_rfl
  have b:nu [Y (Rg (gD F) hs (.str t) (wl (bs++[zZ "if"])) (.list L) false)]=Y (.rt (.tuple [.bool true,Rg (gD F) hs (.str t) (wl (bs++[zZ "else"])) (.list L) false])):=by
   refine qa (zU ?_ rfl) (qa p rfl)
   simp? only[sx,F9,RT,nN,d]
  rw[k4,v9];show Ic (nu [Y (Rg (gD F) hs (.str t) (wl (bs++[zZ "if"])) (.list L) false)])=_;rw[b,ve]
 have q:kJ (wl [zZ "else"]) (.list [.str (zZ "end")])=Y (.bool false):=by kernel_rfl
 have a:kJ (wl [zZ "else"]) (.list [.str (zZ "else")])=Y (.bool true):=by kernel_rfl
 simp? only[gw,jo,q,a,c,lY]
end
inductive Rk (K:Lr) (M:List (Str×Str)) (Fu:List (Str×Nat)):String->Lr->Prop
 |new {x k:Str}:k∈K->Rk K M Fu "new" [x,k]
 |fresh {x k:Str}:k∈K->Rk K M Fu "fresh" [x,k]
 |row {x:Str}:Rk K M Fu "row" [x]
 |give {x:Str}:Rk K M Fu "give" [x]
 |tell {x:Str}:Rk K M Fu "tell" [x]
 |take {x y z:Str}:Rk K M Fu "take" [x,y,z]
 |own {x y z:Str}:Rk K M Fu "own" [x,y,z]
 |put {x y z:Str}:Rk K M Fu "put" [x,y,z]
 |place {x y z:Str}:Rk K M Fu "place" [x,y,z]
 |check {x y:Str}:Rk K M Fu "check" [x,y]
 |push {x y:Str}:Rk K M Fu "push" [x,y]
 |pull {x y:Str}:Rk K M Fu "pull" [x,y]
 |copy {x y:Str}:Rk K M Fu "copy" [x,y]
 |rest:Rk K M Fu "rest" []
 |ask {x y m:Str}{hs:Lr}:hs.length<=2->Rk K M Fu "ask" (x::y::m::hs)
 |doo {x y:Str}{hs:Lr}:hs.length<=2->Rk K M Fu "do" (x::y::hs)
 |OQ {x y k m:Str}{hs:Lr}:hs.length<=2->k∈K->(k,m)∈M->Rk K M Fu "straight" (x::y::k::m::hs)
 |func {x f:Str}{hs:Lr}:hs.length<=2->(f,hs.length)∈Fu->Rk K M Fu "func" (x::f::hs)
inductive Ck:Lr->Prop
 |choose:Ck [zZ "choose"]
 |some {x:Str}:Ck [zZ "some",x]
 |same {x y:Str}:Ck [zZ "same",x,y]
inductive Bk (K:Lr) (M:List (Str×Str)) (Fu:List (Str×Nat)):Lr->List Lr->Lr->Prop
 |nil (bs:Lr):Bk K M Fu bs [] bs
 |row {bs OR:Lr}{w:String}{r:Lr}{rest:List Lr}:Rk K M Fu w r->Bk K M Fu bs rest OR->Bk K M Fu bs ((zZ w::r)::rest) OR
 |blk {bs OR:Lr}{w:String}{r:Lr}{rest:List Lr}:w="if"\/w="while"->Ck r->bs.length<8->Bk K M Fu (bs++[zZ w]) rest OR->Bk K M Fu bs ((zZ w::r)::rest) OR
 |ZN {bs OR:Lr}{rest:List Lr}:Bk K M Fu (bs++[zZ "else"]) rest OR->Bk K M Fu (bs++[zZ "if"]) ([zZ "else"]::rest) OR
 |fin {bs OR:Lr}{x:Str}{rest:List Lr}:Bk K M Fu bs rest OR->Bk K M Fu (bs++[x]) ([zZ "end"]::rest) OR
def Lt(M:List (Str×Str))(Fu:List (Str×Nat))(e:eW):Prop:=∃i a,e=.tuple [.int i,a] /\
  ((∃k m,(k,m)∈M/\gG ["Row"] "word" a=Y (.str (zZ "straight"))/\gG ["Row"] "kind" a=Y (.str k)/\gG ["Row"] "method" a=Y (.str m)) \/
   (∃f n b,(f,n)∈Fu/\gG ["Row"] "word" a=Y (.str (zZ "func"))/\gG ["Row"] "function" a=Y (.str f)/\gG ["Row"] "handed" a=Y (.list b)/\b.length=n))
section
variable {K:Lr}{M:List (Str×Str)}{Fu:List (Str×Nat)}
structure Rr (K:Lr) (M:List (Str×Str)) (Fu:List (Str×Nat)) (ws:Lr) (w:String):Prop where
 ok:∃kd row,il ws w kd row/\(∀k,kd=Y k->k∈K)/\∀i:Int,(w=="func"||w=="straight")=true->Lt M Fu (.tuple [.int i,row])
 e1:(w=="end")=false
 e2:(w=="else")=false
def Rk.ok{w:String}{r:Lr}(h:Rk K M Fu w r):Rr K M Fu (zZ w::r) w/\(w=="if"||w=="while")=false:=by
 cases h with
 |new j=>exact⟨⟨⟨_,_,VX _ _,λk e=>by injection e with e;subst e;exact j,λi z=>absurd z (by decide)⟩,by decide,by decide⟩,by decide⟩
 |fresh j=>exact⟨⟨⟨_,_,OO _ _,λk e=>by injection e with e;subst e;exact j,λi z=>absurd z (by decide)⟩,by decide,by decide⟩,by decide⟩
 |row=>exact⟨⟨⟨_,_,VY _,by simp,λi z=>absurd z (by decide)⟩,by decide,by decide⟩,by decide⟩
 |give=>exact⟨⟨⟨_,_,Sk _,by simp,λi z=>absurd z (by decide)⟩,by decide,by decide⟩,by decide⟩
 |tell=>exact⟨⟨⟨_,_,Sl _,by simp,λi z=>absurd z (by decide)⟩,by decide,by decide⟩,by decide⟩
 |take=>exact⟨⟨⟨_,_,Se _ _ _,by simp,λi z=>absurd z (by decide)⟩,by decide,by decide⟩,by decide⟩
 |own=>exact⟨⟨⟨_,_,Wd _ _ _,by simp,λi z=>absurd z (by decide)⟩,by decide,by decide⟩,by decide⟩
 |put=>exact⟨⟨⟨_,_,VZ _ _ _,by simp,λi z=>absurd z (by decide)⟩,by decide,by decide⟩,by decide⟩
 |place=>exact⟨⟨⟨_,_,OP _ _ _,by simp,λi z=>absurd z (by decide)⟩,by decide,by decide⟩,by decide⟩
 |check=>exact⟨⟨⟨_,_,ON _ _,by simp,λi z=>absurd z (by decide)⟩,by decide,by decide⟩,by decide⟩
 |push=>exact⟨⟨⟨_,_,Sf _ _,by simp,λi z=>absurd z (by decide)⟩,by decide,by decide⟩,by decide⟩
 |pull=>exact⟨⟨⟨_,_,Sg _ _,by simp,λi z=>absurd z (by decide)⟩,by decide,by decide⟩,by decide⟩
 |copy=>exact⟨⟨⟨_,_,Sd _ _,by simp,λi z=>absurd z (by decide)⟩,by decide,by decide⟩,by decide⟩
 |rest=>exact⟨⟨⟨_,_,Sm ,by simp,λi z=>absurd z (by decide)⟩,by decide,by decide⟩,by decide⟩
 |@ask x y m hs g=>
  rcases hs with _ | ⟨a,_ | ⟨b,_ | ⟨c,l⟩⟩⟩
  ·exact⟨⟨⟨_,_,Sh _ _ _,by simp,λi z=>absurd z (by decide)⟩,by decide,by decide⟩,by decide⟩
  ·exact⟨⟨⟨_,_,Si _ _ _ _,by simp,λi z=>absurd z (by decide)⟩,by decide,by decide⟩,by decide⟩
  ·exact⟨⟨⟨_,_,Sj _ _ _ _ _,by simp,λi z=>absurd z (by decide)⟩,by decide,by decide⟩,by decide⟩
  ·simp at g
 |@doo x y hs g=>
  rcases hs with _ | ⟨a,_ | ⟨b,_ | ⟨c,l⟩⟩⟩
  ·exact⟨⟨⟨_,_,Wa _ _,by simp,λi z=>absurd z (by decide)⟩,by decide,by decide⟩,by decide⟩
  ·exact⟨⟨⟨_,_,Wb _ _ _,by simp,λi z=>absurd z (by decide)⟩,by decide,by decide⟩,by decide⟩
  ·exact⟨⟨⟨_,_,Wc _ _ _ _,by simp,λi z=>absurd z (by decide)⟩,by decide,by decide⟩,by decide⟩
  ·simp at g
 |@OQ x y k m hs g j d=>
  rcases hs with _ | ⟨a,_ | ⟨b,_ | ⟨c,l⟩⟩⟩
  ·exact⟨⟨⟨_,_,DQ _ _ _ _,λk e=>by injection e with e;subst e;exact j,λi _=>⟨i,_,rfl,.inl ⟨k,m,d,oN ..,vk ..,z4 ..⟩⟩⟩,by decide,by decide⟩,by decide⟩
  ·exact⟨⟨⟨_,_,DR _ _ _ _ _,λk e=>by injection e with e;subst e;exact j,λi _=>⟨i,_,rfl,.inl ⟨k,m,d,oN ..,vk ..,z4 ..⟩⟩⟩,by decide,by decide⟩,by decide⟩
  ·exact⟨⟨⟨_,_,DS _ _ _ _ _ _,λk e=>by injection e with e;subst e;exact j,λi _=>⟨i,_,rfl,.inl ⟨k,m,d,oN ..,vk ..,z4 ..⟩⟩⟩,by decide,by decide⟩,by decide⟩
  ·simp at g
 |@func x f hs g d=>
  rcases hs with _ | ⟨a,_ | ⟨b,_ | ⟨c,l⟩⟩⟩
  ·exact⟨⟨⟨_,_,OJ _ _,by simp,λi _=>⟨i,_,rfl,.inr ⟨f,_,_,d,oN ..,z5 ..,z6 ..,rfl⟩⟩⟩,by decide,by decide⟩,by decide⟩
  ·exact⟨⟨⟨_,_,OK _ _ _,by simp,λi _=>⟨i,_,rfl,.inr ⟨f,_,_,d,oN ..,z5 ..,z6 ..,rfl⟩⟩⟩,by decide,by decide⟩,by decide⟩
  ·exact⟨⟨⟨_,_,OM _ _ _ _,by simp,λi _=>⟨i,_,rfl,.inr ⟨f,_,_,d,oN ..,z5 ..,z6 ..,rfl⟩⟩⟩,by decide,by decide⟩,by decide⟩
  ·simp at g
def Ck.ok{w:String}(hw:w="if"\/w="while"){r:Lr}(h:Ck r):Rr K M Fu (zZ w::r) w/\(w=="if"||w=="while")=true/\(w=="func"||w=="straight")=false:=by
 rcases hw with rfl|rfl
 ·refine⟨⟨?_,by decide,by decide⟩,by decide,by decide⟩;cases h with
  |choose=>exact⟨_,_,DT,by simp,λi z=>absurd z (by decide)⟩
  |some=>exact⟨_,_,Il _,by simp,λi z=>absurd z (by decide)⟩
  |same=>exact⟨_,_,Im _ _,by simp,λi z=>absurd z (by decide)⟩
 ·refine⟨⟨?_,by decide,by decide⟩,by decide,by decide⟩;cases h with
  |choose=>exact⟨_,_,xC,by simp,λi z=>absurd z (by decide)⟩
  |some=>exact⟨_,_,A5 _,by simp,λi z=>absurd z (by decide)⟩
  |same=>exact⟨_,_,A6 _ _,by simp,λi z=>absurd z (by decide)⟩
end
section
variable {K:Lr}{M:List (Str×Str)}{Fu:List (Str×Nat)}
theorem Ga{b:Lr}{w:String}(O:Rr K M Fu b w)(q:∀k∈K,k∈F.map (·.1))(g:GR b){h:Bool}(j:(w=="if"||w=="while")=h){hs:eW}{t:Str}{bs:Lr}{L:Lp}(m:(if h then bs++[zZ w] else bs).length<=8)(p:L.length<=900)(a:∀e∈L,Lt M Fu e)(n:Nat):
  ∃i,(∀e∈i,Lt M Fu e)/\i.length<=L.length+1/\gR [Rg (gD F) hs (.str t) (wl bs) (.list L) false,.int (n:Int),wl b]=Y (.bool true,Rg (gD F) hs (.str t) (wl (if h then bs++[zZ w] else bs)) (.list i) false):=by
 obtain⟨r,c,o,l,f⟩:=O.ok;cases d:(w=="func"||w=="straight") with
 |false=>exact⟨L,a,by omega,sy rfl (B4 o g O.e1 O.e2 (λk e=>q k (l k e)) j d m p n)⟩
 |true=>
  refine⟨L++[.tuple [.int (n:Int),c]],λe he=>?_,by simp,sy rfl (B4 o g O.e1 O.e2 (λk e=>q k (l k e)) j d m p n)⟩;rcases aP.mp he with he|he
  ·exact a e he
  ·simp at he;subst he;exact f n d
theorem Io{bs a:Lr}(h:Bk K M Fu bs rows a)(y:∀k∈K,k∈F.map (·.1)){hs:eW}{t:Str}:bs.length<=8->(∀f∈rows,GR f)->∀(n:Nat) (L:Lp),(∀e∈L,Lt M Fu e)->L.length+rows.length<=900 ->
  ∃d,(∀e∈d,Lt M Fu e)/\d.length<=L.length+rows.length/\Reads n (Rg (gD F) hs (.str t) (wl bs) (.list L) false) rows (Rg (gD F) hs (.str t) (wl a) (.list d) false):=by
 induction h with
 |nil bs=>intro _ _ n L g _;exact⟨L,g,by simp,rfl⟩
 |@row bs a w r b k _ i=>intro l c n L g j;obtain⟨O,p⟩:=k.ok;simp only[ao] at j;obtain⟨v,u,A,s⟩:=Ga O y (c _ (ba ..)) p (hs:=hs) (t:=t) (bs:=bs) (L:=L) (by simpa using l) (by omega) g n;obtain⟨d,o,q,m⟩:=i l (λf hw=>c f (aj _ hw)) (n+1) v u (by omega);exact⟨d,o,by simp only[ao];omega,_,(c _ (ba ..)).2.1,s,m⟩
 |@blk bs a w r b hw k z _ i=>intro l c n L g j;obtain⟨O,p,_⟩:=k.ok (K:=K) (M:=M) (Fu:=Fu) hw;simp only[ao] at j;obtain⟨v,u,A,s⟩:=Ga O y (c _ (ba ..)) p (hs:=hs) (t:=t) (bs:=bs) (L:=L) (by simp;omega) (by omega) g n;obtain⟨d,o,q,m⟩:=i (by simp;omega) (λf hw=>c f (aj _ hw)) (n+1) v u (by omega);exact⟨d,o,by simp only[ao];omega,_,(c _ (ba ..)).2.1,s,m⟩
 |@ZN bs a b _ i=>intro l c n L g j;simp only[ao] at j;obtain⟨d,o,q,m⟩:=i (by simpa using l) (λf hw=>c f (aj _ hw)) (n+1) L g (by omega);exact⟨d,o,by simp only[ao];omega,_,Sa,sy rfl (Wg n),m⟩
 |@fin bs a x b _ i=>intro l c n L g j;simp only[ao] at j;obtain⟨d,o,q,m⟩:=i (by simp at l;omega) (λf hw=>c f (aj _ hw)) (n+1) L g (by omega);exact⟨d,o,by simp only[ao];omega,_,Ij,sy rfl (Wf x n),m⟩
structure Bo where
 t:Str
 hd:Lr
 rows:List Lr
def Bo.txt(b:Bo):List Lr:=b.hd::(b.rows++[[zZ "end"]])
structure aa1 (K:Lr) (M:List (Str×Str)) (Fu:List (Str×Nat)) (F:List (Str×eW)) (b:Bo):Prop where
 hd:VT (gD F) b.t b.hd
 gr:∀ws∈b.rows,GR ws
 bk:Bk K M Fu [] b.rows []
 hb:Hb b.t b.hd
 gh:GR b.hd
theorem LQ(g:∀k∈K,k∈F.map (·.1)){b:Bo}(O:aa1 K M Fu F b){H:List (Str×eW)}(c:b.t∉H.map (·.1))(d:H.length<=900)(n:Nat)(L:Lp)(f:∀e∈L,Lt M Fu e)(l:L.length+b.txt.length<=900):
  ∃a,(∀e∈a,Lt M Fu e)/\a.length<=L.length+b.txt.length/\Reads n (Rg (gD F) (gD H) .none (wl []) (.list L) false) b.txt (Rg (gD F) (gD (H++[(b.t,wl b.hd)])) .none (wl []) (.list a) (b.t==zZ "main")):=by
 have j:b.txt.length=b.rows.length+2:=by simp[Bo.txt]
 obtain⟨a,i,m,h⟩:=Io O.bk g (hs:=gD (H++[(b.t,wl b.hd)])) (t:=b.t) (by simp) O.gr (n+1) L f (by omega);refine⟨a,i,by omega,_,O.hd.nm,R5 (la:=.list L) O.hd c d n,h.app ⟨_,Ij,VV O.hd.tok (gD F) _ _,rfl⟩⟩
structure Wh (M:List (Str×Str)) (Fu:List (Str×Nat)) (H:List (Str×eW)):Prop where
 nd:(H.map (·.1)).Nodup
 m:∀k m,(k,m)∈M->Ot k m∈H.map (·.1)/\k.length<=8/\m.length<=8
 f:∀f n,(f,n)∈Fu->eW.strOk f=true/\f≠zZ "main"/\∃ws ks,(f,wl ws)∈H/\lq [wl ws]=Y (wl ks)/\ks.length=n
def YV(k m:Str)(e:k.length<=8)(d:m.length<=8):jM [.str k,.str m]=Y (.str (Ot k m)):=by
 have c:k.length<=16777216:=by omega
 have b:m.length<=16777216:=by omega
 have a:(k++(zZ "."++m)).length<=16777216:=by rw[dt,dt,show (zZ ".").length=1 by decide +kernel];omega
 simp? only[jM,pA,ah c,ah b,ah a,Str.append_empty,Ot]
def OS{H:List (Str×eW)}(T:Wh M Fu H){e:eW}(x:Lt M Fu e){F b bl la:eW}{ov:Bool}:∃i a,e=.tuple [.int i,a]/\ic [Rg F (gD H) b bl la ov,a]=Y (.bool true):=by
 obtain⟨i,a,rfl,h⟩:=x;refine⟨i,a,rfl,?_⟩;rcases h with ⟨k,m,v,l,j,g⟩ | ⟨f,n,y,w,l,j,g,z⟩
 ·obtain⟨q,p,d⟩:=T.m k m v;have o:("straight"=="straight")=true:=by decide
  have c:=BW (t:=Ot k m) (H:=H);rw[aW q] at c
  simp? only[ic,kl,l,iR,o,j,g,YV k m p d,vj,o9,c]
 ·obtain⟨q,p,I,u,d,G,E⟩:=T.f f n w;have o:("func"=="straight")=false:=by decide
  have c:=BW (t:=f) (H:=H);rw[aW (aK.mpr ⟨_,d,rfl⟩)] at c;have D:=Oq T.nd d;have C:(f==zZ "main")=false:=by simpa using p
  have s:=VL q (fO "main");rw[C] at s;have B:mO [wl u]=Y (zi n):=by rw[A4,aC,E]
  have A:mO [.list y]=Y (zi n):=by rw[A4,z]
  have r:=YM (n:Int) (n:Int);rw[beq_self_eq_true] at r
  simp? only[ic,kl,l,iR,o,j,g,s,vj,zH,c,D,G,B,A,r]
theorem z7{H:List (Str×eW)}(T:Wh M Fu H){F b bl la:eW}{ov:Bool}(f rw w:Od):∀(L:Lp) (a c:Od),(∀e∈L,Lt M Fu e) ->
  ∃j g,nP (w9 (.many [3,5])) j4 L [f,Y (Rg F (gD H) b bl la ov),rw,a,w,c]=Y (.nx [f,Y (Rg F (gD H) b bl la ov),rw,j,w,g])
 |[],a,c,_=>⟨a,c,rfl⟩
 |e::L,a,c,h=>by
  obtain⟨i,d,rfl,m⟩:=OS T (h e (by simp)) (F:=F) (b:=b) (bl:=bl) (la:=la) (ov:=ov);obtain⟨j,g,l⟩:=z7 T f rw w L (Y (.int i)) (Y d) λx k=>h x (by simp[k]);refine⟨j,g,?_⟩;rw[hG (ρ1:=[f,Y (Rg F (gD H) b bl la ov),rw,Y (.int i),w,Y d]) ?_]
  ·exact l
  ·show j4 [f,Y (Rg F (gD H) b bl la ov),rw,Y (.int i),w,Y d]=_
   simp? only[j4,m,DI]
end
def So{a:List (Str×Lr)}{d:List (Lr×Str)}(H:Rt rows a d){M:List (Str×Str)}{Fu:List (Str×Nat)}{F:eW}{f:List (Str×eW)}{L:Lp}(T:Wh M Fu f)(j:∀e∈L,Lt M Fu e)(i:Reads 0 R0 rows (Rg F (gD f) .none (wl []) (.list L) true)):
  ∃E,E.map (·.2)=d/\g0 [.str (tx rows)]=Y (prog rows a E):=by
 obtain⟨E,k,p⟩:=RZ H;refine⟨E,k,?_⟩;have w:=H.len;have o:=vh H.gr H.len H.ne;have n:=zW o3 o4 rfl rfl H.gr;have h:((rows.map ln).map eW.str).length<=16777216:=by simp;omega
 have r:oI [.dict [(.none,.str (zZ "Reading"))]]=Y (.none,R0):=by kernel_rfl
 have c:kj [.dict [(.none,.str (zZ "Program"))],.str (tx rows)]=Y (.none,prog rows a E):=p;obtain⟨v,t,m⟩:=B3 (.str (tx rows)) (.list (rows.map wl)) Z rows 0 R0 _ Z Z i λg hw=>by have:=(H.gr g hw).2.2;omega
 have q:qA (rows.map wl)=((rows.map wl).zipIdx 0).map λx=>.tuple [.int x.2,x.1]:=rfl;obtain⟨u,s,l⟩:=z7 T (F:=F) (b:=.none) (bl:=wl []) (la:=.list L) (ov:=true) (Y (.str (tx rows))) (Y (.list (rows.map wl))) t L v Z j
 simp? only[g0,rE,r,o,ah h,pj,n,q,m,vi,DI,T8,OB,l,c,Hr]
abbrev Fl:=List (Str×List Str)
inductive WX:Fl->List KR->Fl->Prop
 |nil (F:Fl):WX F [] F
 |cons {F F':Fl}{r:KR}{ks:List KR}{inh:Lr}:r.nm∉F.map (·.1)->(match r.el with|none=>inh=[]|some j=>(j,inh)∈F)->(inh++r.own).Nodup->inh.length+r.own.length<=90->r.own.length<=6->WX (F++[(r.nm,inh++r.own)]) ks F'->WX F (r::ks) F'
theorem Gb{F g:Fl}{d:List KR}(h:WX F d g){la:eW}:(F.map (·.1)).Nodup->(∀r∈d,GR (mz r))->F.length+d.length<=900->∀n:Nat,Reads n (Rg (gD (hg F)) (gD []) .none (wl []) la false) (d.map mz) (Rg (gD (hg g)) (gD []) .none (wl []) la false)/\(g.map (·.1)).Nodup/\g.map (·.1)=F.map (·.1)++d.map (·.nm):=by
 induction h with
 |nil F=>intro i _ _ n;exact⟨rfl,i,by simp⟩
 |@cons F g r d c s k B D C _ t=>
  intro i f o n;have l:((F++[(r.nm,c++r.own)]).map (·.1)).Nodup:=by rw[bf,bA];refine⟨i,by simp,λa A b p=>?_⟩;simp at p;subst p;exact λz=>s (z▸A)
  obtain⟨m,v,u⟩:=t l (λx w=>f x (by simp[w])) (by simp at o ⊢;omega) (n+1);have y:ZP (hg F) r.el c:=by
   cases q:r.el with
   |none=>rw[q] at k;exact k
   |some j=>rw[q] at k;exact aK.mpr ⟨_,k,rfl⟩
  have e:hg (F++[(r.nm,c++r.own)])=hg F++[(r.nm,wl (c++r.own))]:=by simp[hg]
  rw[e] at m;refine⟨⟨_,(f r (by simp)).2.1,R8 (la:=la) (by rw[xX];exact i) (by rw[xX];exact s) VU y B (by simp[hg] at o ⊢;omega) (by omega) n,m⟩,v,?_⟩;rw[u];simp
def DV:GR [zZ "main"]:=⟨by simp,by intro w hw;simp at hw;subst hw;decide +kernel,by simp⟩
def OT:GR [zZ "end"]:=⟨by simp,Ij,by simp⟩
inductive R4 where
 |new (x k:Str)
 |copy (x y:Str)
 |tell (x:Str)
 |rest
def R4.w:R4->String
 |.new _ _=>"new"
 |.copy _ _=>"copy"
 |.tell _=>"tell"
 |.rest=>"rest"
def R4.as:R4->Lr
 |.new x k=>[x,k]
 |.copy x y=>[x,y]
 |.tell x=>[x]
 |.rest=>[]
def R4.ws(r:R4):Lr:=zZ r.w::r.as
structure R4.Ok (ks:Lr) (r:R4):Prop where
 nm:∀w∈r.as,ua w=true
 kd:∀x k,r=.new x k->k∈ks
def PY(k:Str):KR:=⟨k,Z,[]⟩
def gL(b:Lr)(a:List R4):List Lr:=(b.map PY).map mz++([zZ "main"]::(a.map R4.ws++[[zZ "end"]]))
def R4.Ok.gr{r:R4}(h:r.Ok ks):GR r.ws:=by
 refine⟨by simp[R4.ws],λw hw=>?_,by cases r<;>simp[R4.ws,R4.as]⟩;rcases av.mp hw with rfl|hw
 ·have:∀w∈["new","copy","tell","rest"],ua (zZ w)=true:=by decide +kernel
  exact this _ (by cases r<;>simp[R4.w])
 ·exact h.nm w hw
def R4.Ok.rk{r:R4}(h:r.Ok ks):Rk ks [] [] r.w r.as:=by
 cases r with
 |new x k=>exact .new (h.kd x k rfl)
 |copy x y=>exact .copy
 |tell x=>exact .tell
 |rest=>exact .rest
def YW(k:Str):mz (PY k)=[zZ "kind",k]:=rfl
def DW{k:Str}(h:ua k=true):GR (mz (PY k)):=by
 rw[YW];refine⟨by simp,λw hw=>?_,by simp⟩;simp at hw;rcases hw with rfl|rfl
 ·decide +kernel
 ·exact h
theorem YX:∀(a:Lr) (F:Fl),(F.map (·.1)++a).Nodup->WX F (a.map PY) (F++a.map λk=>(k,[]))
 |[],F,_=>by rw[bB,bB,aL];exact .nil F
 |k::a,F,nd=>by
  have b:k∉F.map (·.1):=λz=>by rw[bA] at nd;exact nd.2.2 k z k (by simp) rfl
  have:=YX a (F++[(k,[])]) (by simpa using nd);refine .cons (r:=PY k) (inh:=[]) b rfl (by simp[PY]) (by simp[PY]) (by simp[PY]) ?_;show WX (F++[(k,[])]) (a.map PY) _;rw[aJ] at this;exact this
theorem bk7{b:Lr}:∀(a:List R4),(∀r∈a,r.Ok b)->Bk b [] [] [] (a.map R4.ws) []
 |[],_=>.nil []
 |r::a,h=>.row (h r (by simp)).rk (bk7 a λx hx=>h x (by simp[hx]))
theorem wk7(t:Str):∀(a:List R4),Wk 1 t (a.map R4.ws++[[zZ "end"]]) [] (a.map λr=>(r.ws,t))
 |[]=>.fin (.nil t)
 |r::a=>.row r.w r.as false (by cases r<;>rfl) (by cases r<;>rfl) (by cases r<;>rfl) (wk7 t a)
theorem B5(b:Str){a:List Lr}{e:List (Str×Lr)}{d:List (Lr×Str)}(h:Wk 0 b a e d):∀c:List KR,Wk 0 b (c.map mz++a) e d
 |[]=>h
 |k::c=>.kind b _ (B5 b h c)
def dr:Str:=zZ "main"
def hbm:Hb dr [dr]:=⟨.inr (.inr ⟨rfl,rfl⟩),fO "main"⟩
structure JE (ks:Lr) (rs:List R4):Prop where
 nd:ks.Nodup
 nm:∀k∈ks,ua k=true
 ok:∀r∈rs,r.Ok ks
 lk:ks.length<=3
 lr:rs.length<=62
def YY{a:List R4}(T:JE ks a):Rt (gL ks a) [(dr,[dr])] (a.map λr=>(r.ws,dr)):=by
 refine⟨B5 _ (.head _ hbm (wk7 dr a)) _,λd hw=>?_,by simp,λw hw=>?_,?_,by simp[gL]⟩
 ·rcases aP.mp hw with hw|hw
  ·obtain⟨r,b,rfl⟩:=aK.mp hw;obtain⟨k,c,rfl⟩:=aK.mp b;exact DW (T.nm k c)
  ·rcases av.mp hw with rfl|hw
   ·exact DV
   ·rcases aP.mp hw with hw|hw
    ·obtain⟨r,b,rfl⟩:=aK.mp hw;exact(T.ok r b).gr
    ·simp at hw;subst hw;exact OT
 ·simp at hw;subst hw;exact fO "main"
 ·have:=T.lk;have:=T.lr;simp[gL];omega
def YZ{a:List R4}(T:JE ks a):∃E,E.map (·.2)=(a.map λr=>(r.ws,dr))/\g0 [.str (tx (gL ks a))]=Y (prog (gL ks a) [(dr,[dr])] E):=by
 have o:=T.lk;have n:=T.lr;obtain⟨g,m,l⟩:=Gb (YX ks [] (by simpa using T.nd)) (la:=.list []) (by simp) (λr c=>by obtain⟨k,d,rfl⟩:=aK.mp c;exact DW (T.nm k d)) (by simp;omega) 0;have h:∀k∈ks,k∈(hg ([]++ks.map λk=>(k,([]:Lr)))).map (·.1):=λk d=>by rw[xX];simpa using d
 obtain⟨q,i,p,f⟩:=LQ (K:=ks) (M:=[]) (Fu:=[]) h (b:=⟨dr,[dr],a.map R4.ws⟩) ⟨Sb _,λj hw=>by obtain⟨r,c,rfl⟩:=aK.mp hw;exact(T.ok r c).gr,bk7 a T.ok,hbm,DV⟩ (H:=[]) (by simp) (by simp) (0+((ks.map PY).map mz).length) [] (by simp) (by simp[Bo.txt];omega);have e:((dr==zZ "main"):Bool)=true:=by decide +kernel
 rw[show (({ t:=dr,hd:=[dr],rows:=a.map R4.ws }:Bo).t==zZ "main")=true from e] at f;exact So (YY T) (M:=[]) (Fu:=[]) ⟨by simp,by simp,by simp⟩ i (g.app f)
def gB{g h:MS}{ρ ρ':MR}{μ':MH}(e:g ρ μ=Y (.nx ρ' μ')):fI g h ρ μ=h ρ' μ':=by unfold fI;rw[e];rfl
def sT{ρ:MR}(h:f (uJ ρ)=Y d):fF f ρ μ=Y (.d d,μ):=by unfold fF;rw[h];rfl
def uc{n:Str}{mo m:MF}{ρ:MR}{μ1 μ2 μ':MH}{v r:MV}(d:m ρ μ=Y (v,μ1))(b:mo ρ μ1=Y (r,μ2))(a:Hw c n v r μ2=Y μ'):ie c n mo m ρ μ=Y (.nx ρ μ'):=by unfold ie;rw[d];show (mo ρ μ1).bind _=_;rw[b];show (Hw c n v r μ2).map _=_;rw[a];rfl
def R4.dat:R4->eW
 |.new x k=>js "new" .none (.str x) .none (.str k) .none .none .none [] [.str x]
 |.copy x y=>js "copy" .none (.str x) (.str y) .none .none .none .none [] [.str x,.str y]
 |.tell x=>js "tell" .none (.str x) .none .none .none .none .none [] [.str x]
 |.rest=>js "rest" .none .none .none .none .none .none .none [] []
def R4.ini(r:R4):oB [.dict [(.none,.str (zZ "Row"))],wl r.ws]=Y (.none,r.dat):=by cases r<;>kernel_rfl
theorem n4{α:Type}{T:bb->Option Bool}{C:bb->Od}{b:bb}{G:α->eW}(c:T=λ_=>Y true):∀(l:List α) (a:Nat),(∀(i:Nat) x,l[i]?=Y x->C (Y (zi (a+i:Nat))::b)=Y (G x))->kH T C b ((List.range' a l.length).map λ(i:Nat)=>eW.int (i:Int))=Y (l.map G)
 |[],a,_=>rfl
 |x::l,a,h=>by
  have d:=n4 c l (a+1) λi y e=>by have:=h (i+1) y (by simpa using e);rw[show a+1+i=a+(i+1) by omega];exact this
  have f:=h 0 x rfl;rw[show a+0=a from rfl] at f;rw[c] at d;rw[ao,cU,af];unfold kH;rw[c];simp only[ab,bD,f,d,af]
section
variable {hs:List (Str×Lr)}{ns:List (Lr×Str)}
def JF(E:List sS):fX [prog rows hs E]=Y (zi E.length):=by
 simp? only[fX,nL,zY,Ov]
def OU{E:List sS}{k:Nat}{x:sS}(h:E[k]?=Y x):iA [prog rows hs E,.int (k:Int)]=Y (wl x.2.1):=by
 simp? only[iA,nK,zY,T7 h,YK,LN,Js]
def Sq{E:List sS}{k:Nat}{x:sS}(h:E[k]?=Y x):jz [prog rows hs E,.int (k:Int)]=Y (.str x.2.2):=by
 simp? only[jz,oD,zY,T7 h,YK,at2]
end
section
variable {rs:List R4}{E:List sS}
abbrev iZ(ks:List Str)(rs:List R4)(E:List sS):eW:=prog (gL ks rs) [(dr,[dr])] E
def OV(a:E.map (·.2)=(rs.map λr=>(r.ws,dr))){r:R4}(h:rs[i]?=Y r):∃x,E[i]?=Y x/\x.2=(r.ws,dr):=by
 have:(E.map (·.2))[i]?=Y (r.ws,dr):=by rw[a,az,h];rfl
 rw[az] at this;exact aa.mp this
def JG(a:E.map (·.2)=(rs.map λr=>(r.ws,dr))):E.length=rs.length:=by simpa using bL List.length a
def Sr(c:E.map (·.2)=(rs.map λr=>(r.ws,dr)))(l:rs.length<=62)(ρ:bb)(b:ρ[1]?=Y (Y (iZ ks rs E))):jg (ko (iK "Program" "many_rows" 1 fX (a7 1) f7)) [(1,"program")] lM jY ρ=Y (.list (rs.map R4.dat)):=by
 have k:(iK "Program" "many_rows" 1 fX (a7 1) f7) ρ=Y (zi (rs.length:Nat)):=by
  simp? only[b,OA,JF,JG c]
 have j:=JC (n:=rs.length) (by omega) ρ _ k;rw[DF,j,ab,ah (by rw[sizeLine_eq];simp;omega)];have g:pj [(1,"program")] ρ=[Y (iZ ks rs E)]:=by simp[pj,b]
 rw[g,n4 (T:=lM) (C:=jY) (G:=R4.dat) rfl rs 0 λi r e=>?_]
 ·rfl
 ·obtain⟨x,d,a⟩:=OV c e;have w:=OU (rows:=gL ks rs) (hs:=[(dr,[dr])]) d;rw[a] at w;have h:(iK "Program" "row_words" 2 iA (a7 1) (zQ (a7 0))) [Y (zi (0+i:Nat)),Y (iZ ks rs E)]=Y (wl r.ws):=by
   rw[cT]
   simp? only[R3,w]
  have f:=r.ini;simp only[jY,Oc,xV,DE,h,ab,ao,bZ,f,bD,Nat.reduceAdd]
def OW(c:E.map (·.2)=(rs.map λr=>(r.ws,dr)))(j:rs.length<=62)(ρ:bb)(b:ρ[1]?=Y (Y (iZ ks rs E))):jg (ko (iK "Program" "many_rows" 1 fX (a7 1) f7)) [(1,"program")] lN jZ ρ=Y (.list (rs.map λ_=>.str dr)):=by
 have h:(iK "Program" "many_rows" 1 fX (a7 1) f7) ρ=Y (zi (rs.length:Nat)):=by
  simp? only[b,OA,JF,JG c]
 have g:=JC (n:=rs.length) (by omega) ρ _ h;rw[DF,g,ab,ah (by rw[sizeLine_eq];simp;omega)];have f:pj [(1,"program")] ρ=[Y (iZ ks rs E)]:=by simp[pj,b]
 rw[f,n4 (T:=lN) (C:=jZ) (G:=λ_=>.str dr) rfl rs 0 λi r e=>?_]
 ·rfl
 ·obtain⟨x,d,a⟩:=OV c e;have w:=Sq (rows:=gL ks rs) (hs:=[(dr,[dr])]) d;rw[a] at w;rw[cT]
  simp? only[jZ,VS,w]
end
abbrev pE(k:Str):Str×eW:=(k,.tuple [.none,.list []])
def el0:k9 [.list []]=Y (.tuple [.none,.list []]):=by kernel_rfl
def Ss{H:List (Str×eW)}{k:Str}(h:k∉H.map (·.1))(a:H.length<=900)(p w:Od):hP [p,Y (gD H),Y (wl [zZ "kind",k])]=Y (.nx [p,Y (gD (H++[pE k])),Y (wl [zZ "kind",k])]):=by
 have e:=nN "kind" "kind";have c:=DH (d:=.tuple [.none,.list []]) h a;have b:("kind"=="kind")=true:=by decide
 simp? only[hP,wl,wU,zG,Gv,LN,e,b,YL,VO,el0,c]
def Su(p d:Od):hP [p,d,Y (wl [zZ "main"])]=Y (.bk [p,d,Y (wl [zZ "main"])]):=by
 have b:=nN "main" "kind";have a:("main"=="kind")=false:=by decide
 simp? only[hP,wl,zG,Gv,b,a]
 rfl
theorem JH(p:Od)(a:Lp):∀(b:Lr) (H:List (Str×eW)) (w:Od),(H.map (·.1)++b).Nodup->H.length+b.length<=900 ->
  ∃c,nP (w9 (.one 2)) hP ((b.map λk=>wl [zZ "kind",k])++wl [zZ "main"]::a) [p,Y (gD H),w]=Y (.nx [p,Y (gD (H++b.map pE)),c])
 |[],H,w,_,_=>by refine⟨Y (wl [zZ "main"]),?_⟩;rw[bB,bC,bB,aL];have e:((w9 (.one 2) (wl [zZ "main"]) [p,Y (gD H),w]).bind hP)=Y (.bk [p,Y (gD H),Y (wl [zZ "main"])]):=Su p (Y (gD H));rw[nP,e];rfl
 |k::b,H,w,nd,f=>by
  have g:k∉H.map (·.1):=λz=>by rw[bA] at nd;exact nd.2.2 k z k (by simp) rfl
  obtain⟨c,d⟩:=JH p a b (H++[pE k]) (Y (wl [zZ "kind",k])) (by simpa using nd) (by simp at f ⊢;omega);refine⟨c,?_⟩;rw[af,aR];have e:((w9 (.one 2) (wl [zZ "kind",k]) [p,Y (gD H),w]).bind hP)=Y (.nx [p,Y (gD (H++[pE k])),Y (wl [zZ "kind",k])]):=Ss g (by simp at f;omega) p w;rw[hG e];rw[aJ] at d;exact d
section
variable {rs:List R4}{E:List sS}
def OX(T:JE ks rs):kz [iZ ks rs E]=Y (gD (ks.map pE)):=by
 have c:=JB (YY T) (DN (rows:=gL ks rs) (hs:=[(dr,[dr])]) E);have f:=T.lk;have b:(gL ks rs).map wl=(ks.map λk=>wl [zZ "kind",k])++wl [zZ "main"]::((rs.map R4.ws++[[zZ "end"]]).map wl):=by unfold gL;rw[bf,af,bc,bc];rfl
 obtain⟨e,a⟩:=JH (Y (iZ ks rs E)) ((rs.map R4.ws++[[zZ "end"]]).map wl) ks [] Z (by simpa using T.nd) (by simp;omega);have d:(eW.dict []:eW)=gD []:=rfl;rw[bC] at a
 simp? only[kz,uQ,c,b,d,a]
def OY(T:JE ks rs):iI [iZ ks rs E]=Y (gD [(dr,wl [dr])]):=F3 (YY T) (DN E)
end
def OZ{c:bb->Option Bool}{g:bb->Option gC}{ρ':bb}(h:c ρ=Y true)(e:g ρ=Y (.nx ρ')):om c g (n+1) ρ=om c g n ρ':=by unfold om;rw[h,e];cases n<;>rfl
def O0{c:bb->Option Bool}{g:bb->Option gC}(h:c ρ=Y false):om c g (n+1) ρ=Y (.nx ρ):=by unfold om;rw[h];rfl
def aa2(T k:Od)(l:Lp)(a:Str)(c:(T.bind λt=>mj t (.str a))=Y (.tuple [.none,.list []]))(d:l.length<16777216):i0 [T,k,Y (.list l),Y (.str a)]=Y (.nx [T,k,Y (.list (l++[.str a])),Y .none]):=by
 obtain⟨t,rfl,b⟩:=bind_some c
 simp? only[i0,b,YK,Gv,d]
def Y0{T:eW}{k:Str}(a:mj T (.str k)=Y (.tuple [.none,.list []])):jX [T,.str k]=Y (.list [.str k]):=by
 have c:=aa2 (Y T) (Y (.str k)) [] k a (by simp);have b:CK (fB (d2 jy (a7 3) (dC .none))) i0 [Y T,Y (.str k),Y (.list []),Y (.str k)]=Y (.nx [Y T,Y (.str k),Y (.list [.str k]),Y .none]):=by
  refine(OZ (n:=999999) ?_ c).trans (O0 (n:=999998) ?_)
  ·simp? only[xW]
  ·simp? only[vg]
 simp? only[jX,oX,b]
def Y1{T:eW}{k:Str}(a:mj T (.str k)=Y (.tuple [.none,.list []])):lu [T,.str k]=Y (.list []):=by
 have c:=Y0 a;have b:nP (w9 (.one 3)) kf [.str k] [Y T,Y (.str k),Y (.list []),Z]=Y (.nx [Y T,Y (.str k),Y (.list []),Y (.str k)]):=by
  have:((w9 (.one 3) (.str k) [Y T,Y (.str k),Y (.list []),Z]).bind kf)=Y (.nx [Y T,Y (.str k),Y (.list []),Y (.str k)]):=by
   show kf [Y T,Y (.str k),Y (.list []),Y (.str k)]=_
   simp? only[kf,a,YK,LN]
  rw[hG this];rfl
 simp? only[lu,wH,c,du,List.reverse_nil,b]
def Y2(a:ks.Nodup){k:Str}(h:k∈ks):mj (gD (ks.map pE)) (.str k)=Y (.tuple [.none,.list []]):=by
 have e:(ks.map pE).map (·.1)=ks:=by rw[bc];exact List.map_id ks
 exact Oq (by rw[e];exact a) (aK.mpr ⟨k,h,rfl⟩)
abbrev HD:eW:=gD [(dr,wl [dr])]
abbrev Sv:Key:=.inr dr
abbrev oF4(R a T:eW):List (Str×MV):=[("rows",.d R),("homes",.d a),("table",.d T),("heads",.d HD)]
abbrev oF7(R a T:eW):List (Str×MV):=[("rows",.d R),("homes",.d a),("table",.d T),("heads",.d HD),("params",.l 1),("kept",.l 2),("own_rows",.l 3)]
abbrev oF8(R a T:eW):List (Str×MV):=[("rows",.d R),("homes",.d a),("table",.d T),("heads",.d HD),("params",.l 1),("kept",.l 2),("own_rows",.l 3),("fields",.l 5)]
abbrev O5(R b T:eW)(a:List MV):MH:=[.ins "Outline" (oF7 R b T),.jt [(Sv,.d (.list []))],.jt [(Sv,.d (.list []))],.jt [(Sv,.l 4)],.lst a]
abbrev O6(R c T:eW)(a:List MV)(b:List (Key×MV)):MH:=[.ins "Outline" (oF8 R c T),.jt [(Sv,.d (.list []))],.jt [(Sv,.d (.list []))],.jt [(Sv,.l 4)],.lst a,.jt b]
def Wi(R a T p:eW)(X:MS):(fI (ie "Outline" "params" (cn 0) nJ)
(fI (ie "Outline" "kept" (cn 0) nJ)
(fI (ie "Outline" "own_rows" (cn 0) nJ)
(fI (BI (gm "Outline" "heads" (cn 0)) (.one 2) oY) X)))) [Y (.l 0),zd p,Z,Z,Z] [.ins "Outline" (oF4 R a T)]=X [Y (.l 0),zd p,zd (.str dr),Z,Z] (O5 R a T []):=by kernel_rfl
def Sw{mo m:MF}{ρ:MR}{μ1 μ2:MH}{k:Nat}{v:MV}{xs ys:List MV}(e:mo ρ μ=Y (.l k,μ1))(c:μ1[k]?=Y (.lst ys))(b:m ρ μ1=Y (v,μ2))(a:μ2[k]?=Y (.lst xs))(h:xs.length<16777216):kZ mo m ρ μ=Y (.d .none,μ2.set k (.lst (xs++[v]))):=by
 unfold kZ;rw[e,ab];have:BH μ1 (.l k)=true:=by unfold BH;simp only[c]
 simp only[this,bD,b,ab,Yi,a];rw[ah (by rw[sizeLine_eq];exact h)];rfl
def Wj(R f T p:eW)(a:List MV)(b c e:Option MV)(n:Int)(h:a.length<16777216):((Ai (.many [3,2]) (.d (.tuple [.int n,.str dr])) [Y (.l 0),zd p,b,c,e]).bind λρ=>ik ρ (O5 R f T a))=Y (.nx [Y (.l 0),zd p,zd (.str dr),zd (.int n),e] (O5 R f T (a++[.d (.int n)]))):=by
 have i:(xR (gm "Outline" "own_rows" (cn 0)) (cn 2)) [Y (.l 0),zd p,zd (.str dr),zd (.int n),e] (O5 R f T a)=Y (.l 4,O5 R f T a):=by kernel_rfl
 have g:=Sw (m:=cn 3) (v:=.d (.int n)) i rfl rfl rfl h;show ik [Y (.l 0),zd p,zd (.str dr),zd (.int n),e] (O5 R f T a)=_;unfold ik ij;rw[g];rfl
def n9{a:MV->MR->Option MR}{g:MS}{m:MV}{b:List MV}{ρ ρ1:MR}{μ1:MH}(h:((a m ρ).bind λρ1=>g ρ1 μ)=Y (.nx ρ1 μ1)):mR a g (m::b) ρ μ=mR a g b ρ1 μ1:=by rw[mR,h];rfl
def xD(a n:Nat):Lp:=(List.range' a n).map λ(i:Nat)=>eW.int (i:Int)
theorem JI{α:Type}(R f T p:eW)(e:Option MV):∀(l:List α) (a:Nat) (b c:Option MV) (xs:List MV),xs.length+l.length<=1000 ->
  ∃h g,mR (Ai (.many [3,2])) ik (((l.map λ_=>eW.str dr).zipIdx a).map λx=>MV.d (.tuple [.int x.2,x.1])) [Y (.l 0),zd p,b,c,e] (O5 R f T xs)=Y (.nx [Y (.l 0),zd p,h,g,e] (O5 R f T (xs++(xD a l.length).map .d)))
 |[],a,b,c,xs,_=>⟨b,c,by simp[xD,mR]⟩
 |x::l,a,b,c,xs,hl=>by obtain⟨h,g,i⟩:=JI R f T p e l (a+1) (zd (.str dr)) (zd (.int a)) (xs++[.d (.int a)]) (by simp at hl ⊢;omega);refine⟨h,g,?_⟩;rw[af,eM,af,n9 (Wj R f T p xs b c e a (by simp at hl;omega)),i,aJ];simp[xD,cU]
def Wl(R d T p:eW)(a:List MV)(b c e:Option MV)(X:MS):fI (ie "Outline" "fields" (cn 0) nJ) X [Y (.l 0),zd p,b,c,e] (O5 R d T a)=X [Y (.l 0),zd p,b,c,e] (O6 R d T a []):=by kernel_rfl
def O1{mo mk m:MF}{ρ:MR}{μ1 μ2 μ3:MH}{v kd:MV}{y:Key}{kvs:List (Key×MV)}(e:m ρ μ=Y (v,μ1))(d:mo ρ μ1=Y (.l n,μ2))(c:mk ρ μ2=Y (kd,μ3))(b:(qs kd).bind pq=Y y)(a:μ3[n]?=Y (.jt kvs))(h:kvs.length<16777216):uO mo mk m ρ μ=Y (.nx ρ (μ3.set n (.jt (wG y v kvs)))):=by unfold uO;simp only[e,d,c,ab,Yj,a,sizeLine_eq,h,bD,b,aG]
def wc{y:Key}{v:MV}{kvs:List (Key×MV)}(h:y∉kvs.map (·.1)):wG y v kvs=kvs++[(y,v)]:=by unfold wG;rw[ai];intro z;obtain⟨q,a,e⟩:=List.any_eq_true.mp z;exact h (aK.mpr ⟨q,a,by simpa using e⟩)
abbrev fK(k:Str):Key×MV:=(.inr k,.d (.list []))
theorem JK(R i p:eW)(g:List MV)(b c:Option MV){a:Lr}(j:a.Nodup):∀(ks f:Lr) (e:Option MV),f++ks=a->a.length<=1000 ->
  ∃m,mR (Ai (.one 4)) j0 (ks.map λk=>MV.d (.str k)) [Y (.l 0),zd p,b,c,e] (O6 R i (gD (a.map pE)) g (f.map fK))=Y (.nx [Y (.l 0),zd p,b,c,m] (O6 R i (gD (a.map pE)) g (a.map fK)))
 |[],f,e,h,_=>⟨e,by rw[aL] at h;subst h;rfl⟩
 |k::ks,f,e,h,hl=>by
  obtain⟨m,o⟩:=JK R i p g b c j ks (f++[k]) (zd (.str k)) (by simp[<-h]) hl;refine⟨m,?_⟩;have r:k∈a:=by rw[<-h];simp
  have q:Sum.inr k∉(f.map fK).map (·.1):=by intro z;simp at z;rw[<-h,bA] at j;exact j.2.2 k z k (by simp) rfl
  have x:f.length<=1000:=by have:=bL List.length h;simp at this;omega
  have w:=Y1 (Y2 j r);have v:(KZ 2 lu (c5 (gm "Outline" "table" (cn 0)) (c5 (cn 4) eX))) [Y (.l 0),zd p,b,c,zd (.str k)] (O6 R i (gD (a.map pE)) g (f.map fK))=Y (.d (.list []),O6 R i (gD (a.map pE)) g (f.map fK)):=by
   have:(c5 (gm "Outline" "table" (cn 0)) (c5 (cn 4) eX)) [Y (.l 0),zd p,b,c,zd (.str k)] (O6 R i (gD (a.map pE)) g (f.map fK))=Y ([.d (gD (a.map pE)),.d (.str k)],O6 R i (gD (a.map pE)) g (f.map fK)):=by kernel_rfl
   unfold KZ;rw[this];show (if ([gD (a.map pE),.str k]:Lp).length=2 then (lu [gD (a.map pE),.str k]).map λd=>(MV.d d,O6 R i (gD (a.map pE)) g (f.map fK)) else Z)=_;rw[w];rfl
  have u:gm "Outline" "fields" (cn 0) [Y (.l 0),zd p,b,c,zd (.str k)] (O6 R i (gD (a.map pE)) g (f.map fK))=Y (.l 5,O6 R i (gD (a.map pE)) g (f.map fK)):=by kernel_rfl
  have t:cn 4 [Y (.l 0),zd p,b,c,zd (.str k)] (O6 R i (gD (a.map pE)) g (f.map fK))=Y (.d (.str k),O6 R i (gD (a.map pE)) g (f.map fK)):=rfl;have s:(O6 R i (gD (a.map pE)) g (f.map fK))[5]?=Y (.jt (f.map fK)):=rfl;have n:=O1 v u t (y:=.inr k) rfl s (by simp;omega);rw[wc q] at n;rw[af,n9 (ρ1:=[Y (.l 0),zd p,b,c,zd (.str k)]) (μ1:=O6 R i (gD (a.map pE)) g ((f++[k]).map fK)) ?_,o];rw[bf];exact n
theorem z8{μ:MH}{n:Nat}:∀l:Lp,ia (fg μ (n+1)) (l.map .d)=Y l
 |[]=>rfl
 |x::l=>by have:=z8 (μ:=μ) (n:=n) l;rw[af,ia,this];rfl
theorem O2{μ:MH}{n:Nat}:∀l:Lr,ia (λq:Key×MV=>(fg μ (n+1) q.2).map λy=>(j8 q.1,y)) (l.map fK)=Y (l.map λk=>(.str k,.list []))
 |[]=>rfl
 |x::l=>by have:=O2 (μ:=μ) (n:=n) l;rw[af,ia,this];rfl
def OL(ks:Lr)(a:List R4):eW:=.dict [(.none,.str "Outline"),(.str "rows",.list (a.map R4.dat)),(.str "homes",.list (a.map λ_=>.str dr)),(.str "table",gD (ks.map pE)),(.str "heads",HD),(.str "params",.dict [(.str dr,.list [])]),(.str "kept",.dict [(.str dr,.list [])]),(.str "own_rows",.dict [(.str dr,.list (xD 0 a.length))]),(.str "fields",.dict (ks.map λk=>(.str k,.list [])))]
def Sx(R b T:eW)(l:Lp)(a:Lr):fg (O6 R b T (l.map .d) (a.map fK)) 9 (.l 0)=Y (.dict [(.none,.str "Outline"),(.str "rows",R),(.str "homes",b),(.str "table",T),(.str "heads",HD),(.str "params",.dict [(.str dr,.list [])]),(.str "kept",.dict [(.str dr,.list [])]),(.str "own_rows",.dict [(.str dr,.list l)]),(.str "fields",.dict (a.map λk=>(.str k,.list [])))]):=by
 have i:fg (O6 R b T (l.map .d) (a.map fK)) 7 (.l 4)=Y (.list l):=by show (ia (fg _ 6) (l.map .d)).map eW.list=_;rw[z8];rfl
 have h:fg (O6 R b T (l.map .d) (a.map fK)) 8 (.l 5)=Y (.dict (a.map λk=>(.str k,.list []))):=by show (ia (λq:Key×MV=>(fg _ 7 q.2).map λy=>(j8 q.1,y)) (a.map fK)).map eW.dict=_;rw[O2];rfl
 have g:fg (O6 R b T (l.map .d) (a.map fK)) 8 (.l 3)=Y (.dict [(.str dr,.list l)]):=by show (ia (λq:Key×MV=>(fg _ 7 q.2).map λy=>(j8 q.1,y)) [(Sv,.l 4)]).map eW.dict=_;simp only[ia,i,aG,ab];rfl
 have f:fg (O6 R b T (l.map .d) (a.map fK)) 8 (.l 1)=Y (.dict [(.str dr,.list [])]):=rfl;have e:fg (O6 R b T (l.map .d) (a.map fK)) 8 (.l 2)=Y (.dict [(.str dr,.list [])]):=rfl;show (ia (λq:Str×MV=>(fg (O6 R b T (l.map .d) (a.map fK)) 8 q.2).map λy=>(eW.str q.1,y)) (oF8 R b T)).map (λr=>eW.dict ((.none,.str "Outline")::r))=_;have c:∀x,fg (O6 R b T (l.map .d) (a.map fK)) 8 (.d x)=Y x:=λ_=>rfl;simp only[oF8,ia,h,g,f,e,c,aG,ab]
section
variable {rs:List R4}{E:List sS}
def Sy(T:JE ks rs)(j:E.map (·.2)=(rs.map λr=>(r.ws,dr))):kg [.l 0,.d (iZ ks rs E)] [.ins "Outline" []]=Y (.d .none,O6 (.list (rs.map R4.dat)) (.list (rs.map λ_=>.str dr)) (gD (ks.map pE)) ((xD 0 rs.length).map .d) (ks.map fK)):=by
 have h:=T.lr;have y:=T.lk;have w:=sT (ρ:=[Y (.l 0),zd (iZ ks rs E),Z,Z,Z]) (μ:=[.ins "Outline" []]) (Sr (ks:=ks) j h _ rfl);have v:=sT (ρ:=[Y (.l 0),zd (iZ ks rs E),Z,Z,Z]) (μ:=[.ins "Outline" [("rows",.d (.list (rs.map R4.dat)))]]) (OW (ks:=ks) j h _ rfl);have o:=OX (E:=E) T;have n:=OY (E:=E) T;have u:=sT (f:=jR 1 kz (zQ (a7 1))) (ρ:=[Y (.l 0),zd (iZ ks rs E),Z,Z,Z]) (μ:=[.ins "Outline" [("rows",.d (.list (rs.map R4.dat))),("homes",.d (.list (rs.map λ_=>.str dr)))]]) (d:=gD (ks.map pE)) (by
  show jR 1 kz (zQ (a7 1)) [Z,Y (iZ ks rs E),Z,Z,Z]=_
  simp? only[o])
 have t:=sT (f:=jR 1 iI (zQ (a7 1))) (ρ:=[Y (.l 0),zd (iZ ks rs E),Z,Z,Z]) (μ:=[.ins "Outline" [("rows",.d (.list (rs.map R4.dat))),("homes",.d (.list (rs.map λ_=>.str dr))),("table",.d (gD (ks.map pE)))]]) (d:=HD) (by
  show jR 1 iI (zQ (a7 1)) [Z,Y (iZ ks rs E),Z,Z,Z]=_
  simp? only[n])
 obtain⟨b,c,i⟩:=JI (.list (rs.map R4.dat)) (.list (rs.map λ_=>.str dr)) (gD (ks.map pE)) (iZ ks rs E) Z rs 0 (zd (.str dr)) Z [] (by simp;omega);obtain⟨m,s⟩:=JK (.list (rs.map R4.dat)) (.list (rs.map λ_=>.str dr)) (iZ ks rs E) ((xD 0 rs.length).map .d) b c T.nd ks [] Z rfl (by omega);have g:xc (C6 (gm "Outline" "homes" (cn 0))) (.many [3,2]) ik [Y (.l 0),zd (iZ ks rs E),zd (.str dr),Z,Z] (O5 (.list (rs.map R4.dat)) (.list (rs.map λ_=>.str dr)) (gD (ks.map pE)) [])=Y (.nx [Y (.l 0),zd (iZ ks rs E),b,c,Z] (O5 (.list (rs.map R4.dat)) (.list (rs.map λ_=>.str dr)) (gD (ks.map pE)) ((xD 0 rs.length).map .d))):=by
  rw[bC] at i;rw[<-i];have q:C6 (gm "Outline" "homes" (cn 0)) [Y (.l 0),zd (iZ ks rs E),zd (.str dr),Z,Z] (O5 (.list (rs.map R4.dat)) (.list (rs.map λ_=>.str dr)) (gD (ks.map pE)) [])=Y ((qA (rs.map λ_=>.str dr)).map .d,O5 (.list (rs.map R4.dat)) (.list (rs.map λ_=>.str dr)) (gD (ks.map pE)) []):=by kernel_rfl
  unfold xc;rw[q,ab];show mR _ _ ((((rs.map λ_=>eW.str dr).zipIdx).map λx=>eW.tuple [.int x.2,x.1]).map .d) _ _=_;rw[bc];rfl
 have e:BI (gm "Outline" "table" (cn 0)) (.one 4) j0 [Y (.l 0),zd (iZ ks rs E),b,c,Z] (O6 (.list (rs.map R4.dat)) (.list (rs.map λ_=>.str dr)) (gD (ks.map pE)) ((xD 0 rs.length).map .d) [])=Y (.nx [Y (.l 0),zd (iZ ks rs E),b,c,m] (O6 (.list (rs.map R4.dat)) (.list (rs.map λ_=>.str dr)) (gD (ks.map pE)) ((xD 0 rs.length).map .d) (ks.map fK))):=by
  have q:gm "Outline" "table" (cn 0) [Y (.l 0),zd (iZ ks rs E),b,c,Z] (O6 (.list (rs.map R4.dat)) (.list (rs.map λ_=>.str dr)) (gD (ks.map pE)) ((xD 0 rs.length).map .d) [])=Y (.d (gD (ks.map pE)),O6 (.list (rs.map R4.dat)) (.list (rs.map λ_=>.str dr)) (gD (ks.map pE)) ((xD 0 rs.length).map .d) []):=by kernel_rfl
  unfold BI;rw[q,ab];show (if fZ ((ks.map pE).map λp=>((.str p.1:eW),p.2))=true then Z else (mR _ _ (((ks.map pE).map λp=>((.str p.1:eW),p.2)).map λx=>MV.d x.1) _ _).bind _)=_;rw[vf,ai aF,bc,bc];have a:=s;rw[bB] at a;show (mR (Ai (.one 4)) j0 (ks.map λk=>MV.d (.str k)) _ _).bind _=_;rw[a];rfl
 have hw:lO [Y (.l 0),zd (iZ ks rs E),Z,Z,Z] [.ins "Outline" []]=Y (.nx [Y (.l 0),zd (iZ ks rs E),b,c,m] (O6 (.list (rs.map R4.dat)) (.list (rs.map λ_=>.str dr)) (gD (ks.map pE)) ((xD 0 rs.length).map .d) (ks.map fK))):=by unfold lO;rw[gB (uc w (r:=.l 0) (μ2:=[.ins "Outline" []]) rfl (μ':=[.ins "Outline" [("rows",.d (.list (rs.map R4.dat)))]]) (zK 0))];rw[gB (uc v (r:=.l 0) (μ2:=[.ins "Outline" [("rows",.d (.list (rs.map R4.dat)))]]) rfl (μ':=[.ins "Outline" [("rows",.d (.list (rs.map R4.dat))),("homes",.d (.list (rs.map λ_=>.str dr)))]]) (zK 0))];rw[gB (uc u (r:=.l 0) (μ2:=[.ins "Outline" [("rows",.d (.list (rs.map R4.dat))),("homes",.d (.list (rs.map λ_=>.str dr)))]]) rfl (μ':=[.ins "Outline" [("rows",.d (.list (rs.map R4.dat))),("homes",.d (.list (rs.map λ_=>.str dr))),("table",.d (gD (ks.map pE)))]]) (zK 0))];rw[gB (uc t (r:=.l 0) (μ2:=[.ins "Outline" [("rows",.d (.list (rs.map R4.dat))),("homes",.d (.list (rs.map λ_=>.str dr))),("table",.d (gD (ks.map pE)))]]) rfl (μ':=[.ins "Outline" (oF4 (.list (rs.map R4.dat)) (.list (rs.map λ_=>.str dr)) (gD (ks.map pE)))]) (zK 0))];rw[Wi,gB g,Wl];exact e
 unfold kg hV;show (lO [Y (.l 0),zd (iZ ks rs E),Z,Z,Z] [.ins "Outline" []]).bind _=_;rw[hw];rfl
def Sz(T:JE ks rs)(b:E.map (·.2)=(rs.map λr=>(r.ws,dr)))(a:ρ[1]?=Y (Y (iZ ks rs E))):tN "Outline" 2 kg (zQ (a7 1)) ρ=Y (OL ks rs):=by
 unfold tN
 simp? only[a]
 rw[Sy T b,ab];exact Sx _ _ _ _ _
end
def JL{a:MV->MR->Option MR}{g:MS}{m:MV}{b:List MV}{ρ ρ1:MR}{μ1:MH}(h:((a m ρ).bind λρ1=>g ρ1 μ)=Y (.ct ρ1 μ1)):mR a g (m::b) ρ μ=mR a g b ρ1 μ1:=by rw[mR,h];rfl
def qJ:List R4->Nat->Lp
 |[],_=>[]
 |r::rs,a=>.tuple [.str (zZ r.w),.int (a:Int)]::qJ rs (a+1)
def JM{a:Lr}(g:GR a){ρ:MR}(h:(uJ ρ)[4]?=Y (Y (.str (ln a)))):(hU (fF (xM iW (a7 4) (zC " " f7))) 5) ρ μ=Y (.nx (ρ.set 5 (zd (wl a))) μ):=by
 have c:zZ " "=⟨#[32]⟩:=by decide +kernel
 have b:xM iW (a7 4) (zC " " f7) (uJ ρ)=Y (wl a):=by
  have:=g.split
  simp? only[h,c,ln,this]
 unfold hU;rw[sT b];rfl
abbrev M0:MH:=[.lst [],.lst []]
abbrev M1(xs:List MV):MH:=[.lst [.t [.d (wl [dr]),.l 2]],.lst [.d .none],.lst xs]
abbrev M2(a:List MV):MH:=[.lst [.t [.d (wl [dr]),.l 2]],.lst [],.lst a]
def SA(p:eW){k:Str}(a:ua k=true)(x y z u:Option MV):((Ai (.one 4) (.d (.str (ln [zZ "kind",k]))) [zd p,Y (.l 0),Y (.l 1),zd (.int 0),x,y,z,u]).bind λρ=>fE ρ M0)=Y (.ct [zd p,Y (.l 0),Y (.l 1),zd (.int 0),zd (.str (ln [zZ "kind",k])),zd (wl [zZ "kind",k]),zd (.str (zZ "kind")),u] M0):=by
 have g:=DW a;show fE [zd p,Y (.l 0),Y (.l 1),zd (.int 0),zd (.str (ln [zZ "kind",k])),y,z,u] M0=_;unfold fE;refine(gB (JM g rfl)).trans ?_;generalize ln [zZ "kind",k]=row
 kernel_rfl
def SD(p:eW)(x y z u:Option MV):((Ai (.one 4) (.d (.str (ln [dr]))) [zd p,Y (.l 0),Y (.l 1),zd (.int 0),x,y,z,u]).bind λρ=>fE ρ M0)=Y (.ct [zd p,Y (.l 0),Y (.l 1),zd (.int 0),zd (.str (ln [dr])),zd (wl [dr]),zd (.str dr),u] (M1 [])):=by
 show fE [zd p,Y (.l 0),Y (.l 1),zd (.int 0),zd (.str (ln [dr])),y,z,u] M0=_;unfold fE;refine(gB (JM DV rfl)).trans ?_;generalize ln [dr]=row
 kernel_rfl
def Wm(p:eW)(n:Int)(a:List MV)(x y z u:Option MV):((Ai (.one 4) (.d (.str (ln [zZ "end"]))) [zd p,Y (.l 0),Y (.l 1),zd (.int n),x,y,z,u]).bind λρ=>fE ρ (M1 a))=Y (.nx [zd p,Y (.l 0),Y (.l 1),zd (.int n),zd (.str (ln [zZ "end"])),zd (wl [zZ "end"]),zd (.str (zZ "end")),Y (.t [.d (.str (zZ "end")),.d .none])] (M2 a)):=by
 show fE [zd p,Y (.l 0),Y (.l 1),zd (.int n),zd (.str (ln [zZ "end"])),y,z,u] (M1 a)=_;unfold fE;refine(gB (JM OT rfl)).trans ?_;generalize ln [zZ "end"]=row
 kernel_rfl
def Wn(p:eW){r:R4}(b:r.Ok ks)(n:Nat)(xs:List MV)(h:xs.length<16777216)(x y z u:Option MV):((Ai (.one 4) (.d (.str (ln r.ws))) [zd p,Y (.l 0),Y (.l 1),zd (zi n),x,y,z,u]).bind λρ=>fE ρ (M1 xs))=Y (.nx [zd p,Y (.l 0),Y (.l 1),zd (zi (n+1:Nat)),zd (.str (ln r.ws)),zd (wl r.ws),zd (.str (zZ r.w)),zd (.tuple [.str (zZ r.w),.int (n:Int)])] (M1 (xs++[.d (.tuple [.str (zZ r.w),.int (n:Int)])]))):=by
 show fE [zd p,Y (.l 0),Y (.l 1),zd (zi n),zd (.str (ln r.ws)),y,z,u] (M1 xs)=_;unfold fE;refine(gB (JM b.gr rfl)).trans ?_;generalize ln r.ws=row;refine(gB (ρ':=[zd p,Y (.l 0),Y (.l 1),zd (zi n),zd (.str row),zd (wl r.ws),zd (.str (zZ r.w)),u]) (μ':=M1 xs) (by cases r<;>kernel_rfl)).trans ?_;refine(gB (ρ':=[zd p,Y (.l 0),Y (.l 1),zd (zi n),zd (.str row),zd (wl r.ws),zd (.str (zZ r.w)),u]) (μ':=M1 xs) (by cases r<;>kernel_rfl)).trans ?_;refine(gB (ρ':=[zd p,Y (.l 0),Y (.l 1),zd (zi (n+1:Nat)),zd (.str row),zd (wl r.ws),zd (.str (zZ r.w)),zd (.tuple [.str (zZ r.w),.int (n:Int)])]) (μ':=M1 xs) (by cases r<;>kernel_rfl)).trans ?_;have c:∀{ρ:MR}{μ:MH}{a:MR->MH->Option (Bool×MH)}{g h:MS},a ρ μ=Y (true,μ)->si a g h ρ μ=g ρ μ:=λq=>by unfold si;rw[q];rfl
 rw[c (zK 0)];unfold ij;rw[Sw (k:=2) (μ1:=M1 xs) (μ2:=M1 xs) (xs:=xs) (ys:=xs) (v:=.d (.tuple [.str (zZ r.w),.int (n:Int)])) (zK 0) rfl (zK 0) rfl h];rfl
theorem Gd(p:eW)(a:List MV)(u:Option MV):∀(b:Lr) (x y z:Option MV),(∀k∈b,ua k=true)->∃f e c,mR (Ai (.one 4)) fE ((b.map λk=>MV.d (.str (ln [zZ "kind",k])))++a) [zd p,Y (.l 0),Y (.l 1),zd (.int 0),x,y,z,u] M0=mR (Ai (.one 4)) fE a [zd p,Y (.l 0),Y (.l 1),zd (.int 0),f,e,c,u] M0
 |[],x,y,z,_=>⟨x,y,z,rfl⟩
 |k::b,x,y,z,h=>by obtain⟨f,e,c,g⟩:=Gd p a u b _ _ _ λk i=>h k (by simp[i]);exact⟨f,e,c,by rw[af,aR,JL (SA p (h k (by simp)) x y z u),g]⟩
theorem JN(p:eW){b:Lr}:∀(a:List R4) (n:Nat) (xs:List MV) (x y z u:Option MV),(∀r∈a,r.Ok b)->xs.length+a.length<=1000->∃ρ',mR (Ai (.one 4)) fE ((a.map λr=>MV.d (.str (ln r.ws)))++[.d (.str (ln [zZ "end"]))]) [zd p,Y (.l 0),Y (.l 1),zd (zi n),x,y,z,u] (M1 xs)=Y (.nx (zd p::Y (.l 0)::ρ') (M2 (xs++(qJ a n).map .d)))
 |[],n,xs,x,y,z,u,_,_=>by refine⟨[Y (.l 1),zd (.int n),zd (.str (ln [zZ "end"])),zd (wl [zZ "end"]),zd (.str (zZ "end")),Y (.t [.d (.str (zZ "end")),.d .none])],?_⟩;rw[bB,bC,n9 (Wm p n xs x y z u),qJ,bB,aL];rfl
 |r::a,n,xs,x,y,z,u,ok,hl=>by obtain⟨ρ',c⟩:=JN p a (n+1) (xs++[.d (.tuple [.str (zZ r.w),.int (n:Int)])]) _ _ _ _ (λq e=>ok q (by simp[e])) (by simp at hl ⊢;omega);refine⟨ρ',?_⟩;rw[af,aR,n9 (Wn p (ok r (by simp)) n xs (by simp at hl;omega) x y z u),c,qJ,af,aJ];rfl
section
variable {rs:List R4}{E:List sS}
def MK(rs:List R4):eW:=.list [.tuple [wl [dr],.list (qJ rs 0)]]
def O3(T:JE ks rs):kA [iZ ks rs E]=Y (MK rs):=by
 have n:=T.lr;have o:=T.lk;have H:=YY T;have a:=DN (rows:=gL ks rs) (hs:=[(dr,[dr])]) E;have m:=vh H.gr (by simp[gL];omega) (by simp[gL]);have q:(oV (xM iW (iK "Program" "shown" 1 hJ (a7 0) f7) (zC "\n" f7))) [Y (iZ ks rs E),Z,Z,Y (.int 0),Z,Z,Z,Z]=Y (((gL ks rs).map ln).map .str):=by
  simp? only[a.2,F2 a,m]
 have g:(((gL ks rs).map ln).map eW.str).map MV.d=(ks.map λk=>MV.d (.str (ln [zZ "kind",k])))++(.d (.str (ln [dr]))::((rs.map λr=>MV.d (.str (ln r.ws)))++[.d (.str (ln [zZ "end"]))])):=by unfold gL;simp only[bf,af,bc,bB];rfl
 obtain⟨x,y,z,f⟩:=Gd (iZ ks rs E) (.d (.str (ln [dr]))::((rs.map λr=>MV.d (.str (ln r.ws)))++[.d (.str (ln [zZ "end"]))])) Z ks Z Z Z T.nm;obtain⟨ρ',b⟩:=JN (iZ ks rs E) rs 0 [] (zd (.str (ln [dr]))) (zd (wl [dr])) (zd (.str dr)) Z T.ok (by simp;omega);rw[bC] at b;have e:xc (C3 (oV (xM iW (iK "Program" "shown" 1 hJ (a7 0) f7) (zC "\n" f7)))) (.one 4) fE [zd (iZ ks rs E),Y (.l 0),Y (.l 1),zd (.int 0),Z,Z,Z,Z] M0=Y (.nx (zd (iZ ks rs E)::Y (.l 0)::ρ') (M2 ((qJ rs 0).map .d))):=by
  have c:(C3 (oV (xM iW (iK "Program" "shown" 1 hJ (a7 0) f7) (zC "\n" f7)))) [zd (iZ ks rs E),Y (.l 0),Y (.l 1),zd (.int 0),Z,Z,Z,Z] M0=Y ((((gL ks rs).map ln).map eW.str).map MV.d,M0):=by unfold C3;rw[show uJ [zd (iZ ks rs E),Y (.l 0),Y (.l 1),zd (.int 0),Z,Z,Z,Z]=[Y (iZ ks rs E),Z,Z,Y (.int 0),Z,Z,Z,Z] from rfl,q];rfl
  unfold xc;rw[c,ab];show mR _ _ ((((gL ks rs).map ln).map eW.str).map MV.d) _ _=_;rw[g,f,JL (SD _ _ _ _ _)];exact b
 have hw:nU [zd (iZ ks rs E),Z,Z,Z,Z,Z,Z,Z] []=Y (.rt (.l 0) (M2 ((qJ rs 0).map .d))):=by unfold nU;rw[gB (ρ':=[zd (iZ ks rs E),Y (.l 0),Z,Z,Z,Z,Z,Z]) (μ':=[.lst []]) rfl];rw[gB (ρ':=[zd (iZ ks rs E),Y (.l 0),Y (.l 1),Z,Z,Z,Z,Z]) (μ':=M0) rfl];rw[gB (ρ':=[zd (iZ ks rs E),Y (.l 0),Y (.l 1),zd (.int 0),Z,Z,Z,Z]) (μ':=M0) rfl];rw[gB e];rfl
 unfold kA yS;show (nU [zd (iZ ks rs E),Z,Z,Z,Z,Z,Z,Z] []).bind _=_;rw[hw,ab];have j:fg (M2 ((qJ rs 0).map .d)) 7 (.l 2)=Y (.list (qJ rs 0)):=by show (ia (fg _ 6) ((qJ rs 0).map .d)).map eW.list=_;rw[z8];rfl
 have i:fg (M2 ((qJ rs 0).map .d)) 8 (.t [.d (wl [dr]),.l 2])=Y (.tuple [wl [dr],.list (qJ rs 0)]):=by show (ia (fg (M2 ((qJ rs 0).map .d)) 7) [.d (wl [dr]),.l 2]).map eW.tuple=_;have h:fg (M2 ((qJ rs 0).map .d)) 7 (.d (wl [dr]))=Y (wl [dr]):=rfl;simp only[ia,h,j,ab,aG]
 show (ia (fg (M2 ((qJ rs 0).map .d)) 8) [.t [.d (wl [dr]),.l 2]]).map eW.list=_;simp only[ia,i,ab,aG];rfl
end
def sU(n m:Nat):eW:=if m=n then .none else .int (m:Int)
def bh(n m:Nat):List (Key×MV):=((List.range' m (n - m)).reverse).map λ(i:Nat)=>(Sum.inl (i:Int),MV.d (sU n (i+1)))
def Wo(n:Nat):bh n n=[]:=by simp[bh]
def SE{m:Nat}(h:m<n):bh n m=bh n (m+1)++[(Sum.inl (m:Int),MV.d (sU n (m+1)))]:=by unfold bh;rw[show n - m=(n - (m+1))+1 by omega,cU,du,bf];rfl
def Wq(n m:Nat):(bh n m).length=n - m:=by simp[bh]
def Wr(n m:Nat):(Sum.inl (m:Int):Key)∉(bh n (m+1)).map (·.1):=by intro z;obtain⟨q,a,e⟩:=aK.mp z;obtain⟨i,b,rfl⟩:=aK.mp a;rw[dJ,eC] at b;simp at e;omega
theorem Ge(r:R4):∀(b:List R4) (a:Nat),qJ (b++[r]) a=qJ b a++[.tuple [.str (zZ r.w),.int ((a+b.length:Nat):Int)]]
 |[],a=>rfl
 |x::b,a=>by rw[aR,qJ,Ge r b (a+1),qJ,aR,ao,show a+1+b.length=a+(b.length+1) by omega]
abbrev Y3(b a:List (Key×MV)):MH:=[.ins "Flow" [("first",.l 1),("behind",.l 2),("otherwise",.l 3)],.jt [],.jt b,.jt a,.lst []]
abbrev FH(a:List (Key×MV)):MH:=Y3 a a
def z9{ρ:MR}{μ':MH}{g h:MS}(q:gc ρ μ=Y (true,μ')):si gc g h ρ μ=g ρ μ':=by unfold si;rw[q];rfl
def qb{ρ:MR}{μ':MH}{g h:MS}(q:gc ρ μ=Y (false,μ')):si gc g h ρ μ=h ρ μ':=by unfold si;rw[q];rfl
def SF(r:R4)(i:Nat)(a:List (Key×MV))(f:eW)(b:(Sum.inl (i:Int):Key)∉a.map (·.1))(g:a.length<=1000)(P x y:Option MV):((Ai (.many [4,5]) (.d (.tuple [.str (zZ r.w),.int (i:Int)])) [Y (.l 0),P,zd f,Y (.l 4),x,y]).bind λρ=>iB ρ (FH a))=Y (.nx [Y (.l 0),P,zd (zi i),Y (.l 4),zd (.str (zZ r.w)),zd (zi i)] (FH (a++[(Sum.inl (i:Int),.d f)]))):=by show iB [Y (.l 0),P,zd f,Y (.l 4),zd (.str (zZ r.w)),zd (zi i)] (FH a)=_;unfold iB;rw[qb (μ':=FH a) (by cases r<;>kernel_rfl),qb (μ':=FH a) (by cases r<;>kernel_rfl)];have e:=O1 (mo:=gm "Flow" "behind" (cn 0)) (mk:=cn 5) (m:=cn 2) (ρ:=[Y (.l 0),P,zd f,Y (.l 4),zd (.str (zZ r.w)),zd (zi i)]) (μ:=FH a) (μ1:=FH a) (μ2:=FH a) (μ3:=FH a) (n:=2) (v:=.d f) (kd:=.d (zi i)) (y:=Sum.inl (i:Int)) (kvs:=a) rfl (zK 0) rfl rfl rfl (by omega);rw[wc b] at e;have c:=O1 (mo:=gm "Flow" "otherwise" (cn 0)) (mk:=cn 5) (m:=cn 2) (ρ:=[Y (.l 0),P,zd f,Y (.l 4),zd (.str (zZ r.w)),zd (zi i)]) (μ:=Y3 (a++[(Sum.inl (i:Int),.d f)]) a) (μ1:=Y3 (a++[(Sum.inl (i:Int),.d f)]) a) (μ2:=Y3 (a++[(Sum.inl (i:Int),.d f)]) a) (μ3:=Y3 (a++[(Sum.inl (i:Int),.d f)]) a) (n:=3) (v:=.d f) (kd:=.d (zi i)) (y:=Sum.inl (i:Int)) (kvs:=a) rfl (zK 0) rfl rfl rfl (by omega);rw[wc b] at c;refine(gB e).trans ((gB c).trans ?_);refine(gB (ρ':=[Y (.l 0),P,zd f,Y (.l 4),zd (.str (zZ r.w)),zd (zi i)]) (μ':=FH (a++[(Sum.inl (i:Int),.d f)])) ?_).trans rfl;exact qb (μ':=FH (a++[(Sum.inl (i:Int),.d f)])) (by cases r<;>kernel_rfl)
theorem JO(P:Option MV)(n:Nat)(g:n<=900):∀(a:List R4) (x y:Option MV),a.length<=n->∃c b,mR (Ai (.many [4,5])) iB (((qJ a.reverse 0).reverse).map .d) [Y (.l 0),P,zd (sU n a.length),Y (.l 4),x,y] (FH (bh n a.length))=Y (.nx [Y (.l 0),P,zd (sU n 0),Y (.l 4),c,b] (FH (bh n 0)))
 |[],x,y,_=>⟨x,y,rfl⟩
 |r::a,x,y,hl=>by rw[ao] at hl;obtain⟨c,b,f⟩:=JO P n g a (zd (.str (zZ r.w))) (zd (zi a.length)) (by omega);refine⟨c,b,?_⟩;have e:=SF r a.length (bh n (a.length+1)) (sU n (a.length+1)) (Wr n a.length) (by rw[Wq];omega) P x y;rw[<-SE (by omega)] at e;rw[du,Ge,List.reverse_append,du,List.reverse_nil,bC,aR,bC,af,dW,cT,ao,n9 e,<-f];rw[show sU n a.length=.int (a.length:Int) by unfold sU;rw[ai (by omega)]]
def Y4{rs:List R4}(a:rs.length<=62):jk [.l 0,.d (.list (qJ rs 0))] [.ins "Flow" [("first",.l 1),("behind",.l 2),("otherwise",.l 3)],.jt [],.jt [],.jt []]=Y (.d (sU rs.length 0),FH (bh rs.length 0)):=by
 obtain⟨x,y,h⟩:=JO (zd (.list (qJ rs 0))) rs.length (by omega) rs.reverse Z Z (by simp);rw[dW,Wo,List.reverse_reverse] at h;have e:sU rs.length rs.length=.none:=ah rfl;rw[e] at h;unfold jk hV;have hw:kB [Y (.l 0),zd (.list (qJ rs 0)),Z,Z,Z,Z] [.ins "Flow" [("first",.l 1),("behind",.l 2),("otherwise",.l 3)],.jt [],.jt [],.jt []]=Y (.rt (.d (sU rs.length 0)) (FH (bh rs.length 0))):=by unfold kB;refine(gB (ρ':=[Y (.l 0),zd (.list (qJ rs 0)),zd .none,Z,Z,Z]) (μ':=[.ins "Flow" [("first",.l 1),("behind",.l 2),("otherwise",.l 3)],.jt [],.jt [],.jt []]) rfl).trans ?_;refine(gB (ρ':=[Y (.l 0),zd (.list (qJ rs 0)),zd .none,Y (.l 4),Z,Z]) (μ':=FH []) rfl).trans ?_;exact(gB h).trans rfl
 show (kB [Y (.l 0),zd (.list (qJ rs 0)),Z,Z,Z,Z] _).bind _=_;rw[hw];rfl
abbrev F0:MH:=[.ins "Flow" [("first",.l 1),("behind",.l 2),("otherwise",.l 3)],.jt [],.jt [],.jt []]
abbrev FE(n:Nat):MH:=[.ins "Flow" [("first",.l 1),("behind",.l 2),("otherwise",.l 3)],.jt [(Sv,.d (sU n 0))],.jt (bh n 0),.jt (bh n 0),.lst []]
def O4(n:Nat):List (eW×eW):=((List.range' 0 n).reverse).map λ(i:Nat)=>(.int (i:Int),sU n (i+1))
def FL(n:Nat):eW:=.dict [(.none,.str "Flow"),(.str "first",.dict [(.str dr,sU n 0)]),(.str "behind",.dict (O4 n)),(.str "otherwise",.dict (O4 n))]
theorem O7{μ:MH}{k:Nat}(g:Nat->eW):∀l:List Nat,ia (λq:Key×MV=>(fg μ (k+1) q.2).map λy=>(j8 q.1,y)) (l.map λ(i:Nat)=>(Sum.inl (i:Int),MV.d (g i)))=Y (l.map λ(i:Nat)=>(.int (i:Int),g i))
 |[]=>rfl
 |x::l=>by have:=O7 (μ:=μ) (k:=k) g l;rw[af,ia,this];rfl
def JP{k j:Nat}(h:μ[j]?=Y (.jt (bh n 0))):fg μ (k+2) (.l j)=Y (.dict (O4 n)):=by show (μ[j]?).bind _=_;rw[h,ab];show (ia (λq:Key×MV=>(fg μ (k+1) q.2).map λy=>(j8 q.1,y)) (bh n 0)).map eW.dict=_;unfold bh;rw[O7];rfl
section
variable {rs:List R4}{E:List sS}
def SG(T:JE ks rs):mT [.l 0,.d (iZ ks rs E)] [.ins "Flow" []]=Y (.d .none,FE rs.length):=by
 have f:=O3 (E:=E) T;have g:=Y4 (rs:=rs) T.lr;have q:C3 (oV (jR 1 kA (zQ (a7 1)))) [Y (.l 0),zd (iZ ks rs E),Z,Z] F0=Y ([.d (.tuple [wl [dr],.list (qJ rs 0)])],F0):=by
  have:oV (jR 1 kA (zQ (a7 1))) [Z,Y (iZ ks rs E),Z,Z]=Y [.tuple [wl [dr],.list (qJ rs 0)]]:=by
   simp? only[f,MK]
  unfold C3;rw[show uJ [Y (.l 0),zd (iZ ks rs E),Z,Z]=[Z,Y (iZ ks rs E),Z,Z] from rfl,this];rfl
 have c:lP [Y (.l 0),zd (iZ ks rs E),zd (wl [dr]),zd (.list (qJ rs 0))] F0=Y (.nx [Y (.l 0),zd (iZ ks rs E),zd (wl [dr]),zd (.list (qJ rs 0))] (FE rs.length)):=by
  unfold lP;have j:gN "Flow" "join_rows" 2 jk (cn 0) (c5 (cn 3) eX) [Y (.l 0),zd (iZ ks rs E),zd (wl [dr]),zd (.list (qJ rs 0))] F0=Y (.d (sU rs.length 0),FH (bh rs.length 0)):=by
   unfold gN;have i:uM "Flow" "join_rows" F0 (.l 0)=true:=by kernel_rfl
   have b:cn 0 [Y (.l 0),zd (iZ ks rs E),zd (wl [dr]),zd (.list (qJ rs 0))] F0=Y (.l 0,F0):=rfl;have a:(c5 (cn 3) eX) [Y (.l 0),zd (iZ ks rs E),zd (wl [dr]),zd (.list (qJ rs 0))] F0=Y ([.d (.list (qJ rs 0))],F0):=rfl;simp only[b,i,a,ab,bD,ao,bZ,Nat.reduceAdd];exact g
  have h:=O1 (mo:=gm "Flow" "first" (cn 0)) (mk:=fF (jR 1 gv (zQ (a7 2)))) j (μ2:=FH (bh rs.length 0)) (n:=1) (zK 0) (μ3:=FH (bh rs.length 0)) (kd:=.d (.str dr)) (y:=Sv) (zK 0) rfl (kvs:=[]) rfl (by simp);exact h
 have hw:oZ [Y (.l 0),zd (iZ ks rs E),Z,Z] [.ins "Flow" []]=Y (.nx [Y (.l 0),zd (iZ ks rs E),zd (wl [dr]),zd (.list (qJ rs 0))] (FE rs.length)):=by unfold oZ;refine(gB (ρ':=[Y (.l 0),zd (iZ ks rs E),Z,Z]) (μ':=[.ins "Flow" [("first",.l 1)],.jt []]) (by generalize iZ ks rs E=p;kernel_rfl)).trans ?_;refine(gB (ρ':=[Y (.l 0),zd (iZ ks rs E),Z,Z]) (μ':=[.ins "Flow" [("first",.l 1),("behind",.l 2)],.jt [],.jt []]) (by generalize iZ ks rs E=p;kernel_rfl)).trans ?_;refine(gB (ρ':=[Y (.l 0),zd (iZ ks rs E),Z,Z]) (μ':=F0) (by generalize iZ ks rs E=p;kernel_rfl)).trans ?_;unfold xc;rw[q,ab];have e:((Ai (.many [2,3]) (.d (.tuple [wl [dr],.list (qJ rs 0)])) [Y (.l 0),zd (iZ ks rs E),Z,Z]).bind λρ=>lP ρ F0)=Y (.nx [Y (.l 0),zd (iZ ks rs E),zd (wl [dr]),zd (.list (qJ rs 0))] (FE rs.length)):=c;show mR _ _ [.d (.tuple [wl [dr],.list (qJ rs 0)])] _ F0=_;rw[n9 e];rfl
 unfold mT hV;show (oZ [Y (.l 0),zd (iZ ks rs E),Z,Z] _).bind _=_;rw[hw];rfl
def SI(T:JE ks rs)(a:ρ[1]?=Y (Y (iZ ks rs E))):tN "Flow" 2 mT (zQ (a7 1)) ρ=Y (FL rs.length):=by
 unfold tN
 simp? only[a]
 rw[SG T,ab];have d:fg (FE rs.length) 8 (.l 1)=Y (.dict [(.str dr,sU rs.length 0)]):=rfl;have c:fg (FE rs.length) 8 (.l 2)=Y (.dict (O4 rs.length)):=JP rfl;have b:fg (FE rs.length) 8 (.l 3)=Y (.dict (O4 rs.length)):=JP rfl;show (ia (λq:Str×MV=>(fg (FE rs.length) 8 q.2).map λy=>(eW.str q.1,y)) [("first",.l 1),("behind",.l 2),("otherwise",.l 3)]).map (λr=>eW.dict ((.none,.str "Flow")::r))=_;simp only[ia,d,c,b,aG,ab];rfl
end
theorem O8(g:Nat->eW){i:Nat}:∀l:List Nat,i∈l->jb (zi i) (l.map λ(j:Nat)=>(.int (j:Int),g j))=Y (g i)
 |[],h=>by simp at h
 |x::l,h=>by
  rw[af,jb];by_cases q:x=i
  ·rw[ah (by show decide ((x:Int)=(i:Int))=true;exact aW (by omega)),q]
  ·rw[ai (by show ¬ decide ((x:Int)=(i:Int))=true;exact λz=>q (by have:=cq z;omega))];refine O8 g l ?_;rcases av.mp h with e|e
   ·exact absurd e.symm q
   ·exact e
def Ws(g:Nat->eW)(l:List Nat):fZ (l.map λ(j:Nat)=>((.int (j:Int):eW),g j))=false:=by cases l<;>rfl
abbrev PZ(a x:Nat):MO:=.ins "Thing" [("row",.d (zi x)),("path",.d (.tuple [])),("form",.d (.str "record")),("slots",.l (a+1)),("members",.l (a+2))]
def TH:Nat->List Nat->MH
 |_,[]=>[]
 |a,x::xs=>PZ a x::.jt []::.lst []::TH (a+3) xs
def n3:Nat->List Nat->List MV
 |_,[]=>[]
 |a,_::xs=>.l a::n3 (a+3) xs
noncomputable def TD(x:Nat):eW:=.dict [(.none,.str "Thing"),(.str "row",.int (x:Int)),(.str "path",.tuple []),(.str "form",.str "record"),(.str "slots",.dict []),(.str "members",.list [])]
theorem JQ(x:Nat):∀(b:List Nat) (a:Nat),TH a (b++[x])=TH a b++[PZ (a+3*b.length) x,.jt [],.lst []]
 |[],a=>rfl
 |y::b,a=>by rw[aR,TH,JQ x b (a+3),TH,ao,show a+3+3*b.length=a+3*(b.length+1) by omega];rfl
theorem Aa(x:Nat):∀(b:List Nat) (a:Nat),n3 a (b++[x])=n3 a b++[.l (a+3*b.length)]
 |[],a=>rfl
 |y::b,a=>by rw[aR,n3,Aa x b (a+3),n3,ao,show a+3+3*b.length=a+3*(b.length+1) by omega];rfl
theorem O9:∀(b:List Nat) (a:Nat),(TH a b).length=3*b.length
 |[],_=>rfl
 |y::b,a=>by rw[TH,ao,ao,ao,O9 b,ao];omega
theorem xZ:∀(b:List Nat) (a:Nat),(n3 a b).length=b.length
 |[],_=>rfl
 |y::b,a=>by rw[n3,ao,xZ b,ao]
theorem DX{k:Nat}:∀(a:List Nat) (pre:MH),ia (fg (pre++TH pre.length a) (k+3)) (n3 pre.length a)=Y (a.map TD)
 |[],_=>rfl
 |x::a,pre=>by
  have c:=DX (k:=k) a (pre++[PZ pre.length x,.jt [],.lst []]);rw[bp,aJ] at c;rw[show pre.length+[PZ pre.length x,.jt [],.lst []].length=pre.length+3 from rfl] at c;rw[TH,n3,ia,af];have e:pre++(PZ pre.length x::.jt []::.lst []::TH (pre.length+3) a)=pre++([PZ pre.length x,.jt [],.lst []]++TH (pre.length+3) a):=rfl;rw[e,c];generalize b:pre++([PZ pre.length x,.jt [],.lst []]++TH (pre.length+3) a)=μ;have n:μ[pre.length]?=Y (PZ pre.length x):=by rw[<-b,aD (aA _)];simp
  have m:μ[pre.length+1]?=Y (.jt []):=by rw[<-b,aD (by omega)];simp
  have j:μ[pre.length+2]?=Y (.lst []):=by rw[<-b,aD (by omega)];simp
  have h:fg μ (k+2) (.l (pre.length+1))=Y (.dict []):=by rw[fg,m];rfl
  have g:fg μ (k+2) (.l (pre.length+2))=Y (.list []):=by rw[fg,j];rfl
  have f:∀d,fg μ (k+2) (.d d)=Y d:=λ_=>rfl;have i:fg μ (k+3) (.l pre.length)=Y (TD x):=by rw[fg,n,ab];show (ia (λq:Str×MV=>(fg μ (k+2) q.2).map λy=>(eW.str q.1,y)) [("row",.d (zi x)),("path",.d (.tuple [])),("form",.d (.str "record")),("slots",.l (pre.length+1)),("members",.l (pre.length+2))]).map (λr=>eW.dict ((.none,.str "Thing")::r))=_;simp only[ia,f,h,g,aG,ab];rfl
  rw[i];rfl
abbrev tv(j:Nat):eW:=.tuple [.str "thing",.int (j:Int)]
abbrev kP(p:Str×Nat):Key×MV:=(.inr p.1,.d (tv p.2))
abbrev Y5(N:List (Str×Nat)):eW:=.dict (N.map λp=>(.str p.1,tv p.2))
abbrev FG(a B:eW):eW:=.dict [(.none,.str "Flow"),(.str "first",.dict [(.str dr,a)]),(.str "behind",B),(.str "otherwise",B)]
abbrev B6(O F:eW)(f:Int)(a:eW):List (Str×MV):=[("outline",.d O),("flow",.d F),("inputs",.d (.list [])),("used",.d (.int 0)),("fuel",.d (.int f)),("stack",.l 2),("made",.l 3),("shown_texts",.l 4),("ended",.d a)]
abbrev SX(O F:eW)(f:Int)(en:eW)(b md tl:List MV)(a:eW)(c:List (Key×MV))(W:MH):MH:=.ins "Machine" [("state",.l 1)]::.ins "State" (B6 O F f en)::.lst b::.lst md::.lst tl::.ins "Call" [("body",.d (.str dr)),("path",.d (.tuple [])),("row",.d a),("named",.l 6)]::.jt c::W
def SH(O F:eW)(f:Int)(en:eW)(c:List MV)(b:List Nat)(tl:Lp)(a:eW)(N:List (Str×Nat)):MH:=SX O F f en c (n3 7 b) (tl.map .d) a (N.map kP) (TH 7 b)
local macro_rules
| `(wX $k $r $f $n $t $w $z) => `(SH (OL $k $r) (FL ($r).length) $f .none [.l 5] $n $t $w $z)
def CD(a:eW)(N:List (Str×Nat)):eW:=.dict [(.none,.str "Call"),(.str "body",.str dr),(.str "path",.tuple []),(.str "row",a),(.str "named",Y5 N)]
noncomputable def SV(O F:eW)(f:Int)(en:eW)(st md tl:Lp):eW:=.dict [(.none,.str "State"),(.str "outline",O),(.str "flow",F),(.str "inputs",.list []),(.str "used",.int 0),(.str "fuel",.int f),(.str "stack",.list st),(.str "made",.list md),(.str "shown_texts",.list tl),(.str "ended",en)]
theorem DY{μ:MH}{k:Nat}:∀N:List (Str×Nat),ia (λq:Key×MV=>(fg μ (k+1) q.2).map λy=>(j8 q.1,y)) (N.map kP)=Y (N.map λp=>(.str p.1,tv p.2))
 |[]=>rfl
 |x::l=>by have:=DY (μ:=μ) (k:=k) l;rw[af,ia,this];rfl
def DZ(O F:eW)(f:Int)(g:eW)(b:Bool)(c:List Nat)(e:Lp)(a:eW)(N:List (Str×Nat)):fg (SH O F f g (if b then [.l 5] else []) c e a N) 9 (.l 1)=Y (SV O F f g (if b then [CD a N] else []) (c.map TD) e):=by
 have j:fg (SH O F f g (if b then [.l 5] else []) c e a N) 6 (.l 6)=Y (Y5 N):=by show (ia (λq:Key×MV=>(fg _ 5 q.2).map λy=>(j8 q.1,y)) (N.map kP)).map eW.dict=_;rw[DY];rfl
 have n:fg (SH O F f g (if b then [.l 5] else []) c e a N) 8 (.l 3)=Y (.list (c.map TD)):=by show (ia (fg _ 7) (n3 7 c)).map eW.list=_;have:=DX (k:=4) c [.ins "Machine" [("state",.l 1)],.ins "State" (B6 O F f g),.lst (if b then [.l 5] else []),.lst (n3 7 c),.lst (e.map .d),.ins "Call" [("body",.d (.str dr)),("path",.d (.tuple [])),("row",.d a),("named",.l 6)],.jt (N.map kP)];have t:ia (fg (SH O F f g (if b then [.l 5] else []) c e a N) 7) (n3 7 c)=Y (c.map TD):=this;rw[t];rfl
 have m:fg (SH O F f g (if b then [.l 5] else []) c e a N) 8 (.l 4)=Y (.list e):=by show (ia (fg _ 7) (e.map .d)).map eW.list=_;rw[z8];rfl
 have i:fg (SH O F f g (if b then [.l 5] else []) c e a N) 7 (.l 5)=Y (CD a N):=by show (ia (λq:Str×MV=>(fg (SH O F f g (if b then [.l 5] else []) c e a N) 6 q.2).map λy=>(eW.str q.1,y)) [("body",.d (.str dr)),("path",.d (.tuple [])),("row",.d a),("named",.l 6)]).map (λr=>eW.dict ((.none,.str "Call")::r))=_;have h:∀d,fg (SH O F f g (if b then [.l 5] else []) c e a N) 6 (.d d)=Y d:=λ_=>rfl;simp only[ia,h,j,aG,ab];rfl
 have o:fg (SH O F f g (if b then [.l 5] else []) c e a N) 8 (.l 2)=Y (.list (if b then [CD a N] else [])):=by
  show (ia (fg (SH O F f g (if b then [.l 5] else []) c e a N) 7) (if b then [.l 5] else [])).map eW.list=_;cases b with
  |false=>rfl
  |true=>simp only[bD] at i ⊢;simp only[ia,i,ab,aG]
 show (ia (λq:Str×MV=>(fg (SH O F f g (if b then [.l 5] else []) c e a N) 8 q.2).map λy=>(eW.str q.1,y)) (B6 O F f g)).map (λr=>eW.dict ((.none,.str "State")::r))=_;have h:∀d,fg (SH O F f g (if b then [.l 5] else []) c e a N) 8 (.d d)=Y d:=λ_=>rfl;simp only[B6,ia,h,o,n,m,aG,ab];rfl
def Ab{c:MR->MH->Option (Bool×MH)}{g:MS}{ρ ρ':MR}{μ' μ'':MH}(h:c ρ μ=Y (true,μ'))(e:g ρ μ'=Y (.nx ρ' μ'')):mu c g (n+1) ρ μ=mu c g n ρ' μ'':=by unfold mu;rw[h];simp only[ab,bD,e];cases n<;>rfl
def vl{c:MR->MH->Option (Bool×MH)}{g:MS}{ρ:MR}{μ':MH}(h:c ρ μ=Y (false,μ')):mu c g (n+1) ρ μ=Y (.nx ρ μ'):=by unfold mu;rw[h];rfl
section
variable (O F:eW) (f:Int) (en:eW) (ns:List Nat) (tl:Lp) (row:eW) (N:List (Str×Nat))
def Ac:fg (SH O F f en [.l 5] ns tl row N) 9 (.l 1)=Y (SV O F f en [CD row N] (ns.map TD) tl):=DZ O F f en true ns tl row N
def Ua:fg (SH O F f en [] ns tl row N) 9 (.l 1)=Y (SV O F f en [] (ns.map TD) tl):=DZ O F f en false ns tl row N
def P0{ρ:MR}{b:Bool}(h:g (pX μ ρ)=Y b):gk g ρ μ=Y (b,μ):=by unfold gk;rw[h];rfl
abbrev ecT:bb->Option Bool:=qO (vp (fJ ["State"] "stack" (a7 0))) (fB (d2 qR (fJ ["Call"] "row" (iK "State" "top" 1 ro (a7 0) f7)) (dC .none)))
def Wt(i:Int)(a:Lp):ecT [Y (SV O F f en [CD (.int i) N] a tl)]=Y false:=by kernel_rfl
def SJ(a:Lp):ecT [Y (SV O F f en [CD .none N] a tl)]=Y true:=by kernel_rfl
def SK(a:Lp):ecT [Y (SV O F f en [] a tl)]=Y false:=by kernel_rfl
def vr1(h:fg μ 9 (.l 1)=Y d):pX μ [Y (.l 1)]=[Y d]:=by show [(Y (MV.l 1)).bind (fg μ 9)]=_;rw[ab,h]
def Y6(i:Int):iL [.l 1] (SH O F f en [.l 5] ns tl (.int i) N)=Y (.d .none,SH O F f en [.l 5] ns tl (.int i) N):=by
 unfold iL hV;have:mV [Y (.l 1)] (SH O F f en [.l 5] ns tl (.int i) N)=Y (.nx [Y (.l 1)] (SH O F f en [.l 5] ns tl (.int i) N)) :=
  vl (n:=999999) (P0 (by rw[vr1 (Ac O F f en ns tl (.int i) N)];exact Wt O F f en tl N i _))
 show (mV [Y (.l 1)] _).bind _=_;rw[this];rfl
def Ip:oG [.l 1,.d .none] (SH O F f en [.l 5] ns tl .none N)=Y (.d .none,SH O F f (.tuple [.str "given",.str "none"]) [] ns tl .none N):=by
 unfold oG hV;have:qu [Y (.l 1),zd .none,Z] (SH O F f en [.l 5] ns tl .none N)=Y (.rt (.d .none) (SH O F f (.tuple [.str "given",.str "none"]) [] ns tl .none N)):=by
  unfold qu;refine(gB (ρ':=[Y (.l 1),zd .none,Z]) (μ':=SH O F f en [] ns tl .none N) (by unfold SH;generalize n3 7 ns=a;generalize TH 7 ns=b;generalize N.map kP=c;generalize tl.map MV.d=e;kernel_rfl)).trans ?_;have vr:pX (SH O F f en [] ns tl .none N) [Y (.l 1),zd .none,Z]=[Y (SV O F f en [] (ns.map TD) tl),Y .none,Z]:=by show [(Y (MV.l 1)).bind (fg _ 9),Y .none,Z]=_;rw[ab,Ua]
  have b1:gk (sD (vp (fJ ["State"] "stack" (a7 0)))) [Y (.l 1),zd .none,Z] (SH O F f en [] ns tl .none N)=Y (true,SH O F f en [] ns tl .none N):=P0 (by rw[vr];generalize ns.map TD=md;kernel_rfl);have b2:(lp (lz (zC "given" (zQ (jR 2 gz (gq (a7 0) (zQ (a7 1)))))))) [Y (.l 1),zd .none,Z] (SH O F f en [] ns tl .none N)=Y (.d (.tuple [.str "given",.str "none"]),SH O F f en [] ns tl .none N):=by
   unfold lp;rw[vr];have:(lz (zC "given" (zQ (jR 2 gz (gq (a7 0) (zQ (a7 1))))))) [Y (SV O F f en [] (ns.map TD) tl),Y .none,Z]=Y (.tuple [.str "given",.str "none"]):=by generalize ns.map TD=md;kernel_rfl
   rw[this];rfl
  have b3:=uc (c:="State") (n:="ended") (mo:=cn 0) b2 (r:=.l 1) (μ2:=SH O F f en [] ns tl .none N) rfl (μ':=SH O F f (.tuple [.str "given",.str "none"]) [] ns tl .none N) (by unfold SH;generalize n3 7 ns=a;generalize TH 7 ns=b;generalize N.map kP=c;generalize tl.map MV.d=e;kernel_rfl);have b4:(si (gk (sD (vp (fJ ["State"] "stack" (a7 0))))) (fI (ie "State" "ended" (cn 0) (lp (lz (zC "given" (zQ (jR 2 gz (gq (a7 0) (zQ (a7 1))))))))) (λ_ μ=>Y (.rt (.d .none) μ))) oO) [Y (.l 1),zd .none,Z] (SH O F f en [] ns tl .none N)=Y (.rt (.d .none) (SH O F f (.tuple [.str "given",.str "none"]) [] ns tl .none N)):=by rw[z9 b1,gB b3]
  show ((si _ _ oO) _ _).bind _=_;rw[b4];rfl
 show (qu [Y (.l 1),zd .none,Z] _).bind _=_;rw[this];rfl
def Wu:iL [.l 1] (SH O F f en [.l 5] ns tl .none N)=Y (.d .none,SH O F f (.tuple [.str "given",.str "none"]) [] ns tl .none N):=by
 unfold iL hV;have a:oH [Y (.l 1)] (SH O F f en [.l 5] ns tl .none N)=Y (.nx [Y (.l 1)] (SH O F f (.tuple [.str "given",.str "none"]) [] ns tl .none N)):=by unfold oH ij Hv;have:(c5 (cn 0) (c5 (fF (dC .none)) eX)) [Y (.l 1)] (SH O F f en [.l 5] ns tl .none N)=Y ([.l 1,.d .none],SH O F f en [.l 5] ns tl .none N):=rfl;rw[this,ab];show (oG [.l 1,.d .none] _).map _=_;rw[Ip];rfl
 have:mV [Y (.l 1)] (SH O F f en [.l 5] ns tl .none N)=Y (.nx [Y (.l 1)] (SH O F f (.tuple [.str "given",.str "none"]) [] ns tl .none N)) :=
  (Ab (n:=999999) (P0 (by rw[vr1 (Ac O F f en ns tl .none N)];exact SJ O F f en tl N _)) a).trans (vl (n:=999998) (P0 (by rw[vr1 (Ua O F f _ ns tl .none N)];exact SK O F f _ tl _)))
 show (mV [Y (.l 1)] _).bind _=_;rw[this];rfl
end
abbrev qc:eW:=.tuple [.str "given",.str "none"]
def ST(O F:eW)(n:Nat)(f:Int)(i:Nat)(b:List Nat)(a:Lp)(N:List (Str×Nat)):MH:=if i=n then SH O F f qc [] b a .none N else SH O F f .none [.l 5] b a (zi i) N
def Ub(O F:eW)(n:Nat)(f:Int)(i:Nat)(b:List Nat)(a:Lp)(N:List (Str×Nat)):iL [.l 1] (SH O F f .none [.l 5] b a (sU n i) N)=Y (.d .none,ST O F n f i b a N):=by
 unfold sU ST;by_cases h:i=n
 ·rw[ah h,ah h];exact Wu O F f .none b a N
 ·rw[ai h,ai h];exact Y6 O F f .none b a N i
def Y7(O a B:eW)(f:Int):mU [.l 1,.d (.str dr),.d (.tuple [])] [.ins "Machine" [("state",.l 1)],.ins "State" (B6 O (FG a B) f .none),.lst [],.lst [],.lst []]=Y (.l 5,SH O (FG a B) f .none [.l 5] [] [] a []):=by kernel_rfl
section
variable {rs:List R4}{E:List sS}
def SM(O F p:eW)(f:Int):(fI (ie "State" "inputs" (cn 0) (fF (lj kM (zQ (a7 2)))))
(fI (ie "State" "used" (cn 0) (fF (zI 0)))
(fI (ie "State" "fuel" (cn 0) (cn 3))
(fI (ie "State" "stack" (cn 0) oy)
(fI (ie "State" "made" (cn 0) oy)
(fI (ie "State" "shown_texts" (cn 0) oy)
(ie "State" "ended" (cn 0) (fF (dC .none))))))))) [Y (.l 1),zd p,zd (.list []),zd (.int f)] [.ins "Machine" [],.ins "State" [("outline",.d O),("flow",.d F)]]=Y (.nx [Y (.l 1),zd p,zd (.list []),zd (.int f)] [.ins "Machine" [],.ins "State" (B6 O F f .none),.lst [],.lst [],.lst []]):=by kernel_rfl
def SN(T:JE ks rs)(a:E.map (·.2)=(rs.map λr=>(r.ws,dr)))(f:Int):kC [.l 1,.d (iZ ks rs E),.d (.list []),.d (.int f)] [.ins "Machine" [],.ins "State" []]=Y (.d .none,[.ins "Machine" [],.ins "State" (B6 (OL ks rs) (FL rs.length) f .none),.lst [],.lst [],.lst []]):=by
 have c:=sT (ρ:=[Y (.l 1),zd (iZ ks rs E),zd (.list []),zd (.int f)]) (μ:=[.ins "Machine" [],.ins "State" []]) (Sz T a (ρ:=[Z,Y (iZ ks rs E),Y (.list []),Y (.int f)]) rfl);have b:=sT (ρ:=[Y (.l 1),zd (iZ ks rs E),zd (.list []),zd (.int f)]) (μ:=[.ins "Machine" [],.ins "State" [("outline",.d (OL ks rs))]]) (SI T (ρ:=[Z,Y (iZ ks rs E),Y (.list []),Y (.int f)]) rfl);have hw:nV [Y (.l 1),zd (iZ ks rs E),zd (.list []),zd (.int f)] [.ins "Machine" [],.ins "State" []]=Y (.nx [Y (.l 1),zd (iZ ks rs E),zd (.list []),zd (.int f)] [.ins "Machine" [],.ins "State" (B6 (OL ks rs) (FL rs.length) f .none),.lst [],.lst [],.lst []]):=by unfold nV;rw[gB (uc c (r:=.l 1) (μ2:=[.ins "Machine" [],.ins "State" []]) rfl (μ':=[.ins "Machine" [],.ins "State" [("outline",.d (OL ks rs))]]) (by generalize OL ks rs=o;kernel_rfl))];rw[gB (uc b (r:=.l 1) (μ2:=[.ins "Machine" [],.ins "State" [("outline",.d (OL ks rs))]]) rfl (μ':=[.ins "Machine" [],.ins "State" [("outline",.d (OL ks rs)),("flow",.d (FL rs.length))]]) (by generalize OL ks rs=o;generalize FL rs.length=o';kernel_rfl))];exact SM _ _ _ _
 unfold kC hV;show (nV [Y (.l 1),zd (iZ ks rs E),zd (.list []),zd (.int f)] _).bind _=_;rw[hw];rfl
def Wv(T:JE ks rs)(c:E.map (·.2)=(rs.map λr=>(r.ws,dr)))(f:Int):jl [.l 0,.d (iZ ks rs E),.d (.list []),.d (.int f)] [.ins "Machine" []]=Y (.d .none,ST (OL ks rs) (FL rs.length) rs.length f 0 [] [] []):=by
 have b:=SN T c f;have i:rm "State" 4 kC (c5 (cn 1) (c5 (cn 2) (c5 (cn 3) eX))) [Y (.l 0),zd (iZ ks rs E),zd (.list []),zd (.int f)] [.ins "Machine" []]=Y (.l 1,[.ins "Machine" [],.ins "State" (B6 (OL ks rs) (FL rs.length) f .none),.lst [],.lst [],.lst []]):=by unfold rm;have:(c5 (cn 1) (c5 (cn 2) (c5 (cn 3) eX))) [Y (.l 0),zd (iZ ks rs E),zd (.list []),zd (.int f)] [.ins "Machine" []]=Y ([.d (iZ ks rs E),.d (.list []),.d (.int f)],[.ins "Machine" []]):=rfl;rw[this,ab];show (kC [.l 1,.d (iZ ks rs E),.d (.list []),.d (.int f)] [.ins "Machine" [],.ins "State" []]).bind _=_;rw[b];rfl
 have hw:lQ [Y (.l 0),zd (iZ ks rs E),zd (.list []),zd (.int f)] [.ins "Machine" []]=Y (.nx [Y (.l 0),zd (iZ ks rs E),zd (.list []),zd (.int f)] (ST (OL ks rs) (FL rs.length) rs.length f 0 [] [] [])):=by
  unfold lQ;rw[gB (uc i (r:=.l 0) (μ2:=[.ins "Machine" [],.ins "State" (B6 (OL ks rs) (FL rs.length) f .none),.lst [],.lst [],.lst []]) rfl (μ':=[.ins "Machine" [("state",.l 1)],.ins "State" (B6 (OL ks rs) (FL rs.length) f .none),.lst [],.lst [],.lst []]) (by generalize OL ks rs=o;generalize FL rs.length=o';kernel_rfl))];have h:(Hv 3 mU (c5 (gm "Machine" "state" (cn 0)) (c5 (fF (zA "main")) (c5 (fF (lz f7)) eX)))) [Y (.l 0),zd (iZ ks rs E),zd (.list []),zd (.int f)] [.ins "Machine" [("state",.l 1)],.ins "State" (B6 (OL ks rs) (FL rs.length) f .none),.lst [],.lst [],.lst []]=Y (.l 5,SH (OL ks rs) (FL rs.length) f .none [.l 5] [] [] (sU rs.length 0) []):=by
   unfold Hv;have:(c5 (gm "Machine" "state" (cn 0)) (c5 (fF (zA "main")) (c5 (fF (lz f7)) eX))) [Y (.l 0),zd (iZ ks rs E),zd (.list []),zd (.int f)] [.ins "Machine" [("state",.l 1)],.ins "State" (B6 (OL ks rs) (FL rs.length) f .none),.lst [],.lst [],.lst []]=Y ([.l 1,.d (.str dr),.d (.tuple [])],[.ins "Machine" [("state",.l 1)],.ins "State" (B6 (OL ks rs) (FL rs.length) f .none),.lst [],.lst [],.lst []]):=by generalize iZ ks rs E=p;generalize OL ks rs=o;generalize FL rs.length=o';kernel_rfl
   rw[this,ab];exact Y7 (OL ks rs) (sU rs.length 0) (.dict (O4 rs.length)) f
  have g:=Ub (OL ks rs) (FL rs.length) rs.length f 0 [] [] [];have e:(Hv 1 iL (c5 (gm "Machine" "state" (cn 0)) eX)) [Y (.l 0),zd (iZ ks rs E),zd (.list []),zd (.int f)] (wX ks rs f [] [] (sU rs.length 0) [])=Y (.d .none,ST (OL ks rs) (FL rs.length) rs.length f 0 [] [] []):=by
   unfold Hv;have:(c5 (gm "Machine" "state" (cn 0)) eX) [Y (.l 0),zd (iZ ks rs E),zd (.list []),zd (.int f)] (wX ks rs f [] [] (sU rs.length 0) [])=Y ([.l 1],SH (OL ks rs) (FL rs.length) f .none [.l 5] [] [] (sU rs.length 0) []):=by generalize iZ ks rs E=p;generalize OL ks rs=o;generalize FL rs.length=o';generalize sU rs.length 0=j;kernel_rfl
   rw[this,ab];exact g
  have a:ij (Hv 3 mU (c5 (gm "Machine" "state" (cn 0)) (c5 (fF (zA "main")) (c5 (fF (lz f7)) eX)))) [Y (.l 0),zd (iZ ks rs E),zd (.list []),zd (.int f)] [.ins "Machine" [("state",.l 1)],.ins "State" (B6 (OL ks rs) (FL rs.length) f .none),.lst [],.lst [],.lst []]=Y (.nx [Y (.l 0),zd (iZ ks rs E),zd (.list []),zd (.int f)] (wX ks rs f [] [] (sU rs.length 0) [])):=by unfold ij;rw[h];rfl
  rw[gB a];unfold ij;rw[e];rfl
 unfold jl hV;show (lQ [Y (.l 0),zd (iZ ks rs E),zd (.list []),zd (.int f)] _).bind _=_;rw[hw];rfl
end
theorem R4.word(r:R4):gG ["Row"] "word" r.dat=Y (.str (zZ r.w)):=by cases r<;>kernel_rfl
def Gf(x k:Str):gG ["Row"] "kind" (R4.dat (.new x k))=Y (.str k):=by kernel_rfl
def Ww(x k:Str):qR (R4.dat (.new x k)) .none=Y (.bool false):=by kernel_rfl
section
variable {rs:List R4}
def D0:gG ["Outline"] "rows" (OL ks rs)=Y (.list (rs.map R4.dat)):=by kernel_rfl
def Y8:kL "Outline" "made_by" (OL ks rs)=true:=by kernel_rfl
def Y9:kL "Outline" "made_kind" (OL ks rs)=true:=by kernel_rfl
def D1{q:Nat}{r:R4}(h:rs[q]?=Y r):pJ (rs.map R4.dat) (q:Int)=Y r.dat:=rZ (by rw[az,h];rfl)
def SO(g a:eW->eW->Od)(e d c:bb->Od)(ρ:bb){x y z:eW}(k:e ρ=Y x)(j:d ρ=Y y)(i:g x y=Y (.bool true))(h:c ρ=Y z){b:Bool}(f:a y z=Y (.bool b)):qp g a e d c ρ=Y b:=by unfold qp;simp only[k,j,i,h,f,ab,qp.QR,bD]
def Wx{q:Nat}{k:Str}(h:rs[q]?=Y (.new x k)):j3 [OL ks rs,.int (q:Int),.str (zZ "new")]=Y (R4.dat (.new x k)):=by
 have e:=(ay.mp h).1;have d:(zN (fJ ["Outline"] "rows" (a7 0))) [Y (OL ks rs),Y (zi q),Y (.str (zZ "new"))]=Y (zi rs.length):=by
  have:mO [.list (rs.map R4.dat)]=Y (.int ((rs.map R4.dat).length:Int)):=rfl
  simp? only[D0,this,aC]
 have c:=SO qo An (zI 0) (a7 1) (zN (fJ ["Outline"] "rows" (a7 0))) [Y (OL ks rs),Y (zi q),Y (.str (zZ "new"))] rfl rfl (x:=.int 0) (by show Y (eW.bool (decide ((0:Int)<=q)))=_;rw[aW (by omega)]) d (b:=true) (by show Y (eW.bool (decide ((q:Int)<rs.length)))=_;rw[aW (by omega)]);have w:=R4.word (.new x k);have a:kJ (.str (zZ (R4.w (.new x k)))) (.str (zZ "new"))=Y (.bool true):=iR "new" "new"
 simp? only[j3,o2,c,D0,zG,D1 h,w,a]
def Wy{q:Nat}{k:Str}(h:rs[q]?=Y (.new x k)):je [OL ks rs,.int (q:Int)]=Y (.str k):=by
 have a:=Wx (ks:=ks) h
 simp? only[je,nM,Y8,a,Ww,Gf]
variable {F:eW}{f:Int}{en:eW}{st:Lp}{ns:List Nat}{tl:Lp}{O:eW}{md:Lp}
def Pa:gG ["State"] "outline" (SV O F f en st md tl)=Y O:=by kernel_rfl
def JR:gG ["State"] "made" (SV O F f en st md tl)=Y (.list md):=by kernel_rfl
def Pb:gG ["State"] "stack" (SV O F f en st md tl)=Y (.list st):=by kernel_rfl
def Za:kL "State" "kind_of" (SV O F f en st md tl)=true:=by kernel_rfl
def Uc:kL "State" "value_of" (SV O F f en st md tl)=true:=by kernel_rfl
def Wz(x:Nat):gG ["Call","Thing"] "row" (TD x)=Y (zi x):=by kernel_rfl
def Zb(a:eW)(N:List (Str×Nat)):gG ["Call"] "named" (CD a N)=Y (Y5 N):=by kernel_rfl
def Ud(j:Nat):qR (tv j) .none=Y (.bool false):=by kernel_rfl
def WA(k:Str):jy (.str k) .none=Y (.bool true):=by kernel_rfl
def Zc{j q:Nat}{k:Str}(b:ns[j]?=Y q)(h:rs[q]?=Y (.new x k)):k0 [SV (OL ks rs) F f en st (ns.map TD) tl,tv j]=Y (.str k):=by
 have e:=Wy (ks:=ks) h;have a:=Ud j;have d:pJ (ns.map TD) (j:Int)=Y (TD q):=rZ (by rw[az,b];rfl);have c:kJ (.str (zZ "thing")) (.str (zZ "mark"))=Y (.bool false):=iR "thing" "mark";simp only[tv] at a ⊢
 simp? only[k0,qE,a,YK,Gv,LN,c,Pa,JR,Y9,zG,d,Wz,e]
def Zd{j q:Nat}{k:Str}(a:ns[j]?=Y q)(h:rs[q]?=Y (.new x k)):gz [SV (OL ks rs) F f en st (ns.map TD) tl,tv j]=Y (.str k):=by
 have d:=Zc (ks:=ks) (F:=F) (f:=f) (en:=en) (st:=st) (tl:=tl) a h;have c:=Ud j;have b:=WA k
 simp? only[gz,tj,Za,c,d,b]
def SQ(d:eW):gz [d,.none]=Y (.str "none"):=by kernel_rfl
def look(x:Str):List (Str×Nat)->Option Nat
 |[]=>Z
 | (y,j)::r=>if y=x then Y j else look x r
theorem B7(x:Str):∀N:List (Str×Nat),jb (.str x) (N.map λp=>(.str p.1,tv p.2))=(look x N).map tv
 |[]=>rfl
 | (y,j)::r=>by
  rw[af,jb,look];by_cases q:y=x
  ·rw[ah (by show decide (y=x)=true;exact aW q),ah q];rfl
  ·rw[ai (by show ¬ decide (y=x)=true;exact λz=>q (cq z)),ai q];exact B7 x r
def Ue(a:eW)(N:List (Str×Nat))(x:Str):gF [SV O F f en [CD a N] md tl,.str x]=Y (((look x N).map tv).getD .none):=by
 have c:nq (Y5 N) (.str x)=Y (((look x N).map tv).getD .none):=by show (if fZ _=true then Z else Y ((jb (.str x) _).getD .none))=_;rw[ai (by cases N<;>simp[fZ]),B7]
 have b:pJ [CD a N] (-1)=Y (CD a N):=rfl
 simp? only[gF,p0,Pb,zG,b,Zb,c]
end
def we(x:Str)(j:Nat)(N:List (Str×Nat)):List (Str×Nat):=if (N.any λp=>decide (p.1=x))=true then N.map (λp=>if p.1=x then (p.1,j) else p) else N++[(x,j)]
def qK(x:Str)(N:List (Str×Nat)):List (Str×Nat):=N.filter λp=>decide (p.1≠x)
def Iq{a b:Str}:((Sum.inr a:Key)=Sum.inr b)=(a=b):=by simp
def SR(x:Str)(j:Nat)(N:List (Str×Nat)):wG (.inr x) (.d (tv j)) (N.map kP)=(we x j N).map kP:=by
 unfold wG we;have e:((N.map kP).any λa=>decide (a.1=Sum.inr x))=N.any λp=>decide (p.1=x):=by
  rw[List.any_map]
  congr 1
  funext p
  show decide ((Sum.inr p.1:Key)=Sum.inr x)=_;simp only[Iq]
 rw[e];split
 ·rw[bc,bc];refine dX λp _=>?_;show (if (Sum.inr p.1:Key)=Sum.inr x then _ else _)=kP (if p.1=x then _ else _);simp only[Iq];split<;>rfl
 ·rw[bf];rfl
def Pc(x:Str)(N:List (Str×Nat)):yO (.inr x) (N.map kP)=(qK x N).map kP:=by
 unfold yO qK;rw[List.filter_map]
 congr 1
 refine List.filter_congr λp _=>?_;show decide ((Sum.inr p.1:Key)≠Sum.inr x)=_;simp only[ne_eq,Iq]
def SS(x:Str)(N:List (Str×Nat))(h:tf (.inr x) (N.map kP)=Z):qK x N=N:=by unfold qK;rw[List.filter_eq_self];intro p a;refine aW λz=>?_;unfold tf at h;rw[Option.map_eq_none_iff,List.find?_eq_none] at h;exact h (kP p) (aK.mpr ⟨p,a,rfl⟩) (by simp[z])
section
variable (O F:eW) (f:Int) (en:eW) (st md tl:List MV) (row:eW) (N:List (Str×Nat)) (W:MH) (x:Str)
def Pd(j:Nat)(b:N.length<16777216):f6 [.l 5,.d (.str x),.d (tv j)] (SX O F f en st md tl row (N.map kP) W)=Y (.d .none,SX O F f en st md tl row ((we x j N).map kP) W):=by
 have a:=O1 (mo:=gm "Call" "named" (cn 0)) (mk:=cn 1) (m:=cn 2) (ρ:=[Y (.l 5),zd (.str x),zd (tv j)]) (μ:=SX O F f en st md tl row (N.map kP) W) (μ1:=SX O F f en st md tl row (N.map kP) W) (μ2:=SX O F f en st md tl row (N.map kP) W) (μ3:=SX O F f en st md tl row (N.map kP) W) (n:=6) (v:=.d (tv j)) (kd:=.d (.str x)) (y:=.inr x) (kvs:=N.map kP) rfl (zK 0) rfl rfl rfl (by simpa using b);rw[SR] at a;have hw:hW [Y (.l 5),zd (.str x),zd (tv j)] (SX O F f en st md tl row (N.map kP) W)=Y (.nx [Y (.l 5),zd (.str x),zd (tv j)] (SX O F f en st md tl row ((we x j N).map kP) W)):=by unfold hW;rw[qb (μ':=SX O F f en st md tl row (N.map kP) W) (zK 0)];exact a
 unfold f6 hV;show (hW [Y (.l 5),zd (.str x),zd (tv j)] _).bind _=_;rw[hw];rfl
def SU:f6 [.l 5,.d (.str x),.d .none] (SX O F f en st md tl row (N.map kP) W)=Y (.d .none,SX O F f en st md tl row ((qK x N).map kP) W):=by
 have a:∃v,Je (gm "Call" "named" (cn 0)) (cn 1) (fF (dC .none)) [Y (.l 5),zd (.str x),zd .none] (SX O F f en st md tl row (N.map kP) W)=Y (v,SX O F f en st md tl row ((qK x N).map kP) W):=by
  have i:gm "Call" "named" (cn 0) [Y (.l 5),zd (.str x),zd .none] (SX O F f en st md tl row (N.map kP) W)=Y (.l 6,SX O F f en st md tl row (N.map kP) W):=by kernel_rfl
  have h:cn 1 [Y (.l 5),zd (.str x),zd .none] (SX O F f en st md tl row (N.map kP) W)=Y (.d (.str x),SX O F f en st md tl row (N.map kP) W):=rfl;have g:fF (dC .none) [Y (.l 5),zd (.str x),zd .none] (SX O F f en st md tl row (N.map kP) W)=Y (.d .none,SX O F f en st md tl row (N.map kP) W):=rfl;have e:Rh (SX O F f en st md tl row (N.map kP) W) (.l 6)=true:=rfl;have c:(SX O F f en st md tl row (N.map kP) W)[6]?=Y (.jt (N.map kP)):=rfl;have b:(qs (.d (.str x))).bind pq=Y (.inr x):=rfl;unfold Je;simp only[i,h,g,e,c,b,ab,bD];cases q:tf (.inr x) (N.map kP) with
  |some v=>refine⟨v,?_⟩;rw[Pc];rfl
  |none=>refine⟨.d .none,?_⟩;rw[SS x N q]
 obtain⟨v,a⟩:=a;have hw:hW [Y (.l 5),zd (.str x),zd .none] (SX O F f en st md tl row (N.map kP) W)=Y (.nx [Y (.l 5),zd (.str x),zd .none] (SX O F f en st md tl row ((qK x N).map kP) W)):=by unfold hW;rw[z9 (μ':=SX O F f en st md tl row (N.map kP) W) (zK 0)];unfold ij;rw[a];rfl
 unfold f6 hV;show (hW [Y (.l 5),zd (.str x),zd .none] _).bind _=_;rw[hw];rfl
def D2(a:List (Key×MV))(ρ:MR)(h:ρ[0]?=Y (Y (.l 1))):gN "State" "top" 1 gg (cn 0) eX ρ (SX O F f en [.l 5] md tl row a W)=Y (.l 5,SX O F f en [.l 5] md tl row a W):=by
 have b:cn 0 ρ (SX O F f en [.l 5] md tl row a W)=Y (.l 1,SX O F f en [.l 5] md tl row a W):=by unfold cn;rw[h];rfl
 unfold gN;rw[b,ab]
 kernel_rfl
end
def vm{n:Str}{v:MV}{b:List (Str×MV)}(μ a:MH)(h:b.length<1000):Hw c n v (.l μ.length) (μ++.ins c b::a)=Y (μ++.ins c (EZ n v b)::a):=by
 unfold Hw;have:(μ++.ins c b::a)[μ.length]?=Y (.ins c b):=by simp
 simp only[this,ab,true_and,h,bD];simp
def SW(μ:MH)(r p q:eW):kD [.l μ.length,.d r,.d p,.d q] (μ++[.ins "Thing" []])=Y (.d .none,μ++[.ins "Thing" [("row",.d r),("path",.d p),("form",.d q),("slots",.l (μ.length+1)),("members",.l (μ.length+2))],.jt [],.lst []]):=by
 have hw:nW [Y (.l μ.length),zd r,zd p,zd q] (μ++[.ins "Thing" []])=Y (.nx [Y (.l μ.length),zd r,zd p,zd q] (μ++[.ins "Thing" [("row",.d r),("path",.d p),("form",.d q),("slots",.l (μ.length+1)),("members",.l (μ.length+2))],.jt [],.lst []])):=by
  unfold nW;refine(gB (uc (v:=.d r) (μ1:=μ++[.ins "Thing" []]) rfl (r:=.l μ.length) (μ2:=μ++[.ins "Thing" []]) rfl (μ':=μ++[.ins "Thing" [("row",.d r)]]) (vm μ [] (by simp)))).trans ?_;refine(gB (uc (v:=.d p) (μ1:=μ++[.ins "Thing" [("row",.d r)]]) rfl (r:=.l μ.length) (μ2:=μ++[.ins "Thing" [("row",.d r)]]) rfl (μ':=μ++[.ins "Thing" [("row",.d r),("path",.d p)]]) ((vm μ [] (by simp)).trans (zK 0)))).trans ?_;refine(gB (uc (v:=.d q) (μ1:=μ++[.ins "Thing" [("row",.d r),("path",.d p)]]) rfl (r:=.l μ.length) (μ2:=μ++[.ins "Thing" [("row",.d r),("path",.d p)]]) rfl (μ':=μ++[.ins "Thing" [("row",.d r),("path",.d p),("form",.d q)]]) ((vm μ [] (by simp)).trans (zK 0)))).trans ?_;have b:nJ [Y (.l μ.length),zd r,zd p,zd q] (μ++[.ins "Thing" [("row",.d r),("path",.d p),("form",.d q)]])=Y (.l (μ.length+1),μ++[.ins "Thing" [("row",.d r),("path",.d p),("form",.d q)],.jt []]):=by unfold nJ;rw[bp,aJ];rfl
  refine(gB (uc b (r:=.l μ.length) (μ2:=μ++[.ins "Thing" [("row",.d r),("path",.d p),("form",.d q)],.jt []]) rfl (μ':=μ++[.ins "Thing" [("row",.d r),("path",.d p),("form",.d q),("slots",.l (μ.length+1))],.jt []]) ((vm μ [.jt []] (by simp)).trans (zK 0)))).trans ?_;have a:oy [Y (.l μ.length),zd r,zd p,zd q] (μ++[.ins "Thing" [("row",.d r),("path",.d p),("form",.d q),("slots",.l (μ.length+1))],.jt []])=Y (.l (μ.length+2),μ++[.ins "Thing" [("row",.d r),("path",.d p),("form",.d q),("slots",.l (μ.length+1))],.jt [],.lst []]):=by unfold oy;rw[bp,aJ];rfl
  exact uc a (r:=.l μ.length) (μ2:=μ++[.ins "Thing" [("row",.d r),("path",.d p),("form",.d q),("slots",.l (μ.length+1))],.jt [],.lst []]) rfl ((vm μ [.jt [],.lst []] (by simp)).trans (zK 0))
 unfold kD hV;show (nW [Y (.l μ.length),zd r,zd p,zd q] _).bind _=_;rw[hw];rfl
section
variable {rs:List R4} (F:eW) (f:Int) (ns:List Nat) (tl:Lp) (row:eW) (N:List (Str×Nat)) (i:Int)
def vr3(O d:eW)(c:eW):pX (SH O F f .none [.l 5] ns tl row N) [Y (.l 1),zd d,zd c]=[Y (SV O F f .none [CD row N] (ns.map TD) tl),Y d,Y c]:=by show [(Y (MV.l 1)).bind (fg _ 9),Y d,Y c]=_;rw[ab,Ac]
def WB(x:Str):gG ["Row"] "x" (R4.dat (.tell x))=Y (.str x):=by kernel_rfl
def WC(x y:Str):gG ["Row"] "x" (R4.dat (.copy x y))=Y (.str x):=by kernel_rfl
def WD(x y:Str):gG ["Row"] "y" (R4.dat (.copy x y))=Y (.str y):=by kernel_rfl
def Ze(x k:Str):gG ["Row"] "x" (R4.dat (.new x k))=Y (.str x):=by kernel_rfl
def SY(O:eW){s:Str}(hs:gz [SV O F f .none [CD row N] (ns.map TD) tl,((look x N).map tv).getD .none]=Y (.str s))(hl:tl.length<16777216):p3 [.l 1,.d (R4.dat (.tell x)),.d (.int i)] (SH O F f .none [.l 5] ns tl row N)=Y (.d .none,SH O F f .none [.l 5] ns (tl++[.str s]) row N):=by
 have b2:(lp (jR 2 gz (gq (a7 0) (zQ (iK "State" "value_of" 2 gF (a7 0) (zQ (fJ ["Row"] "x" (a7 1)))))))) [Y (.l 1),zd (R4.dat (.tell x)),zd (.int i)] (SH O F f .none [.l 5] ns tl row N)=Y (.d (.str s),SH O F f .none [.l 5] ns tl row N):=by
  unfold lp;rw[vr3];have e1:=Ue (O:=O) (F:=F) (f:=f) (en:=.none) (md:=ns.map TD) (tl:=tl) row N x;have e2:=WB x
  simp? only[Uc,e2,e1,hs]
  rfl
 have a1:=Sw (mo:=gm "State" "shown_texts" (cn 0)) (ρ:=[Y (.l 1),zd (R4.dat (.tell x)),zd (.int i)]) (μ:=SH O F f .none [.l 5] ns tl row N) (μ1:=SH O F f .none [.l 5] ns tl row N) (k:=4) (ys:=tl.map .d) (by unfold SH;generalize n3 7 ns=a;generalize TH 7 ns=b;generalize N.map kP=c;generalize tl.map MV.d=e;generalize R4.dat (.tell x)=g;kernel_rfl) rfl b2 (xs:=tl.map .d) rfl (by simpa using hl);have hw:so [Y (.l 1),zd (R4.dat (.tell x)),zd (.int i)] (SH O F f .none [.l 5] ns tl row N)=Y (.nx [Y (.l 1),zd (R4.dat (.tell x)),zd (.int i)] (SH O F f .none [.l 5] ns (tl++[.str s]) row N)):=by unfold so ij;rw[a1];unfold SH;rw[bf];rfl
 unfold p3 hV;show (so [Y (.l 1),zd (R4.dat (.tell x)),zd (.int i)] _).bind _=_;rw[hw];rfl
def tu(x y:Str)(N:List (Str×Nat)):List (Str×Nat):=match look y N with
 |some j=>we x j N
 |none=>qK x N
def S0(O:eW)(x y:Str)(m:N.length<16777216):p1 [.l 1,.d (R4.dat (.copy x y)),.d (.int i)] (SH O F f .none [.l 5] ns tl row N)=Y (.d .none,SH O F f .none [.l 5] ns tl row (tu x y N)):=by
 have p:(lp (iK "State" "value_of" 2 gF (a7 0) (zQ (fJ ["Row"] "y" (a7 1))))) [Y (.l 1),zd (R4.dat (.copy x y)),zd (.int i)] (SH O F f .none [.l 5] ns tl row N)=Y (.d (((look y N).map tv).getD .none),SH O F f .none [.l 5] ns tl row N):=by
  unfold lp;rw[vr3];have o:=Ue (O:=O) (F:=F) (f:=f) (en:=.none) (md:=ns.map TD) (tl:=tl) row N y;have h:=WD x y
  simp? only[Uc,h,o]
  cases look y N<;>rfl
 have q:(fF (fJ ["Row"] "x" (a7 1))) [Y (.l 1),zd (R4.dat (.copy x y)),zd (.int i)] (SH O F f .none [.l 5] ns tl row N)=Y (.d (.str x),SH O F f .none [.l 5] ns tl row N):=by
  refine sT ?_;show fJ ["Row"] "x" (a7 1) [Z,Y (R4.dat (.copy x y)),Y (.int i)]=_;have h:=WC x y
  simp? only[h]
 have r:(c5 (fF (fJ ["Row"] "x" (a7 1))) (c5 (lp (iK "State" "value_of" 2 gF (a7 0) (zQ (fJ ["Row"] "y" (a7 1))))) eX)) [Y (.l 1),zd (R4.dat (.copy x y)),zd (.int i)] (SH O F f .none [.l 5] ns tl row N)=Y ([.d (.str x),.d (((look y N).map tv).getD .none)],SH O F f .none [.l 5] ns tl row N):=by unfold c5;simp only[q,p,ab,aG,eX]
 have g:f6 [.l 5,.d (.str x),.d (((look y N).map tv).getD .none)] (SH O F f .none [.l 5] ns tl row N)=Y (.d .none,SH O F f .none [.l 5] ns tl row (tu x y N)):=by
  unfold tu;cases look y N with
  |some j=>exact Pd O F f .none [.l 5] (n3 7 ns) (tl.map .d) row N (TH 7 ns) x j m
  |none=>exact SU O F f .none [.l 5] (n3 7 ns) (tl.map .d) row N (TH 7 ns) x
 have t:=D2 O F f .none (n3 7 ns) (tl.map .d) row (TH 7 ns) (N.map kP) [Y (.l 1),zd (R4.dat (.copy x y)),zd (.int i)] rfl;have n:uM "Call" "give_name" (SH O F f .none [.l 5] ns tl row N) (.l 5)=true:=by unfold SH;generalize n3 7 ns=a;generalize TH 7 ns=b;generalize N.map kP=c;generalize tl.map MV.d=e;kernel_rfl
 have s:gN "Call" "give_name" 3 f6 (gN "State" "top" 1 gg (cn 0) eX) (c5 (fF (fJ ["Row"] "x" (a7 1))) (c5 (lp (iK "State" "value_of" 2 gF (a7 0) (zQ (fJ ["Row"] "y" (a7 1))))) eX)) [Y (.l 1),zd (R4.dat (.copy x y)),zd (.int i)] (SH O F f .none [.l 5] ns tl row N)=Y (.d .none,SH O F f .none [.l 5] ns tl row (tu x y N)):=by unfold gN at t ⊢;have k:=t;change _=Y (MV.l 5,SH O F f .none [.l 5] ns tl row N) at k;show (Option.bind (Option.bind (cn 0 _ (SX O F f .none [.l 5] (n3 7 ns) (tl.map .d) row (N.map kP) (TH 7 ns))) _) _)=_;rw[k,ab];simp only[n,bD,r,ab,ao,bZ,Nat.reduceAdd];exact g
 have hw:sm [Y (.l 1),zd (R4.dat (.copy x y)),zd (.int i)] (SH O F f .none [.l 5] ns tl row N)=Y (.nx [Y (.l 1),zd (R4.dat (.copy x y)),zd (.int i)] (SH O F f .none [.l 5] ns tl row (tu x y N))):=by unfold sm ij;rw[s];rfl
 unfold p1 hV;show (sm [Y (.l 1),zd (R4.dat (.copy x y)),zd (.int i)] _).bind _=_;rw[hw];rfl
end
section
variable {rs:List R4} (F:eW) (f:Int) (ns:List Nat) (tl:Lp) (row:eW) (N:List (Str×Nat)) (i:Nat)
def WE(O:eW):(SH O F f .none [.l 5] ns tl row N).length=7+3*ns.length:=by unfold SH SX;simp only[ao,O9];omega
def WG(O:eW):(SH O F f .none [.l 5] ns tl row N++[PZ (SH O F f .none [.l 5] ns tl row N).length i,.jt [],.lst []]).set 3 (.lst (n3 7 ns++[.l (SH O F f .none [.l 5] ns tl row N).length]))=SH O F f .none [.l 5] (ns++[i]) tl row N:=by rw[WE];unfold SH;rw[Aa,JQ];rfl
def LR{mn:Str}{H:mP}{m:MF}{a:Ah}{ρ:MR}{μ1 μ2:MH}{r:MV}{as:List MV}(f:m ρ μ=Y (r,μ1))(e:uM c mn μ1 r=true)(d:a ρ μ1=Y (as,μ2))(b:as.length+1=n):gN c mn n H m a ρ μ=H (r::as) μ2:=by unfold gN;simp only[f,e,d,ab,bD,b]
def Zf(O:eW)(s:ns.length<=1000):iQ [.l 1,.d (zi i),.d (.str "record")] (SH O F f .none [.l 5] ns tl row N)=Y (.d (tv ns.length),SH O F f .none [.l 5] (ns++[i]) tl row N):=by
 have t:=D2 O F f .none (n3 7 ns) (tl.map .d) row (TH 7 ns) (N.map kP) [Y (.l 1),zd (zi i),zd (.str "record")] rfl;change _=Y (MV.l 5,SH O F f .none [.l 5] ns tl row N) at t;have q:(c5 (cn 1) (c5 (gm "Call" "path" (gN "State" "top" 1 gg (cn 0) eX)) (c5 (cn 2) eX))) [Y (.l 1),zd (zi i),zd (.str "record")] (SH O F f .none [.l 5] ns tl row N)=Y ([.d (zi i),.d (.tuple []),.d (.str "record")],SH O F f .none [.l 5] ns tl row N):=by
  have j:gm "Call" "path" (gN "State" "top" 1 gg (cn 0) eX) [Y (.l 1),zd (zi i),zd (.str "record")] (SH O F f .none [.l 5] ns tl row N)=Y (.d (.tuple []),SH O F f .none [.l 5] ns tl row N):=by unfold gm;rw[show (gN "State" "top" 1 gg (cn 0) eX) [Y (.l 1),zd (zi i),zd (.str "record")] (SH O F f .none [.l 5] ns tl row N)=_ from t,ab];unfold SH;generalize n3 7 ns=a;generalize TH 7 ns=b;generalize N.map kP=c;generalize tl.map MV.d=e;kernel_rfl
  have m:cn 1 [Y (.l 1),zd (zi i),zd (.str "record")] (SH O F f .none [.l 5] ns tl row N)=Y (.d (zi i),SH O F f .none [.l 5] ns tl row N):=rfl;have h:cn 2 [Y (.l 1),zd (zi i),zd (.str "record")] (SH O F f .none [.l 5] ns tl row N)=Y (.d (.str "record"),SH O F f .none [.l 5] ns tl row N):=rfl;simp only[c5,eX,m,j,h,ab,aG]
 have p:(rm "Thing" 4 kD (c5 (cn 1) (c5 (gm "Call" "path" (gN "State" "top" 1 gg (cn 0) eX)) (c5 (cn 2) eX)))) [Y (.l 1),zd (zi i),zd (.str "record")] (SH O F f .none [.l 5] ns tl row N)=Y (.l (SH O F f .none [.l 5] ns tl row N).length,SH O F f .none [.l 5] ns tl row N++[PZ (SH O F f .none [.l 5] ns tl row N).length i,.jt [],.lst []]):=by unfold rm;rw[q,ab];show (kD [.l (SH O F f .none [.l 5] ns tl row N).length,.d (zi i),.d (.tuple []),.d (.str "record")] (SH O F f .none [.l 5] ns tl row N++[.ins "Thing" []])).bind _=_;rw[SW];rfl
 have g:=Sw (mo:=gm "State" "made" (cn 0)) (ρ:=[Y (.l 1),zd (zi i),zd (.str "record")]) (μ:=SH O F f .none [.l 5] ns tl row N) (μ1:=SH O F f .none [.l 5] ns tl row N) (k:=3) (ys:=n3 7 ns) (by unfold SH;generalize n3 7 ns=a;generalize TH 7 ns=b;generalize N.map kP=c;generalize tl.map MV.d=e;kernel_rfl) rfl p (xs:=n3 7 ns) rfl (by rw[xZ];omega);rw[WG] at g;have r:(lp (lz (zC "thing" (zQ (d2 MN (zN (fJ ["State"] "made" (a7 0))) (zI 1)))))) [Y (.l 1),zd (zi i),zd (.str "record")] (SH O F f .none [.l 5] (ns++[i]) tl row N)=Y (.d (tv ns.length),SH O F f .none [.l 5] (ns++[i]) tl row N):=by
  unfold lp;rw[vr3];have o:mO [.list ((ns++[i]).map TD)]=Y (.int (((ns++[i]).map TD).length:Int)):=rfl;have n:MN (.int (((ns++[i]).map TD).length:Int)) (.int 1)=Y (zi ns.length):=by show Y (eW.int ((((ns++[i]).map TD).length:Int) - 1))=_;rw[aC,bp];simp
  simp? only[JR,o,n]
  rfl
 have hw:jA [Y (.l 1),zd (zi i),zd (.str "record")] (SH O F f .none [.l 5] ns tl row N)=Y (.rt (.d (tv ns.length)) (SH O F f .none [.l 5] (ns++[i]) tl row N)):=by unfold jA;refine(gB (ρ':=[Y (.l 1),zd (zi i),zd (.str "record")]) (μ':=SH O F f .none [.l 5] (ns++[i]) tl row N) (by unfold ij;rw[g];rfl)).trans ?_;unfold px;rw[r];rfl
 unfold iQ hV;show (jA [Y (.l 1),zd (zi i),zd (.str "record")] _).bind _=_;rw[hw];rfl
def Pe(a x:Nat)(b:List Nat):pJ (n3 a (b++[x])) (b.length:Int)=Y (.l (a+3*b.length)):=by refine rZ ?_;rw[Aa,aD (by rw[xZ];exact aA _),xZ];simp
def Zg(O:eW):jm [.l 1,.d (tv ns.length)] (SH O F f .none [.l 5] (ns++[i]) tl row N)=Y (.l (7+3*ns.length),SH O F f .none [.l 5] (ns++[i]) tl row N):=by
 have hw:kE [Y (.l 1),zd (tv ns.length)] (SH O F f .none [.l 5] (ns++[i]) tl row N)=Y (.rt (.l (7+3*ns.length)) (SH O F f .none [.l 5] (ns++[i]) tl row N)):=by
  unfold kE;refine(gB (ρ':=[Y (.l 1),zd (tv ns.length)]) (μ':=SH O F f .none [.l 5] (ns++[i]) tl row N) ?_).trans ?_
  ·exact(qb (μ':=SH O F f .none [.l 5] (ns++[i]) tl row N) (by generalize SH O F f .none [.l 5] (ns++[i]) tl row N=μ;kernel_rfl)).trans rfl
  ·unfold px xR;have m1:gm "State" "made" (cn 0) [Y (.l 1),zd (tv ns.length)] (SH O F f .none [.l 5] (ns++[i]) tl row N)=Y (.l 3,SH O F f .none [.l 5] (ns++[i]) tl row N):=by unfold SH;generalize n3 7 (ns++[i])=a;generalize TH 7 (ns++[i])=b;generalize N.map kP=c;generalize tl.map MV.d=e;kernel_rfl
   have m2:fF (zX (a7 1) (zI 1)) [Y (.l 1),zd (tv ns.length)] (SH O F f .none [.l 5] (ns++[i]) tl row N)=Y (.d (zi ns.length),SH O F f .none [.l 5] (ns++[i]) tl row N):=sT (zK 0);have m3:WW (.l 3) (.d (zi ns.length)) (SH O F f .none [.l 5] (ns++[i]) tl row N)=Y (.l (7+3*ns.length)):=by show pJ (n3 7 (ns++[i])) (ns.length:Int)=_;exact Pe 7 i ns
   simp only[m1,m2,m3,ab,aG]
 unfold jm hV;show (kE [Y (.l 1),zd (tv ns.length)] _).bind _=_;rw[hw];rfl
theorem Pf{k:Str}:∀a:Lr,k∈a->jb (.str k) (a.map λk=>((.str k:eW),eW.list []))=Y (.list [])
 |[],h=>by simp at h
 |y::a,h=>by
  rw[af,jb];by_cases q:y=k
  ·rw[ah (by show decide (y=k)=true;exact aW q)]
  ·rw[ai (by show ¬ decide (y=k)=true;exact λz=>q (cq z))];refine Pf a ?_;rcases av.mp h with e|e
   ·exact absurd e.symm q
   ·exact e
def LS:gG ["Outline"] "fields" (OL ks rs)=Y (.dict (ks.map λk=>(.str k,.list []))):=by kernel_rfl
def WH{k:Str}(hk:k∈ks)(hl:ns.length<=1000)(hN:N.length<16777216):rq [.l 1,.d (R4.dat (.new x k)),.d (zi i)] (SH (OL ks rs) F f .none [.l 5] ns tl row N)=Y (.d .none,SH (OL ks rs) F f .none [.l 5] (ns++[i]) tl row (we x ns.length N)):=by
 have s1:gN "State" "make_thing" 3 iQ (cn 0) (c5 (cn 2) (c5 (fF (zA "record")) eX)) [Y (.l 1),zd (R4.dat (.new x k)),zd (zi i),Z,Z,Z] (SH (OL ks rs) F f .none [.l 5] ns tl row N)=Y (.d (tv ns.length),SH (OL ks rs) F f .none [.l 5] (ns++[i]) tl row N) :=
  (LR (as:=[.d (zi i),.d (.str "record")]) (r:=.l 1) (μ1:=SH (OL ks rs) F f .none [.l 5] ns tl row N) (μ2:=SH (OL ks rs) F f .none [.l 5] ns tl row N) rfl (by unfold SH;generalize n3 7 ns=a;generalize TH 7 ns=b;generalize N.map kP=c;generalize tl.map MV.d=e;generalize OL ks rs=o;kernel_rfl) rfl rfl).trans (Zf F f ns tl row N i (OL ks rs) hl)
 have s2:gN "State" "thing_of" 2 jm (cn 0) (c5 (cn 3) eX) [Y (.l 1),zd (R4.dat (.new x k)),zd (zi i),zd (tv ns.length),Z,Z] (SH (OL ks rs) F f .none [.l 5] (ns++[i]) tl row N)=Y (.l (7+3*ns.length),SH (OL ks rs) F f .none [.l 5] (ns++[i]) tl row N) :=
  (LR (as:=[.d (tv ns.length)]) (r:=.l 1) (μ1:=SH (OL ks rs) F f .none [.l 5] (ns++[i]) tl row N) (μ2:=SH (OL ks rs) F f .none [.l 5] (ns++[i]) tl row N) rfl (by unfold SH;generalize n3 7 (ns++[i])=a;generalize TH 7 (ns++[i])=b;generalize N.map kP=c;generalize tl.map MV.d=e;generalize OL ks rs=o;kernel_rfl) rfl rfl).trans (Zg F f ns tl row N i (OL ks rs))
 have s3:Jf (xR (qB ["Outline"] "fields" (gm "State" "outline" (cn 0))) (fF (fJ ["Row"] "kind" (a7 1)))) [Y (.l 1),zd (R4.dat (.new x k)),zd (zi i),zd (tv ns.length),Y (.l (7+3*ns.length)),Z] (SH (OL ks rs) F f .none [.l 5] (ns++[i]) tl row N)=Y ([],SH (OL ks rs) F f .none [.l 5] (ns++[i]) tl row N):=by
  have m1:gm "State" "outline" (cn 0) [Y (.l 1),zd (R4.dat (.new x k)),zd (zi i),zd (tv ns.length),Y (.l (7+3*ns.length)),Z] (SH (OL ks rs) F f .none [.l 5] (ns++[i]) tl row N)=Y (.d (OL ks rs),SH (OL ks rs) F f .none [.l 5] (ns++[i]) tl row N):=by unfold SH;generalize n3 7 (ns++[i])=a;generalize TH 7 (ns++[i])=b;generalize N.map kP=c;generalize tl.map MV.d=e;generalize OL ks rs=o;kernel_rfl
  have m2:fF (fJ ["Row"] "kind" (a7 1)) [Y (.l 1),zd (R4.dat (.new x k)),zd (zi i),zd (tv ns.length),Y (.l (7+3*ns.length)),Z] (SH (OL ks rs) F f .none [.l 5] (ns++[i]) tl row N)=Y (.d (.str k),SH (OL ks rs) F f .none [.l 5] (ns++[i]) tl row N):=by
   refine sT ?_;show (fJ ["Row"] "kind" (a7 1)) [Z,Y (R4.dat (.new x k)),Y (zi i),Y (tv ns.length),Z,Z]=_;have e:=Gf x k
   simp? only[e]
  have m3:WW (.d (.dict (ks.map λk=>((.str k:eW),eW.list [])))) (.d (.str k)) (SH (OL ks rs) F f .none [.l 5] (ns++[i]) tl row N)=zd (.list []):=by show (if fZ _=true then Z else (jb (.str k) _).map MV.d)=_;rw[ai (by cases ks<;>simp[fZ]),Pf ks hk];rfl
  have dv:qs (.d (OL ks rs))=Y (OL ks rs):=rfl;unfold Jf xR qB;simp only[m1,m2,dv,LS,m3,ab,aG,bB]
 have t:=D2 (OL ks rs) F f .none (n3 7 (ns++[i])) (tl.map .d) row (TH 7 (ns++[i])) (N.map kP) [Y (.l 1),zd (R4.dat (.new x k)),zd (zi i),zd (tv ns.length),Y (.l (7+3*ns.length)),Z] rfl;change _=Y (MV.l 5,SH (OL ks rs) F f .none [.l 5] (ns++[i]) tl row N) at t;have b1:(fF (fJ ["Row"] "x" (a7 1))) [Y (.l 1),zd (R4.dat (.new x k)),zd (zi i),zd (tv ns.length),Y (.l (7+3*ns.length)),Z] (SH (OL ks rs) F f .none [.l 5] (ns++[i]) tl row N)=Y (.d (.str x),SH (OL ks rs) F f .none [.l 5] (ns++[i]) tl row N):=by
  refine sT ?_;show (fJ ["Row"] "x" (a7 1)) [Z,Y (R4.dat (.new x k)),Y (zi i),Y (tv ns.length),Z,Z]=_;have e2:=Ze x k
  simp? only[e2]
 have b0:(c5 (fF (fJ ["Row"] "x" (a7 1))) (c5 (cn 3) eX)) [Y (.l 1),zd (R4.dat (.new x k)),zd (zi i),zd (tv ns.length),Y (.l (7+3*ns.length)),Z] (SH (OL ks rs) F f .none [.l 5] (ns++[i]) tl row N)=Y ([.d (.str x),.d (tv ns.length)],SH (OL ks rs) F f .none [.l 5] (ns++[i]) tl row N):=by have p:cn 3 [Y (.l 1),zd (R4.dat (.new x k)),zd (zi i),zd (tv ns.length),Y (.l (7+3*ns.length)),Z] (SH (OL ks rs) F f .none [.l 5] (ns++[i]) tl row N)=Y (.d (tv ns.length),SH (OL ks rs) F f .none [.l 5] (ns++[i]) tl row N):=rfl;simp only[c5,eX,b1,p,ab,aG]
 have s4:=(LR (c:="Call") (mn:="give_name") (n:=3) (H:=f6) t (by unfold SH;generalize n3 7 (ns++[i])=a;generalize TH 7 (ns++[i])=b;generalize N.map kP=c;generalize tl.map MV.d=e;generalize OL ks rs=o;kernel_rfl) b0 rfl).trans (Pd (OL ks rs) F f .none [.l 5] (n3 7 (ns++[i])) (tl.map .d) row N (TH 7 (ns++[i])) x ns.length hN);have hw:uU [Y (.l 1),zd (R4.dat (.new x k)),zd (zi i),Z,Z,Z] (SH (OL ks rs) F f .none [.l 5] ns tl row N)=Y (.nx [Y (.l 1),zd (R4.dat (.new x k)),zd (zi i),zd (tv ns.length),Y (.l (7+3*ns.length)),Z] (SH (OL ks rs) F f .none [.l 5] (ns++[i]) tl row (we x ns.length N))):=by unfold uU;refine(gB (ρ':=[Y (.l 1),zd (R4.dat (.new x k)),zd (zi i),zd (tv ns.length),Z,Z]) (μ':=SH (OL ks rs) F f .none [.l 5] (ns++[i]) tl row N) (by unfold hU;rw[s1];rfl)).trans ?_;refine(gB (ρ':=[Y (.l 1),zd (R4.dat (.new x k)),zd (zi i),zd (tv ns.length),Y (.l (7+3*ns.length)),Z]) (μ':=SH (OL ks rs) F f .none [.l 5] (ns++[i]) tl row N) (by unfold hU;rw[s2];rfl)).trans ?_;refine(gB (ρ':=[Y (.l 1),zd (R4.dat (.new x k)),zd (zi i),zd (tv ns.length),Y (.l (7+3*ns.length)),Z]) (μ':=SH (OL ks rs) F f .none [.l 5] (ns++[i]) tl row N) (by unfold xc;rw[s3];rfl)).trans ?_;unfold ij;rw[show (gN "Call" "give_name" 3 f6 (gN "State" "top" 1 gg (cn 0) eX) (c5 (fF (fJ ["Row"] "x" (a7 1))) (c5 (cn 3) eX))) [Y (.l 1),zd (R4.dat (.new x k)),zd (zi i),zd (tv ns.length),Y (.l (7+3*ns.length)),Z] (SH (OL ks rs) F f .none [.l 5] (ns++[i]) tl row N)=_ from s4];rfl
 unfold rq hV;show (uU [Y (.l 1),zd (R4.dat (.new x k)),zd (zi i),Z,Z,Z] _).bind _=_;rw[hw];rfl
end
def JS:R4->mP
 |.new _ _=>rq
 |.copy _ _=>p1
 |.tell _=>p3
 |.rest=>nX
section
variable {rs:List R4} (f:Int) (ns:List Nat) (tl:Lp) (N:List (Str×Nat)) (i:Nat)
def Zh{n:Str}(O F:eW)(en row:eW)(st:List MV)(ρ:MR)(j:Nat)(h:ρ[j]?=Y (Y (.l 1))){v:MV}(hv:pW n (B6 O F f en)=Y v):gm "State" n (cn j) ρ (SH O F f en st ns tl row N)=Y (v,SH O F f en st ns tl row N):=by
 have m1:cn j ρ (SH O F f en st ns tl row N)=Y (.l 1,SH O F f en st ns tl row N):=by unfold cn;rw[h];rfl
 unfold gm;rw[m1,ab];show (if zZ "State"=zZ "State" then (pW n (B6 O F f en)).map λv=>(v,SH O F f en st ns tl row N) else Z)=_;rw[ah rfl,hv];rfl
def LU(n:Nat):gG ["Flow"] "behind" (FL n)=Y (.dict (O4 n)):=by kernel_rfl
def S8{i:Nat}(h:i<n):(if fZ (O4 n)=true then Z else (jb (zi i) (O4 n)).map MV.d)=zd (sU n (i+1)):=by unfold O4;rw[ai (by rw[Ws];simp),O8 _ _ (by rw[dJ,eC];omega)];rfl
def S9(r:R4)(μ:MH):NM 3 Di (fF (fJ ["Row"] "word" (a7 2))) (c5 (cn 0) (c5 (cn 2) (c5 (cn 1) eX))) [Y (.l 1),zd (zi i),zd r.dat,Y (.l 5)] μ=JS r [.l 1,.d r.dat,.d (zi i)] μ:=by cases r<;>kernel_rfl
def Zi{r:R4}(hr:rs[i]?=Y r){v:MV}{ns':List Nat}{tl':Lp}{N':List (Str×Nat)}(hd:JS r [.l 1,.d r.dat,.d (zi i)] (wX ks rs f ns tl (zi i) N)=Y (v,SH (OL ks rs) (FL rs.length) f .none [.l 5] ns' tl' (zi i) N')):rA [.l 1,.d (zi i)] (wX ks rs f ns tl (zi i) N)=Y (.d .none,ST (OL ks rs) (FL rs.length) rs.length f (i+1) ns' tl' N'):=by
 have hi:=(ay.mp hr).1;have s1:xR (qB ["Outline"] "rows" (gm "State" "outline" (cn 0))) (cn 1) [Y (.l 1),zd (zi i),Z,Z] (wX ks rs f ns tl (zi i) N)=Y (.d r.dat,SH (OL ks rs) (FL rs.length) f .none [.l 5] ns tl (zi i) N):=by
  have m1:=Zh (n:="outline") f ns tl N (OL ks rs) (FL rs.length) .none (zi i) [.l 5] [Y (.l 1),zd (zi i),Z,Z] 0 rfl (v:=.d (OL ks rs)) rfl;have m2:cn 1 [Y (.l 1),zd (zi i),Z,Z] (wX ks rs f ns tl (zi i) N)=Y (.d (zi i),SH (OL ks rs) (FL rs.length) f .none [.l 5] ns tl (zi i) N):=rfl;have dv:qs (.d (OL ks rs))=Y (OL ks rs):=rfl;have m3:WW (.d (.list (rs.map R4.dat))) (.d (zi i)) (wX ks rs f ns tl (zi i) N)=zd r.dat:=by show (pJ (rs.map R4.dat) (i:Int)).map MV.d=_;rw[D1 hr];rfl
  unfold xR qB;simp only[m1,m2,dv,D0,m3,ab,aG]
 have s2:=D2 (OL ks rs) (FL rs.length) f .none (n3 7 ns) (tl.map .d) (zi i) (TH 7 ns) (N.map kP) [Y (.l 1),zd (zi i),zd r.dat,Z] rfl;change _=Y (MV.l 5,SH (OL ks rs) (FL rs.length) f .none [.l 5] ns tl (zi i) N) at s2;have s4:xR (qB ["Flow"] "behind" (gm "State" "flow" (cn 0))) (cn 1) [Y (.l 1),zd (zi i),zd r.dat,Y (.l 5)] (wX ks rs f ns' tl' (zi i) N')=Y (.d (sU rs.length (i+1)),SH (OL ks rs) (FL rs.length) f .none [.l 5] ns' tl' (zi i) N'):=by have m1:=Zh (n:="flow") f ns' tl' N' (OL ks rs) (FL rs.length) .none (zi i) [.l 5] [Y (.l 1),zd (zi i),zd r.dat,Y (.l 5)] 0 rfl (v:=.d (FL rs.length)) (by generalize OL ks rs=o;generalize FL rs.length=o';kernel_rfl);have m2:cn 1 [Y (.l 1),zd (zi i),zd r.dat,Y (.l 5)] (wX ks rs f ns' tl' (zi i) N')=Y (.d (zi i),SH (OL ks rs) (FL rs.length) f .none [.l 5] ns' tl' (zi i) N'):=rfl;have dv:qs (.d (FL rs.length))=Y (FL rs.length):=rfl;have m3:WW (.d (.dict (O4 rs.length))) (.d (zi i)) (wX ks rs f ns' tl' (zi i) N')=zd (sU rs.length (i+1)):=S8 hi;unfold xR qB;simp only[m1,m2,dv,LU,m3,ab,aG]
 have s5:=uc (c:="Call") (n:="row") (mo:=cn 3) s4 (r:=.l 5) (μ2:=SH (OL ks rs) (FL rs.length) f .none [.l 5] ns' tl' (zi i) N') rfl (μ':=SH (OL ks rs) (FL rs.length) f .none [.l 5] ns' tl' (sU rs.length (i+1)) N') (by unfold SH;generalize n3 7 ns'=a;generalize TH 7 ns'=b;generalize N'.map kP=c;generalize tl'.map MV.d=e;generalize OL ks rs=o;generalize FL rs.length=o';generalize sU rs.length (i+1)=fo;kernel_rfl);have s6:=Ub (OL ks rs) (FL rs.length) rs.length f (i+1) ns' tl' N';have hw:uV [Y (.l 1),zd (zi i),Z,Z] (wX ks rs f ns tl (zi i) N)=Y (.nx [Y (.l 1),zd (zi i),zd r.dat,Y (.l 5)] (ST (OL ks rs) (FL rs.length) rs.length f (i+1) ns' tl' N')):=by
  unfold uV;refine(gB (ρ':=[Y (.l 1),zd (zi i),zd r.dat,Z]) (μ':=SH (OL ks rs) (FL rs.length) f .none [.l 5] ns tl (zi i) N) (by unfold hU;rw[s1];rfl)).trans ?_;refine(gB (ρ':=[Y (.l 1),zd (zi i),zd r.dat,Y (.l 5)]) (μ':=SH (OL ks rs) (FL rs.length) f .none [.l 5] ns tl (zi i) N) (by unfold hU;rw[show gN "State" "top" 1 gg (cn 0) eX _ (wX ks rs f ns tl (zi i) N)=_ from s2];rfl)).trans ?_;refine(gB (ρ':=[Y (.l 1),zd (zi i),zd r.dat,Y (.l 5)]) (μ':=SH (OL ks rs) (FL rs.length) f .none [.l 5] ns' tl' (sU rs.length (i+1)) N') ?_).trans ?_
  ·rw[qb (μ':=SH (OL ks rs) (FL rs.length) f .none [.l 5] ns tl (zi i) N) (by generalize SH (OL ks rs) (FL rs.length) f .none [.l 5] ns tl (zi i) N=μ;cases r<;>kernel_rfl)];rw[qb (μ':=SH (OL ks rs) (FL rs.length) f .none [.l 5] ns tl (zi i) N) (by generalize SH (OL ks rs) (FL rs.length) f .none [.l 5] ns tl (zi i) N=μ;cases r<;>kernel_rfl)];rw[qb (μ':=SH (OL ks rs) (FL rs.length) f .none [.l 5] ns tl (zi i) N) (by generalize SH (OL ks rs) (FL rs.length) f .none [.l 5] ns tl (zi i) N=μ;cases r<;>kernel_rfl)];refine(gB (ρ':=[Y (.l 1),zd (zi i),zd r.dat,Y (.l 5)]) (μ':=SH (OL ks rs) (FL rs.length) f .none [.l 5] ns' tl' (zi i) N') ?_).trans s5;rw[z9 (μ':=SH (OL ks rs) (FL rs.length) f .none [.l 5] ns tl (zi i) N) (by generalize SH (OL ks rs) (FL rs.length) f .none [.l 5] ns tl (zi i) N=μ;cases r<;>kernel_rfl)];unfold ij;rw[S9,hd];rfl
  ·unfold ij Hv;show (((c5 (cn 0) eX) [Y (.l 1),zd (zi i),zd r.dat,Y (.l 5)] (wX ks rs f ns' tl' (sU rs.length (i+1)) N')).bind _).map _=_;have:(c5 (cn 0) eX) [Y (.l 1),zd (zi i),zd r.dat,Y (.l 5)] (wX ks rs f ns' tl' (sU rs.length (i+1)) N')=Y ([.l 1],SH (OL ks rs) (FL rs.length) f .none [.l 5] ns' tl' (sU rs.length (i+1)) N'):=rfl;rw[this,ab];show (iL [.l 1] _).map _=_;rw[s6];rfl
 unfold rA hV;show (uV [Y (.l 1),zd (zi i),Z,Z] _).bind _=_;rw[hw];rfl
end
section
variable {rs:List R4}
def Ta(O F:eW)(f:Int)(en:eW)(ns:List Nat)(tl:Lp)(row:eW)(N:List (Str×Nat))(a b:Option MV):gN "State" "top" 1 gg (cn 1) eX [a,Y (.l 1),b] (SH O F f en [.l 5] ns tl row N)=Y (.l 5,SH O F f en [.l 5] ns tl row N):=by have m1:cn 1 [a,Y (.l 1),b] (SH O F f en [.l 5] ns tl row N)=Y (.l 1,SH O F f en [.l 5] ns tl row N):=rfl;unfold gN;rw[m1,ab];unfold SH;generalize n3 7 ns=a;generalize TH 7 ns=b;generalize N.map kP=c;generalize tl.map MV.d=e;kernel_rfl
def Ir(O F:eW)(f:Int)(en:eW)(st:List MV)(ns:List Nat)(tl:Lp)(row:eW)(N:List (Str×Nat))(b:Option MV):hU (gm "Machine" "state" (cn 0)) 1 [Y (.l 0),Z,b] (SH O F f en st ns tl row N)=Y (.nx [Y (.l 0),Y (.l 1),b] (SH O F f en st ns tl row N)):=by unfold SH;generalize n3 7 ns=a;generalize TH 7 ns=b;generalize N.map kP=c;generalize tl.map MV.d=e;kernel_rfl
def Gg(h:fg μ 9 (.l 1)=Y d)(b:Option MV):pX μ [Y (.l 0),Y (.l 1),b]=[fg μ 9 (.l 0),Y d,b.bind (fg μ 9)]:=by show [(Y (MV.l 0)).bind (fg μ 9),(Y (MV.l 1)).bind (fg μ 9),b.bind (fg μ 9)]=_;rw[ab,ab,h]
abbrev WI:bb->Option Bool:=fB (d2 jy (fJ ["State"] "ended" (a7 1)) (dC .none))
abbrev Zj:bb->Option Bool:=fB (d2 qo (fJ ["State"] "fuel" (a7 1)) (zI 0))
def Ad(O F:eW)(f:Int){en:eW}(b:Bool)(c:List Nat)(e:Lp)(a:eW)(N:List (Str×Nat))(g:jy en .none=Y (.bool true)):fM [.l 0] (SH O F f en (if b then [.l 5] else []) c e a N)=Y (.d (.bool false),SH O F f en (if b then [.l 5] else []) c e a N):=by
 have v:=DZ O F f en b c e a N;have t:gk WI [Y (.l 0),Y (.l 1),Z] (SH O F f en (if b then [.l 5] else []) c e a N)=Y (true,SH O F f en (if b then [.l 5] else []) c e a N):=P0 (by
  rw[Gg v];have h:gG ["State"] "ended" (SV O F f en (if b then [CD a N] else []) (c.map TD) e)=Y en:=by generalize (if b then [CD a N] else [])=z;generalize c.map TD=y;kernel_rfl
  simp? only[h,g])
 have hw:gK [Y (.l 0),Z,Z] (SH O F f en (if b then [.l 5] else []) c e a N)=Y (.rt (.d (.bool false)) (SH O F f en (if b then [.l 5] else []) c e a N)):=by unfold gK;refine(gB (Ir O F f en _ c e a N Z)).trans ?_;show ((si (gk WI) (px (fF (dC (.bool false)))) oO) _ _).bind _=_;rw[z9 t];rfl
 unfold fM hV;show (gK [Y (.l 0),Z,Z] _).bind _=_;rw[hw];rfl
def Ug(O F:eW)(f:Int)(a:eW)(c d b:Lp):gG ["State"] "ended" (SV O F f a c d b)=Y a:=by kernel_rfl
def Zk(O F:eW)(f:Int)(d:eW)(b c a:Lp):gG ["State"] "fuel" (SV O F f d b c a)=Y (.int f):=by kernel_rfl
abbrev rV:eW:=.tuple [.str "dry"]
variable (f:Int) (ns:List Nat) (tl:Lp) (N:List (Str×Nat)) (i:Nat)
def Uh(O F:eW)(a:eW)(b:Option MV):gk WI [Y (.l 0),Y (.l 1),b] (SH O F f .none [.l 5] ns tl a N)=Y (false,SH O F f .none [.l 5] ns tl a N):=P0 (by
  rw[Gg (Ac O F f .none ns tl a N)];have c:=Ug O F f .none [CD a N] (ns.map TD) tl
  simp? only[c,vg])
def Ui(O F:eW)(a:eW)(b:Option MV):gk Zj [Y (.l 0),Y (.l 1),b] (SH O F f .none [.l 5] ns tl a N)=Y (decide (f<=0),SH O F f .none [.l 5] ns tl a N):=P0 (by
  rw[Gg (Ac O F f .none ns tl a N)];have d:=Zk O F f .none [CD a N] (ns.map TD) tl;have c:qo (.int f) (.int 0)=Y (.bool (decide (f<=0))):=rfl
  simp? only[d,c])
def Pg(O F:eW)(row:eW)(hf:f<=0):fM [.l 0] (SH O F f .none [.l 5] ns tl row N)=Y (.d (.bool true),SH O F f rV [.l 5] ns tl row N):=by
 have t1:=Uh f ns tl N O F row Z;have t2:=Ui f ns tl N O F row Z;rw[aW hf] at t2;have s3:ie "State" "ended" (cn 1) (fF (lz (zC "dry" f7))) [Y (.l 0),Y (.l 1),Z] (SH O F f .none [.l 5] ns tl row N)=Y (.nx [Y (.l 0),Y (.l 1),Z] (SH O F f rV [.l 5] ns tl row N)):=by unfold SH;generalize n3 7 ns=a;generalize TH 7 ns=b;generalize N.map kP=c;generalize tl.map MV.d=e;kernel_rfl
 have hw:gK [Y (.l 0),Z,Z] (SH O F f .none [.l 5] ns tl row N)=Y (.rt (.d (.bool true)) (SH O F f rV [.l 5] ns tl row N)):=by unfold gK;refine(gB (Ir O F f .none _ ns tl row N Z)).trans ?_;refine(gB (qb t1)).trans ?_;show ((si (gk Zj) (fI (ie "State" "ended" (cn 1) (fF (lz (zC "dry" f7)))) (px (fF (dC (.bool true))))) oO) _ _).bind _=_;rw[z9 t2,gB s3];rfl
 unfold fM hV;show (gK [Y (.l 0),Z,Z] _).bind _=_;rw[hw];rfl
def R4.sort(r:R4):vP xT (.str (zZ r.w))=Y (.bool true):=by cases r<;>kernel_rfl
def Zl{r:R4}(c:rs[i]?=Y r)(F:eW)(a b:Lp):rp [SV (OL ks rs) F f .none a b tl,.int (i:Int)]=Y .none:=by
 have w:=r.word;have e:=r.sort
 simp? only[rp,Fs,Pa,D0,zG,D1 c,w,e]
def LV{r:R4}(hr:rs[i]?=Y r)(hf:0<f){v:MV}{ns':List Nat}{tl':Lp}{N':List (Str×Nat)}(hd:JS r [.l 1,.d r.dat,.d (zi i)] (wX ks rs (f - 1) ns tl (zi i) N)=Y (v,SH (OL ks rs) (FL rs.length) (f - 1) .none [.l 5] ns' tl' (zi i) N')):fM [.l 0] (wX ks rs f ns tl (zi i) N)=Y (.d (.bool true),ST (OL ks rs) (FL rs.length) rs.length (f - 1) (i+1) ns' tl' N'):=by
 have t1:=Uh f ns tl N (OL ks rs) (FL rs.length) (zi i) Z;have t2:=Ui f ns tl N (OL ks rs) (FL rs.length) (zi i) Z;rw[aO (by omega)] at t2;have s3:C1 "State" "fuel" (λi j=>i - j) (cn 1) (fF (zI 1)) [Y (.l 0),Y (.l 1),Z] (wX ks rs f ns tl (zi i) N)=Y (.nx [Y (.l 0),Y (.l 1),Z] (wX ks rs (f - 1) ns tl (zi i) N)):=by unfold SH;generalize n3 7 ns=a;generalize TH 7 ns=b;generalize N.map kP=c;generalize tl.map MV.d=e;generalize OL ks rs=o;generalize FL rs.length=o';kernel_rfl
 have s4:gm "Call" "row" (gN "State" "top" 1 gg (cn 1) eX) [Y (.l 0),Y (.l 1),Z] (wX ks rs (f - 1) ns tl (zi i) N)=Y (.d (zi i),SH (OL ks rs) (FL rs.length) (f - 1) .none [.l 5] ns tl (zi i) N):=by have t:=Ta (OL ks rs) (FL rs.length) (f - 1) .none ns tl (zi i) N (Y (.l 0)) Z;unfold gm;rw[t,ab];unfold SH;generalize n3 7 ns=a;generalize TH 7 ns=b;generalize N.map kP=c;generalize tl.map MV.d=e;generalize OL ks rs=o;generalize FL rs.length=o';kernel_rfl
 have s5:lp (jR 2 rp (gq (a7 1) (zQ (a7 2)))) [Y (.l 0),Y (.l 1),zd (zi i)] (wX ks rs (f - 1) ns tl (zi i) N)=Y (.d .none,SH (OL ks rs) (FL rs.length) (f - 1) .none [.l 5] ns tl (zi i) N):=by
  unfold lp;rw[Gg (Ac (OL ks rs) (FL rs.length) (f - 1) .none ns tl (zi i) N)];have e1:=Zl (ks:=ks) (f - 1) tl i hr (FL rs.length) [CD (zi i) N] (ns.map TD);have e2:(Y (MV.d (zi i))).bind (fg (wX ks rs (f - 1) ns tl (zi i) N) 9)=Y (zi i):=rfl;rw[e2]
  simp? only[e1]
  rfl
 have s6:=uc (c:="State") (n:="ended") (mo:=cn 1) s5 (r:=.l 1) (μ2:=SH (OL ks rs) (FL rs.length) (f - 1) .none [.l 5] ns tl (zi i) N) rfl (μ':=SH (OL ks rs) (FL rs.length) (f - 1) .none [.l 5] ns tl (zi i) N) (by unfold SH;generalize n3 7 ns=a;generalize TH 7 ns=b;generalize N.map kP=c;generalize tl.map MV.d=e;generalize OL ks rs=o;generalize FL rs.length=o';kernel_rfl);have t7:gk (fB (d2 qR (fJ ["State"] "ended" (a7 1)) (dC .none))) [Y (.l 0),Y (.l 1),zd (zi i)] (wX ks rs (f - 1) ns tl (zi i) N)=Y (true,SH (OL ks rs) (FL rs.length) (f - 1) .none [.l 5] ns tl (zi i) N):=P0 (by
  rw[Gg (Ac (OL ks rs) (FL rs.length) (f - 1) .none ns tl (zi i) N)];have e1:=Ug (OL ks rs) (FL rs.length) (f - 1) .none [CD (zi i) N] (ns.map TD) tl;have e2:qR .none .none=Y (.bool true):=rfl
  simp? only[e1,e2])
 have s8:=Zi (f - 1) ns tl N i hr hd;have hw:gK [Y (.l 0),Z,Z] (wX ks rs f ns tl (zi i) N)=Y (.rt (.d (.bool true)) (ST (OL ks rs) (FL rs.length) rs.length (f - 1) (i+1) ns' tl' N')):=by unfold gK;refine(gB (Ir (OL ks rs) (FL rs.length) f .none _ ns tl (zi i) N Z)).trans ?_;refine(gB (qb t1)).trans ?_;refine(gB (qb t2)).trans ?_;refine(gB s3).trans ?_;refine(gB (ρ':=[Y (.l 0),Y (.l 1),zd (zi i)]) (μ':=SH (OL ks rs) (FL rs.length) (f - 1) .none [.l 5] ns tl (zi i) N) (by unfold hU;rw[s4];rfl)).trans ?_;refine(gB s6).trans ?_;refine(gB (ρ':=[Y (.l 0),Y (.l 1),zd (zi i)]) (μ':=ST (OL ks rs) (FL rs.length) rs.length (f - 1) (i+1) ns' tl' N') ?_).trans rfl;rw[z9 t7];unfold ij Hv;have:(c5 (cn 1) (c5 (cn 2) eX)) [Y (.l 0),Y (.l 1),zd (zi i)] (wX ks rs (f - 1) ns tl (zi i) N)=Y ([.l 1,.d (zi i)],SH (OL ks rs) (FL rs.length) (f - 1) .none [.l 5] ns tl (zi i) N):=rfl;rw[this,ab];show (rA [.l 1,.d (zi i)] _).map _=_;rw[s8];rfl
 unfold fM hV;show (gK [Y (.l 0),Z,Z] _).bind _=_;rw[hw];rfl
end
def iC(x:Str):List (Str×Str)->Str
 |[]=>zZ "none"
 | (y,s)::r=>if y=x then s else iC x r
def sV(x s:Str)(D:List (Str×Str)):List (Str×Str):=if (D.any λp=>decide (p.1=x))=true then D.map (λp=>if p.1=x then (p.1,s) else p) else D++[(x,s)]
abbrev dD(D:List (Str×Str)):eW:=.dict (D.map λp=>(.str p.1,.str p.2))
def JT(D:List (Str×Str)):fZ (D.map λp=>((.str p.1:eW),eW.str p.2))=false:=by cases D<;>rfl
def JU(x s:Str)(D:List (Str×Str))(a:D.length<=1000):yw (.str x) (.str s) (dD D)=Y (dD (sV x s D)):=by
 show (if _ then _ else Z)=_;rw[ah ⟨by rw[aC,sizeLine_eq];omega,JT D⟩];show Y (eW.dict (Aq (.str x) (.str s) _))=_
 congr 2
 unfold Aq sV;have e:((D.map λp=>((.str p.1:eW),eW.str p.2)).any λz=>nB z.1 (.str x))=D.any λp=>decide (p.1=x):=by rw[List.any_map];rfl
 rw[e];split
 ·rw[bc,bc];refine dX λp _=>?_;show (if decide (p.1=x)=true then _ else _)=((eW.str (if p.1=x then _ else _:Str×Str).1),_)
  by_cases q:p.1=x
  ·simp[q]
  ·simp[q]
 ·rw[bf];rfl
theorem Ph(x:Str):∀D:List (Str×Str),(jb (.str x) (D.map λp=>((.str p.1:eW),eW.str p.2))).getD (.str (zZ "none"))=.str (iC x D)
 |[]=>rfl
 | (y,s)::r=>by
  rw[af,jb,iC];by_cases q:y=x
  ·rw[ah (by show decide (y=x)=true;exact aW q),ah q];rfl
  ·rw[ai (by show ¬ decide (y=x)=true;exact λz=>q (cq z)),ai q];exact Ph x r
def JV(x:Str)(D:List (Str×Str)):vL (dD D) (.str x) (.str (zZ "none"))=Y (.str (iC x D)):=by rw[<-Ph x D];show (if fZ _=true then Z else _)=_;rw[ai (by rw[JT];simp)];rfl
def nc:List R4->List (Str×Str)->Lp->Lp
 |[],_,tl=>tl
 |.new x k::l,D,tl=>nc l (sV x k D) tl
 |.copy x y::l,D,tl=>nc l (sV x (iC y D) D) tl
 |.tell x::l,D,tl=>nc l D (tl++[.str (iC x D)])
 |.rest::l,D,tl=>nc l D tl
def Gh(x s:Str)(D:List (Str×Str)):(sV x s D).length<=D.length+1:=by unfold sV;split<;>simp
theorem Gi(z x:Str)(j:Nat):∀N:List (Str×Nat),look z (N.map λp=>if p.1=x then (p.1,j) else p)=if z=x then (look z N).map (λ_=>j) else look z N
 |[]=>by simp[look]
 | (y,i)::N=>by
  rw[af];have b:=Gi z x j N;by_cases q:y=x
  ·subst q;simp only[bD,look];by_cases a:y=z
   ·subst a;simp
   ·have c:¬ z=y:=λe=>a e.symm;simp only[a,c,bV,b]
  ·simp only[q,bV,look];by_cases a:y=z
   ·subst a;simp[q]
   ·simp only[a,bV,b]
theorem Gj(z x:Str)(j:Nat):∀N:List (Str×Nat),look z (N++[(x,j)])=match look z N with|some i=>Y i|none=>if x=z then Y j else Z
 |[]=>rfl
 | (y,i)::N=>by
  rw[aR,look,look];by_cases q:y=z
  ·simp[q]
  ·simp only[q,bV];exact Gj z x j N
theorem Gk(x:Str):∀N:List (Str×Nat),(N.any λp=>decide (p.1=x))=(look x N).isSome
 |[]=>rfl
 | (y,i)::N=>by rw[bz,Gk x N,look];by_cases q:y=x<;>simp[q]
def Gm(z x:Str)(j:Nat)(N:List (Str×Nat)):look z (we x j N)=if z=x then Y j else look z N:=by
 unfold we;rw[Gk];split
 ·rename_i h;rw[Gi];by_cases q:z=x
  ·subst q;obtain⟨i,b⟩:=Option.isSome_iff_exists.mp h;simp[b]
  ·simp[q]
 ·rename_i h;rw[Gj];by_cases q:z=x
  ·subst q;have:look z N=Z:=by simpa using h
   simp[this]
  ·have a:¬ x=z:=λe=>q e.symm;simp only[q,a,bV];cases look z N<;>rfl
theorem B8(z x:Str):∀N:List (Str×Nat),look z (qK x N)=if z=x then Z else look z N
 |[]=>by simp[qK,look]
 | (y,i)::N=>by
  have b:=B8 z x N;unfold qK at b ⊢;rw[cR];by_cases q:y=x
  ·subst q;simp only[ne_eq,not_true_eq_false,decide_false,bO,bV,b,look];by_cases a:z=y
   ·simp[a]
   ·have:¬ y=z:=λe=>a e.symm;simp[a,this]
  ·simp only[ne_eq,q,not_false_eq_true,decide_true,bD,look];rw[b];by_cases a:y=z
   ·subst a;simp[q]
   ·simp[a]
def JW(x:Str)(j:Nat)(N:List (Str×Nat)):(we x j N).length<=N.length+1:=by unfold we;split<;>simp
def Pj(x:Str)(N:List (Str×Nat)):(qK x N).length<=N.length:=List.length_filter_le _ _
theorem B9(z x s:Str):∀D:List (Str×Str),(D.any λp=>decide (p.1=x))=true->z=x->iC z (D.map λp=>if p.1=x then (p.1,s) else p)=s
 |[],h,_=>by simp at h
 | (y,t)::D,h,e=>by
  subst e;rw[af];by_cases q:y=z
  ·simp[q,iC]
  ·simp only[q,bV,iC];refine B9 z z s D ?_ rfl;simpa [q] using h
theorem rW(z x s:Str)(a:¬ z=x):∀D:List (Str×Str),iC z (D.map λp=>if p.1=x then (p.1,s) else p)=iC z D
 |[]=>rfl
 | (y,t)::D=>by
  rw[af];by_cases q:y=x
  ·subst q;have:¬ y=z:=λe=>a e.symm;simp only[bD,iC,this,bV];exact rW z y s a D
  ·simp only[q,bV,iC];by_cases b:y=z
   ·simp[b]
   ·simp only[b,bV];exact rW z x s a D
theorem Ca(z x s:Str):∀D:List (Str×Str),iC z (D++[(x,s)])=if (D.any λp=>decide (p.1=z))=true then iC z D else if x=z then s else zZ "none"
 |[]=>rfl
 | (y,t)::D=>by
  rw[aR,iC,iC,bz,Ca z x s D];by_cases q:y=z
  ·simp[q]
  ·rw[ai q,ai q,aO q,Bool.false_or]
theorem Ae(z:Str):∀D:List (Str×Str),¬ (D.any λp=>decide (p.1=z))=true->iC z D=zZ "none"
 |[],_=>rfl
 | (y,t)::D,h=>by simp only[bz,eR,cM,not_or] at h;rw[iC,ai h.1,Ae z D h.2]
def Cb(z x s:Str)(D:List (Str×Str)):iC z (sV x s D)=if z=x then s else iC z D:=by
 unfold sV;split
 ·rename_i h;by_cases q:z=x
  ·rw[ah q];exact B9 z x s D h q
  ·rw[ai q];exact rW z x s q D
 ·rename_i h;rw[Ca];by_cases q:z=x
  ·subst q;rw[ai h,ah rfl,ah rfl]
  ·have b:¬ x=z:=λe=>q e.symm;rw[ai q];split
   ·rfl
   ·rename_i a;exact(Ae z D a).symm
section
variable {rs:List R4}
def Pk(b:List R4)(c:List Nat)(N:List (Str×Nat))(D:List (Str×Str)):Prop:=∀x,match look x N with
 |some j=>∃q a,c[j]?=Y q/\b[q]?=Y (.new a (iC x D))
 |none=>iC x D=zZ "none"
def Pk.show{a:List Nat}{N:List (Str×Nat)}{D:List (Str×Str)}(R:Pk rs a N D)(x:Str)(F:eW)(f:Int)(b:Lp)(tl:Lp):gz [SV (OL ks rs) F f .none b (a.map TD) tl,((look x N).map tv).getD .none]=Y (.str (iC x D)):=by
 have:=R x;cases q:look x N with
 |some j=>rw[q] at this;obtain⟨p,e,d,c⟩:=this;exact Zd d c
 |none=>rw[q] at this;rw[this];exact SQ _
theorem Pk.new{a:List Nat}{N:List (Str×Nat)}{D:List (Str×Str)}(R:Pk rs a N D){i:Nat}{x k:Str}(d:rs[i]?=Y (.new x k)):Pk rs (a++[i]) (we x a.length N) (sV x k D):=by
 intro z;rw[Gm,Cb];by_cases q:z=x
 ·rw[ah q,ah q];exact⟨i,x,by simp,d⟩
 ·rw[ai q,ai q];have:=R z;cases e:look z N with
  |some j=>rw[e] at this;obtain⟨p,c,b,f⟩:=this;exact⟨p,c,by rw[aS (ay.mp b).1];exact b,f⟩
  |none=>rw[e] at this;exact this
def Pk.copy{b:List Nat}{N:List (Str×Nat)}{D:List (Str×Str)}(R:Pk rs b N D)(x y:Str):Pk rs b (tu x y N) (sV x (iC y D) D):=by
 intro z;rw[Cb];have a:=R y;have c:=R z;unfold tu;cases e:look y N with
 |some j=>
  rw[e] at a;rw[Gm];by_cases q:z=x
  ·rw[ah q,ah q];exact a
  ·rw[ai q,ai q];exact c
 |none=>
  rw[e] at a;rw[B8];by_cases q:z=x
  ·rw[ah q,ah q];exact a
  ·rw[ai q,ai q];exact c
def Pm(x y:Str)(N:List (Str×Nat)):(tu x y N).length<=N.length+1:=by
 unfold tu;split
 ·exact JW _ _ _
 ·have:=Pj x N;omega
abbrev ZQ:MR->MH->Option (Bool×MH):=E4 (gN "Machine" "step" 1 fM (cn 7) eX)
abbrev RR(h g f e d b a:Option MV)(c:Nat):MR:=[h,g,f,e,d,b,a,Y (.l 0),zd (zi c),Z,Z,Z]
def D3{s0 s1 s2 s3 s4 s5 s6:Option MV}{c:Nat}{O F:eW}{f:Int}{en:eW}{st:List MV}{ns:List Nat}{tl:Lp}{row:eW}{N:List (Str×Nat)}{b:Bool}{μ':MH}(h:fM [.l 0] (SH O F f en st ns tl row N)=Y (.d (.bool b),μ')):ZQ (RR s0 s1 s2 s3 s4 s5 s6 c) (SH O F f en st ns tl row N)=Y (b,μ'):=by
 have e:gN "Machine" "step" 1 fM (cn 7) eX (RR s0 s1 s2 s3 s4 s5 s6 c) (SH O F f en st ns tl row N)=Y (.d (.bool b),μ') :=
  (LR (as:=[]) (r:=.l 0) (μ1:=SH O F f en st ns tl row N) (μ2:=SH O F f en st ns tl row N) rfl (by unfold SH;generalize n3 7 ns=a;generalize TH 7 ns=b;generalize N.map kP=c;generalize tl.map MV.d=e;kernel_rfl) rfl rfl).trans h
 unfold ZQ E4;rw[e];rfl
def Pn(h g f e d b a:Option MV)(c:Nat)(μ:MH):u3 (RR h g f e d b a c) μ=Y (.nx (RR h g f e d b a (c+1)) μ):=by kernel_rfl
theorem Uj(T:JE ks rs)(t s p o n m j:Option MV):∀(l:List R4) (i g c K:Nat) (ns:List Nat) (a:Lp) (N:List (Str×Nat)) (D:List (Str×Str)),rs.drop i=l->i+l.length=rs.length->ns.length<=i->N.length<=i->a.length<=i->Pk rs ns N D->l.length+2<=K ->
  ∃B b ns' f N',mu ZQ u3 K (RR t s p o n m j c) (ST (OL ks rs) (FL rs.length) rs.length (g:Int) i ns a N)=Y (.nx (RR t s p o n m j (c+if g<l.length then g+1 else l.length)) (SH (OL ks rs) (FL rs.length) B (if g<l.length then rV else qc) (zj b) ns' (nc (l.take g) D a) f N'))
 |[],i,g,c,K,ns,a,N,D,hd,hn,_,_,_,_,hK=>by
  have e:i=rs.length:=by simpa using hn
  obtain⟨K,rfl⟩:∃k,K=k+1:=⟨K - 1,by simp at hK;omega⟩
  refine⟨g,false,ns,.none,N,?_⟩;unfold ST;rw[ah e];have u:fM [.l 0] (SH (OL ks rs) (FL rs.length) (g:Int) qc [] ns a .none N)=Y (.d (.bool false),SH (OL ks rs) (FL rs.length) (g:Int) qc [] ns a .none N):=Ad (OL ks rs) (FL rs.length) (g:Int) (en:=qc) false ns a .none N rfl;rw[vl (D3 u)];simp[nc]
 |r::l,i,0,c,K,ns,a,N,D,hd,hn,_,_,_,_,hK=>by
  have e:¬ i=rs.length:=by simp at hn;omega
  obtain⟨K,rfl⟩:∃k,K=k+1+1:=⟨K - 2,by simp at hK;omega⟩
  refine⟨0,true,ns,.int (i:Int),N,?_⟩;unfold ST;rw[ai e];have u:=Pg ((0:Nat):Int) ns a N (OL ks rs) (FL rs.length) (zi i) (by simp);have E:fM [.l 0] (SH (OL ks rs) (FL rs.length) ((0:Nat):Int) rV [.l 5] ns a (zi i) N)=Y (.d (.bool false),SH (OL ks rs) (FL rs.length) ((0:Nat):Int) rV [.l 5] ns a (zi i) N):=Ad (OL ks rs) (FL rs.length) ((0:Nat):Int) (en:=rV) true ns a (zi i) N rfl;rw[Ab (D3 u) (Pn t s p o n m j c _),vl (D3 E)];simp[nc]
 |r::l,i,g+1,c,K,ns,a,N,D,hd,hn,h1,h2,h3,R,hK=>by
  have X:=T.lr;rw[ao] at hn hK;have e:¬ i=rs.length:=by omega
  have G:rs[i]?=Y r:=by have:=bL (λz=>z[0]?) hd;simpa [List.getElem?_drop] using this
  have I:rs.drop (i+1)=l:=by rw[<-List.drop_drop,hd];rfl
  obtain⟨K,rfl⟩:∃k,K=k+1:=⟨K - 1,by omega⟩
  have J:(((g+1:Nat):Int) - 1)=(g:Int):=by omega
  have h:∀(ns':List Nat) (tl':Lp) (N':List (Str×Nat)) (C:List (Str×Str)),(∃v,JS r [.l 1,.d r.dat,.d (zi i)] (wX ks rs (g:Int) ns a (zi i) N)=Y (v,SH (OL ks rs) (FL rs.length) (g:Int) .none [.l 5] ns' tl' (zi i) N'))->ns'.length<=i+1->N'.length<=i+1->tl'.length<=i+1->Pk rs ns' N' C->nc (r::l.take g) D a=nc (l.take g) C tl' ->
    ∃B b ns' f N',mu ZQ u3 (K+1) (RR t s p o n m j c) (ST (OL ks rs) (FL rs.length) rs.length ((g+1:Nat):Int) i ns a N)=Y (.nx (RR t s p o n m j (c+if g+1<(r::l).length then g+1+1 else (r::l).length)) (SH (OL ks rs) (FL rs.length) B (if g+1<(r::l).length then rV else qc) (zj b) ns' (nc ((r::l).take (g+1)) D a) f N')):=by
   intro ns' tl' N' C ⟨v,H⟩ V U S Q P;obtain⟨B,b,F,w,W,L⟩:=Uj T t s p o n m j l (i+1) g (c+1) K ns' tl' N' C I (by omega) V U S Q (by omega);refine⟨B,b,F,w,W,?_⟩;have u:=LV (ks:=ks) ((g+1:Nat):Int) ns a N i G (by omega) (v:=v) (ns':=ns') (tl':=tl') (N':=N') (by rw[J];exact H);rw[J] at u;have O:ST (OL ks rs) (FL rs.length) rs.length ((g+1:Nat):Int) i ns a N=SH (OL ks rs) (FL rs.length) ((g+1:Nat):Int) .none [.l 5] ns a (zi i) N:=ai e;rw[O,Ab (D3 u) (Pn t s p o n m j c _),L,List.take_succ_cons,P,ao];by_cases q:g<l.length
   ·have A:g+1<l.length+1:=by omega
    rw[ah q,ah q,ah A,ah A,show c+1+(g+1)=c+(g+1+1) by omega]
   ·have A:¬ g+1<l.length+1:=by omega
    rw[ai q,ai q,ai A,ai A,show c+1+l.length=c+(l.length+1) by omega]
  cases r with
  |new x k=>have M:=(T.ok _ (bP G)).kd x k rfl;exact h (ns++[i]) a (we x ns.length N) (sV x k D) ⟨_,WH (FL rs.length) g ns a (zi i) N i M (by omega) (by omega)⟩ (by simp;omega) (by have:=JW x ns.length N;omega) (by omega) (R.new G) rfl
  |copy x y=>exact h ns a (tu x y N) (sV x (iC y D) D) ⟨_,S0 (FL rs.length) g ns a (zi i) N i (OL ks rs) x y (by omega)⟩ (by omega) (by have:=Pm x y N;omega) (by omega) (R.copy x y) rfl
  |tell x=>exact h ns (a++[eW.str (iC x D)]) N D ⟨.d .none,SY (FL rs.length) g ns a (zi i) N i (OL ks rs) (R.show x _ _ _ _) (by omega)⟩ (by omega) (by omega) (by simp;omega) R rfl
  |rest=>exact h ns a N D ⟨.d .none,by generalize SH (OL ks rs) (FL rs.length) (g:Int) .none [.l 5] ns a (zi i) N=μ;rfl⟩ (by omega) (by omega) (by omega) R rfl
end
def WJ(g:eW->eW->eW->Od)(c b a:bb->Od)(ρ:bb):d3 g c b a ρ=(c ρ).bind λx=>(b ρ).bind λy=>(a ρ).bind λz=>g x y z:=rfl
def Zm(a b c:eW)(l:Lp):pJ (a::b::c::l) 2=Y c:=rZ (j:=2) rfl
def D4:R4->List (Str×Str)->List (Str×Str)
 |.new x k,D=>sV x k D
 |.copy x y,D=>sV x (iC y D) D
 |.tell _,D=>D
 |.rest,D=>D
def A7:R4->List (Str×Str)->Lp->Lp
 |.tell x,D,tl=>tl++[.str (iC x D)]
 |_,_,tl=>tl
def LW(r:R4)(l:List R4)(D:List (Str×Str))(a:Lp):nc (r::l) D a=nc l (D4 r D) (A7 r D a):=by cases r<;>rfl
def Po(r:R4)(D:List (Str×Str))(c:Lp)(a b:Od)(e:D.length<=1000)(H:c.length<=1000):i8 [a,b,Y (dD D),Y (.list c),Y (wl r.ws)]=Y (.nx [a,b,Y (dD (D4 r D)),Y (.list (A7 r D c)),Y (wl r.ws)]):=by
 have G:=iR "new" "new";have F:=iR "copy" "new";have E:=iR "copy" "copy";have C:=iR "tell" "new";have B:=iR "tell" "copy";have A:=iR "tell" "tell";have z:=iR "rest" "new";have v:=iR "rest" "copy";have u:=iR "rest" "tell";have q:("new"=="new")=true:=by decide
 have o:("copy"=="new")=false:=by decide
 have n:("copy"=="copy")=true:=by decide
 have m:("tell"=="new")=false:=by decide
 have l:("tell"=="copy")=false:=by decide
 have j:("tell"=="tell")=true:=by decide
 have i:("rest"=="new")=false:=by decide
 have h:("rest"=="copy")=false:=by decide
 have f:("rest"=="tell")=false:=by decide
 have d:∀s:Str,me (.str s)=true:=λ_=>rfl;cases r with
 |new x k=>
  have p:=JU x k D e
  simp? only[i8,wl,R4.ws,R4.w,R4.as,wU,zG,Gv,LN,Zm,G,q,p,D4,A7]
 |copy x y=>
  have g:=JV y D;have p:=JU x (iC y D) D e
  simp? only[i8,wl,R4.ws,R4.w,R4.as,wU,WJ,zG,Gv,LN,Zm,F,o,E,n,g,d,p,D4,A7]
 |tell x=>
  have g:=JV x D;have t:c.length<16777216:=by omega
  simp? only[i8,wl,R4.ws,R4.w,R4.as,WJ,zG,Gv,LN,C,m,B,l,A,j,g,d,t,D4,A7]
 |rest=>
  simp? only[i8,wl,R4.ws,R4.w,R4.as,WJ,zG,Gv,LN,z,i,v,h,u,f,D4,A7]
def Pp(r:R4)(D:List (Str×Str)):(D4 r D).length<=D.length+1:=by
 cases r with
 |new x k=>exact Gh _ _ _
 |copy x y=>exact Gh _ _ _
 |tell x=>exact eS _
 |rest=>exact eS _
def Pq(r:R4)(D:List (Str×Str))(a:Lp):(A7 r D a).length<=a.length+1:=by cases r<;>simp[A7]
theorem Gn(a b:Od):∀(l:List R4) (D:List (Str×Str)) (c:Lp) (w:Od),D.length+l.length<=900->c.length+l.length<=900->∃f d,nP (w9 (.one 4)) i8 (l.map λr=>wl r.ws) [a,b,Y (dD D),Y (.list c),w]=Y (.nx [a,b,Y (dD f),Y (.list (nc l D c)),d])
 |[],D,c,w,_,_=>⟨D,w,rfl⟩
 |r::l,D,c,w,h1,h2=>by have i:=Pp r D;have h:=Pq r D c;rw[ao] at h1 h2;obtain⟨f,d,g⟩:=Gn a b l (D4 r D) (A7 r D c) (Y (wl r.ws)) (by omega) (by omega);refine⟨f,d,?_⟩;have e:((w9 (.one 4) (wl r.ws) [a,b,Y (dD D),Y (.list c),w]).bind i8)=Y (.nx [a,b,Y (dD (D4 r D)),Y (.list (A7 r D c)),Y (wl r.ws)]):=Po r D c a b (by omega) (by omega);rw[af,hG e,g,LW]
def D5(l:List α)(k:Nat):nk l Z (Y (k:Int))=l.take k:=by
 by_cases h:k<=l.length
 ·exact VN l k h
 ·rw[cF (by omega)];unfold nk;have b:HT.j7 l.length 0 Z=0:=rfl;have a:HT.j7 l.length l.length (Y (k:Int))=l.length:=by
   rw[rT,ai (by omega),cN,Nat.min_eq_right (by omega)]
  rw[b,a];simp
def WK{a:List R4}(e:a.length<=62)(g:Nat):mv [.list (a.map λr=>wl r.ws),.int (g:Int)]=Y (.list (nc (a.take g) [] [])):=by
 have f:(a.take g).length<=62:=by rw[cx];omega
 obtain⟨i,d,h⟩:=Gn (Y (.list (a.map λr=>wl r.ws))) (Y (zi g)) (a.take g) [] [] Z (by simp only[bZ];omega) (by simp only[bZ];omega);have b:nk (a.map λr=>wl r.ws) Z (Y (g:Int))=(a.take g).map λr=>wl r.ws:=by rw[D5,eE]
 have c:(eW.dict []:eW)=dD []:=rfl
 simp? only[mv,BP,YL,b,c,h]
abbrev mS(l:List Nat):Str:=⟨l.toArray⟩
def lg(l:List Nat):(mS l).length=l.length:=by simp[Str.length]
def Iu(a b:List Nat):mS a++mS b=mS (a++b):=by
 have:(mS a++mS b).cps=(mS (a++b)).cps:=by rw[eU];simp
 cases h:mS a++mS b;rw[h] at this;cases this;rfl
def Gp{x:List Nat}{a b:Option Int}{r:List Nat}(h:(strSliceIndices a b 1 x.length).filterMap ((mS x).cps[·]?)=r)(c:(strSliceIndices a b 1 x.length).length=r.length)(d:r.length=x.length->r=x):Txt.slice (mS x) a b=mS r:=by
 unfold Txt.slice;rw[lg];split
 ·rename_i q;rw[c] at q;rw[d (by simpa using q)]
 ·rw[h]
def Zn(x:List Nat)(a:Nat)(c:a<=x.length):Txt.slice (mS x) Z (Y (a:Int))=mS (x.take a):=by
 have e:strSliceIndices Z (Y (a:Int)) 1 x.length=strSliceIndices (Y ((0:Nat):Int)) (Y (a:Int)) 1 x.length:=by
  unfold strSliceIndices;have:max (0:Int) (min (0:Int) (x.length:Int))=0:=by omega
  simp[this]
 have h:=sliced_plain (mS x) (a:=0) (b:=a) (by omega) (by rw[lg];exact c);rw[lg] at h;refine Gp (by rw[e,h];simp) ?_ ?_
 ·rw[e,strSliceIndices_plain (by omega) c];simp;omega
 ·intro q;rw[cx] at q;exact cF (by omega)
def Tb(x:List Nat)(a:Nat)(c:a<=x.length):Txt.slice (mS x) (Y (a:Int)) Z=mS (x.drop a):=by
 have e:strSliceIndices (Y (a:Int)) Z 1 x.length=strSliceIndices (Y (a:Int)) (Y (x.length:Int)) 1 x.length:=by
  unfold strSliceIndices;have:max (0:Int) (min (if (x.length:Int)<0 then (x.length:Int)+(x.length:Int) else (x.length:Int)) (x.length:Int))=x.length:=by rw[ai (by omega)];omega
  simp[this]
 have h:=sliced_plain (mS x) (a:=a) (b:=x.length) c (by rw[lg];omega);rw[lg] at h;refine Gp (by rw[e,h];rw[cF (by simp)]) ?_ ?_
 ·rw[e,strSliceIndices_plain c (by omega)];simp
 ·intro q;rw[dF] at q;by_cases z:a=0
  ·subst z;rfl
  ·have:x=[]:=by
    cases x with
    |nil=>rfl
    |cons u v=>simp at q c;omega
   subst this;simp
def ZR{i:Int}(a:0<=i)(h:i<4294967296):ni i=true:=by
 unfold ni Builtin.Int.intBits;rw[decide_eq_true_iff];split
 ·exact cB _
 ·rename_i q;have:i.natAbs≠0:=by simpa using q
  rw[Nat.succ_le_iff];refine(Nat.log2_lt this).mpr (aE (show i.natAbs<2 ^ 32 by omega) (Nat.pow_le_pow_right (by decide) (by decide)))
def Zo{i j:Int}(b:ni i=true)(a:ni j=true):Bv (.int i) (.int j)=Y (.int (i*j)):=by simp[Bv,U0,dI,b,a]
def xE{i j:Int}(h:0<j):pN (.int i) (.int j)=Y (.int (i % j)):=by simp[pN,dI,h]
def D6{i j:Int}(h:0<j)(a:j<1073741824):qN (.int i) (.int j)=Y (.int (i / j)):=by simp[qN,dI,h,a]
def Pt(i j:Int):kb (.int i) (.int j)=Y (.int (i+j)):=rfl
def pF:Str:=zZ "abcdefghijklmnopqrstuvwxyz"
def Pu(m:Nat)(h:m<26):mj (.str pF) (zi m)=Y (.str (mS [97+m])):=by
 have:∀m:Fin 26,mj (.str pF) (zi (m:Nat))=Y (.str (mS [97+(m:Nat)])):=by
  intro m;have e:pF.cps.toList=(List.range 26).map (97+·):=by decide +kernel
  have a:pF.length<=sizeLine:=by decide +kernel
  show (if pF.length<=sizeLine then (pJ pF.cps.toList ((m:Nat):Int)).map λc=>eW.str ⟨#[c]⟩ else Z)=_;rw[ah a,e,rZ (v:=97+(m:Nat)) (by rw[az,dR m.2];rfl)];rfl
 exact this ⟨m,h⟩
def Tc(i:Int):∃m:Nat,m<26/\i % 26=(m:Int):=⟨(i % 26).toNat,by omega,by omega⟩
def Td(l:List Nat):Prop:=∀c∈l,97<=c/\c<=122
def WL{l:List Nat}(h:Td l)(d:1<=l.length)(b:l.length<=8):ua (mS l)=true:=ub.mpr ⟨by rw[lg];exact d,by rw[lg];exact b,λc a=>h c (by simpa using a)⟩
def Te{c:Int}{x:List Nat}{k:Nat}(t:x.length<=100)(h:k<=8)(a b d e:Od):∃m,97<=m/\m<=122/\kh [Y (.int c),Y (.str pF),Y (.str (mS x)),Y (zi k),a,b,d]=Y (.nx [Y (.int c),Y (.str pF),Y (.str (mS (x++[m]))),Y (zi k),a,b,d]):=by
 have r:(0:Int)<=(k:Int)*k/\(k:Int)*k<=64:=by
  have:k*k<=8*8:=Nat.mul_le_mul h h;have e:((k*k:Nat):Int)=(k:Int)*k:=by simp
  omega
 have p:=Zo (i:=(k:Int)) (j:=(k:Int)) (ZR (by omega) (by omega)) (ZR (by omega) (by omega));have o:=Pt 8 ((k:Int)*k);have n:=D6 (i:=c) (j:=8+(k:Int)*k) (by omega) (by omega);have g:=xE (i:=c / (8+(k:Int)*k)) (j:=26) (by omega);obtain⟨m,q,s⟩:=Tc (c / (8+(k:Int)*k));have l:=Pu m q;rw[s] at g;have f:=DK (mS x) (mS [97+m]) (by rw[lg,lg];simp;omega);rw[Iu] at f;refine⟨97+m,by omega,by omega,?_⟩
 simp? only[kh,p,o,n,g,l,f]
theorem JX(c:Int)(a b d:Od):∀(n k:Nat) (x:List Nat) (w:Od),k+n<=8->x.length<=k->Td x->∃y g,y.length=x.length+n/\Td y/\nP (w9 (.one 3)) kh ((List.range' k n).map λ(i:Nat)=>eW.int (i:Int)) [Y (.int c),Y (.str pF),Y (.str (mS x)),w,a,b,d]=Y (.nx [Y (.int c),Y (.str pF),Y (.str (mS y)),g,a,b,d])
 |0,k,x,w,_,_,hx=>⟨x,w,rfl,hx,rfl⟩
 |n+1,k,x,w,h1,h2,hx=>by
  obtain⟨m,q,p,l⟩:=Te (c:=c) (x:=x) (k:=k) (by omega) (by omega) a b d Z;obtain⟨y,g,j,h,o⟩:=JX c a b d n (k+1) (x++[m]) (Y (zi k)) (by omega) (by simp;omega) (λz f=>by
   rcases aP.mp f with f|f
   ·exact hx z f
   ·simp at f;omega)
  refine⟨y,g,by rw[j];simp;omega,h,?_⟩;have e:((w9 (.one 3) (zi k) [Y (.int c),Y (.str pF),Y (.str (mS x)),w,a,b,d]).bind kh)=Y (.nx [Y (.int c),Y (.str pF),Y (.str (mS (x++[m]))),Y (zi k),a,b,d]):=l;rw[cU,af,hG e,o]
noncomputable def L5(y:List Nat)(p:Nat)(c:Int)(k:Nat):Str:=mS (y.take p++[97+((c / 3+4*(k:Int)) % 26).toNat]++y.drop (p+1))
def WM{y:List Nat}{p:Nat}{c:Int}(b:Td y)(d:p<y.length)(e:y.length<=8)(k:Nat):ua (L5 y p c k)=true:=by
 refine WL (λz a=>?_) (by simp;omega) (by simp;omega);simp only[aP,List.mem_singleton] at a;rcases a with (a|a)|a
 ·exact b z (cP a)
 ·have:0<=(c / 3+4*(k:Int)) % 26/\(c / 3+4*(k:Int)) % 26<26:=by omega
  omega
 ·exact b z (List.mem_of_mem_drop a)
def Tf{y:List Nat}{p:Nat}{c:Int}{j k:Nat}(e:j<6)(d:k<6)(h:L5 y p c j=L5 y p c k):j=k:=by
 unfold L5 at h;have a:(y.take p++[97+((c / 3+4*(j:Int)) % 26).toNat]++y.drop (p+1))=(y.take p++[97+((c / 3+4*(k:Int)) % 26).toNat]++y.drop (p+1)):=by have:=bL (λs:Str=>s.cps.toList) h;simpa using this
 simp only[aJ] at a;have b:=List.append_cancel_left a;simp at b;omega
def Th{c:Int}{y:List Nat}{p k:Nat}(w:p<y.length)(x:y.length<=8)(z:k<6){l:Lp}(u:l.length<=10)(o:Od):∃n,ki [Y (.int c),Y (.str pF),Y (.str (mS y)),Y (zi k),Y (zi p),Y (.list l),o]=Y (.nx [Y (.int c),Y (.str pF),Y (.str (mS y)),Y (zi k),Y (zi p),Y (.list (l++[.str (L5 y p c k)])),n]):=by
 have t:=D6 (i:=c) (j:=3) (by omega) (by omega);have s:=Zo (i:=4) (j:=(k:Int)) (ZR (by omega) (by omega)) (ZR (by omega) (by omega));have r:=Pt (c / 3) (4*(k:Int));have e:=xE (i:=c / 3+4*(k:Int)) (j:=26) (by omega);have v:(c / 3+4*(k:Int)) % 26=(((c / 3+4*(k:Int)) % 26).toNat:Int):=by omega
 rw[v] at e;have q:=Pu ((c / 3+4*(k:Int)) % 26).toNat (by omega);have f:(mS y).length<=16777216:=by rw[lg];omega
 have m:L0 (.str (mS y)) Z (Y (p:Int))=Y (.str (mS (y.take p))):=by show (if (mS y).length<=sizeLine then Y (eW.str (Txt.slice (mS y) Z (Y (p:Int)))) else Z)=_;rw[ah (by rw[sizeLine_eq];exact f),Zn y p (by omega)]
 have h:L0 (.str (mS y)) (Y ((p:Int)+1)) Z=Y (.str (mS (y.drop (p+1)))):=by show (if (mS y).length<=sizeLine then Y (eW.str (Txt.slice (mS y) (Y ((p:Int)+1)) Z)) else Z)=_;rw[ah (by rw[sizeLine_eq];exact f),show (p:Int)+1=((p+1:Nat):Int) by omega,Tb y (p+1) (by omega)]
 have g:=Pt (p:Int) 1;have d:=DK (mS (y.take p)) (mS [97+((c / 3+4*(k:Int)) % 26).toNat]) (by rw[lg,lg];simp;omega);rw[Iu] at d;have b:=DK (mS (y.take p++[97+((c / 3+4*(k:Int)) % 26).toNat])) (mS (y.drop (p+1))) (by rw[lg,lg];simp;omega);rw[Iu] at b;have a:l.length<16777216:=by omega
 refine⟨Y (.str (mS [97+((c / 3+4*(k:Int)) % 26).toNat])),?_⟩
 simp? only[ki,t,s,r,e,q,m,h,g,d,b,a,L5]
theorem JY(c:Int){y:List Nat}{p:Nat}(f:p<y.length)(g:y.length<=8):∀(n k:Nat) (l:Lp) (w o:Od),k+n<=6->l.length<=k->∃a b,nP (w9 (.one 3)) ki ((List.range' k n).map λ(i:Nat)=>eW.int (i:Int)) [Y (.int c),Y (.str pF),Y (.str (mS y)),w,Y (zi p),Y (.list l),o]=Y (.nx [Y (.int c),Y (.str pF),Y (.str (mS y)),a,Y (zi p),Y (.list (l++(List.range' k n).map λ(i:Nat)=>.str (L5 y p c i))),b])
 |0,k,l,w,o,_,_=>⟨w,o,by simp[nP]⟩
 |n+1,k,l,w,o,h1,h2=>by obtain⟨d,h⟩:=Th (c:=c) f g (k:=k) (by omega) (l:=l) (by omega) o;obtain⟨a,b,j⟩:=JY c f g n (k+1) (l++[.str (L5 y p c k)]) (Y (zi k)) d (by omega) (by simp;omega);refine⟨a,b,?_⟩;have e:((w9 (.one 3) (zi k) [Y (.int c),Y (.str pF),Y (.str (mS y)),w,Y (zi p),Y (.list l),o]).bind ki)=Y (.nx [Y (.int c),Y (.str pF),Y (.str (mS y)),Y (zi k),Y (zi p),Y (.list (l++[.str (L5 y p c k)])),d]):=h;rw[cU,af,hG e,j,af,aJ];rfl
def LX(c:Int):∃d:Lr,d.length=6/\d.Nodup/\(∀w∈d,ua w=true)/\lx [.int c]=Y (wl d):=by
 obtain⟨n,I,C⟩:∃n:Nat,n<8/\c % 8=(n:Int):=⟨(c % 8).toNat,by omega,by omega⟩
 obtain⟨y,g,o,m,A⟩:=JX c Z Z Z (n+1) 0 [] Z (by omega) (by simp) (by intro z e;simp at e);rw[bZ,cT] at o;have f:(0:Int)<(y.length:Int):=by omega
 obtain⟨p,l,B⟩:∃p:Nat,p<y.length/\(c / 7) % (y.length:Int)=(p:Int):=⟨((c / 7) % (y.length:Int)).toNat,by have:=Int.emod_lt_of_pos (c / 7) f;have:=Int.emod_nonneg (c / 7) (show (y.length:Int)≠0 by omega);omega,by have:=Int.emod_nonneg (c / 7) (show (y.length:Int)≠0 by omega);omega⟩
 obtain⟨G,H,x⟩:=JY c l (by omega) 6 0 [] g Z (by omega) (by simp);refine⟨(List.range' 0 6).map (L5 y p c),by simp,?_,λw hw=>?_,?_⟩
 ·rw[List.Nodup,List.pairwise_map];refine List.Pairwise.imp_of_mem (R:=(·≠·)) (λ{a b} v hb ne z=>ne ?_) (show (List.range' 0 6).Nodup by decide);rw[eC] at v hb;exact Tf (by omega) (by omega) z
 ·obtain⟨i,_,rfl⟩:=aK.mp hw;exact WM m l (by omega) i
 ·have F:(zZ "abcdefghijklmnopqrstuvwxyz")=pF:=rfl;have E:(zZ "")=mS []:=by decide +kernel
  have k:=xE (i:=c) (j:=8) (by omega);rw[C] at k;have u:=Pt 1 (n:Int);have t:=D6 (i:=c) (j:=7) (by omega) (by omega);have h:=xE (i:=c / 7) f;rw[B] at h;have s:mO [.str (mS y)]=Y (zi y.length):=by
   have e:y.length<=sizeLine:=by rw[sizeLine_eq];omega
   simp[mO,MW,e,lg]
  have r:ko (d2 kb (zI 1) (d2 pN (a7 0) (zI 8))) [Y (.int c),Y (.str pF),Y (.str (mS [])),Z,Z,Z,Z]=Y ((List.range' 0 (n+1)).map λ(i:Nat)=>eW.int (i:Int)):=JC (by omega) _ _ (by simp? only[k,u];congr 2;omega);have q:ko (zI 6) [Y (.int c),Y (.str pF),Y (.str (mS y)),g,Y (zi p),Z,Z]=Y ((List.range' 0 6).map λ(i:Nat)=>eW.int (i:Int)):=JC (by omega) _ _ rfl;have D:wl ((List.range' 0 6).map (L5 y p c))=.list ([]++(List.range' 0 6).map λ(i:Nat)=>.str (L5 y p c i)):=by simp[wl]
  rw[D]
  simp? only[lx,wJ,F,E,r,A,t,s,h,q,x]
def D7{l:Lr}{m:Nat}(h:l[m]?=Y x):mj (wl l) (zi m)=Y (.str x):=by unfold wl;rw[zG];exact rZ (by rw[az,h];rfl)
def pa(i:Int)(a:0<n):∃m:Nat,m<n/\i % (n:Int)=(m:Int):=by have c:=Int.emod_nonneg i (show (n:Int)≠0 by omega);have b:=Int.emod_lt_of_pos i (show (0:Int)<n by omega);exact⟨(i % (n:Int)).toNat,by omega,by omega⟩
def Ti{f:Lr}(h6:f.length=6)(U:∀w∈f,ua w=true)(X:∀w∈ks,ua w=true)(h1:0<ks.length)(c:Int):∃r:R4,r.Ok ks/\ly [.int c,wl f,wl ks]=Y (wl r.ws):=by
 obtain⟨a,ha,ea⟩:=pa (c / 4) (n:=6) (by omega);obtain⟨b,hb,eb⟩:=pa (c / 24) (n:=6) (by omega);obtain⟨d,hd,ed⟩:=pa (c / 24) h1;obtain⟨w,hw,ew⟩:=pa c (n:=4) (by omega);obtain⟨z,hz,ez⟩:=pa (c / 144) (n:=2) (by omega);have M:f[a]?=Y (f[a]'(by omega)):=aI _;have L:f[b]?=Y (f[b]'(by omega)):=aI _;have F:ks[d]?=Y (ks[d]'hd):=aI _;generalize f[a]'(by omega)=x at M;generalize f[b]'(by omega)=y at L;generalize ks[d]'hd=k at F;have I:=U x (bP M);have T:=U y (bP L);have V:=X k (bP F);have W:=bP F;have A:=D6 (i:=c) (j:=4) (by omega) (by omega);have p:=xE (i:=c / 4) (j:=6) (by omega);have u:=D6 (i:=c) (j:=24) (by omega) (by omega);have o:=xE (i:=c / 24) (j:=6) (by omega);have m:=xE (i:=c) (j:=4) (by omega);have l:=xE (i:=c / 24) (j:=(ks.length:Int)) (by omega);have S:=D6 (i:=c) (j:=144) (by omega) (by omega);have H:=xE (i:=c / 144) (j:=2) (by omega);have Q:c / 4 % 6=(a:Int):=ea;have P:c / 24 % 6=(b:Int):=eb;have O:c % 4=(w:Int):=ew;have N:c / 144 % 2=(z:Int):=ez;rw[Q] at p;rw[P] at o;rw[O] at m;rw[ed] at l;rw[N] at H;have t:=D7 M;have s:=D7 L;have q:=D7 F;have B:mO [wl ks]=Y (zi ks.length):=by show Y (eW.int (((ks.map eW.str).length:Nat):Int))=_;rw[aC]
 have C:=YM (w:Int) 0;have G:=YM (w:Int) 1;have R:=YM (w:Int) 2;have K:w=0\/w=1\/w=2\/w=3:=by omega
 rcases K with rfl|rfl|rfl|rfl
 ·refine⟨.new x k,⟨λv h=>?_,λD E e=>by cases e;exact W⟩,?_⟩
  ·simp[R4.as] at h;rcases h with rfl|rfl
   ·exact I
   ·exact V
  ·simp? only[ly,n7,A,p,u,o,m,l,t,s,q,B,C,show ((((0:Nat):Int))==0)=true from rfl]
   rfl
 ·refine⟨.copy x y,⟨λv h=>?_,λD E e=>by cases e⟩,?_⟩
  ·simp[R4.as] at h;rcases h with rfl|rfl
   ·exact I
   ·exact T
  ·simp? only[ly,n7,A,p,u,o,m,l,t,s,q,B,C,G,show ((((1:Nat):Int))==0)=false from rfl,show ((((1:Nat):Int))==1)=true from rfl]
   rfl
 ·refine⟨.tell x,⟨λv h=>?_,λD E e=>by cases e⟩,?_⟩
  ·simp[R4.as] at h;subst h;exact I
  ·simp? only[ly,n7,A,p,u,o,m,l,t,s,q,B,C,G,R,show ((((2:Nat):Int))==0)=false from rfl,show ((((2:Nat):Int))==1)=false from rfl,show ((((2:Nat):Int))==2)=true from rfl]
   rfl
 ·have J:z=0\/z=1:=by omega
  rcases J with rfl|rfl
  ·refine⟨.tell y,⟨λv h=>?_,λD E e=>by cases e⟩,?_⟩
   ·simp[R4.as] at h;subst h;exact T
   ·have g:mj (.list [.list [.str (zZ "tell"),.str y],.list [.str (zZ "rest")]]) (zi (0:Nat))=Y (.list [.str (zZ "tell"),.str y]):=rfl
    simp? only[ly,n7,A,p,u,o,m,l,S,H,t,s,q,B,C,G,R,g,show ((((3:Nat):Int))==0)=false from rfl,show ((((3:Nat):Int))==1)=false from rfl,show ((((3:Nat):Int))==2)=false from rfl]
    rfl
  ·refine⟨.rest,⟨λv h=>?_,λD E e=>by cases e⟩,?_⟩
   ·simp[R4.as] at h
   ·have g:mj (.list [.list [.str (zZ "tell"),.str y],.list [.str (zZ "rest")]]) (zi (1:Nat))=Y (.list [.str (zZ "rest")]):=rfl
    simp? only[ly,n7,A,p,u,o,m,l,S,H,t,s,q,B,C,G,R,g,show ((((3:Nat):Int))==0)=false from rfl,show ((((3:Nat):Int))==1)=false from rfl,show ((((3:Nat):Int))==2)=false from rfl]
    rfl
theorem Gq{a b:Lr}(i:a.length=6)(g:∀w∈a,ua w=true)(h:∀w∈b,ua w=true)(j:0<b.length):∀l:List Int,∃d:List R4,d.length=l.length/\(∀r∈d,r.Ok b)/\kH rF p4 [Y (wl a),Y (wl b)] (l.map .int)=Y (d.map λr=>wl r.ws)
 |[]=>⟨[],rfl,by simp,rfl⟩
 |c::l=>by
  obtain⟨d,s,p,n⟩:=Gq i g h j l;obtain⟨r,o,e⟩:=Ti i g h j c;refine⟨r::d,by simp[s],λq f=>?_,?_⟩
  ·rcases av.mp f with rfl|f
   ·exact o
   ·exact p q f
  ·have m:rF [Y (.int c),Y (wl a),Y (wl b)]=Y true:=rfl;have k:p4 [Y (.int c),Y (wl a),Y (wl b)]=Y (wl r.ws):=by
    rw[p4];simp? only[e]
   rw[af,kH,m];simp only[ab,bD,k,n,af]
def GR.join{a:Lr}(g:GR a):pS (.str (zZ " ")) [wl a]=Y (.str (ln a)):=by rw[show zZ " "=⟨#[32]⟩ by decide +kernel];refine Oj 32 a (B:=8) (λw hw=>(ub.mp (g.2.1 w hw)).2.1) ?_;have:=g.2.2;omega
theorem join_rows(T:bb->Option Bool)(C:bb->Od)(b:T=λ_=>Y true)(c:C=xM pS (zA (zZ " ")) (zQ (a7 0))):∀{a:List Lr},(∀ws∈a,GR ws)->kH T C [] (a.map wl)=Y ((a.map ln).map .str)
 |[],_=>rfl
 |ws::a,h=>by
  have d:=join_rows T C b c λx (f:x∈a)=>h x (by simp[f]);have e:C [Y (wl ws)]=Y (.str (ln ws)):=by have g:=(h ws (by simp)).join;rw[c];simp? only[g]
  have i:T [Y (wl ws)]=Y true:=by rw[b]
  rw[af,kH,i]
  simp? only[e,d]
def Tj(a:List Int)(k:Nat):∃c:Int,iM [.list (a.map .int),.int (k:Int)]=Y (.int c):=by
 by_cases h:k<a.length
 ·refine⟨a[k],?_⟩;have b:An (zi k) (zi ((a.map eW.int).length:Nat))=Y (.bool true):=by
   have:(k:Int)<((a.length:Nat):Int):=by omega
   simp[An,dI,this]
  have d:mj (.list (a.map .int)) (zi k)=Y (.int a[k]):=by rw[zG,atN,az,aI h];rfl
  simp? only[iM,pC,A4,b,d]
 ·refine⟨0,?_⟩;have b:An (zi k) (zi ((a.map eW.int).length:Nat))=Y (.bool false):=ZO (by simp;omega)
  simp? only[iM,pC,A4,b]
def Pw(c:List Int)(a b:Option Int):∃l:List Int,nk (c.map eW.int) a b=l.map .int:=by unfold nk;rw[<-List.map_drop,<-eE];exact⟨_,rfl⟩
def Tn(l:List α):(nk l (Y 1) (Y 63)).length<=62:=by unfold nk;rw[rT,rT,ai (by omega),ai (by omega),cx,dF];omega
abbrev ZS:bb->Option eW:=iE (zX (kn (gq (kn (zC "ka" (zC "k" (zC "kab" f7)))) (zQ (iE (a7 2) jV (iV (zI 3)))))) (d2 pN (d2 qN (a7 1) (zI 243)) (zI 2))) jV (iV (d2 kb (zI 1) (d2 pN (a7 1) (zI 3))))
def LY{d:Lr}(G:d.length=6)(u:d.Nodup)(y:∀w∈d,ua w=true)(c:Int)(A:(ρ[1]?).join=Y (.int c))(z:(ρ[2]?).join=Y (wl d)):∃f:Lr,f.Nodup/\(∀w∈f,ua w=true)/\0<f.length/\f.length<=3/\ZS ρ=Y (wl f):=by
 obtain⟨a,F,C⟩:=pa (c / 243) (n:=2) (by omega);obtain⟨b,E,B⟩:=pa c (n:=3) (by omega);have m:c / 243 % 2=(a:Int):=C;have k:c % 3=(b:Int):=B;have t:=D6 (i:=c) (j:=243) (by omega) (by omega);have p:=xE (i:=c / 243) (j:=2) (by omega);have o:=xE (i:=c) (j:=3) (by omega);rw[m] at p;rw[k] at o;have s:=Pt 1 (b:Int);have r:L0 (wl d) Z (Y 3)=Y (wl (d.take 3)):=by show Y (eW.list (nk (d.map .str) Z (Y ((3:Nat):Int))))=_;rw[D5,<-eE]
 have g:∀l:Lr,l.Nodup->(∀w∈l,ua w=true)->l.length=3->mj (.list [.list [.str (zZ "ka"),.str (zZ "k"),.str (zZ "kab")],wl (d.take 3)]) (zi a)=Y (wl l)->∃f:Lr,f.Nodup/\(∀w∈f,ua w=true)/\0<f.length/\f.length<=3/\ZS ρ=Y (wl f):=by
  intro l x v D e;refine⟨l.take (1+b),x.sublist (eh _ _),λw hw=>v w (cP hw),by simp;omega,by simp;omega,?_⟩;have q:L0 (wl l) Z (Y (1+(b:Int)))=Y (wl (l.take (1+b))):=by show Y (eW.list (nk (l.map .str) Z (Y (1+(b:Int)))))=_;rw[show 1+(b:Int)=((1+b:Nat):Int) by omega,D5,<-eE]
  simp? only[ZS,A,z,r,t,p,e,o,s,q]
 have h:a=0\/a=1:=by omega
 rcases h with rfl|rfl
 ·exact g [zZ "ka",zZ "k",zZ "kab"] (by decide +kernel) (by decide +kernel) rfl rfl
 ·exact g (d.take 3) (u.sublist (eh _ _)) (λw hw=>y w (cP hw)) (by simp;omega) rfl
def To(k:Str):zZ "kind "++k=ln [zZ "kind",k]:=by
 have e:(zZ "kind "++k).cps.toList=(ln [zZ "kind",k]).cps.toList:=by
  unfold ln;rw[p9,eU,Array.toList_append];have:(zZ "kind ").cps.toList=(zZ "kind").cps.toList++[32]:=by decide +kernel
  rw[this,aJ]
  congr 1
 have a:(zZ "kind "++k).cps=(ln [zZ "kind",k]).cps:=eL.mp e;cases h:zZ "kind "++k;cases h':ln [zZ "kind",k];rw[h,h'] at a;cases a;rfl
theorem Af:∀b:Lr,(∀k∈b,ua k=true)->kH p5 oK [] (b.map .str)=Y ((b.map λk=>ln [zZ "kind",k]).map .str)
 |[],_=>rfl
 |k::b,h=>by
  have c:=Af b λx d=>h x (by simp[d]);have i:=ub.mp (h k (by simp));have g:(zZ "kind ").length=5:=by decide +kernel
  have a:=DK (zZ "kind ") k (by omega);rw[To] at a;have e:oK [Y (.str k)]=Y (.str (ln [zZ "kind",k])):=by rw[oK];simp? only[a]
  have f:p5 [Y (.str k)]=Y true:=rfl;rw[af,kH,f];simp only[ab,bD,e,c,af]
def Py(O F:eW)(f:Int)(g:eW)(b:Bool)(c:List Nat)(e:Lp)(a:eW)(N:List (Str×Nat)):fg (SH O F f g (if b then [.l 5] else []) c e a N) 8 (.l 1)=Y (SV O F f g (if b then [CD a N] else []) (c.map TD) e):=by
 have j:fg (SH O F f g (if b then [.l 5] else []) c e a N) 5 (.l 6)=Y (Y5 N):=by show (ia (λq:Key×MV=>(fg _ 4 q.2).map λy=>(j8 q.1,y)) (N.map kP)).map eW.dict=_;rw[DY];rfl
 have n:fg (SH O F f g (if b then [.l 5] else []) c e a N) 7 (.l 3)=Y (.list (c.map TD)):=by show (ia (fg _ 6) (n3 7 c)).map eW.list=_;have:=DX (k:=3) c [.ins "Machine" [("state",.l 1)],.ins "State" (B6 O F f g),.lst (if b then [.l 5] else []),.lst (n3 7 c),.lst (e.map .d),.ins "Call" [("body",.d (.str dr)),("path",.d (.tuple [])),("row",.d a),("named",.l 6)],.jt (N.map kP)];have t:ia (fg (SH O F f g (if b then [.l 5] else []) c e a N) 6) (n3 7 c)=Y (c.map TD):=this;rw[t];rfl
 have m:fg (SH O F f g (if b then [.l 5] else []) c e a N) 7 (.l 4)=Y (.list e):=by show (ia (fg _ 6) (e.map .d)).map eW.list=_;rw[z8];rfl
 have i:fg (SH O F f g (if b then [.l 5] else []) c e a N) 6 (.l 5)=Y (CD a N):=by show (ia (λq:Str×MV=>(fg (SH O F f g (if b then [.l 5] else []) c e a N) 5 q.2).map λy=>(eW.str q.1,y)) [("body",.d (.str dr)),("path",.d (.tuple [])),("row",.d a),("named",.l 6)]).map (λr=>eW.dict ((.none,.str "Call")::r))=_;have h:∀d,fg (SH O F f g (if b then [.l 5] else []) c e a N) 5 (.d d)=Y d:=λ_=>rfl;simp only[ia,h,j,aG,ab];rfl
 have o:fg (SH O F f g (if b then [.l 5] else []) c e a N) 7 (.l 2)=Y (.list (if b then [CD a N] else [])):=by
  show (ia (fg (SH O F f g (if b then [.l 5] else []) c e a N) 6) (if b then [.l 5] else [])).map eW.list=_;cases b with
  |false=>rfl
  |true=>simp only[bD] at i ⊢;simp only[ia,i,ab,aG]
 show (ia (λq:Str×MV=>(fg (SH O F f g (if b then [.l 5] else []) c e a N) 7 q.2).map λy=>(eW.str q.1,y)) (B6 O F f g)).map (λr=>eW.dict ((.none,.str "State")::r))=_;have h:∀d,fg (SH O F f g (if b then [.l 5] else []) c e a N) 7 (.d d)=Y d:=λ_=>rfl;simp only[B6,ia,h,o,n,m,aG,ab];rfl
def Pz(O F:eW)(f:Int)(g:eW)(b:Bool)(d:List Nat)(c:Lp)(a:eW)(N:List (Str×Nat)):fg (SH O F f g (if b then [.l 5] else []) d c a N) 9 (.l 0)=Y (.dict [(.none,.str "Machine"),(.str "state",SV O F f g (if b then [CD a N] else []) (d.map TD) c)]):=by have e:=Py O F f g b d c a N;show (ia (λq:Str×MV=>(fg (SH O F f g (if b then [.l 5] else []) d c a N) 8 q.2).map λy=>(eW.str q.1,y)) [("state",.l 1)]).map (λr=>eW.dict ((.none,.str "Machine")::r))=_;simp only[ia,e,aG,ab]
def Zp(d:eW)(O F:eW)(f:Int)(a:eW)(c e b:Lp)(h:d=SV O F f a c e b):kW [.dict [(.none,.str "Machine"),(.str "state",d)]]=Y a:=by subst h;kernel_rfl
def Tp(d:eW):kL "Machine" "end" (.dict [(.none,.str "Machine"),(.str "state",d)])=true:=by kernel_rfl
def Zq(b:Lp):Prop:=∃a:Lr,(∀w∈a,eW.strOk w=true)/\b=a.map .str
theorem Ag(x:Str):∀D:List (Str×Str),(∀p∈D,eW.strOk p.2=true)->eW.strOk (iC x D)=true
 |[],_=>fO "none"
 | (y,s)::D,h=>by
  rw[iC];split
  ·exact h (y,s) (by simp)
  ·exact Ag x D λp a=>h p (by simp[a])
def Gr{s:Str}{D:List (Str×Str)}(h:∀p∈D,eW.strOk p.2=true)(b:eW.strOk s=true):∀p∈sV x s D,eW.strOk p.2=true:=by
 intro p a;unfold sV at a;split at a
 ·obtain⟨q,c,rfl⟩:=aK.mp a;split
  ·exact b
  ·exact h q c
 ·rcases aP.mp a with a|a
  ·exact h p a
  ·simp at a;subst a;exact b
theorem vn{e:Lr}(c:∀k∈e,ua k=true):∀(l:List R4) (D:List (Str×Str)) (d:Lp),(∀r∈l,r.Ok e)->(∀p∈D,eW.strOk p.2=true)->Zq d->Zq (nc l D d)
 |[],D,d,_,_,h=>h
 |r::l,D,d,ho,hD,h=>by
  have b:∀r∈l,r.Ok e:=λq g=>ho q (by simp[g]);cases r with
  |new x k=>exact vn c l _ _ b (Gr hD (Ol (c k ((ho _ (by simp)).kd x k rfl)))) h
  |copy x y=>exact vn c l _ _ b (Gr hD (Ag y D hD)) h
  |tell x=>
   refine vn c l _ _ b hD ?_;obtain⟨f,a,rfl⟩:=h;refine⟨f++[iC x D],λw hw=>?_,by simp⟩;rcases aP.mp hw with hw|hw
   ·exact a w hw
   ·simp at hw;subst hw;exact Ag x D hD
  |rest=>exact vn c l _ _ b hD h
def WN{b:Lp}(h:Zq b):kJ (.list b) (.list b)=Y (.bool true):=by obtain⟨c,a,rfl⟩:=h;have:=Ig a a;rw[aW rfl] at this;exact this
theorem JZ:∀l:Lp,uI (l.map .d)=Y l
 |[]=>rfl
 |x::l=>by rw[af,uI,JZ l];rfl
def Tq(O F:eW)(f:Int)(en:eW)(st:List MV)(ns:List Nat)(tl:Lp)(row:eW)(N:List (Str×Nat)):jn [.l 0] (SH O F f en st ns tl row N)=Y (.d (.list tl),SH O F f en st ns tl row N):=by
 have m1:(gm "State" "shown_texts" (gm "Machine" "state" (cn 0))) [Y (.l 0)] (SH O F f en st ns tl row N)=Y (.l 4,SH O F f en st ns tl row N):=by unfold SH;generalize n3 7 ns=a;generalize TH 7 ns=b;generalize N.map kP=c;generalize tl.map MV.d=e;kernel_rfl
 have m2:(SH O F f en st ns tl row N)[4]?=Y (.lst (tl.map .d)):=rfl;have hw:lR [Y (.l 0)] (SH O F f en st ns tl row N)=Y (.rt (.d (.list tl)) (SH O F f en st ns tl row N)):=by unfold lR px NO;simp only[m1,ab,m2,JZ,aG]
 unfold jn hV;show (lR [Y (.l 0)] _).bind _=_;rw[hw];rfl
def rX{ρ:MR}(h:f (uJ ρ)=Y d):hU (fF f) i ρ μ=Y (.nx (ρ.set i (zd d)) μ):=by unfold hU;rw[sT h];rfl
def PC{c:List R4}(T:JE ks c)(i:(ρ[3]?).join=Y (wl ks))(h:(ρ[4]?).join=Y (.list (c.map λr=>wl r.ws))):(d2 kb (d2 kb (d2 kb (jg (og (a7 3)) [] p5 oK) (kn (zC "main" f7))) (jg (og (a7 4)) [] rG rH)) (kn (zC "end" f7))) ρ=Y (wl ((gL ks c).map ln)):=by
 have o:=T.lr;have p:=T.lk;have a:jg (og (a7 3)) [] p5 oK ρ=Y (wl (ks.map λk=>ln [zZ "kind",k])):=by refine DJ (ds:=ks.map .str) ?_ (by simp;omega) (Af ks T.nm);unfold og;rw[Jn,i];rfl
 have j:(c.map λr=>wl r.ws)=(c.map R4.ws).map wl:=by rw[bc];rfl
 have b:jg (og (a7 4)) [] rG rH ρ=Y (wl ((c.map R4.ws).map ln)):=by
  refine DJ (ds:=(c.map R4.ws).map wl) ?_ (by simp;omega) (join_rows rG rH rfl rfl λws hw=>?_)
  ·unfold og;rw[Jn,h,j];rfl
  ·obtain⟨r,g,rfl⟩:=aK.mp hw;exact(T.ok r g).gr
 have n:=OH (ks.map λk=>ln [zZ "kind",k]) [zZ "main"] (by simp;omega);have m:=OH ((ks.map λk=>ln [zZ "kind",k])++[zZ "main"]) ((c.map R4.ws).map ln) (by simp;omega);have d:=OH ((ks.map λk=>ln [zZ "kind",k])++[zZ "main"]++(c.map R4.ws).map ln) [zZ "end"] (by simp;omega);have f:(eW.list [.str (zZ "main")])=wl [zZ "main"]:=rfl;have e:(eW.list [.str (zZ "end")])=wl [zZ "end"]:=rfl;have l:(ks.map λk=>ln [zZ "kind",k])++[zZ "main"]++(c.map R4.ws).map ln++[zZ "end"]=(gL ks c).map ln:=by unfold gL;rw[bf,af,bf,bc,bc,bc];simp only[aJ,aR,bC];rfl
 rw[l] at d;rw[N6,N6,N6,a,b];simp only[T2,xV,DE,Ry,ab,aG,ao,bZ,Nat.reduceAdd,sizeLine_eq,Nat.reduceLeDiff,bD,f,e,n,m,d]
def vrL(μ:MH)(k j i g f c b a:eW)(x y z:Od){v:eW}(h:fg μ 9 (.l 0)=Y v):pX μ [zd k,zd j,zd i,zd g,zd f,zd c,zd b,Y (.l 0),zd a,x.map .d,y.map .d,z.map .d]=[Y k,Y j,Y i,Y g,Y f,Y c,Y b,Y v,Y a,x,y,z]:=by
 have e:∀o:Od,(o.map MV.d).bind (fg μ 9)=o:=λo=>by cases o<;>rfl
 show [Y k,Y j,Y i,Y g,Y f,Y c,Y b,(Y (MV.l 0)).bind (fg μ 9),Y a,(x.map MV.d).bind (fg μ 9),(y.map MV.d).bind (fg μ 9),(z.map MV.d).bind (fg μ 9)]=_;rw[ab,h,e,e,e]
def aa3(a:List R4):Pk a [] [] []:=λ_=>rfl
abbrev uT2:MS:=si (gk (Cz (fB (d2 w8 (a7 8) (a7 10))) (fB (d2 w8 (iK "Machine" "end" 1 kW (a7 7) f7) (a7 9))))) (px (fF (dC (.bool false)))) oO
abbrev uT3:MS:=hU (gN "Machine" "told" 1 jn (cn 7) eX) 11
abbrev uT4:MS:=px (KY (fF (MY "list" (a7 11))) (KY (fF (d2 kJ (a7 11) (jR 2 mv (gq (a7 4) (zQ (a7 6)))))) (m2 qR (gN "Machine" "step" 1 fM (cn 7) eX) (fF (dC (.bool false))))))
section
variable {rs:List R4} (a0 a1 a2 a3 a5:eW) (g:Nat) (O F:eW) (f:Int) (b:Bool) (ns:List Nat) (row:eW) (N:List (Str×Nat))
def J0{a:eW}{X:Nat}{c:Lp}(x:rs.length<=62)(i:c=nc (rs.take g) [] [])(j:Zq c)(z:jy a .none=Y (.bool true))(y:w8 a a=Y (.bool false)):
  (fI uT2 (fI uT3 uT4)) [zd a0,zd a1,zd a2,zd a3,zd (.list (rs.map λr=>wl r.ws)),zd a5,zd (zi g),Y (.l 0),zd (zi X),zd a,zd (zi X),Z] (SH O F f a (zj b) ns c row N)=Y (.rt (.d (.bool true)) (SH O F f a (zj b) ns c row N)):=by
 have v:=Pz O F f a b ns c row N;have n:=vrL (SH O F f a (zj b) ns c row N) a0 a1 a2 a3 (.list (rs.map λr=>wl r.ws)) a5 (zi g) (zi X) (Y a) (Y (zi X)) Z v;have w:gk (Cz (fB (d2 w8 (a7 8) (a7 10))) (fB (d2 w8 (iK "Machine" "end" 1 kW (a7 7) f7) (a7 9)))) [zd a0,zd a1,zd a2,zd a3,zd (.list (rs.map λr=>wl r.ws)),zd a5,zd (zi g),Y (.l 0),zd (zi X),zd a,zd (zi X),Z] (SH O F f a (zj b) ns c row N)=Y (false,SH O F f a (zj b) ns c row N):=P0 (by
  refine Eq.trans (bL _ n) ?_;have h:=neI (X:Int) (X:Int);have k:(!((X:Int)==(X:Int)))=false:=by simp
  have B:=Tp (SV O F f a (if b=true then [CD row N] else []) (ns.map TD) c);have A:=Zp _ O F f a (if b=true then [CD row N] else []) (ns.map TD) c rfl
  simp? only[h,k,B,A,y])
 refine(gB (qb w)).trans ?_;have m:∀e:Str,uM "Machine" e (SH O F f a (zj b) ns c row N) (.l 0)=(pW e [("state",MV.l 1)]).isNone:=λe=>by show (decide (zZ "Machine"=zZ "Machine")&&(pW e [("state",MV.l 1)]).isNone)=_;simp
 have u:gN "Machine" "told" 1 jn (cn 7) eX [zd a0,zd a1,zd a2,zd a3,zd (.list (rs.map λr=>wl r.ws)),zd a5,zd (zi g),Y (.l 0),zd (zi X),zd a,zd (zi X),Z] (SH O F f a (zj b) ns c row N)=Y (.d (.list c),SH O F f a (zj b) ns c row N) :=
  (LR (as:=[]) (r:=.l 0) (μ1:=SH O F f a (zj b) ns c row N) (μ2:=SH O F f a (zj b) ns c row N) rfl (by rw[m];kernel_rfl) rfl rfl).trans (Tq O F f a _ ns c row N)
 refine(gB (ρ':=[zd a0,zd a1,zd a2,zd a3,zd (.list (rs.map λr=>wl r.ws)),zd a5,zd (zi g),Y (.l 0),zd (zi X),zd a,zd (zi X),zd (.list c)]) (μ':=SH O F f a (zj b) ns c row N) (by unfold uT3 hU;rw[u];rfl)).trans ?_;have t:gN "Machine" "step" 1 fM (cn 7) eX [zd a0,zd a1,zd a2,zd a3,zd (.list (rs.map λr=>wl r.ws)),zd a5,zd (zi g),Y (.l 0),zd (zi X),zd a,zd (zi X),zd (.list c)] (SH O F f a (zj b) ns c row N)=Y (.d (.bool false),SH O F f a (zj b) ns c row N) :=
  (LR (as:=[]) (r:=.l 0) (μ1:=SH O F f a (zj b) ns c row N) (μ2:=SH O F f a (zj b) ns c row N) rfl (by rw[m];kernel_rfl) rfl rfl).trans (Ad O F f b ns c row N z)
 have s:fF (d2 kJ (a7 11) (jR 2 mv (gq (a7 4) (zQ (a7 6))))) [zd a0,zd a1,zd a2,zd a3,zd (.list (rs.map λr=>wl r.ws)),zd a5,zd (zi g),Y (.l 0),zd (zi X),zd a,zd (zi X),zd (.list c)] (SH O F f a (zj b) ns c row N)=Y (.d (.bool true),SH O F f a (zj b) ns c row N):=by
  refine sT ?_;show (d2 kJ (a7 11) (jR 2 mv (gq (a7 4) (zQ (a7 6))))) [Y a0,Y a1,Y a2,Y a3,Y (.list (rs.map λr=>wl r.ws)),Y a5,Y (zi g),Z,Y (zi X),Y a,Y (zi X),Y (.list c)]=_;have h:=WK x g;rw[<-i] at h;have k:=WN j
  simp? only[h,k]
 have q:fF (MY "list" (a7 11)) [zd a0,zd a1,zd a2,zd a3,zd (.list (rs.map λr=>wl r.ws)),zd a5,zd (zi g),Y (.l 0),zd (zi X),zd a,zd (zi X),zd (.list c)] (SH O F f a (zj b) ns c row N)=Y (.d (.bool true),SH O F f a (zj b) ns c row N):=by refine sT ?_;rfl
 have p:fF (dC (.bool false)) [zd a0,zd a1,zd a2,zd a3,zd (.list (rs.map λr=>wl r.ws)),zd a5,zd (zi g),Y (.l 0),zd (zi X),zd a,zd (zi X),zd (.list c)] (SH O F f a (zj b) ns c row N)=Y (.d (.bool false),SH O F f a (zj b) ns c row N):=rfl;have o:qR (.bool false) (.bool false)=Y (.bool true):=rfl;have C:∀d:eW,qs (.d d)=Y d:=λ_=>rfl;unfold uT4 px KY;simp only[q,ab,s,m2,t,p,C,o,aG]
end
def PH:∀h:List Int,h.length<=63->(∀x∈h,ni x=true)->Jl [.list (h.map .int)]=Y (.bool true):=by
 intro h _ _;obtain⟨c,hc⟩:=Tj h 0;obtain⟨f,L,C,y,X⟩:=LX (c / 486);obtain⟨e,D,t,V,U,hk⟩:=LY L C y c (ρ:=[Y (.list (h.map .int)),Y (.int c),Y (wl f),Z,Z,Z,Z,Z,Z,Z,Z,Z]) rfl rfl;obtain⟨l,M⟩:=Pw h (Y 1) (Y 63);have ll:l.length<=62:=by have:=Tn (h.map eW.int);rw[M,aC] at this;exact this
 obtain⟨a,r1,K,O⟩:=Gq L y t V l;have T:JE e a:=⟨D,t,K,U,by omega⟩
 obtain⟨E,en,F⟩:=YZ T;obtain⟨g,hg,eg⟩:=pa (c / 3) (n:=81) (by omega);have H:c / 3 % 81=(g:Int):=eg;have J:=D6 (i:=c) (j:=486) (by omega) (by omega);have I:=D6 (i:=c) (j:=3) (by omega) (by omega);have B:=xE (i:=c / 3) (j:=81) (by omega);rw[H] at B;have S1:hU (fF (jR 2 iM (gq (a7 0) (zQ (zI 0))))) 1 [zd (.list (h.map .int)),Z,Z,Z,Z,Z,Z,Z,Z,Z,Z,Z] []=Y (.nx [zd (.list (h.map .int)),zd (.int c),Z,Z,Z,Z,Z,Z,Z,Z,Z,Z] []):=rX (by
  show (jR 2 iM (gq (a7 0) (zQ (zI 0)))) [Y (.list (h.map .int)),Z,Z,Z,Z,Z,Z,Z,Z,Z,Z,Z]=_;have G:iM [.list (h.map .int),.int 0]=Y (.int c):=hc
  simp? only[G])
 have S2:hU (fF (jR 1 lx (zQ (d2 qN (a7 1) (zI 486))))) 2 [zd (.list (h.map .int)),zd (.int c),Z,Z,Z,Z,Z,Z,Z,Z,Z,Z] []=Y (.nx [zd (.list (h.map .int)),zd (.int c),zd (wl f),Z,Z,Z,Z,Z,Z,Z,Z,Z] []):=rX (by
  show (jR 1 lx (zQ (d2 qN (a7 1) (zI 486)))) [Y (.list (h.map .int)),Y (.int c),Z,Z,Z,Z,Z,Z,Z,Z,Z,Z]=_
  simp? only[J,X])
 have S3:hU (fF ZS) 3 [zd (.list (h.map .int)),zd (.int c),zd (wl f),Z,Z,Z,Z,Z,Z,Z,Z,Z] []=Y (.nx [zd (.list (h.map .int)),zd (.int c),zd (wl f),zd (wl e),Z,Z,Z,Z,Z,Z,Z,Z] []):=rX hk;have S4:hU (fF (jg (og (iE (a7 0) (iV (zI 1)) (iV (zI 63)))) [(2,"_law_names_here"),(3,"_law_kinds")] rF p4)) 4 [zd (.list (h.map .int)),zd (.int c),zd (wl f),zd (wl e),Z,Z,Z,Z,Z,Z,Z,Z] []=Y (.nx [zd (.list (h.map .int)),zd (.int c),zd (wl f),zd (wl e),zd (.list (a.map λr=>wl r.ws)),Z,Z,Z,Z,Z,Z,Z] []):=rX (by
  show (jg (og (iE (a7 0) (iV (zI 1)) (iV (zI 63)))) [(2,"_law_names_here"),(3,"_law_kinds")] rF p4) [Y (.list (h.map .int)),Y (.int c),Y (wl f),Y (wl e),Z,Z,Z,Z,Z,Z,Z,Z]=_;refine DJ (ds:=l.map .int) ?_ (by simp;omega) O;unfold og
  simp? only[YL,M])
 have S5:hU (fF (d2 kb (d2 kb (d2 kb (jg (og (a7 3)) [] p5 oK) (kn (zC "main" f7))) (jg (og (a7 4)) [] rG rH)) (kn (zC "end" f7)))) 5 [zd (.list (h.map .int)),zd (.int c),zd (wl f),zd (wl e),zd (.list (a.map λr=>wl r.ws)),Z,Z,Z,Z,Z,Z,Z] []=Y (.nx [zd (.list (h.map .int)),zd (.int c),zd (wl f),zd (wl e),zd (.list (a.map λr=>wl r.ws)),zd (wl ((gL e a).map ln)),Z,Z,Z,Z,Z,Z] []):=rX (PC T rfl rfl);have S6:hU (fF (d2 pN (d2 qN (a7 1) (zI 3)) (zI 81))) 6 [zd (.list (h.map .int)),zd (.int c),zd (wl f),zd (wl e),zd (.list (a.map λr=>wl r.ws)),zd (wl ((gL e a).map ln)),Z,Z,Z,Z,Z,Z] []=Y (.nx [zd (.list (h.map .int)),zd (.int c),zd (wl f),zd (wl e),zd (.list (a.map λr=>wl r.ws)),zd (wl ((gL e a).map ln)),zd (zi g),Z,Z,Z,Z,Z] []):=rX (by
  show (d2 pN (d2 qN (a7 1) (zI 3)) (zI 81)) [Y (.list (h.map .int)),Y (.int c),Y (wl f),Y (wl e),Y (.list (a.map λr=>wl r.ws)),Y (wl ((gL e a).map ln)),Z,Z,Z,Z,Z,Z]=_
  simp? only[I,B])
 have W:=RV (YY T).gr (by have:=T.lr;simp[gL];omega);have M1:(c5 (fF (jR 1 g0 (zQ (xM pS (zA "\n") (zQ (a7 5)))))) (c5 (fF (kn f7)) (c5 (cn 6) eX))) [zd (.list (h.map .int)),zd (.int c),zd (wl f),zd (wl e),zd (.list (a.map λr=>wl r.ws)),zd (wl ((gL e a).map ln)),zd (zi g),Z,Z,Z,Z,Z] []=Y ([.d (iZ e a E),.d (.list []),.d (zi g)],[]):=by
  have R:fF (jR 1 g0 (zQ (xM pS (zA "\n") (zQ (a7 5))))) [zd (.list (h.map .int)),zd (.int c),zd (wl f),zd (wl e),zd (.list (a.map λr=>wl r.ws)),zd (wl ((gL e a).map ln)),zd (zi g),Z,Z,Z,Z,Z] []=Y (.d (iZ e a E),[]):=sT (by
   show (jR 1 g0 (zQ (xM pS (zA "\n") (zQ (a7 5))))) [Y (.list (h.map .int)),Y (.int c),Y (wl f),Y (wl e),Y (.list (a.map λr=>wl r.ws)),Y (wl ((gL e a).map ln)),Y (zi g),Z,Z,Z,Z,Z]=_
   simp? only[W,F])
  have Q:fF (kn f7) [zd (.list (h.map .int)),zd (.int c),zd (wl f),zd (wl e),zd (.list (a.map λr=>wl r.ws)),zd (wl ((gL e a).map ln)),zd (zi g),Z,Z,Z,Z,Z] []=Y (.d (.list []),[]):=sT (by simp? only[Ry]);have P:cn 6 [zd (.list (h.map .int)),zd (.int c),zd (wl f),zd (wl e),zd (.list (a.map λr=>wl r.ws)),zd (wl ((gL e a).map ln)),zd (zi g),Z,Z,Z,Z,Z] []=Y (.d (zi g),[]):=rfl;simp only[c5,eX,R,Q,P,ab,aG]
 have S:=Wv T en (g:Int);have S7:hU (rm "Machine" 4 jl (c5 (fF (jR 1 g0 (zQ (xM pS (zA "\n") (zQ (a7 5)))))) (c5 (fF (kn f7)) (c5 (cn 6) eX)))) 7 [zd (.list (h.map .int)),zd (.int c),zd (wl f),zd (wl e),zd (.list (a.map λr=>wl r.ws)),zd (wl ((gL e a).map ln)),zd (zi g),Z,Z,Z,Z,Z] []=Y (.nx [zd (.list (h.map .int)),zd (.int c),zd (wl f),zd (wl e),zd (.list (a.map λr=>wl r.ws)),zd (wl ((gL e a).map ln)),zd (zi g),Y (.l 0),Z,Z,Z,Z] (ST (OL e a) (FL a.length) a.length (g:Int) 0 [] [] [])):=by unfold hU rm;rw[M1,ab];show ((jl [.l 0,.d (iZ e a E),.d (.list []),.d (zi g)] [.ins "Machine" []]).bind _).map _=_;rw[S];rfl
 obtain⟨o,b,m,k,p,hw⟩:=Uj T (zd (.list (h.map .int))) (zd (.int c)) (zd (wl f)) (zd (wl e)) (zd (.list (a.map λr=>wl r.ws))) (zd (wl ((gL e a).map ln))) (zd (zi g)) a 0 g 0 1000000 [] [] [] [] rfl (by simp) (by simp) (by simp) (by simp) (aa3 a) (by omega);have z:Zq (nc (a.take g) [] []):=vn t _ _ _ (λr F=>K r (cP F)) (by simp) ⟨[],by simp,rfl⟩;have s:a.length<=62:=T.lr;have u:∃μ,Jk [zd (.list (h.map .int)),Z,Z,Z,Z,Z,Z,Z,Z,Z,Z,Z] []=Y (.rt (.d (.bool true)) μ):=by
  unfold Jk;refine⟨SH (OL e a) (FL a.length) o (if g<a.length then rV else qc) (zj b) m (nc (a.take g) [] []) k p,?_⟩;refine(gB S1).trans ((gB S2).trans ((gB S3).trans ((gB S4).trans ((gB S5).trans ((gB S6).trans ((gB S7).trans ?_))))));refine(gB (ρ':=RR (zd (.list (h.map .int))) (zd (.int c)) (zd (wl f)) (zd (wl e)) (zd (.list (a.map λr=>wl r.ws))) (zd (wl ((gL e a).map ln))) (zd (zi g)) 0) (μ':=ST (OL e a) (FL a.length) a.length (g:Int) 0 [] [] []) rfl).trans ?_;refine(gB hw).trans ?_;have v:=Pz (OL e a) (FL a.length) o (if g<a.length then rV else qc) b m (nc (a.take g) [] []) k p;rw[cT];refine(gB (ρ':=[zd (.list (h.map .int)),zd (.int c),zd (wl f),zd (wl e),zd (.list (a.map λr=>wl r.ws)),zd (wl ((gL e a).map ln)),zd (zi g),Y (.l 0),zd (zi (if g<a.length then g+1 else a.length:Nat)),zd qc,Z,Z]) (μ':=SH (OL e a) (FL a.length) o (if g<a.length then rV else qc) (zj b) m (nc (a.take g) [] []) k p) (rX (by rfl))).trans ?_;have A:mO [.list (a.map λr=>wl r.ws)]=Y (zi a.length):=by rw[A4,aC]
  refine(gB (ρ':=[zd (.list (h.map .int)),zd (.int c),zd (wl f),zd (wl e),zd (.list (a.map λr=>wl r.ws)),zd (wl ((gL e a).map ln)),zd (zi g),Y (.l 0),zd (zi (if g<a.length then g+1 else a.length:Nat)),zd qc,zd (zi a.length),Z]) (μ':=SH (OL e a) (FL a.length) o (if g<a.length then rV else qc) (zj b) m (nc (a.take g) [] []) k p) (rX (by
   show (zN (a7 4)) [Y (.list (h.map .int)),Y (.int c),Y (wl f),Y (wl e),Y (.list (a.map λr=>wl r.ws)),Y (wl ((gL e a).map ln)),Y (zi g),Z,Y (zi (if g<a.length then g+1 else a.length:Nat)),Y qc,Z,Z]=_
   simp? only[A]))).trans ?_
  have N:=vrL (SH (OL e a) (FL a.length) o (if g<a.length then rV else qc) (zj b) m (nc (a.take g) [] []) k p) (.list (h.map .int)) (.int c) (wl f) (wl e) (.list (a.map λr=>wl r.ws)) (wl ((gL e a).map ln)) (zi g) (zi (if g<a.length then g+1 else a.length:Nat)) (Y qc) (Y (zi a.length)) Z v;have w:gk (fB (d2 An (a7 6) (zN (a7 4)))) [zd (.list (h.map .int)),zd (.int c),zd (wl f),zd (wl e),zd (.list (a.map λr=>wl r.ws)),zd (wl ((gL e a).map ln)),zd (zi g),Y (.l 0),zd (zi (if g<a.length then g+1 else a.length:Nat)),zd qc,zd (zi a.length),Z] (SH (OL e a) (FL a.length) o (if g<a.length then rV else qc) (zj b) m (nc (a.take g) [] []) k p)=Y (decide ((g:Int)<(a.length:Int)),SH (OL e a) (FL a.length) o (if g<a.length then rV else qc) (zj b) m (nc (a.take g) [] []) k p):=P0 (by
   refine Eq.trans (bL _ N) ?_;have e1:An (zi g) (zi a.length)=Y (.bool (decide ((g:Int)<(a.length:Int)))):=rfl
   simp? only[A,e1])
  by_cases q:g<a.length
  ·rw[aW (by omega)] at w;simp only[ah q] at w v ⊢;refine(gB (ρ':=[zd (.list (h.map .int)),zd (.int c),zd (wl f),zd (wl e),zd (.list (a.map λr=>wl r.ws)),zd (wl ((gL e a).map ln)),zd (zi g),Y (.l 0),zd (zi (g+1:Nat)),zd rV,zd (zi (g+1:Nat)),Z]) (μ':=SH (OL e a) (FL a.length) o rV (zj b) m (nc (a.take g) [] []) k p) ?_).trans ?_
   ·rw[z9 w];rfl
   ·exact J0 _ _ _ _ _ g _ _ o b m k p s rfl z rfl (zK 0)
  ·rw[aO (by omega)] at w;simp only[ai q] at w v ⊢;refine(gB (ρ':=[zd (.list (h.map .int)),zd (.int c),zd (wl f),zd (wl e),zd (.list (a.map λr=>wl r.ws)),zd (wl ((gL e a).map ln)),zd (zi g),Y (.l 0),zd (zi a.length),zd qc,zd (zi a.length),Z]) (μ':=SH (OL e a) (FL a.length) o qc (zj b) m (nc (a.take g) [] []) k p) ?_).trans ?_
   ·rw[qb w];rfl
   ·exact J0 _ _ _ _ _ g _ _ o b m k p s rfl z rfl (zK 0)
 obtain⟨μ,u⟩:=u;unfold Jl yS;show (Jk [zd (.list (h.map .int)),Z,Z,Z,Z,Z,Z,Z,Z,Z,Z,Z] []).bind _=_;rw[u];rfl
end K07
namespace PySem.W.Fast
def tw14620893749645740570:=0
def tw17100852000498581239:=0
def tw207963649122651268:=0
def tw9260211331931346899:=0
def tw4950880015414821683:=0
def tw14738389983821126263:=0
def tw441684686949414823:=0
def tw5680534488145348199:=0
def tw10521660846347652813:=0
def tw2397541478271091568:=0
def tw14128095818198049714:=0
def tw3285046988781212222:=0
def tw45969819208974643:=0
def tw975835399326219406:=0
def tw10095083947457962763:=0
def tw14764495907116174212:=0
def tw2477084280067982633:=0
def tw921839260729484234:=0
def tw1421858052252534605:=0
def tw3185141533067379978:=0
def tw2148673604024434340:=0
def tw13704243094278584324:=0
def tw84669948918672819:=0
def tw12159146375618172058:=0
def tw16860626224503106792:=0
def tw11925549920111408377:=0
def tw18293623078821098352:=0
def tw5788223411701481687:=0
def tw7156810438037773127:=0
def tw6123158738535666258:=0
def tw13042020729886891142:=0
def tw8507815908463429758:=0
def tw6321034330577488078:=0
def tw14901908748629965796:=0
def tw4428072545269756015:=0
def tw3838689298385310390:=0
def tw17048494725832815301:=0
def tw11135115658667360630:=0
def tw9289988459154315490:=0
def tw12047424511442847172:=0
def tw13043295289766334839:=0
def tw2602685526203853483:=0
def tw17458109593106523055:=0
def tw12116562173158930792:=0
def tw8824478556931688799:=0
def tw17121175758817548680:=0
def tw16481503903757636513:=0
def tw8047548818890689420:=0
def tw8839553727003998185:=0
def tw8910395265403194036:=0
def tw17481423823605171717:=0
def tw9035142979812977250:=0
def tw9339197995106187891:=0
def tw11631601593375968318:=0
def tw15893757572011268624:=0
def tw2453337229688911622:=0
def tw16783098471285033598:=0
def tw5087201057128125241:=0
def tw3028377571761960229:=0
def tw7017743763065791020:=0
def tw6624762446780929136:=0
def tw7611172857638379448:=0
def tw15809711687424292588:=0
def tw8735493025555704303:=0
def tw13135329082989868622:=0
def tw4886306843092843171:=0
def tw15620299423031802992:=0
def tw16124686295937427482:=0
def tw13796460959340303205:=0
def tw11123836126269293952:=0
def tw6253859264857220135:=0
def tw154486026390428599:=0
def tw5425533702930230133:=0
def tw6102502834134376904:=0
def tw5127503094122940828:=0
def tw10514649593630756087:=0
def tw10204934727188519912:=0
def tw7646209103401915688:=0
def tw2722585062302765457:=0
def tw5561615728635941699:=0
def tw5698478253995459313:=0
def tw3984264021123588729:=0
def tw8050556035700202373:=0
def tw2687282201966800996:=0
def tw16839710011844170727:=0
def tw13624166967168660691:=0
def tw12632832165445133210:=0
def tw15302766276710745080:=0
def tw9224488750791584383:=0
def tw7957683669854553467:=0
def tw12201139949742645137:=0
def tw15369431819951434012:=0
def tw14011665289272085467:=0
def tw15627860217463884946:=0
def tw16988437843181843874:=0
def tw16741782683802272688:=0
def tw13753077941683162482:=0
def tw5606121531384249021:=0
def tw10765875325408439024:=0
def tw6247416450474682667:=0
def tw13092027111061310191:=0
def tw7814952300796106768:=0
def tw3991728317297904968:=0
def tw3912708478562886776:=0
def tw12991476014422039029:=0
def tw7110435700051762299:=0
def tw12835812571705279511:=0
def tw16587499417009729000:=0
def tw10262467887670221292:=0
def tw10773609567288206368:=0
def tw18005709221539127052:=0
def tw5717529513370169766:=0
def tw11661854992362994241:=0
def tw7529617057961089282:=0
def tw14195734505903402117:=0
def tw6595200840112656553:=0
def tw7539850640354383468:=0
def tw9199798640436515323:=0
def tw14788540541461583512:=0
def tw13938642296375983744:=0
def tw11401430226123265274:=0
def tw5443638558558313855:=0
def tw7992828197973882439:=0
def tw18063049875517766689:=0
def tw11171696004291615117:=0
def tw2630630568596744145:=0
def tw5439093575612822351:=0
def tw5395658606918827476:=0
def tw11950305979101298986:=0
def tw18365013415389229727:=0
def tw291712701415396126:=0
def tw3106122730015071278:=0
def tw10151638752095909672:=0
def tw18082401043595429487:=0
def tw17188729455672833536:=0
def tw17947414321135991687:=0
def tw6470108446574727031:=0
def tw10261618372266395170:=0
def tw4518475252235679244:=0
def tw3461216409501180151:=0
def tw6373039850392747292:=0
def tw4325449699117805942:=0
def tw275584457736737083:=0
def tw15276975732627444834:=0
def tw848383866218183410:=0
def tw5850120489738715774:=0
def tw5375699442198435053:=0
def tw9171502194083773289:=0
def tw8930788644603560760:=0
def tw5086009946810829671:=0
def tw566295467371993371:=0
def tw1889394215865976678:=0
def tw11298823242163546906:=0
def tw8775464241653720166:=0
def tw9179129878866419208:=0
def tw14845299800469388704:=0
def tw17626278077928228295:=0
def tw4385578403090467585:=0
def tw6556284203083619855:=0
def tw165092904220235725:=0
def tw2884807015135333697:=0
def tw10152665685473863217:=0
def tw17232371983334525418:=0
def tw7308658512336540023:=0
def tw2742655908668452253:=0
def tw8126173876319352206:=0
def tw2531287108844164585:=0
def tw12311037966352981607:=0
def tw12862580216285452960:=0
def tw7057376990542787320:=0
def tw12713189479175109019:=0
def tw13078987779936610653:=0
def tw9644792161082742178:=0
def tw8507313897831446475:=0
def tw5462428549551162624:=0
def tw13753128671499221119:=0
def tw4208561741494119008:=0
def tw16514156075505090993:=0
def tw7542698153214739968:=0
def tw14099370407348490812:=0
def tw18362697685626310976:=0
def tw6289073381588310947:=0
def tw16733309810063712324:=0
def tw11794001472704170232:=0
def tw10423634909987316574:=0
def tw15126093181154684195:=0
def tw2887803980014408651:=0
def tw4525843681700282656:=0
def tw9678185747283016714:=0
def tw7399432544641986215:=0
def tw3883493229423056453:=0
def tw2579150760359073425:=0
def tw17913358362990265099:=0
def tw4737706151901663015:=0
def tw6428599398937919176:=0
def tw5284847257135368999:=0
def tw6014421972861049699:=0
def tw15632200647680016682:=0
def tw15185451435264485253:=0
def tw14098408162466591520:=0
def tw9598496834196440032:=0
def tw18376766721914392950:=0
def tw7910355413914327411:=0
def tw6581237356517225427:=0
def tw15814116606543990978:=0
def tw10770708503550073437:=0
def tw5570050133769445548:=0
def tw7336263333042059842:=0
def tw3679875615566412098:=0
def tw8092732789654003327:=0
def tw6903781262473696574:=0
def tw2754280217009958202:=0
def tw6419823499336076661:=0
def tw3385160264119658244:=0
def tw16589138095388880368:=0
def tw2071542439234308893:=0
def tw16232517041921497563:=0
def tw15356735835400617596:=0
def tw12266286873332664290:=0
def tw15900025708543337909:=0
def tw15536581963368140067:=0
def tw10829637140162978972:=0
def tw12150578649764738703:=0
def tw17204878524975947836:=0
def tw10797275002623951135:=0
def tw10783114642116299707:=0
def tw17732717536225423323:=0
def tw5623624970736873736:=0
def tw6283061297182029268:=0
def tw12357905481741852048:=0
def tw6309176062605638356:=0
def tw11023897553764293789:=0
def tw14938797806191788747:=0
def tw667832806446705942:=0
def tw16412174512880091123:=0
def tw8531356417668295608:=0
def tw14936051151626138409:=0
def tw15509820967638062599:=0
def tw18246717583092525099:=0
def tw9490786551394069485:=0
def tw11062250364117837692:=0
def tw5741223048526144566:=0
def tw9983889506949011560:=0
def tw3031368635311593787:=0
def tw14554944893651341351:=0
def tw5610488270249073533:=0
def tw17427605532877869804:=0
def tw4595675926239610791:=0
def tw15880087461935109923:=0
def tw11032005427113722256:=0
def tw5518096492640264285:=0
def tw12312605480970547805:=0
def tw8911693881088691113:=0
def tw13705260667364877608:=0
def tw14928529720614638750:=0
def tw3411282075111059429:=0
def tw1538829936451833238:=0
def tw12462989971165814882:=0
def tw5570834295861687396:=0
def tw13051884692990651409:=0
def tw12499612920946366487:=0
def tw7965293522201254601:=0
def tw1023147863725223978:=0
def tw6218271059478396670:=0
def tw9293331383755940578:=0
def tw1517557332548727449:=0
def tw1228616121087224292:=0
def tw17760609948283588035:=0
def tw17427594193285409925:=0
def tw12451192747180248418:=0
end PySem.W.Fast
open PySem PySem.W PyProof.Rows
set_option maxHeartbeats 0 in
theorem PySem.Challenge.cw_pointsure_k07_copies_told_holds : PySem.Challenge.rw_pointsure_k07_copies_told.Holds := by
  w_on; o_law; k_head; (case hw => w_witness2)
  k_fill
  refine L2.Kt (l := PySem.Challenge.rw_pointsure_k07_copies_told) (n := 63) (k := 11) (x := "_law_script") (f := K07.Jl) rfl (by decide) rfl ⟨rfl, by decide, by decide⟩ (fun w h Y => PySem.W.kIn_of Y) ?F K07.PH
  case F =>
    intro w mg fa h KX G hmg
    refine K07.Vw ?zM hmg
    constructor
    all_goals first
   |(refine PySem.W.mg_none_of KX G ?_;first|k_is|decide)
   |(apply L2.Yg<;>first|k_is|decide)
   |(apply L2.fnAt KX G<;>first|k_is|decide)
   |(apply L2.aaD<;>first|k_is|decide)
   |(apply L2.Vo KX G<;>first|k_is|decide)
   |(apply K07.LI KX G<;>first|k_is|decide)
   |(apply K07.xB KX G<;>first|k_is|decide)
   |(apply K07.FW KX G<;>first|k_is|decide)
   |(apply K07.zz KX G<;>first|k_is|decide)
   |(apply K07.LJ KX G<;>first|k_is|decide)
   |(apply L2.intAt KX G<;>first|k_is|decide)
   |(apply K07.LK KX G<;>first|k_is|decide)
