import PyProof.Rows.All
import Wide.All
import OpenK.AllK
import Wide.FinOn
import Lean
import PyProof.EqAt
import PyProof.EqKinds
import PyProof.TupleCall
import KE.KDictSum
import KE.KRevIter
import KE.KRevSl
import PyProof.AttrMissHeap
import PySem.Challenge.RW_pointsure_k55_outs_and_what_they_lead_to
noncomputable section
abbrev Od:=Option PySem.PyData
abbrev Lp:=List PySem.PyData
abbrev Lr:=List PySem.Str
abbrev Lw:=List PySem.Value
abbrev Ow:=Option PySem.Value
abbrev Ax:=List (PySem.Addr × PySem.Obj)
abbrev Px:=PySem.Value → PySem.Shared → Prop
abbrev Lx:=List PySem.Expr
abbrev Fg:=PySem.W.Frag
set_option Elab.async false
set_option linter.all false
set_option compiler.extract_closed false
set_option genSizeOfSpec false
set_option maxRecDepth 100000
set_option maxHeartbeats 4000000
def aa:=@PySem.wpAny_bind
def ab:=@Option.map_eq_some_iff
def ae:=@PySem.wpAny_pure
def af:=@if_pos
def ag:=@if_neg
def ah:=@PySem.Heap.get?_push_of_some
def ai:=@List.mem_append_right
def aj:=@PySem.Heap.lt_size
def ak:=@List.mem_cons
def ao:=@List.size_toArray
def aq:=@List.getElem?_set_ne
def ar:=@PySem.Heap.get?_push_size
def au:=@List.mem_cons_of_mem
def av:=@List.getElem?_eq_some_iff
def aw:=@List.mem_append_left
def ax:=@Nat.le_refl
def ay:=@List.length_map
def az:=@List.map_cons
def aA:=@Option.bind_some
def aB:=@List.getElem?_map
def aC:=@List.mem_append
def aD:=@List.length_cons
def aE:=@Nat.ne_of_lt
def aF:=@List.forall_mem_cons
def aG:=@Nat.lt_of_lt_of_le
def aH:=@List.getElem?_eq_getElem
def aI:=@List.getElem?_set_self
def aJ:=@List.mem_map
def aK:=@decide_eq_true
def aL:=@PySem.PassesOwn.never
def aM:=@List.getElem?_append_left
def aN:=@True.intro
def aO:=@List.getElem?_append_right
def aP:=@PySem.SeqAt.canLay_of_shaped
def aQ:=@Bool.false_ne_true
def aR:=@PySem.wpAny_Call_Name_kw
def aS:=@List.mem_singleton
def aT:=@PySem.Calls.spliced_cons
def aU:=@PyProof.Rows.callWith_type1
def aV:=@decide_eq_false
def aW:=@Nat.lt_irrefl
def aX:=@List.perm_append_comm
def aY:=@PySem.wpAny_holding
def aZ:=@PySem.Calls.spliced_nil
def a0:=@List.lookup_cons
def a6:=@List.length_append
def a7:=@beq_eq_false_iff_ne
def a8:=@Array.length_toList
def a9:=@PySem.Around.under_plainId
def ba:=@PySem.F.plainAttrs_list
def bb:=@List.append_nil
def bc:=@Nat.le_trans
def bf:=@PySem.Heap.get?_update_other
def bg:=@congrArg
def bh:=@PyProof.Rows.slot_tuple_getitem
def bj:=@PySem.Heap.get?_update_self
def bo:=@Option.some.inj
def bp:=@List.nodup_cons
def bq:=@PySem.codeAny_builtin
def br:=@PySem.wpAny_callSpecial?_slot
def bt:=@PySem.wpAny_newObj_type
def bu:=@decide_eq_true_eq
def bw:=@List.append_assoc
def bx:=@PySem.wpAny_call_entry
def bz:=@Or.inr
def bA:=@PySem.F.slot_dict_get
def bB:=@List.getElem?_replicate
def bC:=@List.map_append
def bD:=@List.all_eq_true
def bE:=@Array.getElem?_eq_none
def bF:=@List.drop_eq_getElem_cons
def bG:=@PySem.mem_of_lookup
def bH:=@List.getElem?_eq_none
def bJ:=@PySem.builtinLookup_eq_fast
def bK:=@List.find?_cons
def bL:=@Nat.zero_le
def bM:=@List.any_cons
def bN:=@PySem.plainId_quiet
def bO:=@PySem.wpAny_mono
def bP:=@List.nodup_append
def bQ:=@List.filterMap_cons
def bR:=@PySem.F.plain_extend_loop
def bT:=@List.mem_filter
def bU:=@List.mem_filterMap
def bV:=@Bool.and_eq_true
def bW:=@Or.inl
def bX:=@Nat.ne_of_gt
def bY:=@List.mem_of_getElem?
def bZ:=@PySem.lookup_relabel_local
def b0:=@Int.toNat_natCast
def b5:=@PySem.wpAny_updateSeq
def b6:=@PySem.wpAny_typeOf
def b7:=@PySem.Calls.callWith_builtin
def b8:=@PySem.F.entry_dict_get
def b9:=@Nat.le_add_right
def cb:=@PySem.tupleKind_room_in1
def cf:=@List.Perm.append_left
def cg:=@PySem.wpAny_passesOwn
def cj:=@PySem.wpAny_specialOf
def ck:=@PySem.typeLookup_type
def cm:=@PySem.wpAny_truthy_bool
def cp:=@PySem.codeAny_mono
def cq:=@of_decide_eq_true
def cu:=@beq_iff_eq
def cv:=@Iff.rfl
def cw:=@List.length_take
def cx:=@PyProof.Rows.callWith_builtin1
def cy:=@Nat.le_of_not_lt
def cz:=@List.getElem?_cons_succ
def cA:=@PySem.wpAny_field
def cB:=@Nat.le_of_lt
def cC:=@PySem.call_meets
def cD:=@Bool.false_eq_true
def cE:=@PySem.Paired.length
def cF:=@PySem.wpAny_pyIter_list
def cG:=@PySem.Calls.evalArgs_plain
def cH:=@Nat.lt_succ_self
def cI:=@List.length_drop
def cJ:=@Array.toList_inj
def cK:=@List.filter_cons
def cL:=@List.length_reverse
def cM:=@PySem.F.args_tuple_add_2
def cN:=@PySem.wpAny_comprehension_free
def cO:=@PySem.F.slot_list_extend
def cP:=@List.mem_cons_self
def cQ:=@List.filterMap_map
def cR:=@Nat.le_succ
def cS:=@PySem.F.entry_tuple_add
def cT:=@PySem.F.args_dict_get_2
def cU:=@PySem.F.plainAttrs_dict
def cV:=@PySem.wpAny_pyNext_list_item
def cW:=@PySem.Heap.size_push
def cX:=@PySem.F.slot_tuple_add
def cY:=@Option.isSome_map
def cZ:=@Nat.lt_trans
def c0:=@List.Perm.append_right
def c5:=@PySem.wpAny_nextOf_list_item
def c6:=@List.map_map
def c7:=@PySem.wpAny_pyNext_list_end
def c8:=@PySem.F.type_dict_get
def c9:=@List.drop_length
def de:=@List.cons_append
def df:=@if_true
def dg:=@List.mem_of_mem_take
def dh:=@PySem.wpAny_execs_nil
def dn:=@List.forIn_cons
def dq:=@PySem.F.slot_zip_next
def dt:=@ne_true_of_eq_false
def dw:=@Array.getElem?_push
def dy:=@PySem.call_meetsIn
def dz:=@PySem.Calls.Name_function_global
def dA:=@PySem.typeIs_str
def dB:=@List.forIn_nil
def dD:=@List.nodup_nil
def dE:=@PySem.F.args_str_split_2
def dF:=@PySem.wpAny_Call_method
def dG:=@PySem.F.entry_str_split
def dH:=@Bool.or_false
def dJ:=@PySem.noFill_tuple_add
def dM:=@Nat.min_le_right
def dN:=@if_false
def dP:=@List.mem_reverse
def dQ:=@PySem.F.slot_str_split
def dR:=@PySem.concat_meets
def dS:=@PySem.wpAny_rule
def dU:=@List.of_mem_zip
def dX:=@PySem.wpAny_seqItems
def dY:=@List.getElem?_range
def dZ:=@List.length_pos_iff
def d5:=@List.forall_mem_nil
def d6:=@List.map_congr_left
def d7:=@List.map_take
open Option renaming some→Y
open Option renaming none→Z
open PySem renaming PyData→d8
variable  {x:PySem.Str}{a:PySem.Addr}{o b e c tg:PySem.Expr}{w:PySem.World}{h:PySem.Heap}{α:Type}{pins:Ax}{i n:Nat}{A:PySem.Around}{E:Px}{pos p apos fh:PySem.Pos}{K:Fg}{st:PySem.Stmt}{R:PySem.Result->PySem.Shared->Prop}{prog:PySem.Program}{mg:PySem.Str->Ow}{fd:PySem.FuncData}{ds:Lp}{scope:PySem.Scope}{items:Array PySem.Value}{fX:List (PySem.PyData×PySem.PyData)}{gD:List (Nat×PySem.Str)}{dp:Bool}{O:List Nat}
local macro_rules
| `(zZ $a) => `(PySem.Str.ofString $a)
| `(zK 0) => `(by kernel_rfl)
| `(zB $s) => `(($s).heap.objs.size)
| `(zg $x) => `(($x == ("__debug__" : PySem.Str)) = false)
| `(zE $e $s $x) => `(PySem.starEach ($e :: $s) ($x).env = (false, PySem.eval $e ($x).env) :: PySem.starEach $s ($x).env)
| `(zy $a $n) => `({ cls := .type "tuple", data := .seq $a $n })
| `(zl $a $n) => `({ cls := .type "list", data := .seq $a $n })
| `(zw $x) => `(PySem.wpAny (PySem.model ($x).prog ($x).w) ($x).A)
| `(zi $i) => `(.int ($i : Int))
namespace L2
open PySem PySem.Spec PyProof.Rows
abbrev Key:=Sum Int Str
def wL:Key->Value->Bool
 |.inl k,v=>Value.isInt k v
 |.inr x,v=>Value.isStrOf x v
def Ly(w:World):Key->Int
 |.inl k=>hashInt k
 |.inr x=>hashStr w x
def gp:∀{k:Key}{v:Value},wL k v=true->(∃i t,k=Sum.inl i/\v=Value.int i t)\/(∃x t,k=Sum.inr x/\v=Value.str x t)
 |.inl i,v,h=>by obtain⟨t,e⟩:=Value.isInt_shape (k:=i) (v:=v) h;exact .inl ⟨i,t,rfl,e⟩
 |.inr x,v,h=>by obtain⟨t,e⟩:=Value.isStrOf_shape (x:=x) (v:=v) h;exact .inr ⟨x,t,rfl,e⟩
def DX(i:Int)(t:Tok):wL (.inl i) (.int i t)=true:=by simp[wL,Value.isInt]
def DY(x:Str)(t:Tok):wL (.inr x) (.str x t)=true:=by simp[wL,Value.isStrOf]
def Lz(a b:Int):decide ((Sum.inl a:Key)=Sum.inl b)=(a==b):=by
 by_cases e:a=b
 ·subst e;simp
 ·have h:¬ (Sum.inl a:Key)=Sum.inl b:=λq=>e (Sum.inl.inj q);rw[aV h];exact(a7.mpr e).symm
def LA(a b:Str):decide ((Sum.inr a:Key)=Sum.inr b)=decide (a=b):=by
 by_cases e:a=b
 ·subst e;simp
 ·have h:¬ (Sum.inr a:Key)=Sum.inr b:=λq=>e (Sum.inr.inj q);rw[aV h,aV e]
def LB(a:Int)(b:Str):decide ((Sum.inl a:Key)=Sum.inr b)=false:=aV (λq=>nomatch q)
def LC(a:Str)(b:Int):decide ((Sum.inr a:Key)=Sum.inl b)=false:=aV (λq=>nomatch q)
def fj(c:Program)(w:World):PySem.KeyKind c w Key where
 is:=wL
 hash:=Ly w
 inj:=λv a b m g=>by
  rcases gp m with ⟨i,t,rfl,rfl⟩ | ⟨x,t,rfl,rfl⟩
  ·rcases gp g with ⟨j,u,rfl,e⟩ | ⟨y,u,rfl,e⟩
   ·injection e with d _;rw[d]
   ·exact nomatch e
  ·rcases gp g with ⟨j,u,rfl,e⟩ | ⟨y,u,rfl,e⟩
   ·exact nomatch e
   ·injection e with d _;rw[d]
 byValue:=λk v h=>by rcases gp h with ⟨i,t,rfl,rfl⟩ | ⟨x,t,rfl,rfl⟩<;>rfl
 pyHash:=λf h=>by
  rcases gp f with ⟨i,t,rfl,rfl⟩ | ⟨x,t,rfl,rfl⟩
  ·exact wpAny_pyHash_int h
  ·exact wpAny_pyHash_str h
 eqBool:=λl f h=>by
  rcases gp l with ⟨i,t,rfl,rfl⟩ | ⟨x,t,rfl,rfl⟩
  ·rcases gp f with ⟨j,u,rfl,rfl⟩ | ⟨y,u,rfl,rfl⟩
   ·rw[Lz] at h;exact wpAny_eqBool_int h
   ·rw[LB] at h;exact SeqAt.EqAt.int_str i t y u _ _ _ _ h
  ·rcases gp f with ⟨j,u,rfl,rfl⟩ | ⟨y,u,rfl,rfl⟩
   ·rw[LC] at h;exact SeqAt.EqAt.str_int x t j u _ _ _ _ h
   ·rw[LA] at h;exact wpAny_eqBool_str h
 «strs»:=λk x t v h=>by
  rcases gp h with ⟨i,u,rfl,e⟩ | ⟨y,u,rfl,e⟩
  ·exact nomatch e
  ·injection e with d _;subst d;cases v<;>rfl
def zp(a:Program)(w:World)(i:Int)(t:Tok):(fj a w).is (.inl i) (.int i t)=true:=DX i t
def nc(a:Program)(w:World)(x:Str)(t:Tok):(fj a w).is (.inr x) (.str x t)=true:=DY x t
end L2
variable  {xs:List (List L2.Key×PySem.Addr×PySem.Value)}
namespace L2
open PySem PySem.Spec PyProof.Rows
inductive V where
 |jj|bl (b:Bool)|int (i:Int)|str (x:Str)|Nf (b:Array UInt8)|O8 (b:UInt64)|ref (a:Addr)|ty (n:String)
 deriving DecidableEq
def eV:V->Value->Prop
 |.jj,u=>u=Value.none
 |.bl b,u=>u=Value.bool b
 |.int i,u=>∃t,u=Value.int i t
 |.str x,u=>∃t,u=Value.str x t
 |.Nf b,u=>∃t,u=Value.bytes b t
 |.O8 b,u=>∃t,u=Value.float b t
 |.ref a,u=>u=Value.ref a
 |.ty n,u=>u=Value.type n
abbrev eQ:List V->List Value->Prop:=Paired eV
theorem eQ.length{xs:List V}{a:Lw}(r:eQ xs a):xs.length=a.length:=cE r
theorem eQ.get:∀{a:List V}{b:Lw}{i:Nat}{x:V},eQ a b->a[i]?=Y x->∃u,b[i]?=Y u/\eV x u
 |_,_,_,_,.nil,e=>by simp at e
 |_,_,0,_,.cons r _,e=>by simp at e;subst e;exact⟨_,rfl,r⟩
 |_,_,i+1,x,.cons _ t,e=>by obtain⟨u,d,c⟩:=eQ.get (i:=i) (x:=x) t (by simpa using e);exact⟨u,by simpa using d,c⟩
theorem eQ.set{x:V}{u:Value}(r:eV x u):∀{a:List V}{b:Lw} (i:Nat),eQ a b->eQ (a.set i x) (b.set i u)
 |_,_,_,.nil=>.nil
 |_,_,0,.cons _ t=>.cons r t
 |_,_,i+1,.cons q t=>.cons q (eQ.set r i t)
theorem eQ.append:∀{b a:List V}{d c:Lw},eQ b d->eQ a c->eQ (b++a) (d++c)
 |_,_,_,_,.nil,s=>s
 |_,_,_,_,.cons r t,s=>.cons r (eQ.append t s)
theorem eQ.take:∀{xs:List V}{a:Lw} (n:Nat),eQ xs a->eQ (xs.take n) (a.take n)
 |_,_,0,_=>.nil
 |_,_,_+1,.nil=>.nil
 |_,_,n+1,.cons r t=>.cons r (eQ.take n t)
theorem eQ.drop:∀{a:List V}{b:Lw} (n:Nat),eQ a b->eQ (a.drop n) (b.drop n)
 |_,_,0,r=>r
 |_,_,_+1,.nil=>.nil
 |_,_,n+1,.cons _ t=>eQ.drop n t
def mU:Option V->Ow->Prop
 |some v,Y u=>eV v u
 |none,Z=>True
 |_,_=>False
def KV{κ:Type}:List (κ×V)->List (κ×Value)->Prop:=Paired λ(p:κ×V) (q:κ×Value)=>p.1=q.1/\eV p.2 q.2
noncomputable def kV:Key->V
 |.inl i=>.int i
 |.inr x=>.str x
inductive HO where
 |lst (xs:List V)
 |tup (xs:List V)
 |dK (fX:List (Key×V))|dT (fX:List (List Key×V))
 |set (S:Int->Bool) (n:Nat)
 |ins (C dx:Addr) (fs:List (Str×V))
 |own (x:Addr)
 |xd (fs:List (Str×V))
 |met (f x:Addr)
 |Pt (lo hi:Int)
 |oz (o:Obj) (u:HO)
 |IG (ps:Array Value)
 |ext (φ:Heap->Prop)
abbrev Hp:=Addr->Option HO
def upd(H:Hp)(a:Addr)(o:HO):Hp:=λb=>if b=a then Y o else H b
def eI{H:Hp}{o:HO}:upd H a o a=Y o:=by unfold upd;rw[af rfl]
def en{H:Hp}{b:Addr}{o:HO}(h:b≠a):upd H a o b=H b:=by unfold upd;rw[ag h]
def Np{H:Hp}{b:Addr}{o u:HO}(h:H a=Y o)(c:H b=Y u)(d:o≠u):a≠b:=by intro e;subst e;rw[h] at c;exact d (bo c)
def fv{H:Hp}{b:Addr}{o:HO}(h:H a=Y o)(h':H b=Z):a≠b:=by intro e;subst e;rw[h] at h';cases h'
section
variable (P:Program) (w:World)
def gC(H:Hp)(h:Heap)(a:Addr):HO->Prop
 |.lst xs=>xs.length<=sizeLine/\∃(b:Lw) (n:Nat),eQ xs b/\h.get? a=Y (zl b.toArray n)
 |.tup xs=>xs.length<=sizeLine/\∃b:Lw,eQ xs b/\IsTup h a b.toArray
 |.dK fX=>fX.length<=sizeLine/\(a==sysModules)=false/\∃d,KV fX d/\h.DictOf (fj P w) a d
 |.dT fX=>fX.length<=sizeLine/\(a==sysModules)=false/\∃xs:List (List Key×Addr×Value),
   Paired (λ(p:List Key×V) (q:List Key×Addr×Value)=>p.1=q.1/\H q.2.1=Y (.tup (p.1.map kV))/\eV p.2 q.2.2) fX xs /\
   ∃o i j,h.get? a=Y o/\o.ExactDict/\o.data=.dict i j/\i.toList=xs.map (entryOfKey (tupleKind (fj P w)))/\(xs.map (·.1)).Nodup
 |.set S n=>h.SetOf (intKind P w) a S n
 |.ins C dx fs=>H dx=Y (.own a)/\fs.length<=1000/\dx≠a/\h.get? a=Y (W.instObj C dx) /\
   ∃c,h.Ns1 dx c/\(∀f,mU (fs.lookup f) (c f))/\PySem.Within c (fs.map (·.1))
 |.own _=>∃o,h.get? a=Y o
 |.xd fs=>∃c,h.Ns1 a c/\∀f,mU (fs.lookup f) (c f)
 |.Pt lo hi=>∃t u v,h.get? a=Y { cls:=.type "range",data:=.fields #[.int lo t,.int hi u,.int 1 v] }
 |.oz o u=>h.get? a=Y o/\gC H h a u
 |.IG ps=>h.get? a=Y { cls:=.none,data:=.fields ps }
 |.met f x=>h.get? a=Y (W.methodObj (.ref f) (.ref x))
 |.ext φ=>φ h/\(∃o,h.get? a=Y o)/\∀g e:Heap,φ g->(∀o,g.get? a=Y o->e.get? a=Y o)->φ e
def o3(H:Hp)(h:Heap):Prop:=∀a o,H a=Y o->gC P w H h a o
end
section
variable {P:Program}{H H':Hp}{h':Heap}{o:HO}
theorem gC.lt(x:gC P w H h a o):a<h.objs.size:=by
 cases o with
 |lst c=>obtain⟨_,_,_,_,e⟩:=x;exact aj e
 |tup c=>obtain⟨_,_,_,p⟩:=x;exact p.lt
 |dK b=>obtain⟨_,_,_,_,o,_,_,e,_⟩:=x;exact aj e
 |dT b=>obtain⟨_,_,_,_,o,_,_,e,_⟩:=x;exact aj e
 |set S n=>obtain⟨o,_,_,_,e,_⟩:=x;exact aj e
 |ins C l d=>obtain⟨_,_,_,e,_⟩:=x;exact aj e
 |own y=>obtain⟨_,e⟩:=x;exact aj e
 |xd d=>obtain⟨_,⟨_,_,_,e,_⟩,_⟩:=x;exact aj e
 |Pt j k=>obtain⟨_,_,_,e⟩:=x;exact aj e
 |oz i u=>obtain⟨e,_⟩:=x;exact aj e
 |IG g=>exact aj (show h.get? a=Y _ from x)
 |met f y=>exact aj (show h.get? a=Y _ from x)
 |ext φ=>obtain⟨_,⟨_,e⟩,_⟩:=x;exact aj e
theorem Paired.LD{α β:Type}{F G:α->β->Prop}:∀{d:List α}{c:List β},Paired F d c->(∀a b,F a b->G a b)->Paired G d c
 |_,_,.nil,_=>.nil
 |_,_,.cons r t,f=>.cons (f _ _ r) (Paired.LD t f)
def gC.qN(x:gC P w H h a o) (k:∀b u,(b=a\/H b=Y (.own a))->h.get? b=Y u->h'.get? b=Y u)
  (J:∀b,H b=Y (.own a)->H' b=Y (.own a)) (I:∀b xs,H b=Y (.tup xs)->H' b=Y (.tup xs)):gC P w H' h' a o:=by
 induction o with
 |lst xs=>obtain⟨z,l,n,r,e⟩:=x;exact⟨z,l,n,r,k _ _ (.inl rfl) e⟩
 |tup xs=>obtain⟨z,l,r,g,e,c⟩:=x;exact⟨z,l,r,g,k _ _ (.inl rfl) e,c⟩
 |dK A=>obtain⟨z,y,E,r,g,i,j,e,c⟩:=x;exact⟨z,y,E,r,g,i,j,k _ _ (.inl rfl) e,c⟩
 |dT A=>obtain⟨z,y,xs,r,g,i,j,e,c⟩:=x;exact⟨z,y,xs,Paired.LD r λp q z=>⟨z.1,I _ _ z.2.1,z.2.2⟩,g,i,j,k _ _ (.inl rfl) e,c⟩
 |set S n=>obtain⟨g,i,j,t,e,c⟩:=x;exact⟨g,i,j,t,k _ _ (.inl rfl) e,c⟩
 |ins C O K=>obtain⟨d,z,F,e,s,⟨m,i,j,L,c⟩,r⟩:=x;exact⟨J _ d,z,F,k _ _ (.inl rfl) e,s,⟨m,i,j,k _ _ (.inr d) L,c⟩,r⟩
 |own y=>obtain⟨g,e⟩:=x;exact⟨g,k _ _ (.inl rfl) e⟩
 |xd K=>obtain⟨s,⟨m,i,j,e,c⟩,r⟩:=x;exact⟨s,⟨m,i,j,k _ _ (.inl rfl) e,c⟩,r⟩
 |Pt M N=>obtain⟨t,u,v,e⟩:=x;exact⟨t,u,v,k _ _ (.inl rfl) e⟩
 |oz g u G=>obtain⟨e,q⟩:=x;exact⟨k _ _ (.inl rfl) e,G q⟩
 |IG D=>have e:h.get? a=Y { cls:=.none,data:=.fields D }:=x;show h'.get? a=Y { cls:=.none,data:=.fields D };exact k a _ (.inl rfl) e
 |met f y=>have e:h.get? a=Y (W.methodObj (.ref f) (.ref y)):=x;show h'.get? a=Y (W.methodObj (.ref f) (.ref y));exact k a _ (.inl rfl) e
 |ext φ=>obtain⟨p,⟨o,e⟩,B⟩:=x;exact⟨B _ _ p λo q=>k _ _ (.inl rfl) q,⟨o,k _ _ (.inl rfl) e⟩,B⟩
theorem o3.lt(x:o3 P w H h)(e:H a=Y o):a<h.objs.size:=(x a o e).lt
def o3.fresh(x:o3 P w H h)(e:h.objs.size<=a):H a=Z:=by
 cases q:H a with
 |none=>rfl
 |some u=>exact absurd (aG (x.lt q) e) (aW _)
def o3.kept(x:o3 P w H h)(k:∀b u,h.get? b=Y u->h'.get? b=Y u):o3 P w H h':=λa o e=>
 (x a o e).qN (λb u _ q=>k b u q) (λ_ q=>q) λ_ _ q=>q
def o3.laid(x:o3 P w H h)(k:∀b u,h.get? b=Y u->h'.get? b=Y u)(i:h.objs.size<=a)(d:gC P w (upd H a o) h' a o):o3 P w (upd H a o) h':=λb u e=>by
 have f:=x.fresh i;by_cases g:b=a
 ·subst g;rw[eI] at e;cases e;exact d
 ·rw[en g] at e;exact(x b u e).qN (λc v _ q=>k c v q) (λc q=>by rw[en (fv q f)];exact q) λc j q=>by rw[en (fv q f)];exact q
end
def Rd(H:Hp)(a:Addr)(u:HO):Prop:=H a=Y u\/∃o,H a=Y (.oz o u)
def Rd.ok{P:Program}{H:Hp}{u:HO}(r:Rd H a u)(x:o3 P w H h):gC P w H h a u:=by
 rcases r with r | ⟨o,r⟩
 ·exact x a u r
 ·obtain⟨_,q⟩:=x a _ r;exact q
def Nq:Option HO->Prop
 |some (.lst _)=>True
 |some (.dK _)=>True
 |some (.dT _)=>True
 |some (.set _ _)=>True
 |some (.ins _ _ _)=>True
 |some (.ext _)=>True
 |_=>False
section
variable {P:Program}{H:Hp}{h':Heap}{x e:Addr}{o':HO}
def o3.write(p:o3 P w H h) (i:Nq (H x)) (o:e=x\/H e=Y (.own x)) (k:∀b u,b≠e->h.get? b=Y u->h'.get? b=Y u) (m:∃u,h'.get? e=Y u)
  (l:gC P w (upd H x o') h' x o'):o3 P w (upd H x o') h':=λb u q=>by
 have d:∀c y,H c=Y (.own y)->c≠x:=λc y r z=>by subst z;rw[r] at i;exact i
 have f:∀c g,H c=Y (.tup g)->c≠x:=λc g r z=>by subst z;rw[r] at i;exact i
 by_cases j:b=x
 ·subst j;rw[eI] at q;cases q;exact l
 ·rw[en j] at q;by_cases a:b=e
  ·have n:H b=Y (.own x):=by
    rcases o with z|z
    ·exact absurd (a.trans z) j
    ·rw[a];exact z
   rw[q] at n;cases n;obtain⟨v,s⟩:=m;exact⟨v,by rw[a];exact s⟩
  ·refine(p b u q).qN (λc v hc r=>k c v ?_ r) (λc r=>by rw[en (d c b r)];exact r) λc g r=>by rw[en (f c g r)];exact r
   rcases hc with rfl|hc
   ·exact a
   ·rintro rfl;rcases o with z|z
    ·exact d c b hc z
    ·rw[hc] at z;cases z;exact j rfl
end
structure Un (fs ex:List Addr) (H H':Hp) (h h':Heap):Prop where
 keep:∀b o,h.get? b=Y o->H b=Z->b∉fs->b∉ex->h'.get? b=Y o
 slot:∀b o,h.get? b=Y o->H b=Z->b∈fs->b∉ex->∃sl,h'.get? b=Y { o with slots:=sl }
 free:∀b o,h.get? b=Y o->H b=Z->b∉ex->H' b=Z
 there:∀b o,h.get? b=Y o->b∉ex->∃o',h'.get? b=Y o'
 qO:∀b xs,H b=Y (.tup xs)->H' b=Y (.tup xs)
 o4:∀b o u,H b=Y (.oz o u)->H' b=Y (.oz o u)
 sF:∀b ps,H b=Y (.IG ps)->∃more,H' b=Y (.IG (ps++more))
section
variable {fs Si ex Uu:List Addr}{H H1 H2:Hp}{h1 h2 h':Heap}{x e:Addr}{o:HO}
def Un.any(u:Un fs ex H H1 h h1){b:Addr}{a:Obj}(q:h.get? b=Y a)(n:H b=Z)(c:b∉ex):∃e,h1.get? b=Y { a with slots:=e }:=by
 by_cases d:b∈fs
 ·exact u.slot b a q n d c
 ·exact⟨a.slots,u.keep b a q n d c⟩
def Un.kept(k:∀b u,h.get? b=Y u->h'.get? b=Y u):Un fs ex H H h h' :=
 ⟨λb a q _ _ _=>k b a q,λb a q _ _ _=>⟨a.slots,k b a q⟩,λ_ _ _ n _=>n,λb a q _=>⟨a,k b a q⟩,λ_ _ q=>q,λ_ _ _ q=>q,λ_ c q=>⟨#[],by rw[q];simp⟩⟩
def Un.refl:Un fs ex H H h h:=Un.kept λ_ _ q=>q
def Un.laid(k:∀b u,h.get? b=Y u->h'.get? b=Y u)(e:h.objs.size<=a)(c:H a=Z):Un fs ex H (upd H a o) h h' where
 keep:=λb u q _ _ _=>k b u q
 slot:=λb u q _ _ _=>⟨u.slots,k b u q⟩
 free:=λb u q n _=>by rw[en (aE (aG (aj q) e))];exact n
 there:=λb u q _=>⟨u,k b u q⟩
 qO:=λb d q=>by rw[en (fv q c)];exact q
 o4:=λb u d q=>by rw[en (fv q c)];exact q
 sF:=λb f q=>⟨#[],by rw[en (fv q c),q];simp⟩
def Un.write(c:Nq (H x))(m:e=x\/H e=Y (.own x))(k:∀b u,b≠e->h.get? b=Y u->h'.get? b=Y u)(f:∃u,h'.get? e=Y u):Un fs ex H (upd H x o) h h':=by
 have g:∀b,H b=Z->b≠x:=λb n z=>by subst z;rw[n] at c;exact c
 have i:∀b,H b=Z->b≠e:=λb n z=>by
  subst z;rcases m with r|r
  ·exact g b n r
  ·rw[n] at r;cases r
 have d:∀b u,H b=Y u->¬ Nq (Y u)->b≠x:=λb u q l z=>by subst z;rw[q] at c;exact l c
 refine⟨λb u q n _ _=>k b u (i b n) q,λb u q n _ _=>⟨u.slots,k b u (i b n) q⟩,λb u q n _=>by rw[en (g b n)];exact n,λb u q _=>?_,
  λb j q=>by rw[en (d b _ q λz=>z)];exact q,λb u j q=>by rw[en (d b _ q λz=>z)];exact q,λb p q=>⟨#[],by rw[en (d b _ q λz=>z),q];simp⟩⟩
 by_cases a:b=e
 ·subst a;exact f
 ·exact⟨u,k b u a q⟩
end
def O9(h:Heap)(H:Hp):List Addr:=(List.range h.objs.size).filter λa=>(H a).isSome
def xM(h:Heap)(H:Hp):Heap:=W.hideAll h (O9 h H)
def DZ(h:Heap)(H:Hp):(xM h H).objs.size=h.objs.size:=W.hideAll_size _ _
def Fq{H:Hp}{b:Addr}{o:Obj}(e:h.get? b=Y o)(n:H b=Z):(xM h H).get? b=Y o :=
 W.hideAll_get _ e λa=>by have q:(H b).isSome=true:=(bT.mp a).2;rw[n] at q;simp at q
def IH{H:Hp}{b:Addr}{o:Obj}(e:(xM h H).get? b=Y o):h.get? b=Y o/\H b=Z:=by
 have a:h.get? b=Y o:=W.of_hideAll (O9 h H) e;refine⟨a,?_⟩;cases q:H b with
 |none=>rfl
 |some x=>have c:b∈O9 h H:=bT.mpr ⟨List.mem_range.mpr (aj a),by simp[q]⟩;have z:(xM h H).get? b=Z:=W.hideAll_none (O9 h H) c;rw[z] at e;cases e
def II(g h:Heap)(L:Addr):Ax:=(List.range h.objs.size).filterMap λa=>if a=L\/(g.get? a).isSome=true then Z else (h.get? a).map λo=>(a,o)
noncomputable def rest(g h:Heap)(L d:Addr):Ax:=(II g h L).filter λp=>decide (p.1≠d)
end L2
variable  {H G:L2.Hp}{v:L2.V}{vs:List L2.V}{kv:List (L2.Key×L2.V)}{B:List (PySem.Addr×L2.HO)}
namespace L2
open PySem PySem.Spec PyProof.Rows
structure Mod (K:Fg) (mg:Str->Ow) (base:Heap):Prop where
 Ng:K.In base
 glob:base.Ns mainGlobals mg
 blt:∃mb,base.Ns builtinsNs mb/\∀x:Str,x≠"__name__"->mb x=bootBuiltins x
 nolimit:base.NoLimit
structure Cx where
 prog:Program
 w:World
 K:Fg
 mg:Str->Ow
 base:Heap
 A:Around
 N:Lr
 s₀:Shared
 H₀:Hp
 env:Env
 outer:List Env
 stack:List Env
 ex:List Addr
 fn:Str->Bool
 calm:Bool
 pn:Ax
 xe:Px
def Bp(l:List Env):List Addr:=l.filterMap (·.frame)
abbrev Cx.fs(X:Cx):List Addr:=Bp X.outer
def D0(a:Scope)(x:Str):Prop:=a.names.lookup x=Y .local\/a.names.lookup x=Y .cell\/a.names.lookup x=Y .free
def CQ(a:Scope)(x:Str):Prop:=a.names.lookup x=Y .local\/a.names.lookup x=Y .cell
def Pu(a:Env)(h:Heap)(m:Str->Ow)(x:Str)(u:Value):Prop :=
 (a.kindOf x=Y .local/\m x=Y u)\/((a.kindOf x=Y .cell\/a.kindOf x=Y .free)/\∃c,a.cells.lookup x=Y c/\h.IsCell c (Y u))
structure Cx.Ok (X:Cx):Prop where
 mod:Mod X.K X.mg X.base
 kind:X.env.scope.kind=.function
 glob:X.env.globals=mainGlobals
 blt:X.env.builtins=builtinsNs
 above:(zB X.s₀)<=X.env.locals
 inj:∀x y c,X.env.cells.lookup x=Y c->X.env.cells.lookup y=Y c->x=y
 has:∀x,(X.env.kindOf x=Y .cell\/X.env.kindOf x=Y .free)->∃c,X.env.cells.lookup x=Y c
 Nr:∀x c,X.fn x=true->X.env.cells.lookup x=Y c->(zB X.s₀)<=c
 hd:X.calm=true->X.A.handled=Z
 frames:X.A.frames=Y X.stack
 Nt:X.stack=X.outer\/(X.stack=X.env::X.outer/\X.env.frame=Y X.env.locals)
 Rt:∀b∈X.ex,b≠X.env.locals/\∀x c,X.env.cells.lookup x=Y c->c≠b
 bs:∀b o,X.base.get? b=Y o->X.s₀.heap.get? b=Y o/\X.H₀ b=Z
 KP:X.base.objs.size<=(zB X.s₀)
 Fs:∀b o,X.base.get? b=Y o->b∉X.ex
 Bt:∀b∈X.ex,b∉X.fs
 o5:X.s₀.heap.FunFrames X.base X.outer
 Ft:∀b∈X.fs,X.H₀ b=Z
structure eE (X:Cx) (pins:Ax) (σ:List (Option V)) (H:Hp) (s:Shared):Prop where
 ok:X.Ok
 os:s.os=X.s₀.os
 bare:AllBare s.gens
 base:Un X.fs X.ex X.H₀ H X.s₀.heap s.heap
 loc:∃m,s.heap.Ns X.env.locals m/\∀(i:Nat) (x:Str) (v:V),X.N[i]?=Y x->σ[i]?=Y (Y v)->D0 X.env.scope x->∃u,eV v u/\Pu X.env s.heap m x u
 cell:∀x c,X.env.cells.lookup x=Y c->∃v,s.heap.IsCell c v
 free:H X.env.locals=Z
 kl:∀x c,X.env.cells.lookup x=Y c->H c=Z
 pin:∀p∈X.pn++pins,s.heap.get? p.1=Y p.2/\H p.1=Z/\p.1≠X.env.locals/\p.1∉X.fs/\∀v,p.2.data≠.cell v
 gr:o3 X.prog X.w H s.heap
 len:σ.length=X.N.length
section
variable {X:Cx}{σ:List (Option V)}{H':Hp}{s:Shared}{h':Heap}
def Cx.Ok.Pw(a:X.Ok){b:Addr}{o:Obj}(e:X.base.get? b=Y o):b∉X.fs:=λc=>by have:=(a.o5.mem c).1;rw[e] at this;cases this
theorem eE.bs(I:eE X pins σ H s):∀b o,X.base.get? b=Y o->s.heap.get? b=Y o/\H b=Z:=λb o e=>
 ⟨I.base.keep b o (I.ok.bs b o e).1 (I.ok.bs b o e).2 (I.ok.Pw e) (I.ok.Fs b o e),I.base.free b o (I.ok.bs b o e).1 (I.ok.bs b o e).2 (I.ok.Fs b o e)⟩
def eE.bk(I:eE X pins σ H s):∀b o,X.base.get? b=Y o->s.heap.get? b=Y o:=λb o e=>(I.bs b o e).1
theorem eE.mod(I:eE X pins σ H s):Mod X.K X.mg X.base:=I.ok.mod
def eE.qP(I:eE X pins σ H s):X.K.In s.heap:=I.ok.mod.Ng.keeps I.bk
theorem eE.lt(I:eE X pins σ H s):X.env.locals<(zB s):=by obtain⟨_,a,_⟩:=I.loc;exact a.lt
def eE.sz(I:eE X pins σ H s):(zB X.s₀)<=(zB s):=bc I.ok.above (cB I.lt)
def eE.Py(I:eE X pins σ H s)(h:(zB s)<=a):a∉X.fs:=λc=>by obtain⟨_,o,b,_⟩:=I.ok.o5.mem c;exact absurd (aG (aj b) (bc I.sz h)) (aW _)
def eE.Pz(I:eE X pins σ H s):∀x c,X.env.cells.lookup x=Y c->c≠X.env.locals:=λx c e z=>by obtain⟨v,o,d,f⟩:=I.cell x c e;obtain⟨m,⟨g,h,i,a,b,_⟩,_⟩:=I.loc;rw[z,a] at d;cases d;rw[b] at f;cases f
theorem eE.o5(I:eE X pins σ H s):s.heap.FunFrames X.base X.outer:=by
 have f:∀(l:List Env),(∀b∈Bp l,b∈X.fs)->X.s₀.heap.FunFrames X.base l->s.heap.FunFrames X.base l:=by
  intro l;induction l with
  |nil=>intro _ _;trivial
  |cons q r h=>intro g m;obtain⟨n,⟨L,o,a,k,j,p⟩,i⟩:=m;have d:L∈X.fs:=g L (by unfold Bp;rw[bQ,a];exact cP);obtain⟨t,e⟩:=I.base.slot L o j (I.ok.Ft L d) d λz=>I.ok.Bt L z d;exact⟨n,⟨L,_,a,k,e,p⟩,h (λb c=>g b (by unfold Bp;rw[bQ,a];exact au _ c)) i⟩
 exact f X.outer (λ_ c=>c) I.ok.o5
theorem eE.stack(I:eE X pins σ H s):s.heap.FunFrames X.base X.stack:=by
 rcases I.ok.Nt with e | ⟨e,b⟩
 ·rw[e];exact I.o5
 ·rw[e];obtain⟨m,a,_⟩:=I.loc;refine .cons (by rw[I.ok.kind];decide) b a ?_ I.o5;exact Heap.get?_none_of_le (bc I.ok.KP I.ok.above)
def eE.xN(I:eE X pins σ H s):∀b∈Bp X.stack,b∈X.env.locals::X.fs:=λb a=>by
 rcases I.ok.Nt with e | ⟨e,c⟩
 ·rw[e] at a;exact au _ a
 ·rw[e] at a;unfold Bp at a;rw[bQ,c] at a;exact a
def eE.CS(I:eE X pins σ H s):∀b∈Bp X.stack,H b=Z:=λb a=>by
 rcases ak.mp (I.xN b a) with e|a
 ·rw[e];exact I.free
 ·obtain⟨_,o,c,_⟩:=I.ok.o5.mem a;exact I.base.free b o c (I.ok.Ft b a) λz=>I.ok.Bt b z a
def eE.step{g':Array GenState}{t':Nat}{d':Drawn}{ch:List Addr} (I:eE X pins σ H s)
  (j:∀b∈ch,(b∈X.ex\/(zB X.s₀)<=b)/\b≠X.env.locals/\(∀x c,X.env.cells.lookup x=Y c->c≠b)/\∀p∈X.pn++pins,p.1≠b)
  (h:∀b o,b≠X.env.locals->b∉X.fs->b∉ch->s.heap.get? b=Y o->H b=Z->h'.get? b=Y o)
  (B:∀b o,b≠X.env.locals->b∈X.fs->b∉ch->s.heap.get? b=Y o->H b=Z->∃sl,h'.get? b=Y { o with slots:=sl }) (f:∀b o,b∉ch->s.heap.get? b=Y o->H b=Z->H' b=Z)
  (C:∀b o,b∉ch->s.heap.get? b=Y o->∃o',h'.get? b=Y o')
  (F:∀b xs,H b=Y (.tup xs)->H' b=Y (.tup xs)) (K:∀b o u,H b=Y (.oz o u)->H' b=Y (.oz o u)) (G:∀b ps,H b=Y (.IG ps)->∃more,H' b=Y (.IG (ps++more)))
  (T:∀m,s.heap.Ns X.env.locals m->h'.Ns X.env.locals m) (N:o3 X.prog X.w H' h') (hg:AllBare g'):
  eE X pins σ H' { s with heap:=h',gens:=g',drawn:=d',toks:=t' }:=by
 have J:∀b o,X.s₀.heap.get? b=Y o->b≠X.env.locals:=λb o e=>aE (aG (aj e) I.ok.above);have y:∀b o,X.s₀.heap.get? b=Y o->b∉X.ex->b∉ch:=λb o e a D=>by
  rcases(j b D).1 with z|z
  ·exact a z
  ·exact absurd (aG (aj e) z) (aW _)
 have t:∀x c,X.env.cells.lookup x=Y c->∀v,s.heap.IsCell c v->h'.IsCell c v:=by
  rintro x c e v ⟨o,E,O⟩;have g:c∉ch:=λz=>(j c z).2.2.1 x c e rfl;by_cases S:c∈X.fs
  ·obtain⟨sl,q⟩:=B c o (I.Pz x c e) S g E (I.kl x c e);exact⟨_,q,O⟩
  ·exact⟨o,h c o (I.Pz x c e) S g E (I.kl x c e),O⟩
 refine⟨I.ok,I.os,hg,⟨λb o e n D a=>?_,λb o e n D a=>?_,λb o e n a=>?_,λb o e a=>?_,λb xs e=>F b xs (I.base.qO b xs e),λb o xs e=>K b o xs (I.base.o4 b o xs e),λb ps e=>?_⟩,?_,λx c e=>?_,?_,λx c e=>?_,λp R=>?_,N,I.len⟩
 ·exact h b o (J b o e) D (y b o e a) (I.base.keep b o e n D a) (I.base.free b o e n a)
 ·obtain⟨sl,A⟩:=I.base.slot b o e n D a;obtain⟨M,L⟩:=B b _ (J b o e) D (y b o e a) A (I.base.free b o e n a);exact⟨M,L⟩
 ·obtain⟨o',A⟩:=I.base.there b o e a;exact f b o' (y b o e a) A (I.base.free b o e n a)
 ·obtain⟨o',A⟩:=I.base.there b o e a;exact C b o' (y b o e a) A
 ·obtain⟨V,A⟩:=I.base.sF b ps e;obtain⟨U,L⟩:=G b _ A;exact⟨V++U,by rw[L,Array.append_assoc]⟩
 ·obtain⟨m,W,hl⟩:=I.loc;refine⟨m,T m W,λi x v A L e3=>?_⟩;obtain⟨u,r,l⟩:=hl i x v A L e3;refine⟨u,r,?_⟩;rcases l with l | ⟨k,c,e,z⟩
  ·exact .inl l
  ·exact .inr ⟨k,c,e,t x c e _ z⟩
 ·obtain⟨v,z⟩:=I.cell x c e;exact⟨v,t x c e v z⟩
 ·obtain⟨m,⟨o,_,_,E,_⟩,_⟩:=I.loc;exact f _ o (λz=>(j _ z).2.1 rfl) E I.free
 ·obtain⟨v,o,E,O⟩:=I.cell x c e;exact f c o (λz=>(j c z).2.2.1 x c e rfl) E (I.kl x c e)
 ·obtain⟨e,n,Q,P,d⟩:=I.pin p R;have g:p.1∉ch:=λz=>(j p.1 z).2.2.2 p R rfl;exact⟨h p.1 p.2 Q P g e n,f p.1 p.2 g e n,Q,P,d⟩
def eE.un{t':Nat}(I:eE X pins σ H s)(u:Un X.fs [] H H' s.heap h')(c:o3 X.prog X.w H' h'):eE X pins σ H' { s with heap:=h',toks:=t' }:=by obtain⟨m,⟨o,q,t,h,r⟩,_⟩:=id I.loc;obtain⟨k,j⟩:=u.any h I.free (by simp);exact I.step (g':=s.gens) (d':=s.drawn) (ch:=[]) (λ_ z=>nomatch z) (λb o _ d _ e n=>u.keep b o e n d (by simp)) (λb o _ d _ e n=>u.slot b o e n d (by simp)) (λb o _ e n=>u.free b o e n (by simp)) (λb o _ e=>u.there b o e (by simp)) u.qO u.o4 u.sF (λp hm=>by obtain⟨l,f,g,a,i⟩:=hm;rw[h] at a;cases a;exact⟨_,f,g,j,i⟩) c I.bare
def eE.call{g':Array GenState}{t':Nat}{d':Drawn}{ch:List Addr} (I:eE X pins σ H s) (u:Un (Bp X.stack) ch H H' s.heap h') (f:o3 X.prog X.w H' h') (l:AllBare g')
  (d:∀b∈ch,(b∈X.ex\/(zB X.s₀)<=b)/\b≠X.env.locals/\(∀x c,X.env.cells.lookup x=Y c->c≠b)/\∀p∈X.pn++pins,p.1≠b):
  eE X pins σ H' { s with heap:=h',gens:=g',drawn:=d',toks:=t' }:=by
 obtain⟨m,⟨o,A,B,j,r⟩,_⟩:=id I.loc;obtain⟨t,g⟩:=u.any j I.free λz=>(d _ z).2.1 rfl;exact I.step (ch:=ch) d (λb o g q hc e n=>u.keep b o e n (λz=>(ak.mp (I.xN b z)).elim g q) hc) (λb o _ _ hc e n=>u.any e n hc) (λb o hc e n=>u.free b o e n hc) (λb o hc e=>u.there b o e hc) u.qO u.o4 u.sF (λy hm=>by obtain⟨v,h,i,a,k⟩:=hm;rw[j] at a;cases a;exact⟨_,h,i,g,k⟩) f l
def eE.turned{t':Nat}{it:Addr} (I:eE X pins σ H s) (k:∀b o,b≠it->s.heap.get? b=Y o->h'.get? b=Y o) (g:H it=Z) (d:it≠X.env.locals)
  (l:it∈X.ex\/(zB X.s₀)<=it) (j:∀x c,X.env.cells.lookup x=Y c->c≠it) (i:∀p∈X.pn++pins,p.1≠it):eE X pins σ H { s with heap:=h',toks:=t' }:=by
 have a:∀b u,H b=Y u->b≠it:=λb u e z=>by rw[z,g] at e;cases e
 refine I.step (g':=s.gens) (d':=s.drawn) (ch:=[it]) (λb h=>?_) (λb o _ _ hc e _=>k b o (λz=>hc (by simp[z])) e) (λb o _ _ hc e _=>⟨o.slots,k b o (λz=>hc (by simp[z])) e⟩) (λ_ _ _ _ n=>n)
  (λb o hc e=>⟨o,k b o (λz=>hc (by simp[z])) e⟩) (λ_ _ e=>e) (λ_ _ _ e=>e) (λb ps e=>⟨#[],by rw[e];simp⟩) (λm hm=>?_) (λb u e=>?_) I.bare
 ·have e:b=it:=by simpa using h
  subst e;exact⟨l,d,j,i⟩
 ·obtain⟨o,t,w,f,r⟩:=hm;exact⟨o,t,w,k _ o (Ne.symm d) f,r⟩
 ·refine(I.gr b u e).qN (λc v hc q=>k c v ?_ q) (λ_ q=>q) λ_ _ q=>q;rcases hc with z|z
  ·rw[z];exact a b u e
  ·exact a c _ z
def eE.tok(I:eE X pins σ H s)(t:Nat):eE X pins σ H { s with toks:=t }:=I.un (h':=s.heap) (t':=t) Un.refl I.gr
theorem eE.kept{t':Nat}(I:eE X pins σ H s)(k:∀b u,s.heap.get? b=Y u->h'.get? b=Y u):eE X pins σ H { s with heap:=h',toks:=t' }:=I.un (Un.kept k) (I.gr.kept k)
theorem eE.laid{a:Addr}{o:HO}{t':Nat}(I:eE X pins σ H s)(k:∀b u,s.heap.get? b=Y u->h'.get? b=Y u)(d:(zB s)<=a)(c:gC X.prog X.w (upd H a o) h' a o):
  eE X pins σ (upd H a o) { s with heap:=h',toks:=t' }:=I.un (Un.laid k d (I.gr.fresh d)) (I.gr.laid k d c)
theorem eE.write{x e:Addr}{o:HO}{g:Nat} (I:eE X pins σ H s) (d:Nq (H x)) (f:e=x\/H e=Y (.own x)) (k:∀b u,b≠e->s.heap.get? b=Y u->h'.get? b=Y u) (a:∃u,h'.get? e=Y u)
  (c:gC X.prog X.w (upd H x o) h' x o):eE X pins σ (upd H x o) { s with heap:=h',toks:=g }:=I.un (Un.write d f k a) (I.gr.write d f k a c)
def eE.ml{a:Ax}(I:eE X pins σ H s)(h:∀p∈a,s.heap.get? p.1=Y p.2/\H p.1=Z/\p.1≠X.env.locals/\p.1∉X.fs/\∀v,p.2.data≠.cell v):eE X a σ H s :=
 ⟨I.ok,I.os,I.bare,I.base,I.loc,I.cell,I.free,I.kl,λp b=>(aC.mp b).elim (λz=>I.pin p (aw _ z)) (h p),I.gr,I.len⟩
def zq{N:Lr}(c:N.Nodup){j:Nat}(a:N[i]?=Y x)(b:N[j]?=Y x):i=j:=by obtain⟨g,e⟩:=av.mp a;obtain⟨f,d⟩:=av.mp b;exact(List.getElem_inj c).mp (e.trans d.symm)
def D1{M:Model}{u:Value}{Q:Unit->Shared->Prop} (I:eE X pins σ H s) (hN:X.N.Nodup) (R:X.N[i]?=Y x) (l:CQ X.env.scope x) (r:eV v u)
  (h:∀s',eE X pins (σ.set i (Y v)) H s'->(∃a,Heap.SameBut a s.heap s'.heap/\(a=X.env.locals\/X.env.cells.lookup x=Y a))->Q () s') (hf:X.fn x=true\/X.env.scope.names.lookup x=Y .local:=by first|exact .inl rfl|exact .inr rfl|assumption):wpAny M A (storeName X.env x u) Q E s:=by
 obtain⟨m,hn,hl⟩:=id I.loc;have S:(X.env.scope.kind==.class||(X.env.scope.kind==.module&&X.env.locals != X.env.globals))=false:=by rw[I.ok.kind];rfl
 have D:i<σ.length:=by rw[I.len];exact(av.mp R).1
 have K:=I.Pz;have f:∀{a:Addr}{L:Heap},(∃o,s.heap.get? a=Y o/\H a=Z)->Heap.SameBut a s.heap L->o3 X.prog X.w H L:=λ{a L} ha hs b ob e=>by
  obtain⟨_,_,t⟩:=ha;refine(I.gr b ob e).qN (λc U hc q=>(hs.2 c ?_).trans q) (λ_ q=>q) λ_ _ q=>q;rintro rfl;rcases hc with rfl|hc
  ·rw[t] at e;cases e
  ·rw[t] at hc;cases hc
 rcases l with C|C
 ·refine wpAny_storeName_local C hn (λL Sj hs=>?_) S;obtain⟨oL,_,_,PC,_⟩:=id hn;refine h _ ⟨I.ok,I.os,I.bare,⟨λb o e n J l=>?_,λb o e n J l=>?_,I.base.free,λb o e l=>?_,I.base.qO,I.base.o4,I.base.sF⟩,⟨_,Sj,λj y v' g B e3=>?_⟩,λy c e=>?_,I.free,I.kl,λp hp=>?_,f ⟨oL,PC,I.free⟩ hs,by simpa using I.len⟩ ⟨_,hs,.inl rfl⟩
  ·exact(hs.2 b (aE (aG (aj e) I.ok.above))).trans (I.base.keep b o e n J l)
  ·obtain⟨sl,g⟩:=I.base.slot b o e n J l;exact⟨sl,(hs.2 b (aE (aG (aj e) I.ok.above))).trans g⟩
  ·obtain⟨o',g⟩:=I.base.there b o e l;exact⟨o',(hs.2 b (aE (aG (aj e) I.ok.above))).trans g⟩
  ·by_cases F:j=i
   ·subst F;rw[R] at g;cases g;rw[aI D] at B;cases B;exact⟨u,r,.inl ⟨C,by simp⟩⟩
   ·rw[aq (Ne.symm F)] at B;obtain⟨u',r',q⟩:=hl j y v' g B e3;refine⟨u',r',?_⟩;rcases q with ⟨k,e⟩ | ⟨k,c,e,z⟩
    ·refine .inl ⟨k,?_⟩;have:y≠x:=λe=>F (zq hN g (e▸R));simp[this,e]
    ·exact .inr ⟨k,c,e,z.sameBut hs (K y c e)⟩
  ·obtain⟨U,z⟩:=I.cell y c e;exact⟨U,z.sameBut hs (K y c e)⟩
  ·obtain⟨e,n,V,nf,d⟩:=I.pin p hp;exact⟨(hs.2 p.1 V).trans e,n,V,nf,d⟩
 ·have G:X.fn x=true:=by
   rcases hf with z|z
   ·exact z
   ·rw[z] at C;cases C
  obtain⟨c,hc⟩:=I.ok.has x (.inl C);obtain⟨U,z⟩:=I.cell x c hc;refine wpAny_storeName_cell I.ok.kind C hc z (λL Nu hs=>?_);obtain⟨oc,P,O⟩:=id z;refine h { s with heap:=L } ⟨I.ok,I.os,I.bare,⟨λb o e n J l=>?_,λb o e n J l=>?_,I.base.free,λb o e l=>?_,I.base.qO,I.base.o4,I.base.sF⟩,⟨m,hn.sameBut hs (Ne.symm (K x c hc)),λj y v' g B e3=>?_⟩,λy W e=>?_,I.free,I.kl,λp hp=>?_,f ⟨oc,P,I.kl x c hc⟩ hs,by simpa using I.len⟩ ⟨c,hs,.inr hc⟩
  ·exact(hs.2 b (aE (aG (aj e) (I.ok.Nr x c G hc)))).trans (I.base.keep b o e n J l)
  ·obtain⟨sl,g⟩:=I.base.slot b o e n J l;exact⟨sl,(hs.2 b (aE (aG (aj e) (I.ok.Nr x c G hc)))).trans g⟩
  ·obtain⟨o',g⟩:=I.base.there b o e l;exact⟨o',(hs.2 b (aE (aG (aj e) (I.ok.Nr x c G hc)))).trans g⟩
  ·by_cases F:j=i
   ·subst F;rw[R] at g;cases g;rw[aI D] at B;cases B;exact⟨u,r,.inr ⟨.inl C,c,hc,Nu⟩⟩
   ·rw[aq (Ne.symm F)] at B;obtain⟨u',r',q⟩:=hl j y v' g B e3;refine⟨u',r',?_⟩;rcases q with q | ⟨k,W,e,z'⟩
    ·exact .inl q
    ·refine .inr ⟨k,W,e,z'.sameBut hs ?_⟩;rintro rfl;exact F (zq hN g (I.ok.inj _ _ _ e hc▸R))
  ·by_cases T:W=c
   ·subst T;exact⟨_,Nu⟩
   ·obtain⟨w2,z2⟩:=I.cell y W e;exact⟨w2,z2.sameBut hs T⟩
  ·obtain⟨e,n,V,nf,d⟩:=I.pin p hp;refine⟨(hs.2 p.1 ?_).trans e,n,V,nf,d⟩;intro q;rw[q,P] at e;have q':oc=p.2:=bo e;exact d U (by rw[<-q'];exact O)
def tZ{M:Model}{u:Value}{Q:Unit->Shared->Prop} (I:eE X pins σ H s) (d:X.N.Nodup) (b:X.N[i]?=Y x) (a:CQ X.env.scope x) (r:eV v u)
  (h:∀s',eE X pins (σ.set i (Y v)) H s'->Q () s') (c:X.fn x=true\/X.env.scope.names.lookup x=Y .local:=by first|exact .inl rfl|exact .inr rfl|assumption):wpAny M A (storeName X.env x u) Q E s :=
 D1 I d b a r (λs' e _=>h s' e) c
def eE.Nv{s':Shared}{ch:List Addr} (I:eE X pins σ H s) (g:s'.os=s.os) (u:Un (Bp X.stack) ch H H' s.heap s'.heap) (a:o3 X.prog X.w H' s'.heap) (h:AllBare s'.gens)
  (d:∀b∈ch,(b∈X.ex\/(zB X.s₀)<=b)/\b≠X.env.locals/\(∀x c,X.env.cells.lookup x=Y c->c≠b)/\∀p∈X.pn++pins,p.1≠b):eE X pins σ H' s':=by
 obtain⟨h',g',d',t',f⟩:=s';have e:f=s.os:=g;subst e;exact I.call (g':=g') (t':=t') (d':=d') u a h d
end
abbrev XK:=Value->Option Addr->Hp->Prop
abbrev St:=List (Option V)
abbrev VK:=V->Hp->Prop
abbrev TE:=St->Hp->VK->Prop
abbrev TT:=St->Hp->(Bool->Hp->Prop)->Prop
abbrev TA:=St->Hp->(List V->Hp->Prop)->Prop
structure ua where
 nx:St->Hp->Prop
 rt:VK
 bk:St->Hp->Prop:=λ_ _=>False
 ct:St->Hp->Prop:=λ_ _=>False
abbrev TS:=ua->St->Hp->Prop
def EP(X:Cx)(a:Ax)(σ:St)(Q:VK)(u:Value)(c:Shared):Prop:=∃v b,eE X a σ b c/\eV v u/\Q v b
def TP(X:Cx)(a:Ax)(σ:St)(Q:Bool->Hp->Prop)(b:Bool)(d:Shared):Prop:=∃c,eE X a σ c d/\Q b c
def AP(X:Cx)(a:Ax)(σ:St)(Q:List V->Hp->Prop)(d:Lw)(e:Shared):Prop:=∃b c,eE X a σ c e/\eQ b d/\Q b c
def SP(X:Cx)(a:Ax)(D:ua)(f:Flow)(c:Shared):Prop :=
 match f with
 |.next=>∃σ' b,eE X a σ' b c/\D.nx σ' b
 |.brk=>∃σ' b,eE X a σ' b c/\D.bk σ' b
 |.cont=>∃σ' b,eE X a σ' b c/\D.ct σ' b
 |.ret u=>∃v σ' b,eE X a σ' b c/\eV v u/\D.rt v b
def PE(X:Cx)(e:Expr)(t:TE):Prop :=
 ∀⦃a:Ax⦄ (s:Shared) (σ:St) (H:Hp) (Q:VK),eE X a σ H s->t σ H Q->(zw X) (eval e X.env) (EP X a σ Q) X.xe s
def PT(X:Cx)(e:Expr)(t:TT):Prop :=
 ∀⦃a:Ax⦄ (s:Shared) (σ:St) (H:Hp) (Q:Bool->Hp->Prop),eE X a σ H s->t σ H Q->(zw X) (isTrue e X.env (eval e X.env)) (TP X a σ Q) X.xe s
def PW(X:Cx)(e:Expr)(t:TT):Prop :=
 ∀⦃a:Sem Value⦄ (pins:Ax) (s:Shared) (σ:St) (H:Hp) (Q:Bool->Hp->Prop),eE X pins σ H s->t σ H Q->(zw X) (isTrue e X.env a) (TP X pins σ Q) X.xe s
def PW.pt{X:Cx}{t:TT}(h:PW X e t):PT X e t:=@h _
def PA(X:Cx)(b:Lx)(t:TA):Prop :=
 ∀⦃a:Pos⦄ (pins:Ax) (s:Shared) (σ:St) (H:Hp) (Q:List V->Hp->Prop),eE X pins σ H s->t σ H Q->(zw X) (spliced (backTo a (starEach b X.env))) (AP X pins σ Q) X.xe s
def PS(X:Cx)(b:Stmt)(t:TS):Prop :=
 ∀⦃a:Ax⦄ (s:Shared) (σ:St) (H:Hp) (D:ua),eE X a σ H s->t D σ H->(zw X) (exec b X.env) (SP X a D) X.xe s
def tJ(X:Cx)(b:List Stmt)(t:TS):Prop :=
 ∀⦃a:Ax⦄ (s:Shared) (σ:St) (H:Hp) (D:ua),eE X a σ H s->t D σ H->(zw X) (execs b X.env) (SP X a D) X.xe s
def gd{t:Sem α}{Q b:α->Shared->Prop}{M:Model}{s:Shared}(h:wpAny M A t Q E s)(c:∀a s,Q a s->b a s):wpAny M A t b E s:=bO h c λ_ _ x=>x
end L2
variable  {X:L2.Cx}{σ:L2.St}
namespace L2
open PySem PySem.Spec PyProof.Rows
section
def Nw(i:Nat):TE:=λσ H Q=>∃v,σ[i]?=Y (Y v)/\Q v H
def tC(v:V):TE:=λ_ H Q=>Q v H
def mq(t:X.N[i]?=Y x)(n:D0 X.env.scope x)(g:zg x:=by decide)(j:(x==("__classdict__":Str))=false:=by decide):PE X (.Name x pos) (Nw i):=by
 intro f s σ H Q I h;obtain⟨v,e,h⟩:=h;obtain⟨m,o,q⟩:=I.loc;obtain⟨u,r,l⟩:=q i x v t e n;have d:EP X f σ Q u s:=⟨v,H,I,r,h⟩
 rcases l with ⟨b,p⟩ | ⟨b,c,k,a⟩
 ·exact wpAny_Name (wpAny_loadName_local I.ok.kind b o p d) g
 ·rcases b with b|b
  ·exact wpAny_Name (wpAny_loadName_cell I.ok.kind b k a d) g
  ·exact wpAny_Name (wpAny_loadName_free I.ok.kind b k a d j) g
def LF{i j pos}:PE X (.Constant (.int i) j pos) (tC (.int i)):=λ_ _ _ H _ I h=>wpAny_Constant_int ⟨.int i,H,I.tok _,⟨_,rfl⟩,h⟩
def Nx{b j pos}:PE X (.Constant (.bool b) j pos) (tC (.bl b)):=λ_ _ _ H _ I h=>Constant_bool ⟨.bl b,H,I,rfl,h⟩
def LG{j pos}:PE X (.Constant .none j pos) (tC .jj):=λ_ _ _ H _ I h=>Constant_none ⟨.jj,H,I,rfl,h⟩
def LH{x j pos}:PE X (.Constant (.str x) j pos) (tC (.str x)):=λ_ _ _ H _ I h=>Calls.Constant_str ⟨.str x,H,I.tok _,⟨_,rfl⟩,h⟩
def Gl(X:Cx)(x:Str):Prop:=X.env.kindOf x=Y .globalImplicit
def kU{s:Shared}{u:Value}{Q:Px} (I:eE X pins σ H s) (b:Gl X x) (a:X.mg x=Y u) (h:Q u s)
  (c:zg x:=by decide):(zw X) (eval (.Name x pos) X.env) Q E s :=
 dz I.ok.kind b (Calls.loadGlobal_global (by rw[I.ok.glob];exact I.mod.glob.keeps I.bk) a h) c
def jk{s:Shared}{u:Value}{Q:Px} (I:eE X pins σ H s) (d:Gl X x) (c:X.mg x=Z) (a:bootBuiltins x=Y u) (h:Q u s)
  (b:x≠"__name__":=by decide) (e:zg x:=by decide):(zw X) (eval (.Name x pos) X.env) Q E s:=by
 obtain⟨i,g,f⟩:=I.mod.blt;exact dz I.ok.kind d (Calls.loadGlobal_builtin (by rw[I.ok.glob];exact I.mod.glob.keeps I.bk) c (by rw[I.ok.blt];exact g.keeps I.bk) ((f x b).trans a) h) e
def CT{u:Value}(b:Gl X x)(a:X.mg x=Y u)(r:eV v u)(c:zg x:=by decide):PE X (.Name x pos) (tC v) :=
 λ_ _ _ H _ I h=>kU I b a ⟨v,H,I,r,h⟩ c
def IJ{u:Value}(d:Gl X x)(c:X.mg x=Z)(a:bootBuiltins x=Y u)(r:eV v u)(b:x≠"__name__":=by decide)(e:zg x:=by decide):PE X (.Name x pos) (tC v) :=
 λ_ _ _ H _ I h=>jk I d c a ⟨v,H,I,r,h⟩ b e
variable {a:Expr}{ta tb:TE}
variable {tA Pa:TT}{rest:Lx}
def PH(t u:TT):TT:=λσ H Q=>t σ H λc a=>if c=true then u σ a Q else Q false a
def Sk(t u:TT):TT:=λσ H Q=>t σ H λc a=>if c=true then Q true a else u σ a Q
def PK(t:TT):TT:=λσ H Q=>t σ H λc a=>Q (!c) a
def IK(d:PT X a tA):PW X (.BoolOp .And [a] pos) tA:=by
 intro f b s σ H Q I h;refine isTrue_and (gd (@d b s σ H Q I h) λc g e=>?_);cases c with
 |true=>exact isTrue_and_nil e
 |false=>exact e
def Fu(d:PT X a tA):PW X (.BoolOp .Or [a] pos) tA:=by
 intro f b s σ H Q I h;refine isTrue_or (gd (@d b s σ H Q I h) λc g e=>?_);cases c with
 |false=>exact isTrue_or_nil e
 |true=>exact e
def LJ(l:PT X a tA)(k:PW X (.BoolOp .And (b::rest) pos) Pa):PW X (.BoolOp .And (a::b::rest) pos) (PH tA Pa):=by
 intro i d s σ H Q I h;refine isTrue_and (gd (@l d s σ H _ I h) ?_);rintro c j ⟨g,f,e⟩;cases c with
 |true=>exact @k i d j σ g Q f e
 |false=>exact⟨g,f,e⟩
def KQ(l:PT X a tA)(k:PW X (.BoolOp .Or (b::rest) pos) Pa):PW X (.BoolOp .Or (a::b::rest) pos) (Sk tA Pa):=by
 intro i d s σ H Q I h;refine isTrue_or (gd (@l d s σ H _ I h) ?_);rintro c j ⟨g,f,e⟩;cases c with
 |true=>exact⟨g,f,e⟩
 |false=>exact @k i d j σ g Q f e
def Fv(d:PT X a tA):PT X (.UnaryOp .Not a pos) (PK tA):=by intro b s σ H Q I h;exact isTrue_not (@d b s σ H (λc H1=>Q (!c) H1) I h)
def Ny(d b:TE):TE:=λσ H Q=>d σ H λx a=>∃c,x=.bl c/\if c=true then b σ a Q else Q (.bl false) a
def LK{op}{t:TE}(h:PE X a t):PE X (.BoolOp op [a] pos) t:=λb s σ H Q I hw=>BoolOp_one (@h b s σ H Q I hw)
def LL(l:PE X a ta)(k:PE X (.BoolOp .And (b::rest) pos) tb):PE X (.BoolOp .And (a::b::rest) pos) (Ny ta tb):=by
 intro d s σ H Q I h;refine BoolOp_and (gd (@l d s σ H _ I h) ?_);rintro v i ⟨x,g,f,j,e⟩;obtain⟨c,rfl,e⟩:=e;cases j;refine cm ?_;cases c with
 |true=>exact @k d i σ g Q f e
 |false=>exact⟨.bl false,g,f,rfl,e⟩
end
def jS(K:Fg)(H:Hp)(a:Addr)(b:List V):Prop :=
 Rd H a (.lst b) \/
  ∃(o:Obj) (its:Array Value) (n:Nat),K.lookup a=Y o/\o.cls=.type "list"/\o.dict=Z/\o.data=.seq its n/\its.size<=sizeLine/\eQ b its.toList
def mV(K:Fg)(H:Hp)(a:Addr)(b:List V):Prop :=
 Rd H a (.tup b) \/
  ∃(o:Obj) (its:Array Value) (n:Nat),K.lookup a=Y o/\o.cls=.type "tuple"/\o.data=.seq its n/\its.size<=sizeLine/\eQ b its.toList
noncomputable def PL:Value->Option V
 |.none=>Y .jj
 |.bool b=>Y (.bl b)
 |.int i _=>Y (.int i)
 |.str x _=>Y (.str x)
 |.bytes b _=>Y (.Nf b)
 |.float b _=>Y (.O8 b)
 |.ref a=>Y (.ref a)
 |.type n=>Y (.ty n)
 |_=>Z
def eV.abs{x:V}{u:Value}(r:eV x u):PL u=Y x:=by
 cases x with
 |jj=>cases r;rfl
 |bl _=>cases r;rfl
 |int _=>obtain⟨t,rfl⟩:=r;rfl
 |str _=>obtain⟨t,rfl⟩:=r;rfl
 |Nf _=>obtain⟨t,rfl⟩:=r;rfl
 |O8 _=>obtain⟨t,rfl⟩:=r;rfl
 |ref _=>cases r;rfl
 |ty _=>cases r;rfl
def eV.inj{x y:V}{u:Value}(r:eV x u)(q:eV y u):x=y:=bo (r.abs.symm.trans q.abs)
theorem eQ.inj:∀{b a:List V}{c:Lw},eQ b c->eQ a c->b=a
 |_,_,_,.nil,.nil=>rfl
 |_,_,_,.cons r t,.cons r' t'=>by rw[r.inj r',eQ.inj t t']
section
variable {s:Shared}{xs ys:List V}
def jS.of(h:H a=Y (.lst xs)):jS K H a xs:=.inl (.inl h)
def mV.of(h:H a=Y (.tup xs)):mV K H a xs:=.inl (.inl h)
def eE.list(I:eE X pins σ H s)(h:jS X.K H a xs):∃its:Lw,eQ xs its/\PlainL s.heap a its.toArray/\xs.length<=sizeLine:=by
 rcases h with h | ⟨o,its,n,c,f,d,b,hz,r⟩
 ·obtain⟨z,its,n,r,e⟩:=h.ok I.gr;exact⟨its,r,⟨_,n,e,rfl,rfl,rfl⟩,z⟩
 ·refine⟨its.toList,r,⟨o,n,I.qP a o c,f,d,by simpa using b⟩,?_⟩;have e:=r.length;simp only[a8] at e;omega
def eE.tuple(I:eE X pins σ H s)(h:mV X.K H a xs):∃b:Lw,eQ xs b/\IsTup s.heap a b.toArray/\xs.length<=sizeLine:=by
 rcases h with h | ⟨o,b,n,d,f,c,hz,r⟩
 ·obtain⟨z,b,r,p⟩:=h.ok I.gr;exact⟨b,r,p,z⟩
 ·refine⟨b.toList,r,⟨o,I.qP a o d,f,n,by simpa using c⟩,?_⟩;have e:=r.length;simp only[a8] at e;omega
def eE.ub(I:eE X pins σ H s)(h:jS X.K H a xs)(h':jS X.K H a ys):xs=ys:=by
 obtain⟨c,r,⟨o,n,e,_,_,d⟩,_⟩:=I.list h;obtain⟨b,i,⟨k,l,f,_,_,g⟩,_⟩:=I.list h';rw[e] at f;cases f;rw[d] at g;injection g with j _
 have:c=b:=by simpa using bg Array.toList j
 subst this;exact r.inj i
def eE.D2(I:eE X pins σ H s)(h:mV X.K H a xs)(j:mV X.K H a ys):xs=ys:=by
 obtain⟨c,r,⟨o,e,_,n,d⟩,_⟩:=I.tuple h;obtain⟨b,i,⟨l,f,_,m,g⟩,_⟩:=I.tuple j;rw[e] at f;cases f;rw[d] at g;injection g with k _
 have:c=b:=by simpa using bg Array.toList k
 subst this;exact r.inj i
end
abbrev Cx.vP(X:Cx)(E:Value->Shared->Prop):Cx:={ X with xe:=E }
abbrev Cx.Iv(X:Cx):Cx:=X.vP λ_ _=>False
theorem Cx.Ok.vP{X:Cx}(a:X.Ok)(E:Px):(X.vP E).Ok :=
 ⟨a.mod,a.kind,a.glob,a.blt,a.above,a.inj,a.has,a.Nr,a.hd,a.frames,a.Nt,a.Rt,a.bs,a.KP,a.Fs,a.Bt,a.o5,a.Ft⟩
def Cx.Ok.ng(a:(X.vP E).Ok):X.Ok :=
 ⟨a.mod,a.kind,a.glob,a.blt,a.above,a.inj,a.has,a.Nr,a.hd,a.frames,a.Nt,a.Rt,a.bs,a.KP,a.Fs,a.Bt,a.o5,a.Ft⟩
section
variable {s:Shared}
theorem eE.vP(I:eE X pins σ H s)(E:Px):eE (X.vP E) pins σ H s:=⟨I.ok.vP E,I.os,I.bare,I.base,I.loc,I.cell,I.free,I.kl,I.pin,I.gr,I.len⟩
theorem eE.ng(I:eE (X.vP E) pins σ H s):eE X pins σ H s:=⟨I.ok.ng,I.os,I.bare,I.base,I.loc,I.cell,I.free,I.kl,I.pin,I.gr,I.len⟩
theorem SP.ng{D:ua}{f:Flow}{b:Shared}(h:SP (X.vP E) pins D f b):SP X pins D f b:=by
 cases f with
 |next=>obtain⟨σ',a,I,q⟩:=h;exact⟨σ',a,I.ng,q⟩
 |brk=>obtain⟨σ',a,I,q⟩:=h;exact⟨σ',a,I.ng,q⟩
 |cont=>obtain⟨σ',a,I,q⟩:=h;exact⟨σ',a,I.ng,q⟩
 |ret u=>obtain⟨v,σ',a,I,r,q⟩:=h;exact⟨v,σ',a,I.ng,r,q⟩
theorem tJ.Iv{b:List Stmt}{t:TS}(h:tJ X.Iv b t):tJ X b t:=λa s σ H D I hw=>
 bO (@h a s σ H D (I.vP _) hw) (λ_ _ q=>q.ng) λ_ _ z=>False.elim z
end
section
variable {rest:List Stmt}{t u:TS}{te:TE}
def Nz:TS:=λD σ H=>D.nx σ H
def PN(t u:TS):TS:=λD σ H=>t { D with nx:=u D } σ H
def IL:tJ X [] Nz:=λ_ _ σ H _ I h=>dh ⟨σ,H,I,h⟩
def zr(d:PS X st t)(c:tJ X rest u):tJ X (st::rest) (PN t u):=by
 intro a s σ H D I h;refine wpAny_execs_cons (gd (@d a s σ H { D with nx:=u D } I h) λf b q=>?_);cases f with
 |next=>obtain⟨σ',g,e,q⟩:=q;exact @c a b σ' g D e q
 |ret v=>exact q
 |brk=>exact q
 |cont=>exact q
def CU(b:PS X st t):tJ X [st] t:=by
 intro a s σ H D I h;refine wpAny_execs_cons (gd (@b a s σ H D I h) λf c q=>?_);cases f with
 |next=>exact dh q
 |ret v=>exact q
 |brk=>exact q
 |cont=>exact q
def LM:TS:=λD σ H=>D.bk σ H
def Fw:PS X (.Break pos) LM:=λ_ _ σ H _ I h=>wpAny_Break ⟨σ,H,I,h⟩
def eE.quiet{s:Shared}(I:eE X pins σ H s):interactive X.env=false:=by simp[interactive,I.ok.kind]
def NA(a:TE):TS:=λD σ H=>a σ H λ_ b=>D.nx σ b
def kW(d:PE X e te)(c:swapsWith e Z pos.line X.env=pure false:=by rfl):PS X (.Expr e pos) (NA te):=by intro a s σ H D I h;exact wpAny_Expr_any (gd (@d a s σ H _ I h) <| by rintro v i ⟨x,g,f,j,b⟩;exact⟨σ,g,f,b⟩) I.quiet c
def PQ(a:TE):TS:=λD σ H=>a σ H D.rt
def uc(d:PE X e te):PS X (.Return (Y e) pos) (PQ te):=by intro a s σ H D I h;exact wpAny_Return_some (gd (@d a s σ H _ I h) <| by rintro v i ⟨x,g,f,b,c⟩;exact⟨x,σ,g,f,b,c⟩)
def NB:TS:=λD _ H=>D.rt .jj H
def IM:PS X (.Return Z pos) NB:=λ_ _ σ H _ I h=>wpAny_Return_none ⟨.jj,σ,H,I,rfl,h⟩
def PY(c:TT)(t u:TS):TS:=λD σ H=>c σ H λb a=>if b=true then t D σ a else u D σ a
def KR{a b:List Stmt}{f:TT}(l:PT X c f)(n:tJ X a t)(m:tJ X b u):PS X (.If c a b pos) (PY f t u):=by
 intro e s σ H D I h;refine wpAny_If (gd (@l e s σ H _ I h) ?_);rintro d g ⟨k,j,i⟩;cases d with
 |true=>exact @n e g σ k D j i
 |false=>exact @m e g σ k D j i
def LO:TS:=λ_ _ _=>False
def Fx:PS X st LO:=λ_ _ _ _ _ _ h=>h.elim
end
abbrev TG:=V->St->Hp->(St->Hp->Prop)->Prop
abbrev IP:=List V->St->Hp->(St->Hp->Prop)->Prop
def PG(X:Cx)(a:Expr)(t:TG):Prop :=
 ∀⦃b:Ax⦄ (s:Shared) (σ:St) (H:Hp) (v:V) (u:Value) (Q:St->Hp->Prop),eE X b σ H s->eV v u->t v σ H Q ->
  (zw X) (assign a X.env u) (λ_ d=>∃σ' c,eE X b σ' c d/\Q σ' c) X.xe s
def Iw(X:Cx)(c:Lx)(t:IP):Prop :=
 ∀⦃a:Ax⦄ (s:Shared) (σ:St) (H:Hp) (vs:List V) (us:Lw) (Q:St->Hp->Prop),eE X a σ H s->eQ vs us->t vs σ H Q ->
  (zw X) (assignInOrder ((assignEach c X.env).map (·.2)) us) (λ_ d=>∃σ' b,eE X a σ' b d/\Q σ' b) X.xe s
abbrev IQ:=V->V->V->Hp->(Hp->Prop)->Prop
def xO(X:Cx)(t:IQ):Prop :=
 ∀(a:Ax) (s:Shared) (σ:St) (H:Hp) (o i v:V) (b c u:Value) (Q:Hp->Prop),eE X a σ H s->eV o b->eV i c->eV v u->t o i v H Q ->
  (zw X) (setItem b c u) (λ_ e=>∃d,eE X a σ d e/\Q d) X.xe s
abbrev Pb:=V->V->Hp->VK->Prop
def Pc(X:Cx)(b:Operator)(t:Pb):Prop :=
 ∀(a:Ax) (s:Shared) (σ:St) (H:Hp) (x y:V) (v u:Value) (Q:VK),eE X a σ H s->eV x v->eV y u->t x y H Q ->
  (zw X) (inplaceOp b v u) (EP X a σ Q) X.xe s
section
def CV(i:Nat):TG:=λv σ H Q=>Q (σ.set i (Y v)) H
def pU(e:X.N.Nodup)(c:X.N[i]?=Y x)(b:CQ X.env.scope x)(d:X.fn x=true\/X.env.scope.names.lookup x=Y .local:=by first|exact .inl rfl|exact .inr rfl|assumption):PG X (.Name x pos) (CV i):=by intro a s σ H v u Q I r h;exact wpAny_assign_Name (tZ I e c b r (λg f=>⟨_,H,f,h⟩) d)
def PZ:IP:=λa σ H Q=>a=[]/\Q σ H
def NC(t:TG)(u:IP):IP:=λa σ H Q=>∃v r,a=v::r/\t v σ H λσ' b=>u r σ' b Q
def CW:Iw X [] PZ:=by intro a s σ H b c Q I r h;obtain⟨e,h⟩:=h;subst e;cases r;exact assignInOrder_nil ⟨σ,H,I,h⟩
def ud{b:Lx}{t:TG}{u:IP} (j:PG X e t) (i:Iw X b u)
  (g:(assignEach (e::b) X.env).map (·.2)=assign e X.env::(assignEach b X.env).map (·.2):=by rfl):Iw X (e::b) (NC t u):=by
 intro a s σ H n p Q I r h;obtain⟨v,o,k,h⟩:=h;subst k;cases r with
 |cons r d=>rw[g];refine assignInOrder_cons (gd (@j a s σ H _ _ _ I r h) ?_);rintro _ c ⟨σ1,m,l,f⟩;exact @i a c σ1 m _ _ Q l d f
def P0(K:Fg)(n:Nat)(t:IP):TG:=λv σ H Q=>∃a b,v=.ref a/\mV K H a b/\b.length=n/\t b σ H Q
def Fy{d:Lx}{k:Nat}{t:IP} (x:X.calm=true) (h:Iw X d t)
  (q:(assignEach d X.env).length=n:=by rfl) (f:(assignEach d X.env).findIdx? (·.1)=Z:=by rfl):PG X (.Tuple d k pos) (P0 X.K n t):=by
 intro c s σ H v u Q I r hw;obtain⟨a,i,z,p,w,hw⟩:=hw;subst z;cases r;obtain⟨j,g,m,B⟩:=I.tuple p;refine assign_Tuple_tuple (I.ok.hd x) m (by simp[q,<-w,g.length]) f λy l=>?_;have A:eE X c σ H { s with heap:=y }:=I.kept (t':=s.toks) λb o e=>l b o (aE (aj e)) e;exact @h c _ σ H i _ Q A (by simpa using g) hw
def P1(a b:TE)(t:IQ):TG:=λv σ H Q=>a σ H λo e=>b σ e λi d=>t o i v d λc=>Q σ c
def Bu{i:Expr}{b c:TE}{t:IQ} (n:PE X o b) (p:PE X i c) (m:xO X t)
  (q:∀v,assign (.Subscript o i pos) X.env v=(do
   let ov <-holding [v] (eval o X.env);let iv <-holding [v,ov] (eval i X.env)
   standAt pos
   holding [v,ov,iv] (setItem ov iv v)
   release [v,ov,iv] []):=by intro _;rfl):PG X (.Subscript o i pos) (P1 b c t):=by
 intro a s σ H v u Q I r h;rw[q];refine aa (aY (gd (@n a s σ H _ I h) ?_));rintro ov e ⟨x,D,A,g,l⟩;refine aa (aY (gd (@p a e σ D _ A l) ?_));rintro iv d ⟨y,C,z,f,k⟩;refine aa (wpAny_standAt (aa (aY (gd (@m a d σ C x y v ov iv u _ z g f r k) ?_))));rintro _ E ⟨B,w,j⟩;exact wpAny_release ⟨σ,B,w,j⟩
def LP(a:TE)(g:TG):TS:=λD σ H=>a σ H λx b=>g x σ b D.nx
def Bv{b:TE}{g:TG} (k:PE X e b) (j:PG X tg g) (i:swapsWithSole [tg] e pos.line X.env=pure false:=by rfl) (hw:swappedStores [tg] e X.env=pure Z:=by rfl)
  (l:(assignEach [tg] X.env).map (·.2)=[assign tg X.env]:=by rfl):PS X (.Assign [tg] e pos) (LP b g):=by
 intro a s σ H D I h;refine wpAny_Assign_stores (gd (@k a s σ H _ I h) ?_) i hw;rintro v c ⟨x,n,m,d,f⟩;rw[l];exact gd (@j a c σ n x v _ m d f) λ_ o q=>q
def xP{c:TE}{a:Pos}(n:X.N.Nodup)(k:X.N[i]?=Y x)(g:CQ X.env.scope x)(m:PE X e c)(j:swapsWith e (Y (.Name x a)) pos.line X.env=pure false:=by rfl)(l:X.fn x=true\/X.env.scope.names.lookup x=Y .local:=by first|exact .inl rfl|exact .inr rfl|assumption):
  PS X (.Assign [.Name x a] e pos) (LP c (CV i)):=by
 intro b s σ H D I h;refine wpAny_Assign_Name (gd (@m b s σ H _ I h) ?_) j;rintro v r ⟨y,q,p,d,f⟩;exact tZ p n k g d (λs2 o=>⟨_,q,o,f⟩) l
def P2(i:Nat)(b:TE)(a:Pb):TS:=λD σ H=>∃x,σ[i]?=Y (Y x)/\b σ H λy d=>a x y d λz c=>D.nx (σ.set i (Y z)) c
def LQ{t:TE}{o:Operator}{q:Pb}{j:Pos}(S:X.N.Nodup)(A:X.N[i]?=Y x)(p:CQ X.env.scope x)(Q:PE X e t)(K:Pc X o q)(P:X.fn x=true\/X.env.scope.names.lookup x=Y .local:=by first|exact .inl rfl|exact .inr rfl|assumption):
  PS X (.AugAssign (.Name x j) o e pos) (P2 i t q):=by
 intro a s σ H D I h;obtain⟨v,T,h⟩:=h;obtain⟨m,L,O⟩:=I.loc;have n:D0 X.env.scope x:=by rcases p with k|k;exact .inl k;exact .inr (.inl k)
 obtain⟨u,r,l⟩:=O i x v A T n;refine wpAny_AugAssign_Name ?_;have B:(zw X) (eval e X.env) (λw g=>(zw X) (inplaceOp o u w) (λr f=>(zw X) (storeName X.env x r) (λ_=>SP X a D .next) X.xe f) X.xe g) X.xe s:=by refine gd (@Q a s σ H _ I h) ?_;rintro w C ⟨y,H1,W,F,J⟩;refine gd (@K a C σ H1 v y u w _ W r F J) ?_;rintro z s2 ⟨zv,H2,V,E,G⟩;exact tZ V S A p E (λs3 U=>⟨_,H2,U,G⟩) P
 rcases l with ⟨b,M⟩ | ⟨b,c,R,d⟩
 ·exact wpAny_loadName_local I.ok.kind b L M B
 ·rcases b with b|b
  ·exact wpAny_loadName_cell I.ok.kind b R d B
  ·rcases p with k|k
   ·have:X.env.scope.names.lookup x=Y .free:=b;rw[k] at this;cases this
   ·have:X.env.scope.names.lookup x=Y .free:=b;rw[k] at this;cases this
def P4(f:Int->Int->Int):Pb:=λx y H Q=>∃i j,x=.int i/\y=.int j/\Q (.int (f i j)) H
def Fz:Pc X .Add (P4 λi j=>i+j):=by intro a s σ H x y v u Q I c b h;obtain⟨i,j,e,d,q⟩:=h;subst e;subst d;obtain⟨t,rfl⟩:=c;obtain⟨f,rfl⟩:=b;exact iadd_int ⟨.int _,H,I.tok _,⟨_,rfl⟩,q⟩
def FA:Pc X .Sub (P4 λi j=>i - j):=by intro a s σ H x y v u Q I c b h;obtain⟨i,j,e,d,q⟩:=h;subst e;subst d;obtain⟨t,rfl⟩:=c;obtain⟨f,rfl⟩:=b;exact isub_int ⟨.int _,H,I.tok _,⟨_,rfl⟩,q⟩
end
section
def LR(c:TT)(f:TS):TS:=λD σ H=>∃W:Nat->St->Hp->Prop,(∃m,W m σ H)/\∀m σ H,W m σ H ->
 c σ H λb d=>if b=true then ∃N:St->Hp->Prop,(∀σ' e,N σ' e->∃a,a<m/\W a σ' e)/\f { D with nx:=N,ct:=N,bk:=D.nx } σ d else D.nx σ d
def FC{d:List Stmt}{q:TT}{r:TS}(t:PassesOwn (model X.prog X.w) X.A X.env X.xe)(L:PT X c q)(M:tJ X d r):PS X (.While c d [] pos) (LR q r):=by
 intro a s σ H D I h;obtain⟨W,⟨K,E⟩,e⟩:=h;refine wpAny_While (codeAny_whileLoop (λn J=>∃σ' B,eE X a σ' B J/\W n σ' B) ?_ K ⟨σ,H,I,E⟩);rintro n G ⟨σ1,z,O,C⟩;refine cg t (gd (@L a G σ1 z _ O (e n σ1 z C)) ?_);rintro b F ⟨y,x,j⟩;cases b with
 |true=>
  obtain⟨N,u,j⟩:=j;rw[af rfl];refine cg t (gd (@M a F σ1 y _ x j) λf P i=>?_);cases f with
  |next=>obtain⟨σ3,g,p,l⟩:=i;obtain⟨m,o,k⟩:=u σ3 g l;exact⟨m,o,σ3,g,p,k⟩
  |cont=>obtain⟨σ3,g,p,l⟩:=i;obtain⟨m,o,k⟩:=u σ3 g l;exact⟨m,o,σ3,g,p,k⟩
  |brk=>exact i
  |ret v=>exact i
 |false=>rw[ag aQ];exact dh ⟨σ1,y,x,j⟩
end
structure It where
 go:Nat->Hp->Prop
 Iy:Nat->Hp->V->Hp->Prop
 stop:Nat->Hp->Prop
def mW(X:Cx)(a:Ax)(H:Hp)(b:Addr):Prop :=
 H b=Z/\b≠X.env.locals/\b∉X.fs/\(b∈X.ex\/(zB X.s₀)<=b)/\(∀x c,X.env.cells.lookup x=Y c->c≠b)/\∀p∈X.pn++a,p.1≠b
def eE.zt{d:Hp}{s:Shared}{b:Addr}(I:eE X pins σ H s)(a:(zB s)<=b)(g:d b=Z):mW X pins d b:=by
 refine⟨g,bX (aG I.lt a),I.Py a,.inr (bc I.sz a),λx c e z=>?_,λp f z=>?_⟩
 ·obtain⟨v,q⟩:=I.cell x c e;exact absurd (aG q.lt (by rw[z];exact a)) (aW _)
 ·exact absurd (aG (aj (I.pin p f).1) (by rw[z];exact a)) (aW _)
structure zu (P:Program) (w:World) (K:Fg) (tg:Expr) (J:It) (fp:List Addr) (it:Addr) (tn:Nat->Heap->Prop):Prop where
 mem:it∈fp
 obj:∀i h,tn i h->∀b∈fp,∃o,h.get? b=Y o/\∀v,o.data≠.cell v
 keep:∀i h h',tn i h->(∀b∈fp,∀o,h.get? b=Y o->h'.get? b=Y o)->tn i h'
 item:∀(X:Cx),X.prog=P->X.w=w->X.K=K->X.calm=true->∀(i:Nat) (pins:Ax) (s:Shared) (σ:St) (H:Hp) (E:Px),eE X pins σ H s->(∀b∈fp,mW X pins H b)->tn i s.heap->J.go i H ->
  wpAny (model P w) X.A (pyNext (.ref it)) (λr s1=>∃u,r=Y u /\
   wpAny (model P w) X.A (letOwnedTupleGo tg (.ref it) u) (λ_ s2=>∃x H',eE X pins σ H' s2/\eV x u/\J.Iy i H x H'/\tn (i+1) s2.heap/\∀b∈fp,H' b=Z) E s1) E s
 done:∀(X:Cx),X.prog=P->X.w=w->X.K=K->X.calm=true->∀(i:Nat) (pins:Ax) (s:Shared) (σ:St) (H:Hp) (E:Px),eE X pins σ H s->(∀b∈fp,mW X pins H b)->tn i s.heap->J.stop i H ->
  wpAny (model P w) X.A (pyNext (.ref it)) (λr s1=>r=Z/\eE X pins σ H s1) E s
 self:∀(A:Around) (i:Nat) (s:Shared) (Q:Px) (E:Px),tn i s.heap->Q (.ref it) s->wpAny (model P w) A (pyIter (.ref it)) Q E s
abbrev TI:=St->Hp->(It->Hp->Prop)->Prop
def P5(X:Cx)(a:Ax)(σ:St)(f:Expr)(R:It->Hp->Prop)(c:Value)(d:Shared):Prop :=
 ∃(e:Addr) (fp:List Addr) (tn:Nat->Heap->Prop) (J:It) (H':Hp),c=.ref e/\eE X a σ H' d/\zu X.prog X.w X.K f J fp e tn/\tn 0 d.heap/\(∀b∈fp,mW X a H' b)/\R J H'
def PI(X:Cx)(d b:Expr)(c:TI):Prop :=
 ∀⦃a:Ax⦄ (s:Shared) (σ:St) (H:Hp) (R:It->Hp->Prop),eE X a σ H s->c σ H R ->
  (zw X) (eval b X.env) (λv s1=>(zw X) (pyIter v) (P5 X a σ d R) X.xe s1) X.xe s
def ue{M:Model}{s:Shared}{c:Addr}{u:Value}{o:Obj}{n:String}{b:Array Value}{Q:Unit->Shared->Prop} (d:s.heap.get? c=Y o) (g:o.cls=.type n) (f:o.data=.fields b)
    (e:["enumerate","zip","dict_itemiterator","dict_reverseitemiterator","odict_iterator","itertools.zip_longest","itertools.pairwise"].contains n=false) (a:Q () s):wpAny M A (letOwnedTupleGo tg (.ref c) u) Q E s:=by
  unfold letOwnedTupleGo;cases tg<;>first
    |exact ae a
    | (cases u<;>first
        |exact ae a
        | (refine aa (wpAny_load d ?_)
           rw[g,f];show wpAny M A (if (["enumerate","zip","dict_itemiterator","dict_reverseitemiterator","odict_iterator","itertools.zip_longest","itertools.pairwise"].contains n&&b[0]?==Y (rawInt _))=true then _ else _) Q E s;rw[ag (by intro h;rw[e,Bool.false_and] at h;cases h)];exact ae a))
def Ru(K:Fg)(a:Addr):It :=
 ⟨λi H=>∃b x,jS K H a b/\b[i]?=Y x,λi H x c=>c=H/\∀b,jS K H a b->b[i]?=Y x,λi H=>∃b,jS K H a b/\b.length<=i⟩
def Rv(K:Fg)(a:Addr):It :=
 ⟨λi H=>∃b x,mV K H a b/\b[i]?=Y x,λi H x c=>c=H/\∀b,mV K H a b->b[i]?=Y x,λi H=>∃b,mV K H a b/\b.length<=i⟩
def ND(a:Int)(n:Nat):It:=⟨λi _=>i<n,λi H x b=>b=H/\x=.int (a+i),λi _=>n<=i⟩
def D3{P:Program}(a j:Addr):zu P w K tg (Ru K a) [j] j (λi h=>h.IsListIter j a i) where
 mem:=by simp
 obj:=λi h f b l=>by
  have e:b=j:=by simpa using l
  subst e;obtain⟨o,e,c,d⟩:=f;exact⟨o,e,λv z=>by rw[d] at z;cases z⟩
 keep:=λi h r f k=>f.at λo e=>k j (by simp) o e
 item:=by intro X C hw D N i g s σ H E I q f B;subst C hw D;obtain⟨O,x,n,A⟩:=B;obtain⟨y,t,p,S⟩:=I.list n;obtain⟨u,U,R⟩:=t.get A;obtain⟨M,L,V,J,G,F⟩:=q j (by simp);refine cV f p.isList (x:=u) (by simpa using U) λr m Q=>?_;have I1:eE X g σ H { s with heap:=r }:=I.turned (t':=s.toks) (λb o l e=>(Q.2 b l).trans e) M L J G F;obtain⟨o,e,c,d⟩:=id m;exact⟨u,rfl,ue (s:={ s with heap:=r }) e c d (by decide) ⟨x,H,I1,R,⟨rfl,λys T=>by rw[I.ub T n];exact A⟩,m,λb l=>(q b l).1⟩⟩
 done:=by intro X C hw D N i g s σ H E I q f B;subst C hw D;obtain⟨O,n,A⟩:=B;obtain⟨y,t,p,S⟩:=I.list n;obtain⟨M,L,V,J,G,F⟩:=q j (by simp);have hl:=t.length;exact c7 (I.ok.hd N) f p.isList (by simp;omega) λr W=>⟨rfl,I.turned (t':=s.toks) (λb o l e=>W b o l e) M L J G F⟩
 self:=λ_ _ _ _ _ f h=>wpAny_pyIter_listiter f h
def Bw{P:Program}(a l:Addr):zu P w K tg (Rv K a) [l] l (λi h=>h.IsTupleIter l a i) where
 mem:=by simp
 obj:=λi h f b m=>by
  have e:b=l:=by simpa using m
  subst e;obtain⟨o,e,c,d⟩:=f;exact⟨o,e,λv z=>by rw[d] at z;cases z⟩
 keep:=λi h t f k=>f.at λo e=>k l (by simp) o e
 item:=by intro X C hw D N i g s σ H E I r f B;subst C hw D;obtain⟨O,x,q,A⟩:=B;obtain⟨j,y,p,S⟩:=I.tuple q;obtain⟨u,U,R⟩:=y.get A;obtain⟨M,L,V,J,G,F⟩:=r l (by simp);refine wpAny_pyNext_tuple_item f (show s.heap.IsTuple a j.toArray from p) (x:=u) (by simpa using U) λt n Q=>?_;have I1:eE X g σ H { s with heap:=t }:=I.turned (t':=s.toks) (λb o m e=>(Q.2 b m).trans e) M L J G F;obtain⟨o,e,c,d⟩:=id n;exact⟨u,rfl,ue (s:={ s with heap:=t }) e c d (by decide) ⟨x,H,I1,R,⟨rfl,λys T=>by rw[I.D2 T q];exact A⟩,n,λb m=>(r b m).1⟩⟩
 done:=by intro X C hw D N i g s σ H E I r f B;subst C hw D;obtain⟨O,q,A⟩:=B;obtain⟨j,y,p,S⟩:=I.tuple q;obtain⟨M,L,V,J,G,F⟩:=r l (by simp);have hl:=y.length;exact wpAny_pyNext_tuple_end (I.ok.hd N) f (show s.heap.IsTuple a j.toArray from p) (by simp;omega) λt W=>⟨rfl,I.turned (t':=s.toks) (λb o m e=>W b o m e) M L J G F⟩
 self:=λ_ _ _ _ _ f h=>wpAny_pyIter_tupleiter f h
def Bx{P:Program}(d:Addr)(j:Int)(n:Nat):zu P w K tg (ND j n) [d] d (λi h=>IsRangeIter h d (j+(i:Nat)*1) ((n:Int) - (i:Nat)) 1) where
 mem:=by simp
 obj:=λi h a b f=>by
  have e:b=d:=by simpa using f
  subst e;exact⟨_,a,λv z=>by have F:Data.fields _=Data.cell v:=z;cases F⟩
 keep:=λi h m a k=>k d (by simp) _ a
 item:=by intro X r hw u q i c s σ H E I l a p;subst r hw u;obtain⟨C,B,L,A,y,x⟩:=l d (by simp);have W:=Walks.range (prog:=X.prog) (w:=X.w) (I.ok.hd q) d j 1 n;refine W.item i s _ _ p a λv m D J g G=>?_;obtain⟨t,rfl⟩:=J;have N:eE X c σ H { s with heap:=m,toks:=D }:=I.turned (λb o f e=>G b o (by simpa using f) e) C B A y x;refine⟨_,rfl,ue (s:={ s with heap:=m,toks:=D }) (n:="range_iterator") g rfl rfl (by decide) ⟨.int (j+i),H,N,⟨t,?_⟩,⟨rfl,rfl⟩,g,λb f=>(l b f).1⟩⟩;rw[Int.mul_one]
 done:=by intro X r hw u q i c s σ H E I l a p;subst r hw u;obtain⟨C,B,L,A,y,x⟩:=l d (by simp);exact wpAny_pyNext_range_end (I.ok.hd q) a (by have:n<=i:=p;omega) λm M=>⟨rfl,I.turned (t':=s.toks) (λb o f e=>M b o f e) C B A y x⟩
 self:=λ_ _ _ _ _ a h=>wpAny_pyIter_rangeiter a h
section
def NF(K:Fg)(d:TE):TI:=λσ H R=>d σ H λx b=>∃a,x=.ref a/\(∃c,jS K b a c)/\R (Ru K a) b
def P6(K:Fg)(d:TE):TI:=λσ H R=>d σ H λx b=>∃a,x=.ref a/\(∃c,mV K b a c)/\R (Rv K a) b
def CY{l:Expr}{g:TE}(n:PE X l g):PI X tg l (NF X.K g):=by
 intro c s σ H R I h;refine gd (@n c s σ H _ I h) ?_;rintro v d ⟨x,t,f,i,j⟩;obtain⟨a,e,⟨u,m⟩,q⟩:=j;subst e;cases i;obtain⟨k,w,p,y⟩:=f.list m;refine cF p.isList ?_;refine⟨(zB d),[(zB d)],_,_,t,rfl,f.kept (t':=d.toks) λb o e=>ah _ e,D3 a _,⟨_,ar _ rfl,rfl,rfl⟩,λb r=>?_,q⟩;have e:b=(zB d):=by simpa using r
 subst e;exact f.zt (ax _) (f.gr.fresh (ax _))
def FD{l:Expr}{i:TE}(n:PE X l i):PI X tg l (P6 X.K i):=by
 intro d s σ H R I h;refine gd (@n d s σ H _ I h) ?_;rintro v c ⟨x,t,f,j,k⟩;obtain⟨a,e,⟨u,m⟩,q⟩:=k;subst e;cases j;obtain⟨g,w,p,y⟩:=f.tuple m;refine wpAny_pyIter_tuple (show c.heap.IsTuple a g.toArray from p) ?_;refine⟨(zB c),[(zB c)],_,_,t,rfl,f.kept (t':=c.toks) λb o e=>ah _ e,Bw a _,⟨_,ar _ rfl,rfl,rfl⟩,λb r=>?_,q⟩;have e:b=(zB c):=by simpa using r
 subst e;exact f.zt (ax _) (f.gr.fresh (ax _))
def FE{s:Shared}{R:It->Hp->Prop}{a c:Int}{t u v:Tok}{d:Nat} (I:eE X pins σ H s) (k:-(2 ^ 62)<=a) (j:a<2 ^ 62) (i:-(2 ^ 62)<=c) (h:c<2 ^ 62)
  (q:R (ND a (c - a).toNat) H):(zw X) (pyIter (.ref (zB s))) (P5 X pins σ tg R) E { s with heap:=s.heap.push { cls:=.type "range",data:=.fields #[.int a t,.int c u,.int 1 v] },toks:=d }:=by
 refine wpAny_pyIter_range (IsRange.new ..) (small_one k j i h) ?_;have f:eE X pins σ H { s with heap:=s.heap.push { cls:=.type "range",data:=.fields #[.int a t,.int c u,.int 1 v] },toks:=d }:=I.kept λb o e=>ah _ e;refine⟨(s.heap.push { cls:=.type "range",data:=.fields #[.int a t,.int c u,.int 1 v] }).objs.size,[(s.heap.push { cls:=.type "range",data:=.fields #[.int a t,.int c u,.int 1 v] }).objs.size],_,_,H,rfl,
  f.kept (t':=d) λb o e=>ah _ e,Bx _ a (c - a).toNat,?_,λb g=>?_,q⟩
 ·have m:a+((0:Nat):Int)*1=a:=by simp
  have l:(((c - a).toNat:Nat):Int) - ((0:Nat):Int)=Builtin.Range.rangeSize a c 1:=by rw[rangeSize_one];split<;>omega
  show IsRangeIter _ _ (a+((0:Nat):Int)*1) ((((c - a).toNat:Nat):Int) - ((0:Nat):Int)) 1;rw[m,l];exact ar _ rfl
 ·have e:b=(s.heap.push { cls:=.type "range",data:=.fields #[.int a t,.int c u,.int 1 v] }).objs.size:=by simpa using g
  subst e;exact f.zt (ax _) (f.gr.fresh (ax _))
def NG(b:TA):TI:=λσ H R=>b σ H λa c=>∃j:Int,a=[.int j]/\-(2 ^ 62)<=j/\j<2 ^ 62/\R (ND 0 j.toNat) c
def wM{a:Expr}{d:TA}(m:Gl X "range")(l:X.mg "range"=Z)(n:PA X [a] d)(k:starEach [a] X.env=[(false,eval a X.env)]:=by rfl):PI X tg (.Call (.Name "range" p) [a] [] pos) (NG d):=by
 intro b s σ H R I h;refine Call_ (jk I m l boot_range (aU (gd (@n pos b s σ H _ I h) ?_) k rfl));rintro v w ⟨u,x,o,g,c⟩;obtain⟨j,e,c,i,q⟩:=c;subst e;cases g with
 |cons r f=>cases f;obtain⟨t,rfl⟩:=r;exact call_range_1 (FE o (by omega) (by omega) c i (by simpa using q))
def P7(c:TI)(g:TG)(d:TS):TS:=λD σ H=>c σ H λJ f=>∃W:Nat->Nat->St->Hp->Prop,(∃m,W 0 m σ f)/\∀i m σ H,W i m σ H ->
 (J.stop i H/\D.nx σ H)\/(J.go i H/\∃N:St->Hp->Prop,(∀σ' a,N σ' a->∃b,b<m/\W (i+1) b σ' a)/\∀x a,J.Iy i H x a->g x σ a λσ2 e=>d { D with nx:=N,ct:=N,bk:=D.nx } σ2 e)
def uf(a:List Addr)(h:Heap):Ax:=a.filterMap λb=>(h.get? b).map λo=>(b,o)
def mr{a:List Addr}{b:Addr}{o:Obj}(c:b∈a)(e:h.get? b=Y o):(b,o)∈uf a h:=bU.mpr ⟨b,c,by rw[e];rfl⟩
def D4{a:List Addr}{p:Addr×Obj}(c:p∈uf a h):p.1∈a/\h.get? p.1=Y p.2:=by
 obtain⟨b,d,e⟩:=bU.mp c;cases q:h.get? b with
 |none=>rw[q] at e;cases e
 |some o=>rw[q] at e;have f:(b,o)=p:=bo e;subst f;exact⟨d,q⟩
def eE.pinned{s:Shared}{a:List Addr}(I:eE X pins σ H s)(i:∀b∈a,mW X pins H b)(h:∀b∈a,∃o,s.heap.get? b=Y o/\∀v,o.data≠.cell v):eE X (pins++uf a s.heap) σ H s :=
 I.ml λp g=>(aC.mp g).elim (λz=>I.pin p (ai _ z)) λz=>by obtain⟨c,e⟩:=D4 z;obtain⟨l,k,j,_⟩:=i p.1 c;obtain⟨o,f,d⟩:=h p.1 c;rw[e] at f;cases f;exact⟨e,l,k,j,d⟩
def eE.nh{pl:Ax}{s:Shared}(I:eE X (pins++pl) σ H s):eE X pins σ H s:=I.ml λp a=>I.pin p (ai _ (aw _ a))
def xQ{j:Expr}{z:List Stmt}{wi:TI}{g:TG}{tb:TS} (L:PassesOwn (model X.prog X.w) X.A X.env X.xe) (hc:X.calm=true) (hi:PI X tg j wi) (hg:PG X tg g) (k:tJ X z tb)
  (hs:∀x,foldedSetIterable j X.env x=pure x:=by intro _;rfl):PS X (.For tg j z [] pos) (P7 wi g tb):=by
 intro a s σ H D I h;refine wpAny_For (gd (@hi a s σ H _ I h) λv s1 h1=>gd h1 λSl s2 h2=>?_) hs;obtain⟨it,O,tn,J,H2,e,I2,T,Q,f2,W,⟨m0,w0⟩,C⟩:=h2;subst e;have c:∀{t:Hp},(∀b∈O,t b=Z)->∀b∈O,mW X a t b:=λhn b k=>⟨hn b k,(f2 b k).2⟩
 refine codeAny_forLoop_any (λn s'=>∃i σ' t,eE X a σ' t s'/\tn i s'.heap/\(∀b∈O,t b=Z)/\W i n σ' t) ?_ m0 ⟨0,σ,H2,I2,Q,λb k=>(f2 b k).1,w0⟩;rintro n s3 ⟨i,σ3,P,I3,G,M,w3⟩;rcases C i n σ3 P w3 with ⟨E,qn⟩ | ⟨go,N,hN,F⟩
 ·refine cg L (gd (T.done X rfl rfl rfl @hc i a s3 σ3 P X.xe I3 (c M) G E) ?_);rintro r s4 ⟨S,I4⟩;subst S;exact dh ⟨σ3,P,I4,qn⟩
 ·refine cg L (gd (T.item X rfl rfl rfl @hc i a s3 σ3 P X.xe I3 (c M) G go) ?_);rintro r s4 ⟨u,S,h4⟩;subst S;refine cg L (gd h4 ?_);rintro _ s5 ⟨x,H5,I5,r5,y5,B,U⟩;have V:=I5.pinned (c U) (T.obj _ _ B);refine cg L (gd (@hg _ s5 σ3 H5 x u _ V r5 (F x H5 y5)) ?_);rintro _ s6 ⟨σ6,H6,I6,q6⟩;refine cg L (gd (@k _ s6 σ6 H6 _ I6 q6) λf R y=>?_);have l:∀{σ7:St}{q:Hp},eE X (a++uf O s5.heap) σ7 q R->N σ7 q->∃m,m<n/\∃i σ' t,eE X a σ' t R/\tn i R.heap/\(∀b∈O,t b=Z)/\W i m σ' t:=λ{σ7 q} p K=>by
   obtain⟨m',hm,w7⟩:=hN σ7 q K;refine⟨m',hm,i+1,σ7,q,p.nh,T.keep _ _ _ B λb k o e=>(p.pin (b,o) (ai _ (ai _ (mr k e)))).1,λb k=>?_,w7⟩;obtain⟨o,e,d⟩:=T.obj _ _ B b k;exact(p.pin (b,o) (ai _ (ai _ (mr k e)))).2.1
  cases f with
  |next=>obtain⟨σ7,q,p,K⟩:=y;exact l p K
  |cont=>obtain⟨σ7,q,p,K⟩:=y;exact l p K
  |brk=>obtain⟨σ7,q,p,y⟩:=y;exact⟨σ7,q,p.nh,y⟩
  |ret v=>obtain⟨x7,σ7,q,p,r7,y⟩:=y;exact⟨x7,σ7,q,p.nh,r7,y⟩
end
abbrev R2:=V->V->Hp->VK->Prop
def jD(X:Cx)(f:Value->Value->Sem Value)(r:R2):Prop :=
 ∀(a:Ax) (s:Shared) (σ:St) (H:Hp) (x y:V) (v u:Value) (Q:VK),eE X a σ H s->eV x v->eV y u->r x y H Q ->
  (zw X) (f v u) (EP X a σ Q) X.xe s
def P8(X:Cx)(f:Value->Sem Value)(r:V->Hp->VK->Prop):Prop :=
 ∀(a:Ax) (s:Shared) (σ:St) (H:Hp) (x:V) (v:Value) (Q:VK),eE X a σ H s->eV x v->r x H Q ->
  (zw X) (f v) (EP X a σ Q) X.xe s
def gX(X:Cx)(f:Value)(r:List V->Hp->VK->Prop):Prop :=
 ∀(a:Ax) (s:Shared) (σ:St) (H:Hp) (xs:List V) (us:Lw) (Q:VK),eE X a σ H s->eQ xs us->r xs H Q ->
  (zw X) (call f us) (EP X a σ Q) X.xe s
def P9(X:Cx)(r:V->Hp->(Bool->Hp->Prop)->Prop):Prop :=
 ∀(a:Ax) (s:Shared) (σ:St) (H:Hp) (x:V) (v:Value) (Q:Bool->Hp->Prop),eE X a σ H s->eV x v->r x H Q ->
  (zw X) (truthy v) (TP X a σ Q) X.xe s
def NH(r:R2)(b a:TE):TE:=λσ H Q=>b σ H λx d=>a σ d λy c=>r x y c Q
def Sn(r:V->Hp->VK->Prop)(a:TE):TE:=λσ H Q=>a σ H λx b=>r x b Q
def rI(C:Int->Int->Prop)(g:Int->Int->V):R2:=λx y H Q=>∃i j,x=.int i/\y=.int j/\C i j/\Q (g i j) H
def Iz(g:Int->Int->V):R2:=λx y H Q=>∃i j,x=.int i/\y=.int j/\Q (g i j) H
def rU(g:Int->V):V->Hp->VK->Prop:=λx H Q=>∃i,x=.int i/\Q (g i) H
section
variable {a:Expr}{ta tb tc:TE}
def LS(l:PE X a ta) (k:PE X b tb) {s:Shared}{R:V->V->Hp->Prop} (I:eE X pins σ H s)
  (h:ta σ H λx H1=>tb σ H1 λy H2=>R x y H2) {Q:Px}{f:Value->Value->Sem Value}
  (j:∀v u s2 x y H2,eE X pins σ H2 s2->eV x v->eV y u->R x y H2->(zw X) (f v u) Q X.xe s2):
  (zw X) (eval a X.env) (λv s₁=>(zw X) (eval b X.env) (λu s₂=>(zw X) (f v u) Q X.xe s₂) X.xe s₁) X.xe s:=by
 refine gd (@l pins s σ H _ I h) ?_;rintro v c ⟨x,H1,n,e,i⟩;refine gd (@k pins c σ H1 _ n i) ?_;rintro u s2 ⟨y,H2,m,d,g⟩;exact j v u s2 x y H2 m e d g
def KS{d:Operator}{r:R2}(g:jD X (binaryOp d) r)(j:PE X a ta)(i:PE X b tb):PE X (.BinOp a d b pos) (NH r ta tb):=by intro c s σ H Q I h;exact wpAny_BinOp (LS j i I h λv u s2 x y l k f e q=>@g c s2 σ l x y v u Q k f e q)
def NI{c:UnaryOp}{r:V->Hp->VK->Prop}(g:P8 X (unaryOp c) r)(i:PE X a ta):PE X (.UnaryOp c a pos) (Sn r ta):=by intro b s σ H Q I h;exact UnaryOp_ (gd (@i b s σ H _ I h) <| by rintro v d ⟨x,k,j,e,f⟩;exact @g b d σ k x v Q j e f)
def Pd{f:Value->Value->Sem Value}{C:Int->Int->Prop}{g:Int->Int->Int}
  (a:∀(i j:Int) (t u:Tok) (s:Shared) (Q:Px) (E:Px),C i j->Q (.int (g i j) s.toks) { s with toks:=s.toks+1 }->(zw X) (f (.int i t) (.int j u)) Q E s):
  jD X f (rI C λi j=>.int (g i j)):=by
 intro b s σ H x y v u Q I e d h;obtain⟨i,j,rfl,rfl,k,q⟩:=h;obtain⟨t,rfl⟩:=e;obtain⟨c,rfl⟩:=d;exact a i j t c s _ _ k ⟨.int (g i j),H,I.tok _,⟨_,rfl⟩,q⟩
def NJ{f:Value->Value->Sem Value}{g:Int->Int->Int}
  (a:∀(i j:Int) (t u:Tok) (s:Shared) (Q:Px) (E:Px),Q (.int (g i j) s.toks) { s with toks:=s.toks+1 }->(zw X) (f (.int i t) (.int j u)) Q E s):
  jD X f (Iz λi j=>.int (g i j)):=by
 intro b s σ H x y v u Q I e d h;obtain⟨i,j,rfl,rfl,q⟩:=h;obtain⟨t,rfl⟩:=e;obtain⟨c,rfl⟩:=d;exact a i j t c s _ _ ⟨.int (g i j),H,I.tok _,⟨_,rfl⟩,q⟩
def IS{f:Value->Value->Sem Value}{g:Int->Int->Bool}
  (a:∀(i j:Int) (t u:Tok) (s:Shared) (Q:Px) (E:Px),Q (.bool (g i j)) s->(zw X) (f (.int i t) (.int j u)) Q E s):
  jD X f (Iz λi j=>.bl (g i j)):=by
 intro b s σ H x y v u Q I e d h;obtain⟨i,j,rfl,rfl,q⟩:=h;obtain⟨t,rfl⟩:=e;obtain⟨c,rfl⟩:=d;exact a i j t c s _ _ ⟨.bl (g i j),H,I,rfl,q⟩
def NK(i j:Int):Prop:=0<j/\j<1073741824
def Qa(i j:Int):Prop:=0<=j/\j<=1000000/\i.natAbs<2 ^ 64
def LU:jD X (binaryOp .Add) (Iz λi j=>.int (i+j)):=NJ λ_ _ _ _ _ _ _ q=>add_int q
def LV:jD X (binaryOp .Sub) (Iz λi j=>.int (i - j)):=NJ λ_ _ _ _ _ _ _ q=>sub_int q
def IT:jD X (binaryOp .FloorDiv) (rI NK λi j=>.int (i / j)):=Pd λi j _ _ _ _ _ a q=>by have c:(0:Int)<j:=a.1;have b:j<1073741824:=a.2;exact floordiv_int (by omega) (by rw[Int.fdiv_eq_ediv_of_nonneg i (by omega)];exact q) (.inl (PyProof.noPylong_small (by omega)))
def LW:jD X (binaryOp .Mod) (rI (λ_ j=>0<j) λi j=>.int (i % j)):=Pd λi j _ _ _ _ _ a q=>by have b:(0:Int)<j:=a;exact mod_int' (by omega) (by rw[Int.fmod_eq_emod_of_nonneg i (by omega)];exact q)
def LX:jD X (binaryOp .Pow) (rI Qa λi j=>.int (i ^ j.toNat)):=Pd λ_ _ _ _ _ _ _ a q=>pow_int_small a.1 a.2.1 a.2.2 q
def So{f:Value->Sem Value}{g:Int->Int}
  (a:∀(i:Int) (t:Tok) (s:Shared) (Q:Px) (E:Px),Q (.int (g i) s.toks) { s with toks:=s.toks+1 }->(zw X) (f (.int i t)) Q E s):
  P8 X f (rU λi=>.int (g i)):=by
 intro b s σ H x v Q I c h;obtain⟨i,rfl,q⟩:=h;obtain⟨t,rfl⟩:=c;exact a i t s _ _ ⟨.int (g i),H,I.tok _,⟨_,rfl⟩,q⟩
def LY:P8 X (unaryOp .USub) (rU λi=>.int (-i)):=So λ_ _ _ _ _ q=>neg_int q
end
section
variable {a:Expr}{ta tb tc:TE}
def ug{s:Shared}{Q:VK}{k a:Bool}(I:eE X pins σ H s)(q:Q (.bl k) H)(e:k=a):EP X pins σ Q (.bool a) s:=by subst e;exact⟨.bl k,H,I,rfl,q⟩
def NM:jD X (compareOp .Lt) (Iz λi j=>.bl (decide (i<j))):=IS λ_ _ _ _ _ _ _ q=>lt_int q
def NN:jD X (compareOp .LtE) (Iz λi j=>.bl (decide (i<=j))):=IS λ_ _ _ _ _ _ _ q=>le_int q
def NO:jD X (compareOp .Gt) (Iz λi j=>.bl (decide (j<i))):=IS λ_ _ _ _ _ _ _ q=>gt_int q
def NP:jD X (compareOp .GtE) (Iz λi j=>.bl (decide (j<=i))):=IS λ_ _ _ _ _ _ _ q=>ge_int q
def D5:jD X (compareOp .In) (λx y H Q=>∃i j,x=.str i/\y=.str j/\Q (.bl (!(Builtin.Str.occurrences j i 0 j.length 1).isEmpty)) H):=by intro a s σ H x y v u Q I c b h;obtain⟨i,j,rfl,rfl,q⟩:=h;obtain⟨t,rfl⟩:=c;obtain⟨d,rfl⟩:=b;exact in_str (ug I q rfl)
def LZ:jD X (compareOp .Is) (λx y H Q=>y=.jj/\Q (.bl (decide (x=.jj))) H):=by
 intro b s σ H x y v u Q I a c h;obtain⟨rfl,q⟩:=h;cases c;refine is_none_gen (ug I q ?_);cases x<;>first
  | (cases a;rfl)
  | (obtain⟨t,rfl⟩:=a;rfl)
def IU:jD X (compareOp .IsNot) (λx y H Q=>y=.jj/\Q (.bl (!decide (x=.jj))) H):=by
 intro b s σ H x y v u Q I a c h;obtain⟨rfl,q⟩:=h;cases c;refine isnot_none_gen (ug I q ?_);cases x<;>first
  | (cases a;rfl)
  | (obtain⟨t,rfl⟩:=a;rfl)
def xR:jD X (compareOp .NotIn) (λx y H Q=>∃i j,x=.str i/\y=.str j/\Q (.bl (!(!(Builtin.Str.occurrences j i 0 j.length 1).isEmpty))) H):=by intro a s σ H x y v u Q I c b h;obtain⟨i,j,rfl,rfl,q⟩:=h;obtain⟨t,rfl⟩:=c;obtain⟨d,rfl⟩:=b;exact notIn_str (ug I q rfl)
def jD.or{f:Value->Value->Sem Value}{r d:R2}(h:jD X f r)(e:jD X f d):jD X f (λx y H Q=>r x y H Q\/d x y H Q):=by
 intro a s σ H x y v u Q I c b q;rcases q with q|q
 ·exact @h a s σ H x y v u Q I c b q
 ·exact @e a s σ H x y v u Q I c b q
def FF(b:Expr){a:CmpOp}(h:a≠.In:=by decide)(c:a≠.NotIn:=by decide):behindInMarks a b=false:=by
 have e:(a==CmpOp.In)=false:=by cases a<;>first|rfl|exact absurd rfl h
 have d:(a==CmpOp.NotIn)=false:=by cases a<;>first|rfl|exact absurd rfl c
 cases b<;>simp[behindInMarks,e,d]
def IV{d:CmpOp}{r:R2}(g:jD X (compareOp d) r)(k:PE X a ta)(j:PE X b tb)(i:behindInMarks d b=false):PE X (.Compare a [d] [b] pos) (NH r ta tb):=by intro c s σ H Q I h;exact wpAny_Compare1 (LS k j I h λv u s2 x y m l f e q=>@g c s2 σ m x y v u Q l f e q) i
def KU(t:TE):TT:=λσ H Q=>t σ H λx a=>∃k,x=.bl k/\Q k a
def CZ{f:CmpOp}{r:R2}(q:jD X (compareOp f) r)(A:PE X a ta)(w:PE X b tb)(t:behindInMarks f b=false):PT X (.Compare a [f] [b] pos) (KU (NH r ta tb)):=by
 intro d s σ H Q I h;refine wpAny_isTrue_Compare1 (gd (@A d s σ H _ I h) λv i ⟨x,G,D,m,p⟩=>gd (@w d i σ G _ D p) λu g ⟨y,F,C,l,o⟩=>
  gd (@q d g σ F x y v u _ C m l o) λc J ⟨z,E,B,j,k,e,n⟩=>?_) t
 subst e;cases j;exact cm ⟨E,B,n⟩
def L0(r f:R2)(e d c:TE):TE:=λσ H Q=>e σ H λx i=>d σ i λy h=>r x y h λz a=>∃k,z=.bl k /\
 (if k=true then c σ a λb g=>f y b g Q else Q (.bl false) a)
def FG{i g:CmpOp}{r m:R2} (O:jD X (compareOp i) r) (j:jD X (compareOp g) m) (T:PE X a ta) (S:PE X b tb) (R:PE X c tc)
  (P:lastMarks [i,g] [b,c]=false:=by with_unfolding_all rfl):PT X (.Compare a [i,g] [b,c] pos) (KU (L0 r m ta tb tc)):=by
 intro f s σ H Q I h;refine isTrue_chain (gd (@T f s σ H _ I h) λv C ⟨x,H1,I1,G,M⟩=>test_link (gd (@S f C σ H1 _ I1 M) λu B ⟨y,H2,I2,l,L⟩=>
  gd (@O f B σ H2 x y v u _ I2 G l L) λd A ⟨z,p,o,F,k,e,n⟩=>?_)) P
 subst e;cases F;refine cm ?_;cases k with
 |false=>obtain⟨k',V,N⟩:=n;cases V;exact ite_ff ⟨p,o,N⟩
 |true=>refine ite_tt (test_last (gd (@R f A σ p _ o n) ?_));rintro t w ⟨q,H4,I4,E,K⟩;refine gd (@j f w σ H4 y q u t _ I4 l E K) ?_;rintro d' s5 ⟨z2,H5,W,D,k2,U,J⟩;subst U;cases D;exact cm ⟨H5,W,J⟩
def L1(K:Fg)(x:V)(H:Hp)(k:Bool):Prop :=
 match x with
 |.jj=>k=false
 |.bl b=>k=b
 |.int i=>k=(i != 0)
 |.str y=>y.length<=sizeLine/\k=((y.length:Int) != 0)
 |.Nf y=>y.size<=sizeLine/\k=((y.size:Int) != 0)
 |.ref p=>(∃a,jS K H p a/\k=!a.isEmpty)\/(∃a,mV K H p a/\k=!a.isEmpty)\/∃c,Rd H p (.dK c)/\k=!c.isEmpty
 |_=>False
def By{κ:Type}{a:List (κ×V)}{b:List (κ×Value)}(r:KV a b):(!b.isEmpty)=!a.isEmpty:=by cases r<;>rfl
def uh{b:List V}{a:Lw}(r:eQ b a):(!a.toArray.isEmpty)=!b.isEmpty:=by cases r<;>simp
def o6:(sizeLine:Nat)<2 ^ 63:=by rw[sizeLine_eq];decide
def L3:P9 X (λx H Q=>∃k,L1 X.K x H k/\Q k H):=by
 intro u s σ H x v Q I g h;obtain⟨k,e,q⟩:=h;have D:=o6;have C:sizeLine=16777216:=sizeLine_eq;cases x with
 |jj=>cases g;have a:k=false:=e;subst a;exact truthy_none ⟨H,I,q⟩
 |bl b=>cases g;have a:k=b:=e;subst a;exact cm ⟨H,I,q⟩
 |int i=>obtain⟨t,rfl⟩:=g;have a:k=(i != 0):=e;subst a;exact PySem.P.truthy_int ⟨H,I,q⟩
 |str y=>obtain⟨t,rfl⟩:=g;obtain⟨A,a⟩:y.length<=sizeLine/\k=((y.length:Int) != 0):=e;subst a;exact PySem.P.truthy_str (by omega) ⟨H,I.tok _,q⟩
 |Nf y=>obtain⟨t,rfl⟩:=g;obtain⟨A,a⟩:y.size<=sizeLine/\k=((y.size:Int) != 0):=e;subst a;exact W.truthy_bytes (by omega) ⟨H,I.tok _,q⟩
 |ref p=>
  cases g;have a:(∃f,jS X.K H p f/\k=!f.isEmpty)\/(∃f,mV X.K H p f/\k=!f.isEmpty)\/∃c,Rd H p (.dK c)/\k=!c.isEmpty:=e;rcases a with ⟨f,j,a⟩ | ⟨f,j,a⟩ | ⟨c,j,a⟩
  ·subst a;obtain⟨o,r,n,z⟩:=I.list j;have d:=r.length;exact wpAny_truthy_list n.isList (by simp only[ao];omega) ⟨H,I.tok _,by rw[uh r];exact q⟩
  ·subst a;obtain⟨o,r,n,z⟩:=I.tuple j;have d:=r.length;exact truthy_tuple n (by simp only[ao];omega) ⟨H,I.tok _,by rw[uh r];exact q⟩
  ·subst a;obtain⟨z,B,l,r,m⟩:c.length<=sizeLine/\(p==sysModules)=false/\∃l,KV c l/\s.heap.DictOf (fj X.prog X.w) p l:=j.ok I.gr;have d:c.length=l.length:=cE r;exact wpAny_truthy_dict B m (by omega) ⟨H,I.tok _,by rw[By r];exact q⟩
 |_=>exact(show False from e).elim
def zx(i:PE X a ta)(g:∀whole,isTrue a X.env whole=(do let v <-whole;standAt a.pos;holding [v] (truthy v))):
  PT X a (λσ H Q=>ta σ H λx c=>∃k,L1 X.K x c k/\Q k c):=by
 intro b s σ H Q I h;exact isTrue_plain (gd (@i b s σ H _ I h) <| by rintro v d ⟨x,l,j,e,f⟩;exact L3 b d σ l x v Q j e f) (g _)
def Bz:jD X (binaryOp .Add) (λx y H Q=>∃i j,x=.str i/\y=.str j/\i.length+j.length<=sizeLine/\Q (.str (i++j)) H):=by intro a s σ H x y v u Q I d c h;obtain⟨i,j,rfl,rfl,e,q⟩:=h;obtain⟨t,rfl⟩:=d;obtain⟨b,rfl⟩:=c;exact add_str (λb f=>⟨.str (i++j),H,I.tok _,⟨_,rfl⟩,q⟩) e
def oR{x:V}{a:Lw}(r:eQ [x] a):∃u,a=[u]/\eV x u:=by
 cases r with
 |cons c b=>cases b;exact⟨_,rfl,c⟩
def NQ{x y:V}{b:Lw}(r:eQ [x,y] b):∃u a,b=[u,a]/\eV x u/\eV y a:=by
 cases r with
 |cons f e=>
  cases e with
  |cons d c=>cases c;exact⟨_,_,rfl,f,d⟩
def D6:gX X (.type "int") (λxs H Q=>(∃i,xs=[.int i]/\Q (.int i) H)\/∃k,xs=[.bl k]/\Q (.int (if k then 1 else 0)) H):=by
 intro a s σ H xs c Q I r h;rcases h with ⟨i,rfl,q⟩ | ⟨k,rfl,q⟩
 ·obtain⟨u,rfl,t,rfl⟩:=oR r;exact call_int_int ⟨.int i,H,I,⟨_,rfl⟩,q⟩
 ·obtain⟨u,rfl,b⟩:=oR r;cases b;exact call_int_bool ⟨.int (if k then 1 else 0),H,I.tok _,⟨_,rfl⟩,q⟩
end
structure BA (h:Heap) (x dx C:Addr) (mA:Str->Ow):Prop where
 obj:h.get? x=Y (W.instObj C dx)
 ns:h.Ns1 dx mA
 ne:dx≠x
def D7{i:Addr}{f:Str->Ow}(n:h.Ns1 i f):∃d,h.get? i=Y d/\∀b,W.lookIn b d=Y (f b):=by
 obtain⟨o,g,s,k,p,m,_,l⟩:=n;refine⟨o,k,λb=>?_⟩;have e:=l b;unfold nsFind findBy at e;rw[<-Array.find?_toList] at e;unfold W.lookIn;rw[p];dsimp only;split
 ·rename_i y q;rw[q] at e;exact bg Y e
 ·rename_i q;rw[q] at e;have a:g.toList.any (·.refKey)=false:=by
   rw[List.any_eq_false];intro y j;obtain⟨z,t,c⟩:=m y (Array.mem_toList_iff.mp j);simp[DictEntry.refKey,c]
  have r:¬ g.toList.any (·.refKey)=true:=by rw[a];exact aQ
  rw[ag r];exact bg Y e
def BA.look{x d C:Addr}{c:Str->Ow}(I:BA h x d C c):∃b,W.InstAt h x (W.instObj C d) C (Y b)/\∀a,W.lookIn a b=Y (c a) :=
 let ⟨b,e,f⟩:=D7 I.ns
 ⟨b,⟨I.obj,rfl,rfl,e⟩,f⟩
section
variable {s:Shared}{x dx C f:Addr}{mA:Str->Ow}{name:Str}{v:Value}
def IW{a:Bool}{Q:Px} (X:K.In s.heap) (I:BA s.heap x dx C mA) (f:W.plainGet K C name=true) (e:W.hasDictIn K C=true)
  (g:W.findIn K (.ref C) name=Y Z) (c:mA name=Y v) (b:W.handedIn v=true) (h:Q v { s with toks:=s.toks+1 }):
  wpAny (model prog w) A (getAttr (.ref x) name a) Q E s:=by
 obtain⟨i,J,d⟩:=I.look;exact W.get_value X J (W.plainGet_of f).1 (W.findObj_own e g rfl (by rw[d,c])) b h
def FH{b:Sem Bool}{Q:Value×Lw->Shared->Prop} (X:K.In s.heap) (I:BA s.heap x dx C mA) (a:W.plainGet K C name=true)
  (i:W.findIn K (.ref C) name=Y (Y (.ref f))) (e:W.isFn K (.ref f)=true) (d:mA name=Z) (h:Q (.ref f,[.ref x]) s):
  wpAny (model prog w) A (getMethod (.ref x) name b) Q E s:=by
 obtain⟨c,J,g⟩:=I.look;exact W.method_fn X J (W.plainGet_of a).1 (W.plainGet_of a).2 i (cu.mp e) (by show (W.lookIn name c).map (·.isSome)=Y false;rw[g,d];rfl) h
def IX{j:Lr}{Q:Unit->Shared->Prop} (X:K.In s.heap) (I:BA s.heap x dx C mA)
  (n:W.findIn K (.ref C) "__setattr__"=Y (Y (.builtin "object.__setattr__"))) (o:W.plainOver K C=true) (l:W.takerIn K C name=Y Z) (p:W.hasDictIn K C=true)
  (hw:PySem.Within mA j) (m:j.length<=sizeLine)
  (h:∀h',BA h' x dx C (λy=>if y=name then Y v else mA y)->Heap.SameBut dx s.heap h'->Q () { s with heap:=h',toks:=s.toks+2 }):
  wpAny (model prog w) A (setAttr (.ref x) name v) Q E s:=by
 obtain⟨z,J,D⟩:=I.look;refine W.set_plain X J n (W.osa_open (s:={ s with toks:=s.toks+1 }) (r:=Z) X J o l λb=>?_);obtain⟨F,q,g⟩:=W.any_some p;have k:s.heap.get? x=Y ⟨.ref C,Y dx,.plain,#[]⟩:=I.obj;refine aa (ae (aa (aa (wpAny_loadPart k (aa (W.Looks.here (s:={ s with toks:=s.toks+1 }) (W.looks_clsIn X q) ?_))))));rw[g];refine ae (a:=Y dx) (aa (ae (aa ?_)));refine wpAny_nsSet1 (s:={ s with toks:=s.toks+1 }) I.ns λh' d c=>?_;obtain⟨B,t,u,e,f,i⟩:=d.count (PySem.Within.cons name v hw);refine aa (wpAny_lookBehind e (by rw[f];exact pastItsLine_dict (bc i (by rw[aD];omega))) ?_);exact ae (h _ ⟨(c.2 _ (Ne.symm I.ne)).trans I.obj,d,I.ne⟩ c)
def FI{a:Lw}{b:List (Str×Value)} (X:K.In s.heap) (c:W.makesIn K C=true)
  (e:W.findIn K (.ref C) "__init__"=Y (Y (.ref f))) (i:W.typeIn K (.ref f)=Y (.type "function"))
  (h:codeAny (model prog w) (A.under (.builtin "type.__call__" ⟨.ref C::a,b⟩)) (.call (.ref f) ⟨.ref ((zB s)+1)::a,b⟩) (W.InitBack ((zB s)+1) R)
   { s with heap:=(s.heap.push W.emptyDict).push (W.instObj C (zB s)) }):
  codeAny (model prog w) A (.call (.ref C) ⟨a,b⟩) R s:=by
 obtain⟨k,g,d,t,j⟩:=s;exact W.make_core (W.makes_of X c) (W.looks_findIn X e) (λself=>W.bind_fn X self i) (.inl rfl) h
end
noncomputable def jX(f:Str)(v:V):List (Str×V)->List (Str×V)
 |[]=>[(f,v)]
 | (g,x)::r=>if g=f then (g,v)::r else (g,x)::jX f v r
theorem rV(f g:Str)(v:V):∀c:List (Str×V),(jX f v c).lookup g=if g=f then Y v else c.lookup g
 |[]=>by
  show List.lookup g [(f,v)]=_;by_cases h:g=f
  ·have a:(g==f)=true:=cu.mpr h;simp only[List.lookup,a,af h]
  ·have a:(g==f)=false:=a7.mpr h;simp only[List.lookup,a,ag h]
 | (k,x)::r=>by
  have d:=rV f g v r;rw[show jX f v ((k,x)::r)=(if k=f then (k,v)::r else (k,x)::jX f v r) from rfl];by_cases b:k=f
  ·rw[af b];by_cases h:g=k
   ·have a:(g==k)=true:=cu.mpr h;simp only[List.lookup,a,af (h.trans b)]
   ·have a:(g==k)=false:=a7.mpr h;simp only[List.lookup,a,ag (λe:g=f=>h (e.trans b.symm))]
  ·rw[ag b];by_cases h:g=k
   ·have a:(g==k)=true:=cu.mpr h;simp only[List.lookup,a,ag (λe:g=f=>b (h.symm.trans e))]
   ·have a:(g==k)=false:=a7.mpr h;simp only[List.lookup,a];exact d
theorem qQ(f:Str)(v:V):∀b:List (Str×V),f∈(jX f v b).map (·.1)/\∀g,g∈b.map (·.1)->g∈(jX f v b).map (·.1)
 |[]=>⟨by simp[jX],λg h=>by simp at h⟩
 | (k,x)::r=>by
  obtain⟨d,c⟩:=qQ f v r;rw[show jX f v ((k,x)::r)=(if k=f then (k,v)::r else (k,x)::jX f v r) from rfl];by_cases a:k=f
  ·rw[af a];subst a;exact⟨by simp,λg h=>by simpa using h⟩
  ·rw[ag a];refine⟨?_,λg h=>?_⟩
   ·rw[az];exact au _ d
   ·rw[az] at h ⊢;rcases ak.mp h with e|e
    ·exact ak.mpr (.inl e)
    ·exact au _ (c g e)
theorem rW(f:Str)(v:V):∀b:List (Str×V),(jX f v b).length<=b.length+1
 |[]=>by simp[jX]
 | (k,x)::r=>by
  have c:=rW f v r;rw[show jX f v ((k,x)::r)=(if k=f then (k,v)::r else (k,x)::jX f v r) from rfl];by_cases a:k=f
  ·rw[af a,aD,aD];omega
  ·rw[ag a,aD,aD];omega
def mU.some_of{o:Ow}(r:mU (Y v) o):∃u,o=Y u/\eV v u:=by
 cases o with
 |none=>exact(show False from r).elim
 |some u=>exact⟨u,rfl,r⟩
def mU.none_of{o:Ow}(r:mU Z o):o=Z:=by
 cases o with
 |none=>rfl
 |some u=>exact(show False from r).elim
def D8{u:Value}(r:eV v u):W.handedIn u=true:=by
 cases v with
 |jj=>cases (show u=Value.none from r);rfl
 |bl b=>cases (show u=Value.bool b from r);rfl
 |int i=>obtain⟨t,e⟩:=(show ∃t,u=Value.int i t from r);cases e;rfl
 |str x=>obtain⟨t,e⟩:=(show ∃t,u=Value.str x t from r);cases e;rfl
 |Nf b=>obtain⟨t,e⟩:=(show ∃t,u=Value.bytes b t from r);cases e;rfl
 |O8 b=>obtain⟨t,e⟩:=(show ∃t,u=Value.float b t from r);cases e;rfl
 |ref a=>cases (show u=Value.ref a from r);rfl
 |ty n=>cases (show u=Value.type n from r);rfl
section
variable {P:Program}{H':Hp}{h':Heap}{C dx:Addr}{fs Si:List (Str×V)}
def xS(c:o3 P w H h)(e:H a=Y (.ins C dx fs)):∃b,BA h a dx C b/\(∀f,mU (fs.lookup f) (b f))/\PySem.Within b (fs.map (·.1))/\fs.length<=1000/\H dx=Y (.own a):=by
 obtain⟨d,z,i,g,b,n,r,q⟩:=(show gC P w H h a (.ins C dx fs) from c a _ e)
 exact⟨b,⟨g,n,i⟩,r,q,z,d⟩
end
structure D9 (K:Fg) (C:Addr):Prop where
 pg:W.plainGet K C Str.empty=true
 hd:W.hasDictIn K C=true
 po:W.plainOver K C=true
 sa:W.findIn K (.ref C) "__setattr__"=Y (Y (.builtin "object.__setattr__"))
def D9.get{C:Addr}(c:D9 K C)(f:Str):W.plainGet K C f=true:=c.pg
def o7(K:Fg)(C:Addr)(f:Str):Prop:=W.findIn K (.ref C) f=Y Z
def o7.NR{C:Addr}{f:Str}(n:o7 K C f):W.takerIn K C f=Y Z:=by unfold W.takerIn;rw[show W.findIn K (.ref C) f=Y Z from n];rfl
structure Ea (K:Fg) (C:Addr) (m:Str) (f:Addr):Prop where
 at_:W.findIn K (.ref C) m=Y (Y (.ref f))
 fn:W.isFn K (.ref f)=true
 kp:W.keepIn K (.ref f)=true
section
variable {s:Shared}{C dx:Addr}{fs:List (Str×V)}{f:Str}
def BB{b:Bool}{Q:Px} (I:eE X pins σ H s) (e:H a=Y (.ins C dx fs)) (c:D9 X.K C) (n:o7 X.K C f) (l:fs.lookup f=Y v)
  (h:∀u s',eE X pins σ H s'->eV v u->Q u s'):wpAny (model X.prog X.w) A (getAttr (.ref a) f b) Q E s:=by
 obtain⟨g,O,r,_,_,_⟩:=xS I.gr e;obtain⟨u,i,d⟩:=mU.some_of (v:=v) (o:=g f) (by rw[<-l];exact r f);exact IW I.qP O (c.get f) c.hd n i (D8 d) (h u _ (I.tok _) d)
def ui{m:Str}{g:Addr}{pl:Sem Bool}{Q:Value×Lw->Shared->Prop} (I:eE X pins σ H s) (e:H a=Y (.ins C dx fs)) (c:D9 X.K C) (k:Ea X.K C m g) (l:fs.lookup m=Z)
  (h:Q (.ref g,[.ref a]) s):wpAny (model X.prog X.w) A (getMethod (.ref a) m pl) Q E s:=by
 obtain⟨b,O,r,_,_,_⟩:=xS I.gr e;have d:b m=Z:=mU.none_of (by rw[<-l];exact r m);exact FH I.qP O (c.get m) k.at_ k.fn d h
def BC{y:V}{u:Value}{Q:Unit->Shared->Prop} (I:eE X pins σ H s) (e:H a=Y (.ins C dx fs)) (c:D9 X.K C) (n:o7 X.K C f) (G:fs.length<1000) (m:eV y u)
  (h:∀s',eE X pins σ (upd H a (.ins C dx (jX f y fs))) s'->Q () s'):wpAny (model X.prog X.w) A (setAttr (.ref a) f u) Q E s:=by
 obtain⟨j,O,r,i,_,k⟩:=xS I.gr e;have p:(fs.map (·.1)).length<=sizeLine:=by rw[ay,sizeLine_eq];omega
 refine IX I.qP O c.sa c.po n.NR c.hd i p λD d l=>h _ ?_;have v:∃o,D.get? dx=Y o:=by obtain⟨o,_,_,F,_⟩:=d.ns;exact⟨o,F⟩
 refine I.write (x:=a) (e:=dx) (by rw[e];exact aN) (.inr k) (λb q B z=>(l.2 b B).trans z) v ?_;refine⟨by rw[en O.ne];exact k,?_,O.ne,d.obj,_,d.ns,λg=>?_,λg t=>?_⟩
 ·have:=rW f y fs;omega
 ·show mU ((jX f y fs).lookup g) (if g=f then Y u else j g);rw[rV];by_cases q:g=f
  ·rw[af q,af q];exact m
  ·rw[ag q,ag q];exact r g
 ·by_cases q:g=f
  ·rw[q];exact(qQ f y fs).1
  ·refine(qQ f y fs).2 g (i g λz=>t ?_);show (if g=f then Y u else j g)=Z;rw[ag q];exact z
def eE.made(I:eE X pins σ H s):eE X pins σ (upd (upd H (zB s) (.own ((zB s)+1))) ((zB s)+1) (.ins C (zB s) []))
  { s with heap:=(s.heap.push W.emptyDict).push (W.instObj C (zB s)) }:=by
 have d:(s.heap.push W.emptyDict).get? (zB s)=Y W.emptyDict:=ar s.heap rfl;have h:((s.heap.push W.emptyDict).push (W.instObj C (zB s))).get? ((zB s)+1)=Y (W.instObj C (zB s)):=by have:=ar (s.heap.push W.emptyDict) (o:=W.instObj C (zB s)) rfl;rwa[cW] at this
 have g:(s.heap.push W.emptyDict).Ns (zB s) (λ_=>Z):=⟨W.emptyDict,#[],_,d,rfl,(λe he=>absurd he (by simp)),λ_=>rfl⟩
 have i:=I.laid (a:=(zB s)) (o:=.own ((zB s)+1)) (h':=s.heap.push W.emptyDict) (t':=s.toks) (λb u q=>ah _ q) (ax _) ⟨_,d⟩;refine i.laid (a:=(zB s)+1) (o:=.ins C (zB s) []) (t':=s.toks) (λb u q=>ah _ q) (Nat.le_of_eq (cW _ _)) ?_;have c:(zB s)≠(zB s)+1:=aE (cH _);refine⟨by rw[en c,eI],bL _,c,h,λ_=>Z,(Heap.Ns1.of_empty g).at λo q=>ah _ q,λ_=>aN,λy f=>absurd rfl f⟩
def IY{a:Env}{Q:Px} (b:attributeBase e f a (eval e a)=eval e a)
  (h:wpAny (model prog w) A (eval e a) (λo s₁=>wpAny (model prog w) A (getAttr o f true) Q E s₁) E s):wpAny (model prog w) A (eval (.Attribute e f pos) a) Q E s :=
 Attribute_any_ h (by rw[arm_eval_Attribute,b])
end
def Qb(K:Fg)(d:TE)(f:Str):TE:=λσ H Q=>d σ H λx c=>∃a C e b v,x=.ref a/\c a=Y (.ins C e b)/\D9 K C/\o7 K C f/\b.lookup f=Y v/\Q v c
def Qc(K:Fg)(g e:TE)(f:Str):TS:=λD σ H=>e σ H λy h=>g σ h λx d=>∃a C c b,x=.ref a/\d a=Y (.ins C c b)/\D9 K C/\o7 K C f/\b.length<1000 /\
 D.nx σ (upd d a (.ins C c (jX f y b)))
section
variable {value:Expr}{f:Str}{pos' Qd:Pos}{ta tv:TE}
def BE(i:PE X e ta)(j:attributeBase e f X.env (eval e X.env)=eval e X.env):PE X (.Attribute e f pos) (Qb X.K ta f):=by intro b s σ H Q I h;refine IY j (gd (@i b s σ H _ I h) ?_);rintro u y ⟨x,r,p,d,a,C,A,z,v,k,m,c,n,l,q⟩;subst k;obtain rfl:u=Value.ref a:=d;exact BB p m c n l λt w o g=>⟨v,r,o,g,q⟩
def BF(p:PE X o ta)(k:PE X value tv)(m:swapsWith value (Y (.Attribute o f pos')) pos.line X.env=pure false):PS X (.Assign [.Attribute o f pos'] value pos) (Qc X.K ta tv f):=by intro b s σ H D I h;refine plainObj_wpAny_Assign_Attribute (gd (@k b s σ H _ I h) ?_) m;rintro u d ⟨y,A,z,e,q⟩;refine gd (@p b d σ A _ z q) ?_;rintro j E ⟨x,J,w,g,a,C,G,F,r,t,c,n,l,i⟩;subst r;obtain rfl:j=Value.ref a:=g;exact BC w t c n l e λB v=>⟨σ,_,v,i⟩
end
section
variable {s:Shared}{Q:Px}{c:Value}{b:Bool}
end
structure gG (k:Nat) (A:Around):Prop where
 hd:A.handled=Z
 dp:A.depth+3*k+5<recursionLimit
 un:A.units+16*k+200<cLine
def gG.mono{j k:Nat}(r:gG k A)(h:j<=k):gG j A:=⟨r.hd,by have:=r.dp;omega,by have:=r.un;omega⟩
theorem gG.deeper{k:Nat}{A:Around}(r:gG (k+1) A)(a:Env):gG k (A.deeper a) :=
 ⟨r.hd,by have:=r.dp;show A.depth+1+3*k+5<_;omega,by have:=r.un;show A.units+3+16*k+200<_;omega⟩
def BG{C:Addr}{a:Lw}{b:List (Str×Value)}:(A.under (.builtin "type.__call__" ⟨.ref C::a,b⟩)).depth=A.depth+1:=by
 first|rfl|simp[Around.under,Code.weight,Code.isCreation,Code.isGuard,Code.isCaller,Code.frames,Code.isFrame,guardIds]
def BH{C:Addr}{a:Lw}{b:List (Str×Value)}:(A.under (.builtin "type.__call__" ⟨.ref C::a,b⟩)).units=A.units+1:=by
 first|rfl|simp[Around.under,Code.cUnits,Code.frames,Code.isFrame]
def gG.make{k:Nat}(r:gG (k+1) A)(C:Addr)(a:Lw)(b:List (Str×Value)):gG k (A.under (.builtin "type.__call__" ⟨.ref C::a,b⟩)) :=
 ⟨r.hd,by have:=r.dp;rw[BG];omega,by have:=r.un;rw[BH];omega⟩
theorem gG.depth{k:Nat}{A:Around}(r:gG k A):A.depth<recursionLimit:=by have:=r.dp;omega
theorem gG.units{k:Nat}{A:Around}(r:gG k A):A.units+64<cLine:=by have:=r.un;omega
def IZ:TA:=λ_ H Q=>Q [] H
def NS(c:TE)(b:TA):TA:=λσ H Q=>c σ H λx e=>b σ e λa d=>Q (x::a) d
section
variable {es:Lx}{te:TE}{t:TA}
def kA:PA X [] IZ:=λ_ _ _ _ H Q I h=>aZ ⟨[],H,I,.nil,h⟩
def iE(m:PE X e te)(l:PA X es t)(k:zE e es X:=by rfl):PA X (e::es) (NS te t):=by intro b a s σ H Q I h;rw[k];show wpAny _ _ (spliced ((false,eval e X.env)::backTo b (starEach es X.env))) _ _ s;refine aT (gd (@m a s σ H _ I h) ?_);rintro u d ⟨x,q,o,g,j⟩;exact gd (@l b a d σ q _ o j) <| by rintro r v ⟨c,p,n,f,i⟩;exact⟨x::c,p,n,.cons g f,i⟩
def Qe(t:TA):TE:=λσ H Q=>t σ H λa b=>a.length<=sizeLine/\∀p,b p=Z->Q (.ref p) (upd b p (.tup a))
def Qf(t:TA):TE:=λσ H Q=>t σ H λa b=>a.length<=sizeLine/\∀p,b p=Z->Q (.ref p) (upd b p (.lst a))
def L4{x1}(h:PA X es t):PE X (.Tuple es x1 pos) (Qe t):=by intro a s σ H Q I j;refine wpAny_Tuple_spliced (gd (@h pos a s σ H _ I j) ?_);rintro i c ⟨g,f,d,r,z,q⟩;refine⟨by rw[<-r.length];exact z,?_⟩;have k:f (zB c)=Z:=d.gr.fresh (ax _);refine⟨.ref (zB c),upd f (zB c) (.tup g),d.laid (t':=c.toks) (λb u e=>ah _ e) (ax _) ?_,rfl,q _ k⟩;exact⟨z,i,r,⟨_,ar _ rfl,rfl,_,rfl⟩⟩
def BI(h:PA X es t):PE X (.List es pos) (Qf t):=by intro a s σ H Q I j;refine wpAny_List_spliced (gd (@h pos a s σ H _ I j) ?_);rintro i c ⟨g,f,d,r,z,q⟩;refine⟨by rw[<-r.length];exact z,?_⟩;have k:f (zB c)=Z:=d.gr.fresh (ax _);refine⟨.ref (zB c),upd f (zB c) (.lst g),d.laid (t':=c.toks) (λb u e=>ah _ e) (ax _) ?_,rfl,q _ k⟩;exact⟨z,i,0,r,ar _ rfl⟩
end
abbrev Sp:=List V->Hp->VK->XK->Prop
abbrev FJ:=List Env->Hp->Shared->XK->Value->Shared->Prop
structure BJ (P:Program) (w:World) (K:Fg) (mg:Str->Ow) (base:Heap) (A:Around) (outer:List Env) (s:Shared) (H:Hp):Prop where
 frames:A.frames=Y outer
 mod:Mod K mg base
 bs:∀b o,base.get? b=Y o->s.heap.get? b=Y o/\H b=Z
 KP:base.objs.size<=(zB s)
 o5:s.heap.FunFrames base outer
 Ft:∀b∈Bp outer,H b=Z
 gr:o3 P w H s.heap
 bare:AllBare s.gens
def CE(a:List Env)(P:Program)(w:World)(H:Hp)(s:Shared)(Q:VK)(u:Value)(b:Shared):Prop :=
 ∃v c,b.os=s.os/\AllBare b.gens/\Un (Bp a) [] H c s.heap b.heap/\o3 P w c b.heap/\eV v u/\Q v c
def CR(c:FJ)(a:List Env)(P:Program)(w:World)(H:Hp)(s:Shared)(Q:VK)(E:XK)(r:Result)(b:Shared):Prop :=
 match r with
 |.ok (.ret u)=>CE a P w H s Q u b
 |.ok _=>False
 |.error e=>c a H s E e b
structure jl (P:Program) (w:World) (K:Fg) (mg:Str->Ow) (base:Heap) (CX:FJ) (k:Nat) (f:Addr) (fd:FuncData) (ps:Lr) (sp:Sp):Prop where
 len:∀vs H Q E,sp vs H Q E->vs.length=ps.length
 run:∀(A:Around) (outer:List Env) (s:Shared) (H:Hp) (args:Args) (us:Lw) (vs:List V) (Q:VK) (E:XK),gG k A->BJ P w K mg base A outer s H->BindsTo s fd args (ps.zip us)->eQ vs us->sp vs H Q E ->
  codeAny (model P w) A (.call (.ref f) args) (CR CX outer P w H s Q E) s
theorem jl.mono{P:Program}{w:World}{K:Fg}{g:Str->Ow}{a:Heap}{l:FJ}{j k:Nat}{f:Addr}{i:FuncData}{e:Lr}{d:Sp}(F:jl P w K g a l j f i e d)(h:j<=k):
  jl P w K g a l k f i e d:=⟨F.len,λA b s H c n m Q E o=>F.run A b s H c n m Q E (o.mono h)⟩
def BJ.make{P:Program}{b:Heap}{a:List Env}{s:Shared}(e:BJ P w K mg b A a s H)(C:Addr)(c:Lw)(d:List (Str×Value)):
  BJ P w K mg b (A.under (.builtin "type.__call__" ⟨.ref C::c,d⟩)) a s H:=⟨by first|exact e.frames|(simpa [Around.under,Code.envs,Code.isFrame,pushEnvs] using e.frames),e.mod,e.bs,e.KP,e.o5,e.Ft,e.gr,e.bare⟩
section
variable {s s':Shared}
def eE.NT(I:eE X pins σ H s):BJ X.prog X.w X.K X.mg X.base X.A X.stack s H :=
 ⟨I.ok.frames,I.ok.mod,I.bs,bc I.ok.KP I.sz,I.stack,I.CS,I.gr,I.bare⟩
def eE.after{Q:VK}{u:Value}(I:eE X pins σ H s)(h:CE X.stack X.prog X.w H s Q u s'):EP X pins σ Q u s':=by obtain⟨v,k,i,a,f,e,r,q⟩:=h;obtain⟨j,g,d,t,c⟩:=s';obtain rfl:c=s.os:=i;exact⟨v,k,I.call (h':=j) (g':=g) (d':=d) (t':=t) (ch:=[]) f e a (λb z=>absurd z (by simp)),r,q⟩
end
def KW(c:Sp)(a:List V)(E:XK)(t:TA):TE:=λσ H Q=>t σ H λb d=>c (b++a) d Q E
def KY(C:Addr)(m:Str)(f:Sp)(b:List V)(E:XK)(e:TE)(t:TA):TE:=λσ H Q=>e σ H λx d=>∃a g c,x=.ref a/\d a=Y (.ins C g c)/\c.lookup m=Z /\
 t σ d λvs h=>f (x::(vs++b)) h Q E
def KZ(C:Addr)(e:Sp)(b:List V)(E:XK)(t:TA):TE:=λσ H Q=>t σ H λd c=>∀x a,c x=Z->c a=Z->a≠x ->
 e (.ref x::(d++b)) (upd (upd c a (.own x)) x (.ins C a [])) (λv f=>v=.jj/\Q (.ref x) f) E
def jd(K:Fg)(c:FuncData)(a:Lr)(b:Lw):Prop :=
 ∀(s:Shared) (us:Lw),K.In s.heap->(us++b).length=a.length->BindsTo s c ⟨us,[]⟩ (a.zip (us++b))
def jd.all{a:Lr}(h:∀us:Lw,us.length=a.length->bindArgs fd ⟨us,[]⟩=pure (a.zip us)):jd K fd a []:=λs us _ b=>by rw[bb] at b ⊢;exact .of_eq (h us b)
def mu(c:FJ)(X:Cx)(E:XK):Prop:=∀(a:Ax) (σ:St) (H:Hp) (s:Shared) (e:Value) (b:Shared),eE X a σ H s->c X.stack H s E e b->X.xe e b
section
variable {CX:FJ}{k:Nat}{f C:Addr}{ps:Lr}{sp:Sp}{xT:List V}{ds:Lw}{E:XK}{m:Str}{es:Lx}{ta:TE}{t:TA}
theorem uj{s:Shared}{Q:VK}{us:Lw} (F:jl X.prog X.w X.K X.mg X.base CX k f fd ps sp) (g:gG k X.A) (l:jd X.K fd ps ds) (j:eQ xT ds) (d:mu CX X E)
  (I:eE X pins σ H s) (r:eQ vs us) (h:sp (vs++xT) H Q E):(zw X) (call (.ref f) us) (EP X pins σ Q) X.xe s:=by
 have b:eQ (vs++xT) (us++ds):=r.append j;have i:(us++ds).length=ps.length:=by rw[<-b.length];exact F.len _ _ _ _ h
 refine wpAny_call (cp (F.run X.A X.stack s H ⟨us,[]⟩ (us++ds) (vs++xT) Q E g I.NT (l s us I.qP i) b h) λr c a=>?_);cases r with
 |error e=>exact d pins σ H s e c I a
 |ok m=>
  cases m with
  |ret u=>exact I.after a
  |next=>exact False.elim a
  |brk=>exact False.elim a
  |cont=>exact False.elim a
def xU(F:jl X.prog X.w X.K X.mg X.base CX k f fd ps sp) (i:gG k X.A) (m:Gl X x) (j:X.mg x=Y (.ref f)) (l:W.keepIn X.K (.ref f)=true) (u:jd X.K fd ps ds) (o:eQ xT ds) (g:mu CX X E)
  (v:PA X (e::es) t) (c:zg x:=by decide) (n:zE e es X:=by rfl) (b:(backTo pos (starEach es X.env)).any (·.1)=false:=by rfl):
  PE X (.Call (.Name x p) (e::es) [] pos) (KW sp xT E t):=by
 intro a s σ H Q I h;refine aR (kU I m j ?_ c);refine W.callWith_K (h₀:=X.base) I.ok.mod.Ng l (gd (@v pos a s σ H _ I h) ?_) n b;rintro z B ⟨y,C,d,r,q⟩;refine⟨d.qP,?_⟩;exact uj F i u o g d r q
def FK(F:jl X.prog X.w X.K X.mg X.base CX k f fd ps sp) (d:gG k X.A) (i:Gl X x) (e:X.mg x=Y (.ref f)) (g:W.keepIn X.K (.ref f)=true) (l:jd X.K fd ps ds) (j:eQ xT ds) (c:mu CX X E)
  (a:zg x:=by decide):PE X (.Call (.Name x p) [] [] pos) (KW sp xT E IZ):=by
 intro b s σ H Q I h;refine aR (kU I i e ?_ a);exact W.callWith_K0 I.qP g (uj (us:=[]) F d l j c I .nil h)
def C0{pl:Sem Bool} (G:PE X o ta) (c:D9 X.K C) (i:Ea X.K C m f) (F:jl X.prog X.w X.K X.mg X.base CX k f fd ps sp) (D:gG k X.A) (L:jd X.K fd ps ds) (J:eQ xT ds) (z:mu CX X E) (M:PA X (e::es) t)
  (d:zE e es X:=by rfl) (g:(backTo pos (starEach es X.env)).any (·.1)=false:=by rfl)
  (B:eval (.Call (.Attribute o m apos) (e::es) [] pos) X.env=(do
   let ov <-eval o X.env
   standAt apos.atName
   let (f,first) <-holding [ov] (getMethod ov m pl)
   callWith pos f first (backTo pos (starEach (e::es) X.env)) (backToKw pos (keywordEach [] X.env))):=by rfl):
  PE X (.Call (.Attribute o m apos) (e::es) [] pos) (KY C m sp xT E ta t):=by
 intro b s σ H Q I h;refine W.methodCall_KW (pl:=pl) (gd (@G b s σ H _ I h) ?_) B;rintro u p ⟨x,P,n,v,a,T,S,N,O,l,q⟩;subst N;obtain rfl:u=Value.ref a:=v;refine ui n O c i l ?_;refine W.callWith_K (first:=[.ref a]) (h₀:=X.base) I.ok.mod.Ng i.kp (gd (@M pos b p σ P _ n q) ?_) d g;rintro us R ⟨vs,U,j,r,y⟩;refine⟨j.qP,?_⟩;exact uj (us:=.ref a::us) (vs:=.ref a::vs) F D L J z j (.cons rfl r) y
def FN{pl:Sem Bool} (p:PE X o ta) (c:D9 X.K C) (e:Ea X.K C m f) (F:jl X.prog X.w X.K X.mg X.base CX k f fd ps sp) (n:gG k X.A) (t:jd X.K fd ps ds) (r:eQ xT ds) (i:mu CX X E)
  (j:eval (.Call (.Attribute o m apos) [] [] pos) X.env=(do
   let ov <-eval o X.env
   standAt apos.atName
   let (f,first) <-holding [ov] (getMethod ov m pl)
   callWith pos f first (backTo pos (starEach [] X.env)) (backToKw pos (keywordEach [] X.env))):=by rfl):
  PE X (.Call (.Attribute o m apos) [] [] pos) (KY C m sp xT E ta IZ):=by
 intro b s σ H Q I h;refine W.methodCall_KW (pl:=pl) (gd (@p b s σ H _ I h) ?_) j;rintro u z ⟨x,G,d,g,a,D,B,v,y,l,q⟩;subst v;obtain rfl:u=Value.ref a:=g;refine ui d y c e l ?_;exact W.callWith_K0 (first:=[.ref a]) d.qP e.kp (uj (us:=[.ref a]) (vs:=[.ref a]) F n t r i d (.cons rfl .nil) q)
structure Mk (K:Fg) (C f:Addr):Prop where
 makes:W.makesIn K C=true
 init:W.findIn K (.ref C) "__init__"=Y (Y (.ref f))
 fn:W.isFn K (.ref f)=true
 kp:W.keepIn K (.ref C)=true
theorem zz{s:Shared}{Q:VK}{us:Lw} (M:Mk X.K C f) (F:jl X.prog X.w X.K X.mg X.base CX k f fd ps sp) (m:gG (k+1) X.A) (p:jd X.K fd ps ds) (o:eQ xT ds)
  (l:mu CX X E) (I:eE X pins σ H s) (r:eQ vs us)
  (h:∀x dx,H x=Z->H dx=Z->dx≠x->sp (.ref x::(vs++xT)) (upd (upd H dx (.own x)) x (.ins C dx [])) (λv H2=>v=.jj/\Q (.ref x) H2) E):
  (zw X) (call (.ref C) us) (EP X pins σ Q) X.xe s:=by
 have d:=h ((zB s)+1) (zB s) (I.gr.fresh (cR _)) (I.gr.fresh (ax _)) (aE (cH _));have b:=eE.made (C:=C) I;have c:eQ (V.ref ((zB s)+1)::(vs++xT)) (Value.ref ((zB s)+1)::(us++ds)):=.cons rfl (r.append o);have n:(Value.ref ((zB s)+1)::us++ds).length=ps.length:=by have e:=c.length;rw[F.len _ _ _ _ d] at e;exact e.symm
 refine wpAny_call (FI (f:=f) I.qP M.makes M.init (cu.mp M.fn) (cp (F.run _ X.stack _ _ ⟨Value.ref ((zB s)+1)::us,[]⟩ (Value.ref ((zB s)+1)::(us++ds)) _ _ E (m.make C us [])
  (b.NT.make C us []) (p _ (Value.ref ((zB s)+1)::us) b.qP n) c d) λr g a=>?_))
 cases r with
 |error e=>exact l pins σ _ _ e g b a
 |ok q=>
  cases q with
  |ret u=>obtain⟨v,z,y,i,t,j⟩:=b.after a;subst t;exact⟨i,⟨V.ref ((zB s)+1),z,y,rfl,j⟩⟩
  |next=>exact False.elim a
  |brk=>exact False.elim a
  |cont=>exact False.elim a
def C1(M:Mk X.K C f) (F:jl X.prog X.w X.K X.mg X.base CX k f fd ps sp) (i:gG (k+1) X.A) (l:Gl X x) (j:X.mg x=Y (.ref C)) (o:jd X.K fd ps ds) (n:eQ xT ds) (g:mu CX X E)
  (u:PA X (e::es) t) (c:zg x:=by decide) (m:zE e es X:=by rfl) (b:(backTo pos (starEach es X.env)).any (·.1)=false:=by rfl):
  PE X (.Call (.Name x p) (e::es) [] pos) (KZ C sp xT E t):=by
 intro a s σ H Q I h;refine aR (kU I l j ?_ c);refine W.callWith_K (h₀:=X.base) I.ok.mod.Ng M.kp (gd (@u pos a s σ H _ I h) ?_) m b;rintro y z ⟨v,B,d,r,q⟩;refine⟨d.qP,?_⟩;exact zz M F i o n g d r q
def FP(M:Mk X.K C f) (F:jl X.prog X.w X.K X.mg X.base CX k f fd ps sp) (d:gG (k+1) X.A) (g:Gl X x) (e:X.mg x=Y (.ref C)) (j:jd X.K fd ps ds) (i:eQ xT ds) (c:mu CX X E)
  (a:zg x:=by decide):PE X (.Call (.Name x p) [] [] pos) (KZ C sp xT E IZ):=by
 intro b s σ H Q I h;refine aR (kU I g e ?_ a);exact W.callWith_K0 I.qP M.kp (zz (us:=[]) M F d j i c I .nil h)
end
section
variable {CX:FJ}{k:Nat}{f C:Addr}{ps ks:Lr}{sp:Sp}{E:XK}{m:Str}{Sq:Pos}{es:Lx}{Uv:List Keyword}{te ta:TE}{t tk:TA}{nm:Option Str}
variable {g:Lw->Lw->Lw}{gV:List V->List V->List V}
end
structure hJ (N P:Lr) (sc:Scope):Prop where
 kind:sc.kind=.function
 co:sc.isCoroutine=false
 gen:sc.isGenerator=false
 nd:N.Nodup
 pre:N.take P.length=P
 par:∀x∈P,sc.names.lookup x=Y .local\/sc.names.lookup x=Y .cell
 L5:∀y∈sc.names,y.2≠.free
theorem wN{b:Str->Option NameKind}{x:Str}:∀{a:List (Str×Value)}{m:Str->Ow},(∀v,(x,v)∉a)->bindL b a m x=m x
 |[],_,_=>rfl
 | (n,v)::r,m,h=>by
  unfold bindL;rw[wN λw hw=>h w (au _ hw)];split
  ·have:x≠n:=by rintro rfl;exact h v cP
   simp[this]
  ·rfl
theorem wO{b:Str->Option NameKind}{x:Str}:∀{a:List (Str×Value)}{m:Str->Ow},(∀v,(x,v)∉a)->bindC b a m x=m x
 |[],_,_=>rfl
 | (n,v)::r,m,h=>by
  unfold bindC;rw[wO λw hw=>h w (au _ hw)];split
  ·rfl
  ·have:x≠n:=by rintro rfl;exact h v cP
   simp[this]
theorem wQ{a:Str->Option NameKind}{x:Str}{v:Value}:∀{P:Lr}{b:Lw}{i:Nat}{m:Str->Ow},P.Nodup->P[i]?=Y x->b[i]?=Y v->a x=Y .local ->
  bindL a (P.zip b) m x=Y v
 |[],_,_,_,_,h,_,_=>by simp at h
 |_::_,[],_,_,_,_,h,_=>by simp at h
 |p::P,w::b,0,m,nd,h1,h2,hk=>by simp at h1 h2;subst h1;subst h2;show bindL a ((p,w)::P.zip b) m p=_;unfold bindL;rw[wN λv c=>(bp.mp nd).1 (dU c).1,af hk];simp
 |p::P,w::b,i+1,m,nd,h1,h2,hk=>by show bindL a ((p,w)::P.zip b) m x=_;unfold bindL;exact wQ (i:=i) (bp.mp nd).2 (by simpa using h1) (by simpa using h2) hk
theorem wR{a:Str->Option NameKind}{x:Str}{v:Value}:∀{P:Lr}{b:Lw}{i:Nat}{m:Str->Ow},P.Nodup->P[i]?=Y x->b[i]?=Y v->a x≠Y .local ->
  bindC a (P.zip b) m x=Y v
 |[],_,_,_,_,h,_,_=>by simp at h
 |_::_,[],_,_,_,_,h,_=>by simp at h
 |p::P,w::b,0,m,nd,h1,h2,hk=>by simp at h1 h2;subst h1;subst h2;show bindC a ((p,w)::P.zip b) m p=_;unfold bindC;rw[wO λv c=>(bp.mp nd).1 (dU c).1,ag hk];simp
 |p::P,w::b,i+1,m,nd,h1,h2,hk=>by show bindC a ((p,w)::P.zip b) m x=_;unfold bindC;exact wR (i:=i) (bp.mp nd).2 (by simpa using h1) (by simpa using h2) hk
def start(N:Lr)(vs:List V):St:=vs.map Y++List.replicate (N.length - vs.length) Z
noncomputable def sI(j:FJ)(P:Program)(w:World)(K:Fg)(i:Str->Ow)(d:Heap)(N:Lr)(c:Str)(a:Scope)(f:Addr)(h:Value)(A:Around)(b:List Env)(s:Shared)(H:Hp)(E:XK):Cx where
 prog:=P
 w:=w
 K:=K
 mg:=i
 base:=d
 A:=A.deeper (envOfC c a (zB s) f h)
 N:=N
 s₀:=s
 H₀:=H
 env:=envOfC c a (zB s) f h
 outer:=b
 stack:=envOfC c a (zB s) f h::b
 ex:=[]
 calm:=true
 fn:=λ_=>true
 pn:=[]
 xe:=λe k=>wpAny (model P w) (A.deeper (envOfC c a (zB s) f h)) (leaving (envOfC c a (zB s) f h) e) (λ_ g=>j b H s E e g) (λl g=>j b H s E l g) k
def zD{a:Scope}(h:a.names.lookup x=Y .cell):∃c,(cellsFrom n a.names []).lookup x=Y c:=by have q:=W.cellsFrom_some a.names n [] (.inl h);exact Option.isSome_iff_exists.mp q
def Eb{Q:FJ}{P:Program}{l:Heap}{N o:Lr}{g:Str}{f:Addr}{I:Value}{d:List Env}{s L:Shared}{E:XK}{J:Lw}
  (S:hJ N o scope) (U:A.handled=Z) (m:BJ P w K mg l A d s H) (X:vs.length=o.length) (r:eQ vs J)
  (x:InCallC s (zB s) (bindL (envOfC g scope (zB s) f I).kindOf (o.zip J) λ_=>Z) (cellsFrom ((zB s)+1) scope.names []) (bindC (envOfC g scope (zB s) f I).kindOf (o.zip J) λ_=>Z) L):
  eE (sI Q P w K mg l N g scope f I A d s H E) [] (start N vs) H L:=by
 have T:o.length<=N.length:=by have:=bg List.length S.pre;rw[cw] at this;omega
 obtain⟨G,W,rfl,O⟩:=x.done;have t:∀b:Addr,b∉(sI Q P w K mg l N g scope f I A d s H E).ex:=λb z=>absurd (show b∈([]:List Addr) from z) (by simp);refine⟨⟨m.mod,S.kind,rfl,rfl,ax _,λy z c G j=>?_,λy B=>?_,λy c _ h=>?_,λ_=>U,Around.frames_deeper m.frames,.inr ⟨rfl,rfl⟩,λb z=>absurd z (t b),m.bs,m.KP,λb _ _=>t b,λb z=>absurd z (t b),m.o5,m.Ft⟩,
  rfl,m.bare,Un.kept O,⟨_,x.toInCall.ns,λi y v G j h3=>?_⟩,λy c h=>⟨_,x.cell y c h⟩,m.gr.fresh (ax _),λy c h=>?_,λp D=>absurd (show p∈([]:Ax) from D) (by simp),m.gr.kept O,?_⟩
 ·exact name_of_addr x.apart (bG G) (bG j)
 ·have B:scope.names.lookup y=Y .cell\/scope.names.lookup y=Y .free:=B;rcases B with B|B
  ·exact zD B
  ·exact absurd rfl (S.L5 _ (bG B))
 ·exact cB (x.above y c (bG h))
 ·have F:i<vs.length:=by
   unfold start at j;by_cases F:i<vs.length
   ·exact F
   ·rw[aO (by simpa using F)] at j;rw[bB] at j;split at j<;>cases j
  have V:vs[i]?=Y v:=by
   unfold start at j;rw[aM (by simpa using F),aB] at j;cases e:vs[i]? with
   |none=>rw[e] at j;cases j
   |some a=>rw[e] at j;cases j;rfl
  obtain⟨u,M,R⟩:=r.get V;have D:o[i]?=Y y:=by rw[<-S.pre,List.getElem?_take_of_lt (by omega)];exact G
  have C:o.Nodup:=by rw[<-S.pre];exact S.nd.sublist (List.take_sublist _ _)
  refine⟨u,R,?_⟩;rcases S.par y (bY D) with k|k
  ·exact .inl ⟨k,wQ C D M k⟩
  ·obtain⟨c,e⟩:=zD (n:=(zB s)+1) k;refine .inr ⟨.inl k,c,e,?_⟩;have q:=x.cell y c e;rw[wR C D M (by show scope.names.lookup y≠_;rw[k];decide)] at q;exact q
 ·exact m.gr.fresh (cB (x.above y c (bG h)))
 ·unfold start;show _=N.length;rw[a6,ay,List.length_replicate];omega
def NU{F:FJ}{P:Program}{g:Heap}{k:Nat}{f:Addr}{i a:Str}{d:Arguments}{h:List Stmt}{dV kV C X c ct oc:Value}{an od:Option Addr}
  {M:Array Ow}{N D:Lr}{G:Sp} (lk:K.lookup f=Y ⟨oc,od,.func (W.fnOf i a d h scope dV kV C X an c ct),M⟩) (T:W.codeIn K c a=true) (S:hJ N D scope)
  (m:∀vs H Q E,G vs H Q E->vs.length=D.length)
  (l:∀(A:Around) (outer:List Env) (s:Shared) (H:Hp) (vs:List V) (Q:VK) (E:XK),gG k (A.deeper (envOfC a scope (zB s) f c))->G vs H Q E ->
   ∃t,tJ (sI F P w K mg g N a scope f c A outer s H E) h t/\t { nx:=λ_ H'=>Q .jj H',rt:=Q } (start N vs) H):
  jl P w K mg g F (k+1) f (W.fnOf i a d h scope dV kV C X an c ct) D G:=by
 refine⟨m,λA outer s H args us vs Q E R B hb r p=>?_⟩;have hl:=m _ _ _ _ p;have KX:K.In s.heap:=B.mod.Ng.keeps λb o e=>(B.bs b o e).1;have O:s.heap.NoLimit:=B.mod.nolimit.keeps λb o e=>(B.bs b o e).1;have j:∀y∈D.zip us,scope.names.lookup y.1=Y .local\/(scope.names.lookup y.1=Y .cell/\((cellsFrom ((zB s)+1) scope.names []).lookup y.1).isSome=true):=by
  rintro⟨n,v⟩ hy;rcases S.par n (dU hy).1 with q|q
  ·exact .inl q
  ·exact .inr ⟨q,W.cellsFrom_some _ _ _ (.inl q)⟩
 refine codeAny_call_function R.depth (KX _ _ lk) rfl S.co S.gen rfl (W.codeRec_of KX T) (hb _ _ _ _ ?_);refine wpAny_newFunctionEnv_cells S.kind j λenv he U x=>?_;subst he;refine⟨O.keeps x.toInCall.keep,codeAny_func ?_⟩;obtain⟨t,ht,hq⟩:=l A outer s H vs Q E (R.deeper _) p;have I:eE (sI F P w K mg g N a scope f c A outer s H E) [] (start N vs) H U:=Eb S R.hd B hl r x;refine bO (@ht [] U (start N vs) H _ I hq) (λfl L hs=>?_) λe L hs=>hs;have z:∀{σ':St}{H':Hp}{v:V}{u:Value},eE (sI F P w K mg g N a scope f c A outer s H E) [] σ' H' L->eV v u->Q v H'->CE outer P w H s Q u L :=
  λ{σ' H' v u} J rv q=>⟨v,H',J.os,J.bare,J.base,J.gr,rv,q⟩
 cases fl with
 |ret u=>obtain⟨v,σ',H',J,rv,q⟩:=hs;exact z J rv q
 |next=>obtain⟨σ',H',J,q⟩:=hs;exact z (v:=V.jj) (u:=Value.none) J rfl q
 |brk=>obtain⟨_,_,_,q⟩:=hs;exact False.elim q
 |cont=>obtain⟨_,_,_,q⟩:=hs;exact False.elim q
section
variable {es:Lx}{t:TA}{id T:String}{r:List V->Hp->VK->Prop}
def Qg(r:List V->Hp->VK->Prop)(t:TA):TE:=λσ H Q=>t σ H λa b=>r a b Q
def um(q:gX X (.builtin id) r) (n:Gl X x) (m:X.mg x=Z) (k:bootBuiltins x=Y (.builtin id)) (u:PA X (e::es) t) (l:x≠"__name__":=by decide) (c:zg x:=by decide)
  (o:zE e es X:=by rfl) (b:(backTo pos (starEach es X.env)).any (·.1)=false:=by rfl):PE X (.Call (.Name x p) (e::es) [] pos) (Qg r t):=by
 intro a s σ H Q I h;refine aR (jk I n m k ?_ l c);exact cx (gd (@u pos a s σ H _ I h) <| by rintro f g ⟨d,w,v,i,j⟩;exact @q a g σ w d f Q v i j) o b
def wU(q:gX X (.type T) r) (n:Gl X x) (m:X.mg x=Z) (k:bootBuiltins x=Y (.type T)) (u:PA X (e::es) t) (l:x≠"__name__":=by decide) (c:zg x:=by decide)
  (o:zE e es X:=by rfl) (b:(backTo pos (starEach es X.env)).any (·.1)=false:=by rfl):PE X (.Call (.Name x p) (e::es) [] pos) (Qg r t):=by
 intro a s σ H Q I h;refine aR (jk I n m k ?_ l c);exact aU (gd (@u pos a s σ H _ I h) <| by rintro f g ⟨d,w,v,i,j⟩;exact @q a g σ w d f Q v i j) o b
end
end L2
namespace HT
open PySem PyProof.Rows
section
open PySem.SeqAt
open PySem.AutoSeq1 (wpAny_loadPart')
open PySem.MeetsSeq PySem.MeetsSeq2 PySem.MeetsSeq3
end
section
variable {s:Shared}
def I0{t b:Addr}{d a:Lw}{Q:Px} (x:IsTup s.heap t d.toArray) (y:IsTup s.heap b a.toArray) (p:d≠[])
  (B:a=[]->Q (.ref t) s) (z:a≠[]->Q (.ref (zB s)) { s with heap:=s.heap.push { cls:=.type "tuple",data:=.seq (d++a).toArray } })
  (k:d.length+a.length<=sizeLine):wpAny (model prog w) A (binaryOp .Add (.ref t) (.ref b)) Q E s:=by
 obtain⟨⟨cls,u,data,m⟩,j,r,n,q⟩:=id x;obtain⟨⟨v,i,l,f⟩,c,h,o,g⟩:=id y;simp only at r q h g;subst r q h g;have e:d.toArray++a.toArray=(d++a).toArray:=by simp
 by_cases hw:a=[]
 ·exact dR ⟨_,j,rfl⟩ ⟨_,c,rfl⟩ dJ seq_tuple_add cX cS (cM _ _)
   (tuple_addW1 t b d.toArray a.toArray n o u i m f (by simpa using p) (by simp[hw])) ⟨j,c,B hw⟩
 ·refine dR ⟨_,j,rfl⟩ ⟨_,c,rfl⟩ dJ seq_tuple_add cX cS (cM _ _)
   (tuple_addW2 t b d.toArray a.toArray n o u i m f (by simpa using p) (by simpa using hw) (by rw[ao,ao];exact k)) ⟨j,c,?_⟩
  rw[e];exact z hw
noncomputable def iF(n d:Nat):Option Int->Nat
 |none=>d
 |some v=>if v<0 then (v+(n:Int)).toNat else min v.toNat n
def C2(n d k:Nat):iF n d (Y (k:Int))=min k n:=by show (if (k:Int)<0 then ((k:Int)+(n:Int)).toNat else min (k:Int).toNat n)=min k n;rw[ag (by omega),b0]
def L6(n d:Nat)(b:d<=n)(o:Option Int):iF n d o<=n:=by
 cases o with
 |none=>exact b
 |some v=>
  show (if v<0 then (v+(n:Int)).toNat else min v.toNat n)<=n;by_cases a:v<0
  ·rw[af a];omega
  ·rw[ag a];exact dM _ _
def C3(v:Int)(n d:Nat):(if v<0 then max (v+(n:Int)) 0 else min v (n:Int))=((iF n d (Y v):Nat):Int):=by
 show (if v<0 then max (v+(n:Int)) 0 else min v (n:Int))=(((if v<0 then (v+(n:Int)).toNat else min v.toNat n):Nat):Int)
 by_cases a:v<0
 ·simp only[af a];omega
 ·simp only[ag a];omega
def BK(a b:Option Int)(n:Nat):Builtin.Slice.sliceAdjust a b 1 (n:Int)=(((iF n 0 a:Nat):Int),((iF n n b:Nat):Int)):=by
 have c:¬ ((1:Int)<0):=by omega
 unfold Builtin.Slice.sliceAdjust;simp only[c,dN];refine Prod.ext ?_ ?_
 ·cases a with
  |none=>rfl
  |some v=>exact C3 v n 0
 ·cases b with
  |none=>rfl
  |some v=>exact C3 v n n
def BL(i j:Nat):Builtin.Slice.slicePlaces (i:Int) (j:Int) 1=j - i:=by
 unfold Builtin.Slice.slicePlaces;have a:(1:Int) > 0:=by omega
 simp only[a,df,Int.ediv_one];split<;>omega
def uo{v:Value}{o:Option Int}{Q:Option Int->Shared->Prop}(p:IsPart v o)(h:Q o s):wpAny (model prog w) A (Builtin.Slice.slicePartIndex v) Q E s:=by
 cases p with
 |none=>exact slicePart_none h
 |int i t=>exact slicePart_int h
def lF{g:Addr}{f e:Value}{a c:Option Int}{Q:Int×Int×Nat->Shared->Prop} (k:s.heap.IsSliceOf g f e .none) (j:IsPart f a) (i:IsPart e c)
  (h:Q (((iF n 0 a:Nat):Int),1,iF n n c - iF n 0 a) s):wpAny (model prog w) A (Builtin.Slice.sliceApplied (.ref g) (pure (n:Int))) Q E s:=by
 obtain⟨m,b,l,d⟩:=id k;unfold Builtin.Slice.sliceApplied Builtin.Slice.sliceFields;refine aa (aa (cA b d (x:=f) rfl (aa (cA b d (x:=e) rfl (aa (cA b d (x:=.none) rfl (ae ?_)))))));refine aa (slicePart_none ?_);show wpAny _ _ (if ((1:Int)==0)=true then _ else _) _ _ s;rw[ag (by decide)];refine aa (uo j (aa (uo i (aa (ae ?_)))));show wpAny _ _ (match Builtin.Slice.sliceAdjust a c 1 (n:Int) with|(a,c)=>pure (a,(1:Int),Builtin.Slice.slicePlaces a c 1)) _ _ s;rw[BK a c n];show wpAny _ _ (pure (((iF n 0 a:Nat):Int),(1:Int),Builtin.Slice.slicePlaces ((iF n 0 a:Nat):Int) ((iF n n c:Nat):Int) 1)) _ _ s;rw[BL];exact ae h
def FQ(a:Array Value)(i k:Nat):((List.range k).filterMap λ(m:Nat)=>a[((i:Int)+(m:Int)*1).toNat]?).toArray=((a.toList.drop i).take k).toArray:=by
 have e:(λ(m:Nat)=>a[((i:Int)+(m:Int)*1).toNat]?)=λm=>a[i+m]?:=by
  funext m
  have:((i:Int)+(m:Int)*1).toNat=i+m:=by omega
  rw[this]
 rw[e];have:=pick_run a i k;rw[cQ] at this;have b:((λx=>a[x]?)∘λx=>i+x)=λm=>a[i+m]?:=rfl;rw[b] at this;rw[this]
def pV{t e:Addr}{l k:Value}{b c:Option Int}{Q:Px} (d:IsTup s.heap t items) (n:s.heap.IsSliceOf e l k .none) (p:IsPart l b) (o:IsPart k c)
  (hw:¬ (iF items.size 0 b=0/\iF items.size items.size c=items.size))
  (h:Q (.ref (zB s)) { s with heap:=s.heap.push { cls:=.type "tuple",data:=.seq ((items.toList.drop (iF items.size 0 b)).take (iF items.size items.size c - iF items.size 0 b)).toArray } })
  (u:items.size<=sizeLine):wpAny (model prog w) A (getItem (.ref t) (.ref e)) Q E s:=by
 have a:sizeOk (.seq ((items.toList.drop (iF items.size 0 b)).take (iF items.size items.size c - iF items.size 0 b)).toArray):=by show ((items.toList.drop (iF items.size 0 b)).take (iF items.size items.size c - iF items.size 0 b)).toArray.size<=sizeLine;rw[ao,cw,cI,a8];omega
 have z:iF items.size items.size c<=items.size:=L6 _ _ (ax _) c;obtain⟨r,f,i,v⟩:=id n;have j:s.TypeIs (.ref e) "slice":=⟨r,f,i⟩
 unfold getItem
 try with_reducible refine aY ?_
 first|refine aa (ae ?_)|skip
 refine aa (wpAny_sequenceKey d.typeIs (by decide) ?_);refine aa (br (name:=zZ "__getitem__") d.typeIs bh
  (bx bh d.typeIs entry_tuple_getitem ?_ (args_tuple_getitem _ _)))
 show wpAny _ _ (Builtin.Tuple.tupleItemsOf (.ref t)>>=_) _ _ s;refine aa (tupleItemsOf_ d ?_);refine aa (b6 j ?_);rw[af (by decide)];refine aa (lF n p o ?_);have g:¬ ((((iF items.size 0 b:Nat):Int)==0&&(1:Int)==1&&(iF items.size items.size c - iF items.size 0 b)==items.size)=true):=by intro q;rw[bV,bV] at q;have y:((iF items.size 0 b:Nat):Int)=0:=eq_of_beq q.1.1;have x:iF items.size items.size c - iF items.size 0 b=items.size:=eq_of_beq q.2;exact hw ⟨by omega,by omega⟩
 show wpAny _ _ (if (((iF items.size 0 b:Nat):Int)==0&&(1:Int)==1&&(iF items.size items.size c - iF items.size 0 b)==items.size)=true then _ else _) _ _ s;rw[ag g,FQ]
 first
  |exact aa (m:=Builtin.Tuple.tupleExact _) (bt (ae ⟨_,rfl,ae h⟩) a)
  |exact aa (m:=Builtin.Tuple.tupleExact _) (bt (aa (ae (ae ⟨_,rfl,ae h⟩))) a)
  |exact aa (aa (m:=Builtin.Tuple.tupleExact _) (bt (ae (ae ⟨_,rfl,ae h⟩)) a))
  |exact aa (aa (m:=Builtin.Tuple.tupleExact _) (bt (ae ⟨_,rfl,ae h⟩) a))
end
end HT
namespace L2
open PySem PySem.Spec PyProof.Rows
abbrev TO:=St->Hp->(Option Int->Hp->Prop)->Prop
def PO(X:Cx)(e:Option Expr)(t:TO):Prop :=
 ∀⦃a:Ax⦄ (s:Shared) (σ:St) (H:Hp) (Q:Option Int->Hp->Prop),eE X a σ H s->t σ H Q ->
  (zw X) (evalPart e X.env) (λu c=>∃o b,eE X a σ b c/\IsPart u o/\Q o b) X.xe s
def I7:TO:=λ_ H Q=>Q Z H
def NV(t:TE):TO:=λσ H Q=>t σ H λx a=>∃i,x=.int i/\Q (Y i) a
section
variable {te:TE}{lo hi:Option Expr}{tl th:TO}{p2:Pos}
def I8:PO X Z I7:=by intro a s σ H Q I h;rw[evalPart_none];exact ae ⟨Z,H,I,.none,h⟩
def Ja(h:PE X e te):PO X (Y e) (NV te):=by intro a s σ H Q I hw;rw[evalPart_some];refine gd (@h a s σ H _ I hw) ?_;rintro u g ⟨x,f,d,b,c⟩;obtain⟨i,rfl,q⟩:=c;obtain⟨t,rfl⟩:=b;exact⟨Y i,f,d,.int i t,q⟩
def C4(X:Cx)(r:V->Option Int->Option Int->Hp->VK->Prop):Prop :=
 ∀(a:Ax) (s:Shared) (σ:St) (H:Hp) (x:V) (v c b:Value) (lo hi:Option Int) (sl:Addr) (Q:VK),eE X a σ H s->eV x v->s.heap.IsSliceOf sl c b .none->IsPart c lo->IsPart b hi->r x lo hi H Q ->
  ∃T d,typeLookup (.type T) "__getitem__"=pure (Y (.builtin d))/\s.TypeIs v T/\(zw X) (getItem v (.ref sl)) (EP X a σ Q) X.xe s
def C4.or{r f:V->Option Int->Option Int->Hp->VK->Prop}(h:C4 X r)(k:C4 X f):C4 X (λx lo hi H Q=>r x lo hi H Q\/f x lo hi H Q):=by
 intro a s σ H x v c b lo hi d Q I e j i g q;rcases q with q|q
 ·exact @h a s σ H x v c b lo hi d Q I e j i g q
 ·exact @k a s σ H x v c b lo hi d Q I e j i g q
def Sr(r:V->Option Int->Option Int->Hp->VK->Prop)(c:TE)(a b:TO):TE:=λσ H Q=>c σ H λx f=>a σ f λl e=>b σ e λu d=>r x l u d Q
theorem zF{r:V->Option Int->Option Int->Hp->VK->Prop}(z:C4 X r)(C:PE X e te)(A:PO X lo tl)(w:PO X hi th):PE X (.Subscript e (.Slice lo hi Z p2) pos) (Sr r te tl th):=by intro a s σ H Q I h;refine Subscript_ (gd (@C a s σ H _ I h) ?_);rintro v j ⟨x,L,J,k,o⟩;refine wpAny_Slice (gd (@A a j σ L _ J o) ?_);rintro f i ⟨l,K,G,t,n⟩;refine gd (@w a i σ K _ G n) ?_;rintro d c ⟨u,g,F,p,m⟩;rw[evalPart_none];refine ae ?_;have E:eE X a σ g { c with heap:=c.heap.push { cls:=.type "slice",data:=.fields #[f,d,.none] } }:=F.kept (t':=c.toks) λb M q=>ah _ q;obtain⟨T,N,D,y,B⟩:=z a { c with heap:=c.heap.push { cls:=.type "slice",data:=.fields #[f,d,.none] } } σ g x v f d l u (zB c) Q E k (Heap.IsSliceOf.new ..) t p m;show (zw X) (subscriptTail e (.Slice lo hi Z p2) v (.ref (zB c))) (EP X a σ Q) X.xe { c with heap:=c.heap.push { cls:=.type "slice",data:=.fields #[f,d,.none] } };exact tail_any (ops:=[.ref (zB c),v]) y D B (by with_unfolding_all rfl)
def zG(a:List V)(b c:Option Int):List V:=(a.drop (HT.iF a.length 0 b)).take (HT.iF a.length a.length c - HT.iF a.length 0 b)
def rX(a:List V)(b c:Option Int):(zG a b c).length<=a.length:=by unfold zG;rw[cw,cI];omega
def Qh(K:Fg):V->Option Int->Option Int->Hp->VK->Prop:=λx c d H Q=>∃a b,x=.ref a/\mV K H a b /\
 ¬ (HT.iF b.length 0 c=0/\HT.iF b.length b.length d=b.length)/\∀p,H p=Z->Q (.ref p) (upd H p (.tup (zG b c d)))
def L7:C4 X (Qh X.K):=by
 intro i s σ H x v w u e g y Q I l t n m h;obtain⟨a,d,rfl,p,hw,q⟩:=h;cases l;obtain⟨f,r,k,j⟩:=I.tuple p;have c:f.toArray.size=d.length:=by rw[ao];exact r.length.symm
 refine⟨"tuple",_,bh.lookup,k.typeIs,?_⟩;refine HT.pV k t n m (by rw[c];exact hw) ?_ (by rw[c];exact j);rw[c];refine⟨.ref (zB s),_,I.laid (t':=s.toks) (o:=.tup (zG d e g)) (λb z q=>ah _ q) (ax _) ?_,rfl,q _ (I.gr.fresh (ax _))⟩;exact⟨bc (rX d e g) j,_,(r.drop (HT.iF d.length 0 e)).take (HT.iF d.length d.length g - HT.iF d.length 0 e),IsTup.new _ _⟩
def NW(K:Fg):R2:=λx y H Q=>∃a b d c,x=.ref a/\y=.ref b/\mV K H a d/\mV K H b c/\d≠[]/\d.length+c.length<=sizeLine /\
 (c=[]->Q (.ref a) H)/\(c≠[]->∀p,H p=Z->Q (.ref p) (upd H p (.tup (d++c))))
def eQ.eC{a:List V}{b:Lw}(r:eQ a b):b=[]↔a=[]:=by
 cases r with
 |nil=>simp
 |cons _ _=>simp
def Jb:jD X (binaryOp .Add) (NW X.K):=by intro e s σ H x y v u Q I l k h;obtain⟨a,b,j,i,rfl,rfl,C,B,A,g,n,m⟩:=h;cases l;cases k;obtain⟨t,d,r,_⟩:=I.tuple C;obtain⟨f,c,p,_⟩:=I.tuple B;refine HT.I0 r p (λz=>A (d.eC.mp z)) (λz=>⟨.ref a,H,I,rfl,n (c.eC.mp z)⟩) (λz=>?_) (by rw[<-d.length,<-c.length];exact g);refine⟨.ref (zB s),_,I.laid (t':=s.toks) (o:=.tup (j++i)) (λb D q=>ah _ q) (ax _) ?_,rfl,m (λw=>z (c.eC.mpr w)) _ (I.gr.fresh (ax _))⟩;exact⟨by rw[a6];exact g,_,d.append c,IsTup.new _ _⟩
end
noncomputable def Ec(n:Nat)(i:Int):Option Nat:=if 0<=i then (if i<n then Y i.toNat else Z) else if -(n:Int)<=i then Y (i+n).toNat else Z
def qR(a:List α)(i:Int):Option α:=(Ec a.length i).bind λj=>a[j]?
def C5{i:Int}{j:Nat}(h:Ec n i=Y j):seqIndex? i n=Y j/\j<n/\-(n:Int)<=i/\i<n:=by
 unfold Ec at h;by_cases b:0<=i
 ·rw[af b] at h;by_cases a:i<n
  ·rw[af a] at h;have e:i.toNat=j:=bo h;exact⟨by rw[seqIndex_of b a,e],by omega,by omega,a⟩
  ·rw[ag a] at h;cases h
 ·rw[ag b] at h;by_cases a:-(n:Int)<=i
  ·rw[af a] at h;have e:(i+n).toNat=j:=bo h;exact⟨by rw[seqIndex_neg (by omega) a,e],by omega,a,by omega⟩
  ·rw[ag a] at h;cases h
def xV{a:List α}{i:Int}{v:α}(h:qR a i=Y v):∃j,seqIndex? i a.length=Y j/\a[j]?=Y v/\j<a.length/\-(a.length:Int)<=i/\i<a.length:=by
 unfold qR at h;cases e:Ec a.length i with
 |none=>rw[e] at h;cases h
 |some j=>rw[e] at h;obtain⟨f,d,c,b⟩:=C5 e;exact⟨j,f,h,d,c,b⟩
def oa(b:Expr):Prop:=∀o i,subscripted b false o i=operate [o,i] (getItem o i)
def C6(X:Cx)(r:R2):Prop :=
 ∀(b a:Expr) (pins:Ax) (s:Shared) (σ:St) (H:Hp) (x y:V) (v u:Value) (Q:VK),eE X pins σ H s->eV x v->eV y u->r x y H Q ->
  subscripted a false v u=operate [v,u] (getItem v u)->(zw X) (subscriptTail b a v u) (EP X pins σ Q) X.xe s
def Jc(X:Cx)(b:String)(r:V->List V->Hp->VK->Prop):Prop :=
 ∀(a:Ax) (s:Shared) (σ:St) (H:Hp) (x:V) (xs:List V) (v:Value) (us:Lw) (Q:VK),eE X a σ H s->eV x v->eQ xs us->r x xs H Q ->
  (zw X) (call (.builtin b) (v::us)) (EP X a σ Q) X.xe s
section
variable {a:Expr}{ta tb:TE}
def C6.or{r f:R2}(h:C6 X r)(i:C6 X f):C6 X (λx y H Q=>r x y H Q\/f x y H Q):=by
 intro a b c s σ H x y v u Q I e d q g;rcases q with q|q
 ·exact h a b c s σ H x y v u Q I e d q g
 ·exact i a b c s σ H x y v u Q I e d q g
def C7{r:R2}(g:C6 X r)(j:PE X a ta)(i:PE X b tb)(f:oa b):PE X (.Subscript a b pos) (NH r ta tb):=by intro c s σ H Q I h;exact Subscript_ (LS j i I h λv u s2 x y l k e d q=>g a b c s2 σ l x y v u Q k e d q (f _ _))
def NX(K:Fg):R2:=λx y H Q=>∃p a i v,x=.ref p/\y=.int i/\jS K H p a/\qR a i=Y v/\Q v H
def NY(K:Fg):R2:=λx y H Q=>∃p a i v,x=.ref p/\y=.int i/\mV K H p a/\qR a i=Y v/\Q v H
def NZ:R2:=λx y H Q=>∃z i c,x=.str z/\y=.int i/\z.length<=sizeLine/\qR z.cps.toList i=Y c/\Q (.str ⟨#[c]⟩) H
def xW:C6 X (NX X.K):=by
 intro d e a s σ H x y v u Q I C B h m;obtain⟨p,M,i,z,rfl,rfl,D,F,q⟩:=h;cases C;obtain⟨t,rfl⟩:=B;obtain⟨k,r,g,N⟩:=I.list D;obtain⟨j,c,L,P,J,G⟩:=xV F;obtain⟨w,o,f⟩:=r.get L;have E:=r.length;have O:=o6;have b:EP X a σ Q w s:=⟨z,H,I,f,q⟩
 by_cases n:0<=i
 ·have l:i.toNat=j:=by
   rw[seqIndex_of n G] at c;exact bo c
  exact item_listR g.isList n (by omega) (by rw[l];simpa using o) b m
 ·have l:(i+(k.toArray.size:Int)).toNat=j:=by
   rw[seqIndex_neg (by omega) J] at c;rw[ao,<-E];exact bo c
  exact subscriptTail_builtinR (x:=w) g.isList.typeIs slot_list_getitem.lookup
   (wpAny_getItem_list_neg (Q:=λr A=>r=w/\EP X a σ Q r A) g.isList (by omega) (by rw[ao]<;>omega) (by omega) (by rw[l];simpa using o) ⟨rfl,b⟩) m
def FR:C6 X (NY X.K):=by
 intro b c a s σ H x y v u Q I l k h n;obtain⟨p,F,i,z,rfl,rfl,o,B,q⟩:=h;cases l;obtain⟨t,rfl⟩:=k;obtain⟨m,r,f,G⟩:=I.tuple o;obtain⟨j,D,C,N,M,L⟩:=xV B;obtain⟨w,E,d⟩:=r.get C;have A:=r.length;have J:=o6;have e:EP X a σ Q w s:=⟨z,H,I,d,q⟩
 exact subscriptTail_builtinR (x:=w) f.typeIs slot_tuple_getitem.lookup
  (getItem_tuple (j:=j) (Q:=λr g=>r=w/\EP X a σ Q r g) f (by omega) (by omega) (by rw[ao,<-A];exact D) (by simpa using E) ⟨rfl,e⟩) n
def L8:C6 X NZ:=by
 intro a b d s σ H x y v u Q I g f h k;obtain⟨z,i,c,rfl,rfl,B,m,q⟩:=h;obtain⟨t,rfl⟩:=g;obtain⟨A,rfl⟩:=f;obtain⟨j,e,p,D,o,n⟩:=xV m;have l:z.cps.toList.length=z.length:=by simp[Str.length]
 rw[l] at e o n;have C:=o6;exact tail_any (dA s z t) slot_str_getitem.lookup (getItem_str (c:=c) (by have w:decide (i < -(2 ^ 63:Int))=false:=aV (by omega);have r:decide (i >= 2 ^ 63)=false:=aV (by omega);rw[w,r,dH]) (by rw[e];simpa using p) ⟨.str ⟨#[c]⟩,H,I.tok _,⟨_,rfl⟩,q⟩) k
def Ss(K:Fg):R2:=λx y H Q=>NX K x y H Q\/NY K x y H Q\/NZ x y H Q
def L9:C6 X (Ss X.K):=xW.or (FR.or L8)
def BM(a:Lw)(n j:Nat)(u:Value):Obj.mapSeq (·.setIfInBounds j u) (zl a.toArray n)={ cls:=.type "list",data:=.seq (a.set j u).toArray n }:=by simp[Obj.mapSeq]
theorem eE.lst{a:Ax}{σ:St}{H:Hp}{s:Shared}{p:Addr}{b:List V}(I:eE X a σ H s)(h:H p=Y (.lst b)):
  ∃(its:Lw) (n:Nat),eQ b its/\s.heap.get? p=Y (zl its.toArray n)/\b.length<=sizeLine:=by
 obtain⟨z,its,n,r,e⟩:=I.gr p _ h;exact⟨its,n,r,e,z⟩
def eE.Ma{s:Shared}{p:Addr}{j d:List V}{c a:Lw}{g:Nat}{f:Obj->Obj} (I:eE X pins σ H s) (h:H p=Y (.lst j))
  (l:s.heap.get? p=Y (zl c.toArray n)) (i:f (zl c.toArray n)=(zl a.toArray g)) (r:eQ d a) (k:d.length<=sizeLine) (t:Nat):
  eE X pins σ (upd H p (.lst d)) { s with heap:=s.heap.update p f,toks:=t }:=by
 have e:(s.heap.update p f).get? p=Y (zl a.toArray g):=by rw[bj f l (by rw[i]<;>rfl),i]
 refine I.write (x:=p) (e:=p) (by rw[h];trivial) (.inl rfl) (λb u m q=>(bf _ _ (Ne.symm m)).trans q) ⟨_,e⟩ ?_;exact⟨k,a,g,r,e⟩
def N1:V->V->V->Hp->(Hp->Prop)->Prop:=λo i v H Q=>∃p a k j,o=.ref p/\i=.int k/\H p=Y (.lst a)/\Ec a.length k=Y j/\Q (upd H p (.lst (a.set j v)))
def zH:xO X N1:=by
 intro a s σ H o i v E F u Q I A B z h;obtain⟨p,y,k,j,rfl,rfl,g,D,q⟩:=h;cases A;obtain⟨t,rfl⟩:=B;obtain⟨b,n,r,d,C⟩:=I.lst g;obtain⟨c,J,m,l⟩:=C5 D;have e:=r.length;have G:=o6;have x:eE X a σ (upd H p (.lst (y.set j v))) { s with heap:=s.heap.update p (Obj.mapSeq (·.setIfInBounds j u)) } :=
  I.Ma g d (BM b n j u) (r.set z j) (by rw[List.length_set];exact C) s.toks
 by_cases w:0<=k
 ·have f:k.toNat=j:=by
   rw[seqIndex_of w l] at c;exact bo c
  exact W.ki_setAt d w (by omega) (by rw[ao,<-e];exact l) (by rw[f];exact⟨_,x,q⟩)
 ·have f:(k+(b.toArray.size:Int)).toNat=j:=by
   rw[seqIndex_neg (by omega) m] at c;rw[ao,<-e];exact bo c
  exact W.ki_setBack d (by omega) (by rw[ao,<-e];exact m) (by omega) (by rw[f];exact⟨_,x,q⟩)
def xX(a b:Option Int)(n:Nat):(sliceBounds a b Z n).1=((HT.iF n 0 a:Nat):Int)/\(sliceBounds a b Z n).2.1=((HT.iF n n b:Nat):Int)/\(sliceBounds a b Z n).2.2=1:=by
 refine⟨?_,?_,rfl⟩
 ·cases a with
  |none=>simp[sliceBounds,HT.iF]
  |some i=>
   simp only[sliceBounds,HT.iF,Option.getD_none,show (1:Int) > 0 by decide,df];by_cases h:i<0
   ·simp only[h,df]<;>omega
   ·simp only[h,dN]<;>omega
 ·cases b with
  |none=>simp[sliceBounds,HT.iF]
  |some i=>
   simp only[sliceBounds,HT.iF,Option.getD_none,show (1:Int) > 0 by decide,df];by_cases h:i<0
   ·simp only[h,df]<;>omega
   ·simp only[h,dN]<;>omega
def vQ(a:Lw)(b c:Option Int):slicePick a.toArray b c Z=((a.drop (HT.iF a.length 0 b)).take (HT.iF a.length a.length c - HT.iF a.length 0 b)).toArray:=by obtain⟨f,e,d⟩:=xX b c a.toArray.size;unfold slicePick;rw[f,e,d];simp only[sliceRange_one,pick_run,ao]<;>rfl
def Qi(K:Fg):V->Option Int->Option Int->Hp->VK->Prop:=λx c d H Q=>∃a b,x=.ref a/\jS K H a b/\∀p,H p=Z->Q (.ref p) (upd H p (.lst (zG b c d)))
def C8:C4 X (Qi X.K):=by intro g s σ H x v w u e f y Q I j t l k h;obtain⟨a,c,rfl,p,q⟩:=h;cases j;obtain⟨m,r,i,n⟩:=I.list p;have d:=r.length;refine⟨"list",_,slot_list_getitem.lookup,i.isList.typeIs,?_⟩;refine wpAny_getItem_list_slice i.isList t l k .none (by simp) ?_ (by rw[ao]<;>omega);rw[vQ,<-d];refine⟨.ref (zB s),_,I.laid (t':=s.toks) (o:=.lst (zG c e f)) (λb z q=>ah _ q) (ax _) ?_,rfl,q _ (I.gr.fresh (ax _))⟩;exact⟨bc (rX c e f) n,_,0,(r.drop (HT.iF c.length 0 e)).take (HT.iF c.length c.length f - HT.iF c.length 0 e),ar _ rfl⟩
def xY:gX X (.builtin "len") (λxs H Q=>∃p b,xs=[.ref p]/\(jS X.K H p b\/mV X.K H p b)/\Q (.int b.length) H):=by
 intro g s σ H xs k Q I r h;obtain⟨p,b,rfl,c,q⟩:=h;obtain⟨u,rfl,i⟩:=oR r;cases i;have l:=o6;rcases c with c|c
 ·obtain⟨f,d,e,j⟩:=I.list c;have a:=d.length;exact Calls.call_len_list e.isList (by simp only[ao]<;>omega) ⟨.int b.length,H,I.tok _,⟨s.toks+1,by rw[ao,a]⟩,q⟩
 ·obtain⟨f,d,e,j⟩:=I.tuple c;have a:=d.length;exact len_tuple e (by simp only[ao]<;>omega) ⟨.int b.length,H,I.tok _,⟨s.toks+1,by rw[ao,a]⟩,q⟩
def xZ:gX X (.builtin "len") (λxs H Q=>∃z,xs=[.str z]/\z.length<=sizeLine/\Q (.int z.length) H):=by intro a s σ H xs b Q I r h;obtain⟨z,rfl,c,q⟩:=h;obtain⟨u,rfl,t,rfl⟩:=oR r;have d:=o6;exact len_str (by omega) ⟨.int z.length,H,I.tok _,⟨_,rfl⟩,q⟩
def gX.or{f:Value}{r d:List V->Hp->VK->Prop}(h:gX X f r)(e:gX X f d):gX X f (λxs H Q=>r xs H Q\/d xs H Q):=by
 intro a s σ H xs b Q I c q;rcases q with q|q
 ·exact @h a s σ H xs b Q I c q
 ·exact @e a s σ H xs b Q I c q
def x2:gX X (.type "list") (λxs H Q=>∃p d,xs=[.ref p]/\(jS X.K H p d\/mV X.K H p d)/\∀l,H l=Z->Q (.ref l) (upd H l (.lst d))):=by
 intro i s σ H xs D Q I r h;obtain⟨p,d,rfl,m,q⟩:=h;obtain⟨u,rfl,C⟩:=oR r;cases C;have v:∀(a:Lw),eQ d a->d.length<=sizeLine->∀(c:Heap) (g:Nat),(∀b B,s.heap.get? b=Y B->c.get? b=Y B) ->
   c.get? (zB s)=Y { cls:=.type "list",dict:=Z,data:=.seq a.toArray g,slots:=#[] }->EP X i σ Q (.ref (zB s)) { s with heap:=c }:=λa f k c g j e=>
  ⟨.ref (zB s),_,I.laid (t':=s.toks) j (ax _) (show gC X.prog X.w _ c _ (.lst d) from ⟨k,a,g,f,e⟩),rfl,q _ (I.gr.fresh (ax _))⟩
 rcases m with m|m
 ·obtain⟨a,f,x,k⟩:=I.list m;have t:=f.length;obtain⟨o,y,A,n,z⟩:=x.isList;exact call_list_seq p (.inl rfl) y A z (λc g j e=>v a f k c g j e) (by simp only[ao]<;>omega)
 ·obtain⟨a,f,x,k⟩:=I.tuple m;have t:=f.length;obtain⟨o,y,A,n,z⟩:=x;exact call_list_seq p (.inr rfl) y A z (λc g j e=>v a f k c g j e) (by simp only[ao]<;>omega)
def Qj(K:Fg)(T:String)(x:V)(H:Hp):Prop:=match x with
 |.str _=>T="str"
 |.int _=>T="int"
 |.ref p=>(T="list"/\∃b,jS K H p b)\/(T="tuple"/\∃o,K.lookup p=Y o/\o.cls=.type "tuple"/\o.dict=Z) \/
   (T="dict"/\((∃a,H p=Y (.dK a))\/∃a,H p=Y (.dT a)))\/(T="set"/\∃S n,H p=Y (.set S n))
 |_=>False
def FT{s:Shared}{T:String}{x:V}{v:Value}(I:eE X pins σ H s)(r:eV x v)(f:Qj X.K T x H):
  s.TypeIs v T/\∀a,v=.ref a->∃l,s.heap.get? a=Y l/\l.dict=Z:=by
 cases x with
 |str z=>obtain⟨t,rfl⟩:=r;cases (show T="str" from f);exact⟨dA s z t,λ_ e=>nomatch e⟩
 |int i=>obtain⟨t,rfl⟩:=r;cases (show T="int" from f);exact⟨typeIs_int s i t,λ_ e=>nomatch e⟩
 |ref p=>
  cases r;rcases f with ⟨rfl,w,q⟩ | ⟨rfl,o,b,u,h⟩ | ⟨rfl,b⟩ | ⟨rfl,S,n,b⟩
  ·obtain⟨m,_,k,_⟩:=I.list q;refine⟨k.isList.typeIs,λa e=>?_⟩;cases e;obtain⟨o,n,e,c,h,_⟩:=k;exact⟨o,e,h⟩
  ·refine⟨⟨o,I.qP p o b,u⟩,λa e=>?_⟩;cases e;exact⟨o,I.qP _ o b,h⟩
  ·have z:∃o,s.heap.get? p=Y o/\o.ExactDict:=by
    rcases b with ⟨g,b⟩ | ⟨g,b⟩
    ·obtain⟨_,_,_,_,o,_,_,e,d,_⟩:=I.gr p _ b;exact⟨o,e,d⟩
    ·obtain⟨_,_,_,_,o,_,_,e,d,_⟩:=I.gr p _ b;exact⟨o,e,d⟩
   obtain⟨o,e,d⟩:=z;refine⟨⟨o,e,d.1⟩,λa j=>?_⟩;cases j;exact⟨o,e,d.2.1⟩
  ·obtain⟨o,_,_,_,e,d,_⟩:=I.gr p _ b;refine⟨⟨o,e,d.1⟩,λa j=>?_⟩;cases j;exact⟨o,e,d.2.1⟩
 |_=>exact False.elim f
def Qk(K:Fg)(T:String)(r:V->List V->Hp->VK->Prop)(b:TE):TE:=λσ H Q=>b σ H λx a=>Qj K T x a/\r x [] a Q
def Su(K:Fg)(T:String)(r:V->List V->Hp->VK->Prop)(c:TE)(t:TA):TE:=λσ H Q=>c σ H λx a=>Qj K T x a/\t σ a λb d=>r x b d Q
variable {es:Lx}{to:TE}{t:TA}{name:Str}{T id:String}{r:V->List V->Hp->VK->Prop}
def FU(l:PlainAttrs T) (d:Slot T name id) (e:typeOf (.builtin id)=pure (.type "method_descriptor")) (n:Jc X id r) (m:PE X o to)
  (c:attributeBase o name X.env (eval o X.env)=eval o X.env:=by rfl) (b:(apos.endLine==fh.line)=true:=by rfl):PE X (.Call (.Attribute o name apos) [] [] fh) (Qk X.K T r to):=by
 intro a s σ H Q I h;refine wpAny_Call_method0_late c b (gd (@m a s σ H _ I h) ?_);rintro v j ⟨x,t,g,f,i,k⟩;obtain⟨q,p⟩:=FT g f i;exact⟨T,id,l,d,e,q,p,b7 rfl (PySem.evalArgs_none (@n a j σ t x [] v [] Q g f .nil k))⟩
def rY(A:PlainAttrs T) (f:Slot T name id) (i:typeOf (.builtin id)=pure (.type "method_descriptor")) (D:Jc X id r) (C:PE X o to) (E:PA X (e::es) t)
  (d:attributeBase o name X.env (eval o X.env)=eval o X.env:=by rfl)
  (g:((backTo fh (starEach (e::es) X.env)).all (λx=>!x.1)&&(backToKw fh (keywordEach [] X.env)).all (λx=>x.1.isSome)
  &&decide ((e::es).length+([]:List Keyword).length+(if ([]:List Keyword).isEmpty then 0 else 1)<30))=true:=by rfl)
  (c:(apos.endLine==fh.line)=true:=by rfl) (B:zE e es X:=by rfl) (b:(backTo fh (starEach es X.env)).any (·.1)=false:=by rfl):
  PE X (.Call (.Attribute o name apos) (e::es) [] fh) (Su X.K T r to t):=by
 intro a s σ H Q I h;refine wpAny_Call_method_late d g c rfl (gd (@C a s σ H _ I h) ?_);rintro v u ⟨x,M,l,j,p,z⟩;obtain⟨G,F⟩:=FT l j p;refine⟨T,id,A,f,i,G,F,?_⟩;have k:=@E fh a u σ M _ l z;rw[B] at k ⊢;refine b7 (by show (false||(backTo fh (starEach es X.env)).any (·.1))=false;rw[b]<;>rfl) (cG ?_);exact gd k <| by rintro n q ⟨m,L,J,w,y⟩;exact @D a q σ L x m v n Q J j w y
end
def N2(X:Cx)(b:String)(r:V->List V->Hp->VK->Prop):Prop :=
 ∀(a:Ax) (s:Shared) (σ:St) (H:Hp) (x:V) (xs:List V) (v:Value) (us:Lw) (Q:VK),eE X a σ H s->eV x v->eQ xs us->r x xs H Q ->
  (zw X) (call (.builtin b) (v::us)) (EP X a σ Q) X.xe s
def eQ.one:∀{x:V}{a:Lw},eQ [x] a->∃u,a=[u]/\eV x u
 |_,_,.cons r .nil=>⟨_,rfl,r⟩
def eQ.zero:∀{a:Lw},eQ [] a->a=[]
 |_,.nil=>rfl
theorem eQ.dropLast{a:List V}{b:Lw}(h:eQ a b):eQ a.dropLast b.dropLast:=by
 induction h with
 |nil=>exact .nil
 |cons r t c=>
  cases t with
  |nil=>exact .nil
  |cons q d=>exact .cons r c
theorem eQ.eraseIdx:∀{a:List V}{b:Lw} (i:Nat),eQ a b->eQ (a.eraseIdx i) (b.eraseIdx i)
 |_,_,_,.nil=>.nil
 |_,_,0,.cons _ t=>t
 |_,_,i+1,.cons r t=>.cons r (eQ.eraseIdx i t)
def BN(l:List α):l.eraseIdx (l.length - 1)=l.dropLast:=by
 induction l with
 |nil=>rfl
 |cons a r c=>
  cases r with
  |nil=>rfl
  |cons b r=>
   have e:(a::b::r).length - 1=((b::r).length - 1)+1:=by have f:(a::b::r).length=r.length+2:=rfl;have d:(b::r).length=r.length+1:=rfl;omega
   rw[e,List.eraseIdx_cons_succ,c]
   all_goals rfl
theorem wV{α:Type}:∀(l:List α) (i:Nat),(l.eraseIdx i).length<=l.length
 |[],_=>ax _
 |_::_,0=>cR _
 |_::r,i+1=>Nat.succ_le_succ (wV r i)
section
variable {s:Shared}{l b:Addr}{xs ys zs:List V}
def eE.FV{a its':Lw}{f:Array Value->Array Value}{b:Nat} (I:eE X pins σ H s) (j:H l=Y (.lst xs))
  (e:s.heap.get? l=Y (zl a.toArray n)) (h:f a.toArray=its'.toArray) (d:eQ ys its') (c:ys.length<=sizeLine):
  eE X pins σ (upd H l (.lst ys)) { s with heap:=s.heap.update l (Obj.mapSeq f),toks:=b }:=by
 have q:=PySem.IsL.update e f;rw[h] at q;refine I.write (x:=l) (e:=l) (by rw[j];exact trivial) (.inl rfl) (λk u i g=>(bf s.heap (Obj.mapSeq f) (Ne.symm i)).trans g) ⟨_,q⟩ ?_;exact⟨c,its',_,d,q⟩
def eE.N3{a:Lw}{t':Nat}(I:eE X pins σ H s)(c:eQ ys a)(b:ys.length<=sizeLine):
  eE X pins σ (upd H (zB s) (.lst ys)) { s with heap:=s.heap.push { cls:=.type "list",data:=.seq a.toArray },toks:=t' } :=
 I.laid (λ_ _ q=>ah _ q) (ax _) ⟨b,a,0,c,ar _ rfl⟩
theorem eE.fresh(I:eE X pins σ H s):H (zB s)=Z:=I.gr.fresh (ax _)
def eE.Ed(I:eE X pins σ H s)(b:H l=Y (.lst xs)):xs.length<=sizeLine/\∃(a:Lw) (n:Nat),eQ xs a/\xs.length=a.length/\s.heap.get? l=Y (zl a.toArray n):=by obtain⟨z,a,n,r,e⟩:=I.gr l _ b;exact⟨z,a,n,r,r.length,e⟩
def zJ(h:n<=sizeLine):Builtin.List.listTooLong n=false:=by unfold Builtin.List.listTooLong;exact aV (by omega)
end
section
def Jd:V->List V->Hp->VK->Prop:=λx b H Q=>∃l a y,x=.ref l/\b=[y]/\H l=Y (.lst a)/\a.length<sizeLine/\Q .jj (upd H l (.lst (a++[y])))
theorem qS:N2 X "list.append" Jd:=by intro b s σ H x j v k Q I d f h;obtain⟨l,i,y,rfl,rfl,c,m,q⟩:=h;cases d;obtain⟨u,rfl,g⟩:=f.one;obtain⟨z,a,n,r,o,e⟩:=I.Ed c;refine cC F.slot_list_append ⟨_,e,rfl⟩ F.entry_list_append (F.args_list_append_2 _ _) (PySem.list_append l a.toArray n u (by rw[ao];omega)) ⟨e,?_⟩;refine⟨.jj,_,I.FV (its':=a++[u]) c e (by simp) (r.append (.cons g .nil)) ?_,rfl,q⟩;rw[a6,List.length_singleton];omega
def Je:V->List V->Hp->VK->Prop:=λx d H Q=>∃l b c a,x=.ref l/\d=[.ref b]/\H l=Y (.lst c)/\H b=Y (.lst a)/\c.length+a.length<=sizeLine/\Q .jj (upd H l (.lst (c++a)))
theorem Ee:N2 X "list.extend" Je:=by
 intro g s σ H x D v E Q I j k h;obtain⟨l,b,C,A,rfl,rfl,i,w,G,q⟩:=h;cases j;obtain⟨u,rfl,m⟩:=k.one;cases m;obtain⟨z,c,n,r,J,e⟩:=I.Ed i;obtain⟨B,a,p,o,t,y⟩:=I.Ed w;have f:c.toArray.size+a.toArray.size<=sizeLine:=by rw[ao,ao];omega
 have d:¬ (!c.toArray.isEmpty&&Builtin.List.listTooLong (c.toArray.size+a.toArray.size))=true:=by rw[zJ f,Bool.and_false];exact aQ
 refine cC F.slot_list_extend ⟨_,e,rfl⟩ F.entry_list_extend (F.args_list_extend_2 _ _)
  (AutoSeq1.list_extend_list_list_0 l c.toArray n b a.toArray p d (by rw[ao];omega) (by omega)) ⟨e,y,?_⟩
 refine⟨.jj,_,I.FV (its':=c++a) i e (by simp) (r.append o) ?_,rfl,q⟩;rw[a6];omega
def Ql:V->List V->Hp->VK->Prop:=λx b H Q=>∃l a y,x=.ref l/\b=[]/\H l=Y (.lst a)/\a[a.length - 1]?=Y y/\Q y (upd H l (.lst a.dropLast))
theorem FW:N2 X "list.pop" Ql:=by
 intro d s σ H x t v w Q I g i h;obtain⟨l,p,y,rfl,rfl,f,k,q⟩:=h;cases g;have c:=i.zero;subst c;obtain⟨z,a,n,r,o,e⟩:=I.Ed f;obtain⟨u,m,j⟩:=r.get k;have b:a.toArray[a.toArray.size - 1]?=Y u:=by show a.toArray[a.length - 1]?=Y u;rw[<-Array.getElem?_toList,<-o];exact m
 refine cC F.slot_list_pop ⟨_,e,rfl⟩ F.entry_list_pop (F.args_list_pop_1 _) (MeetsSeq.list_pop_last l a.toArray n u b (by rw[ao];omega)) ⟨e,?_⟩;refine⟨y,_,I.FV (its':=a.dropLast) f e ?_ r.dropLast ?_,j,q⟩
 ·show a.toArray.eraseIdxIfInBounds (a.toArray.size - 1)=a.dropLast.toArray;rw[ao,List.eraseIdxIfInBounds_toArray,BN]
 ·rw[List.length_dropLast];omega
def Mb:V->List V->Hp->VK->Prop:=λx b H Q=>∃l a i k y,x=.ref l/\b=[.int i]/\H l=Y (.lst a)/\-(2 ^ 63)<=i/\i<2 ^ 63/\seqIndex? i a.length=Y k/\a[k]?=Y y/\Q y (upd H l (.lst (a.eraseIdx k)))
theorem FX:N2 X "list.pop" Mb:=by
 intro c s σ H x D v E Q I g j h;obtain⟨l,f,i,k,y,rfl,rfl,d,C,B,A,o,q⟩:=h;cases g;obtain⟨u,rfl,m⟩:=j.one;obtain⟨t,rfl⟩:=m;obtain⟨z,a,n,r,p,e⟩:=I.Ed d;obtain⟨w,hw,b⟩:=r.get o;refine cC F.slot_list_pop ⟨_,e,rfl⟩ F.entry_list_pop (F.args_list_pop_2 _ _)
  (MeetsSeq.list_pop_at l a.toArray n i t k w (fitsIndex_both C B) (by rw[ao,<-p];exact A) (by rw[<-Array.getElem?_toList];exact hw) (by rw[ao];omega)) ⟨e,?_⟩
 refine⟨y,_,I.FV (its':=a.eraseIdx k) d e ?_ (r.eraseIdx k) ?_,b,q⟩
 ·show a.toArray.eraseIdxIfInBounds k=(a.eraseIdx k).toArray;rw[List.eraseIdxIfInBounds_toArray]
 ·have:=wV f k;omega
end
section
variable {s:Shared}
end
end L2
namespace Pe
open PySem PySem.W PySem.Calls PyProof.Rows
def sJ{P:Params}:∀(c:List Int) (vs:Lw),WellAll P h vs (c.map WData.int)->IntsAre vs c:=by
 intro c;induction c with
 |nil=>intro vs w;rw[List.map_nil] at w;cases w;exact .nil
 |cons n c d=>
  intro vs w;rw[az] at w;cases w with
  |cons a b=>cases a;exact .cons _ _ (d _ b)
def Ef{l:OpenLaw} (x:l.most=Y n) {P:Params}{b:List WData}{e:Lw}
  (f:l.row.toRowW.claim.pre b=true) (m:WellAll P h e b):
  ∃a p c,e=[Value.ref a]/\b=[WData.list (c.map WData.int)]/\h.get? a=Y { cls:=.type "list",data:=.seq p.toArray }/\IntsAre p c/\c.length<=n:=by
 have o:WShape.hasAll [] b [.list .int]=true:=(pre_splitW f).1;have s:l.pre.holds [] { args:=b }=true:=(pre_splitW f).2;obtain⟨d,r,rfl,A,z⟩:=hasAllW_cons o;obtain rfl:=hasAllW_nil z;obtain⟨B,rfl,y⟩:=hasW_list A;obtain⟨c,rfl⟩:=items_int y;have g:c.length<=n:=by
  unfold OpenLaw.pre at s;have k:(WTm.not (.lt (.lit (zi n)) (.len (.arg 0)))).holds [] { args:=[.list (c.map .int)] }=true:=by have k:=(holds_andW s).1;rw[x] at k;exact k
  have j:=condW_of k (w_not (w_lt w_lit (w_len_list (w_arg rfl))));rw[ay] at j;refine cy λq=>?_;have v:(n:Int)<((c.length:Nat):Int):=by omega
  first
   | (rw[aK v] at j;exact absurd j (by decide))
   | (simp at j;omega)
 cases m with
 |cons u t=>
  cases t;cases u with
  |list w i=>exact⟨_,_,c,rfl,rfl,w,sJ c _ i,g⟩
def Eg(l:OpenLaw)(a:List WData):l.row.toRowW.claim.post a (.bool true) a=true :=
 postW_of (r:=l.row.toRowW) (X:=(true==true))
  (show WShape.has [] (.bool true) .bool=true by first|rfl|decide|simp[WShape.has,WShape.arms,WShape.armsAll])
  (show (WTm.eq .res (.lit (.bool true))).value [] { args:=a,res:=Y (.bool true),after:=a }=Y (.bool (true==true)) from w_eq_bool (w_res rfl) w_lit) rfl
section
variable {s:Shared}{K:Frag}
end
end Pe
namespace L2
open PySem PySem.Spec PyProof.Rows
theorem qT:∀{a:Lw}{b:List Int},IntsAre a b->eQ (b.map V.int) a
 |_,_,.nil=>.nil
 |_,_,.cons n t h=>.cons ⟨t,rfl⟩ (qT h)
def N4(H:Hp):Prop:=∀b,H b=Z\/∃o a,H b=Y (.oz o (.lst a))
def FY{P:Program}{O:Str->Ow}{CX:FJ}{k:Nat}{U:Addr}{sp:Sp}{c:Shared}{l:Lw}{y:List Int}
  (KX:K.In c.heap) (D:c.heap.Ns mainGlobals mg) (g:c.heap.Ns builtinsNs O) (S:∀x:Str,x≠"__name__"->O x=bootBuiltins x) (E:c.heap.NoLimit) (hg:c.gens=#[])
  (M:c.heap.get? a=Y { cls:=.type "list",data:=.seq l.toArray }) (hi:IntsAre l y) (hl:y.length<=sizeLine) (hr:gG k callerA)
  (F:∀base:Heap,K.In base->base.Ns mainGlobals mg->jl P w K mg base CX k U fd [x] sp) (p:∀(s:Shared) (u:Value),BindsTo s fd ⟨[u],[]⟩ [(x,u)])
  (Q:∀H:Hp,N4 H->jS K H a (y.map V.int)->sp [.ref a] H (λv _=>v=.bl true) λ_ _ _=>False)
  (T:∀H e s',CX [] H c (λ_ _ _=>False) e s'->False):
  codeAny (model P w) callerA (.call (.ref U) ⟨[.ref a],[]⟩) (λr s'=>r=.ok (.ret (.bool true))/\OldK c.heap s'.heap/\s'.os=c.os/\AllBare s'.gens) c:=by
 have rv:=qT hi;have A:=hi.length;have j:∀H:Hp,N4 H->jS K H a (y.map V.int)->o3 P w H c.heap->(∀b,H b≠Z->b=a)->(H a≠Z->K.lookup a=Z) ->
   codeAny (model P w) callerA (.call (.ref U) ⟨[.ref a],[]⟩) (λr s'=>r=.ok (.ret (.bool true))/\OldK c.heap s'.heap/\s'.os=c.os/\AllBare s'.gens) c:=by
  intro H hO hS C hA hK;have f:∀{b:Addr}{o:Obj},c.heap.get? b=Y o->H b=Z->(xM c.heap H).get? b=Y o:=λe n=>Fq e n;have N:∀{b:Addr}{o:Obj}{I:Array DictEntry}{J:Nat},c.heap.get? b=Y o->o.data=.dict I J->H b=Z:=λ{b o I J} e d=>by
   cases q:H b with
   |none=>rfl
   |some u=>have W:b=a:=hA b (by rw[q];simp);subst W;rw[M] at e;cases e;have d':Data.seq l.toArray _=Data.dict I J:=d;cases d'
  have i:∀{b:Addr}{m:Str->Ow},c.heap.Ns b m->(xM c.heap H).Ns b m:=λ{b m} ⟨o,I,J,e,d,r⟩=>⟨o,I,J,f e (N e d),d,r⟩
  have G:K.In (xM c.heap H):=λb o e=>f (KX b o e) (by
   cases q:H b with
   |none=>rfl
   |some u=>have W:b=a:=hA b (by rw[q];simp);subst W;rw[hK (by rw[q];simp)] at e;cases e)
  have hM:Mod K mg (xM c.heap H):=⟨G,i D,⟨O,i g,S⟩,by obtain⟨mc,h1,h2⟩:=E;exact⟨mc,i h1,h2⟩⟩
  have e0:BJ P w K mg (xM c.heap H) callerA [] c H:=⟨rfl,hM,λb o e=>IH e,Nat.le_of_eq (DZ _ _),trivial,λb g=>absurd (show b∈([]:List Addr) from g) (by simp),C,.of_eq hg⟩
  refine cp ((F _ G (i D)).run callerA [] c H ⟨[.ref a],[]⟩ [.ref a] [.ref a] _ _ hr e0 (p c (.ref a)) (.cons rfl .nil) (Q H hO hS)) λr s' h=>?_;cases r with
  |error e=>exact(T H e s' h).elim
  |ok fl=>
   cases fl with
   |next=>exact False.elim h
   |brk=>exact False.elim h
   |cont=>exact False.elim h
   |ret u=>
    obtain⟨v,H',os,L,X,B,r',q⟩:=h;have q':v=.bl true:=q;subst q';obtain rfl:u=Value.bool true:=r';refine⟨rfl,OldK.of_keep λb o e=>?_,os,L⟩;cases q:H b with
    |none=>exact X.keep b o e q (by intro z;exact absurd (show b∈([]:List Addr) from z) (by simp)) (by simp)
    |some u=>
     rcases hO b with z | ⟨ob,xs,z⟩
     ·rw[q] at z;cases z
     ·have z2:=X.o4 b ob _ z;obtain⟨e1,_⟩:=C b _ z;obtain⟨e2,_⟩:=B b _ z2;rw[e] at e1;cases e1;exact e2
 cases R:K.lookup a with
 |some o=>have e:=KX a o R;rw[M] at e;cases e;refine j (λ_=>Z) (λ_=>.inl rfl) (.inr ⟨_,l.toArray,_,R,rfl,rfl,rfl,by rw[ao,A];exact hl,by simpa using rv⟩) (λb u z=>by have t:(Z:Option HO)=Y u:=z;cases t) (λb z=>absurd rfl z) λz=>absurd rfl z
 |none=>
  refine j (λb=>if b=a then Y (.oz { cls:=.type "list",data:=.seq l.toArray } (.lst (y.map V.int))) else Z) (λb=>?_) (.inl (.inr ⟨{ cls:=.type "list",data:=.seq l.toArray },af rfl⟩)) (λb u z=>?_) (λb z=>?_) λ_=>R
  ·by_cases g:b=a
   ·exact .inr ⟨_,_,af g⟩
   ·exact .inl (ag g)
  ·by_cases g:b=a
   ·have t:=(af g).symm.trans z;cases t;subst g;exact⟨M,by rw[ay];exact hl,l,_,rv,M⟩
   ·have t:=(ag g).symm.trans z;cases t
  ·by_cases g:b=a
   ·exact g
   ·exact absurd (ag g) z
noncomputable def kX(s:Stmt)(j:Nat):Stmt:=match s with
 |.ClassDef _ _ _ body _ _ _ _ _ _ _=>body.getD j (.Pass ⟨0,0,0,0⟩)
 |_=>.Pass ⟨0,0,0,0⟩
def kY(s:Stmt):Arguments:=match s with
 |.FunctionDef _ a _ _ _ _ _ _ _ _=>a
 |_=>{ posonlyargs:=[],args:=[],vararg:=Z,kwonlyargs:=[],kw_defaults:=[],kwarg:=Z,defaults:=[] }
def hP(s:Stmt):List Stmt:=match s with
 |.FunctionDef _ _ b _ _ _ _ _ _ _=>b
 |_=>[]
def eM(s:Stmt):Scope:=match s with
 |.FunctionDef _ _ _ _ _ _ sc _ _ _=>sc
 |_=>{ kind:=.function,names:=[],isGenerator:=false,isCoroutine:=false }
abbrev tK:FJ:=λ_ _ _ _ _ _=>False
abbrev E0:XK:=λ_ _ _=>False
def ni:mu tK X E0:=λ_ _ _ _ _ _ _ h=>h.elim
structure Eh (K:Fg) (x qual:Str) (st:Stmt) (f:Addr) (fd:FuncData):Prop where
 ex:∃(oc:Value) (od:Option Addr) (kV doc pm:Value) (an:Option Addr) (oA ct:Value) (Sv:Array Ow),
  fd=W.fnOf x qual (kY st) (hP st) (eM st) .none kV doc pm an oA ct/\K.lookup f=Y ⟨oc,od,.func fd,Sv⟩/\W.codeIn K oA qual=true
 kp:W.keepIn K (.ref f)=true
section
variable {P:Program}{base:Heap}
theorem Eh.ok{a:Str}{f:Addr}{N d:Lr}{k:Nat}{c:Sp} (F:Eh K x a st f fd) (S:hJ N d (eM st)) (e:∀vs H Q E,c vs H Q E->vs.length=d.length)
  (b:∀(oA:Value) (A:Around) (outer:List Env) (s:Shared) (H:Hp) (vs:List V) (Q:VK) (E:XK),gG k (A.deeper (envOfC a (eM st) (zB s) f oA))->c vs H Q E ->
   ∃t,tJ (sI tK P w K mg base N a (eM st) f oA A outer s H E).Iv (hP st) t/\t { nx:=λ_ H'=>Q .jj H',rt:=Q } (start N vs) H):jl P w K mg base tK (k+1) f fd d c:=by
 obtain⟨r,p,u,n,o,y,oA,v,j,rfl,l,i⟩:=F.ex;refine NU l i S e λA outer s H vs Q E m g=>?_;obtain⟨t,h,q⟩:=b oA A outer s H vs Q E m g;exact⟨t,h.Iv,q⟩
theorem Eh.binds{a:Str}{f:Addr}{b:Lr} (F:Eh K x a st f fd)
  (h:∀(kV doc pm:Value) (an:Option Addr) (oA ct:Value) (us:Lw),us.length=b.length->bindArgs (W.fnOf x a (kY st) (hP st) (eM st) .none kV doc pm an oA ct) ⟨us,[]⟩=pure (b.zip us)):jd K fd b []:=by
 obtain⟨g,e,kV,doc,pm,an,oA,ct,c,rfl,i,d⟩:=F.ex;exact .all (h kV doc pm an oA ct)
def BO{a:Str}{f:Addr}{n:Value}{m j:Option Addr}{e:Array Ow}{h d g b i:Value} (l:K.lookup f=Y ⟨n,m,.func (W.fnOf x a (kY st) (hP st) (eM st) .none h d g j b i),e⟩)
  (c:W.codeIn K b a=true) (k:W.keepIn K (.ref f)=true):Eh K x a st f (W.fnOf x a (kY st) (hP st) (eM st) .none h d g j b i):=⟨⟨n,m,h,d,g,j,b,i,e,rfl,l,c⟩,k⟩
end
section
def pv(i:Nat) (d:X.N[i]?=Y x:=by rfl) (b:D0 X.env.scope x:=by first|exact bW rfl|exact bz (bW rfl)|exact bz (bz rfl)) (c:zg x:=by decide)
  (a:(x==("__classdict__":Str))=false:=by decide):PE X (.Name x pos) (Nw i):=mq d b c a
end
def ez(H a:Hp):Prop:=∀b o,H b=Y o->a b=Y o
def ez.refl(H:Hp):ez H H:=λ_ _ h=>h
def ez.trans{e d:Hp}(a:ez H e)(b:ez e d):ez H d:=λc o h=>b c o (a c o h)
def ez.seq{c:Hp}{b:List V}(e:ez H c)(h:jS K H a b):jS K c a b:=by
 rcases h with (h | ⟨o,h⟩)|h
 ·exact .inl (.inl (e _ _ h))
 ·exact .inl (.inr ⟨o,e _ _ h⟩)
 ·exact .inr h
section
variable {κ:Type} [DecidableEq κ]
def ka(a:List (κ×V))(k:κ):Option V:=(a.find? λb=>decide (b.1=k)).map (·.2)
def putK(a:List (κ×V))(k:κ)(v:V):List (κ×V) :=
 if (a.any λb=>decide (b.1=k))=true then a.map (λb=>if b.1=k then (b.1,v) else b) else a++[(k,v)]
def pW{p:κ×V}{r:List (κ×V)}{k:κ}(e:p.1=k):ka (p::r) k=Y p.2:=by simp[ka,bK,e]
def nj{p:κ×V}{r:List (κ×V)}{k:κ}(e:¬ p.1=k):ka (p::r) k=ka r k:=by simp[ka,bK,e]
theorem zR(k:κ):∀a:List (κ×V),(a.any λb=>decide (b.1=k))=(ka a k).isSome
 |[]=>rfl
 |p::r=>by
  rw[bM];by_cases e:p.1=k
  ·simp only[pW e,aK e,Bool.true_or,Option.isSome_some]
  ·rw[nj e,aV e,Bool.false_or];exact zR k r
def nk(a:List (κ×V))(k:κ)(v:V):(putK a k v).length<=a.length+1:=by
 unfold putK;split
 ·rw[ay];omega
 ·rw[a6,aD,List.length_nil];omega
def mU.lG{o:Option V}{u:Ow}(r:mU o u):o.isSome=u.isSome:=by
 cases o with
 |none=>cases u with
  |none=>rfl
  |some _=>exact(show False from r).elim
 |some _=>cases u with
  |none=>exact(show False from r).elim
  |some _=>rfl
theorem mU.getD{o:Option V}{u:Ow}{d:V}{a:Value}(r:mU o u)(b:eV d a):eV (o.getD d) (u.getD a):=by
 cases o with
 |none=>cases u with
  |none=>exact b
  |some _=>exact(show False from r).elim
 |some _=>cases u with
  |none=>exact(show False from r).elim
  |some _=>exact r
def KV.val{a:List (κ×V)}{f:List (κ×Value)}(r:KV a f)(k:κ):mU (ka a k) (valueAt f k):=by
 unfold KV at r;induction r with
 |nil=>exact aN
 |@cons p q l c h t i=>
  obtain⟨g,j⟩:=h;by_cases e:p.1=k
  ·have d:q.1=k:=g.symm.trans e;have b:valueAt (q::c) k=Y q.2:=by simp[valueAt,bK,d]
   rw[pW e,b];exact j
  ·have d:¬ q.1=k:=λz=>e (g.trans z);have b:valueAt (q::c) k=valueAt c k:=by simp[valueAt,bK,d]
   rw[nj e,b];exact i
theorem KV.any{a:List (κ×V)}{vs:List (κ×Value)}(r:KV a vs)(k:κ):(a.any λb=>decide (b.1=k))=vs.any λb=>decide (b.1=k):=by
 unfold KV at r;induction r with
 |nil=>rfl
 |cons h t c=>rw[bM,bM,c,h.1]
def KV.BP{b:List (κ×V)}{d:List (κ×Value)}(r:KV b d)(k:κ){y:V}{u:Value}(f:eV y u):
  KV (b.map λa=>if a.1=k then (a.1,y) else a) (d.map λa=>if a.1=k then (a.1,u) else a):=by
 unfold KV at r ⊢;induction r with
 |nil=>exact .nil
 |@cons p q l j h t g=>
  rw[az,az];refine .cons ?_ g;obtain⟨c,i⟩:=h;by_cases e:p.1=k
  ·rw[af e,af (c.symm.trans e)];exact⟨c,f⟩
  ·rw[ag e,ag (λz=>e (c.trans z))];exact⟨c,i⟩
def KV.put{a:List (κ×V)}{b:List (κ×Value)}(r:KV a b)(k:κ){y:V}{u:Value}(c:eV y u):KV (putK a k y) (stored b k u):=by
 unfold putK stored;rw[r.any k];by_cases e:(b.any λd=>decide (d.1=k))=true
 ·rw[af e,af e];exact r.BP k c
 ·rw[ag e,ag e];exact Paired.snoc r ⟨rfl,c⟩
theorem KV.length{a:List (κ×V)}{vs:List (κ×Value)}(r:KV a vs):a.length=vs.length:=cE r
end
def mN{P:Program}{k:Key}{u:Value}(r:eV (kV k) u):(fj P w).is k u=true:=by
 cases k with
 |inl i=>obtain⟨t,e⟩:=(show ∃t,u=Value.int i t from r);subst e;exact zp P w i t
 |inr x=>obtain⟨t,e⟩:=(show ∃t,u=Value.str x t from r);subst e;exact nc P w x t
theorem wW{P:Program}{w:World}:∀{a:List Key}{b:Lw},eQ (a.map kV) b->ItemsAre (fj P w) a b
 |[],_,r=>by rw[List.map_nil] at r;cases r;exact .nil
 |k::a,_,r=>by
  rw[az] at r;cases r with
  |cons h t=>exact .cons (mN h) (wW t)
abbrev KT(H:Hp):List (List Key×V)->List (List Key×Addr×Value)->Prop:=Paired λp q=>p.1=q.1/\H q.2.1=Y (.tup (p.1.map kV))/\eV p.2 q.2.2
def KT.val{a:List (List Key×V)}(r:KT H a xs)(k:List Key):mU (ka a k) ((atKey xs k).map (·.2)):=by
 induction r with
 |nil=>exact aN
 |@cons p q j c h t g=>
  obtain⟨f,_,i⟩:=h;by_cases e:p.1=k
  ·have d:q.1=k:=f.symm.trans e;have b:atKey (q::c) k=Y q.2:=by simp[atKey,bK,d]
   rw[pW e,b];exact i
  ·have d:¬ q.1=k:=λz=>e (f.trans z);have b:atKey (q::c) k=atKey c k:=by simp[atKey,bK,d]
   rw[nj e,b];exact g
def KT.BP{a:List (List Key×V)}(r:KT H a xs)(k:List Key){y:V}{u:Value}(f:eV y u):
  KT H (a.map λc=>if c.1=k then (c.1,y) else c) (xs.map (putAt k u)):=by
 induction r with
 |nil=>exact .nil
 |@cons p q l j h t g=>
  rw[az,az];refine .cons ?_ g;obtain⟨b,d,i⟩:=h;unfold putAt;by_cases e:p.1=k
  ·rw[af e,af (b.symm.trans e)];exact⟨b,d,f⟩
  ·rw[ag e,ag (λz=>e (b.trans z))];exact⟨b,d,i⟩
def KT.put{a:List (List Key×V)}(r:KT H a xs)(k:List Key){b:Addr}{y:V}{u:Value}(f:H b=Y (.tup (k.map kV)))(c:eV y u):
  KT H (putK a k y) (storedH xs k b u):=by
 have e:(a.any λd=>decide (d.1=k))=(atKey xs k).isSome:=by rw[zR,(r.val k).lG,cY]
 unfold putK storedH;rw[e];by_cases q:(atKey xs k).isSome=true
 ·rw[af q,af q];exact r.BP k c
 ·rw[ag q,ag q];exact Paired.snoc r ⟨rfl,f,c⟩
def KT.keeps{c:Hp}{a:List (List Key×V)}(r:KT H a xs)(d:∀b ys,H b=Y (.tup ys)->c b=Y (.tup ys)):KT c a xs :=
 Paired.LD r λ_ _ z=>⟨z.1,d _ _ z.2.1,z.2.2⟩
section
variable {P:Program}
def K0{u:HO}(b:o3 P w H h)(e:Rd H a u):gC P w H h a u:=e.ok b
def nq{b:List (Key×V)}(d:o3 P w H h)(e:Rd H a (.dK b)):b.length<=sizeLine/\(a==sysModules)=false/\∃c,KV b c/\h.DictOf (fj P w) a c :=
 show gC P w H h a (.dK b) from K0 d e
def kZ{b:List (Key×V)}(d:o3 P w H h)(e:H a=Y (.dK b)):b.length<=sizeLine/\(a==sysModules)=false/\∃c,KV b c/\h.DictOf (fj P w) a c:=nq d (.inl e)
def o8{b:List Key}(d:o3 P w H h)(e:H a=Y (.tup (b.map kV))):(tupleKind (fj P w)).is h b a:=by
 obtain⟨_,c,r,o,i,g,n,f⟩:=(show gC P w H h a (.tup (b.map kV)) from d a _ e)
 exact⟨o,c.toArray,n,i,g,f,by simpa using wW r⟩
def rZ{b:List (List Key×V)}(g:o3 P w H h)(e:Rd H a (.dT b)):b.length<=sizeLine/\(a==sysModules)=false /\
  ∃d,KT H b d/\h.DictOfH (tupleKind (fj P w)) a d:=by
 obtain⟨z,y,d,r,o,A,B,v,u,s,n,k⟩:=(show gC P w H h a (.dT b) from K0 g e)
 refine⟨z,y,d,r,o,A,B,v,u,s,n,λx c=>?_,k⟩;have f:∀{l:List (List Key×V)}{m:List (List Key×Addr×Value)},KT H l m->∀x∈m,(tupleKind (fj P w)).is h x.1 x.2.1:=by
  intro l m q;induction q with
  |nil=>intro x c;exact nomatch c
  |@cons p q D C i t j=>
   intro x c;rcases ak.mp c with e|c
   ·subst e;exact o8 g (by rw[<-i.1];exact i.2.1)
   ·exact j x c
 exact f r x c
def N5{b:List (List Key×V)}(d:o3 P w H h)(e:H a=Y (.dT b)):b.length<=sizeLine/\(a==sysModules)=false /\
  ∃c,KT H b c/\h.DictOfH (tupleKind (fj P w)) a c:=rZ d (.inl e)
end
def lq(H:Hp)(a:Addr)(y:V)(r:Option V):Prop :=
 (∃c k,Rd H a (.dK c)/\y=kV k/\r=ka c k)\/∃c k b,Rd H a (.dT c)/\y=.ref b/\H b=Y (.tup (k.map kV))/\r=ka c k
def Jf(H:Hp)(a:Addr)(y v:V)(d:Hp):Prop :=
 (∃c k,H a=Y (.dK c)/\y=kV k/\c.length<sizeLine/\d=upd H a (.dK (putK c k v))) \/
 ∃c k b,H a=Y (.dT c)/\y=.ref b/\H b=Y (.tup (k.map kV))/\c.length<sizeLine/\d=upd H a (.dT (putK c k v))
theorem lq.k{H:Hp}{a:Addr}{b:List (Key×V)}{k:Key}(e:H a=Y (.dK b)):lq H a (kV k) (ka b k):=.inl ⟨b,k,.inl e,rfl,rfl⟩
theorem Jf.k{H:Hp}{a:Addr}{b:List (Key×V)}{k:Key}{v:V}(e:H a=Y (.dK b))(c:b.length<sizeLine):Jf H a (kV k) v (upd H a (.dK (putK b k v))):=.inl ⟨b,k,e,rfl,c,rfl⟩
section
variable {s:Shared}{y:V}{u r:Value}{o:Option V}
def eE.big(I:eE X pins σ H s):sysModules<(zB s):=by have h:mainGlobals<(zB s):=(I.mod.glob.keeps I.bk).lt;exact cZ (by decide) h
def Ei{Q:Px}(t:A.units+1<cLine)(I:eE X pins σ H s)(g:lq H a y (Y v))(n:eV y u)(h:∀w' s',eE X pins σ H s'->eV v w'->Q w' s'):
  wpAny (model X.prog X.w) A (getItem (.ref a) u) Q E s:=by
 rcases g with ⟨f,k,e,j,l⟩ | ⟨f,k,b,e,j,C,l⟩
 ·subst j;obtain⟨z,B,r,d,m⟩:=nq I.gr e;obtain⟨w',hw,c⟩:=mU.some_of (v:=v) (o:=valueAt r k) (by rw[l];exact d.val k);exact wpAny_getItem_of (mN n) m.mapOf hw (h w' _ (I.tok _) c)
 ·subst j;cases (show u=Value.ref b from n);obtain⟨z,B,q,d,m⟩:=rZ I.gr e;obtain⟨w',hw,c⟩:=mU.some_of (v:=v) (o:=(atKey q k).map (·.2)) (by rw[l];exact d.val k);obtain⟨p,x,i⟩:=ab.mp hw;refine wpAny_getItem_heap (cb t) (o8 I.gr C) m x ?_;rw[i];exact h w' _ (I.tok _) c
def Qm{Q:Px}(n:A.units+1<cLine)(I:eE X pins σ H s)(g:lq H a y o)(m:eV y u)(h:∀s',eE X pins σ H s'->Q (.bool o.isSome) s'):
  wpAny (model X.prog X.w) A (compareOp .In u (.ref a)) Q E s:=by
 rcases g with ⟨d,k,e,i,l⟩ | ⟨d,k,b,e,i,p,l⟩
 ·subst i;obtain⟨z,f,t,c,j⟩:=nq I.gr e;refine wpAny_in_of (mN m) f j.mapOf ?_;rw[<-(c.val k).lG,<-l];exact h _ (I.tok _)
 ·subst i;cases (show u=Value.ref b from m);obtain⟨z,f,r,c,j⟩:=rZ I.gr e;refine wpAny_in_heap (cb n) (o8 I.gr p) f j ?_;have q:=(c.val k).lG;rw[cY] at q;rw[<-q,<-l];exact h _ (I.tok _)
def Jg{Q:Px}(n:A.units+1<cLine)(I:eE X pins σ H s)(g:lq H a y o)(m:eV y u)(h:∀s',eE X pins σ H s'->Q (.bool (!o.isSome)) s'):
  wpAny (model X.prog X.w) A (compareOp .NotIn u (.ref a)) Q E s:=by
 rcases g with ⟨d,k,e,i,l⟩ | ⟨d,k,b,e,i,p,l⟩
 ·subst i;obtain⟨z,f,t,c,j⟩:=nq I.gr e;refine wpAny_notIn_of (mN m) f j.mapOf ?_;rw[<-(c.val k).lG,<-l];exact h _ (I.tok _)
 ·subst i;cases (show u=Value.ref b from m);obtain⟨z,f,r,c,j⟩:=rZ I.gr e;refine wpAny_notIn_heap (cb n) (o8 I.gr p) f j ?_;have q:=(c.val k).lG;rw[cY] at q;rw[<-q,<-l];exact h _ (I.tok _)
def C9{c:Heap}{g:Nat}{d:HO}(I:eE X pins σ H s)(h:Nq (H a))(i:Heap.SameBut a s.heap c)(j:∃q,c.get? a=Y q)(f:gC X.prog X.w (upd H a d) c a d):
  eE X pins σ (upd H a d) { s with heap:=c,toks:=g } :=
 I.write (x:=a) (e:=a) h (.inl rfl) (λb q k z=>(i.2 b k).trans z) j f
def FZ{P:Program}{h:Hp}{e:Heap}{b:List (Key×V)}{c:List (Key×Value)}(z:b.length<=sizeLine)(f:(a==sysModules)=false)(d:KV b c)(g:e.DictOf (fj P w) a c):
  gC P w h e a (.dK b):=⟨z,f,c,d,g⟩
theorem Ej{K:Hp}{Q:Unit->Shared->Prop}(N:A.units+1<cLine)(I:eE X pins σ H s)(g:Jf H a y v K)(C:eV y u)(D:eV v r)(h:∀s',eE X pins σ K s'->Q () s'):
  wpAny (model X.prog X.w) A (setItem (.ref a) u r) Q E s:=by
 rcases g with ⟨f,k,e,t,l,x⟩ | ⟨f,k,b,e,t,J,l,x⟩
 ·subst t x;obtain⟨z,p,M,d,B⟩:=kZ I.gr e;have m:M.length<=sizeLine:=by rw[<-d.length];exact z
  have o:(putK f k v).length<=sizeLine:=by have:=nk f k v;omega
  refine wpAny_setItem_pairs (hsz:=m) (mN C) B λF i n=>h _ ?_;have O:∃q,F.get? a=Y q:=by obtain⟨q,_,_,j,_⟩:=i;exact⟨q,j⟩
  exact C9 I (by rw[e];exact aN) n O (FZ o p (d.put k D) i)
 ·subst t x;cases (show u=Value.ref b from C);obtain⟨z,p,L,d,B⟩:=N5 I.gr e;have m:L.length<=sizeLine:=by rw[<-cE d];exact z
  have o:(putK f k v).length<=sizeLine:=by have:=nk f k v;omega
  refine wpAny_setItem_heap (hsz:=m) (cb N) (o8 I.gr J) B λF i n=>h _ ?_;obtain⟨q,U,V,j,T,S,R,_,P⟩:=i;refine C9 I (by rw[e];exact aN) n ⟨q,j⟩ ⟨o,p,_,(d.put k J D).keeps λc W G=>?_,q,U,V,j,T,S,R,P⟩;rw[en (Np G e (λz=>nomatch z))];exact G
end
section
variable {s:Shared}{fX:List (Key×V)}{k:Key}{u:Value}
def N6{Q:Px}(I:eE X pins σ H s)(e:Rd H a (.dK fX))(h:∀t s',eE X pins σ H s'->Q (.int fX.length t) s'):wpAny (model X.prog X.w) A (call (.builtin "len") [.ref a]) Q E s:=by obtain⟨z,c,f,b,d⟩:=nq I.gr e;refine call_len_dict c d (by rw[<-b.length];rw[sizeLine_eq] at z;omega) ?_;rw[<-b.length];exact h _ _ (I.tok _)
end
def zT(i:Expr):Prop:=∀a b,subscripted i false a b=operate [a,b] (getItem a b)
def Dc{s:Shared}{f:Env}{b a:Expr}{T l:String}{Q:Px}
  (n:typeLookup (.type T) "__getitem__"=pure (Y (.builtin l))) (m:zT a)
  (h:wpAny (model prog w) A (eval b f) (λo s₁=>wpAny (model prog w) A (eval a f) (λi s₂=>s₂.TypeIs o T/\wpAny (model prog w) A (getItem o i) Q E s₂) E s₁) E s):
  wpAny (model prog w) A (eval (.Subscript b a pos) f) Q E s:=by
 refine Subscript_ (bO h (λo s₁ j=>bO j (λi s₂ c=>?_) λ_ _ x=>x) λ_ _ x=>x);obtain⟨k,c⟩:=c;unfold subscriptTail;refine aa ?_;rw[getitemInPython_of_ne k.not_modules];refine aa (cj k n ?_);have e:wpAny (model prog w) A (subscripted a false o i) (λr d=>wpAny (model prog w) A (letTemporaryGo b o r>>=λ_=>pure r) Q E d) E s₂:=by rw[m o i];exact wpAny_operating (bO c (λr d g=>aa (wpAny_letTemporaryGo (ae g))) λ_ _ x=>x)
 first
  |exact ae (aa e)
  |exact aa (ae (aa e))
  |exact aa e
def zU{s:Shared}{y:V}{o:Option V}(I:eE X pins σ H s)(g:lq H a y o):s.TypeIs (.ref a) "dict":=by
 rcases g with ⟨c,k,e,_,_⟩ | ⟨c,k,b,e,_,_,_⟩
 ·obtain⟨_,_,h,_,d⟩:=nq I.gr e;exact d.typeIs
 ·obtain⟨_,_,f,_,d⟩:=rZ I.gr e;exact d.typeIs
def N7(d c:TE):TE:=λσ H Q=>d σ H λx e=>c σ e λy b=>∃a v,x=.ref a/\lq b a y (Y v)/\Q v b
section
variable {i value:Expr}{pos' Qd:Pos}{td ty tv:TE}
def x3(m:X.A.units+1<cLine)(p:PE X o td)(q:PE X i ty)(n:zT i):PE X (.Subscript o i pos) (N7 td ty):=by intro b s σ H Q I h;refine Dc PySem.F.slot_dict_getitem.lookup n (gd (@p b s σ H _ I h) ?_);rintro u e ⟨x,B,w,j,l⟩;refine gd (@q b e σ B _ w l) ?_;rintro G E ⟨y,z,d,f,a,v,r,g,k⟩;subst r;obtain rfl:u=Value.ref a:=j;exact⟨zU d g,Ei m d g f λC D t c=>⟨v,z,t,c,k⟩⟩
end
def F0{P:Program}(h:Heap)(a:sysModules<h.objs.size):gC P w H (h.push { cls:=.type "dict",data:=.dict #[] }) h.objs.size (.dK []) :=
 ⟨bL _,a7.mpr (Ne.symm (aE a)),[],.nil,Heap.DictOf.new h⟩
def Mc:TE:=λ_ H Q=>∀p,H p=Z->Q (.ref p) (upd H p (.dK []))
section
def zV:PE X (.Dict [] [] pos) Mc:=λb s σ H Q I h=>
 wpAny_Dict_empty ⟨.ref (zB s),_,I.laid (a:=(zB s)) (o:=.dK []) (t':=s.toks) (λ_ _ q=>ah _ q) (ax _) (F0 s.heap I.big),rfl,h _ (I.gr.fresh (ax _))⟩
end
structure M1 (X:Cx) (o:Expr) (m:Str) (apos:Pos) (e:Expr) (fh:Pos):Prop where
 base:attributeBase o m X.env (eval o X.env)=eval o X.env
 Pf:((backTo fh (starEach [e] X.env)).all (λx=>!x.1)&&(backToKw fh (keywordEach [] X.env)).all (λx=>x.1.isSome)
 &&decide (([e]:Lx).length+([]:List Keyword).length+(if ([]:List Keyword).isEmpty then 0 else 1)<30))=true
 line:(apos.endLine==fh.line)=true
 trees:backTo fh (starEach [e] X.env)=[(false,eval e X.env)]
structure M2 (X:Cx) (o:Expr) (m:Str) (apos:Pos) (e f:Expr) (fh:Pos):Prop where
 base:attributeBase o m X.env (eval o X.env)=eval o X.env
 Pf:((backTo fh (starEach [e,f] X.env)).all (λx=>!x.1)&&(backToKw fh (keywordEach [] X.env)).all (λx=>x.1.isSome)
 &&decide (([e,f]:Lx).length+([]:List Keyword).length+(if ([]:List Keyword).isEmpty then 0 else 1)<30))=true
 line:(apos.endLine==fh.line)=true
 trees:backTo fh (starEach [e,f] X.env)=[(false,eval e X.env),(false,eval f X.env)]
def F1(H:Hp)(a:Addr):Prop:=(∃b,Rd H a (.dK b))\/∃b,Rd H a (.dT b)
def zW{s:Shared}(I:eE X pins σ H s)(d:F1 H a):
  s.TypeIs (.ref a) "dict"/\(∀b,Value.ref a=.ref b->∃c,s.heap.get? b=Y c/\c.dict=Z)/\(a==sysModules)=false:=by
 rcases d with ⟨g,e⟩ | ⟨g,e⟩
 ·obtain⟨_,h,l,_,f⟩:=nq I.gr e;refine⟨f.typeIs,λb q=>?_,h⟩;cases q;obtain⟨c,_,_,j,i,_⟩:=f;exact⟨c,j,i.2.1⟩
 ·obtain⟨_,h,k,_,f⟩:=rZ I.gr e;refine⟨f.typeIs,λb q=>?_,h⟩;cases q;obtain⟨c,_,_,j,i,_⟩:=f;exact⟨c,j,i.2.1⟩
section
variable {s:Shared}{y d:V}{u r:Value}{o:Option V}
def Me{Q:Px}(p:A.units+1<cLine)(I:eE X pins σ H s)(g:lq H a y o)(m:eV y u)(h:∀w' s',eE X pins σ H s'->eV (o.getD .jj) w'->Q w' s'):
  wpAny (model X.prog X.w) A (call (.builtin "dict.get") [.ref a,u]) Q E s:=by
 rcases g with ⟨f,k,e,j,l⟩ | ⟨f,k,b,e,j,q,l⟩
 ·subst j;obtain⟨z,i,r,c,d⟩:=nq I.gr e;refine dy bA d.typeIs b8 (cT _ _) (meets_dict_get (fj X.prog X.w) a (mN m) i) ⟨_,d.mapOf,h _ _ (I.tok _) ?_⟩;rw[l];exact(c.val k).getD rfl
 ·subst j;cases (show u=Value.ref b from m);obtain⟨z,i,n,c,d⟩:=rZ I.gr e;refine dy bA d.typeIs b8 (cT _ _) (meetsH_dict_get (tupleKind (fj X.prog X.w)) a b i) ⟨cb p,k,n,o8 I.gr q,d,h _ _ (I.tok _) ?_⟩;rw[l];exact(c.val k).getD rfl
def Mf{Q:Px}(t:A.units+1<cLine)(I:eE X pins σ H s)(g:lq H a y o)(n:eV y u)(p:eV d r)(h:∀w' s',eE X pins σ H s'->eV (o.getD d) w'->Q w' s'):
  wpAny (model X.prog X.w) A (call (.builtin "dict.get") [.ref a,u,r]) Q E s:=by
 rcases g with ⟨i,k,e,m,l⟩ | ⟨i,k,b,e,m,v,l⟩
 ·subst m;obtain⟨z,j,x,c,f⟩:=nq I.gr e;refine dy bA f.typeIs b8 (PySem.F.args_dict_get_3 _ _ _) (meets_dict_get_default (fj X.prog X.w) a (mN n) j r) ⟨_,f.mapOf,h _ _ (I.tok _) ?_⟩;rw[l];exact(c.val k).getD p
 ·subst m;cases (show u=Value.ref b from n);obtain⟨z,j,q,c,f⟩:=rZ I.gr e;refine dy bA f.typeIs b8 (PySem.F.args_dict_get_3 _ _ _) (meetsH_dict_get_default (tupleKind (fj X.prog X.w)) a b j r) ⟨cb t,k,q,o8 I.gr v,f,h _ _ (I.tok _) ?_⟩;rw[l];exact(c.val k).getD p
end
def Mg(e d:TE):TE:=λσ H Q=>e σ H λx c=>∃a,x=.ref a/\F1 c a/\d σ c λy b=>∃o,lq b a y o/\Q (o.getD .jj) b
def Mh(f d e:TE):TE:=λσ H Q=>f σ H λx c=>∃a,x=.ref a/\F1 c a/\d σ c λy g=>e σ g λz b=>∃o,lq b a y o/\Q (o.getD z) b
section
variable {f:Expr}{td ty tx:TE}
def F2(r:X.A.units+1<cLine)(t:PE X o td)(v:PE X e ty)(m:M1 X o "get" apos e fh):PE X (.Call (.Attribute o "get" apos) [e] [] fh) (Mg td ty):=by intro b s σ H Q I h;refine dF m.base m.Pf m.line cU bA c8 (gd (@t b s σ H _ I h) ?_);rintro u k ⟨x,D,f,n,a,w,d,q⟩;subst w;obtain rfl:u=Value.ref a:=n;obtain⟨j,i,_⟩:=zW f d;refine⟨j,i,?_⟩;rw[m.trees];refine b7 rfl (cG (aT (gd (@v b k σ D _ f q) ?_)));rintro K G ⟨y,C,B,l,J,g,p⟩;refine aZ ?_;exact Me r B g l λE F z c=>⟨_,C,z,c,p⟩
def F3(B:X.A.units+1<cLine)(C:PE X o td)(E:PE X e ty)(D:PE X f tx)(m:M2 X o "get" apos e f fh):PE X (.Call (.Attribute o "get" apos) [e,f] [] fh) (Mh td ty tx):=by
 intro b s σ H Q I h;refine dF m.base m.Pf m.line cU bA c8 (gd (@C b s σ H _ I h) ?_);rintro u n ⟨x,N,i,r,a,F,d,w⟩;subst F;obtain rfl:u=Value.ref a:=r;obtain⟨k,j,_⟩:=zW i d;refine⟨k,j,?_⟩;rw[m.trees];refine b7 rfl (cG (aT (gd (@E b n σ N _ i w) λT l ⟨y,M,K,q,v⟩=>
  aT (gd (@D b l σ M _ K v) λU R ⟨z,L,J,p,S,g,t⟩=>aZ ?_))))
 exact Mf B J g q p λO P G c=>⟨_,L,G,c,t⟩
end
section
variable {s:Shared}{fX:List (Key×V)}
end
section
variable {s:Shared}{y:V}{u:Value}
end
section
def Ek:gX X (.builtin "len") (λxs H Q=>∃a b,xs=[V.ref a]/\Rd H a (.dK b)/\Q (.int b.length) H):=by intro c s σ H xs g Q I r h;obtain⟨a,b,rfl,e,q⟩:=h;obtain⟨u,rfl,d⟩:=oR r;cases d;exact N6 I e λt i f=>⟨.int b.length,H,f,⟨t,rfl⟩,q⟩
end
section
variable {κ:Type} [DecidableEq κ]
end
noncomputable def gW:Key->d8
 |.inl i=>.int i
 |.inr x=>.str x
def F4{a b:Key}(h:gW a=gW b):a=b:=by cases a<;>cases b<;>simp[gW] at h<;>rw[h]
def iO(K:Fg)(c:Str)(C:Addr):Prop:=W.nsIn K mainGlobals c=Y (Y (.ref C))
def iO.uniq{c:Str}{C b:Addr}(h:iO K c C)(a:iO K c b):C=b:=by unfold iO at h a;rw[h] at a;cases a;rfl
mutual
def et (K:Fg) (H:Hp):d8->V->Prop
  |.none,v=>v=.jj
  |.bool b,v=>v=.bl b
  |.int i,v=>v=.int i
  |.str x,v=>v=.str x
  |.list xs,v=>∃p vs,v=.ref p/\jS K H p vs/\dv K H xs vs
  |.tuple xs,v=>∃p vs,v=.ref p/\mV K H p vs/\dv K H xs vs
  |.dict fX,v=>∃p,v=.ref p/\((∃kv,Rd H p (.dK kv)/\fq K H fX kv)\/∃c C dx fs,iO K c C/\H p=Y (.ins C dx fs)/\lH K H c fX fs)
def dv (K:Fg) (H:Hp):Lp->List V->Prop
  |[],vs=>vs=[]
  |d::ds,vs=>∃v r,vs=v::r/\et K H d v/\dv K H ds r
def fq (K:Fg) (H:Hp):List (d8×d8)->List (Key×V)->Prop
  |[],kv=>kv=[]
  | (k,d)::r,kv=>∃y v r',kv=(y,v)::r'/\k=gW y/\et K H d v/\fq K H r r'
def lH (K:Fg) (H:Hp) (c:Str):List (d8×d8)->List (Str×V)->Prop
  |[],_=>False
  | (k,d)::r,fs=>k=.none/\d=.str c/\iG K H r fs
def iG (K:Fg) (H:Hp):List (d8×d8)->List (Str×V)->Prop
  |[],fs=>fs=[]
  | (k,d)::r,fs=>∃y v r',fs=(y,v)::r'/\k=.str y/\et K H d v/\iG K H r r'
end
def ez.rd{b:Hp}{u:HO}(e:ez H b)(h:Rd H a u):Rd b a u:=h.imp (e _ _) λ⟨o,z⟩=>⟨o,e _ _ z⟩
def ez.oB{c:Hp}{b:List V}(e:ez H c)(h:mV K H a b):mV K c a b:=by
 rcases h with (h | ⟨o,h⟩)|h
 ·exact .inl (.inl (e _ _ h))
 ·exact .inl (.inr ⟨o,e _ _ h⟩)
 ·exact .inr h
structure vR (K:Fg) (H H':Hp):Prop where
 seq:∀{a xs},jS K H a xs->jS K H' a xs
 oB:∀{a xs},mV K H a xs->mV K H' a xs
 rd:∀{a kv},Rd H a (.dK kv)->Rd H' a (.dK kv)
 ins:∀{a C dx fs},H a=Y (.ins C dx fs)->H' a=Y (.ins C dx fs)
def ez.sim{a:Hp}(e:ez H a):vR K H a:=⟨e.seq,e.oB,e.rd,e _ _⟩
mutual
theorem et.sim {K:Fg}{H H':Hp} (e:vR K H H'):∀{d:d8}{v:V},et K H d v->et K H' d v
  |.none,_,h=>by unfold et at h ⊢;exact h
  |.bool _,_,h=>by unfold et at h ⊢;exact h
  |.int _,_,h=>by unfold et at h ⊢;exact h
  |.str _,_,h=>by unfold et at h ⊢;exact h
  |.list _,_,h=>by
    unfold et at h ⊢
    obtain⟨p,vs,e1,e2,e3⟩:=h
    exact⟨p,vs,e1,e.seq e2,dv.sim e e3⟩
  |.tuple _,_,h=>by
    unfold et at h ⊢
    obtain⟨p,vs,e1,e2,e3⟩:=h
    exact⟨p,vs,e1,e.oB e2,dv.sim e e3⟩
  |.dict _,_,h=>by
    unfold et at h ⊢
    obtain⟨p,e1,⟨kv,e2,e3⟩ | ⟨c,C,dx,fs,e2,e3,e4⟩⟩:=h
    · exact⟨p,e1,.inl ⟨kv,e.rd e2,fq.sim e e3⟩⟩
    · exact⟨p,e1,.inr ⟨c,C,dx,fs,e2,e.ins e3,lH.sim e e4⟩⟩
theorem dv.sim {K:Fg}{H H':Hp} (e:vR K H H'):∀{ds:Lp}{vs:List V},dv K H ds vs->dv K H' ds vs
  |[],_,h=>by unfold dv at h ⊢;exact h
  |_::_,_,h=>by
    unfold dv at h ⊢
    obtain⟨v,r,e1,e2,e3⟩:=h
    exact⟨v,r,e1,et.sim e e2,dv.sim e e3⟩
theorem fq.sim {K:Fg}{H H':Hp} (e:vR K H H'):∀{ds:List (d8×d8)}{kv:List (Key×V)},fq K H ds kv->fq K H' ds kv
  |[],_,h=>by unfold fq at h ⊢;exact h
  | (_,_)::_,_,h=>by
    unfold fq at h ⊢
    obtain⟨y,v,r,e1,e2,e3,e4⟩:=h
    exact⟨y,v,r,e1,e2,et.sim e e3,fq.sim e e4⟩
theorem lH.sim {K:Fg}{H H':Hp}{c:Str} (e:vR K H H'):∀{ds:List (d8×d8)}{fs:List (Str×V)},lH K H c ds fs->lH K H' c ds fs
  |[],_,h=>by unfold lH at h ⊢;exact h
  | (_,_)::_,_,h=>by
    unfold lH at h ⊢
    exact⟨h.1,h.2.1,iG.sim e h.2.2⟩
theorem iG.sim {K:Fg}{H H':Hp} (e:vR K H H'):∀{ds:List (d8×d8)}{fs:List (Str×V)},iG K H ds fs->iG K H' ds fs
  |[],_,h=>by unfold iG at h ⊢;exact h
  | (_,_)::_,_,h=>by
    unfold iG at h ⊢
    obtain⟨y,v,r,e1,e2,e3,e4⟩:=h
    exact⟨y,v,r,e1,e2,et.sim e e3,iG.sim e e4⟩
end
section
variable {H':Hp}
def et.same(e:ez H H'){d:d8}(h:et K H d v):et K H' d v:=h.sim e.sim
def dv.same(e:ez H H')(h:dv K H ds vs):dv K H' ds vs:=h.sim e.sim
def fq.same(e:ez H H'){ds:List (d8×d8)}(h:fq K H ds kv):fq K H' ds kv:=h.sim e.sim
end
section
def et.gf:et K H .none v↔v=.jj:=by unfold et;exact cv
def et.eN{b:Bool}:et K H (.bool b) v↔v=.bl b:=by unfold et;exact cv
def et.eG{i:Int}:et K H (.int i) v↔v=.int i:=by unfold et;exact cv
def et.eU:et K H (.str x) v↔v=.str x:=by unfold et;exact cv
def et.eK{a:Lp}:et K H (.list a) v↔∃p b,v=.ref p/\jS K H p b/\dv K H a b:=by unfold et;exact cv
def et.i8{a:Lp}:et K H (.tuple a) v↔∃p b,v=.ref p/\mV K H p b/\dv K H a b:=by unfold et;exact cv
def et.fJ{a:Lp}(h:et K H (.tuple a) v):∃p b,v=.ref p/\mV K H p b/\dv K H a b:=et.i8.mp h
def et.jm:et K H (.dict fX) v↔∃p,v=.ref p/\((∃a,Rd H p (.dK a)/\fq K H fX a)\/∃c C d b,iO K c C/\H p=Y (.ins C d b)/\lH K H c fX b):=by unfold et;exact cv
def fq.eC:fq K H [] kv↔kv=[]:=by unfold fq;exact cv
def fq.eh{k d:d8}{r:List (d8×d8)}:fq K H ((k,d)::r) kv↔∃y v a,kv=(y,v)::a/\k=gW y/\et K H d v/\fq K H r a:=by
 constructor
 ·intro h;unfold fq at h;exact h
 ·intro h;unfold fq;exact h
def iG.eC{a:List (Str×V)}:iG K H [] a↔a=[]:=by unfold iG;exact cv
def iG.eh{k d:d8}{r:List (d8×d8)}{b:List (Str×V)}:iG K H ((k,d)::r) b↔∃y v a,b=(y,v)::a/\k=.str y/\et K H d v/\iG K H r a:=by
 constructor
 ·intro h;unfold iG at h;exact h
 ·intro h;unfold iG;exact h
def lH.eh{c:Str}{k d:d8}{r:List (d8×d8)}{a:List (Str×V)}:lH K H c ((k,d)::r) a↔k=.none/\d=.str c/\iG K H r a:=by
 constructor
 ·intro h;unfold lH at h;exact h
 ·intro h;unfold lH;exact h
def lH.eC{c:Str}{a:List (Str×V)}:lH K H c [] a↔False:=by unfold lH;exact cv
def dv.eC:dv K H [] vs↔vs=[]:=by unfold dv;exact cv
def dv.eh{d:d8}:dv K H (d::ds) vs↔∃v r,vs=v::r/\et K H d v/\dv K H ds r:=by
 constructor
 ·intro h;unfold dv at h;exact h
 ·intro h;unfold dv;exact h
def dv.nil:dv K H [] []:=dv.eC.mpr rfl
def dv.cons{d:d8}{ds:Lp}(h:et K H d v)(t:dv K H ds vs):dv K H (d::ds) (v::vs):=dv.eh.mpr ⟨v,vs,rfl,h,t⟩
theorem dv.length{ds:Lp}(h:dv K H ds vs):ds.length=vs.length:=by
 induction ds generalizing vs with
 |nil=>rw[dv.eC.mp h];rfl
 |cons d ds a=>obtain⟨v,r,rfl,_,t⟩:=dv.eh.mp h;simp[a t]
def dv.get{d:d8}(h:dv K H ds vs)(e:ds[i]?=Y d):∃v,vs[i]?=Y v/\et K H d v:=by
 induction ds generalizing vs i with
 |nil=>simp at e
 |cons g ds a=>
  obtain⟨v,r,rfl,b,t⟩:=dv.eh.mp h;cases i with
  |zero=>simp at e;subst e;exact⟨v,rfl,b⟩
  |succ i=>obtain⟨u,f,c⟩:=a t (by simpa using e);exact⟨u,by simpa using f,c⟩
def dv.get'(h:dv K H ds vs)(e:vs[i]?=Y v):∃d,ds[i]?=Y d/\et K H d v:=by have f:=h.length;have g:i<vs.length:=(av.mp e).1;have a:ds[i]?=Y ds[i]:=aH (by omega);obtain⟨u,b,c⟩:=h.get a;rw[e] at b;cases b;exact⟨_,a,c⟩
def dv.append{b:Lp}{a:List V}(h:dv K H ds vs)(t:dv K H b a):dv K H (ds++b) (vs++a):=by
 induction ds generalizing vs with
 |nil=>rw[dv.eC.mp h];exact t
 |cons d ds e=>obtain⟨v,r,rfl,f,c⟩:=dv.eh.mp h;exact dv.cons f (e c)
theorem dv.take{a:Lp}(n:Nat)(h:dv K H a vs):dv K H (a.take n) (vs.take n):=by
 induction a generalizing vs n with
 |nil=>rw[dv.eC.mp h];simp;exact dv.nil
 |cons d a c=>
  obtain⟨v,r,rfl,e,b⟩:=dv.eh.mp h;cases n with
  |zero=>simp;exact dv.nil
  |succ n=>simp only[List.take_succ_cons];exact dv.cons e (c n b)
theorem dv.drop{a:Lp}(n:Nat)(h:dv K H a vs):dv K H (a.drop n) (vs.drop n):=by
 induction a generalizing vs n with
 |nil=>rw[dv.eC.mp h];simp;exact dv.nil
 |cons d a c=>
  obtain⟨v,r,rfl,e,b⟩:=dv.eh.mp h;cases n with
  |zero=>exact h
  |succ n=>simp only[List.drop_succ_cons];exact c n b
end
section
variable {s:Shared}
mutual
theorem eE.mv (I:eE X pins σ H s):∀{d:d8}{v:V}{u:Value},d.canLay0=true->et X.K H d v->eV v u->∃as,Reads s.heap u d as
  |.none,_,_,_,h,r=>by rw[et.gf.mp h] at r;cases r;exact⟨_,.none⟩
  |.bool b,_,_,_,h,r=>by rw[et.eN.mp h] at r;cases r;exact⟨_,.bool b⟩
  |.int i,_,_,_,h,r=>by rw[et.eG.mp h] at r;obtain⟨t,rfl⟩:=r;exact⟨_,.int i t⟩
  |.str x,_,_,_,h,r=>by rw[et.eU.mp h] at r;obtain⟨t,rfl⟩:=r;exact⟨_,.str x t⟩
  |.list xs,_,_,hc,h,r=>by
    obtain⟨p,vs,rfl,e2,e3⟩:=et.eK.mp h
    cases r
    obtain⟨its,rv,⟨o,n,e,c,_,dd⟩,_⟩:=I.list e2
    obtain⟨as,ra⟩:=eE.x4 I (by simpa [d8.canLay0] using hc) e3 rv
    exact⟨_,.list e c dd (by simpa using ra)⟩
  |.tuple xs,_,_,hc,h,r=>by
    obtain⟨p,vs,rfl,e2,e3⟩:=h.fJ
    cases r
    obtain⟨its,rv,⟨o,e,c,n,dd⟩,_⟩:=I.tuple e2
    obtain⟨as,ra⟩:=eE.x4 I (by simpa [d8.canLay0] using hc) e3 rv
    exact⟨_,.tuple e c dd (by simpa using ra)⟩
  |.dict _,_,_,hc,_,_=>by simp[d8.canLay0] at hc
theorem eE.x4 (I:eE X pins σ H s):∀{ds:Lp}{vs:List V}{us:Lw},d8.canLayAll0 ds=true->dv X.K H ds vs->eQ vs us->∃as,ReadsAll s.heap us ds as
  |[],_,_,_,h,r=>by rw[dv.eC.mp h] at r;cases r;exact⟨_,.nil⟩
  |d::ds,_,_,hc,h,r=>by
    have Nu:d.canLay0=true/\d8.canLayAll0 ds=true:=by simpa [d8.canLayAll0] using hc
    obtain⟨v,rr,rfl,h1,t⟩:=dv.eh.mp h
    cases r with
    |cons r1 r2=>
      obtain⟨as,ra⟩:=eE.mv I Nu.1 h1 r1
      obtain⟨bs,rb⟩:=eE.x4 I Nu.2 t r2
      exact⟨_,.cons ra rb⟩
end
end
abbrev d9:=List (Option d8)
def hY(K:Fg)(H:Hp)(σ:St)(ρ:d9):Prop:=σ.length=ρ.length/\∀(i:Nat) (d:d8),ρ[i]?=Y (Y d)->∃v,σ[i]?=Y (Y v)/\et K H d v
theorem hY.same{K:Fg}{H c:Hp}{σ:St}{ρ:d9}(h:hY K H σ ρ)(e:ez H c):hY K c σ ρ :=
 ⟨h.1,λi d q=>by obtain⟨v,a,b⟩:=h.2 i d q;exact⟨v,a,b.same e⟩⟩
theorem hY.set{K:Fg}{H:Hp}{σ:St}{ρ:d9}{i:Nat}{d:d8}{v:V}(h:hY K H σ ρ)(e:et K H d v):hY K H (σ.set i (Y v)) (ρ.set i (Y d)):=by
 refine⟨by simpa using h.1,λj g q=>?_⟩;by_cases c:j=i
 ·subst c;have f:j<ρ.length:=by
   have:=(av.mp q).1;simpa using this
  rw[aI f] at q;cases q;exact⟨v,by rw[aI (by rw[h.1];exact f)],e⟩
 ·rw[aq (Ne.symm c)] at q;obtain⟨u,a,b⟩:=h.2 j g q;exact⟨u,by rw[aq (Ne.symm c)];exact a,b⟩
def KD(K:Fg)(H:Hp)(d:d8)(Q:VK):Prop:=∀v a,ez H a->et K a d v->Q v a
def KD.here{d:d8}{Q:VK}(k:KD K H d Q)(h:et K H d v):Q v H:=k v H (.refl H) h
def KD.later{a:Hp}{d:d8}{Q:VK}(k:KD K H d Q)(e:ez H a):KD K a d Q:=λv c b i=>k v c (e.trans b) i
def tD(K:Fg)(f:d9->Od):TE:=λσ H Q=>∃ρ d,hY K H σ ρ/\f ρ=Y d/\KD K H d Q
def PD(X:Cx)(e:Expr)(f:d9->Od):Prop:=PE X e (tD X.K f)
def Qn(K:Fg)(f:d9->Option Bool):TT:=λσ H Q=>∃ρ b,hY K H σ ρ/\f ρ=Y b/\∀a,ez H a->Q b a
def Bq(X:Cx)(e:Expr)(f:d9->Option Bool):Prop:=PT X e (Qn X.K f)
def Rw(K:Fg)(f:d9->Option Lp):TA:=λσ H Q=>∃ρ c,hY K H σ ρ/\f ρ=Y c/\∀b a,ez H a->dv K a c b->Q b a
def vS(X:Cx)(a:Lx)(f:d9->Option Lp):Prop:=PA X a (Rw X.K f)
inductive eY where
 |nx (ρ:d9)|rt (d:d8)|bk (ρ:d9)|ct (ρ:d9)
def PE.imp{t u:TE}(h:PE X e t)(k:∀σ H Q,u σ H Q->t σ H Q):PE X e u:=λa s σ H Q I q=>@h a s σ H Q I (k σ H Q q)
def PT.imp{t u:TT}(h:PT X e t)(k:∀σ H Q,u σ H Q->t σ H Q):PT X e u:=λa s σ H Q I q=>@h a s σ H Q I (k σ H Q q)
def PA.imp{e:Lx}{t u:TA}(h:PA X e t)(k:∀σ H Q,u σ H Q->t σ H Q):PA X e u:=λp a s σ H Q I q=>@h p a s σ H Q I (k σ H Q q)
def PS.imp{e:Stmt}{t u:TS}(h:PS X e t)(k:∀D σ H,u D σ H->t D σ H):PS X e u:=λa s σ H D I q=>@h a s σ H D I (k D σ H q)
def tJ.imp{e:List Stmt}{t u:TS}(h:tJ X e t)(k:∀D σ H,u D σ H->t D σ H):tJ X e u:=λa s σ H D I q=>@h a s σ H D I (k D σ H q)
def jD.imp{f:Value->Value->Sem Value}{r b:R2}(h:jD X f r)(k:∀x y H Q,b x y H Q->r x y H Q):jD X f b:=λa s σ H x y v u Q I d c q=>@h a s σ H x y v u Q I d c (k _ _ _ _ q)
def C6.imp{r d:R2}(h:C6 X r)(k:∀x y H Q,d x y H Q->r x y H Q):C6 X d:=λa b c s σ H x y v u Q I g f q e=>h a b c s σ H x y v u Q I g f (k _ _ _ _ q) e
def gX.imp{f:Value}{r b:List V->Hp->VK->Prop}(h:gX X f r)(k:∀xs H Q,b xs H Q->r xs H Q):gX X f b:=λa s σ H xs c Q I d q=>@h a s σ H xs c Q I d (k _ _ _ q)
end L2
variable  {f fa:L2.d9->Od}{g gc:L2.d9->Option Bool}{ρ:L2.d9}{ff q:L2.d9->Option Lp}
namespace L2
open PySem PySem.Spec PyProof.Rows
section
variable {a:Expr}{es:Lx}{fb fc:d9->Od}
noncomputable def cn(i:Nat):d9->Od:=λρ=>(ρ[i]?).join
def bS(i:Nat) (g:X.N[i]?=Y x:=by rfl) (b:D0 X.env.scope x:=by first|exact bW rfl|exact bz (bW rfl)|exact bz (bz rfl)) (f:zg x:=by decide)
  (a:(x==("__classdict__":Str))=false:=by decide):PD X (.Name x pos) (cn i):=by
 refine PE.imp (mq g b f a) ?_;rintro σ H Q ⟨ρ,d,c,e,k⟩;have l:ρ[i]?=Y (Y d):=by
  unfold cn at e;cases q:ρ[i]? with
  |none=>rw[q] at e;cases e
  |some o=>rw[q] at e;cases o with
   |none=>cases e
   |some m=>cases e;rfl
 obtain⟨v,j,h⟩:=c.2 i d l;exact⟨v,j,k.here h⟩
noncomputable def dC(d:d8):d9->Od:=λ_=>Y d
def dm{i j}:PD X (.Constant (.int i) j pos) (dC (.int i)):=PE.imp LF <| by rintro σ H Q ⟨_,d,_,e,k⟩;cases e;exact k.here (et.eG.mpr rfl)
def hZ{i j}:PD X (.Constant (.bool i) j pos) (dC (.bool i)):=PE.imp Nx <| by rintro σ H Q ⟨_,d,_,e,k⟩;cases e;exact k.here (et.eN.mpr rfl)
def mw{j}:PD X (.Constant .none j pos) (dC .none):=PE.imp LG <| by rintro σ H Q ⟨_,d,_,e,k⟩;cases e;exact k.here (et.gf.mpr rfl)
def ef{x j}:PD X (.Constant (.str x) j pos) (dC (.str x)):=PE.imp LH <| by rintro σ H Q ⟨_,d,_,e,k⟩;cases e;exact k.here (et.eU.mpr rfl)
def Qo(K:Fg)(g:d8->d8->Od):R2:=λx y H Q=>∃a b c,et K H a x/\et K H b y/\g a b=Y c/\KD K H c Q
def pS(X:Cx)(f:Value->Value->Sem Value)(g:d8->d8->Od):Prop:=jD X f (Qo X.K g)
noncomputable def d2(g:d8->d8->Od)(b a:d9->Od):d9->Od:=λρ=>(b ρ).bind λx=>(a ρ).bind λy=>g x y
def bind_some{β:Type}{o:Option α}{k:α->Option β}{b:β}(h:o.bind k=Y b):∃a,o=Y a/\k a=Y b:=by
 cases o with
 |none=>cases h
 |some a=>exact⟨a,rfl,h⟩
def Pg{g:d8->d8->Od}{Q:VK}(h:tD K (d2 g fa fb) σ H Q):NH (Qo K g) (tD K fa) (tD K fb) σ H Q:=by obtain⟨ρ,d,c,e,k⟩:=h;obtain⟨x,l,e⟩:=bind_some e;obtain⟨y,j,e⟩:=bind_some e;exact⟨ρ,x,c,l,λv n b i=>⟨ρ,y,c.same b,j,λu m a f=>⟨x,y,d,i.same a,f,e,k.later (b.trans a)⟩⟩⟩
def fI{c:Operator}{g:d8->d8->Od}(d:pS X (binaryOp c) g)(f:PD X a fa)(e:PD X b fb):PD X (.BinOp a c b pos) (d2 g fa fb) :=
 PE.imp (KS d f e) λ_ _ _ h=>Pg h
def Mi{c:CmpOp}{g:d8->d8->Od}(d:pS X (compareOp c) g)(i:PD X a fa)(f:PD X b fb)(e:behindInMarks c b=false):PD X (.Compare a [c] [b] pos) (d2 g fa fb) :=
 PE.imp (IV d i f e) λ_ _ _ h=>Pg h
def Rx(X:Cx)(g:d8->d8->Od):Prop:=C6 X (Qo X.K g)
def N8{g:d8->d8->Od}(d:Rx X g)(f:PD X a fa)(e:PD X b fb)(c:oa b):PD X (.Subscript a b pos) (d2 g fa fb) :=
 PE.imp (C7 d f e c) λ_ _ _ h=>Pg h
noncomputable def dI(C:Int->Int->Bool)(g:Int->Int->d8):d8->d8->Od
 |.int i,.int j=>if C i j then Y (g i j) else Z
 |_,_=>Z
def x8{C:Int->Int->Bool}{g:Int->Int->d8}{x y d:d8}(h:dI C g x y=Y d):∃i j,x=.int i/\y=.int j/\C i j=true/\d=g i j:=by
 cases x<;>cases y<;>try (simp[dI] at h;done)
 rename_i i j;dsimp only[dI] at h;by_cases a:C i j=true
 ·rw[af a] at h;cases h;exact⟨i,j,rfl,rfl,a,rfl⟩
 ·rw[ag a] at h;cases h
def Dd{f:Value->Value->Sem Value}{P:Int->Int->Prop}{C:Int->Int->Bool}{g:Int->Int->Int}(h:jD X f (rI P λi j=>.int (g i j)))(n:∀i j,C i j=true->P i j):pS X f (dI C λi j=>.int (g i j)) :=
 jD.imp h <| by rintro x y H Q ⟨a,b,d,m,l,e,k⟩;obtain⟨i,j,rfl,rfl,c,rfl⟩:=x8 e;exact⟨i,j,et.eG.mp m,et.eG.mp l,n i j c,k.here (et.eG.mpr rfl)⟩
def Mj{f:Value->Value->Sem Value}{g:Int->Int->Int}(h:jD X f (Iz λi j=>.int (g i j))):pS X f (dI (λ_ _=>true) λi j=>.int (g i j)) :=
 jD.imp h <| by rintro x y H Q ⟨a,b,d,m,l,e,k⟩;obtain⟨i,j,rfl,rfl,c,rfl⟩:=x8 e;exact⟨i,j,et.eG.mp m,et.eG.mp l,k.here (et.eG.mpr rfl)⟩
def x9{f:Value->Value->Sem Value}{g:Int->Int->Bool}(h:jD X f (Iz λi j=>.bl (g i j))):pS X f (dI (λ_ _=>true) λi j=>.bool (g i j)) :=
 jD.imp h <| by rintro x y H Q ⟨a,b,d,m,l,e,k⟩;obtain⟨i,j,rfl,rfl,c,rfl⟩:=x8 e;exact⟨i,j,et.eG.mp m,et.eG.mp l,k.here (et.eN.mpr rfl)⟩
def ij(i:Int):Bool:=decide (Builtin.Int.intBits i<=2 ^ 20)
def Jh:jD X (binaryOp .Mult) (rI (λi j=>ij i=true/\ij j=true) λi j=>.int (i*j)):=Pd λ_ _ _ _ _ _ _ a q=>mul_int q (.of_bits (cq a.1) (cq a.2))
noncomputable def N9:=dI (λ_ _=>true) λi j=>.int (i - j)
noncomputable def Oa:=dI (λi j=>ij i&&ij j) λi j=>.int (i*j)
noncomputable def i9:=dI (λ_ j=>decide (0<j)&&decide (j<1073741824)) λi j=>.int (i / j)
noncomputable def iS:=dI (λ_ j=>decide (0<j)) λi j=>.int (i % j)
def El:=dI (λi j=>decide (0<=j)&&decide (j<=1000000)&&decide (i.natAbs<2 ^ 64)) λi j=>.int (i ^ j.toNat)
def Ml:pS X (binaryOp .Sub) N9:=Mj LV
def Mm:pS X (binaryOp .Mult) Oa:=Dd Jh λi j h=>by simpa using h
def kB:pS X (binaryOp .FloorDiv) i9:=Dd IT λi j h=>by simpa [NK] using h
def kC:pS X (binaryOp .Mod) iS:=Dd LW λi j h=>by simpa using h
def F5:pS X (binaryOp .Pow) El:=Dd LX λi j h=>by simp only[bV,bu] at h;exact⟨h.1.1,h.1.2,h.2⟩
def K1:=dI (λ_ _=>true) λi j=>.bool (decide (i<j))
def Ry:=dI (λ_ _=>true) λi j=>.bool (decide (i<=j))
def Ob:=dI (λ_ _=>true) λi j=>.bool (decide (j<i))
def Rz:=dI (λ_ _=>true) λi j=>.bool (decide (j<=i))
def wX:pS X (compareOp .Lt) K1:=x9 NM
def Oc:pS X (compareOp .LtE) Ry:=x9 NN
def De:pS X (compareOp .Gt) Ob:=x9 NO
def Oe:pS X (compareOp .GtE) Rz:=x9 NP
def Of(K:Fg):R2:=λx y H Q=>∃l b c a,x=.ref l/\y=.ref b/\jS K H l c/\jS K H b a/\c.length+a.length<=sizeLine/\∀p,H p=Z->Q (.ref p) (upd H p (.lst (c++a)))
def Df:jD X (binaryOp .Add) (Of X.K):=by
 intro p s σ H x y v u Q I E D h;obtain⟨l,b,R,P,rfl,rfl,L,M,S,q⟩:=h;cases E;cases D;obtain⟨c,r,G,_⟩:=I.list L;obtain⟨a,o,j,_⟩:=I.list M;have U:=r.length;have T:=o.length;obtain⟨⟨O,N,A,C⟩,n,t,z,_,w⟩:=G;obtain⟨⟨B,k,m,i⟩,J,d,g,_,f⟩:=j;simp only at z w g f;subst z w g f;have e:c.toArray++a.toArray=(c++a).toArray:=by simp
 refine dR ⟨_,t,rfl⟩ ⟨_,d,rfl⟩ noFill_list_add seq_list_add PySem.F.slot_list_add PySem.F.entry_list_add (PySem.F.args_list_add_2 _ _) (list_addW l b c.toArray a.toArray n J N k C i (by simp;omega)) ⟨t,d,?_⟩;rw[e];exact⟨.ref _,_,I.N3 (t':=s.toks) (r.append o) (by rw[a6];omega),rfl,q _ I.fresh⟩
def Ji:jD X (binaryOp .Add) (λx y H Q=>∃l b o,x=.ref l/\y=.ref b/\mV X.K H l []/\mV X.K H b o/\Q (.ref b) H):=by
 intro p s σ H x y v u Q I E D h;obtain⟨l,b,o,rfl,rfl,J,L,q⟩:=h;cases E;cases D;obtain⟨d,r,F,_⟩:=I.tuple J;obtain⟨c,R,j,_⟩:=I.tuple L;have M:=r.length;obtain⟨⟨P,O,A,C⟩,t,z,n,w⟩:=F;obtain⟨⟨B,k,m,i⟩,e,g,G,f⟩:=j;simp only at z w g f;subst z w g f;have N:d=[]:=by cases d with
  |nil=>rfl
  |cons a r=>simp at M
 subst N;exact dR ⟨_,t,rfl⟩ ⟨_,e,rfl⟩ dJ seq_tuple_add cX cS (cM _ _) (tuple_addW0 l b #[] c.toArray n G O k C i rfl) ⟨t,e,⟨.ref b,H,I,rfl,q⟩⟩
def jn{p:Addr}{o:HO}(h:H p=Z):ez H (upd H p o):=λb u e=>by rw[en (fv e h)];exact e
def zY{p:Addr}(h:H p=Z)(e:dv K H ds vs):et K (upd H p (.lst vs)) (.list ds) (.ref p) :=
 et.eK.mpr ⟨p,vs,rfl,jS.of eI,e.same (jn h)⟩
def F6{p:Addr}(h:H p=Z)(e:dv K H ds vs):et K (upd H p (.tup vs)) (.tuple ds) (.ref p) :=
 et.i8.mpr ⟨p,vs,rfl,mV.of eI,e.same (jn h)⟩
def KD.qU{Q:VK}(k:KD K H (.list ds) Q)(e:dv K H ds vs):∀p,H p=Z->Q (.ref p) (upd H p (.lst vs)):=λp h=>k _ _ (jn h) (zY h e)
def KD.Mn{Q:VK}(k:KD K H (.tuple ds) Q)(e:dv K H ds vs):∀p,H p=Z->Q (.ref p) (upd H p (.tup vs)):=λp h=>k _ _ (jn h) (F6 h e)
noncomputable def iT:d8->d8->Od
 |.int i,.int j=>Y (.int (i+j))
 |.str x,.str y=>if x.length+y.length<=sizeLine then Y (.str (x++y)) else Z
 |.list xs,.list ys=>if xs.length+ys.length<=sizeLine then Y (.list (xs++ys)) else Z
 |.tuple xs,.tuple ys=>if xs.length+ys.length<=sizeLine then Y (.tuple (xs++ys)) else Z
 |_,_=>Z
def jG:pS X (binaryOp .Add) iT:=by
 refine jD.imp (LU.or (Bz.or (Df.or (Jb.or Ji)))) ?_;rintro x y H Q ⟨a,b,d,l,h,e,k⟩;cases a<;>cases b<;>try (simp[iT] at e;done)
 ·rename_i i j;cases e;exact .inl ⟨i,j,et.eG.mp l,et.eG.mp h,k.here (et.eG.mpr rfl)⟩
 ·rename_i i j;dsimp only[iT] at e;by_cases c:i.length+j.length<=sizeLine
  ·rw[af c] at e;cases e;exact .inr (.inl ⟨i,j,et.eU.mp l,et.eU.mp h,c,k.here (et.eU.mpr rfl)⟩)
  ·rw[ag c] at e;cases e
 ·rename_i i j;dsimp only[iT] at e;by_cases c:i.length+j.length<=sizeLine
  ·rw[af c] at e;cases e;obtain⟨p,r,rfl,m,f⟩:=et.eK.mp l;obtain⟨q,n,rfl,o,g⟩:=et.eK.mp h;exact .inr (.inr (.inl ⟨p,q,r,n,rfl,rfl,m,o,by rw[<-f.length,<-g.length];exact c,k.qU (f.append g)⟩))
  ·rw[ag c] at e;cases e
 ·rename_i i j;dsimp only[iT] at e;by_cases c:i.length+j.length<=sizeLine
  ·rw[af c] at e;cases e;obtain⟨p,r,rfl,m,f⟩:=l.fJ;obtain⟨q,n,rfl,o,g⟩:=h.fJ;cases i with
   |nil=>rw[dv.eC.mp f] at m;exact .inr (.inr (.inr (.inr ⟨p,q,n,rfl,rfl,m,o,k.here h⟩)))
   |cons t s=>
    refine .inr (.inr (.inr (.inl ⟨p,q,r,n,rfl,rfl,m,o,?_,by rw[<-f.length,<-g.length];exact c,λz=>?_,λz=>k.Mn (f.append g)⟩)))
    ·intro z;subst z;have:=f.length;simp at this
    ·subst z;have:j=[]:=by have:=g.length;cases j with
      |nil=>rfl
      |cons _ _=>simp at this
     subst this;rw[bb] at k;exact k.here l
  ·rw[ag c] at e;cases e
noncomputable def jE:d8->d8->Od:=λa b=>if SeqAt.shaped a=true/\SeqAt.shaped b=true then Y (.bool (d8.eqv a b)) else Z
noncomputable def ya:d8->d8->Od:=λa b=>if SeqAt.shaped a=true/\SeqAt.shaped b=true then Y (.bool (!d8.eqv a b)) else Z
def fK(n:X.A.units+64<cLine):pS X (compareOp .Eq) jE:=by
 intro f s σ H x y v u Q I h g ⟨a,b,d,m,l,e,k⟩;unfold jE at e;by_cases c:SeqAt.shaped a=true/\SeqAt.shaped b=true
 ·rw[af c] at e;cases e;obtain⟨p,j⟩:=I.mv (aP c.1) m h;obtain⟨o,i⟩:=I.mv (aP c.2) l g;exact eq_dataH j i c.1 c.2 n ⟨.bl _,H,I,rfl,k.here (et.eN.mpr rfl)⟩
 ·rw[ag c] at e;cases e
def mO(n:X.A.units+64<cLine):pS X (compareOp .NotEq) ya:=by
 intro f s σ H x y v u Q I h g ⟨a,b,d,m,l,e,k⟩;unfold ya at e;by_cases c:SeqAt.shaped a=true/\SeqAt.shaped b=true
 ·rw[af c] at e;cases e;obtain⟨p,j⟩:=I.mv (aP c.1) m h;obtain⟨o,i⟩:=I.mv (aP c.2) l g;exact ne_dataH j i c.1 c.2 n ⟨.bl _,H,I,rfl,k.here (et.eN.mpr rfl)⟩
 ·rw[ag c] at e;cases e
noncomputable def Ph:d8->d8->Od
 |.list xs,.int i=>qR xs i
 |.tuple xs,.int i=>qR xs i
 |.str z,.int i=>if z.length<=sizeLine then (qR z.cps.toList i).map λc=>.str ⟨#[c]⟩ else Z
 |_,_=>Z
def K2{i:Int}{d:d8}(h:dv K H ds vs)(e:qR ds i=Y d):∃v,qR vs i=Y v/\et K H d v:=by
 unfold qR at e ⊢;rw[<-h.length];cases q:Ec ds.length i with
 |none=>rw[q] at e;cases e
 |some j=>rw[q] at e;exact h.get e
def Sw:Rx X Ph:=by
 refine C6.imp L9 ?_;rintro x y H Q ⟨a,b,d,j,h,e,k⟩;cases a<;>cases b<;>try (simp[Ph] at e;done)
 ·rename_i z i;dsimp only[Ph] at e;by_cases l:z.length<=sizeLine
  ·rw[af l] at e;obtain⟨c,r,f⟩:=ab.mp e;subst f;exact .inr (.inr ⟨z,i,c,et.eU.mp j,et.eG.mp h,l,r,k.here (et.eU.mpr rfl)⟩)
  ·rw[ag l] at e;cases e
 ·rename_i q i;obtain⟨p,g,rfl,f,o⟩:=et.eK.mp j;obtain⟨v,n,m⟩:=K2 o e;exact .inl ⟨p,g,i,v,rfl,et.eG.mp h,f,n,k.here m⟩
 ·rename_i q i;obtain⟨p,g,rfl,f,o⟩:=j.fJ;obtain⟨v,n,m⟩:=K2 o e;exact .inr (.inl ⟨p,g,i,v,rfl,et.eG.mp h,f,n,k.here m⟩)
noncomputable def BQ:d8->Option Bool
 |.none=>Y false
 |.bool b=>Y b
 |.int i=>Y (i != 0)
 |.str y=>if y.length<=sizeLine then Y ((y.length:Int) != 0) else Z
 |.list xs=>Y (!xs.isEmpty)
 |.tuple xs=>Y (!xs.isEmpty)
 |.dict _=>Z
def uq(h:dv K H ds vs):ds.isEmpty=vs.isEmpty:=by have:=h.length;cases ds<;>cases vs<;>first|rfl|(simp at this)
def F7{d:d8}{k:Bool}(h:et K H d v)(e:BQ d=Y k):L1 K v H k:=by
 cases d with
 |none=>rw[et.gf.mp h];cases e;rfl
 |bool b=>rw[et.eN.mp h];cases e;rfl
 |int i=>rw[et.eG.mp h];cases e;rfl
 |str y=>
  rw[et.eU.mp h];dsimp only[BQ] at e;by_cases c:y.length<=sizeLine
  ·rw[af c] at e;cases e;exact⟨c,rfl⟩
  ·rw[ag c] at e;cases e
 |list j=>obtain⟨p,a,rfl,g,f⟩:=et.eK.mp h;cases e;exact .inl ⟨a,g,by rw[uq f]⟩
 |tuple j=>obtain⟨p,a,rfl,g,f⟩:=h.fJ;cases e;exact .inr (.inl ⟨a,g,by rw[uq f]⟩)
 |dict _=>cases e
noncomputable def fB(f:d9->Od):d9->Option Bool:=λρ=>(f ρ).bind λd=>match d with | .bool b=>Y b|_=>Z
def Dg{b:Bool}(h:fB f ρ=Y b):f ρ=Y (.bool b):=by obtain⟨d,c,a⟩:=bind_some h;cases d<;>first|(cases a;exact c)|cases a
def Jj{c:CmpOp}{g:d8->d8->Od}(i:pS X (compareOp c) g)(m:PD X a fa)(l:PD X b fb)(j:behindInMarks c b=false):Bq X (.Compare a [c] [b] pos) (fB (d2 g fa fb)) :=
 PT.imp (CZ i m l j) λσ H Q ⟨ρ,b,h,e,k⟩=>
  Pg ⟨ρ,.bool b,h,Dg e,λv n d f=>⟨b,et.eN.mp f,k n d⟩⟩
def kb(f g:d9->Option Bool):d9->Option Bool:=λρ=>(f ρ).bind λx=>if x then g ρ else Y false
def Dh(f g:d9->Option Bool):d9->Option Bool:=λρ=>(f ρ).bind λx=>if x then Y true else g ρ
noncomputable def oD(f:d9->Option Bool):d9->Option Bool:=λρ=>(f ρ).map (!·)
variable {ga gb:d9->Option Bool}{rest:Lx}
def Mo(X:Cx)(e:Expr)(f:d9->Option Bool):Prop:=PW X e (Qn X.K f)
def PW.imp{t u:TT}(h:PW X e t)(k:∀σ H Q,u σ H Q->t σ H Q):PW X e u:=λb a s σ H Q I q=>@h b a s σ H Q I (k σ H Q q)
def h9(h:Bq X a ga):Mo X (.BoolOp .And [a] pos) ga:=IK h
def jT(h:Bq X a ga):Mo X (.BoolOp .Or [a] pos) ga:=Fu h
def hU(i:Bq X a ga)(h:Mo X (.BoolOp .And (b::rest) pos) gb):Mo X (.BoolOp .And (a::b::rest) pos) (kb ga gb) :=
 PW.imp (LJ i h) <| by
  rintro σ H Q ⟨ρ,x,d,e,k⟩;obtain⟨y,j,f⟩:=bind_some e;refine⟨ρ,y,d,j,λm c=>?_⟩;cases y with
  |true=>rw[af rfl];exact⟨ρ,x,d.same c,f,λl g=>k l (c.trans g)⟩
  |false=>rw[ag aQ];cases f;exact k m c
def kD(i:Bq X a ga)(h:Mo X (.BoolOp .Or (b::rest) pos) gb):Mo X (.BoolOp .Or (a::b::rest) pos) (Dh ga gb) :=
 PW.imp (KQ i h) <| by
  rintro σ H Q ⟨ρ,x,d,e,k⟩;obtain⟨y,j,f⟩:=bind_some e;refine⟨ρ,y,d,j,λm c=>?_⟩;cases y with
  |false=>rw[ag aQ];exact⟨ρ,x,d.same c,f,λl g=>k l (c.trans g)⟩
  |true=>rw[af rfl];cases f;exact k m c
def iP(h:Mo X e ga):Bq X e ga:=h.pt
def iZ(f:Bq X a ga):Bq X (.UnaryOp .Not a pos) (oD ga) :=
 PT.imp (Fv f) <| by rintro σ H Q ⟨ρ,x,d,e,k⟩;obtain⟨y,h,g⟩:=ab.mp e;exact⟨ρ,y,d,h,λb c=>by show Q (!y) b;rw[g];exact k b c⟩
noncomputable def fy:d9->Option Lp:=λ_=>Y []
noncomputable def ee(f:d9->Od)(g:d9->Option Lp):d9->Option Lp:=λρ=>(f ρ).bind λx=>(g ρ).bind λxs=>Y (x::xs)
def fT:vS X [] fy:=PA.imp kA <| by rintro σ H Q ⟨ρ,b,a,e,k⟩;cases e;exact k [] H (.refl H) dv.nil
def dr(j:PD X e f)(i:vS X es ff)(a:zE e es X:=by rfl):vS X (e::es) (ee f ff) :=
 PA.imp (iE j i a) <| by rintro σ H Q ⟨ρ,p,a,e,k⟩;obtain⟨x,m,e⟩:=bind_some e;obtain⟨d,l,e⟩:=bind_some e;cases e;exact⟨ρ,x,a,m,λv q c h=>⟨ρ,d,a.same c,l,λo n b g=>k _ n (c.trans b) (dv.cons (h.same b) g)⟩⟩
noncomputable def ia(a:d9->Option Lp):d9->Od:=λρ=>(a ρ).bind λxs=>if xs.length<=sizeLine then Y (.tuple xs) else Z
noncomputable def fZ(a:d9->Option Lp):d9->Od:=λρ=>(a ρ).bind λxs=>if xs.length<=sizeLine then Y (.list xs) else Z
def fO{x1}(h:vS X es ff):PD X (.Tuple es x1 pos) (ia ff) :=
 PE.imp (L4 h) <| by
  rintro σ H Q ⟨ρ,d,g,e,k⟩;obtain⟨b,i,e⟩:=bind_some e;by_cases a:b.length<=sizeLine
  ·rw[af a] at e;cases e;exact⟨ρ,b,g,i,λj l f c=>⟨by rw[<-c.length];exact a,(k.later f).Mn c⟩⟩
  ·rw[ag a] at e;cases e
def f6(h:vS X es ff):PD X (.List es pos) (fZ ff) :=
 PE.imp (BI h) <| by
  rintro σ H Q ⟨ρ,d,g,e,k⟩;obtain⟨b,i,e⟩:=bind_some e;by_cases a:b.length<=sizeLine
  ·rw[af a] at e;cases e;exact⟨ρ,b,g,i,λj l f c=>⟨by rw[<-c.length];exact a,(k.later f).qU c⟩⟩
  ·rw[ag a] at e;cases e
abbrev FO:=d9->Option (Option Int)
def Sx(K:Fg)(g:FO):TO:=λσ H Q=>∃ρ o,hY K H σ ρ/\g ρ=Y o/\∀a,ez H a->Q o a
def Nh(X:Cx)(e:Option Expr)(g:FO):Prop:=PO X e (Sx X.K g)
def PO.imp{e:Option Expr}{t u:TO}(h:PO X e t)(k:∀σ H Q,u σ H Q->t σ H Q):PO X e u:=λa s σ H Q I q=>@h a s σ H Q I (k σ H Q q)
def jo:FO:=λ_=>Y Z
noncomputable def ir(f:d9->Od):FO:=λρ=>(f ρ).bind λd=>match d with | .int i=>Y (Y i)|_=>Z
def gs:Nh X Z jo:=PO.imp I8 <| by rintro σ H Q ⟨ρ,o,a,e,k⟩;cases e;exact k H (.refl H)
def fV(h:PD X e f):Nh X (Y e) (ir f):=PO.imp (Ja h) <| by
 rintro σ H Q ⟨ρ,o,g,e,k⟩;obtain⟨d,i,a⟩:=bind_some e;cases d<;>first
  | (cases a;exact⟨ρ,_,g,i,λv j b c=>⟨_,et.eG.mp c,k j b⟩⟩)
  |cases a
noncomputable def lI(xs:List α)(a b:Option Int):List α:=(xs.drop (HT.iF xs.length 0 a)).take (HT.iF xs.length xs.length b - HT.iF xs.length 0 a)
def dv.cut(h:dv K H ds vs)(a b:Option Int):dv K H (lI ds a b) (zG vs a b):=by unfold lI zG;rw[<-h.length];exact(h.drop _).take _
def Og(K:Fg):V->Option Int->Option Int->Hp->VK->Prop:=λx c d H Q=>∃a b,x=.ref a/\mV K H a b/\(HT.iF b.length 0 c=0/\HT.iF b.length b.length d=b.length)/\Q (.ref a) H
end
end L2
local macro_rules
| `(zO $a) => `(L2.dr $a L2.fT)
| `(zC $s $a) => `(L2.ee (L2.dC (.str $s)) $a)
| `(zQ $a) => `(L2.ee $a L2.fy)
| `(zA $s) => `(L2.dC (.str $s))
| `(zI $n) => `(L2.dC (.int $n))
namespace HT
open PySem PyProof.Rows
section
variable {s:Shared}
def oE{t e:Addr}{k j:Value}{a d:Option Int}{Q:Px} (c:IsTup s.heap t items) (l:s.heap.IsSliceOf e k j .none) (n:IsPart k a) (m:IsPart j d)
  (hw:iF items.size 0 a=0/\iF items.size items.size d=items.size) (h:Q (.ref t) s):wpAny (model prog w) A (getItem (.ref t) (.ref e)) Q E s:=by
 obtain⟨o,f,g,p⟩:=id l;have i:s.TypeIs (.ref e) "slice":=⟨o,f,g⟩
 unfold getItem
 try with_reducible refine aY ?_
 first|refine aa (ae ?_)|skip
 refine aa (wpAny_sequenceKey c.typeIs (by decide) ?_);refine aa (br (name:=zZ "__getitem__") c.typeIs bh
  (bx bh c.typeIs entry_tuple_getitem ?_ (args_tuple_getitem _ _)))
 show wpAny _ _ (Builtin.Tuple.tupleItemsOf (.ref t)>>=_) _ _ s;refine aa (tupleItemsOf_ c ?_);refine aa (b6 i ?_);rw[af (by decide)];refine aa (lF l n m ?_);have b:((((iF items.size 0 a:Nat):Int)==0&&(1:Int)==1&&(iF items.size items.size d - iF items.size 0 a)==items.size)=true):=by rw[hw.1,hw.2];simp
 show wpAny _ _ (if (((iF items.size 0 a:Nat):Int)==0&&(1:Int)==1&&(iF items.size items.size d - iF items.size 0 a)==items.size)=true then _ else _) _ _ s;rw[af b];unfold Builtin.Tuple.tupleIsExact;refine aa (aa (b6 c.typeIs (ae ?_)));rw[af (by decide)];refine aa (dS ?_);exact ae ⟨_,rfl,ae h⟩
end
end HT
namespace L2
open PySem PySem.Spec PyProof.Rows
section
variable {a:Expr}{es:Lx}{fb fc:d9->Od}{p2:Pos}
def Jk:C4 X (Og X.K):=by
 intro d s σ H x v n m p u o Q I g l j i h;obtain⟨a,f,rfl,k,hw,q⟩:=h;cases g;obtain⟨c,r,e,t⟩:=I.tuple k;have b:c.toArray.size=f.length:=by rw[ao];exact r.length.symm
 refine⟨"tuple",_,bh.lookup,e.typeIs,?_⟩;exact HT.oE e l j i (by rw[b];exact hw) ⟨.ref a,H,I,rfl,q⟩
def Qp:V->Option Int->Option Int->Hp->VK->Prop:=λx a b H Q=>∃z,x=.str z/\z.length<=sizeLine/\Q (.str (Txt.slice z a b)) H
noncomputable def oe:Value->Option (Int×Tok)
 |.int i t=>Y (i,t)
 |_=>Z
def r0{v:Value}{o:Option Int}(p:IsPart v o):partValue (oe v)=v/\(oe v).map (·.1)=o:=by cases p<;>exact⟨rfl,rfl⟩
theorem Mp:C4 X Qp:=by
 intro f s σ H x v d c a b E Q I j y n m h;obtain⟨z,rfl,w,q⟩:=h;obtain⟨t,rfl⟩:=j;refine⟨"str",_,F.slot_str_getitem.lookup,dA _ _ _,?_⟩;obtain⟨r,p⟩:=r0 n;obtain⟨i,g⟩:=r0 m;obtain⟨o,A,C,B⟩:=y;refine wpAny_getItem_str_slice (l:=oe d) (u:=oe c) (st:=Z) ⟨o,A,C,by rw[r,i];exact B⟩ rfl ?_;have e:sliceMade z t (oe d) (oe c) Z=(if ((1:Int)==1&&(Builtin.Str.strSliceIndices a b 1 z.length).length==z.length)=true then .val (.str z t) else .str ⟨((Builtin.Str.strSliceIndices a b 1 z.length).filterMap (z.cps[·]?)).toArray⟩):=by unfold sliceMade slicePicked;rw[p,g];rfl
 rw[e];exact post_val_or_str ⟨bc (Txt.slice_le z a b) w,λD k=>⟨.str (Txt.slice z a b),H,I.tok _,⟨_,rfl⟩,q⟩⟩
noncomputable def Ni:d8->Option Int->Option Int->Od
 |.list xs,lo,hi=>Y (.list (lI xs lo hi))
 |.tuple xs,lo,hi=>Y (.tuple (lI xs lo hi))
 |.str z,lo,hi=>if z.length<=sizeLine then Y (.str (Txt.slice z lo hi)) else Z
 |_,_,_=>Z
noncomputable def ik(f:d9->Od)(l h:FO):d9->Od:=λρ=>(f ρ).bind λx=>(l ρ).bind λa=>(h ρ).bind λb=>Ni x a b
def C4.imp{r b:V->Option Int->Option Int->Hp->VK->Prop}(h:C4 X r)(k:∀x lo hi H Q,b x lo hi H Q->r x lo hi H Q):C4 X b :=
 λa s σ H x v d c lo hi e Q I f i pl g q=>@h a s σ H x v d c lo hi e Q I f i pl g (k _ _ _ _ _ q)
def Sy:C4 X (λx lo hi H Q=>∃d c,et X.K H d x/\Ni d lo hi=Y c/\KD X.K H c Q):=by
 refine C4.imp (C8.or (Mp.or (L7.or Jk))) ?_;rintro x lo hi H Q ⟨d,c,i,e,k⟩;cases d<;>try (simp[Ni] at e;done)
 ·rename_i z;dsimp only[Ni] at e;by_cases h:z.length<=sizeLine
  ·rw[af h] at e;cases e;exact .inr (.inl ⟨z,et.eU.mp i,h,k.here (et.eU.mpr rfl)⟩)
  ·rw[ag h] at e;cases e
 ·rename_i g;cases e;obtain⟨p,a,rfl,f,b⟩:=et.eK.mp i;exact .inl ⟨p,a,rfl,f,k.qU (b.cut lo hi)⟩
 ·rename_i g;cases e;obtain⟨p,a,rfl,f,b⟩:=i.fJ;by_cases hw:HT.iF a.length 0 lo=0/\HT.iF a.length a.length hi=a.length
  ·refine .inr (.inr (.inr ⟨p,a,rfl,f,hw,?_⟩));have:lI g lo hi=g:=by
    unfold lI;rw[b.length,hw.1,hw.2];simp only[List.drop_zero,Nat.sub_zero];rw[<-b.length];exact List.take_length
   rw[this] at k;exact k.here i
  ·exact .inr (.inr (.inl ⟨p,a,rfl,f,hw,k.Mn (b.cut lo hi)⟩))
def gY{m n:Option Expr}{l h:FO}(r:PD X e f)(q:Nh X m l)(p:Nh X n h):PD X (.Subscript e (.Slice m n Z p2) pos) (ik f l h) :=
 PE.imp (zF Sy r q p) <| by rintro σ H Q ⟨ρ,d,g,e,k⟩;obtain⟨x,u,e⟩:=bind_some e;obtain⟨c,t,e⟩:=bind_some e;obtain⟨i,s,e⟩:=bind_some e;exact⟨ρ,x,g,u,λv z b o=>⟨ρ,c,g.same b,t,λy a=>⟨ρ,i,g.same (b.trans a),s,λw j=>⟨x,d,o.same (a.trans j),e,k.later (b.trans (a.trans j))⟩⟩⟩⟩
def RA(K:Fg)(g:Lp->Od):List V->Hp->VK->Prop:=λb H Q=>∃a c,dv K H a b/\g a=Y c/\KD K H c Q
def uu(X:Cx)(v:Value)(g:Lp->Od):Prop:=gX X v (RA X.K g)
noncomputable def gH(g:Lp->Od)(a:d9->Option Lp):d9->Od:=λρ=>(a ρ).bind g
def RB{g:Lp->Od}{Q:VK}(h:tD K (gH g ff) σ H Q):Qg (RA K g) (Rw K ff) σ H Q:=by obtain⟨ρ,d,f,e,k⟩:=h;obtain⟨a,j,i⟩:=bind_some e;exact⟨ρ,a,f,j,λl m b c=>⟨a,d,c,i,k.later b⟩⟩
def pX{c:String}{g:Lp->Od} (l:uu X (.builtin c) g) (j:Gl X x) (i:X.mg x=Z) (d:bootBuiltins x=Y (.builtin c)) (m:vS X (e::es) ff) (f:x≠"__name__":=by decide) (b:zg x:=by decide)
  (k:zE e es X:=by rfl) (a:(backTo pos (starEach es X.env)).any (·.1)=false:=by rfl):PD X (.Call (.Name x p) (e::es) [] pos) (gH g ff) :=
 PE.imp (um l j i d m f b k a) λ_ _ _ h=>RB h
def wY{T:String}{g:Lp->Od} (k:uu X (.type T) g) (i:Gl X x) (f:X.mg x=Z) (c:bootBuiltins x=Y (.type T)) (l:vS X (e::es) ff) (d:x≠"__name__":=by decide) (b:zg x:=by decide)
  (j:zE e es X:=by rfl) (a:(backTo pos (starEach es X.env)).any (·.1)=false:=by rfl):PD X (.Call (.Name x p) (e::es) [] pos) (gH g ff) :=
 PE.imp (wU k i f c l d b j a) λ_ _ _ h=>RB h
def gg{d:d8}(h:dv K H [d] vs):∃v,vs=[v]/\et K H d v:=by obtain⟨v,r,rfl,a,t⟩:=dv.eh.mp h;rw[dv.eC.mp t];exact⟨v,rfl,a⟩
def F8{d b:d8}(h:dv K H [d,b] vs):∃v a,vs=[v,a]/\et K H d v/\et K H b a:=by obtain⟨v,r,rfl,e,t⟩:=dv.eh.mp h;obtain⟨a,rfl,c⟩:=gg t;exact⟨v,a,rfl,e,c⟩
noncomputable def Oh:Lp->Od
 |[.list xs]=>Y (.tuple xs)
 |[.tuple xs]=>Y (.tuple xs)
 |_=>Z
noncomputable def Di:Lp->Od
 |[.list xs]=>Y (.list xs)
 |[.tuple xs]=>Y (.list xs)
 |_=>Z
noncomputable def Mq:Lp->Od
 |[.list xs]=>Y (.int xs.length)
 |[.tuple xs]=>Y (.int xs.length)
 |[.str z]=>if z.length<=sizeLine then Y (.int z.length) else Z
 |_=>Z
def Mr:uu X (.builtin "len") Mq:=by
 refine gX.imp (xY.or xZ) ?_;rintro j H Q ⟨h,c,i,e,k⟩
 match h,e with
 |[.list ys],e=>cases e;obtain⟨v,rfl,a⟩:=gg i;obtain⟨p,b,rfl,g,f⟩:=et.eK.mp a;exact .inl ⟨p,b,rfl,.inl g,k.here (by rw[f.length];exact et.eG.mpr rfl)⟩
 |[.tuple ys],e=>cases e;obtain⟨v,rfl,a⟩:=gg i;obtain⟨p,b,rfl,g,f⟩:=a.fJ;exact .inl ⟨p,b,rfl,.inr g,k.here (by rw[f.length];exact et.eG.mpr rfl)⟩
 |[.str z],e=>
  dsimp only[Mq] at e;by_cases d:z.length<=sizeLine
  ·rw[af d] at e;cases e;obtain⟨v,rfl,a⟩:=gg i;exact .inr ⟨z,by rw[et.eU.mp a],d,k.here (et.eG.mpr rfl)⟩
  ·rw[ag d] at e;cases e
noncomputable def Sz:Lp->Od
 |[.int i,.int j]=>Y (.int (if j<i then j else i))
 |_=>Z
noncomputable def Nj:d8->String
 |.none=>"NoneType"
 |.bool _=>"bool"
 |.int _=>"int"
 |.str _=>"str"
 |.list _=>"list"
 |.tuple _=>"tuple"
 |.dict _=>"dict"
def z0:gX X (.builtin "isinstance") (λxs H Q=>∃d v T c,xs=[v,.ty T]/\(∀f,d≠.dict f)/\et X.K H d v/\W.kitOne X.K (.type (Nj d)) (.type T)=Y c/\Q (.bl c) H):=by
 intro j s σ H xs F Q I r h;obtain⟨d,v,T,c,rfl,w,g,e,q⟩:=h;obtain⟨u,C,rfl,b,l⟩:=NQ r;obtain rfl:C=Value.type T:=l;have a:∀k,EP X j σ Q (.bool c) { s with toks:=k }:=λk=>⟨.bl c,H,I.tok k,rfl,q⟩
 cases d with
 |none=>rw[et.gf.mp g] at b;cases b;exact W.kia_one W.kitx_none I.qP aN e (λz=>nomatch z) a
 |bool y=>rw[et.eN.mp g] at b;cases b;exact W.kia_one W.kitx_bool I.qP aN e (λz=>nomatch z) a
 |int i=>rw[et.eG.mp g] at b;obtain⟨t,rfl⟩:=b;exact W.kia_one W.kitx_int I.qP aN e (λz=>nomatch z) a
 |str y=>rw[et.eU.mp g] at b;obtain⟨t,rfl⟩:=b;exact W.kia_one W.kitx_str I.qP aN e (λz=>nomatch z) a
 |list xs=>obtain⟨p,D,rfl,B,E⟩:=et.eK.mp g;cases b;obtain⟨m,_,⟨o,n,A,x,_⟩,_⟩:=I.list B;exact W.kia_one W.kitx_list I.qP ⟨o,A,x⟩ e (λz=>nomatch z) a
 |tuple xs=>obtain⟨p,D,rfl,B,E⟩:=g.fJ;cases b;obtain⟨m,_,⟨o,A,x,_⟩,_⟩:=I.tuple B;exact W.kia_one W.kitx_tuple I.qP ⟨o,A,x⟩ e (λz=>nomatch z) a
 |dict f=>exact absurd rfl (w f)
def K3:d8->Bool
 |.dict _=>true
 |_=>false
noncomputable def Ms(T:String)(f:d9->Od):d9->Od:=λρ=>(f ρ).bind λd=>if K3 d then Z else Y (.bool (Nj d==T||(Nj d=="bool"&&T=="int")))
def Mt{T:String}(a:T="tuple"\/T="list"\/T="bool"\/T="str"\/T="int")(d:d8):W.kitOne K (.type (Nj d)) (.type T)=Y (Nj d==T||(Nj d=="bool"&&T=="int")):=by rcases a with rfl|rfl|rfl|rfl|rfl<;>cases d<;>rfl
def Em{T:String}{a:Pos} (w:T="tuple"\/T="list"\/T="bool"\/T="str"\/T="int") (u:PD X e f) (t:Gl X "isinstance") (s:X.mg "isinstance"=Z) (l:Gl X x) (j:X.mg x=Z) (q:bootBuiltins x=Y (.type T))
  (r:x≠"__name__":=by decide) (m:zg x:=by decide)
  (b:starEach [e,.Name x a] X.env=(false,eval e X.env)::starEach [.Name x a] X.env:=by rfl) (h:starEach [.Name x a] X.env=(false,eval (.Name x a) X.env)::starEach [] X.env:=by rfl) (i:(backTo pos (starEach [.Name x a] X.env)).any (·.1)=false:=by rfl):
  PD X (.Call (.Name "isinstance" p) [e,.Name x a] [] pos) (Ms T f):=by
 refine PE.imp (um z0 t s (by rfl) (iE u (iE (IJ l j q (v:=.ty T) rfl r m) kA h) b) (by decide) (by decide) b i) ?_;rintro σ H Q ⟨ρ,d,b,e,k⟩;obtain⟨x,y,c⟩:=bind_some e;by_cases g:K3 x=true
 ·rw[af g] at c;cases c
 ·rw[ag g] at c;cases c;exact⟨ρ,x,b,y,λv A n o=>⟨x,v,T,_,rfl,(λfX z=>g (by rw[z];rfl)),o,Mt w x,(k.later n).here (et.eN.mpr rfl)⟩⟩
end
section
variable {a:Expr}{es:Lx}{fb fc:d9->Od}{p2:Pos}{rest:List Stmt}{g h:d9->Option eY}
def fx:d9->Option eY:=λρ=>Y (.nx ρ)
noncomputable def eB(g h:d9->Option eY):d9->Option eY:=λρ=>(g ρ).bind λo=>match o with
 |.nx ρ'=>h ρ'
 |o=>Y o
noncomputable def ft(f:d9->Od):d9->Option eY:=λρ=>(f ρ).map .rt
noncomputable def il(c:d9->Option Bool)(g h:d9->Option eY):d9->Option eY:=λρ=>(c ρ).bind λx=>if x then g ρ else h ρ
abbrev BD:=d8->d9->Option d9
def SA(K:Fg)(b:BD):TG:=λv σ H Q=>∃ρ d ρ',hY K H σ ρ/\et K H d v/\b d ρ=Y ρ'/\∀σ' a,ez H a->hY K a σ' ρ'->Q σ' a
def Pj(X:Cx)(a:Expr)(b:BD):Prop:=PG X a (SA X.K b)
def PG.imp{t u:TG}(h:PG X tg t)(k:∀v σ H Q,u v σ H Q->t v σ H Q):PG X tg u:=λa s σ H v b Q I r q=>@h a s σ H v b Q I r (k _ _ _ _ q)
def Iw.imp{b:Lx}{t u:IP}(h:Iw X b t)(k:∀v σ H Q,u v σ H Q->t v σ H Q):Iw X b u:=λa s σ H v c Q I r q=>@h a s σ H v c Q I r (k _ _ _ _ q)
def Dj(i:Nat):BD:=λd ρ=>Y (ρ.set i (Y d))
def uw(i:Nat)(h:X.N.Nodup)(f:X.N[i]?=Y x:=by rfl)(b:CQ X.env.scope x:=by first|exact bW rfl|exact bz rfl)(g:X.fn x=true\/X.env.scope.names.lookup x=Y .local:=by first|exact .inl rfl|exact .inr rfl|assumption):Pj X (.Name x pos) (Dj i) :=
 PG.imp (pU h f b g) <| by rintro v σ H Q ⟨ρ,d,ρ',c,a,e,k⟩;cases e;exact k _ H (.refl H) (c.set a)
abbrev K4:=List d8->d9->Option d9
def Qq(K:Fg)(d:K4):IP:=λc σ H Q=>∃ρ b ρ',hY K H σ ρ/\dv K H b c/\d b ρ=Y ρ'/\∀σ' a,ez H a->hY K a σ' ρ'->Q σ' a
def Jl(X:Cx)(a:Lx)(b:K4):Prop:=Iw X a (Qq X.K b)
def Oi:K4:=λa ρ=>match a with | []=>Y ρ|_=>Z
noncomputable def F9(b:BD)(c:K4):K4:=λa ρ=>match a with | []=>Z|d::r=>(b d ρ).bind λρ'=>c r ρ'
def Ga:Jl X [] Oi:=Iw.imp CW <| by
 rintro d σ H Q ⟨ρ,c,ρ',b,a,e,k⟩;cases c with
 |nil=>cases e;exact⟨dv.eC.mp a,k σ H (.refl H) b⟩
 |cons _ _=>cases e
def wZ{bd:BD}{g:K4}(o:Pj X e bd)(n:Jl X es g)(c:(assignEach (e::es) X.env).map (·.2)=assign e X.env::(assignEach es X.env).map (·.2):=by rfl):Jl X (e::es) (F9 bd g) :=
 Iw.imp (ud o n c) <| by
  rintro u σ H Q ⟨ρ,s,ρ',c,m,e,k⟩;cases s with
  |nil=>cases e
  |cons d r=>obtain⟨ρ1,q,p⟩:=bind_some e;obtain⟨v,h,rfl,l,j⟩:=dv.eh.mp m;exact⟨v,h,rfl,ρ,d,ρ1,c,l,q,λσ1 w f b=>⟨ρ1,r,ρ',b,j.same f,p,λσ2 t i a=>k σ2 t (f.trans i) a⟩⟩
noncomputable def Jm(n:Nat)(a:K4):BD:=λd ρ=>match d with | .tuple ds=>if ds.length=n then a ds ρ else Z|_=>Z
def Jn{k:Nat}{g:K4}(o:X.calm=true)(h:Jl X es g)(m:(assignEach es X.env).length=n:=by rfl)(a:(assignEach es X.env).findIdx? (·.1)=Z:=by rfl):Pj X (.Tuple es k pos) (Jm n g) :=
 PG.imp (Fy o h m a) <| by
  rintro v σ H Q ⟨ρ,d,ρ',l,j,e,k⟩;cases d<;>try (simp[Jm] at e;done)
  rename_i f;dsimp only[Jm] at e;by_cases b:f.length=n
  ·rw[af b] at e;obtain⟨p,i,rfl,q,c⟩:=j.fJ;exact⟨p,i,rfl,q,by rw[<-c.length];exact b,ρ,f,ρ',l,c,e,k⟩
  ·rw[ag b] at e;cases e
def yb(K:Fg)(J:It)(c:Lp)(H:Hp):Prop :=
 ∀a,ez H a->(J.stop c.length a)/\∀(i:Nat) (d:d8),c[i]?=Y d->J.go i a/\∀x b,J.Iy i a x b->ez a b/\et K b d x
def SD(K:Fg)(q:d9->Option Lp):TI:=λσ H R=>∃ρ b,hY K H σ ρ/\q ρ=Y b/\∀J a,ez H a->yb K J b a->R J a
def Fo(X:Cx)(b a:Expr)(q:d9->Option Lp):Prop:=PI X b a (SD X.K q)
def PI.imp{a:Expr}{t u:TI}(h:PI X tg a t)(k:∀σ H R,u σ H R->t σ H R):PI X tg a u:=λb s σ H R I q=>@h b s σ H R I (k _ _ _ q)
def PI.or{a:Expr}{t u:TI}(h:PI X tg a t)(c:PI X tg a u):PI X tg a (λσ H R=>t σ H R\/u σ H R):=λb s σ H R I q=>q.elim (@h b s σ H R I) (@c b s σ H R I)
noncomputable def o9(f:d9->Od):d9->Option Lp:=λρ=>(f ρ).bind λd=>match d with | .list ds=>Y ds | .tuple ds=>Y ds|_=>Z
def kn(h:PD X e f):Fo X tg e (o9 f) :=
 PI.imp (PI.or (CY h) (FD h)) <| by
  rintro σ H R ⟨ρ,A,t,e,k⟩;obtain⟨d,u,a⟩:=bind_some e;cases d<;>try (simp at a;done)
  ·cases a;refine .inl ⟨ρ,_,t,u,λv s l o=>?_⟩;obtain⟨p,b,rfl,a,j⟩:=et.eK.mp o;refine⟨p,rfl,⟨b,a⟩,k _ s l λz c=>⟨⟨b,c.seq a,by rw[j.length];exact ax _⟩,λi d q=>?_⟩⟩;obtain⟨x,g,r⟩:=j.get q;refine⟨⟨b,x,c.seq a,g⟩,?_⟩;rintro y w ⟨n,m⟩;subst n;have:=m b (c.seq a);rw[g] at this;cases this;exact⟨.refl _,r.same c⟩
  ·cases a;refine .inr ⟨ρ,_,t,u,λv s l o=>?_⟩;obtain⟨p,b,rfl,a,j⟩:=o.fJ;refine⟨p,rfl,⟨b,a⟩,k _ s l λz c=>⟨⟨b,c.oB a,by rw[j.length];exact ax _⟩,λi d q=>?_⟩⟩;obtain⟨x,g,r⟩:=j.get q;refine⟨⟨b,x,c.oB a,g⟩,?_⟩;rintro y w ⟨n,m⟩;subst n;have:=m b (c.oB a);rw[g] at this;cases this;exact⟨.refl _,r.same c⟩
noncomputable def lJ(a:Int)(n:Nat):Lp:=(List.range n).map λk=>.int (a+(k:Nat))
def z5(a:Int)(n:Nat)(H:Hp):yb K (ND a n) (lJ a n) H:=λh f=>by
 refine⟨by show n<=(lJ a n).length;simp[lJ],λi d q=>?_⟩;have b:i<n:=by have:=(av.mp q).1;simpa [lJ] using this
 refine⟨b,?_⟩;rintro x g ⟨e,c⟩;subst e c;have:d=.int (a+(i:Nat)):=by unfold lJ at q;rw[aB,dY b] at q;cases q;rfl
 subst this;exact⟨.refl _,et.eG.mpr rfl⟩
noncomputable def jq(f:d9->Od):d9->Option Lp:=λρ=>(f ρ).bind λd=>match d with | .int j=>if -(2 ^ 62)<=j/\j<2 ^ 62 then Y (lJ 0 j.toNat) else Z|_=>Z
def ux(n:Gl X "range")(m:X.mg "range"=Z)(h:PD X e f)(b:starEach [e] X.env=[(false,eval e X.env)]:=by rfl):Fo X tg (.Call (.Name "range" p) [e] [] pos) (jq f) :=
 PI.imp (wM n m (iE h kA (by rw[b];rfl)) b) <| by
  rintro σ H R ⟨ρ,q,b,e,k⟩;obtain⟨d,o,a⟩:=bind_some e;cases d<;>try (simp at a;done)
  rename_i j;dsimp only at a;by_cases c:-(2 ^ 62)<=j/\j<2 ^ 62
  ·rw[af c] at a;cases a;exact⟨ρ,_,b,o,λv g i l=>⟨j,by rw[et.eG.mp l],c.1,c.2,k _ g i (z5 0 _ g)⟩⟩
  ·rw[ag c] at a;cases a
noncomputable def kc(bd:BD)(g:d9->Option eY):Lp->d9->Option eY
 |[],ρ=>Y (.nx ρ)
 |d::ds,ρ=>((bd d ρ).bind g).bind λo=>match o with
  |.nx ρ'=>kc bd g ds ρ'
  |.ct ρ'=>kc bd g ds ρ'
  |.bk ρ'=>Y (.nx ρ')
  |.rt d=>Y (.rt d)
end
def Mu(K:Fg)(n:Nat)(f:Lp->Od):Sp:=λb H Q _=>∃a d,dv K H a b/\a.length=n/\f a=Y d/\KD K H d Q
section
variable {k:Nat}{fa:Addr}{ps:Lr}{f:Lp->Od}{es:Lx}
noncomputable def gI(n:Nat)(f:Lp->Od)(b:d9->Option Lp):d9->Od:=λρ=>(b ρ).bind λa=>if a.length=n then f a else Z
def Jo(F:jl X.prog X.w X.K X.mg X.base tK k fa fd ps (Mu X.K n f)) (m:gG k X.A) (r:Gl X x) (o:X.mg x=Y (.ref fa)) (q:W.keepIn X.K (.ref fa)=true) (t:jd X.K fd ps [])
  (u:vS X (e::es) ff) (g:zg x:=by decide) (s:zE e es X:=by rfl) (b:(backTo pos (starEach es X.env)).any (·.1)=false:=by rfl):
  PD X (.Call (.Name x p) (e::es) [] pos) (gI n f ff) :=
 PE.imp (xU F m r o q t .nil ni u g s b) <| by
  rintro σ H Q ⟨ρ,d,l,e,k⟩;obtain⟨h,v,a⟩:=bind_some e;by_cases c:h.length=n
  ·rw[af c] at a;exact⟨ρ,h,l,v,λy z i j=>⟨h,d,by rw[bb];exact j,c,a,k.later i⟩⟩
  ·rw[ag c] at a;cases a
def gP(N:Lr)(ds:Lp):d9:=ds.map Y++List.replicate (N.length - ds.length) Z
def mx{N:Lr}(h:dv K H ds vs):hY K H (start N vs) (gP N ds):=by
 have b:=h.length;refine⟨by simp[start,gP,b],λi d q=>?_⟩;unfold gP at q;by_cases a:i<ds.length
 ·rw[aM (by simpa using a),aB] at q;obtain⟨j,g,f⟩:=ab.mp q;cases f;obtain⟨v,e,c⟩:=h.get g;refine⟨v,?_,c⟩;unfold start;rw[aM (by simpa using (by omega:i<vs.length)),aB,e];rfl
 ·rw[aO (by simpa using a),bB] at q;split at q<;>cases q
noncomputable def f7(N:Lr)(g:d9->Option eY):Lp->Od:=λa=>(g (gP N a)).bind λo=>match o with
 |.rt d=>Y d
 |.nx _=>Y .none
 |_=>Z
end
end L2
namespace Pe
open PySem PySem.W PySem.Calls PyProof.Rows
def yc{l:OpenLaw}{q:Program}{b:Lr}{B:(Str->Ow)->Heap->Prop}{A:World->Heap->Prop}{d:DefRec}
  (I:l.most=Y n) (s:d.params.defaults=[])
  (k:∀(w:World) (s₀ s₁:Shared) (mg mb:Str->Ow) (fa:Addr) (o:Obj) (pm cd doc:Value) (a:Addr) (vs:Lw) (ns:List Int),
   Ground q b [] B w s₀ mg mb s₁.heap->A w s₁.heap ->
   s₁.heap.get? fa=Y o->o.data=.func (docDef d.name d.params d.body d.scope pm cd doc)->s₁.heap.CodeRec cd d.name->mg d.name=Y (.ref fa) ->
   s₁.heap.get? a=Y { cls:=.type "list",data:=.seq vs.toArray }->IntsAre vs ns->ns.length<=n->(∀x∈ns,L2.ij x=true)->s₁.gens=#[] ->
   codeAny (model l.prog w) callerA (.call (.ref fa) ⟨[.ref a],[]⟩) (λr s'=>r=.ok (.ret (.bool true))/\OldK s₁.heap s'.heap/\s'.os=s₁.os/\AllBare s'.gens) s₁):
  WalkO q b B A l.row.toRowW d [] (λf vs=>PySem.call f vs):=by
 intro w s₀ s₁ mg mb G Y fa o pm cd doc P C H M t y hmg L z v Q g j E p K;obtain rfl:P=.none:=Dflts.none y s;obtain rfl:C=.none:=Dflts.noKw y;obtain⟨a,vs,ns,rfl,rfl,h,c,i⟩:=Ef I g p;have e:∀x∈ns,L2.ij x=true:=λx D=>by
  have O:=layableW_arg j (WData.list (ns.map WData.int)) (by simp);have m:=layable_int (layableW_item O (.int x) (aJ.mpr ⟨x,D,rfl⟩));have u:(d8.int x).layable=decide (Builtin.Int.intBits x<=1048576):=by simp[d8.layable,d8.canLay,d8.depth,d8.weight,Builtin.Int.intBits]
  rw[u] at m;exact m
 refine enter_call (cp (k w s₀ s₁ mg mb fa o pm cd doc a vs ns G Y H (fd_plain M) t hmg h c i e L) λr s' F=>?_);obtain⟨rfl,m,u,N⟩:=F;exact⟨.inl ⟨.bool true,.bool true,[],rfl,λ_=>rfl,.bool true,Eg l _,λ_=>⟨List.Pairwise.nil,λ_ J=>(nomatch J)⟩⟩,m,u,N⟩
end Pe
namespace L2
open PySem PySem.Spec PyProof.Rows
theorem qV{K:Fg}{H:Hp}:∀a:List Int,dv K H (a.map d8.int) (a.map V.int)
 |[]=>dv.nil
 |n::a=>dv.cons (et.eG.mpr rfl) (qV a)
structure nr (P:Program) (w:World) (K:Fg) (mg:Str->Ow) (base:Heap) (x:Str) (k n:Nat) (f:Lp->Od):Prop where
 ex:∃a fd ps,jl P w K mg base tK k a fd ps (Mu K n f)/\mg x=Y (.ref a)/\W.keepIn K (.ref a)=true/\jd K fd ps []
section
variable {f:Lp->Od}{es:Lx}{j k:Nat}
theorem eP(O:nr X.prog X.w X.K X.mg X.base x j n f) (h:gG k X.A) (l:Gl X x) (q:vS X (e::es) ff) (i:j<=k:=by decide) (d:zg x:=by decide)
  (o:zE e es X:=by rfl) (c:(backTo pos (starEach es X.env)).any (·.1)=false:=by rfl):PD X (.Call (.Name x p) (e::es) [] pos) (gI n f ff):=by
 obtain⟨a,s,r,F,m,g,b⟩:=O.ex;exact Jo (F.mono i) h l m g b q d o c
end
def En{l:W.OpenLaw}{k:Nat}{q:Program}{j:Lr}{R:(Str->Ow)->Heap->Prop}{C:World->Heap->Prop}{d:DefRec}{K:Params->Fg}{f:Lp->Od}
  (E:l.most=Y n) (t:n<=sizeLine) (y:d.params.defaults=[]) (D:gG k callerA)
  (N:∀(w:World) (h:Heap),C w h->(K w.params).In h)
  (F:∀(w:World) (mg:Str->Ow) (fa:Addr) (h:Heap),(K w.params).In h->h.Ns mainGlobals mg->mg d.name=Y (.ref fa) ->
   ∃fd:FuncData,(∀(s:Shared) (u:Value),BindsTo s fd ⟨[u],[]⟩ [(x,u)]) /\
    ∀base:Heap,(K w.params).In base->base.Ns mainGlobals mg->jl l.prog w (K w.params) mg base tK k fa fd [x] (Mu (K w.params) 1 f))
  (J:∀ns:List Int,ns.length<=n->(∀x∈ns,ij x=true)->f [.list (ns.map .int)]=Y (.bool true)):
  W.WalkO q j R C l.row.toRowW d [] (λf vs=>PySem.call f vs):=by
 refine Pe.yc E y λw B A mg V fa o U cd Q a vs ns G Y X hd L hmg r m c p I=>?_;have KX:=N w _ Y;obtain⟨fd,M,P⟩:=F w mg fa _ KX G.T.g hmg;refine FY KX G.T.g G.T.b G.T.builtins G.T.nolimit I r m (bc c t) D P M (λH hO O=>?_) λH e S z=>z;exact⟨[.list (ns.map .int)],.bool true,dv.cons (et.eK.mpr ⟨a,_,rfl,O,qV ns⟩) dv.nil,rfl,J ns c p,λv H' _ i=>et.eN.mp i⟩
end L2
namespace L2
open PySem
end L2
namespace L2
open PySem PySem.Spec PyProof.Rows
def uy(c:Env)(b:Scope):List (Str×Addr):=(b.names.filterMap λp=>if p.2==NameKind.free then (c.cells.lookup p.1).map λa=>(p.1,a) else Z).reverse
theorem pY(d:Env):∀(b:List (Str×NameKind)) (acc:List (Str×Addr)),(∀p∈b,p.2=.free->∃c,d.cells.lookup p.1=Y c) ->
  (forIn b acc λp cs=>(if (p.2==NameKind.free)=true then do let c <-cellOf d p.1;pure (ForInStep.yield ((p.1,c)::cs)) else pure (ForInStep.yield cs):Sem (ForInStep (List (Str×Addr))))) =
   pure ((b.filterMap λp=>if p.2==NameKind.free then (d.cells.lookup p.1).map λa=>(p.1,a) else Z).reverse++acc)
 |[],acc,_=>rfl
 |p::r,acc,h=>by
  have g:=λacc=>pY d r acc λq j=>h q (au _ j);rw[dn];by_cases f:p.2=.free
  ·obtain⟨c,i⟩:=h p cP f;have e:(p.2==NameKind.free)=true:=by rw[f];rfl
   rw[af e];have k:cellOf d p.1=pure c:=by unfold cellOf;rw[i]
   rw[k];simp only[pure_bind];rw[g,bQ,af e,i];simp
  ·have e:(p.2==NameKind.free)=false:=by simpa using f
   rw[ag (by rw[e];exact aQ)];simp only[pure_bind];rw[g,bQ,ag (by rw[e];exact aQ)]
def lr{a:Env}(h:∀p∈scope.names,p.2=.free->∃c,a.cells.lookup p.1=Y c):closureFor scope a=pure (uy a scope):=by
  have e:=pY a scope.names [] h;unfold closureFor uy;rw[bb] at e;have f:(forIn scope.names ([]:List (Str×Addr)) λx d=>(match x with|(name,b)=>do if (b==NameKind.free)=true then do let c <-cellOf a name;pure (ForInStep.yield ((name,c)::d)) else pure (ForInStep.yield d):Sem (ForInStep (List (Str×Addr)))))=_:=e
  first
    | (simp only[bind_pure] ;exact f)
    | (show (forIn scope.names ([]:List (Str×Addr)) _>>=λd=>pure d)=_
       rw[bind_pure];exact f)
def Gb{b:Env}{c:Addr}(h:(x,c)∈uy b scope):b.cells.lookup x=Y c/\(x,NameKind.free)∈scope.names:=by
 unfold uy at h;rw[dP,bU] at h;obtain⟨⟨n,k⟩,f,e⟩:=h;by_cases d:(k==NameKind.free)=true
 ·rw[af d] at e;obtain⟨a,i,g⟩:=ab.mp e;cases g;have:k=.free:=eq_of_beq d;subst this;exact⟨i,f⟩
 ·rw[ag d] at e;cases e
def iy{a:Env}{c:Addr}(h:(uy a scope).lookup x=Y c):a.cells.lookup x=Y c:=(Gb (bG h)).1
theorem oS{α:Type}{x:Str}{c:α}:∀{l:List (Str×α)},(x,c)∈l->∃d,l.lookup x=Y d
 |[],h=>by cases h
 | (n,a)::r,h=>by
  by_cases e:x=n
  ·subst e;exact⟨a,by simp⟩
  ·rcases ak.mp h with h|h
   ·cases h;exact absurd rfl e
   ·obtain⟨d,b⟩:=oS h;exact⟨d,by rw[a0,a7.mpr e];exact b⟩
def z6{a:Env}{c:Addr}(g:(x,NameKind.free)∈scope.names)(f:a.cells.lookup x=Y c):(uy a scope).lookup x=Y c:=by
 have:(x,c)∈uy a scope:=by unfold uy;rw[dP,bU];exact⟨(x,.free),g,by rw[af (by rfl),f];rfl⟩
 obtain⟨d,b⟩:=oS this;have e:=iy b;rw[f] at e;cases e;exact b
def r8{b:Env}{k:NameKind}(h:(relabel scope b).names.lookup x=Y k):(x,k)∈scope.names\/(k=.cell/\(x,NameKind.free)∈scope.names):=by
 have c:=bG h;unfold relabel at c;obtain⟨⟨n,f⟩,e,a⟩:=aJ.mp c;dsimp only at a;split at a
 ·rename_i d;cases a;simp only[bV,cu] at d;obtain⟨⟨rfl,_⟩,_⟩:=d;exact .inr ⟨rfl,e⟩
 ·cases a;exact .inl e
theorem pZ{b:Env}:∀{a:List (Str×NameKind)}{x:Str},a.lookup x=Y .free ->
  (a.map λ(n,k)=>if (k==NameKind.free&&b.scope.kind==.function&&b.kindOf n==Y .cell) then (n,NameKind.cell) else (n,k)).lookup x=Y .cell \/
  (a.map λ(n,k)=>if (k==NameKind.free&&b.scope.kind==.function&&b.kindOf n==Y .cell) then (n,NameKind.cell) else (n,k)).lookup x=Y .free
 |[],_,h=>by simp at h
 | (n,k)::r,x,h=>by
  have d:=@pZ b r x;rw[az];dsimp only;cases c:x==n with
  |true=>
   simp only[a0,c] at h;cases h;split
   ·exact .inl (by simp[a0,c])
   ·exact .inr (by simp[a0,c])
  |false=>
   simp only[a0,c] at h;split
   ·simp only[a0,c];exact d h
   ·simp only[a0,c];exact d h
noncomputable def jH(X:Cx)(a:Scope)(C:Addr)(N:Lr)(s:Shared)(H:Hp)(b:List Addr):Cx where
 prog:=X.prog
 w:=X.w
 K:=X.K
 mg:=X.mg
 base:=X.base
 A:=X.A
 N:=N
 s₀:=s
 H₀:=H
 env:=compEnvC a (uy X.env a) C X.env
 outer:=X.stack
 stack:=X.stack
 ex:=b
 fn:=λ_=>false
 calm:=true
 pn:=[]
 xe:=λ_ _=>False
def jr(X:Cx)(a:Scope):List (Nat×Str)->Prop
 |[]=>True
 | (j,y)::r=>(X.N[j]?=Y y/\(X.env.kindOf y=Y .cell\/X.env.kindOf y=Y .free)/\a.names.lookup y=Y .free)/\jr X a r
theorem jr.at{X:Cx}{a:Scope}:∀{b:List (Nat×Str)},jr X a b->∀{i:Nat}{j:Nat}{y:Str},b[i]?=Y (j,y)->X.N[j]?=Y y/\(X.env.kindOf y=Y .cell\/X.env.kindOf y=Y .free)/\a.names.lookup y=Y .free
 |[],_,_,_,_,h=>by simp at h
 | (_,_)::_,hc,0,_,_,h=>by simp at h;obtain⟨rfl,rfl⟩:=h;exact hc.1
 | (_,_)::_,hc,i+1,_,_,h=>jr.at hc.2 (i:=i) (by simpa using h)
noncomputable def vT(a:List (Nat×Str))(σ:St):St:=a.map λp=>(σ[p.1]?).join
noncomputable def uz(a:List (Nat×Str))(ρ:d9):d9:=a.map λp=>(ρ[p.1]?).join
structure iH (scope:Scope) (x:Str):Prop where
 kind:scope.kind=.function
 Gd:∀y∈scope.names,y.2≠.cell
 loc:∀y∈scope.names,y.2=.local->scope.names.lookup y.1=Y .local
 var:scope.names.lookup x=Y .local
 has:True:=aN
section
variable {s:Shared}
def Mv(d:Lr) {G:List Addr}{C:Addr}{s':Shared} (I:eE X pins σ H s) (D:X.calm=true) (S:iH scope x) (P:∀p∈scope.names,p.2=.free->∃c,X.env.cells.lookup p.1=Y c) (B:jr X scope gD)
  (N:∀b∈G,mW X pins H b) (M:∀b∈G,∃o,s.heap.get? b=Y o) (R:(zB s)<=C) (k:∀b o,s.heap.get? b=Y o->s'.heap.get? b=Y o) (L:s'.heap.Ns C λ_=>Z) (K:s'.os=s.os) (hg:AllBare s'.gens):
  eE (jH X scope C (d++gD.map (·.2)) s H G) [] (d.map (λ_=>Z)++vT gD σ) H s':=by
 have t:∀b,b∈(jH X scope C (d++gD.map (·.2)) s H G).fs->b∈X.env.locals::X.fs:=λb f=>I.xN b f;refine⟨⟨I.ok.mod,S.kind,I.ok.glob,I.ok.blt,R,λy z c e1 a=>I.ok.inj y z c (iy e1) (iy a),λy hy=>?_,λy c h=>(by cases h),λ_=>I.ok.hd D,I.ok.frames,.inl rfl,λb f=>?_,I.bs,bc I.ok.KP I.sz,λb o e f=>?_,λb f Q=>?_,I.stack,I.CS⟩,
  K,hg,Un.kept k,⟨_,L,λi y v e1 a e3=>?_⟩,λy c e=>?_,I.gr.fresh R,λy c e=>I.kl y c (iy e),λp hp=>?_,I.gr.kept k,?_⟩
 ·have J:(relabel scope X.env).names.lookup y=Y .cell\/(relabel scope X.env).names.lookup y=Y .free:=hy;have hm:(y,NameKind.free)∈scope.names:=by
   rcases J with h|h
   ·rcases r8 h with h | ⟨_,h⟩
    ·exact absurd rfl (S.Gd _ h)
    ·exact h
   ·rcases r8 h with h | ⟨h,_⟩
    ·exact h
    ·cases h
  obtain⟨c,D⟩:=P _ hm rfl;exact⟨c,z6 hm D⟩
 ·obtain⟨f0,W,V,U,T,f5⟩:=N b f;obtain⟨o,w⟩:=M b f;refine⟨?_,λy c e=>T y c (iy e)⟩;show b≠C;exact aE (aG (aj w) R)
 ·obtain⟨f0,W,V,U,T,f5⟩:=N b f;have RC:=I.bs b o e;rcases U with h|h
  ·exact I.ok.Fs b o e h
  ·have:=(I.ok.bs b o e).1;exact absurd (aG (aj this) h) (aW _)
 ·obtain⟨f0,W,V,U,T,f5⟩:=N b f;rcases ak.mp (t b Q) with h|h
  ·exact W h
  ·exact V h
 ·by_cases A:i<d.length
  ·rw[aM (by simpa using A),aB] at a;cases h:d[i]? with
   |none=>rw[h] at a;cases a
   |some z=>rw[h] at a;cases a
  have A:=cy A;have F:(gD.map (·.2))[i - d.length]?=Y y:=by rw[<-aO A];exact e1
  have n:(vT gD σ)[i - d.length]?=Y (Y v):=by rw[aO (by simpa using A)] at a;simpa using a
  rw[aB] at F;obtain⟨⟨j,y'⟩,e4,e5⟩:=ab.mp F;dsimp only at e5;subst e5;unfold vT at n;rw[aB,e4] at n;have E:(σ[j]?).join=Y v:=by simpa using n
  have e7:σ[j]?=Y (Y v):=by
   cases q:σ[j]? with
   |none=>rw[q] at E;cases E
   |some o=>rw[q] at E;cases o with
    |none=>cases E
    |some v'=>cases E;rfl
  obtain⟨c1,c2,c3⟩:=B.at e4;obtain⟨m,hn,hl⟩:=I.loc;have hv:D0 X.env.scope y':=by
   rcases c2 with h|h
   ·exact .inr (.inl h)
   ·exact .inr (.inr h)
  obtain⟨u,r,l⟩:=hl j y' v c1 e7 hv;refine⟨u,r,.inr ⟨?_,?_⟩⟩
  ·exact pZ c3
  ·rcases l with ⟨hk,_⟩ | ⟨_,c,D,g⟩
   ·rcases c2 with h|h
    ·rw[hk] at h;cases h
    ·rw[hk] at h;cases h
   ·refine⟨c,z6 (bG c3) D,?_⟩;obtain⟨o,w,O⟩:=g;exact⟨o,k _ _ w,O⟩
 ·obtain⟨v,o,w,O⟩:=I.cell y c (iy e);exact⟨v,o,k _ _ w,O⟩
 ·exact absurd (show p∈([]:Ax) from hp) (by simp)
 ·show (d.map (λ_=>Z)++vT gD σ).length=(d++gD.map (·.2)).length;simp[vT]
def SE(X:Cx)(b:Lx)(t:TT):Prop :=
 ∀⦃a:Ax⦄ (s:Shared) (σ:St) (H:Hp) (Q:Bool->Hp->Prop),eE X a σ H s->t σ H Q ->
  (zw X) (forIn b true λc r=>if r=true then do let d <-isTrue c X.env (eval c X.env);pure (ForInStep.yield d) else pure (ForInStep.yield r)) (TP X a σ Q) X.xe s
def uA(X:Cx)(a:Lx)(g:d9->Option Bool):Prop:=SE X a (Qn X.K g)
def jY:uA X [] (λ_=>Y true):=by rintro a s σ H Q I ⟨ρ,b,c,e,k⟩;cases e;rw[dB];exact ae ⟨H,I,k H (.refl H)⟩
def p0(h:Bq X c g):uA X [c] g:=λa s σ H Q I q=>by rw[dn];rw[af rfl];refine aa (aa (gd (@h a s σ H Q I q) λb d e=>ae ?_));show wpAny _ _ (forIn ([]:Lx) b _) _ _ d;rw[dB];exact ae e
noncomputable def lK(g:d9->Option Bool)(f:d9->Od)(ρc:d9):Lp->Option Lp
 |[]=>Y []
 |d::ds=>(g (Y d::ρc)).bind λb=>if b then (f (Y d::ρc)).bind λy=>(lK g f ρc ds).bind λa=>Y (y::a) else lK g f ρc ds
def js(q:d9->Option Lp)(a:List (Nat×Str))(g:d9->Option Bool)(f:d9->Od):d9->Od:=λρ=>
 (q ρ).bind λb=>if b.length<=sizeLine then (lK g f (uz a ρ) b).map .list else Z
def hY.SF(h:hY K H σ ρ)(e:Lr)(a:List (Nat×Str)):hY K H (e.map (λ_=>Z)++vT a σ) (e.map (λ_=>Z)++uz a ρ):=by
 refine⟨by simp[vT,uz],λi d q=>?_⟩;by_cases c:i<e.length
 ·rw[aM (by simpa using c),aB] at q;cases h:e[i]? with
  |none=>rw[h] at q;cases q
  |some z=>rw[h] at q;cases q
 have c:=cy c;rw[aO (by simpa using c),ay] at q ⊢;unfold uz at q;rw[aB] at q;obtain⟨⟨j,y⟩,l,b⟩:=ab.mp q;dsimp only at b;have k:ρ[j]?=Y (Y d):=by
  cases q:ρ[j]? with
  |none=>rw[q] at b;cases b
  |some o=>rw[q] at b;cases o with
   |none=>cases b
   |some m=>cases b;rfl
 obtain⟨v,g,f⟩:=h.2 j d k;refine⟨v,?_,f⟩;unfold vT;rw[aB,l];simp[g]
def hY.less{p c:d9}{b:Lr}(h:hY K H σ (p++c))(e:p.length=b.length):hY K H σ (b.map (λ_=>Z)++c):=by
 refine⟨by rw[h.1];simp[e],λi d q=>?_⟩;by_cases a:i<b.length
 ·rw[aM (by simpa using a),aB] at q;cases h:b[i]? with
  |none=>rw[h] at q;cases q
  |some z=>rw[h] at q;cases q
 have a:=cy a;rw[aO (by simpa using a),ay] at q;exact h.2 i d (by rw[aO (by omega),e];exact q)
def ye{i a e:Expr}{g:Lx}{it j:Value}{b:Env} (I:Nat->Shared->Prop)
  (k:∀n s,I n s->wpAny (model prog w) A (pyNext it) (λr s₁=>match r with
   |none=>R (.ok .next) s₁
   |some v=>wpAny (model prog w) A (letOwnedTupleGo a it v) (λ_ s₁=>wpAny (model prog w) A (assign a b v) (λ_ s₂=>
     wpAny (model prog w) A (forIn g true λc r=>if r=true then do let ok <-isTrue c b (eval c b);pure (ForInStep.yield ok) else pure (ForInStep.yield r)) (λok s₃=>
      if ok=true then wpAny (model prog w) A (eval i b) (λx s₄=>
       wpAny (model prog w) A (call (.builtin "list.append") [j,x]) (λ_ s₅=>∃m,m<n/\I m s₅) (λ_ _=>False) s₄) (λ_ _=>False) s₃
      else ∃m,m<n/\I m s₃) (λ_ _=>False) s₂) (λ_ _=>False) s₁) (λ_ _=>False) s₁) (λ_ _=>False) s)
  (n:Nat) (h:I n s):
  codeAny (model prog w) A (.compLoop (.ListComp i [⟨a,e,g,0⟩] scope pos) 0 it j b) R s:=by
 refine codeAny_loop rfl I (λn s q=>?_) n h;show wpAny _ A ((compTurn (.ListComp i [⟨a,e,g,0⟩] scope pos) 0 it j b).onRaise (λx=>do noteFrame x b;theTreesLotGoes x)) _ _ s;refine wpAny_noted ?_;rw[compTurn_list];refine aa (wpAny_standAt (aa (bO (k n s q) (λr s₁ d=>?_) λ_ _ z=>False.elim z)));cases r with
 |none=>exact ae d
 |some v=>
  refine aa (bO d (λ_ s₁ d=>?_) λ_ _ z=>False.elim z);refine aa (bO d (λ_ s₂ p=>aa (bO p (λok s₃ f=>?_) λ_ _ z=>False.elim z)) λ_ _ z=>False.elim z);cases ok with
  |false=>exact ae ⟨rfl,f⟩
  |true=>exact aa (aa (bO f (λx s₄ o=>aa (bO o (λ_ s₅ l=>ae (ae ⟨rfl,l⟩)) λ_ _ z=>False.elim z)) λ_ _ z=>False.elim z))
def nu(a:Lw)(n:Nat):Obj:=(zl a.toArray n)
def Eo(X:Cx)(e:Expr)(a:Scope)(i:Expr)(t:TE):Prop :=
 ∀(b:Ax) (s:Shared) (σ:St) (H:Hp) (Q:VK) (R:Value->Addr->Result->Shared->Prop),eE X b σ H s->t σ H Q ->
  (∀(D C:Addr) (j:Shared) (k:Hp) (n:Obj) (m:Str->Ow),eE X ((C,n)::b) σ k j->j.heap.Ns C m->(∀p∈X.pn++b,p.1≠C)->(zB X.s₀)<=C->Q (.ref D) k->R (.ref D) C (.ok .next) j) ->
  (zw X) (eval i X.env) (λl h=>(zw X) (pyIter l) (λit g=>(zw X) (newList []) (λacc f=>
   (zw X) (newFunctionEnv a X.env.globals (uy X.env a) [] X.env.qual Z .none (Y X.env)) (λc d=>
    codeAny (model X.prog X.w) X.A (.compStart e 0 it acc { c with scope:=relabel a X.env }) (R acc c.locals) d) X.xe f) X.xe g) X.xe h) X.xe s
def eE.uB{C:Addr}{d:Obj}{g:Heap}(I:eE X ((C,d)::pins) σ H s)(k:∀p∈X.pn++pins,p.1≠C)(h:(zB X.s₀)<=C)(i:Heap.SameBut C s.heap g):eE X pins σ H { s with heap:=g }:=by have a:=I.pin (C,d) (by simp);have J:eE X pins σ H s:=I.ml λp j=>I.pin p (ai _ (au _ j));refine J.turned (t':=s.toks) (it:=C) (λb o m e=>(i.2 b m).trans e) a.2.1 a.2.2.1 (.inr h) (λy c e z=>?_) k;obtain⟨v,o,f,l⟩:=J.cell y c e;rw[z,a.1] at f;cases f;exact a.2.2.2.2 v l
def w8{r:d9->Lp->Option Lp}(ρ:d9)(d:d8)(h:((q ρ).bind λds=>if ds.length<=sizeLine then (r ρ ds).map d8.list else Z)=Y d):∃ds a,q ρ=Y ds/\ds.length<=sizeLine/\r ρ ds=Y a/\d=.list a:=by
 obtain⟨ds,g,b⟩:=bind_some h;by_cases c:ds.length<=sizeLine
 ·rw[af c] at b;obtain⟨a,f,e⟩:=ab.mp b;exact⟨ds,a,g,c,f,e.symm⟩
 ·rw[ag c] at b;cases b
def Dk{b:Bool}{o:Od}{r:Option Lp}{a:Lp}(h:(if b then o.bind λy=>r.bind λa=>Y (y::a) else r)=Y a):if b=true then ∃y c,o=Y y/\r=Y c/\a=y::c else r=Y a:=by
 cases b with
 |false=>exact h
 |true=>obtain⟨y,g,f⟩:=bind_some h;obtain⟨c,e,d⟩:=bind_some f;cases d;exact⟨y,c,g,e,rfl⟩
def BR(c:d9)(d:d8)(i a:Lp)(h:lK g f c (d::i)=Y a):∃p b,p.length=1/\Dj 0 d ([Z]++c)=Y (p++c)/\g (p++c)=Y b/\if b=true then ∃y j,f (p++c)=Y y/\lK g f c i=Y j/\a=y::j else lK g f c i=Y a:=by obtain⟨b,k,e⟩:=bind_some h;exact⟨[Y d],b,rfl,rfl,k,Dk e⟩
def z7(A:Hp->Hp->Lp->List V->Prop) (Oj:∀{b G:Hp}{ds:Lp}{vs:List V},A b G ds vs->ds.length=vs.length) (AS:∀{b G G':Hp}{ds:Lp}{vs:List V},A b G ds vs->ez G G'->A b G' ds vs) {elt iter:Expr}  (N0:Lr)  {ifs:Lx}     {dd:d9->Od}{bd:BD} (cmp:d9->Lp->Option Lp)
  (hc:X.calm=true) (S:iH scope x) (SG:∀p∈scope.names,p.2=.free->∃c,X.env.cells.lookup p.1=Y c) (Qr:jr X scope gD)
  (hi:Fo X tg iter q)
  (hg:∀C s H fp,Pj (jH X scope C (N0++gD.map (·.2)) s H fp) tg bd)
  (ht:∀C s H fp,uA (jH X scope C (N0++gD.map (·.2)) s H fp) ifs g)
  (he:∀C s H fp,PE (jH X scope C (N0++gD.map (·.2)) s H fp) elt (λσ G Q=>∃ρ yd,hY X.K G σ ρ/\f ρ=Y yd/\∀v G',ez G G'->(∀b ds vs,A b G ds vs->A b G' (ds++[yd]) (vs++[v]))->Q v G'))
  (RD:∀ρ d,dd ρ=Y d->∃ds ys,q ρ=Y ds/\ds.length<=sizeLine/\cmp (uz gD ρ) ds=Y ys/\d=.list ys) (h0:∀c ys,cmp c []=Y ys->ys=[])
  (h1:∀c d ds ys,cmp c (d::ds)=Y ys->∃p b,p.length=N0.length/\bd d (N0.map (λ_=>Z)++c)=Y (p++c)/\g (p++c)=Y b/\if b=true then ∃y zs,f (p++c)=Y y/\cmp c ds=Y zs/\ys=y::zs else cmp c ds=Y ys):
  Eo X (.ListComp elt [⟨tg,iter,ifs,0⟩] scope pos) scope iter (λσ H Q=>∃ρ d,hY X.K H σ ρ/\dd ρ=Y d/\A H H [] []/\∀ys G D vs,d=.list ys->ez H G->G D=Z->A H G ys vs->Q (.ref D) (upd G D (.lst vs))):=by
 intro pins s σ H Q R I ⟨ρ,d,RE,e,SH,k⟩ fin;obtain⟨ds,ys,e1,hz,e3,rfl⟩:=RD ρ d e;refine gd (@hi pins s σ H (λJ H'=>ez H H'/\yb X.K J ds H') I ⟨ρ,ds,RE,e1,λJ H' s' w=>⟨s',w⟩⟩) λv sA hA=>gd hA ?_;rintro Sl L ⟨it,fp,tn,J,H2,SI,I2,T,RF,f2,U,wd⟩;subst SI;have Qs:=RE.same U;refine bt (wpAny_newFunctionEnv S.Gd (by intro y hy;simp at hy) (λM F E=>?_) S.kind);dsimp only at F E ⊢;generalize Qt:L.heap.push { cls:=.type "list",dict:=Z,data:=.seq ([]:Lw).toArray }=Nk at F E ⊢;have RG:Nk.objs.size=(zB L)+1:=by rw[<-Qt,cW]
 generalize hC:Nk.objs.size=C at F E RG ⊢;generalize hD:(zB L)=D at RG ⊢;have Qu:D≠C:=by omega
 have P:(zB L)<=C:=by omega
 have old:∀b o,L.heap.get? b=Y o->M.get? b=Y o:=λb o e=>by have j:=aj e;exact E.extBut b o (aE (aG j P)) (ah _ (Qt▸ah _ e))
 have SJ:M.get? D=Y (nu [] 0):=by refine E.extBut _ _ Qu (ah _ (Qt▸?_));rw[<-hD];exact ar _ rfl
 have RH:∀b∈fp,∃o,L.heap.get? b=Y o:=λb j=>by obtain⟨o,ho,_⟩:=T.obj 0 _ RF b j;exact⟨o,ho⟩
 have I3:eE (jH X scope C (N0++gD.map (·.2)) L H2 fp) [] (N0.map (λ_=>Z)++vT gD σ) H2 { L with heap:=M,toks:=L.toks+([]:List (Str×Value)).length } :=
  Mv N0 I2 hc S SG Qr f2 RH P old F rfl I2.bare
 have Qv:∀b∈fp,b≠D/\b≠C:=λb j=>by obtain⟨o,ho⟩:=RH b j;have:=aj ho;exact⟨aE (hD▸this),aE (aG this P)⟩
 have Qw:∀(W:Cx),W=jH X scope C (N0++gD.map (·.2)) L H2 fp->∀{G:Hp}{σ':St}{s':Shared}{l:Lw}{n:Nat},eE W [(D,nu l n)] σ' G s' ->
   ∀{t':Nat}{h':Heap}{its':Lw}{n':Nat},(∀b o,b≠D->s'.heap.get? b=Y o->h'.get? b=Y o)->h'.get? D=Y (nu its' n')->eE W [(D,nu its' n')] σ' G { s' with heap:=h',toks:=t' }:=by
  intro W hX G σ' s' l n J1 t' h' its' n' kk SK;have O:=J1.pin (D,nu l n) (by simp);have J2:eE W [] σ' G s':=J1.ml λp O=>by cases O
  have J3:eE W [] σ' G { s' with heap:=h',toks:=t' }:=by
   refine J2.turned (it:=D) (λb o j e=>kk b o j e) O.2.1 O.2.2.1 (.inr ?_) (λy c e z=>?_) (λp O=>?_)
   ·subst hX;show (zB L)<=D;omega
   ·obtain⟨v,o,ho,hd⟩:=J2.cell y c e;rw[z,O.1] at ho;cases ho;have Qx:(nu l n).data=.cell v:=hd;cases Qx
   ·subst hX;exact absurd (show p∈([]:Ax)++[] from O) (by simp)
  refine J3.ml λp Nk=>?_;have:p=(D,nu its' n'):=by simpa using Nk
  subst this;exact⟨SK,O.2.1,O.2.2.1,O.2.2.2.1,λv z=>by have z':(nu its' n').data=.cell v:=z;cases z'⟩
 have Qy:D∉Bp X.stack:=λj=>by obtain⟨_,o,ho,_⟩:=I2.stack.mem j;have:=aj ho;exact absurd this (by rw[hD];exact aW _)
 have I4:eE (jH X scope C (N0++gD.map (·.2)) L H2 fp) [(D,nu [] 0)] (N0.map (λ_=>Z)++vT gD σ) H2 { L with heap:=M,toks:=L.toks+([]:List (Str×Value)).length }:=by
  refine I3.ml λp O=>?_;have:p=(D,nu [] 0):=by simpa using O
  subst this;exact⟨SJ,I2.gr.fresh (by omega),Qu,Qy,λv z=>by have z':(nu [] 0).data=.cell v:=z;cases z'⟩
 have RI:tn 0 M:=T.keep 0 _ _ RF λb j o e=>old b o e;let W:=jH X scope C (N0++gD.map (·.2)) L H2 fp;have stat:∀{G:Hp}{pl:Ax},(∀p∈pl,p.1=D)->(∀b∈fp,G b=Z)->∀b∈fp,mW W pl G b:=λ{G pl} SM hn b j=>by
  obtain⟨f0,f1,RJ,f3,f4,f5⟩:=f2 b j;refine⟨hn b j,(Qv b j).2,λz=>?_,.inl j,λy c e=>f4 y c (iy e),λp O z=>?_⟩
  ·rcases ak.mp (I2.xN b z) with h|h
   ·exact f1 h
   ·exact RJ h
  ·have Ol:p∈pl:=by simpa [W,jH] using O
   exact(Qv b j).1 (by rw[<-z];exact SM p Ol)
 have loop:∀s₃:Shared,s₃={ L with heap:=M,toks:=L.toks+([]:List (Str×Value)).length } ->
   codeAny (model X.prog X.w) X.A (.compLoop (.ListComp elt [⟨tg,iter,ifs,0⟩] scope pos) 0 (.ref it) (.ref D) (compEnvC scope (uy X.env scope) C X.env))
    (R (.ref D) C) s₃:=by
  rintro s₃ rfl;refine ye (λn s'=>∃(i:Nat) (σ':St) (G:Hp) (l:Lw) (vs:List V) (m:Nat) (done:Lp) (Pk:Lp),eE W [(D,nu l m)] σ' G s'/\tn i s'.heap/\(∀b∈fp,G b=Z)/\ez H2 G/\hY X.K G σ' (N0.map (λ_=>Z)++uz gD ρ) /\
    eQ vs l/\A H G done vs/\done.length<=i/\i<=ds.length/\cmp (uz gD ρ) (ds.drop i)=Y Pk/\ys=done++Pk/\n=ds.length - i) ?_ ds.length
   ⟨0,_,H2,[],[],0,[],ys,I4,RI,λb j=>(f2 b j).1,.refl _,Qs.SF N0 gD,.nil,AS SH U,ax _,bL _,by simpa using e3,rfl,by simp⟩
  rintro n s' ⟨i,σ',G,l,vs,m,done,Pk,JJ,st,fr,sG,Qz,rv,Mw,Uw,Ux,e5,e6,rfl⟩;obtain⟨w1,w2⟩:=wd G sG;by_cases K5:i<ds.length
  ·
   have hd:ds[i]?=Y ds[i]:=aH K5;obtain⟨w3,w4⟩:=w2 i _ hd;rw[bF K5] at e5;obtain⟨pr,b,RK,SN,eb,e7⟩:=h1 _ _ _ _ e5;refine gd (T.item W rfl rfl rfl rfl i _ s' σ' G (λ_ _=>False) JJ (stat (by simp) fr) st w3) ?_;rintro r s5 ⟨u,hr,h5⟩;subst hr;refine gd h5 ?_;rintro _ s6 ⟨y,G6,J6,r6,y6,QA,SO⟩;obtain⟨s7,i7⟩:=w4 y G6 y6;have QB:=stat (G:=G6) (pl:=[(D,nu l m)]) (by simp) SO;have SQ:=J6.pinned QB (T.obj _ _ QA);have Om:hY X.K G6 σ' (N0.map (λ_=>Z)++uz gD ρ):=Qz.same s7;refine gd (hg C L H2 fp s6 σ' G6 y u (λσ8 H8=>ez G6 H8/\hY X.K H8 σ8 (pr++uz gD ρ)) SQ r6 ⟨_,ds[i],pr++uz gD ρ,Om,i7,SN,λσ8 H8 s8 h8=>⟨s8,h8⟩⟩) ?_;rintro _ s8 ⟨σ8,G8,J8,N,Jp⟩;refine gd (ht C L H2 fp s8 σ8 G8 (λc H9=>c=b/\ez G8 H9) J8 ⟨_,b,Jp,eb,λH9 s9=>⟨rfl,s9⟩⟩) ?_;rintro ok s9 ⟨G9,J9,⟨gr,t⟩⟩;subst gr;have K6:∀{σ7:St}{G7:Hp}{s7:Shared}{pl:Ax},eE W (pl++uf fp s6.heap) σ7 G7 s7->tn (i+1) s7.heap/\∀b∈fp,G7 b=Z:=λ{σ7 G7 s7 pl} J7=>by refine⟨T.keep _ _ _ QA λb j o e=>(J7.pin (b,o) (ai _ (ai _ (mr j e)))).1,λb j=>?_⟩;obtain⟨o,e,d⟩:=T.obj _ _ QA b j;exact(J7.pin (b,o) (ai _ (ai _ (mr j e)))).2.1
   cases ok with
   |false=>rw[ag aQ] at e7 ⊢;obtain⟨k1,k2⟩:=K6 J9;exact⟨ds.length - (i+1),by omega,i+1,σ8,G9,l,vs,m,done,Pk,J9.nh,k1,k2,sG.trans (s7.trans (N.trans t)),(Jp.less RK).same t,rv,AS Mw (s7.trans (N.trans t)),by omega,K5,e7,e6,rfl⟩
   |true=>
    rw[af rfl] at e7 ⊢;obtain⟨yd,SR,e8,SS,rfl⟩:=e7;refine gd (he C L H2 fp s9 σ8 G9 (λv QC=>ez G9 QC/\∀b ds vs,A b G9 ds vs->A b QC (ds++[yd]) (vs++[v])) J9 ⟨_,yd,Jp.same t,e8,λv QC Pm QD=>⟨Pm,QD⟩⟩) ?_;rintro RL Pm ⟨v10,RM,RN,SU,Ge,QD⟩;obtain⟨k1,k2⟩:=K6 RN;have RO:eE W [(D,nu l m)] σ8 RM Pm:=RN.nh;have Pn:=RO.pin (D,nu l m) (by simp);have hlen:l.length<=sizeLine:=by have h1:=rv.length;have h2:=Oj Mw;omega
    refine wpAny_list_append_plain (hsz:=by rw[ao];exact hlen) ⟨m,Pn.1⟩ ?_;rintro SV ⟨RP,QE⟩ Oo;have SW:=Qw W rfl RO (t':=Pm.toks) (h':=SV) (its':=l++[RL]) (n':=RP) (λb o j e=>(Oo.2 b j).trans e) (by rw[QE];simp[nu]);refine⟨ds.length - (i+1),by omega,i+1,σ8,RM,l++[RL],vs++[v10],RP,done++[yd],SR,SW,?_,k2,sG.trans (s7.trans (N.trans (t.trans Ge))),(Jp.less RK).same (t.trans Ge),rv.append (.cons SU .nil),QD _ _ _ (AS Mw (s7.trans (N.trans t))),by simp;omega,K5,SS,by simp[e6],rfl⟩;exact T.keep _ _ _ k1 λb j o e=>(Oo.2 b (Qv b j).1).trans e
  ·
   have SX:i=ds.length:=by omega
   subst SX;rw[c9] at e5;cases h0 _ _ e5;rw[bb] at e6;subst e6;refine gd (T.done W rfl rfl rfl rfl _ _ s' σ' G (λ_ _=>False) JJ (stat (by simp) fr) st w1) ?_;rintro r s9 ⟨hr,J9⟩;subst hr;have Pn:=J9.pin (D,nu l m) (by simp);obtain⟨mC,SY,_⟩:=J9.loc;have Nl:G D=Z:=Pn.2.1;have S0:G C=Z:=J9.free;have QF:o3 X.prog X.w (upd G D (.lst vs)) s9.heap:=λa o e=>by
    by_cases ha:a=D
    ·subst ha;rw[eI] at e;cases e;have h1:=rv.length;have h2:=Oj Mw;exact⟨by omega,l,m,rv,Pn.1⟩
    ·rw[en ha] at e;exact(J9.gr a o e).qN (λc w' Uy q=>q) (λc q=>by rw[en (fv q Nl)];exact q) λc xs q=>by rw[en (fv q Nl)];exact q
   have ne2:∀b o,L.heap.get? b=Y o->b≠C/\b≠D:=λb o e=>by have:=aj e;exact⟨aE (aG this P),aE (hD▸this)⟩
   have un:Un (Bp X.stack) fp H2 (upd G D (.lst vs)) L.heap s9.heap:=by
    have B:=J9.base;refine⟨λb o e n j hx=>B.keep b o e n j hx,λb o e n j hx=>B.slot b o e n j hx,λb o e n hx=>by rw[en (ne2 b o e).2];exact B.free b o e n hx,λb o e hx=>B.there b o e hx,λb xs e=>by rw[en (fv (B.qO b xs e) Nl)];exact B.qO b xs e,
     λb o u e=>by rw[en (fv (B.o4 b o u e) Nl)];exact B.o4 b o u e,λb ps e=>?_⟩
    obtain⟨mm,e1⟩:=B.sF b ps e;exact⟨mm,by rw[en (fv e1 Nl)];exact e1⟩
   have I9:eE X pins σ (upd G D (.lst vs)) s9:=I2.Nv (s':=s9) (ch:=fp) J9.os un QF J9.bare (λb j=>by obtain⟨f0,f1,RJ,f3,f4,f5⟩:=f2 b j;exact⟨f3,f1,f4,f5⟩);have S1:∀p∈X.pn++pins,p.1≠C:=λp O=>(ne2 p.1 p.2 (I2.pin p O).1).1;have S2:(zB X.s₀)<=C:=bc I2.sz P;obtain⟨oC,es,ep,RQ,rC⟩:=SY;have QG:C∉X.fs:=λj=>by
    have h1:=J9.ok.Ft;have:C∈Bp X.stack:=by
     rcases I2.ok.Nt with z | ⟨z,_⟩
     ·rw[z];exact j
     ·rw[z];obtain⟨a,h1,h2⟩:=bU.mp j;exact bU.mpr ⟨a,au _ h1,h2⟩
    obtain⟨_,o,ho,_⟩:=I2.stack.mem this;exact(ne2 C o ho).1 rfl
   have S3:C≠X.env.locals:=λz=>by obtain⟨mL,S4,_⟩:=I2.loc;obtain⟨oL,_,_,PC,_⟩:=S4;exact(ne2 _ oL PC).1 z.symm
   refine fin D C s9 _ oC mC (I9.ml λp O=>?_) ⟨oC,es,ep,RQ,rC⟩ S1 S2 (k _ _ D _ rfl (U.trans sG) Nl Mw);rcases ak.mp O with z|z
   ·subst z;refine⟨RQ,by rw[en (Ne.symm Qu)];exact S0,S3,QG,λv z=>?_⟩;rw[rC.1] at z;cases z
   ·exact I9.pin p (ai _ z)
 exact codeAny_compStart_list (loop _ rfl) (T.self X.A 0 _ _ _ RI (loop _ rfl))
def z8(A:Hp->Hp->Lp->List V->Prop) (k:∀{b G:Hp}{ds:Lp}{vs:List V},A b G ds vs->ds.length=vs.length) (y:∀{b G G':Hp}{ds:Lp}{vs:List V},A b G ds vs->ez G G'->A b G' ds vs) {j a:Expr}{o:Pos}{h:Lx}
  (w:X.calm=true) (S:iH scope x) (m:∀p∈scope.names,p.2=.free->∃c,X.env.cells.lookup p.1=Y c) (i:jr X scope gD) (l:(x::gD.map (·.2)).Nodup)
  (t:Fo X (.Name x o) a q)
  (r:∀C s H fp,uA (jH X scope C (x::gD.map (·.2)) s H fp) h g)
  (u:∀C s H fp,PE (jH X scope C (x::gD.map (·.2)) s H fp) j (λσ G Q=>∃ρ yd,hY X.K G σ ρ/\f ρ=Y yd/\∀v G',ez G G'->(∀b ds vs,A b G ds vs->A b G' (ds++[yd]) (vs++[v]))->Q v G')):
  Eo X (.ListComp j [⟨.Name x o,a,h,0⟩] scope pos) scope a (λσ H Q=>∃ρ d,hY X.K H σ ρ/\js q gD g f ρ=Y d/\A H H [] []/\∀n G D vs,d=.list n->ez H G->G D=Z->A H G n vs->Q (.ref D) (upd G D (.lst vs))):=
 z7 A k y [x] (lK g f) w S m i t (λC s H fp=>uw 0 l rfl (.inl (bZ S.var)) (.inr (bZ S.var))) r u w8 (λ_ _ e=>by cases e;rfl) BR
def Dl{a:Expr}{g:Cx}(h:PD g a f)(l:g.K=X.K):PE g a (λσ G Q=>∃ρ d,hY X.K G σ ρ/\f ρ=Y d/\∀v c,ez G c->(∀(b:Hp) ds vs,dv X.K G ds vs->dv X.K c (ds++[d]) (vs++[v]))->Q v c) :=
 PE.imp h <| by rintro σ G Q ⟨ρ,d,m,e,k⟩;exact⟨ρ,d,by rw[l];exact m,e,λv c s i=>k v c s λ_ _ _ j=>(j.same s).append (dv.cons (by rw[l] at i;exact i) dv.nil)⟩
def Eo.data{a:Expr}{i:d9->Od}(h:Eo X e scope a (λσ H Q=>∃ρ d,hY X.K H σ ρ/\i ρ=Y d/\dv X.K H [] []/\∀ys G D vs,d=.list ys->ez H G->G D=Z->dv X.K G ys vs->Q (.ref D) (upd G D (.lst vs)))):Eo X e scope a (tD X.K i) :=
 λb s σ H Q R I ⟨ρ,d,c,e,k⟩ f=>h b s σ H Q R I ⟨ρ,d,c,e,dv.nil,λys G D vs m j g l=>k _ _ (j.trans (jn g)) (by rw[m];exact zY g l)⟩ f
def Dm{e a:Expr}{k:Pos}{b:Lx}
  (o:X.calm=true) (S:iH scope x) (j:∀p∈scope.names,p.2=.free->∃c,X.env.cells.lookup p.1=Y c) (d:jr X scope gD) (i:(x::gD.map (·.2)).Nodup)
  (m:Fo X (.Name x k) a q)
  (l:∀C s H fp,uA (jH X scope C (x::gD.map (·.2)) s H fp) b g)
  (n:∀C s H fp,PD (jH X scope C (x::gD.map (·.2)) s H fp) e f):Eo X (.ListComp e [⟨.Name x k,a,b,0⟩] scope pos) scope a (tD X.K (js q gD g f)):=
 (z8 (λ_ G ds vs=>dv X.K G ds vs) dv.length (λh s=>h.same s) o S j d i m l λC s H fp=>Dl (n C s H fp) rfl).data
def Eo.pe{e a:Expr}{i:Pos}{d:Lx}{t:TE} (h:Eo X (.ListComp e [⟨.Name x i,a,d,0⟩] scope pos) scope a t) (S:iH scope x) (g:∀p∈scope.names,p.2=.free->∃c,X.env.cells.lookup p.1=Y c)
  (k:∀x,foldedSetIterable a X.env x=pure x:=by intro _;rfl):PE X (.ListComp e [⟨.Name x i,a,d,0⟩] scope pos) t:=by
 intro b s σ H Q I o;rw[eval_ListComp];refine cN (use:=Z) rfl k (lr g) S.kind S.loc (@h b s σ H Q (compPost (model X.prog X.w) X.A X.xe Z (EP X b σ Q)) I o ?_);intro D C v u y m r n l j q;exact⟨m,n,λz f=>⟨.ref D,u,r.uB l j f,rfl,q⟩⟩
def Jq{h a:Expr}{j:Pos}{b:Lx}
  (o:X.calm=true) (S:iH scope x) (d:∀p∈scope.names,p.2=.free->∃c,X.env.cells.lookup p.1=Y c) (e:jr X scope gD) (i:(x::gD.map (·.2)).Nodup)
  (m:Fo X (.Name x j) a q)
  (k:∀C s H fp,uA (jH X scope C (x::gD.map (·.2)) s H fp) b g)
  (n:∀C s H fp,PD (jH X scope C (x::gD.map (·.2)) s H fp) h f)
  (l:∀x,foldedSetIterable a X.env x=pure x:=by intro _;rfl):PD X (.ListComp h [⟨.Name x j,a,b,0⟩] scope pos) (js q gD g f) :=
 (Dm o S d e i m k n).pe S d l
def Dn{y:Str}{j g:Pos}{f a:Expr}{l:Pos}{d:Lx}{t:TE} (h:Eo X (.ListComp f [⟨.Name x l,a,d,0⟩] scope pos) scope a t) (S:iH scope x) (u:∀p∈scope.names,p.2=.free->∃c,X.env.cells.lookup p.1=Y c)
  (W:X.N.Nodup) (U:X.N[i]?=Y y) (F:X.env.scope.names.lookup y=Y .local) (n:swapsWith (.ListComp f [⟨.Name x l,a,d,0⟩] scope pos) (Y (.Name y j)) g.line X.env=pure true)
  (O:∀x,foldedSetIterable a X.env x=pure x:=by intro _;rfl):PS X (.Assign [.Name y j] (.ListComp f [⟨.Name x l,a,d,0⟩] scope pos) g) (LP t (CV i)):=by
 intro b s σ H D I V;rw[exec_Assign_Name_used _ _ _ _ n];refine aa (wpAny_standAt (aa ?_));show wpAny _ X.A (do let _ <-comprehension (.ListComp f [⟨.Name x l,a,d,0⟩] scope pos) scope X.env _ (newList []) false (eval a X.env) (Y (assign (.Name y j) X.env))) _ _ s;refine aa (bO (cN (use:=Y (assign (.Name y j) X.env)) (Q:=λ_ k=>SP X b D .next k) rfl O (lr u) S.kind S.loc
  (@h b s σ H _ (compPost (model X.prog X.w) X.A X.xe (Y (assign (.Name y j) X.env)) (λ_ k=>SP X b D .next k)) I V ?_)) (λ_ k P=>ae (ae P)) λ_ _ e=>e)
 intro B C K H9 E m G T R M q;show wpAny _ X.A (assign (.Name y j) X.env (.ref B)) _ _ _;refine bO (pU W U (.inl F) (.inr F) K σ H9 (.ref B) (.ref B) (λσ' H'=>D.nx σ' H') G rfl q) (?_) λ_ _ e=>e;rintro _ k ⟨σ',H',J,L⟩;have z:=J.pin (C,E) (by simp);have v:=G.pin (C,E) (by simp);refine⟨m,T.at' λo e=>?_,λh' r=>⟨σ',H',J.uB R M r,L⟩⟩;rw[v.1] at e;cases e;exact z.1
end
def Gf:HO->Prop
 |.lst _=>True
 |.dK _=>True
 |_=>False
def eD(G:Hp):List (Addr×HO)->Hp
 |[]=>G
 | (p,o)::r=>upd (eD G r) p o
inductive lL:List (Addr×HO)->Prop
 |nil:lL []
 |one {p:Addr}{o:HO}{r:List (Addr×HO)}:Gf o->lL r->lL ((p,o)::r)
 |ins {p C dx:Addr}{fs:List (Str×V)}{r:List (Addr×HO)}:lL r->lL ((p,.ins C dx fs)::(dx,.own p)::r)
def lL.append{A:List (Addr×HO)}(h:lL A)(h':lL B):lL (A++B):=by
 induction h with
 |nil=>exact h'
 |one f _ a=>exact .one f a
 |ins _ a=>exact .ins a
structure ip (G:Hp) (B:List (Addr×HO)):Prop where
 nd:(B.map (·.1)).Nodup
 free:∀x∈B,G x.1=Z
 ok:lL B
theorem ip.nil{G:Hp}:ip G []:=⟨dD,(λx a=>by cases a),.nil⟩
theorem fg{G:Hp}{a:Addr}:∀{B:List (Addr×HO)},(∀x∈B,x.1≠a)->eD G B a=G a
 |[],_=>rfl
 | (p,o)::r,h=>by show upd (eD G r) p o a=G a;rw[en (Ne.symm (h (p,o) (by simp)))];exact fg λx b=>h x (au _ b)
theorem eO{G:Hp}:∀{B:List (Addr×HO)},(B.map (·.1)).Nodup->∀x∈B,eD G B x.1=Y x.2
 |[],_,_,h=>by cases h
 | (p,o)::r,nd,x,hx=>by
  rw[az,bp] at nd;rcases ak.mp hx with e|hx
  ·subst e;exact eI
  ·show upd (eD G r) p o x.1=Y x.2;have a:x.1≠p:=λe=>nd.1 (by rw[<-e];exact aJ.mpr ⟨x,hx,rfl⟩);rw[en a];exact eO nd.2 x hx
def k0(B:List (Addr×HO)):(∃x∈B,x.1=a)\/(∀x∈B,x.1≠a):=by
 by_cases h:∃x∈B,x.1=a
 ·exact .inl h
 ·exact .inr λx b e=>h ⟨x,b,e⟩
def oh(c:(B.map (·.1)).Nodup)(e:∀x∈B,H x.1=Y x.2)(d:∀a,(∀x∈B,x.1≠a)->H a=G a):H=eD G B:=by
 funext a
 rcases k0 (a:=a) B with ⟨x,b,rfl⟩|h
 ·rw[e x b,eO c x b]
 ·rw[d a h,fg h]
theorem gq(G:Hp):∀(A B:List (Addr×HO)),eD G (A++B)=eD (eD G B) A
 |[],_=>rfl
 | (p,o)::r,B=>by show upd (eD G (r++B)) p o=upd (eD (eD G B) r) p o;rw[gq G r B]
def gu{A:List (Addr×HO)}(d:(A.map (·.1)).Nodup)(h:A.Perm B):eD G A=eD G B:=by have b:(B.map (·.1)).Nodup:=(h.map (·.1)).nodup_iff.mp d;refine oh b (λx c=>eO d x (h.mem_iff.mpr c)) λa e=>fg λx c=>e x (h.mem_iff.mp c)
def ip.same(f:ip G B):ez G (eD G B):=λa o e=>by
 rw[fg λx b z=>?_]
 ·exact e
 ·have:=f.free x b;rw[z,e] at this;cases this
def ip.BS{A:List (Addr×HO)}(f:ip G (A++B))(d:lL A):ip (eD G B) A:=by have a:=f.nd;rw[bC,bP] at a;refine⟨a.1,λx b=>?_,d⟩;rw[fg λy c z=>a.2.2 _ (aJ.mpr ⟨x,b,rfl⟩) _ (aJ.mpr ⟨y,c,rfl⟩) z.symm];exact f.free x (aw _ b)
def ip.BU{A:List (Addr×HO)}(f:ip G (A++B))(c:lL B):ip G B:=by have a:=f.nd;rw[bC,bP] at a;exact⟨a.2.1,λx b=>f.free x (ai _ b),c⟩
def ip.join{A:List (Addr×HO)}(f:ip G B)(g:ip (eD G B) A):ip G (A++B):=by
 have d:∀x∈A,∀y∈B,x.1≠y.1:=λx e y c z=>by have i:=g.free x e;rw[z,eO f.nd y c] at i;cases i
 refine⟨?_,λx e=>?_,g.ok.append f.ok⟩
 ·rw[bC,bP];refine⟨g.nd,f.nd,λa k b j z=>?_⟩;obtain⟨x,e,rfl⟩:=aJ.mp k;obtain⟨y,c,rfl⟩:=aJ.mp j;exact d x e y c z
 ·rcases aC.mp e with h|h
  ·have i:=g.free x h;rw[fg λy c z=>d x h y c z.symm] at i;exact i
  ·exact f.free x h
def ip.perm{A:List (Addr×HO)}(f:ip G A)(h:A.Perm B)(a:lL B):ip G B :=
 ⟨(h.map (·.1)).nodup_iff.mp f.nd,λx b=>f.free x (h.mem_iff.mpr b),a⟩
section
variable {s:Shared}{p:Addr}{o:HO}
def Jr(I:eE X pins σ (upd H p o) s)(g:Gf o):∃a,s.heap.get? p=Y a/\∀v,a.data≠.cell v:=by
 have h:=I.gr p o eI;cases o with
 |lst d=>obtain⟨_,b,n,_,e⟩:=h;exact⟨_,e,λv z=>by have c:Data.seq b.toArray n=.cell v:=z;cases c⟩
 |dK f=>obtain⟨_,_,d,_,a,j,k,e,_,i,_⟩:=h;exact⟨a,e,λv z=>by rw[i] at z;cases z⟩
 |_=>exact g.elim
def Gg{P:Program}{s:Hp}{f:Heap}{a:Obj}(k:Gf o)(x:gC P w H h p o)(e:h.get? p=Y a)(g:f.get? p=Y a):gC P w s f p o:=by
 cases o with
 |lst d=>obtain⟨z,b,n,r,q⟩:=x;rw[e] at q;cases q;exact⟨z,b,n,r,g⟩
 |dK j=>obtain⟨z,y,d,r,i,l,m,q,c⟩:=x;rw[e] at q;cases q;exact⟨z,y,d,r,a,l,m,g,c⟩
 |_=>exact k.elim
def Oq(I:eE X pins σ (upd H p o) s)(W:H p=Z)(j:Gf o):∃k,eE X (pins++[(p,k)]) σ H s /\
  ∀(G:Hp) (N:Shared) (σ':St),eE X (pins++[(p,k)]) σ' G N->G p=Z/\eE X pins σ' (upd G p o) N:=by
 obtain⟨k,D,f⟩:=Jr I j;have nt:∀b u,H b=Y u->b≠p:=λb u e=>fv e W;have t:∀b,upd H p o b=Z->b≠p/\H b=Z:=λb e=>by
  have g:b≠p:=λz=>by rw[z,eI] at e;cases e
  rw[en g] at e;exact⟨g,e⟩
 have F:∀b u,upd H p o b=Y u->u≠o->H b=Y u:=λb u e hu=>by
  by_cases g:b=p
  ·rw[g,eI] at e;cases e;exact absurd rfl hu
  ·rw[en g] at e;exact e
 have l:∀i,(HO.tup i)≠o:=λi e=>by rw[<-e] at j;exact j
 have B:∀q u,(HO.oz q u)≠o:=λq u e=>by rw[<-e] at j;exact j
 have y:∀w,(HO.IG w)≠o:=λw e=>by rw[<-e] at j;exact j
 have A:∀a,(HO.own a)≠o:=λa e=>by rw[<-e] at j;exact j
 have hL:p≠X.env.locals:=λz=>by have:=I.free;rw[<-z,eI] at this;cases this
 have U:p∉X.fs:=λg=>by obtain⟨_,q,d,_⟩:=I.ok.o5.mem g;have:=I.base.free p q d (I.ok.Ft p g) λz=>I.ok.Bt p z g;rw[eI] at this;cases this
 have Q:∀q∈X.pn++pins,q.1≠p:=λq d=>(t q.1 (I.pin q d).2.1).1;have h0:∀q,X.s₀.heap.get? p=Y q->X.H₀ p=Z->p∈X.ex:=λq d T=>by
  by_cases r:p∈X.ex
  ·exact r
  ·have:=I.base.free p q d T r;rw[eI] at this;cases this
 refine⟨k,?_,?_⟩
 ·refine⟨I.ok,I.os,I.bare,⟨I.base.keep,I.base.slot,λb q e n r=>(t b (I.base.free b q e n r)).2,I.base.there,λb i e=>F b _ (I.base.qO b i e) (l i),λb q u e=>F b _ (I.base.o4 b q u e) (B q u),λb w e=>?_⟩,I.loc,I.cell,(t _ I.free).2,λx c e=>(t c (I.kl x c e)).2,λq d=>?_,λa u e=>?_,I.len⟩
  ·obtain⟨m,V⟩:=I.base.sF b w e;exact⟨m,F b _ V (y _)⟩
  ·rcases aC.mp d with h|h
   ·obtain⟨M,L,K⟩:=I.pin q (aw _ h);exact⟨M,(t _ L).2,K⟩
   ·rcases aC.mp h with h|h
    ·obtain⟨M,L,K⟩:=I.pin q (ai _ h);exact⟨M,(t _ L).2,K⟩
    ·have:q=(p,k):=by simpa using h
     subst this;exact⟨D,W,hL,U,f⟩
  ·have O:=nt a u e;exact(I.gr a u (by rw[en O];exact e)).qN (λ_ _ _ q=>q) (λb q=>F b _ q (A a)) λb i q=>F b _ q (l i)
 ·intro G N σ' J;have S:=J.pin (p,k) (ai _ (ai _ (by simp)));have E:G p=Z:=S.2.1;have C:∀b u,G b=Y u->upd G p o b=Y u:=λb u e=>by rw[en (fv e E)];exact e
  refine⟨E,⟨J.ok,J.os,J.bare,⟨J.base.keep,J.base.slot,λb q e n r=>?_,J.base.there,λb i e=>C b _ (J.base.qO b i e),λb q u e=>C b _ (J.base.o4 b q u e),λb w e=>?_⟩,J.loc,J.cell,?_,λx c e=>?_,λq d=>?_,λa u e=>?_,J.len⟩⟩
  ·have g:b≠p:=λz=>by subst z;exact r (h0 q e n)
   rw[en g];exact J.base.free b q e n r
  ·obtain⟨m,V⟩:=J.base.sF b w e;exact⟨m,C b _ V⟩
  ·rw[en (Ne.symm hL)];exact J.free
  ·have hc:c≠p:=λz=>by
    obtain⟨v,q,d,hd⟩:=J.cell x c e;rw[z] at d;have R:N.heap.get? p=Y k:=S.1;rw[R] at d;cases d;exact f v hd
   rw[en hc];exact J.kl x c e
  ·have P:q∈X.pn++(pins++[(p,k)]):=by
    rcases aC.mp d with h|h
    ·exact aw _ h
    ·exact ai _ (aw _ h)
   obtain⟨M,L,K⟩:=J.pin q P;exact⟨M,by rw[en (Q q d)];exact L,K⟩
  ·by_cases O:a=p
   ·subst O;rw[eI] at e;cases e;exact Gg j (I.gr a o eI) D S.1
   ·rw[en O] at e;exact(J.gr a u e).qN (λ_ _ _ q=>q) (λb q=>C b _ q) λb i q=>C b _ q
def Ot{C d:Addr}{y:List (Str×V)}(I:eE X pins σ (upd (upd H d (.own p)) p (.ins C d y)) s)(hn:H p=Z)(R:H d=Z)(QH:d≠p):∃ob t,eE X (pins++[(p,ob),(d,t)]) σ H s /\
  ∀(G:Hp) (M:Shared) (σ':St),eE X (pins++[(p,ob),(d,t)]) σ' G M->G p=Z/\G d=Z/\eE X pins σ' (upd (upd G d (.own p)) p (.ins C d y)) M:=by
 obtain⟨z1,z2,z3,S5,mA,ns,rl,wi⟩:=(show gC X.prog X.w (upd (upd H d (.own p)) p (.ins C d y)) s.heap p (.ins C d y) from I.gr p _ eI)
 obtain⟨t,es,ep,Q,T,D⟩:=id ns;have r:∀v,(W.instObj C d).data≠.cell v:=λv z=>by cases z
 have j:∀v,t.data≠.cell v:=λv z=>by
  first
  | (rw[T] at z;cases z)
  | (rw[T.2.2] at z;cases z)
  | (rw[D.1] at z;cases z)
 have A:∀(F:Hp),upd (upd F d (.own p)) p (.ins C d y) d=Y (.own p):=λF=>by rw[en QH,eI]
 have K:∀b,upd (upd H d (.own p)) p (.ins C d y) b=Z->b≠p/\b≠d/\H b=Z:=λb e=>by
  have i:b≠p:=λz=>by rw[z,eI] at e;cases e
  rw[en i] at e;have g:b≠d:=λz=>by rw[z,eI] at e;cases e
  rw[en g] at e;exact⟨i,g,e⟩
 have nG:∀(G:Hp),G p=Z->G d=Z->∀b u,G b=Y u->upd (upd G d (.own p)) p (.ins C d y) b=Y u:=λG g1 g2 b u e=>by rw[en (fv e g1),en (fv e g2)];exact e
 have bk:∀(G:Hp) b u,upd (upd G d (.own p)) p (.ins C d y) b=Y u->u≠.ins C d y->u≠.own p->G b=Y u:=λG b u e hu S6=>by
  by_cases i:b=p
  ·rw[i,eI] at e;cases e;exact absurd rfl hu
  ·rw[en i] at e;by_cases g:b=d
   ·rw[g,eI] at e;cases e;exact absurd rfl S6
   ·rw[en g] at e;exact e
 have hL:p≠X.env.locals:=λz=>by have:=I.free;rw[<-z,eI] at this;cases this
 have RR:d≠X.env.locals:=λz=>by have:=I.free;rw[<-z,A] at this;cases this
 have S7:p∉X.fs:=λi=>by obtain⟨_,q,f,_⟩:=I.ok.o5.mem i;have:=I.base.free p q f (I.ok.Ft p i) λz=>I.ok.Bt p z i;rw[eI] at this;cases this
 have S:d∉X.fs:=λi=>by obtain⟨_,q,f,_⟩:=I.ok.o5.mem i;have:=I.base.free d q f (I.ok.Ft d i) λz=>I.ok.Bt d z i;rw[A] at this;cases this
 have O:∀q∈X.pn++pins,q.1≠p/\q.1≠d:=λq f=>let z:=K q.1 (I.pin q f).2.1;⟨z.1,z.2.1⟩;have h0:∀q,X.s₀.heap.get? p=Y q->X.H₀ p=Z->p∈X.ex:=λq f E=>by
  by_cases k:p∈X.ex
  ·exact k
  ·have:=I.base.free p q f E k;rw[eI] at this;cases this
 have S8:∀q,X.s₀.heap.get? d=Y q->X.H₀ d=Z->d∈X.ex:=λq f E=>by
  by_cases k:d∈X.ex
  ·exact k
  ·have:=I.base.free d q f E k;rw[A] at this;cases this
 refine⟨W.instObj C d,t,?_,?_⟩
 ·refine⟨I.ok,I.os,I.bare,⟨I.base.keep,I.base.slot,λb q e n k=>(K b (I.base.free b q e n k)).2.2,I.base.there,λb L e=>bk H b _ (I.base.qO b L e) (λz=>nomatch z) (λz=>nomatch z),λb q u e=>bk H b _ (I.base.o4 b q u e) (λz=>nomatch z) (λz=>nomatch z),λb ps e=>?_⟩,I.loc,I.cell,(K _ I.free).2.2,λx c e=>(K c (I.kl x c e)).2.2,λq f=>?_,λa u e=>?_,I.len⟩
  ·obtain⟨m,e1⟩:=I.base.sF b ps e;exact⟨m,bk H b _ e1 (λz=>nomatch z) (λz=>nomatch z)⟩
  ·rcases aC.mp f with h|h
   ·obtain⟨a1,a2,a3⟩:=I.pin q (aw _ h);exact⟨a1,(K _ a2).2.2,a3⟩
   ·rcases aC.mp h with h|h
    ·obtain⟨a1,a2,a3⟩:=I.pin q (ai _ h);exact⟨a1,(K _ a2).2.2,a3⟩
    ·rcases ak.mp h with h|h
     ·subst h;exact⟨S5,hn,hL,S7,r⟩
     ·have:q=(d,t):=by simpa using h
      subst this;exact⟨Q,R,RR,S,j⟩
  ·have ha:a≠p:=fv e hn;refine(I.gr a u (nG H hn R a u e)).qN (λ_ _ _ q=>q) (λb q=>bk H b _ q (λz=>nomatch z) (λz=>ha (by cases z;rfl))) λb L q=>bk H b _ q (λz=>nomatch z) (λz=>nomatch z)
 ·intro G M σ' J;have hp:=J.pin (p,W.instObj C d) (ai _ (ai _ (by simp)));have P:=J.pin (d,t) (ai _ (ai _ (by simp)));have RS:G p=Z:=hp.2.1;have RT:G d=Z:=P.2.1;have l:M.heap.get? d=Y t:=P.1;have B:M.heap.get? p=Y (W.instObj C d):=hp.1;have N:=nG G RS RT;refine⟨RS,RT,⟨J.ok,J.os,J.bare,⟨J.base.keep,J.base.slot,λb q e n k=>?_,J.base.there,λb L e=>N b _ (J.base.qO b L e),λb q u e=>N b _ (J.base.o4 b q u e),λb ps e=>?_⟩,J.loc,J.cell,?_,λx c e=>?_,λq f=>?_,λa u e=>?_,J.len⟩⟩
  ·have i:b≠p:=λz=>by subst z;exact k (h0 q e n)
   have g:b≠d:=λz=>by subst z;exact k (S8 q e n)
   rw[en i,en g];exact J.base.free b q e n k
  ·obtain⟨m,e1⟩:=J.base.sF b ps e;exact⟨m,N b _ e1⟩
  ·rw[en (Ne.symm hL),en (Ne.symm RR)];exact J.free
  ·have hc:c≠p:=λz=>by
    obtain⟨v,q,f,hd⟩:=J.cell x c e;rw[z,B] at f;cases f;exact r v hd
   have S9:c≠d:=λz=>by obtain⟨v,q,f,hd⟩:=J.cell x c e;rw[z,l] at f;cases f;exact j v hd
   rw[en hc,en S9];exact J.kl x c e
  ·have Ta:q∈X.pn++(pins++[(p,W.instObj C d),(d,t)]):=by
    rcases aC.mp f with h|h
    ·exact aw _ h
    ·exact ai _ (aw _ h)
   obtain⟨a1,a2,a3⟩:=J.pin q Ta;exact⟨a1,by rw[en (O q f).1,en (O q f).2];exact a2,a3⟩
  ·by_cases ha:a=p
   ·subst ha;rw[eI] at e;cases e;exact⟨A G,z2,z3,B,mA,ns.at λo q=>by rw[Q] at q;cases q;exact l,rl,wi⟩
   ·rw[en ha] at e;by_cases U:a=d
    ·subst U;rw[eI] at e;cases e;exact⟨t,l⟩
    ·rw[en U] at e;exact(J.gr a u e).qN (λ_ _ _ q=>q) (λb q=>N b _ q) λb L q=>N b _ q
def z9(ok:lL B):∀{a:Ax}{G:Hp}{σ:St}{s:Shared},eE X a σ (eD G B) s->ip G B->∃t,eE X (a++t) σ G s/\(∀q∈t,∃x∈B,q.1=x.1)/\(∀x∈B,∃q∈t,q.1=x.1) /\
  ∀(d:Hp) (m:Shared) (σ':St),eE X (a++t) σ' d m->ip d B/\eE X a σ' (eD d B) m:=by
 induction ok with
 |nil=>exact λI f=>⟨[],by rw[bb];exact I,(λq n=>by cases n),(λx b=>by cases b),λd m σ' J=>⟨ip.nil,by rw[bb] at J;exact J⟩⟩
 |@one p o r hf u N=>
  intro a G σ s I f;have w:=bp.mp (show (p::r.map (·.1)).Nodup from f.nd);have R:ip G r:=⟨w.2,λy O=>f.free y (au _ O),u⟩
  have g:∀x∈r,x.1≠p:=λx b e=>w.1 (aJ.mpr ⟨x,b,e⟩);have v:eD G r p=Z:=by rw[fg g];exact f.free (p,o) (by simp)
  obtain⟨A,W,l⟩:=Oq (H:=eD G r) I v hf;obtain⟨t,V,M,L,c⟩:=N W R;refine⟨(p,A)::t,by simpa using V,λq n=>?_,λx b=>?_,λd m σ' J=>?_⟩
  ·rcases ak.mp n with e|h
   ·exact⟨(p,o),by simp,by rw[e]⟩
   ·obtain⟨x,b,e⟩:=M q h;exact⟨x,au _ b,e⟩
  ·rcases ak.mp b with e|h
   ·exact⟨(p,A),by simp,by rw[e]⟩
   ·obtain⟨q,n,e⟩:=L x h;exact⟨q,au _ n,e⟩
  ·obtain⟨S,U⟩:=c d m σ' (by simpa using J);obtain⟨i,T⟩:=l (eD d r) m σ' U;have j:d p=Z:=by rw[fg g] at i;exact i
   refine⟨⟨f.nd,λx b=>?_,f.ok⟩,T⟩;rcases ak.mp b with e|h
   ·rw[e];exact j
   ·exact S.free x h
 |@ins p C k fs r u N=>
  intro a G σ s I f;have w:=bp.mp (show (p::k::r.map (·.1)).Nodup from f.nd);have D:=bp.mp w.2;have R:ip G r:=⟨D.2,λy O=>f.free y (au _ (au _ O)),u⟩
  have P:k≠p:=λz=>w.1 (by rw[<-z];simp);have g:∀x∈r,x.1≠p:=λx b e=>w.1 (au _ (aJ.mpr ⟨x,b,e⟩));have E:∀x∈r,x.1≠k:=λx b e=>D.1 (aJ.mpr ⟨x,b,e⟩);have v:eD G r p=Z:=by rw[fg g];exact f.free (p,.ins C k fs) (by simp)
  have Q:eD G r k=Z:=by rw[fg E];exact f.free (k,.own p) (by simp)
  obtain⟨A,od,W,l⟩:=Ot (H:=eD G r) I v Q P;obtain⟨t,V,M,L,c⟩:=N W R;refine⟨(p,A)::(k,od)::t,by simpa using V,λq n=>?_,λx b=>?_,λd m σ' J=>?_⟩
  ·rcases ak.mp n with e|h
   ·exact⟨(p,.ins C k fs),by simp,by rw[e]⟩
   ·rcases ak.mp h with e|h
    ·exact⟨(k,.own p),by simp,by rw[e]⟩
    ·obtain⟨x,b,e⟩:=M q h;exact⟨x,au _ (au _ b),e⟩
  ·rcases ak.mp b with e|h
   ·exact⟨(p,A),by simp,by rw[e]⟩
   ·rcases ak.mp h with e|h
    ·exact⟨(k,od),by simp,by rw[e]⟩
    ·obtain⟨q,n,e⟩:=L x h;exact⟨q,au _ (au _ n),e⟩
  ·obtain⟨S,U⟩:=c d m σ' (by simpa using J);obtain⟨i,F,T⟩:=l (eD d r) m σ' U;have j:d p=Z:=by rw[fg g] at i;exact i
   have K:d k=Z:=by rw[fg E] at F;exact F
   refine⟨⟨f.nd,λx b=>?_,f.ok⟩,T⟩;rcases ak.mp b with e|h
   ·rw[e];exact j
   ·rcases ak.mp h with e|h
    ·rw[e];exact K
    ·exact S.free x h
def PE.frame{t:TE}(h:PE X e t):PE X e (λσ H Q=>∃G B,H=eD G B/\ip G B/\t σ G λv b=>ip b B->Q v (eD b B)):=by intro c s σ H Q I ⟨G,B,j,f,g⟩;subst j;obtain⟨m,l,_,_,a⟩:=z9 f.ok I f;refine gd (@h _ s σ G _ l g) ?_;rintro v d ⟨x,b,J,r,q⟩;obtain⟨i,k⟩:=a b d σ J;exact⟨x,eD b B,k,r,q i⟩
def PI.frame{a:Expr}{t:TI}(h:PI X tg a t):PI X tg a (λσ H R=>∃G B,H=eD G B/\ip G B/\t σ G λJ d=>ip d B->R J (eD d B)):=by
 intro i s σ H R I ⟨G,B,Q,f,y⟩;subst Q;obtain⟨PB,W,m1,o,c⟩:=z9 f.ok I f;refine gd (@h _ s σ G _ W y) λv s1 E=>gd E ?_;rintro r m ⟨u,F,k,J,d,e,V,T,l,C,q⟩;obtain⟨P,U⟩:=c d m σ V;refine⟨u,F,k,J,eD d B,e,U,T,l,λb D=>?_,q P⟩;obtain⟨O,N,M,L,K,j⟩:=C b D;refine⟨?_,N,M,L,K,λp A=>j p ?_⟩
 ·rw[fg λx w z=>?_]
  ·exact O
  ·obtain⟨n,g,S⟩:=o x w;exact j n (ai _ (ai _ g)) (S.trans z)
 ·rcases aC.mp A with h|h
  ·exact aw _ h
  ·exact ai _ (aw _ h)
def PA.frame{e:Lx}{t:TA}(h:PA X e t):PA X e (λσ H Q=>∃G B,H=eD G B/\ip G B/\t σ G λi b=>ip b B->Q i (eD b B)):=by intro c d s σ H Q I ⟨G,B,m,f,k⟩;subst m;obtain⟨u,o,_,_,a⟩:=z9 f.ok I f;refine gd (@h c _ s σ G _ o k) ?_;rintro p j ⟨g,b,J,r,q⟩;obtain⟨l,n⟩:=a b j σ J;exact⟨g,eD b B,n,r,q l⟩
end
noncomputable def lu(f:Str):List (d8×d8)->Od
 |[]=>Z
 | (.str g,d)::r=>if g=f then Y d else lu f r
 |_::r=>lu f r
noncomputable def mX(f:Str)(y:d8):List (d8×d8)->List (d8×d8)
 |[]=>[(.str f,y)]
 | (.str g,d)::r=>if g=f then (.str g,y)::r else (.str g,d)::mX f y r
 |x::r=>x::mX f y r
section
theorem iG.get{f:Str}{d:d8}:∀{r:List (d8×d8)}{c:List (Str×V)},iG K H r c->lu f r=Y d->∃v,c.lookup f=Y v/\et K H d v
 |[],_,_,e=>by cases e
 | (k,x)::r,_,h,e=>by
  obtain⟨y,v,g,rfl,rfl,i,t⟩:=iG.eh.mp h;by_cases q:y=f
  ·simp only[lu,af q] at e;cases e;exact⟨v,by rw[a0,cu.mpr q.symm],i⟩
  ·simp only[lu,ag q] at e;obtain⟨u,a,b⟩:=iG.get t e;exact⟨u,by rw[a0,a7.mpr (λz=>q z.symm)];exact a,b⟩
theorem iG.none{f:Str}:∀{r:List (d8×d8)}{a:List (Str×V)},iG K H r a->lu f r=.none->a.lookup f=.none
 |[],_,h,e=>by rw[iG.eC.mp h];rfl
 | (k,x)::r,_,h,e=>by
  obtain⟨y,v,b,rfl,rfl,i,t⟩:=iG.eh.mp h;by_cases q:y=f
  ·simp only[lu,af q] at e;cases e
  ·simp only[lu,ag q] at e;rw[a0,a7.mpr (λz=>q z.symm)];exact iG.none t e
noncomputable def jI(c f:Str):Bool:=(c=="Reading"&&(f=="fields"||f=="heads"||f=="blocks"||f=="later"))||(c=="Outline"&&(f=="params"||f=="kept"||f=="own_rows"||f=="fields"))
def my(c f:Str):Bool:=c=="Outline"&&f=="own_rows"
def mY(K:Fg)(G:Hp)(d:d8)(q:Addr)(o:HO):Prop :=
 (∃e b,d=.list e/\o=.lst b/\dv K G e b)\/∃a c,d=.dict a/\o=.dK c/\fq K G a c
def QI:d8->Bool
 |.list _=>true
 |_=>false
def IA(K:Fg)(G:Hp)(d:d8)(v:V)(B:List (Addr×HO)):Prop:=(QI d=false/\et K G d v/\B=[])\/∃b p a,d=.list b/\v=.ref p/\B=[(p,.lst a)]/\dv K G b a
def Br(K:Fg)(G:Hp):Lp->List V->List (Addr×HO)->Prop
 |[],vs,B=>vs=[]/\B=[]
 |d::ds,vs,B=>∃v a c b,vs=v::a/\B=c++b/\IA K G d v c/\Br K G ds a b
def qM(K:Fg)(G:Hp):List (d8×d8)->List (Key×V)->List (Addr×HO)->Prop
 |[],kv,B=>kv=[]/\B=[]
 | (k,d)::r,kv,B=>∃y v a c b,kv=(y,v)::a/\k=gW y/\B=c++b/\IA K G d v c/\qM K G r a b
def QJ(K:Fg)(G:Hp)(d:d8)(o:HO)(B:List (Addr×HO)):Prop :=
 (∃e b,d=.list e/\o=.lst b/\Br K G e b B)\/∃a c,d=.dict a/\o=.dK c/\qM K G a c B
def lx(a:Bool)(K:Fg)(G:Hp)(d:d8)(q:Addr)(o:HO)(B:List (Addr×HO)):Prop:=match a with
 |false=>mY K G d q o/\B=[]
 |true=>QJ K G d o B
def hH(K:Fg)(G:Hp)(c:Str):List (d8×d8)->List (Str×V)->List (Addr×HO)->Prop
 |[],fs,B=>fs=[]/\B=[]
 | (k,d)::r,fs,B=>∃y v a,fs=(y,v)::a/\k=.str y/\((jI c y=false/\et K G d v/\hH K G c r a B)\/(jI c y=true/\∃q o b e,v=.ref q/\B=(q,o)::(b++e)/\lx (my c y) K G d q o b/\hH K G c r a e))
def hI(g:Bool)(K:Fg)(G:Hp)(d:d8)(v:V)(B:List (Addr×HO)):Prop :=
 (∃q o e,v=.ref q/\B=(q,o)::e/\lx g K G d q o e) \/
 ∃c C p b a r f,d=.dict ((.none,.str c)::r)/\v=.ref p/\B=(p,.ins C b a)::(b,.own p)::f/\iO K c C/\hH K G c r a f
theorem IA.sim{f:Hp}{d:d8}{v:V}{B:List (Addr×HO)}(e:vR K G f)(h:IA K G d v B):IA K f d v B:=by
 rcases h with ⟨a,b,c⟩ | ⟨i,p,g,a,b,c,t⟩
 ·exact .inl ⟨a,b.sim e,c⟩
 ·exact .inr ⟨i,p,g,a,b,c,t.sim e⟩
def IA.jJ{d:d8}(h:IA K G d v B):lL B:=by
 rcases h with ⟨a,b,c⟩ | ⟨f,p,e,a,b,c,t⟩
 ·rw[c];exact .nil
 ·rw[c];exact .one aN .nil
def IA.Fp{d:d8}(h:IA K G d v B)(e:ez G H)(f:∀x∈B,H x.1=Y x.2):et K H d v:=by
 rcases h with ⟨a,b,c⟩ | ⟨g,p,vs,rfl,rfl,rfl,t⟩
 ·exact b.same e
 ·exact et.eK.mpr ⟨p,vs,rfl,jS.of (f (p,.lst vs) (by simp)),t.same e⟩
theorem Br.sim{g:Hp}(e:vR K G g):∀{f:Lp}{d:List V}{B:List (Addr×HO)},Br K G f d B->Br K g f d B
 |[],_,_,h=>h
 |_::_,_,_,⟨v,Gh,B1,B2,a,b,c,t⟩=>⟨v,Gh,B1,B2,a,b,c.sim e,Br.sim e t⟩
theorem Br.jJ:∀{e:Lp}{d:List V}{B:List (Addr×HO)},Br K G e d B->lL B
 |[],_,_,h=>by rw[h.2];exact .nil
 |_::_,_,_,⟨v,Gh,B1,B2,a,b,c,t⟩=>by rw[b];exact c.jJ.append t.jJ
theorem Br.Ou(e:ez G H):∀{g:Lp}{f:List V}{B:List (Addr×HO)},Br K G g f B->(∀x∈B,H x.1=Y x.2)->dv K H g f
 |[],_,_,h,_=>by rw[h.1];exact dv.nil
 |_::_,_,_,⟨v,Gh,B1,B2,a,b,c,t⟩,hB=>by subst a b;exact dv.cons (c.Fp e λx d=>hB x (aw _ d)) (t.Ou e λx d=>hB x (ai _ d))
theorem qM.sim{g:Hp}(e:vR K G g):∀{f:List (d8×d8)}{d:List (Key×V)}{B:List (Addr×HO)},qM K G f d B->qM K g f d B
 |[],_,_,h=>h
 | (_,_)::_,_,_,⟨y,v,Gh,B1,B2,a,a2,b,c,t⟩=>⟨y,v,Gh,B1,B2,a,a2,b,c.sim e,qM.sim e t⟩
def qM.same{a:Hp}(e:ez G a):∀{ds:List (d8×d8)}{vs:List (Key×V)}{B:List (Addr×HO)},qM K G ds vs B->qM K a ds vs B:=λh=>qM.sim e.sim h
theorem qM.jJ:∀{e:List (d8×d8)}{d:List (Key×V)}{B:List (Addr×HO)},qM K G e d B->lL B
 |[],_,_,h=>by rw[h.2];exact .nil
 | (_,_)::_,_,_,⟨y,v,Gh,B1,B2,a,a2,b,c,t⟩=>by rw[b];exact c.jJ.append t.jJ
theorem qM.Ov(e:ez G H):∀{g:List (d8×d8)}{f:List (Key×V)}{B:List (Addr×HO)},qM K G g f B->(∀x∈B,H x.1=Y x.2)->fq K H g f
 |[],_,_,h,_=>by rw[h.1];exact fq.eC.mpr rfl
 | (_,_)::_,_,_,⟨y,v,Gh,B1,B2,a,a2,b,c,t⟩,hB=>by subst a a2 b;exact fq.eh.mpr ⟨y,v,Gh,rfl,rfl,c.Fp e λx d=>hB x (aw _ d),t.Ov e λx d=>hB x (ai _ d)⟩
theorem mY.sim{g:Hp}{d:d8}{q:Addr}{o:HO}(h:mY K G d q o)(e:vR K G g):mY K g d q o:=by
 rcases h with ⟨k,i,a,b,c⟩ | ⟨f,j,a,b,c⟩
 ·exact .inl ⟨k,i,a,b,c.sim e⟩
 ·exact .inr ⟨f,j,a,b,c.sim e⟩
def mY.QK{d:d8}{q:Addr}{o:HO}(h:mY K G d q o):Gf o:=by rcases h with ⟨i,f,a,b,c⟩ | ⟨e,g,a,b,c⟩<;>subst b<;>exact aN
def mY.Fp{d:d8}{o:HO}{p:Addr}(h:mY K G d p o)(e:ez G H)(a:H p=Y o):et K H d (.ref p):=by
 rcases h with ⟨ds,vs,rfl,rfl,c⟩ | ⟨b,f,rfl,rfl,c⟩
 ·exact et.eK.mpr ⟨p,vs,rfl,jS.of a,c.same e⟩
 ·exact et.jm.mpr ⟨p,rfl,.inl ⟨f,.inl a,c.same e⟩⟩
theorem lx.sim{g:Bool}{i:Hp}{d:d8}{q:Addr}{o:HO}{B:List (Addr×HO)}(e:vR K G i)(h:lx g K G d q o B):lx g K i d q o B:=by
 cases g with
 |false=>exact⟨h.1.sim e,h.2⟩
 |true=>
  rcases h with ⟨l,j,a,b,c⟩ | ⟨f,k,a,b,c⟩
  ·exact .inl ⟨l,j,a,b,c.sim e⟩
  ·exact .inr ⟨f,k,a,b,c.sim e⟩
def lx.same{a:Hp}{d:d8}{q:Addr}{o:HO}(e:ez G a)(h:lx dp K G d q o B):lx dp K a d q o B:=lx.sim e.sim h
theorem lx.jJ{e:Bool}{d:d8}{q:Addr}{o:HO}{B:List (Addr×HO)}(h:lx e K G d q o B):lL ((q,o)::B):=by
 cases e with
 |false=>rw[h.2];exact .one h.1.QK .nil
 |true=>
  rcases h with ⟨j,g,a,b,c⟩ | ⟨f,i,a,b,c⟩
  ·subst b;exact .one aN c.jJ
  ·subst b;exact .one aN c.jJ
theorem lx.Fp{f:Bool}{d:d8}{o:HO}{p:Addr}{B:List (Addr×HO)}(h:lx f K G d p o B)(e:ez G H)(a:H p=Y o)(b:∀x∈B,H x.1=Y x.2):et K H d (.ref p):=by
 cases f with
 |false=>exact h.1.Fp e a
 |true=>
  rcases h with ⟨ds,vs,rfl,rfl,c⟩ | ⟨g,i,rfl,rfl,c⟩
  ·exact et.eK.mpr ⟨p,vs,rfl,jS.of a,c.Ou e b⟩
  ·exact et.jm.mpr ⟨p,rfl,.inl ⟨i,.inl a,c.Ov e b⟩⟩
theorem hH.sim{c:Str}{m:Hp}(e:vR K G m):∀{r:List (d8×d8)}{i:List (Str×V)}{B:List (Addr×HO)},hH K G c r i B->hH K m c r i B
 |[],_,_,h=>h
 | (k,d)::r,_,_,h=>by
  obtain⟨y,v,a,l,j,⟨g,f,b⟩ | ⟨g,q,o,s,B',f,b,p,n⟩⟩:=h
  ·exact⟨y,v,a,l,j,.inl ⟨g,f.sim e,hH.sim e b⟩⟩
  ·exact⟨y,v,a,l,j,.inr ⟨g,q,o,s,B',f,b,p.sim e,hH.sim e n⟩⟩
def hH.same{c:Str}{b:Hp}(e:ez G b):∀{r:List (d8×d8)}{a:List (Str×V)}{B:List (Addr×HO)},hH K G c r a B->hH K b c r a B:=λh=>hH.sim e.sim h
theorem hH.jJ{c:Str}:∀{r:List (d8×d8)}{e:List (Str×V)}{B:List (Addr×HO)},hH K G c r e B->lL B
 |[],_,_,h=>by rw[h.2];exact .nil
 | (k,d)::r,_,_,h=>by
  obtain⟨y,v,b,m,l,⟨j,i,a⟩ | ⟨j,q,o,n,p,i,a,g,f⟩⟩:=h
  ·exact hH.jJ a
  ·rw[a];exact lL.append g.jJ (hH.jJ f)
theorem hH.Mx{c:Str}(e:ez G H):∀{r:List (d8×d8)}{i:List (Str×V)}{B:List (Addr×HO)},hH K G c r i B->(∀x∈B,H x.1=Y x.2)->iG K H r i
 |[],_,_,h,_=>by rw[h.1];exact iG.eC.mpr rfl
 | (k,d)::r,_,_,h,hB=>by
  obtain⟨y,v,a,l,j,⟨p,g,f⟩ | ⟨p,q,o,s,t,g,f,n,m⟩⟩:=h
  ·exact iG.eh.mpr ⟨y,v,a,l,j,g.same e,hH.Mx e f hB⟩
  ·subst f g;exact iG.eh.mpr ⟨y,_,a,l,j,n.Fp e (hB (q,o) (by simp)) (λx b=>hB x (by simp[b])),hH.Mx e m λx b=>hB x (by simp[b])⟩
theorem hI.sim{f:Bool}{g:Hp}{d:d8}{v:V}{B:List (Addr×HO)}(h:hI f K G d v B)(e:vR K G g):hI f K g d v B:=by
 rcases h with ⟨q,o,t,a,b,c⟩ | ⟨c,C,p,j,i,r,B',s,n,m,l,k⟩
 ·exact .inl ⟨q,o,t,a,b,c.sim e⟩
 ·exact .inr ⟨c,C,p,j,i,r,B',s,n,m,l,k.sim e⟩
def hI.same{a:Hp}{d:d8}(h:hI dp K G d v B)(e:ez G a):hI dp K a d v B:=hI.sim h e.sim
theorem hI.jJ{e:Bool}{d:d8}{v:V}{B:List (Addr×HO)}(h:hI e K G d v B):lL B:=by
 rcases h with ⟨q,o,n,a,b,c⟩ | ⟨c,C,p,j,i,r,s,m,l,g,k,f⟩
 ·rw[b];exact c.jJ
 ·rw[g];exact .ins f.jJ
theorem hI.Fp{i:Bool}{d:d8}{v:V}{B:List (Addr×HO)}(h:hI i K G d v B)(e:ez G H)(a:∀x∈B,H x.1=Y x.2):et K H d v:=by
 rcases h with ⟨q,o,l,rfl,rfl,c⟩ | ⟨c,C,p,g,f,r,m,rfl,rfl,rfl,k,j⟩
 ·exact c.Fp e (a (q,o) (by simp)) λx b=>a x (by simp[b])
 ·exact et.jm.mpr ⟨p,rfl,.inr ⟨c,C,g,f,k,a (p,.ins C g f) (by simp),lH.eh.mpr ⟨rfl,rfl,j.Mx e λx b=>a x (by simp[b])⟩⟩⟩
theorem hH.split{c y:Str}{d:d8}(F:jI c y=true):∀{r:List (d8×d8)}{H:List (Str×V)}{B:List (Addr×HO)},hH K G c r H B->lu y r=Y d ->
  ∃q o l j i,H.lookup y=Y (.ref q)/\B=j++((q,o)::(l++i))/\lL j/\lL i/\lx (my c y) K G d q o l/\∀g s b a,ez G g->lx (my c y) K g s q b a->hH K g c (mX y s r) H (j++((q,b)::(a++i)))
 |[],_,_,_,e=>by cases e
 | (k,x)::r,_,B,h,e=>by
  obtain⟨z,v,n,S,R,h⟩:=h;subst S R;by_cases q:z=y
  ·subst q;simp only[lu,df] at e;cases e;rcases h with ⟨f,_⟩ | ⟨f,q,o,l,N,w,u,C,A⟩
   ·rw[F] at f;cases f
   ·subst w u;refine⟨q,o,l,[],N,by rw[a0,cu.mpr rfl],rfl,.nil,A.jJ,C,λg s b a m t=>?_⟩;simp only[mX,df];exact⟨z,_,n,rfl,rfl,.inr ⟨f,q,b,a,N,rfl,rfl,t,A.same m⟩⟩
  ·simp only[lu,ag q] at e;rcases h with ⟨f,w,u⟩ | ⟨f,O,o,P,N,w,u,C,A⟩
   ·obtain⟨p,o,l,j,i,M,L,E,D,J,I⟩:=hH.split F u e;refine⟨p,o,l,j,i,by rw[a0,a7.mpr (λz=>q z.symm)];exact M,L,E,D,J,λg s b a m t=>?_⟩;simp only[mX,ag q];exact⟨z,v,n,rfl,rfl,.inl ⟨f,w.same m,I g s b a m t⟩⟩
   ·subst w u;obtain⟨p,Q,l,j,i,M,L,E,D,J,I⟩:=hH.split F A e;refine⟨p,Q,l,(O,o)::(P++j),i,by rw[a0,a7.mpr (λz=>q z.symm)];exact M,by rw[L];simp,lL.append C.jJ E,D,J,λg s b a m t=>?_⟩;simp only[mX,ag q];exact⟨z,_,n,rfl,rfl,.inr ⟨f,O,o,P,j++((p,b)::(a++i)),rfl,by simp,C.same m,I g s b a m t⟩⟩
theorem hH.put{c y:Str}{d:d8}{v:V}(b:jI c y=false)(i:et K G d v):∀{r:List (d8×d8)}{j:List (Str×V)}{B:List (Addr×HO)},hH K G c r j B->hH K G c (mX y d r) (jX y v j) B
 |[],_,_,h=>by obtain⟨rfl,rfl⟩:=h;exact⟨y,v,[],rfl,rfl,.inl ⟨b,i,rfl,rfl⟩⟩
 | (k,x)::r,_,_,h=>by
  obtain⟨z,u,g,s,p,h⟩:=h;subst s p;by_cases q:z=y
  ·subst q;simp only[mX,jX,df];rcases h with ⟨a,f,e⟩ | ⟨a,_⟩
   ·exact⟨z,v,g,rfl,rfl,.inl ⟨b,i,e⟩⟩
   ·rw[b] at a;cases a
  ·simp only[mX,jX,ag q];rcases h with ⟨a,f,e⟩ | ⟨a,l,o,t,w,f,e,n,m⟩
   ·exact⟨z,u,_,rfl,rfl,.inl ⟨a,f,hH.put b i e⟩⟩
   ·exact⟨z,u,_,rfl,rfl,.inr ⟨a,l,o,t,w,f,e,n,hH.put b i m⟩⟩
theorem hH.add{c y:Str}{d:d8}{q:Addr}{o:HO}{a:List (Addr×HO)}(b:jI c y=true)(i:lx (my c y) K G d q o a):∀{r:List (d8×d8)}{m:List (Str×V)}{B:List (Addr×HO)},hH K G c r m B->lu y r=Z ->
  hH K G c (mX y d r) (jX y (.ref q) m) (B++(q,o)::a)
 |[],_,_,h,_=>by obtain⟨rfl,rfl⟩:=h;exact⟨y,_,[],rfl,rfl,.inr ⟨b,q,o,a,[],rfl,by simp,i,rfl,rfl⟩⟩
 | (k,x)::r,_,_,h,e=>by
  obtain⟨z,u,s,A,w,h⟩:=h;subst A w;by_cases f:z=y
  ·simp only[lu,af f] at e;cases e
  ·simp only[lu,ag f] at e;simp only[mX,jX,ag f];rcases h with ⟨l,j,g⟩ | ⟨l,n,p,C,D,j,g,v,t⟩
   ·exact⟨z,u,_,rfl,rfl,.inl ⟨l,j,hH.add b i g e⟩⟩
   ·subst g;exact⟨z,u,_,rfl,rfl,.inr ⟨l,n,p,C,D++(q,o)::a,j,by simp,v,hH.add b i t e⟩⟩
theorem hH.len{c:Str}:∀{r:List (d8×d8)}{a:List (Str×V)}{B:List (Addr×HO)},hH K G c r a B->a.length=r.length
 |[],_,_,h=>by rw[h.1];rfl
 | (k,d)::r,_,_,h=>by
  obtain⟨y,v,f,e,m,⟨j,i,b⟩ | ⟨j,q,o,n,B',i,b,l,g⟩⟩:=h
  ·rw[e,aD,aD,hH.len b]
  ·rw[e,aD,aD,hH.len g]
end
def iI(O:List Nat):Bool:=O.contains 99
def gh(a:Bool)(K:Fg)(σ:St)(ρ:d9)(G:Hp):List Nat->List (Addr×HO)->Prop
 |[],B=>B=[]
 |i::O,B=>((ρ[i]?).join=Z/\gh a K σ ρ G O B)\/∃d v c b,ρ[i]?=Y (Y d)/\σ[i]?=Y (Y v)/\B=c++b/\hI a K G d v c/\gh a K σ ρ G O b
structure fG (O:List Nat) (K:Fg) (σ:St) (ρ:d9) (H G:Hp):Prop where
 len:σ.length=ρ.length
 ex:∃B,H=eD G B/\ip G B/\gh (iI O) K σ ρ G O B
 jj:∀(i:Nat) (d:d8),ρ[i]?=Y (Y d)->i∉O->∃v,σ[i]?=Y (Y v)/\et K G d v
def gE{l:List (Option α)}{d:α}(h:(l[i]?).join=Y d):l[i]?=Y (Y d):=by
 cases q:l[i]? with
 |none=>rw[q] at h;cases h
 |some o=>rw[q] at h;cases o with
  |none=>cases h
  |some a=>cases h;rfl
section
theorem gh.sim{f:Hp}(e:vR K G f):∀{O:List Nat}{B:List (Addr×HO)},gh dp K σ ρ G O B->gh dp K σ ρ f O B
 |[],_,h=>h
 |_::_,_,h=>by
  rcases h with ⟨a,b⟩ | ⟨d,v,i,g,a,b,c,q,t⟩
  ·exact .inl ⟨a,gh.sim e b⟩
  ·exact .inr ⟨d,v,i,g,a,b,c,q.sim e,gh.sim e t⟩
def gh.same{a:Hp}(e:ez G a):∀{O:List Nat}{B:List (Addr×HO)},gh dp K σ ρ G O B->gh dp K σ ρ a O B:=λh=>gh.sim e.sim h
theorem gh.jJ:∀{O:List Nat}{B:List (Addr×HO)},gh dp K σ ρ G O B->lL B
 |[],_,h=>by rw[show _=[] from h];exact .nil
 |_::_,_,h=>by
  rcases h with ⟨a,b⟩ | ⟨d,v,e,c,a,b,rfl,q,t⟩
  ·exact gh.jJ b
  ·exact q.jJ.append (gh.jJ t)
theorem gh.other{σ':St}{ρ':d9}:∀{O:List Nat}{B:List (Addr×HO)},gh dp K σ ρ G O B->(∀i∈O,ρ'[i]?=ρ[i]?/\σ'[i]?=σ[i]?)->gh dp K σ' ρ' G O B
 |[],_,h,_=>h
 |j::O,_,h,k=>by
  obtain⟨e,g⟩:=k j (by simp);have f:∀i∈O,ρ'[i]?=ρ[i]?/\σ'[i]?=σ[i]?:=λi l=>k i (au _ l);rcases h with ⟨a,b⟩ | ⟨d,v,n,m,a,b,c,q,t⟩
  ·exact .inl ⟨by rw[e];exact a,b.other f⟩
  ·exact .inr ⟨d,v,n,m,by rw[e];exact a,by rw[g];exact b,c,q,t.other f⟩
theorem gh.split{i:Nat}{d:d8}:∀{O:List Nat}{B:List (Addr×HO)},O.Nodup->gh dp K σ ρ G O B->i∈O->ρ[i]?=Y (Y d) ->
  ∃v p l o,σ[i]?=Y (Y v)/\B=p++(l++o)/\hI dp K G d v l/\lL p/\lL o /\
   (∀n g e,ez G n->hI dp K n g v e->gh dp K σ (ρ.set i (Y g)) n O (p++(e++o)))/\gh dp K σ (ρ.set i Z) G O (p++o)
 |[],_,_,_,hi,_=>by cases hi
 |j::O,B,QL,h,hi,hd=>by
  have f:=bp.mp QL;have L:i<ρ.length:=(av.mp hd).1;by_cases r:j=i
  ·subst r;have u:∀x:Od,∀k∈O,(ρ.set j x)[k]?=ρ[k]?/\σ[k]?=σ[k]?:=λx k N=>by
    have:j≠k:=λz=>f.1 (z▸N);exact⟨aq this,rfl⟩
   rcases h with ⟨a,b⟩ | ⟨g,v,l,J,a,b,c,q,t⟩
   ·rw[hd] at a;cases a
   ·rw[hd] at a;cases a;refine⟨v,[],l,J,b,c,q,.nil,t.jJ,λn g e s w=>.inr ⟨g,v,e,J,aI L,b,rfl,w,(t.same s).other (u _)⟩,.inl ⟨by rw[aI L];rfl,t.other (u _)⟩⟩
  ·have y:=(ak.mp hi).resolve_left (Ne.symm r);have m:∀x:Od,(ρ.set i x)[j]?=ρ[j]?:=λx=>aq (Ne.symm r);rcases h with ⟨a,b⟩ | ⟨g,v,l,J,a,b,c,q,t⟩
   ·obtain⟨v,p,l,o,I,H,F,E,D,C,A⟩:=gh.split f.2 b y hd;exact⟨v,p,l,o,I,H,F,E,D,λn g e s w=>.inl ⟨by rw[m];exact a,C n g e s w⟩,.inl ⟨by rw[m];exact a,A⟩⟩
   ·obtain⟨M,p,e,o,I,H,F,E,D,C,A⟩:=gh.split f.2 t y hd;refine⟨M,l++p,e,o,I,by rw[c,H];simp,F,q.jJ.append E,D,λn g e s w=>.inr ⟨_,v,l,_,by rw[m];exact a,b,by simp,q.same s,C n g e s w⟩,.inr ⟨_,v,l,_,by rw[m];exact a,b,by simp,q,A⟩⟩
def fG.sub(h:fG O K σ ρ H G):ez G H:=by obtain⟨B,rfl,f,a⟩:=h.ex;exact f.same
theorem gh.at:∀{O:List Nat}{B:List (Addr×HO)},gh dp K σ ρ G O B->∀{i:Nat}{d:d8},i∈O->ρ[i]?=Y (Y d)->∃v f,(∀x∈f,x∈B)/\σ[i]?=Y (Y v)/\hI dp K G d v f
 |[],_,_,_,_,hi,_=>by cases hi
 |j::O,_,h,i,d,hi,hd=>by
  rcases h with ⟨a,b⟩ | ⟨d',v,f,n,a,b,c,q,t⟩
  ·rcases ak.mp hi with e|hi
   ·subst e;rw[hd] at a;cases a
   ·exact gh.at b hi hd
  ·rcases ak.mp hi with e|hi
   ·subst e;rw[hd] at a;cases a;exact⟨v,f,λx g=>by rw[c];exact aw _ g,b,q⟩
   ·obtain⟨l,k,m,r⟩:=gh.at t hi hd;exact⟨l,k,λx g=>by rw[c];exact ai _ (m x g),r⟩
def fG.full(h:fG O K σ ρ H G):hY K H σ ρ:=by
 obtain⟨B,rfl,f,a⟩:=h.ex;refine⟨h.len,λi d q=>?_⟩;by_cases b:i∈O
 ·obtain⟨v,l,m,e,c⟩:=a.at b q;exact⟨v,e,c.Fp f.same λx g=>eO f.nd x (m x g)⟩
 ·obtain⟨v,k,j⟩:=h.jj i d q b;exact⟨v,k,j.same f.same⟩
noncomputable def iz:List Nat->d9->d9
 |[],ρ=>ρ
 |i::O,ρ=>(iz O ρ).set i Z
theorem uC:∀(O:List Nat) (ρ:d9),(iz O ρ).length=ρ.length
 |[],_=>rfl
 |i::O,ρ=>by rw[iz,List.length_set];exact uC O ρ
theorem uD:∀{O:List Nat}{ρ:d9}{j:Nat}{d:d8},(iz O ρ)[j]?=Y (Y d)->j∉O/\ρ[j]?=Y (Y d)
 |[],_,_,_,h=>⟨by simp,h⟩
 |i::O,ρ,j,d,h=>by
  unfold iz at h;by_cases c:j=i
  ·subst c;by_cases e:j<(iz O ρ).length
   ·rw[aI e] at h;cases h
   ·rw[bH (by simpa using e)] at h;cases h
  ·rw[aq (Ne.symm c)] at h;obtain⟨a,b⟩:=uD h;exact⟨by simp[c,a],b⟩
def fG.rest(h:fG O K σ ρ H G):hY K G σ (iz O ρ):=by refine⟨by rw[uC];exact h.len,λi d q=>?_⟩;obtain⟨a,b⟩:=uD q;exact h.jj i d b a
def fG.grow{j:Hp}(h:fG O K σ ρ H G)(e:ez H j):∃g,ez G g/\(∀a,H a=Z->g a=j a)/\fG O K σ ρ j g:=by
 obtain⟨B,rfl,f,l⟩:=h.ex;have p:∀x∈B,j x.1=Y x.2:=λx b=>e _ _ (eO f.nd x b);let g:Hp:=λa=>if (∃x∈B,x.1=a) then Z else j a
 have m:∀a,(∀x∈B,x.1≠a)->g a=j a:=λa c=>ag λ⟨x,b,z⟩=>c x b z;have r:∀x∈B,g x.1=Z:=λx b=>af ⟨x,b,rfl⟩;have k:ez G g:=λa o q=>by
  have c:∀x∈B,x.1≠a:=λx b z=>by have:=f.free x b;rw[z,q] at this;cases this
  rw[m a c];exact e _ _ (by rw[fg c];exact q)
 refine⟨g,k,λa c=>m a λx b z=>?_,h.len,⟨B,oh f.nd p λa c=>(m a c).symm,⟨f.nd,r,f.ok⟩,l.same k⟩,λi d q n=>?_⟩
 ·have:=eO (G:=G) f.nd x b;rw[z,c] at this;cases this
 obtain⟨v,t,s⟩:=h.jj i d q n;exact⟨v,t,s.same k⟩
def fG.uE{c:Hp} (j:σ.length=ρ.length) (e:gh (iI O) K σ ρ G O B) (g:∀(i:Nat) (d:d8),ρ[i]?=Y (Y d)->i∉O->∃v,σ[i]?=Y (Y v)/\et K G d v)
  (h:ez G c) (f:ip c B):fG O K σ ρ (eD c B) c :=
 ⟨j,⟨B,rfl,f,e.same h⟩,λi d q k=>by obtain⟨v,a,b⟩:=g i d q k;exact⟨v,a,b.same h⟩⟩
theorem fG.set{O:List Nat}{i:Nat}{d:d8}{v:V}(h:fG O K σ ρ H G)(m:i∉O)(e:et K G d v):fG O K (σ.set i (Y v)) (ρ.set i (Y d)) H G:=by
 obtain⟨B,n,f,g⟩:=h.ex;refine⟨by simpa using h.len,⟨B,n,f,g.other λj k=>?_⟩,λj o q k=>?_⟩
 ·have c:i≠j:=λz=>m (z▸k);exact⟨aq c,aq c⟩
 ·by_cases c:j=i
  ·subst c;have l:j<ρ.length:=by
    have:=(av.mp q).1;simpa using this
   rw[aI l] at q;cases q;exact⟨v,by rw[aI (by rw[h.len];exact l)],e⟩
  ·rw[aq (Ne.symm c)] at q;obtain⟨u,a,b⟩:=h.jj j o q k;exact⟨u,by rw[aq (Ne.symm c)];exact a,b⟩
theorem fG.own{O:List Nat}(p:O.Nodup)(h:fG O K σ ρ H G){i:Nat}{d:d8}(u:i∈O)(y:ρ[i]?=Y (Y d)):
  ∃v k n g,σ[i]?=Y (Y v)/\H=eD G (k++(n++g))/\ip G (k++(n++g))/\hI (iI O) K G d v n/\lL k/\lL g /\
   (∀c o e,ez G c->hI (iI O) K c o v e->ip c (k++(e++g))->fG O K σ (ρ.set i (Y o)) (eD c (k++(e++g))) c) /\
   (∀c,ez G c->ip c (k++g)->fG O K σ (ρ.set i Z) (eD c (k++g)) c):=by
 obtain⟨B,rfl,f,own⟩:=h.ex;obtain⟨v,k,n,g,I,rfl,F,E,D,C,A⟩:=own.split p u y;have m:∀(x:Od) (c:Hp),ez G c->∀(j:Nat) (d2:d8),(ρ.set i x)[j]?=Y (Y d2)->j∉O->∃v,σ[j]?=Y (Y v)/\et K c d2 v:=λx c l j d2 q t=>by have r:j≠i:=λz=>t (z▸u);rw[aq (Ne.symm r)] at q;obtain⟨v,a,b⟩:=h.jj j d2 q t;exact⟨v,a,b.same l⟩
 exact⟨v,k,n,g,I,rfl,f,F,E,D,λc o e l w s=>⟨by simpa using h.len,⟨_,rfl,s,C c o e l w⟩,m _ c l⟩,
  λc l s=>⟨by simpa using h.len,⟨_,rfl,s,A.same l⟩,m _ c l⟩⟩
def iJ{q:Addr}{o d:HO}{i g:List (Addr×HO)}(k:((i++(q,o)::g).map (·.1)).Nodup):L2.upd (eD G (i++(q,o)::g)) q d=eD G (i++(q,d)::g):=by
 have c:((i++(q,d)::g).map (·.1)).Nodup:=by simpa using k
 refine oh c (λx f=>?_) λa j=>?_
 ·by_cases b:x.1=q
  ·have m:=eO (G:=G) c x f;have n:=eO (G:=G) c (q,d) (by simp);rw[b] at m;rw[b,eI,<-m,n]
  ·rw[en b];refine eO k x ?_;rcases aC.mp f with h|h
   ·exact aw _ h
   ·rcases ak.mp h with e|h
    ·rw[e] at b;exact absurd rfl b
    ·exact ai _ (au _ h)
 ·have l:a≠q:=λz=>j (q,d) (by simp) z.symm;rw[en l];refine fg λx f=>?_;rcases aC.mp f with h|h
  ·exact j x (aw _ h)
  ·rcases ak.mp h with e|h
   ·rw[e];exact Ne.symm l
   ·exact j x (ai _ (au _ h))
def ip.put{q:Addr}{o c:HO}{b a:List (Addr×HO)}(f:ip G (b++(q,o)::a))(d:lL (b++(q,c)::a)):ip G (b++(q,c)::a):=by
 refine⟨by simpa using f.nd,λx g=>?_,d⟩;rcases aC.mp g with h|h
 ·exact f.free x (aw _ h)
 ·rcases ak.mp h with e|h
  ·rw[e];exact f.free (q,o) (by simp)
  ·exact f.free x (ai _ (au _ h))
def fG.drop(r:O.Nodup)(h:fG O K σ ρ H G)(J:i∈O):∃F,ez G F/\fG O K σ (ρ.set i Z) H F:=by
 cases hd:(ρ[i]?).join with
 |none=>
  refine⟨G,.refl G,?_⟩;obtain⟨B,u,f,p⟩:=h.ex;have l:∀(j:Nat) (d:d8),(ρ.set i Z)[j]?=Y (Y d)->ρ[j]?=Y (Y d):=λj d q=>by
   by_cases e:j=i
   ·subst e;by_cases D:j<ρ.length
    ·rw[aI D] at q;cases q
    ·rw[bH (by simpa using D)] at q;cases q
   ·rw[aq (Ne.symm e)] at q;exact q
  refine⟨by simpa using h.len,⟨B,u,f,?_⟩,λj d q I=>h.jj j d (l j d q) I⟩;have s:∀{m:List Nat}{B:List (Addr×HO)},gh (iI O) K σ ρ G m B->gh (iI O) K σ (ρ.set i Z) G m B:=by
   intro m;induction m with
   |nil=>exact λh=>h
   |cons j m C=>
    intro B h;rcases h with ⟨a,b⟩ | ⟨d,v,k,N,a,b,c,q,t⟩
    ·refine .inl ⟨?_,C b⟩;cases q:((ρ.set i Z)[j]?).join with
     |none=>rfl
     |some d=>rw[l j d (gE q)] at a;cases a
    ·refine .inr ⟨d,v,k,N,?_,b,c,q,C t⟩;have e:j≠i:=λz=>by subst z;rw[a] at hd;cases hd
     rw[aq (Ne.symm e)];exact a
  exact s p
 |some d=>
  obtain⟨v,o,k,n,P,L,f,x,A,y,_,M⟩:=h.own r J (gE hd);have g:(o++(k++n)).Perm ((o++n)++k):=by rw[bw];exact cf _ aX
  have E:ip G ((o++n)++k):=f.perm g ((A.append y).append x.jJ);have u:H=eD (eD G k) (o++n):=by rw[L,gu f.nd g,gq]
  have w:ez G (eD G k):=(E.BU x.jJ).same;refine⟨eD G k,w,?_⟩;rw[u];exact M _ w (E.BS (A.append y))
theorem gh.ins{i:Nat}{m:d8}{v:V}{n:List (Addr×HO)}:∀{O:List Nat}{B:List (Addr×HO)},O.Nodup->gh dp K σ ρ G O B->i∈O->i<ρ.length->i<σ.length->(ρ[i]?).join=Z->hI dp K G m v n ->
  ∃B',gh dp K (σ.set i (Y v)) (ρ.set i (Y m)) G O B'/\B'.Perm (n++B)
 |[],_,_,_,hi,_,_,_,_=>by cases hi
 |j::O,B,QL,h,hi,hl,Ox,hn,ob=>by
  have e:=bp.mp QL;by_cases f:j=i
  ·subst f;have o:∀k∈O,(ρ.set j (Y m))[k]?=ρ[k]?/\(σ.set j (Y v))[k]?=σ[k]?:=λk s=>by
    have:j≠k:=λz=>e.1 (z▸s);exact⟨aq this,aq this⟩
   rcases h with ⟨a,b⟩ | ⟨d,u,r,w,a,c,rfl,g,t⟩
   ·exact⟨n++B,.inr ⟨m,v,n,B,aI hl,aI Ox,rfl,ob,b.other o⟩,List.Perm.refl _⟩
   ·rw[a] at hn;cases hn
  ·have l:=(ak.mp hi).resolve_left (Ne.symm f);rcases h with ⟨a,b⟩ | ⟨d,u,r,w,a,c,rfl,g,t⟩
   ·obtain⟨B',q,p⟩:=gh.ins e.2 b l hl Ox hn ob;exact⟨B',.inl ⟨by rw[aq (Ne.symm f)];exact a,q⟩,p⟩
   ·obtain⟨B',q,p⟩:=gh.ins e.2 t l hl Ox hn ob;refine⟨r++B',.inr ⟨d,u,r,B',by rw[aq (Ne.symm f)];exact a,by rw[aq (Ne.symm f)];exact c,rfl,g,q⟩,(p.append_left _).trans ?_⟩;rw[<-bw,<-bw];exact c0 _ aX
def fG.new(e:O.Nodup)(h:fG O K σ ρ H G){d':d8}{k:List (Addr×HO)}(m:i∈O)(s:i<ρ.length)(y:hI (iI O) K G d' v k)(C:ip H k):
  ∃x,ez G x/\fG O K (σ.set i (Y v)) (ρ.set i (Y d')) (eD H k) x:=by
 obtain⟨p,r,n⟩:=h.drop e m;obtain⟨B,D,f,l⟩:=n.ex;have g:i<(ρ.set i Z).length:=by simpa using s
 obtain⟨B',o,w⟩:=l.ins e m g (by rw[n.len];exact g) (by rw[aI s];rfl) (y.same r);rw[List.set_set] at o;subst D;have A:ip p (k++B):=f.join C;have u:ip p B':=A.perm w.symm o.jJ;refine⟨p,r,by simpa using h.len,⟨B',?_,u,o⟩,λj d q t=>?_⟩
 ·rw[gu u.nd w,gq]
 ·have c:j≠i:=λz=>t (z▸m);rw[aq (Ne.symm c)] at q;obtain⟨v,a,b⟩:=n.jj j d (by rw[aq (Ne.symm c)];exact q) t;exact⟨v,by rw[aq (Ne.symm c)];exact a,b⟩
end
noncomputable def iA:d8->d8->Bool
 |.int a,.int b=>decide (a=b)
 |.str a,.str b=>decide (a=b)
 |_,_=>false
def gQ(a b:Key):iA (gW a) (gW b)=decide (a=b):=by cases a<;>cases b<;>simp[gW,iA]
noncomputable def kF:d8->Option Key
 |.int i=>Y (.inl i)
 |.str x=>Y (.inr x)
 |_=>Z
def fM{d:d8}{k:Key}(h:kF d=Y k):d=gW k:=by cases d<;>simp[kF] at h<;>subst h<;>rfl
def gi{k:Key}(h:et K H (gW k) v):v=kV k:=by
 cases k with
 |inl i=>exact et.eG.mp h
 |inr x=>exact et.eU.mp h
def iU(k:d8):List (d8×d8)->Od
 |[]=>Z
 | (y,d)::r=>if iA y k=true then Y d else iU k r
noncomputable def BV(k v:d8)(a:List (d8×d8)):List (d8×d8) :=
 if (a.any λx=>iA x.1 k)=true then a.map (λx=>if iA x.1 k=true then (x.1,v) else x) else a++[(k,v)]
def eT:List (d8×d8)->Bool
 | (.none,_)::_=>true
 |_=>false
section
def lq.r{b:List (Key×V)}{k:Key}(e:Rd H a (.dK b)):lq H a (kV k) (ka b k):=.inl ⟨b,k,e,rfl,rfl⟩
def et.kZ(h:et K H (.dict fX) v)(g:eT fX=false):∃p a,v=.ref p/\Rd H p (.dK a)/\fq K H fX a:=by
 obtain⟨p,i,⟨a,f,e⟩ | ⟨c,C,l,j,f,e,b⟩⟩:=et.jm.mp h
 ·exact⟨p,a,i,f,e⟩
 ·cases fX with
  |nil=>exact(lH.eC.mp b).elim
  |cons x r=>obtain⟨k,d⟩:=x;obtain⟨rfl,_,_⟩:=lH.eh.mp b;cases g
def et.Gi{c:Str}{r:List (d8×d8)}(h:et K H (.dict ((.none,.str c)::r)) v):∃p C d a,v=.ref p/\iO K c C/\H p=Y (.ins C d a)/\iG K H r a:=by
 obtain⟨p,k,⟨l,f,b⟩ | ⟨m,C,d,a,f,b,j⟩⟩:=et.jm.mp h
 ·obtain⟨y,_,_,_,e,_⟩:=fq.eh.mp b;cases y<;>cases e
 ·obtain⟨_,i,g⟩:=lH.eh.mp j;cases i;exact⟨p,C,d,a,k,f,b,g⟩
theorem fq.val{y:Key}:∀{f:List (d8×d8)}{g:List (Key×V)},fq K H f g ->
  (iU (gW y) f=Z/\ka g y=Z)\/∃d v,iU (gW y) f=Y d/\ka g y=Y v/\et K H d v
 |[],_,h=>by rw[fq.eC.mp h];exact .inl ⟨rfl,rfl⟩
 | (k,d)::r,_,h=>by
  obtain⟨z,v,m,rfl,rfl,i,t⟩:=fq.eh.mp h;by_cases e:z=y
  ·right;exact⟨d,v,by simp[iU,gQ,e],pW e,i⟩
  ·rcases fq.val (y:=y) t with ⟨a,b⟩ | ⟨l,j,a,b,c⟩
   ·exact .inl ⟨by simp[iU,gQ,e,a],by rw[nj (p:=(z,v)) e];exact b⟩
   ·exact .inr ⟨l,j,by simp[iU,gQ,e,a],by rw[nj (p:=(z,v)) e];exact b,c⟩
theorem fq.any{y:Key}:∀{a:List (d8×d8)}{b:List (Key×V)},fq K H a b->(b.any λx=>decide (x.1=y))=a.any λx=>iA x.1 (gW y)
 |[],_,h=>by rw[fq.eC.mp h];rfl
 | (k,d)::r,_,h=>by obtain⟨z,v,c,rfl,rfl,i,t⟩:=fq.eh.mp h;rw[bM,bM,fq.any t,gQ]
theorem fq.BP{y:Key}{d:d8}{v:V}(i:et K H d v):∀{a:List (d8×d8)}{b:List (Key×V)},fq K H a b ->
  fq K H (a.map λx=>if iA x.1 (gW y)=true then (x.1,d) else x) (b.map λx=>if x.1=y then (x.1,v) else x)
 |[],_,h=>by rw[fq.eC.mp h];exact fq.eC.mpr rfl
 | (k',j)::r,_,h=>by
  obtain⟨z,f,g,rfl,rfl,c,t⟩:=fq.eh.mp h;rw[az,az,gQ];by_cases e:z=y
  ·rw[af e,af (aK e)];exact fq.eh.mpr ⟨_,_,_,rfl,rfl,i,fq.BP i t⟩
  ·rw[ag e,ag (by simp[e])];exact fq.eh.mpr ⟨_,_,_,rfl,rfl,c,fq.BP i t⟩
theorem fq.snoc{y:Key}{d:d8}{v:V}(i:et K H d v):∀{a:List (d8×d8)}{b:List (Key×V)},fq K H a b->fq K H (a++[(gW y,d)]) (b++[(y,v)])
 |[],_,h=>by rw[fq.eC.mp h];exact fq.eh.mpr ⟨_,_,_,rfl,rfl,i,fq.eC.mpr rfl⟩
 | (k',g)::r,_,h=>by obtain⟨z,e,f,rfl,rfl,c,t⟩:=fq.eh.mp h;exact fq.eh.mpr ⟨_,_,_,rfl,rfl,c,fq.snoc i t⟩
def fq.put{y:Key}{d:d8}(h:fq K H fX kv)(i:et K H d v):fq K H (BV (gW y) d fX) (putK kv y v):=by
 unfold BV putK;rw[h.any];by_cases e:(fX.any λx=>iA x.1 (gW y))=true
 ·rw[af e,af e];exact h.BP i
 ·rw[ag e,ag e];exact h.snoc i
theorem fq.length:∀{a:List (d8×d8)}{b:List (Key×V)},fq K H a b->a.length=b.length
 |[],_,h=>by rw[fq.eC.mp h];rfl
 | (k,d)::r,_,h=>by obtain⟨z,v,c,rfl,rfl,i,t⟩:=fq.eh.mp h;simp[fq.length t]
end
section
variable {a i:Expr}{fb:d9->Od}
def PE.or{t u:TE}(h:PE X e t)(b:PE X e u):PE X e (λσ H Q=>t σ H Q\/u σ H Q):=λa s σ H Q I q=>q.elim (@h a s σ H Q I) (@b a s σ H Q I)
def Dp(x k:d8):Od:=match x with
 |.dict fX=>if eT fX=true then Z else (kF k).bind λ_=>iU k fX
 |_=>Z
def Js(J:X.A.units+64<cLine)(B:PD X a fa)(z:PD X b fb)(f:zT b):PD X (.Subscript a b pos) (d2 Dp fa fb) :=
 PE.imp (x3 (by omega) B z f) λσ H Q h=>by
  obtain⟨ρ,d,f,e,k⟩:=h;obtain⟨x,G,e⟩:=bind_some e;obtain⟨y,F,e⟩:=bind_some e;refine⟨ρ,x,f,G,λv M m w=>⟨ρ,y,f.same m,F,λu L l t=>?_⟩⟩;obtain⟨c,rfl⟩:∃c,x=.dict c:=by cases x<;>first|exact⟨_,rfl⟩|(simp[Dp] at e)
  unfold Dp at e;by_cases j:eT c=true
  ·dsimp only at e;rw[af j] at e;cases e
  ·dsimp only at e;rw[ag j] at e;obtain⟨s,E,g⟩:=bind_some e;obtain⟨p,I,rfl,D,C⟩:=(w.same l).kZ (by simpa using j);have:=fM E;subst this;rw[gi t];rcases C.val (y:=s) with ⟨i,_⟩ | ⟨K,n,i,q,o⟩
   ·rw[i] at g;cases g
   ·rw[i] at g;cases g;exact⟨p,n,rfl,by rw[<-q];exact lq.r D,k.later (m.trans l) |>.here o⟩
def Gj(x k:d8):Od:=match x with
 |.dict fX=>Dp (.dict fX) k
 |x=>Ph x k
def My(o:X.A.units+64<cLine)(i:PD X a fa)(g:PD X b fb)(c:oa b)(f:zT b):PD X (.Subscript a b pos) (d2 Gj fa fb) :=
 PE.imp (PE.or (N8 Sw i g c) (Js o i g f)) λσ H Q h=>by
  obtain⟨ρ,d,c,e,k⟩:=h;obtain⟨x,m,p⟩:=bind_some e;obtain⟨y,l,j⟩:=bind_some p;cases x with
  |dict n=>exact .inr ⟨ρ,d,c,by show (fa ρ).bind _=_;rw[m];show (fb ρ).bind _=_;rw[l];exact j,k⟩
  |_=>exact .inl ⟨ρ,d,c,by show (fa ρ).bind _=_;rw[m];show (fb ρ).bind _=_;rw[l];exact j,k⟩
noncomputable def ly(x k:d8):Od:=match x with
 |.dict fX=>if eT fX=true then Z else (kF k).bind λ_=>Y ((iU k fX).getD .none)
 |_=>Z
theorem kG(L:X.A.units+64<cLine)(E:PD X o fa)(D:PD X e fb)(m:M1 X o "get" apos e fh):PD X (.Call (.Attribute o "get" apos) [e] [] fh) (d2 ly fa fb) :=
 PE.imp (F2 (by omega) E D m) λσ H Q h=>by
  obtain⟨ρ,d,q,e,k⟩:=h;obtain⟨x,J,e⟩:=bind_some e;obtain⟨y,I,e⟩:=bind_some e;refine⟨ρ,x,q,J,λv O l C=>?_⟩;obtain⟨a,rfl⟩:∃a,x=.dict a:=by cases x<;>first|exact⟨_,rfl⟩|(simp[ly] at e)
  unfold ly at e;by_cases i:eT a=true
  ·dsimp only at e;rw[af i] at e;cases e
  ·dsimp only at e;rw[ag i] at e;obtain⟨w,G,b⟩:=bind_some e;obtain⟨p,z,rfl,s,F⟩:=C.kZ (by simpa using i);refine⟨p,rfl,.inl ⟨z,s⟩,ρ,y,q.same l,I,λu N c B=>?_⟩;have:=fM G;subst this;rw[gi B];refine⟨_,lq.r (c.rd s),?_⟩;have j:=F.same c;have n:=k.later (l.trans c);rcases j.val (y:=w) with ⟨g,f⟩ | ⟨M,K,g,f,t⟩
   ·rw[g] at b;cases b;rw[f];exact n.here (et.gf.mpr rfl)
   ·rw[g] at b;cases b;rw[f];exact n.here t
def Gk(i:X.A.units+64<cLine):jD X (compareOp .In) (λx y H Q=>∃p a k,x=kV k/\y=.ref p/\Rd H p (.dK a)/\Q (.bl (ka a k).isSome) H):=by intro b s σ H x y v u Q I d c h;obtain⟨p,a,k,rfl,rfl,e,q⟩:=h;cases c;exact Qm (by omega) I (lq.r e) d λg f=>⟨.bl _,H,f,rfl,q⟩
def Aa(i:X.A.units+64<cLine):jD X (compareOp .NotIn) (λx y H Q=>∃p a k,x=kV k/\y=.ref p/\Rd H p (.dK a)/\Q (.bl (!(ka a k).isSome)) H):=by intro b s σ H x y v u Q I d c h;obtain⟨p,a,k,rfl,rfl,e,q⟩:=h;cases c;exact Jg (by omega) I (lq.r e) d λg f=>⟨.bl _,H,f,rfl,q⟩
variable {s:Shared}
def p1(I:eE X pins σ H s){x:d8}{u:Value}(n:SeqAt.shaped x=true)(C:et X.K H x v)(w:eV v u)(U:A.units+x.depth<cLine):
  ∀{a:Lp}{c:List V}{b:Lw},(∀d∈a,SeqAt.shaped d=true)->dv X.K H a c->eQ c b->∃e:Value->Bool,(∀y∈b,SeqAt.EqAt A s y u (e y))/\b.any e=a.any λd=>d8.eqv d x:=by
 obtain⟨Q,t⟩:=I.mv (aP n) C w;let e:Value->Bool:=λy=>@decide (∃d g,Reads s.heap y d g/\SeqAt.shaped d=true/\d8.eqv d x=true) (Classical.propDecidable _);have G:∀(d:d8) (g:List Addr) (y:Value),Reads s.heap y d g->SeqAt.shaped d=true->e y=d8.eqv d x:=λd g y r f=>by
  cases q:d8.eqv d x with
  |true=>exact @decide_eq_true _ (Classical.propDecidable _) ⟨d,g,r,f,q⟩
  |false=>refine @decide_eq_false _ (Classical.propDecidable _) ?_;rintro⟨O,P,l,J,m⟩;have:=SeqAt.Reads.unique d O y _ _ (aP f) r l;subst this;rw[q] at m;cases m
 intro a;have h:∀{a:Lp}{c:List V}{b:Lw},(∀d∈a,SeqAt.shaped d=true)->dv X.K H a c->eQ c b->(∀y∈b,SeqAt.EqAt A s y u (e y))/\b.any e=a.any λd=>d8.eqv d x:=by
  intro a;induction a with
  |nil=>intro c b _ i r;rw[dv.eC.mp i] at r;cases r;exact⟨(λy j=>by cases j),rfl⟩
  |cons d a D=>
   intro c b o i r;obtain⟨T,l,rfl,F,E⟩:=dv.eh.mp i;cases r with
   |cons B z=>
    obtain⟨S,R⟩:=D (λd f=>o d (au _ f)) E z;have f:=o d (by simp);obtain⟨g,k⟩:=I.mv (aP f) F B;have p:=G d g _ k f;refine⟨λy j=>?_,by rw[bM,bM,p,R]⟩;rcases ak.mp j with q|q
    ·subst q;rw[p];refine SeqAt.eqAt_reads d x A s _ _ g Q k t (aP f) (aP n) ?_;have:min d.depth x.depth<=x.depth:=dM _ _;omega
    ·exact S y q
 intro c b N M L;exact⟨e,h N M L⟩
noncomputable def jK:d8->d8->Option Bool
 |x,.list xs=>if SeqAt.shaped x=true/\xs.all SeqAt.shaped=true/\x.depth<=60 then Y (xs.any λy=>d8.eqv y x) else Z
 |x,.tuple xs=>if SeqAt.shaped x=true/\xs.all SeqAt.shaped=true/\x.depth<=60 then Y (xs.any λy=>d8.eqv y x) else Z
 |x,.dict fX=>if eT fX=true then Z else (kF x).map λ_=>(iU x fX).isSome
 |.str x,.str y=>Y (!(Builtin.Str.occurrences y x 0 y.length 1).isEmpty)
 |_,_=>Z
def r9(x y:d8):Od:=(jK x y).map .bool
def ja(x y:d8):Od:=(jK x y).map λb=>.bool (!b)
def Jt(E:X.A.units+64<cLine):jD X (compareOp .In) (λx y H Q=>∃p d g i,y=.ref p/\(jS X.K H p i\/mV X.K H p i)/\et X.K H d x/\dv X.K H g i/\SeqAt.shaped d=true/\g.all SeqAt.shaped=true/\d.depth<=60 /\
  Q (.bl (g.any λy=>d8.eqv y d)) H):=by
 intro t s σ H x y v u Q I o B h;obtain⟨p,d,g,i,rfl,f,w,is,z,l,D,q⟩:=h;cases B;have b:∀d∈g,SeqAt.shaped d=true:=bD.mp l;have c:X.A.in1.units+d.depth<cLine:=by show X.A.units+1+d.depth<cLine;omega
 rcases f with f|f
 ·obtain⟨a,r,j,C⟩:=I.list f;obtain⟨e,n,m⟩:=p1 I (A:=X.A.in1) z w o c b is r;refine SeqAt.in_listAt e j.isList (λy k=>n y (by simpa using k)) ⟨.bl _,H,I,rfl,?_⟩;rw[show a.toArray.any e=a.any e by simp,m];exact q
 ·obtain⟨a,r,j,C⟩:=I.tuple f;obtain⟨e,n,m⟩:=p1 I (A:=X.A.in1) z w o c b is r;refine SeqAt.in_tupleAt e j (λy k=>n y (by simpa using k)) ⟨.bl _,H,I,rfl,?_⟩;rw[show a.toArray.any e=a.any e by simp,m];exact q
def BW(E:X.A.units+64<cLine):jD X (compareOp .NotIn) (λx y H Q=>∃p d g i,y=.ref p/\(jS X.K H p i\/mV X.K H p i)/\et X.K H d x/\dv X.K H g i/\SeqAt.shaped d=true/\g.all SeqAt.shaped=true/\d.depth<=60 /\
  Q (.bl (!(g.any λy=>d8.eqv y d))) H):=by
 intro t s σ H x y v u Q I o B h;obtain⟨p,d,g,i,rfl,f,w,is,z,l,D,q⟩:=h;cases B;have b:∀d∈g,SeqAt.shaped d=true:=bD.mp l;have c:X.A.in1.units+d.depth<cLine:=by show X.A.units+1+d.depth<cLine;omega
 rcases f with f|f
 ·obtain⟨a,r,j,C⟩:=I.list f;obtain⟨e,n,m⟩:=p1 I (A:=X.A.in1) z w o c b is r;refine SeqAt.notIn_listAt e j.isList (λy k=>n y (by simpa using k)) ⟨.bl _,H,I,rfl,?_⟩;rw[show a.toArray.any e=a.any e by simp,m];exact q
 ·obtain⟨a,r,j,C⟩:=I.tuple f;obtain⟨e,n,m⟩:=p1 I (A:=X.A.in1) z w o c b is r;refine SeqAt.notIn_tupleAt e j (λy k=>n y (by simpa using k)) ⟨.bl _,H,I,rfl,?_⟩;rw[show a.toArray.any e=a.any e by simp,m];exact q
def je(s:X.A.units+64<cLine):pS X (compareOp .In) r9:=by
 refine jD.imp ((Jt s).or ((Gk s).or D5)) ?_;rintro x y H Q ⟨a,b,c,l,j,e,k⟩;obtain⟨t,d,i⟩:=ab.mp e;subst i;cases b with
 |list g=>
  dsimp only[jK] at d;by_cases f:SeqAt.shaped a=true/\g.all SeqAt.shaped=true/\a.depth<=60
  ·rw[af f] at d;cases d;obtain⟨p,m,rfl,i,h⟩:=et.eK.mp j;exact .inl ⟨p,a,g,m,rfl,.inl i,l,h,f.1,f.2.1,f.2.2,k.here (et.eN.mpr rfl)⟩
  ·rw[ag f] at d;cases d
 |tuple g=>
  dsimp only[jK] at d;by_cases f:SeqAt.shaped a=true/\g.all SeqAt.shaped=true/\a.depth<=60
  ·rw[af f] at d;cases d;obtain⟨p,m,rfl,i,h⟩:=j.fJ;exact .inl ⟨p,a,g,m,rfl,.inr i,l,h,f.1,f.2.1,f.2.2,k.here (et.eN.mpr rfl)⟩
  ·rw[ag f] at d;cases d
 |dict q=>
  dsimp only[jK] at d;by_cases f:eT q=true
  ·rw[af f] at d;cases d
  ·rw[ag f] at d;obtain⟨r,h,C⟩:=ab.mp d;subst C;obtain⟨p,v,rfl,B,w⟩:=j.kZ (by simpa using f);have:=fM h;subst this;refine .inr (.inl ⟨p,v,r,gi l,rfl,B,?_⟩);rcases w.val (y:=r) with ⟨o,n⟩ | ⟨E,D,o,n,_⟩
   ·rw[n];rw[o] at k;exact k.here (et.eN.mpr rfl)
   ·rw[n];rw[o] at k;exact k.here (et.eN.mpr rfl)
 |str z=>
  cases a<;>try (simp[jK] at d;done)
  rename_i u;simp only[jK] at d;cases d;exact .inr (.inr ⟨u,z,et.eU.mp l,et.eU.mp j,k.here (et.eN.mpr rfl)⟩)
 |none=>simp[jK] at d
 |bool _=>simp[jK] at d
 |int _=>simp[jK] at d
def jt(s:X.A.units+64<cLine):pS X (compareOp .NotIn) ja:=by
 refine jD.imp ((BW s).or ((Aa s).or xR)) ?_;rintro x y H Q ⟨a,b,c,l,j,e,k⟩;obtain⟨t,d,i⟩:=ab.mp e;subst i;cases b with
 |list g=>
  dsimp only[jK] at d;by_cases f:SeqAt.shaped a=true/\g.all SeqAt.shaped=true/\a.depth<=60
  ·rw[af f] at d;cases d;obtain⟨p,m,rfl,i,h⟩:=et.eK.mp j;exact .inl ⟨p,a,g,m,rfl,.inl i,l,h,f.1,f.2.1,f.2.2,k.here (et.eN.mpr rfl)⟩
  ·rw[ag f] at d;cases d
 |tuple g=>
  dsimp only[jK] at d;by_cases f:SeqAt.shaped a=true/\g.all SeqAt.shaped=true/\a.depth<=60
  ·rw[af f] at d;cases d;obtain⟨p,m,rfl,i,h⟩:=j.fJ;exact .inl ⟨p,a,g,m,rfl,.inr i,l,h,f.1,f.2.1,f.2.2,k.here (et.eN.mpr rfl)⟩
  ·rw[ag f] at d;cases d
 |dict q=>
  dsimp only[jK] at d;by_cases f:eT q=true
  ·rw[af f] at d;cases d
  ·rw[ag f] at d;obtain⟨r,h,C⟩:=ab.mp d;subst C;obtain⟨p,v,rfl,B,w⟩:=j.kZ (by simpa using f);have:=fM h;subst this;refine .inr (.inl ⟨p,v,r,gi l,rfl,B,?_⟩);rcases w.val (y:=r) with ⟨o,n⟩ | ⟨E,D,o,n,_⟩
   ·rw[n];rw[o] at k;exact k.here (et.eN.mpr rfl)
   ·rw[n];rw[o] at k;exact k.here (et.eN.mpr rfl)
 |str z=>
  cases a<;>try (simp[jK] at d;done)
  rename_i u;simp only[jK] at d;cases d;exact .inr (.inr ⟨u,z,et.eU.mp l,et.eU.mp j,k.here (et.eN.mpr rfl)⟩)
 |none=>simp[jK] at d
 |bool _=>simp[jK] at d
 |int _=>simp[jK] at d
def Gm:Lp->Od
 |[.dict fX]=>if eT fX=true then Z else Y (.int fX.length)
 |ds=>Mq ds
def Ju:uu X (.builtin "len") Gm:=by
 refine gX.imp (gX.or Mr Ek) ?_;rintro l H Q ⟨j,c,i,e,k⟩;unfold Gm at e;split at e
 ·rename_i a;by_cases b:eT a=true
  ·rw[af b] at e;cases e
  ·rw[ag b] at e;cases e;obtain⟨v,rfl,f⟩:=gg i;obtain⟨p,d,rfl,h,g⟩:=f.kZ (by simpa using b);refine .inr ⟨p,d,rfl,h,?_⟩;rw[<-g.length];exact k.here (et.eG.mpr rfl)
 ·exact .inl ⟨j,c,i,e,k⟩
def fY(K:Fg)(c f:Str):Prop:=∃C,iO K c C/\D9 K C/\o7 K C f
noncomputable def K7(a:Lr)(f:Str)(d:d8):Od:=match d with
 |.dict ((.none,.str c)::r)=>if c∈a then lu f r else Z
 |_=>Z
def gJ(a:Lr)(n:Str)(f:d9->Od):d9->Od:=λρ=>(f ρ).bind (K7 a n)
def Mz{cs:Lr}{n:Str}(q:∀c∈cs,fY X.K c n)(m:PD X e f)(o:attributeBase e n X.env (eval e X.env)=eval e X.env:=by rfl):PD X (.Attribute e n pos) (gJ cs n f) :=
 PE.imp (BE m o) <| by
  rintro σ H Q ⟨ρ,d,j,e,k⟩;obtain⟨x,D,a⟩:=bind_some e;refine⟨ρ,x,j,D,λv F g i=>?_⟩;unfold K7 at a;split at a
  ·rename_i c r;by_cases b:c∈cs
   ·rw[af b] at a;obtain⟨p,C,E,B,rfl,w,t,s⟩:=i.Gi;obtain⟨G,A,z,y⟩:=q c b;have:=w.uniq A;subst this;obtain⟨u,l,h⟩:=s.get a;exact⟨p,C,E,B,u,rfl,t,z,y,l,(k.later g).here h⟩
   ·rw[ag b] at a;cases a
  ·cases a
end
end L2
local macro_rules
| `(zP $s $m $a) => `(L2.Mz (cs := [$s]) (fun c hc => (List.mem_singleton.mp hc) ▸ $m) $a)
| `(zL $m $a) => `(L2.pX L2.Ju rfl $m (by rfl) (L2.dr $a L2.fT))
| `(zN $a) => `(L2.gH L2.Gm (L2.ee $a L2.fy))
| `(zX $a $b) => `(L2.d2 L2.Gj $a $b)
namespace L2
open PySem PySem.Spec PyProof.Rows
inductive Pl where
 |sl (i:Nat)
 |fl (i:Nat) (c f:Str)
def Pl.ix:Pl->Nat
 |.sl i=>i
 |.fl i _ _=>i
def Gn(c f:Str)(d:d8):Od:=match d with
 |.dict ((.none,.str a)::r)=>if a=c/\jI c f=true then lu f r else Z
 |_=>Z
def Gp(f:Str)(y d:d8):d8:=match d with
 |.dict ((.none,.str c)::r)=>.dict ((.none,.str c)::mX f y r)
 |d=>d
def uF:Pl->d9->Od
 |.sl i,ρ=>(ρ[i]?).join
 |.fl i c f,ρ=>(ρ[i]?).join.bind (Gn c f)
def sL:Pl->d8->d9->d9
 |.sl i,d,ρ=>ρ.set i (Y d)
 |.fl i _ f,d,ρ=>ρ.set i ((ρ[i]?).join.map (Gp f d))
def pa(K:Fg)(σ:St)(H:Hp):Pl->Addr->Prop
 |.sl i,q=>σ[i]?=Y (Y (.ref q))
 |.fl i c f,q=>∃C p b a,σ[i]?=Y (Y (.ref p))/\iO K c C/\H p=Y (.ins C b a)/\a.lookup f=Y (.ref q)
def nv:d8->Bool
 |.list _=>true
 |.dict fX=>!eT fX
 |_=>false
section
def hI.cont{d:d8}(h:hI false K G d v B)(e:nv d=true):∃q o,v=.ref q/\B=[(q,o)]/\mY K G d q o:=by
 rcases h with ⟨q,o,i,a,b,c⟩ | ⟨c,C,p,g,f,r,j,rfl,_⟩
 ·exact⟨q,o,a,by rw[b,c.2],c.1⟩
 ·cases e
def hI.Oy{d:d8}{q:Addr}{o:HO}(h:mY K G d q o):hI false K G d (.ref q) [(q,o)]:=.inl ⟨q,o,[],rfl,rfl,h,rfl⟩
def qW:d8->Bool
 |.list []=>true
 |.dict []=>true
 |_=>false
def mY.gen{d:d8}{q:Addr}{o:HO}(h:mY K G d q o)(b:dp=false\/qW d=true):lx dp K G d q o []:=by
 cases dp with
 |false=>exact⟨h,rfl⟩
 |true=>
  have b:=b.resolve_left (by simp);rcases h with ⟨i,f,rfl,rfl,c⟩ | ⟨e,g,rfl,rfl,c⟩
  ·cases i with
   |nil=>exact .inl ⟨[],f,rfl,rfl,dv.eC.mp c,rfl⟩
   |cons a l=>cases b
  ·cases e with
   |nil=>exact .inr ⟨[],g,rfl,rfl,fq.eC.mp c,rfl⟩
   |cons a l=>cases b
def lx.MA{q:Addr}{o:HO}{g:List (Addr×HO)}{c:Str}{r:List (d8×d8)}(h:lx dp K G (.dict ((.none,.str c)::r)) q o g):False:=by
 cases dp with
 |false=>
  rcases h with ⟨⟨_,_,e,_⟩ | ⟨b,d,e,_,i⟩,_⟩
  ·cases e
  ·cases e;obtain⟨y,_,_,_,e,_⟩:=fq.eh.mp i;cases y<;>cases e
 |true=>
  rcases h with ⟨_,_,e,_⟩ | ⟨b,d,e,_,i⟩
  ·cases e
  ·cases e;obtain⟨y,v,j,l,k,a,f,_⟩:=i;cases y<;>cases f
def hI.inst{c:Str}{r:List (d8×d8)}(h:hI dp K G (.dict ((.none,.str c)::r)) v B):∃C p b a d,v=.ref p/\B=(p,.ins C b a)::(b,.own p)::d/\iO K c C/\hH K G c r a d:=by
 rcases h with ⟨q,o,k,rfl,rfl,h⟩ | ⟨j,C,p,b,a,i,d,e,rfl,rfl,g,f⟩
 ·exact h.MA.elim
 ·cases e;exact⟨C,p,b,a,d,rfl,rfl,g,f⟩
def BX{c f:Str}{x d:d8}(h:Gn c f x=Y d):∃r,x=.dict ((.none,.str c)::r)/\jI c f=true/\lu f r=Y d:=by
 unfold Gn at h;split at h
 ·rename_i e r;by_cases a:e=c/\jI c f=true
  ·rw[af a] at h;obtain⟨rfl,b⟩:=a;exact⟨r,rfl,b,h⟩
  ·rw[ag a] at h;cases h
 ·cases h
def lM(O:List Nat):Pl->Bool
 |.sl _=>iI O
 |.fl _ c f=>my c f
theorem fG.uG(s:O.Nodup)(h:fG O K σ ρ H G){π:Pl}{d:d8}(S:π.ix∈O)(T:uF π ρ=Y d)(hc:nv d=true):
  ∃q o n l k,pa K σ H π q/\H=eD G (l++((q,o)::(n++k)))/\ip G (l++((q,o)::(n++k)))/\lL l/\lL k/\lx (lM O π) K G d q o n /\
   ∀e j b a,ez G e->lx (lM O π) K e j q b a->ip e (l++((q,b)::(a++k)))->fG O K σ (sL π j ρ) (eD e (l++((q,b)::(a++k)))) e:=by
 cases π with
 |sl i=>
  obtain⟨v,l,B1,k,M,u,f,z,F,E,P,_⟩:=h.own s S (gE T);rcases z with ⟨q,o,n,rfl,rfl,W⟩ | ⟨c,C,p,g,m,r,B',rfl,_⟩
  ·exact⟨q,o,n,l,k,M,u,f,F,E,W,λe j b a w A t=>P e j ((q,b)::a) w (.inl ⟨q,b,a,rfl,rfl,A⟩) t⟩
  ·cases hc
 |fl i c f=>
  obtain⟨x,U,e0⟩:=bind_some T;obtain⟨r,rfl,I,hg⟩:=BX e0;obtain⟨v,l,B1,k,M,u,t,z,F,E,P,_⟩:=h.own s S (gE U);obtain⟨C,p,g,m,B',rfl,rfl,V,a5⟩:=z.inst;obtain⟨q,o,n,R,Q,l1,rfl,m1,m2,X,N⟩:=a5.split I hg;have L:∀(b:HO) (a:List (Addr×HO)),l++(((p,HO.ins C g m)::(g,HO.own p)::(R++((q,b)::(a++Q))))++k)=(l++(p,HO.ins C g m)::(g,HO.own p)::R)++((q,b)::(a++(Q++k))):=λb a=>by simp
  rw[L] at u t;refine⟨q,o,n,_,_,⟨C,p,g,m,M,V,?_,l1⟩,u,t,F.append (.ins m1),m2.append E,X,λe j b a w D J=>?_⟩
  ·rw[u];exact eO t.nd (p,.ins C g m) (by simp)
  ·have B:=N e j b a w D;have y:hI (iI O) K e (.dict ((.none,.str c)::mX f j r)) (.ref p) ((p,HO.ins C g m)::(g,HO.own p)::(R++((q,b)::(a++Q)))):=.inr ⟨c,C,p,g,m,_,_,rfl,rfl,rfl,V,B⟩;have:=P e _ _ w y (by rw[L];exact J);rw[L] at this;have es:sL (.fl i c f) j ρ=ρ.set i (Y (.dict ((.none,.str c)::mX f j r))):=by
    show ρ.set i ((ρ[i]?).join.map (Gp f j))=_;rw[U];rfl
   rw[es];exact this
def fG.place(f:O.Nodup)(h:fG O K σ ρ H G){π:Pl}{d:d8}(p:π.ix∈O)(s:uF π ρ=Y d)(t:nv d=true)(g:lM O π=false):
  ∃q o,pa K σ H π q/\H q=Y o/\mY K G d q o/\∀e b,mY K G e q b->fG O K σ (sL π e ρ) (upd H q b) G:=by
 obtain⟨q,o,w,v,u,r,i,c,n,m,j,k⟩:=h.uG f p s t;rw[g] at j k;obtain⟨l,rfl⟩:=j;refine⟨q,o,r,by rw[i];exact eO c.nd (q,o) (by simp),l,λe b a=>?_⟩;rw[List.nil_append] at i c;rw[i,iJ c.nd];exact k G e b [] (.refl G) ⟨a,rfl⟩ (c.put (n.append (.one a.QK m)))
end
inductive Md where
 |dat|own|io (dp:Bool) (v0:V)|exc (W:Int->Hp->Prop)
def KO(K:Fg)(H:Hp)(d:d8)(Q:VK):Prop:=∀v a b,ez H a->ip a b->hI false K a d v b->Q v (eD a b)
def KO.later{a:Hp}{d:d8}{Q:VK}(k:KO K H d Q)(e:ez H a):KO K a d Q:=λv b c s f o=>k v b c (e.trans s) f o
structure iq (m:Md) (O:List Nat) (K:Fg) (σ:St) (ρ:d9) (H G:Hp):Prop where
 o:fG O K σ ρ H G
 z:∀dp v0,m=.io dp v0->0∈O/\σ[0]?=Y (Y v0)/\iI O=dp
def K8(m:Md)(K:Fg)(G:Hp)(d:d8)(Q:VK):Prop:=match m with
 |.dat=>KD K G d Q
 |.own=>KO K G d Q
 |.io dp v0=>∃x c,d=.tuple [x,c]/\∀v a b,ez G a->ip a b->hI dp K a c v0 b->et K a x v->Q v (eD a b)
 |.exc W=>(∃n,d=.int n/\∀a,ez G a->W n a)\/((∀n,d≠.int n)/\KD K G d Q)
theorem K8.later{m:Md}{K:Fg}{G g:Hp}{d:d8}{Q:VK}(e:ez G g)(h:K8 m K G d Q):K8 m K g d Q:=by
 cases m with
 |dat=>exact KD.later h e
 |own=>exact KO.later h e
 |io l k=>obtain⟨x,j,a,b⟩:=h;exact⟨x,j,a,λv c B s f o i=>b v c B (e.trans s) f o i⟩
 |exc W=>
  rcases h with ⟨n,a,b⟩ | ⟨a,b⟩
  ·exact .inl ⟨n,a,λc s=>b c (e.trans s)⟩
  ·exact .inr ⟨a,KD.later b e⟩
def Jv(m:Md)(O:List Nat)(K:Fg)(G:Hp)(D:ua):eY->Prop
 |.nx ρ=>∀σ a b,ez G b->iq m O K σ ρ a b->D.nx σ a
 |.bk ρ=>∀σ a b,ez G b->iq m O K σ ρ a b->D.bk σ a
 |.ct ρ=>∀σ a b,ez G b->iq m O K σ ρ a b->D.ct σ a
 |.rt d=>K8 m K G d D.rt
theorem Jv.later{m:Md}{O:List Nat}{K:Fg}{G d:Hp}{D:ua}(e:ez G d):∀{o:eY},Jv m O K G D o->Jv m O K d D o
 |.nx _,h=>λσ b c a q=>h σ b c (e.trans a) q
 |.bk _,h=>λσ b c a q=>h σ b c (e.trans a) q
 |.ct _,h=>λσ b c a q=>h σ b c (e.trans a) q
 |.rt _,h=>K8.later e h
def tO(m:Md)(O:List Nat)(K:Fg)(g:d9->Option eY):TS:=λD σ H=>∃ρ o G,iq m O K σ ρ H G/\g ρ=Y o/\Jv m O K G D o
def oF(X:Cx)(m:Md)(O:List Nat)(a:Stmt)(g:d9->Option eY):Prop:=PS X a (tO m O X.K g)
def ny(X:Cx)(m:Md)(O:List Nat)(a:List Stmt)(g:d9->Option eY):Prop:=tJ X a (tO m O X.K g)
def lN:d8->Bool
 |.list _=>false
 |.tuple _=>false
 |.dict _=>false
 |_=>true
def et.iK{a:Hp}{d:d8}(h:lN d=true)(i:et K H d v):et K a d v:=by cases d<;>first|(cases h;done)|(unfold et at i ⊢;exact i)
theorem dv.iK{K:Fg}{H f:Hp}:∀{c:Lp}{e:List V},c.all lN=true->dv K H c e->dv K f c e
 |[],_,_,i=>by rw[dv.eC.mp i];exact dv.nil
 |d::c,_,h,i=>by obtain⟨v,r,rfl,a,b⟩:=dv.eh.mp i;simp only[List.all_cons,bV] at h;exact dv.cons (et.iK h.1 a) (dv.iK h.2 b)
section
variable {m:Md}{a:Expr}{es:Lx}{fb fc:d9->Od}{p2:Pos}{rest:List Stmt}{g h:d9->Option eY}
def PV(X:Cx)(O:List Nat)(e:Expr)(h:d9->Od):Prop:=PE X e (λσ H Q=>∃ρ d G,fG O X.K σ ρ H G/\h ρ=Y d/\∀v a b,ez H a->ez G b->fG O X.K σ ρ a b->et X.K b d v->Q v a)
def fw(O:List Nat)(f:d9->Od):d9->Od:=λρ=>f (iz O ρ)
def IB(f:d9->Od):d9->Od:=λρ=>(f ρ).bind λd=>if lN d=true then Y d else Z
def pb{b:Hp}(c:(B.map (·.1)).Nodup)(e:ez G b):ez (eD G B) (eD b B):=λa o h=>by
 rcases k0 (a:=a) B with ⟨x,d,rfl⟩|h'
 ·rw[eO c x d] at h ⊢;exact h
 ·rw[fg h'] at h ⊢;exact e a o h
def eJ(l:PD X e f):PV X O e (fw O f) :=
 PE.imp (PE.frame l) <| by rintro σ H Q ⟨ρ,d,G,a,m,k⟩;obtain⟨B,j,h,c⟩:=a.ex;refine⟨G,B,j,h,iz O ρ,d,a.rest,m,λv n b i g=>?_⟩;subst j;exact k v _ n (pb h.nd b) b (fG.uE a.len c a.jj b g) i
def Ab{d:d8}(h:IB f ρ=Y d):f ρ=Y d/\lN d=true:=by
 obtain⟨x,c,a⟩:=bind_some h;by_cases b:lN x=true
 ·rw[af b] at a;cases a;exact⟨c,b⟩
 ·rw[ag b] at a;cases a
def Dq(h:PD X e f):PV X O e (IB f) :=
 PE.imp h <| by rintro σ H Q ⟨ρ,d,G,c,m,k⟩;obtain⟨l,j⟩:=Ab m;refine⟨ρ,d,c.full,l,λv n b i=>?_⟩;obtain⟨o,g,_,a⟩:=c.grow b;exact k v n o b g a (i.iK j)
def PF(X:Cx)(e:Expr)(f:d9->Od):Prop:=PE X e (λσ H Q=>∃ρ d,hY X.K H σ ρ/\f ρ=Y d/\KO X.K H d Q)
def MB(X:Cx)(O:List Nat)(e:Expr)(h:d9->Od):Prop:=PE X e (λσ H Q=>∃ρ d G,fG O X.K σ ρ H G/\h ρ=Y d/\∀v a b c,ez H a->ez G b->fG O X.K σ ρ a b->ip a c->hI false X.K b d v c->Q v (eD a c))
def gv(p:PF X e f):MB X O e (fw O f) :=
 PE.imp (PE.frame p) <| by
  rintro σ H Q ⟨ρ,d,G,c,s,k⟩;obtain⟨B,o,g,i⟩:=c.ex;refine⟨G,B,o,g,iz O ρ,d,c.rest,s,λv a b h q j l=>?_⟩;have n:ip a (B++b):=q.join l;have m:ip a (b++B):=n.perm aX (j.jJ.append g.ok);have r:eD (eD a b) B=eD (eD a B) b:=by rw[<-gq,<-gq];exact gu n.nd aX
  rw[r];subst o;exact k v _ a b (pb g.nd h) h (fG.uE c.len i c.jj h (m.BU g.ok)) (m.BS j.jJ) j
def Ep:d8->Bool
 |.list ds=>ds.all lN
 |_=>false
def Jw(f:d9->Od):d9->Od:=λρ=>(f ρ).bind λd=>if Ep d=true then Y d else Z
def BY(r:PF X e f):MB X O e (Jw f) :=
 PE.imp r <| by
  rintro σ H Q ⟨ρ,d,G,l,u,k⟩;obtain⟨x,t,b⟩:=bind_some u;by_cases a:Ep x=true
  ·rw[af a] at b;cases b;refine⟨ρ,d,l.full,t,λv z A j s n=>?_⟩;obtain⟨y,c,_,g⟩:=l.grow j;refine k v z y A j c g s ?_;cases d<;>try (simp[Ep] at a;done)
   rename_i B;obtain⟨q,o,rfl,rfl,p⟩:=n.cont rfl;rcases p with ⟨w,m,h,rfl,i⟩ | ⟨_,_,h,_⟩
   ·cases h;exact hI.Oy (.inl ⟨_,m,rfl,rfl,i.iK a⟩)
   ·cases h
  ·rw[ag a] at b;cases b
def pf(m:vS X es ff):PF X (.List es pos) (fZ ff) :=
 PE.imp (BI m) <| by
  rintro σ H Q ⟨ρ,d,j,e,k⟩;obtain⟨h,n,a⟩:=bind_some e;refine⟨ρ,h,j,n,λc o i f=>?_⟩;by_cases b:h.length<=sizeLine
  ·first
   | (rw[af b] at a;cases a)
   | (cases a)
   refine⟨by rw[<-f.length];exact b,λp l=>?_⟩;exact k (.ref p) o [(p,.lst c)] i ⟨by simp,(λx g=>by simp at g;subst g;exact l),.one aN .nil⟩ (hI.Oy (.inl ⟨_,c,rfl,rfl,f⟩))
  ·rw[ag b] at a;cases a
def nA:PF X (.Dict [] [] pos) (dC (.dict [])) :=
 PE.imp zV <| by rintro σ H Q ⟨ρ,d,c,e,k⟩;cases e;intro p b;exact k (.ref p) H [(p,.dK [])] (.refl H) ⟨by simp,(λx a=>by simp at a;subst a;exact b),.one aN .nil⟩ (hI.Oy (.inr ⟨[],[],rfl,rfl,fq.eC.mpr rfl⟩))
def ek:ny X m O [] fx:=tJ.imp IL <| by rintro D σ H ⟨ρ,o,G,a,e,k⟩;cases e;exact k σ H G (.refl G) a
def c4(l:oF X m O st g)(j:ny X m O rest h):ny X m O (st::rest) (eB g h) :=
 tJ.imp (zr l j) <| by
  rintro D σ H ⟨ρ,o,G,i,e,k⟩;obtain⟨c,n,a⟩:=bind_some e;refine⟨ρ,c,G,i,n,?_⟩;cases c with
  |nx ρ'=>exact λσ' q p f b=>⟨ρ',o,p,b,a,k.later f⟩
  |rt d=>cases a;exact k
  |bk ρ'=>cases a;exact k
  |ct ρ'=>cases a;exact k
def da(a:oF X m O st g):ny X m O [st] g:=tJ.imp (CU a) λD σ H h=>h
def eA(h:PD X e f):oF X .dat O (.Return (Y e) pos) (ft f) :=
 PS.imp (uc h) <| by rintro D σ H ⟨ρ,o,G,a,e,k⟩;obtain⟨d,c,rfl⟩:=ab.mp e;exact⟨ρ,d,a.o.full,c,λv g b i=>KD.later k (a.o.sub.trans b) |>.here i⟩
def nB(h:PF X e f):oF X .own O (.Return (Y e) pos) (ft f) :=
 PS.imp (uc h) <| by rintro D σ H ⟨ρ,o,G,a,e,k⟩;obtain⟨d,b,rfl⟩:=ab.mp e;exact⟨ρ,d,a.o.full,b,KO.later k a.o.sub⟩
def p4(i:Nat) {z:Pos} (g:O.Nodup) (w:i∈O:=by decide) (h:iI O=false:=by rfl) (y:X.N[i]?=Y x:=by rfl) (s:D0 X.env.scope x:=by first|exact bW rfl|exact bz (bW rfl)|exact bz (bz rfl)) (u:zg x:=by decide)
  (j:(x==("__classdict__":Str))=false:=by decide):oF X .own O (.Return (Y (.Name x z)) pos) (ft (cn i)) :=
 PS.imp (uc (mq y s u j)) <| by
  rintro D σ H ⟨ρ,o,G,t,e,k⟩;obtain⟨d,C,rfl⟩:=ab.mp e;obtain⟨v,m,c,l,B,A,f,b,p,n,_,_⟩:=t.o.own g w (gE C);rw[h] at b;refine⟨v,B,?_⟩;have a:(m++(c++l)).Perm (c++(m++l)):=by rw[<-bw,<-bw];exact c0 _ aX
  have r:ip G (c++(m++l)):=f.perm a (b.jJ.append (p.append n));rw[A,gu f.nd a,gq];have q:=r.BU (p.append n);exact(show KO X.K G d D.rt from k) v _ c q.same (r.BS b.jJ) (b.same q.same)
def eF{f d:List Stmt}(p:Bq X c gc)(r:ny X m O f g)(q:ny X m O d h):oF X m O (.If c f d pos) (il gc g h) :=
 PS.imp (KR p r q) <| by
  rintro D σ H ⟨ρ,o,G,b,e,k⟩;obtain⟨y,s,j⟩:=bind_some e;refine⟨ρ,y,b.o.full,s,λt n=>?_⟩;obtain⟨l,i,_,a⟩:=b.o.grow n;cases y with
  |true=>rw[af rfl];exact⟨ρ,o,l,⟨a,b.z⟩,j,k.later i⟩
  |false=>rw[ag aQ];exact⟨ρ,o,l,⟨a,b.z⟩,j,k.later i⟩
def Er:oF X m O (.Break pos) (λρ=>Y (.bk ρ)):=PS.imp Fw <| by rintro D σ H ⟨ρ,o,G,a,e,k⟩;cases e;exact k σ H G (.refl G) a
def yf:d9->Option eY:=λ_=>Z
def qX:oF X m O st yf:=PS.imp Fx <| by rintro D σ H ⟨ρ,o,G,a,e,k⟩;cases e
theorem iq.set{K:Fg}{σ:St}{ρ:d9}{H G:Hp}{i:Nat}{d:d8}{v:V}(h:iq m O K σ ρ H G)(b:i∉O)(e:et K G d v):iq m O K (σ.set i (Y v)) (ρ.set i (Y d)) H G :=
 ⟨h.o.set b e,λk g z=>by obtain⟨a,f,c⟩:=h.z k g z;have j:i≠0:=λq=>b (q▸a);exact⟨a,by rw[aq j];exact f,c⟩⟩
noncomputable def fe(f:d9->Od)(i:Nat):d9->Option eY:=λρ=>(f ρ).map λd=>.nx (ρ.set i (Y d))
def eZ(i:Nat) {a:Pos} (r:X.N.Nodup) (p:PV X O e f) (q:i∉O:=by decide) (l:X.N[i]?=Y x:=by rfl) (j:CQ X.env.scope x:=by first|exact bW rfl|exact bz rfl) (b:swapsWith e (Y (.Name x a)) pos.line X.env=pure false:=by rfl)
  (n:X.fn x=true\/X.env.scope.names.lookup x=Y .local:=by first|exact .inl rfl|exact .inr rfl|assumption):oF X m O (.Assign [.Name x a] e pos) (fe f i) :=
 PS.imp (xP r l j p b n) <| by rintro D σ H ⟨ρ,o,G,b,e,k⟩;obtain⟨d,s,rfl⟩:=ab.mp e;exact⟨ρ,d,G,b.o,s,λv t u _ g c h=>k _ t u g (iq.set ⟨c,b.z⟩ q h)⟩
noncomputable def gk(f:d9->Od)(i:Nat):d9->Option eY:=λρ=>(f ρ).bind λd=>if i<ρ.length then Y (.nx (ρ.set i (Y d))) else Z
def gm(i:Nat) {a:Pos} (A:X.N.Nodup) (g:O.Nodup) (w:MB X O e f) (y:i∈O:=by decide) (l:iI O=false:=by rfl) (h0:i≠0\/m=.dat\/m=.own:=by first|exact .inl (by decide)|exact .inr (.inl rfl)|exact .inr (.inr rfl)) (t:X.N[i]?=Y x:=by rfl) (s:CQ X.env.scope x:=by first|exact bW rfl|exact bz rfl) (b:swapsWith e (Y (.Name x a)) pos.line X.env=pure false:=by rfl)
  (u:X.fn x=true\/X.env.scope.names.lookup x=Y .local:=by first|exact .inl rfl|exact .inr rfl|assumption):oF X m O (.Assign [.Name x a] e pos) (gk f i) :=
 PS.imp (xP A t s w b u) <| by
  rintro D σ H ⟨ρ,o,G,b,e,k⟩;obtain⟨d,E,c⟩:=bind_some e;by_cases h:i<ρ.length
  ·rw[af h] at c;cases c;refine⟨ρ,d,G,b.o,E,λv J K L _ q j C n=>?_⟩;rw[<-l] at n;obtain⟨I,r,B⟩:=j.new g y h n C;refine k _ _ I (q.trans r) ⟨B,λF p z=>?_⟩;rcases h0 with h0|h0|h0
   ·rw[aq h0];exact b.z F p z
   ·rw[h0] at z;cases z
   ·rw[h0] at z;cases z
  ·rw[ag h] at c;cases c
def PP(X:Cx)(e:Expr)(π:Pl):Prop:=PE X e (λσ H Q=>∃q,pa X.K σ H π q/\Q (.ref q) H)
def jF(i:Nat) (d:X.N[i]?=Y x:=by rfl) (b:D0 X.env.scope x:=by first|exact bW rfl|exact bz (bW rfl)|exact bz (bz rfl)) (c:zg x:=by decide)
  (a:(x==("__classdict__":Str))=false:=by decide):PP X (.Name x pos) (.sl i):=PE.imp (mq d b c a) λσ H Q ⟨q,r,k⟩=>⟨_,r,k⟩
def w9(i:Nat) {c n:Str}{a:Pos} (h:fY X.K c n) (g:X.N[i]?=Y x:=by rfl) (d:D0 X.env.scope x:=by first|exact bW rfl|exact bz (bW rfl)|exact bz (bz rfl)) (e:zg x:=by decide)
  (b:(x==("__classdict__":Str))=false:=by decide) (f:attributeBase (.Name x a) n X.env (eval (.Name x a) X.env)=eval (.Name x a) X.env:=by rfl):PP X (.Attribute (.Name x a) n pos) (.fl i c n) :=
 PE.imp (BE (mq g d e b) f) <| by rintro σ H Q ⟨q,⟨C,p,v,o,u,t,s,r⟩,k⟩;obtain⟨w,m,l,j⟩:=h;have:=t.uniq m;subst this;exact⟨_,u,p,C,v,o,_,rfl,s,l,j,r,k⟩
theorem mY.lst{K:Fg}{G:Hp}{b:Lp}{q:Addr}{o:HO}(h:mY K G (.list b) q o):∃a,o=.lst a/\dv K G b a:=by
 rcases h with ⟨d,a,e,c,i⟩ | ⟨_,_,e,_⟩
 ·cases e;exact⟨a,c,i⟩
 ·cases e
def mY.xa{q:Addr}{o:HO}(h:mY K G (.dict fX) q o):∃a,o=.dK a/\fq K G fX a:=by
 rcases h with ⟨c,d,e,b,i⟩ | ⟨_,a,e,b,i⟩
 ·cases e
 ·cases e;exact⟨a,b,i⟩
def pa.eq{l:Hp}{π:Pl}{q a:Addr}(h:pa K σ H π q)(b:pa K σ l π a)(e:ez H l):q=a:=by
 cases π with
 |sl i=>have n:σ[i]?=Y (Y (.ref q)):=h;have d:σ[i]?=Y (Y (.ref a)):=b;rw[n] at d;cases d;rfl
 |fl i c f=>obtain⟨C,p,w,v,t,y,s,r⟩:=h;obtain⟨z,u,o,m,k,x,j,g⟩:=b;rw[t] at k;cases k;rw[e _ _ s] at j;cases j;rw[r] at g;cases g;rfl
noncomputable def iL(π:Pl)(f:d9->Od):d9->Option eY:=λρ=>(uF π ρ).bind λl=>(f ρ).bind λd=>match l with
 |.list ds=>if ds.length<sizeLine then Y (.nx (sL π (.list (ds++[d])) ρ)) else Z
 |_=>Z
def jb{π:Pl} (h:O.Nodup) (R:PP X o π) (S:PV X O e f) (C:π.ix∈O:=by decide) (s:lM O π=false:=by rfl) (j:starEach [e] X.env=(false,eval e X.env)::starEach [] X.env:=by rfl)
  (c:attributeBase o "append" X.env (eval o X.env)=eval o X.env:=by rfl)
  (p:((backTo fh (starEach [e] X.env)).all (λx=>!x.1)&&(backToKw fh (keywordEach [] X.env)).all (λx=>x.1.isSome)&&decide (([e]:Lx).length+([]:List Keyword).length+(if ([]:List Keyword).isEmpty then 0 else 1)<30))=true:=by rfl)
  (b:(apos.endLine==fh.line)=true:=by rfl) (a:(backTo fh (starEach [] X.env)).any (·.1)=false:=by rfl)
  (n:swapsWith (.Call (.Attribute o "append" apos) [e] [] fh) Z pos.line X.env=pure false:=by rfl):
  oF X m O (.Expr (.Call (.Attribute o "append" apos) [e] [] fh) pos) (iL π f) :=
 PS.imp (kW (rY ba PySem.F.slot_list_append PySem.F.type_list_append qS R (iE S kA j) c p b j a) n) <| by
  rintro D σ H ⟨ρ,o,G,n,e,k⟩;obtain⟨l,E,T⟩:=bind_some e;obtain⟨d,U,g⟩:=bind_some T;obtain⟨B,rfl⟩:∃B,l=.list B:=by cases l<;>first|exact⟨_,rfl⟩|cases g
  dsimp only at g;by_cases w:B.length<sizeLine
  ·rw[af w] at g;cases g;obtain⟨q,ob,r,Q,M,_⟩:=n.o.place h C E rfl s;obtain⟨I,rfl,i4⟩:=M.lst;refine⟨q,r,.inl ⟨rfl,I,jS.of Q⟩,ρ,d,G,n.o,U,λv H' W J K y P=>?_⟩;obtain⟨q',N,L,A,u,V⟩:=y.place h C E rfl s;have:=pa.eq r L J;subst this;obtain⟨t,rfl,i⟩:=u.lst;refine⟨q,t,v,rfl,rfl,A,by rw[<-i.length];exact w,?_⟩;exact k _ _ W K ⟨V _ _ (.inl ⟨_,_,rfl,rfl,i.append (dv.cons P dv.nil)⟩),n.z⟩
  ·rw[ag w] at g;cases g
end
section
variable {m:Md}{a:Expr}{es:Lx}{fb fc:d9->Od}{p2:Pos}{rest:List Stmt}{g h:d9->Option eY}
def Oz(π:Pl):d9->Option eY:=λρ=>(uF π ρ).bind λl=>match l with
 |.list ds=>if ds.isEmpty=true then Z else Y (.nx (sL π (.list ds.dropLast) ρ))
 |_=>Z
theorem dv.dropLast{K:Fg}{H:Hp}{b:Lp}{a:List V}(h:dv K H b a):dv K H b.dropLast a.dropLast:=by rw[List.dropLast_eq_take,List.dropLast_eq_take,h.length];exact h.take _
def Jx{π:Pl} (h:O.Nodup) (t:PP X o π) (v:π.ix∈O:=by decide) (j:lM O π=false:=by rfl)
  (b:attributeBase o "pop" X.env (eval o X.env)=eval o X.env:=by rfl) (a:(apos.endLine==fh.line)=true:=by rfl)
  (f:swapsWith (.Call (.Attribute o "pop" apos) [] [] fh) Z pos.line X.env=pure false:=by rfl):
  oF X m O (.Expr (.Call (.Attribute o "pop" apos) [] [] fh) pos) (Oz π) :=
 PS.imp (kW (FU ba PySem.F.slot_list_pop PySem.F.type_list_pop FW t b a) f) <| by
  rintro D σ H ⟨ρ,o,G,f,e,k⟩;obtain⟨l,w,c⟩:=bind_some e;obtain⟨g,rfl⟩:∃g,l=.list g:=by cases l<;>first|exact⟨_,rfl⟩|cases c
  dsimp only at c;by_cases i:g.isEmpty=true
  ·rw[af i] at c;cases c
  ·rw[ag i] at c;cases c;obtain⟨q,y,r,p,s,x⟩:=f.o.place h v w rfl j;obtain⟨d,rfl,n⟩:=s.lst;have u:d.length - 1<d.length:=by
    have:=n.length;have:g≠[]:=λz=>i (by rw[z];rfl);have:=dZ.mpr this;omega
   exact⟨q,r,.inl ⟨rfl,d,jS.of p⟩,q,d,_,rfl,rfl,p,aH u,k _ _ G (.refl G) ⟨x _ _ (.inl ⟨_,_,rfl,rfl,n.dropLast⟩),f.z⟩⟩
def OA:V->V->V->Hp->(Hp->Prop)->Prop:=λo i v H Q=>∃p a k,o=.ref p/\i=kV k/\H p=Y (.dK a)/\a.length<sizeLine/\Q (upd H p (.dK (putK a k v)))
def BZ(r:X.A.units+64<cLine):xO X OA:=by intro a s σ H o i v l n u Q I c d b h;obtain⟨p,m,k,rfl,rfl,e,f,q⟩:=h;cases c;exact Ej (by omega) I (Jf.k e f) d b λj g=>⟨_,g,q⟩
def xO.or{t u:IQ}(h:xO X t)(j:xO X u):xO X (λo i v H Q=>t o i v H Q\/u o i v H Q):=λa s σ H o i v f g b Q I e d c q=>q.elim (@h a s σ H o i v f g b Q I e d c) (@j a s σ H o i v f g b Q I e d c)
noncomputable def yg(k d l:d8):Od:=match l with
 |.list ds=>match k with
  |.int i=>(Ec ds.length i).map λj=>.list (ds.set j d)
  |_=>Z
 |.dict fX=>if fX.length<sizeLine/\eT fX=false then (kF k).map λ_=>.dict (BV k d fX) else Z
 |_=>Z
def vU(π:Pl)(e c:d9->Od):d9->Option eY:=λρ=>(uF π ρ).bind λl=>(c ρ).bind λd=>(e ρ).bind λb=>(yg b d l).map λa=>.nx (sL π a ρ)
theorem dv.set{K:Fg}{H:Hp}{d:d8}{v:V}(i:et K H d v):∀{c:Lp}{e:List V} (j:Nat),dv K H c e->dv K H (c.set j d) (e.set j v)
 |[],_,_,h=>by rw[dv.eC.mp h];exact dv.nil
 |x::c,_,j,h=>by
  obtain⟨u,r,rfl,a,b⟩:=dv.eh.mp h;cases j with
  |zero=>exact dv.cons i b
  |succ j=>exact dv.cons a (dv.set i j b)
def k4(hu:X.A.units+64<cLine) {π:Pl}{b:Pos} (n:O.Nodup) (ho:PP X o π) (hk:PV X O a fa) (he:PV X O e f) (M:π.ix∈O:=by decide) (x:lM O π=false:=by rfl)
  (ha:∀v,assign (.Subscript o a b) X.env v=(do
   let ov <-holding [v] (eval o X.env);let iv <-holding [v,ov] (eval a X.env)
   standAt b
   holding [v,ov,iv] (setItem ov iv v)
   release [v,ov,iv] []):=by intro _;rfl)
  (u:swapsWithSole [.Subscript o a b] e pos.line X.env=pure false:=by rfl) (hw:swappedStores [.Subscript o a b] e X.env=pure Z:=by rfl)
  (h1:(assignEach [.Subscript o a b] X.env).map (·.2)=[assign (.Subscript o a b) X.env]:=by rfl):
  oF X m O (.Assign [.Subscript o a b] e pos) (vU π fa f) :=
 PS.imp (Bv he (Bu ho hk (xO.or zH (BZ hu)) ha) u hw h1) <| by
  rintro D σ H ⟨ρ,o,G,u,e,k⟩;obtain⟨l,N,ea⟩:=bind_some e;obtain⟨d,e2,eb⟩:=bind_some ea;obtain⟨J,e3,ec⟩:=bind_some eb;obtain⟨l',g,rfl⟩:=ab.mp ec;have E:nv l=true:=by
   cases l<;>try (simp[yg] at g;done)
   ·rfl
   ·rename_i c;simp only[yg] at g;by_cases h:c.length<sizeLine/\eT c=false
    ·show (!eT c)=true;rw[h.2];rfl
    ·rw[ag h] at g;cases g
  refine⟨ρ,d,G,u.o,e2,λv H1 G1 _ I t W=>?_⟩;obtain⟨q,ob,r,hq,oc,_⟩:=t.place n M N E x;refine⟨q,r,ρ,J,G1,t,e3,λkv H2 Q S y C L=>?_⟩;obtain⟨q',U,T,w,i,P⟩:=C.place n M N E x;have:=pa.eq r T S;subst this;have s:=W.same y;cases l with
  |list ds=>
   obtain⟨R,rfl,p⟩:=i.lst;cases J<;>try (simp[yg] at g;done)
   rename_i j;simp only[yg] at g;obtain⟨K,F,rfl⟩:=ab.mp g;refine .inl ⟨q,R,j,K,rfl,et.eG.mp L,w,by rw[<-p.length];exact F,?_⟩;exact k _ _ Q (I.trans y) ⟨P _ _ (.inl ⟨_,_,rfl,rfl,p.set s K⟩),u.z⟩
  |dict c=>
   obtain⟨B,rfl,p⟩:=i.xa;simp only[yg] at g;by_cases h:c.length<sizeLine/\eT c=false
   ·rw[af h] at g;obtain⟨V,F,rfl⟩:=ab.mp g;have:=fM F;subst this;refine .inr ⟨q,B,V,rfl,gi L,w,by rw[<-p.length];exact h.1,?_⟩;exact k _ _ Q (I.trans y) ⟨P _ _ (.inr ⟨_,_,rfl,rfl,p.put s⟩),u.z⟩
   ·rw[ag h] at g;cases g
  |_=>cases E
noncomputable def oj(π:Pl)(f:d9->Od):d9->Option eY:=λρ=>(uF π ρ).bind λl=>(f ρ).bind λd=>match l,d with
 |.list ds,.list es=>if ds.length+es.length<=sizeLine then Y (.nx (sL π (.list (ds++es)) ρ)) else Z
 |_,_=>Z
def B0{π:Pl} (i:O.Nodup) (ho:PP X o π) (he:MB X O e f) (P:π.ix∈O:=by decide) (t:lM O π=false:=by rfl) (n:starEach [e] X.env=(false,eval e X.env)::starEach [] X.env:=by rfl)
  (g:attributeBase o "extend" X.env (eval o X.env)=eval o X.env:=by rfl)
  (s:((backTo fh (starEach [e] X.env)).all (λx=>!x.1)&&(backToKw fh (keywordEach [] X.env)).all (λx=>x.1.isSome)&&decide (([e]:Lx).length+([]:List Keyword).length+(if ([]:List Keyword).isEmpty then 0 else 1)<30))=true:=by rfl)
  (c:(apos.endLine==fh.line)=true:=by rfl) (a:(backTo fh (starEach [] X.env)).any (·.1)=false:=by rfl)
  (p:swapsWith (.Call (.Attribute o "extend" apos) [e] [] fh) Z pos.line X.env=pure false:=by rfl):
  oF X m O (.Expr (.Call (.Attribute o "extend" apos) [e] [] fh) pos) (oj π f) :=
 PS.imp (kW (rY ba cO PySem.F.type_list_extend Ee ho (iE he kA n) g s c n a) p) <| by
  rintro D σ H ⟨ρ,o,G,p,e,k⟩;obtain⟨l,Q,ea⟩:=bind_some e;obtain⟨d,e2,h⟩:=bind_some ea;obtain⟨K,rfl⟩:∃K,l=.list K:=by cases l<;>first|exact⟨_,rfl⟩|(cases d<;>cases h)
  obtain⟨J,rfl⟩:∃J,d=.list J:=by cases d<;>first|exact⟨_,rfl⟩|cases h
  dsimp only at h;by_cases A:K.length+J.length<=sizeLine
  ·rw[af A] at h;cases h;obtain⟨q,ob,r,hq,W,_⟩:=p.o.place i P Q rfl t;obtain⟨R,rfl,i4⟩:=W.lst;refine⟨q,r,.inl ⟨rfl,R,jS.of hq⟩,ρ,_,G,p.o,e2,λv H' G' B' S T C I V=>?_⟩;obtain⟨b,ob,rfl,rfl,w⟩:=V.cont rfl;obtain⟨L,rfl,N⟩:=w.lst;obtain⟨G2,M,g2,B⟩:=C.grow I.same;obtain⟨q',Uz,U,E,y,cl⟩:=B.place i P Q rfl t;have:=pa.eq r U (S.trans I.same);subst this;obtain⟨u,rfl,j⟩:=y.lst;refine⟨q,b,u,L,rfl,rfl,E,eO I.nd (b,.lst L) (by simp),by rw[<-j.length,<-N.length];exact A,?_⟩;exact k _ _ G2 (T.trans M) ⟨cl _ _ (.inl ⟨_,_,rfl,rfl,j.append (N.same M)⟩),p.z⟩
  ·rw[ag A] at h;cases h
noncomputable def ju(i:Nat)(c n:Str)(f:d9->Od):d9->Option eY:=λρ=>(ρ[i]?).join.bind λx=>(f ρ).bind λd=>match x with
 |.dict ((.none,.str a)::r)=>if a=c/\jI c n=false/\r.length<1000 then Y (.nx (ρ.set i (Y (.dict ((.none,.str c)::mX n d r))))) else Z
 |_=>Z
theorem gB(i:Nat) {c n:Str}{a P:Pos} (w:O.Nodup) (hC:fY X.K c n) (he:PV X O e f) (hO:i∈O:=by decide) (hN:X.N[i]?=Y x:=by rfl) (hv:D0 X.env.scope x:=by first|exact bW rfl|exact bz (bW rfl)|exact bz (bz rfl)) (hd:zg x:=by decide)
  (I:(x==("__classdict__":Str))=false:=by decide) (j:swapsWith e (Y (.Attribute (.Name x P) n a)) pos.line X.env=pure false:=by rfl):
  oF X m O (.Assign [.Attribute (.Name x P) n a] e pos) (ju i c n f) :=
 PS.imp (BF (mq hN hv hd I) he j) <| by
  rintro D σ H ⟨ρ,o,G,j,e,k⟩;obtain⟨y,e1,ea⟩:=bind_some e;obtain⟨d,e2,g⟩:=bind_some ea;obtain⟨C',g1,g2,g3⟩:=hC;split at g
  ·rename_i M r;by_cases E:M=c/\jI c n=false/\r.length<1000
   ·rw[af E] at g;cases g;obtain⟨rfl,B,A⟩:=E;refine⟨ρ,d,G,j.o,e2,λv H' s _ U F i'=>?_⟩;obtain⟨v0,T,B1,S,e3,L,l,V,k1,W,cl,_⟩:=F.own w hO (gE e1);obtain⟨C,p,b,J,t,rfl,rfl,R,Q⟩:=V.inst;have:=R.uniq g1;subst this;have q:∀u:HO,T++(((p,u)::(b,HO.own p)::t)++S)=T++(p,u)::((b,HO.own p)::t++S):=λu=>by simp
    rw[q] at L l;refine⟨_,e3,p,C,b,J,rfl,by rw[L];exact eO l.nd (p,.ins C b J) (by simp),g2,g3,by rw[Q.len];exact A,?_⟩;have h:hI (iI O) X.K s (.dict ((.none,.str M)::mX n d r)) (.ref p) ((p,.ins C b (jX n v J))::(b,.own p)::t):=.inr ⟨M,C,p,b,_,_,t,rfl,rfl,rfl,R,Q.put B i'⟩;rw[L,iJ l.nd,<-q];exact k _ _ s U ⟨cl s _ _ (.refl s) h (by rw[q];exact l.put (by rw[<-q];exact k1.append (h.jJ.append W))),j.z⟩
   ·rw[ag E] at g;cases g
  ·cases g
noncomputable def Ac(i:Nat)(c n:Str)(f:d9->Od):d9->Option eY:=λρ=>(ρ[i]?).join.bind λx=>(f ρ).bind λd=>match x with
 |.dict ((.none,.str a)::r)=>if a=c/\jI c n=true/\r.length<1000/\lu n r=Z/\nv d=true/\(my c n=false\/qW d=true) then Y (.nx (ρ.set i (Y (.dict ((.none,.str c)::mX n d r))))) else Z
 |_=>Z
theorem p5(i:Nat) {c n:Str}{t ep:Pos} (R:O.Nodup) (hC:fY X.K c n) (he:MB X O e f) (hO:i∈O:=by decide) (hN:X.N[i]?=Y x:=by rfl) (hv:D0 X.env.scope x:=by first|exact bW rfl|exact bz (bW rfl)|exact bz (bz rfl)) (hd:zg x:=by decide)
  (Tc:(x==("__classdict__":Str))=false:=by decide) (J:swapsWith e (Y (.Attribute (.Name x ep) n t)) pos.line X.env=pure false:=by rfl):
  oF X m O (.Assign [.Attribute (.Name x ep) n t] e pos) (Ac i c n f) :=
 PS.imp (BF (mq hN hv hd Tc) he J) <| by
  rintro D σ H ⟨ρ,o,G,J,e,k⟩;obtain⟨y,e1,ea⟩:=bind_some e;obtain⟨d,e2,w⟩:=bind_some ea;obtain⟨C',g1,g2,g3⟩:=hC;split at w
  ·rename_i c' r;by_cases hz:c'=c/\jI c n=true/\r.length<1000/\lu n r=Z/\nv d=true/\(my c n=false\/qW d=true)
   ·rw[af hz] at w;cases w;obtain⟨rfl,W,V,U,T,S⟩:=hz;refine⟨ρ,d,G,J.o,e2,λv H' B B2 _ sG Td fB M=>?_⟩;obtain⟨q,b,rfl,rfl,oc⟩:=M.cont T;obtain⟨v0,l,B1,j,e3,eH,fm,ot,k1,k2,cl,_⟩:=Td.own R hO (gE e1);obtain⟨C,p,a,g,h,rfl,rfl,a4,a5⟩:=ot.inst;have:=a4.uniq g1;subst this;have L:∀Q:HO,l++(((p,Q)::(a,HO.own p)::(h++[(q,b)]))++j)=l++(p,Q)::((a,HO.own p)::(h++[(q,b)])++j):=λQ=>by simp
    have u:((q,b)::(l++(((p,HO.ins C a g)::(a,HO.own p)::h)++j))).Perm (l++(((p,HO.ins C a g)::(a,HO.own p)::(h++[(q,b)]))++j)):=by
     have h1:l++(((p,HO.ins C a g)::(a,HO.own p)::(h++[(q,b)]))++j)=(l++((p,HO.ins C a g)::(a,HO.own p)::h))++((q,b)::j):=by simp
     have h2:(q,b)::(l++(((p,HO.ins C a g)::(a,HO.own p)::h)++j))=(q,b)::((l++((p,HO.ins C a g)::(a,HO.own p)::h))++j):=by simp
     rw[h1,h2];exact List.perm_middle.symm
    have P:lL (l++(((p,HO.ins C a g)::(a,HO.own p)::(h++[(q,b)]))++j)):=k1.append ((lL.ins (a5.jJ.append (.one oc.QK .nil))).append k2);have F:ip B ((q,b)::(l++(((p,HO.ins C a g)::(a,HO.own p)::h)++j))):=by have:=fm.join (A:=[(q,b)]) (by rw[<-eH];exact fB);exact this
    have s:=F.perm u P;have I:eD H' [(q,b)]=eD B (l++(((p,HO.ins C a g)::(a,HO.own p)::(h++[(q,b)]))++j)):=by rw[<-gu F.nd u,eH];rfl
    rw[L] at I s;rw[I];refine⟨_,e3,p,C,a,g,rfl,eO s.nd (p,.ins C a g) (by simp),g2,g3,by rw[a5.len];exact V,?_⟩;have E:hI (iI O) X.K B (.dict ((.none,.str c')::mX n d r)) (.ref p) ((p,.ins C a (jX n (.ref q) g))::(a,.own p)::(h++[(q,b)])):=.inr ⟨c',C,p,a,_,_,_,rfl,rfl,rfl,a4,a5.add W (oc.gen S) U⟩;rw[iJ s.nd,<-L];exact k _ _ B sG ⟨cl B _ _ (.refl B) E (by rw[L];exact s.put (by rw[<-L];exact k1.append (E.jJ.append k2))),J.z⟩
   ·rw[ag hz] at w;cases w
  ·cases w
noncomputable def Gq(i:Nat)(c:Int->Int->Int)(f:d9->Od):d9->Option eY:=λρ=>(ρ[i]?).join.bind λx=>(f ρ).bind λd=>match x,d with
 |.int a,.int b=>Y (.nx (ρ.set i (Y (.int (c a b)))))
 |_,_=>Z
def tL(i:Nat) {a:Pos}{h:Operator}{o:Int->Int->Int} (B:X.N.Nodup) (s:Pc X h (P4 o)) (A:PV X O e f) (n:i∉O:=by decide) (t:X.N[i]?=Y x:=by rfl) (r:CQ X.env.scope x:=by first|exact bW rfl|exact bz rfl)
  (w:X.fn x=true\/X.env.scope.names.lookup x=Y .local:=by first|exact .inl rfl|exact .inr rfl|assumption):oF X m O (.AugAssign (.Name x a) h e pos) (Gq i o f) :=
 PS.imp (LQ B t r A s w) <| by
  rintro D σ H ⟨ρ,L,G,c,e,k⟩;obtain⟨y,J,C⟩:=bind_some e;obtain⟨d,I,g⟩:=bind_some C;obtain⟨j,rfl⟩:∃j,y=.int j:=by cases y<;>first|exact⟨_,rfl⟩|(cases d<;>cases g)
  obtain⟨l,rfl⟩:∃l,d=.int l:=by cases d<;>first|exact⟨_,rfl⟩|cases g
  cases g;obtain⟨v,F,E⟩:=c.o.jj i _ (gE J) n;refine⟨v,F,ρ,_,G,c.o,I,λu M K _ p b q=>⟨j,l,et.eG.mp E,et.eG.mp q,?_⟩⟩;exact k _ _ K p (iq.set ⟨b,c.z⟩ n (et.eG.mpr rfl))
inductive Tg where
 |one (i:Nat)|many (is:List Nat)
def Tg.free(O:List Nat):Tg->Prop
 |.one i=>i∉O
 |.many is=>∀i∈is,i∉O
instance {O:List Nat}:(t:Tg)->Decidable (t.free O)
 |.one i=>inferInstanceAs (Decidable (i∉O))
 |.many is=>inferInstanceAs (Decidable (∀i∈is,i∉O))
noncomputable def yh:d9->List Nat->Lp->d9
 |ρ,i::is,d::ds=>yh (ρ.set i (Y d)) is ds
 |ρ,_,_=>ρ
noncomputable def p6:Tg->d8->d9->Option d9
 |.one i,d,ρ=>Y (ρ.set i (Y d))
 |.many is,.tuple ds,ρ=>if ds.length=is.length then Y (yh ρ is ds) else Z
 |_,_,_=>Z
noncomputable def tM:St->List Nat->List V->St
 |σ,i::is,v::vs=>tM (σ.set i (Y v)) is vs
 |σ,_,_=>σ
def gT(K:Fg):Tg->TG
 |.one i=>CV i
 |.many is=>λv σ H Q=>∃p a,v=.ref p/\mV K H p a/\a.length=is.length/\Q (tM σ is a) H
theorem iq.qY{K:Fg}{H G:Hp}:∀{is:List Nat}{σ:St}{ρ:d9}{b:Lp}{a:List V},iq m O K σ ρ H G->(∀i∈is,i∉O)->dv K G b a->iq m O K (tM σ is a) (yh ρ is b) H G
 |[],σ,ρ,b,a,h,_,_=>by cases b<;>cases a<;>exact h
 |i::is,σ,ρ,[],a,h,_,d=>by rw[dv.eC.mp d];exact h
 |i::is,σ,ρ,d::b,a,h,hi,RU=>by obtain⟨v,r,rfl,e,c⟩:=dv.eh.mp RU;exact iq.qY (is:=is) (σ:=σ.set i (Y v)) (ρ:=ρ.set i (Y d)) (h.set (hi i (by simp)) e) (λj f=>hi j (au _ f)) c
def iq.bind{ρ':d9}{a:Tg}{d:d8}{Q:St->Hp->Prop}(h:iq m O K σ ρ H G)(c:a.free O)(i:et K G d v)(e:p6 a d ρ=Y ρ')(k:∀σ',iq m O K σ' ρ' H G->Q σ' H):gT K a v σ H Q:=by
 cases a with
 |one j=>cases e;exact k _ (h.set c i)
 |many is=>
  cases d<;>try (simp[p6] at e;done)
  rename_i n;dsimp only[p6] at e;by_cases b:n.length=is.length
  ·rw[af b] at e;cases e;obtain⟨p,g,rfl,l,f⟩:=i.fJ;exact⟨p,g,rfl,h.o.sub.oB l,by rw[<-f.length];exact b,k _ (h.qY c f)⟩
  ·rw[ag b] at e;cases e
def gK(i:Nat)(d:X.N.Nodup)(b:X.N[i]?=Y x:=by rfl)(a:CQ X.env.scope x:=by first|exact bW rfl|exact bz rfl)(c:X.fn x=true\/X.env.scope.names.lookup x=Y .local:=by first|exact .inl rfl|exact .inr rfl|assumption):PG X (.Name x pos) (gT X.K (.one i)):=pU d b a c
def tN(i j:Nat) {y:Str}{b a:Pos}{h:Nat} (s:X.calm=true) (f:X.N.Nodup) (o:X.N[i]?=Y x:=by rfl) (n:X.N[j]?=Y y:=by rfl) (l:CQ X.env.scope x:=by first|exact bW rfl|exact bz rfl) (k:CQ X.env.scope y:=by first|exact bW rfl|exact bz rfl)
  (r:X.fn x=true\/X.env.scope.names.lookup x=Y .local:=by first|exact .inl rfl|exact .inr rfl|assumption) (d:X.fn y=true\/X.env.scope.names.lookup y=Y .local:=by first|exact .inl rfl|exact .inr rfl|assumption)
  (m:(assignEach [.Name x b,.Name y a] X.env).length=2:=by rfl) (c:(assignEach [.Name x b,.Name y a] X.env).findIdx? (·.1)=Z:=by rfl):PG X (.Tuple [.Name x b,.Name y a] h pos) (gT X.K (.many [i,j])) :=
 PG.imp (Fy s (ud (pU f o l r) (ud (pU f n k d) CW)) m c) <| by
  rintro v σ H Q ⟨p,e,u,t,g,q⟩;refine⟨p,e,u,t,g,?_⟩
  match e,g with
  |[v1,v2],_=>exact⟨v1,[v2],rfl,v2,[],rfl,rfl,q⟩
end
section
variable {m:Md}{a:Expr}{es:Lx}{fb fc:d9->Od}{p2:Pos}{rest:List Stmt}{g h:d9->Option eY}
def ke(K:Fg)(J:It)(e:Lp)(G:Hp):Prop :=
 ∀H',ez G H'->(J.stop e.length H')/\∀(i:Nat) (d:d8),e[i]?=Y d->J.go i H'/\∀x b,J.Iy i H' x b->ez H' b/\∀c,ez G c->(∀a,H' a=Z->c a=b a)->et K c d x
def Te(K:Fg)(q:d9->Option Lp):TI:=λσ G R=>∃ρ b,hY K G σ ρ/\q ρ=Y b/\∀J a,ez G a->ke K J b a->R J a
def Jy(X:Cx)(b a:Expr)(q:d9->Option Lp):Prop:=PI X b a (Te X.K q)
def Jz(h:PD X e f):Jy X tg e (o9 f) :=
 PI.imp (PI.or (CY h) (FD h)) <| by
  rintro σ H R ⟨ρ,C,u,e,k⟩;obtain⟨d,w,a⟩:=bind_some e;cases d<;>try (simp at a;done)
  ·cases a;refine .inl ⟨ρ,_,u,w,λv t m r=>?_⟩;obtain⟨p,b,rfl,a,j⟩:=et.eK.mp r;refine⟨p,rfl,⟨b,a⟩,k _ t m λA c=>⟨⟨b,c.seq a,by rw[j.length];exact ax _⟩,λi d q=>?_⟩⟩;obtain⟨x,g,s⟩:=j.get q;refine⟨⟨b,x,c.seq a,g⟩,?_⟩;rintro y z ⟨o,n⟩;have:=n b (c.seq a);rw[g] at this;cases this;subst o;exact⟨.refl _,λB l _=>s.same l⟩
  ·cases a;refine .inr ⟨ρ,_,u,w,λv t m r=>?_⟩;obtain⟨p,b,rfl,a,j⟩:=r.fJ;refine⟨p,rfl,⟨b,a⟩,k _ t m λA c=>⟨⟨b,c.oB a,by rw[j.length];exact ax _⟩,λi d q=>?_⟩⟩;obtain⟨x,g,s⟩:=j.get q;refine⟨⟨b,x,c.oB a,g⟩,?_⟩;rintro y z ⟨o,n⟩;have:=n b (c.oB a);rw[g] at this;cases this;subst o;exact⟨.refl _,λB l _=>s.same l⟩
def yi(a:Int)(n:Nat)(G:Hp):ke K (ND a n) (lJ a n) G:=λh f=>by
 refine⟨by show n<=(lJ a n).length;simp[lJ],λi d q=>?_⟩;have b:i<n:=by have:=(av.mp q).1;simpa [lJ] using this
 refine⟨b,?_⟩;rintro x g ⟨e,c⟩;have:d=.int (a+(i:Nat)):=by unfold lJ at q;rw[aB,dY b] at q;cases q;rfl
 subst this c e;exact⟨.refl _,λj _ _=>et.eG.mpr rfl⟩
def uH(n:Gl X "range")(m:X.mg "range"=Z)(h:PD X e f)(b:starEach [e] X.env=[(false,eval e X.env)]:=by rfl):Jy X tg (.Call (.Name "range" p) [e] [] pos) (jq f) :=
 PI.imp (wM n m (iE h kA (by rw[b];rfl)) b) <| by
  rintro σ H R ⟨ρ,q,b,e,k⟩;obtain⟨d,o,a⟩:=bind_some e;cases d<;>try (simp at a;done)
  rename_i j;dsimp only at a;by_cases c:-(2 ^ 62)<=j/\j<2 ^ 62
  ·rw[af c] at a;cases a;exact⟨ρ,_,b,o,λv g i l=>⟨j,by rw[et.eG.mp l],c.1,c.2,k _ g i (yi 0 _ g)⟩⟩
  ·rw[ag c] at a;cases a
def RV(X:Cx)(O:List Nat)(e a:Expr)(q:d9->Option Lp):Prop:=PI X e a (λσ H R=>∃ρ d G,fG O X.K σ ρ H G/\q ρ=Y d/\∀J b c,ez H b->ez G c->fG O X.K σ ρ b c->ke X.K J d c->R J b)
def ph(O:List Nat)(q:d9->Option Lp):d9->Option Lp:=λρ=>q (iz O ρ)
def iB{a:Expr}(h:Jy X tg a q):RV X O tg a (ph O q) :=
 PI.imp (PI.frame h) <| by rintro σ H R ⟨ρ,j,G,b,i,k⟩;obtain⟨B,g,f,d⟩:=b.ex;refine⟨G,B,g,f,iz O ρ,j,b.rest,i,λJ l c w e=>?_⟩;subst g;exact k J _ l (pb f.nd c) c (fG.uE b.len d b.jj c e) w
def gL(q:d9->Option Lp)(a:Tg)(g:d9->Option eY):d9->Option eY:=λρ=>(q ρ).bind λb=>kc (p6 a) g b ρ
theorem gM{a:Expr}{t:Tg}{h:List Stmt} (hp:PassesOwn (model X.prog X.w) X.A X.env X.xe) (hc:X.calm=true) (R:RV X O tg a q) (hg:PG X tg (gT X.K t)) (hO:t.free O) (hb:ny X m O h g)
  (u:∀x,foldedSetIterable a X.env x=pure x:=by intro _;rfl):oF X m O (.For tg a h [] pos) (gL q t g) :=
 PS.imp (xQ hp hc R hg hb u) <| by
  rintro D σ H ⟨ρ,o,G0,u,e,k⟩;obtain⟨b,e1,e2⟩:=bind_some e;refine⟨ρ,b,G0,u.o,e1,λJ H1 M _ F h1 w=>?_⟩;refine⟨λi Q σ' B=>Q=b.length - i/\i<=b.length/\∃ρ' E,ez M E/\iq m O X.K σ' ρ' B E/\kc (p6 t) g (b.drop i) ρ'=Y o,⟨b.length,by simp,bL _,ρ,M,.refl _,⟨h1,u.z⟩,by simpa using e2⟩,?_⟩;rintro i Q σ' B ⟨rfl,R,ρ',E,s,f,p⟩;obtain⟨w1,W⟩:=w B (s.trans f.o.sub);by_cases j:i<b.length
  ·right;have hd:b[i]?=Y b[i]:=aH j;obtain⟨V,U⟩:=W i _ hd;rw[bF j] at p;unfold kc at p;obtain⟨P,e4,v⟩:=bind_some p;obtain⟨ρ1,e6,e7⟩:=bind_some e4;refine⟨V,λσ3 S=>∃ρ3 C,ez M C/\iq m O X.K σ3 ρ3 S C/\kc (p6 t) g (b.drop (i+1)) ρ3=Y o,by rintro σ3 S ⟨ρ3,C,s3,h3,I⟩;exact⟨b.length - (i+1),by omega,rfl,j,ρ3,C,s3,h3,I⟩,λx H2 y=>?_⟩;obtain⟨r1,r2⟩:=U x H2 y;obtain⟨T,N,g2,G⟩:=f.o.grow r1;have i4:=r2 T (s.trans N) g2;refine iq.bind (m:=m) ⟨G,f.z⟩ hO i4 e6 λσ5 h5=>⟨ρ1,P,T,h5,e7,?_⟩
   have c:=s.trans N;cases P with
   |nx ρ3=>exact λσ6 L r l n=>⟨ρ3,r,c.trans l,n,v⟩
   |ct ρ3=>exact λσ6 L r l n=>⟨ρ3,r,c.trans l,n,v⟩
   |bk ρ3=>cases v;exact λσ6 L r l n=>k σ6 L r (F.trans (c.trans l)) n
   |rt d=>cases v;exact K8.later (F.trans c) k
  ·have I:i=b.length:=by omega
   subst I;rw[c9] at p;cases p;exact .inl ⟨w1,k σ' B E (F.trans s) f⟩
noncomputable def nC(c:d9->Option Bool)(g:d9->Option eY):Nat->d9->Option eY
 |0,_=>Z
 |n+1,ρ=>(c ρ).bind λb=>if b=true then (g ρ).bind λo=>match o with
  |.nx ρ'=>nC c g n ρ'
  |.ct ρ'=>nC c g n ρ'
  |.bk ρ'=>Y (.nx ρ')
  |.rt d=>Y (.rt d)
  else Y (.nx ρ)
def Dr:Nat:=1000000
def uI(c:d9->Option Bool)(g:d9->Option eY):d9->Option eY:=λρ=>nC c g Dr ρ
def qZ{h:List Stmt}(M:PassesOwn (model X.prog X.w) X.A X.env X.xe)(N:Bq X c gc)(P:ny X m O h g):oF X m O (.While c h [] pos) (uI gc g) :=
 PS.imp (FC M N P) <| by
  rintro D σ H ⟨ρ,o,x,L,e,k⟩;refine⟨λn σ' F=>∃ρ' y,ez x y/\iq m O X.K σ' ρ' F y/\nC gc g n ρ'=Y o,⟨Dr,ρ,x,.refl _,L,e⟩,?_⟩;rintro n σ' F ⟨ρ',y,B,f,u⟩;cases n with
  |zero=>cases u
  |succ n=>
   unfold nC at u;obtain⟨b,R,t⟩:=bind_some u;refine⟨ρ',b,f.o.full,R,λS J=>?_⟩;obtain⟨I,i,_,l⟩:=f.o.grow J;cases b with
   |false=>rw[ag aQ] at t ⊢;cases t;exact k σ' S I (B.trans i) ⟨l,f.z⟩
   |true=>
    rw[af rfl] at t ⊢;obtain⟨C,Q,s⟩:=bind_some t;refine⟨λσ3 E=>∃ρ3 G,ez x G/\iq m O X.K σ3 ρ3 E G/\nC gc g n ρ3=Y o,λσ3 E q=>⟨n,cH n,q⟩,ρ',C,I,⟨l,f.z⟩,Q,?_⟩;have a:=B.trans i;cases C with
    |nx ρ3=>exact λσ6 v r j p=>⟨ρ3,r,a.trans j,p,s⟩
    |ct ρ3=>exact λσ6 v r j p=>⟨ρ3,r,a.trans j,p,s⟩
    |bk ρ3=>cases s;exact λσ6 v r j p=>k σ6 v r (a.trans j) p
    |rt d=>cases s;exact K8.later a k
def Gr(h:Bool)(K:Fg)(n:Nat)(f:Lp->Option (d8×d8)):Sp:=λvs H Q _=>∃e a i ds d b G B,vs=e::a/\H=eD G B/\ip G B/\hI h K G i e B/\dv K G ds a/\ds.length+1=n/\f (i::ds)=Y (d,b) /\
 ∀v c g,ez G c->ip c g->hI h K c b e g->et K c d v->Q v (eD c g)
abbrev OB(K:W.Frag)(n:Nat)(f:List d8->Option (d8×d8)):Sp:=Gr false K n f
noncomputable def lO(N:Lr)(g:d9->Option eY):Lp->Option (d8×d8):=λds=>(g (gP N ds)).bind λo=>match o with
 |.rt (.tuple [d,a])=>Y (d,a)
 |.nx ρ=>(ρ[0]?).join.map λa=>(.none,a)
 |_=>Z
noncomputable def k5(f:d9->Od):d9->Option eY:=λρ=>(IB f ρ).bind λd=>(ρ[0]?).join.map λa=>.rt (.tuple [d,a])
def iq.out{i:V}{r:d8}(j:O.Nodup)(m:iq (.io dp i) O K σ ρ H G)(e:(ρ[0]?).join=Y r):∃c B,ez G c/\H=eD c B/\ip c B/\hI dp K c r i B:=by
 obtain⟨u,t,s⟩:=m.z dp i rfl;obtain⟨v,g,h,d,q,w,f,b,l,k,_,_⟩:=m.o.own j u (gE e);rw[s] at b;rw[t] at q;cases q;have a:(g++(h++d)).Perm (h++(g++d)):=by rw[<-bw,<-bw];exact c0 _ aX
 have p:ip G (h++(g++d)):=f.perm a (b.jJ.append (l.append k));have n:=p.BU (l.append k);exact⟨eD G (g++d),h,n.same,by rw[w,gu f.nd a,gq],p.BS b.jJ,b.same n.same⟩
def gZ{g:V}(a:O.Nodup)(h:PD X e f):oF X (.io dp g) O (.Return (Y e) pos) (k5 f) :=
 PS.imp (uc h) <| by rintro D σ H ⟨ρ,o,G,c,e,k⟩;obtain⟨d,A,y⟩:=bind_some e;obtain⟨F,w,rfl⟩:=ab.mp y;obtain⟨u,t⟩:=Ab A;refine⟨ρ,d,c.o.full,u,λv I m i=>?_⟩;obtain⟨J,j,_,b⟩:=c.o.grow m;obtain⟨E,B,l,s,q,n⟩:=iq.out (σ:=σ) (ρ:=ρ) a ⟨b,c.z⟩ w;obtain⟨x,C,r,p⟩:=k;cases r;rw[s];exact p v E B (j.trans l) q n (i.iK t)
noncomputable def Gs:d9->Option eY:=λρ=>(ρ[0]?).join.map λa=>.rt (.tuple [.none,a])
def Es{b:V}(a:O.Nodup):oF X (.io dp b) O (.Return Z pos) Gs :=
 PS.imp IM <| by rintro D σ H ⟨ρ,o,G,g,e,k⟩;obtain⟨p,l,rfl⟩:=ab.mp e;obtain⟨n,B,c,j,h,d⟩:=iq.out a g l;obtain⟨x,m,i,f⟩:=k;cases i;rw[j];exact f .jj n B c h d (et.gf.mpr rfl)
theorem K9{P:Program}{m:Heap}{b:Str}{R:Addr}{N T:Lr}{k:Nat} (F:Eh K x b st R fd) (S:hJ N T (eM st)) (hn:n=T.length) (h1:n≠0) (X:(0::O).Nodup) (hO:∀i∈O,n<=i)
  (r:∀(v0:V) (oA:Value) (A:Around) (outer:List Env) (s:Shared) (H:Hp) (E:XK),gG k (A.deeper (envOfC b (eM st) (zB s) R oA)) ->
   ny (sI tK P w K mg m N b (eM st) R oA A outer s H E).Iv (.io (iI (0::O)) v0) (0::O) (hP st) g):jl P w K mg m tK (k+1) R fd T (Gr (iI (0::O)) K n (lO N g)):=by
 refine F.ok S (by rintro vs H Q E ⟨v0,a,f,ds,d,J,G,B,I,_,_,_,i,l,_⟩;rw[I,<-hn,<-l,aD,<-i.length]) ?_;rintro oA A outer s H vs Q E hr ⟨v0,a,f,ds,d,J,G,B,I,eH,M,ot,i,l,e,k⟩;refine⟨_,r v0 oA A outer s H E hr,?_⟩;subst I eH;obtain⟨o,I,t⟩:=bind_some e;have p:dv K (eD G B) (f::ds) (v0::a):=dv.cons (ot.Fp M.same λx hx=>eO M.nd x hx) (i.same M.same);have hd:=mx (N:=N) p;have D:(gP N (f::ds))[0]?=Y (Y f):=rfl;have c:∀j∈O,((gP N (f::ds))[j]?).join=Z:=λj hj=>by
  have:¬ j<(f::ds).length:=by have:=hO j hj;rw[aD];omega
  unfold gP;rw[aO (by simpa using this),bB];split<;>rfl
 have U:∀L:List Nat,(∀j∈L,j∈O)->gh (iI (0::O)) K (start N (v0::a)) (gP N (f::ds)) G L []:=by
  intro L;induction L with
  |nil=>intro _;rfl
  |cons j L ih=>exact λh=>.inl ⟨c j (h j (by simp)),ih λi hi=>h i (au _ hi)⟩
 obtain⟨u0,UA,Tf⟩:=hd.2 0 f D;have v:(start N (v0::a))[0]?=Y (Y v0):=rfl;refine⟨gP N (f::ds),o,G,⟨⟨hd.1,⟨B,rfl,M,.inr ⟨f,v0,B,[],D,v,by simp,ot,U O λ_ h=>h⟩⟩,λj dj q hj=>?_⟩,λUB v1 z=>⟨by simp,by cases z;exact v,by cases z;rfl⟩⟩,I,?_⟩
 ·
  have Th:j≠0:=λz=>hj (by rw[z];simp);have hd2:=mx (K:=K) (H:=G) (N:=N) (vs:=v0::a) (ds:=.none::ds);have hh:dv K G ds a:=i;cases j with
  |zero=>exact absurd rfl Th
  |succ j=>
   by_cases C:j<ds.length
   ·have q':ds[j]?=Y dj:=by
     unfold gP at q;rw[az,de,cz,aM (by simpa using C),aB] at q;cases z:ds[j]? with
     |none=>rw[z] at q;cases q
     |some y=>rw[z] at q;cases q;rfl
    obtain⟨u,a1,a2⟩:=hh.get q';refine⟨u,?_,a2⟩;have Ox:j<a.length:=(av.mp a1).1;unfold start;rw[az,de,cz,aM (by simpa using Ox),aB,a1];rfl
   ·unfold gP at q;rw[az,de,cz,aO (by simpa using C),bB] at q;split at q<;>cases q
 ·cases o with
  |rt x=>
   split at t
   ·rename_i d1 d2 he;cases he;cases t;exact⟨d,J,rfl,k⟩
   ·rename_i ρ he;cases he
   ·cases t
  |nx ρ'=>obtain⟨d1,e3,e4⟩:=ab.mp t;cases e4;intro σ H' G' sG hs;obtain⟨G2,B2,s2,eH,Ti,W⟩:=iq.out X hs e3;rw[eH];exact k .jj G2 B2 (sG.trans s2) Ti W (et.gf.mpr rfl)
  |bk _=>cases t
  |ct _=>cases t
theorem B3{P:Program}{c:Heap}{a:Str}{r:Addr}{N u:Lr}{k:Nat} (F:Eh K x a st r fd) (S:hJ N u (eM st)) (G:n=u.length) (L:∀i∈O,n<=i)
  (f:∀(oA:Value) (A:Around) (outer:List Env) (s:Shared) (H:Hp) (E:XK),gG k (A.deeper (envOfC a (eM st) (zB s) r oA)) ->
   ny (sI tK P w K mg c N a (eM st) r oA A outer s H E).Iv .dat O (hP st) g):jl P w K mg c tK (k+1) r fd u (Mu K n (f7 N g)):=by
 refine F.ok S (by rintro vs H Q E ⟨m,d,i,l,_⟩;rw[<-i.length,l,G]) ?_;rintro oA A outer s H vs Q E D ⟨m,d,i,l,e,k⟩;refine⟨_,f oA A outer s H E D,?_⟩;obtain⟨o,R,t⟩:=bind_some e;have y:=mx (N:=N) i;have b:∀i∈O,((gP N m)[i]?).join=Z:=λj I=>by
  have:¬ j<m.length:=by have:=L j I;omega
  unfold gP;rw[aO (by simpa using this),bB];split<;>rfl
 have v:∀p:List Nat,(∀i∈p,i∈O)->gh (iI O) K (start N vs) (gP N m) H p []:=by
  intro p;induction p with
  |nil=>intro _;rfl
  |cons j p C=>exact λh=>.inl ⟨b j (h j (by simp)),C λi J=>h i (au _ J)⟩
 refine⟨gP N m,o,H,⟨⟨y.1,⟨[],rfl,ip.nil,v O λ_ h=>h⟩,λi d q _=>y.2 i d q⟩,λU v0 z=>nomatch z⟩,R,?_⟩;cases o with
 |rt V=>cases t;exact k
 |nx ρ'=>cases t;exact λσ T W B M=>k .jj T (B.trans M.o.sub) (et.gf.mpr rfl)
 |bk _=>cases t
 |ct _=>cases t
def QM(K:Fg)(n:Nat)(f:Lp->Od):Sp:=λb H Q _=>∃a d,dv K H a b/\a.length=n/\f a=Y d/\KO K H d Q
noncomputable def uJ(N:Lr)(g:d9->Option eY):Lp->Od:=λa=>(g (gP N a)).bind λo=>match o with
 |.rt d=>Y d
 |_=>Z
theorem Gu{P:Program}{c:Heap}{a:Str}{r:Addr}{N u:Lr}{k:Nat} (F:Eh K x a st r fd) (S:hJ N u (eM st)) (D:n=u.length) (J:∀i∈O,n<=i)
  (f:∀(oA:Value) (A:Around) (outer:List Env) (s:Shared) (H:Hp) (E:XK),gG k (A.deeper (envOfC a (eM st) (zB s) r oA)) ->
   ny (sI tK P w K mg c N a (eM st) r oA A outer s H E).Iv .own O (hP st) g):jl P w K mg c tK (k+1) r fd u (QM K n (uJ N g)):=by
 refine F.ok S (by rintro vs H Q E ⟨m,d,i,l,_⟩;rw[<-i.length,l,D]) ?_;rintro oA A outer s H vs Q E C ⟨m,d,i,l,e,k⟩;refine⟨_,f oA A outer s H E C,?_⟩;obtain⟨o,L,t⟩:=bind_some e;have y:=mx (N:=N) i;have b:∀i∈O,((gP N m)[i]?).join=Z:=λj G=>by
  have:¬ j<m.length:=by have:=J j G;omega
  unfold gP;rw[aO (by simpa using this),bB];split<;>rfl
 have v:∀p:List Nat,(∀i∈p,i∈O)->gh (iI O) K (start N vs) (gP N m) H p []:=by
  intro p;induction p with
  |nil=>intro _;rfl
  |cons j p B=>exact λh=>.inl ⟨b j (h j (by simp)),B λi I=>h i (au _ I)⟩
 refine⟨gP N m,o,H,⟨⟨y.1,⟨[],rfl,ip.nil,v O λ_ h=>h⟩,λi d q _=>y.2 i d q⟩,λM v0 z=>nomatch z⟩,L,?_⟩;cases o with
 |rt R=>cases t;exact k
 |nx _=>cases t
 |bk _=>cases t
 |ct _=>cases t
end
structure nE (P:Program) (w:World) (K:Fg) (mg:Str->Ow) (base:Heap) (x:Str) (k n:Nat) (f:Lp->Od):Prop where
 ex:∃a fd ps,jl P w K mg base tK k a fd ps (QM K n f)/\mg x=Y (.ref a)/\W.keepIn K (.ref a)=true/\jd K fd ps []
structure yj (dp:Bool) (P:Program) (w:World) (K:Fg) (mg:Str->Ow) (base:Heap) (x:Str) (k n:Nat) (f:Lp->Option (d8×d8)):Prop where
 ex:∃a fd ps,jl P w K mg base tK k a fd ps (Gr dp K n f)/\mg x=Y (.ref a)/\W.keepIn K (.ref a)=true/\jd K fd ps []
abbrev Ad:=yj false
structure q0 (P:Program) (w:World) (K:Fg) (mg:Str->Ow) (base:Heap) (c:Str) (k n:Nat) (f:Lp->Option (d8×d8)):Prop where
 ex:∃C a fd ps,iO K c C/\mg c=Y (.ref C)/\Mk K C a/\jl P w K mg base tK k a fd ps (OB K n f)/\jd K fd ps []
structure om (P:Program) (w:World) (K:Fg) (mg:Str->Ow) (base:Heap) (c m:Str) (k n:Nat) (f:Lp->Od):Prop where
 ex:∃C a fd ps,iO K c C/\D9 K C/\Ea K C m a/\jl P w K mg base tK k a fd ps (Mu K n f)/\jd K fd ps []
section
variable {m:Md}{a:Expr}{es:Lx}{fb fc:d9->Od}{p2:Pos}{rest:List Stmt}{g h:d9->Option eY}{ga:d9->Option Bool}{j k:Nat}
def KO.kd{d:d8}{Q:VK}(h:KD K H d Q):KO K H d Q:=λv e f s a b=>h v _ (s.trans a.same) (b.Fp a.same λx c=>eO a.nd x c)
def PF.pd(h:PF X e f):PD X e f:=PE.imp h <| by rintro σ H Q ⟨ρ,d,a,e,k⟩;exact⟨ρ,d,a,e,KO.kd k⟩
def mz{F:Lp->Od} (N:nE X.prog X.w X.K X.mg X.base x j n F) (s:gG k X.A) (u:Gl X x) (y:vS X (e::es) ff) (t:j<=k:=by decide) (h:zg x:=by decide)
  (v:zE e es X:=by rfl) (f:(backTo pos (starEach es X.env)).any (·.1)=false:=by rfl):PF X (.Call (.Name x p) (e::es) [] pos) (gI n F ff):=by
 obtain⟨a,E,D,B,m,o,b⟩:=N.ex;refine PE.imp (xU (B.mono t) s u m o b .nil ni y h v f) ?_;rintro σ H Q ⟨ρ,d,r,e,k⟩;obtain⟨i,z,c⟩:=bind_some e;by_cases g:i.length=n
 ·rw[af g] at c;exact⟨ρ,i,r,z,λC G l q=>⟨i,d,by rw[bb];exact q,g,c,k.later l⟩⟩
 ·rw[ag g] at c;cases c
def KO.qU{Q:VK}(k:KO K H (.list ds) Q)(e:dv K H ds vs):∀p,H p=Z->Q (.ref p) (upd H p (.lst vs)):=λp h=>
 k (.ref p) H [(p,.lst vs)] (.refl H) ⟨by simp,(λx a=>by simp at a;subst a;exact h),.one aN .nil⟩ (hI.Oy (.inl ⟨_,vs,rfl,rfl,e⟩))
noncomputable def tP(f:d9->Od)(l h:FO):d9->Od:=λρ=>(f ρ).bind λx=>(l ρ).bind λa=>(h ρ).bind λb=>match x with | .list xs=>Y (.list (lI xs a b))|_=>Z
def uK{n o:Option Expr}{l h:FO}(z:PD X e f)(y:Nh X n l)(w:Nh X o h):PF X (.Subscript e (.Slice n o Z p2) pos) (tP f l h) :=
 PE.imp (zF C8 z y w) <| by
  rintro σ H Q ⟨ρ,d,i,e,k⟩;obtain⟨x,E,D⟩:=bind_some e;obtain⟨a,C,B⟩:=bind_some D;obtain⟨b,A,q⟩:=bind_some B;obtain⟨j,rfl⟩:∃j,x=.list j:=by cases x<;>first|exact⟨_,rfl⟩|cases q
  cases q;refine⟨ρ,_,i,E,λv I g u=>⟨ρ,a,i.same g,C,λG c=>⟨ρ,b,i.same (g.trans c),A,λF m=>?_⟩⟩⟩;obtain⟨p,r,rfl,t,s⟩:=et.eK.mp (u.same (c.trans m));exact⟨p,r,rfl,t,(k.later (g.trans (c.trans m))).qU (s.cut a b)⟩
def JA:gX X (.type "list") (λxs H Q=>∃a c,dv X.K H a xs/\Di a=Y c/\KO X.K H c Q):=by
 refine gX.imp x2 ?_;rintro xs H Q ⟨a,c,i,e,k⟩
 match a,e with
 |[.list ys],e=>cases e;obtain⟨v,rfl,d⟩:=gg i;obtain⟨p,b,rfl,g,f⟩:=et.eK.mp d;exact⟨p,b,rfl,.inl g,k.qU f⟩
 |[.tuple ys],e=>cases e;obtain⟨v,rfl,d⟩:=gg i;obtain⟨p,b,rfl,g,f⟩:=d.fJ;exact⟨p,b,rfl,.inr g,k.qU f⟩
noncomputable def xb(c:Str)(n:Nat)(F:Lp->Option (d8×d8))(b:d9->Option Lp):d9->Od:=λρ=>(b ρ).bind λa=>if a.length+1=n then (F (.dict [(.none,.str c)]::a)).bind λr=>match r with|(.none,d)=>Y d|_=>Z else Z
def Ds{c:Str}{C:Addr}(t:iO K c C){F:Lp->Option (d8×d8)}{d:d8}{Q:VK}{E:XK}(p:dv K H ds vs)(s:ds.length+1=n)(A:(F (.dict [(.none,.str c)]::ds)).bind (λr=>match r with|(.none,d)=>Y d|_=>Z)=Y d)(k:KO K H d Q):
  ∀x a,H x=Z->H a=Z->a≠x->OB K n F (.ref x::(vs++[])) (upd (upd H a (.own x)) x (.ins C a [])) (λv H2=>v=.jj/\Q (.ref x) H2) E:=by
 intro x a q g f;obtain⟨r,z,j⟩:=bind_some A;obtain⟨i,h⟩:=r;have w:i=.none/\h=d:=by cases i<;>first|(cases j;exact⟨rfl,rfl⟩)|cases j
 obtain⟨rfl,rfl⟩:=w;refine⟨.ref x,vs++[],.dict [(.none,.str c)],ds,.none,h,H,[(x,.ins C a []),(a,.own x)],rfl,rfl,⟨?_,λy b=>?_,.ins .nil⟩,.inr ⟨c,C,x,a,[],[],[],rfl,rfl,rfl,t,rfl,rfl⟩,by rw[bb];exact p,s,z,λv B D l u m o=>⟨et.gf.mp o,k _ B D l u m⟩⟩
 ·simp[Ne.symm f]
 ·rcases ak.mp b with e|b
  ·rw[e];exact q
  ·have:y=(a,HO.own x):=by simpa using b
   rw[this];exact g
def yk{c:Str}{F:Lp->Option (d8×d8)} (N:q0 X.prog X.w X.K X.mg X.base c j n F) (s:gG (k+1) X.A) (u:Gl X c) (x:vS X (e::es) ff) (t:j<=k:=by decide) (i:zg c:=by decide)
  (v:zE e es X:=by rfl) (g:(backTo pos (starEach es X.env)).any (·.1)=false:=by rfl):PF X (.Call (.Name c p) (e::es) [] pos) (xb c n F ff):=by
 obtain⟨C,a,G,E,y,o,M,B,b⟩:=N.ex;refine PE.imp (C1 M (B.mono t) s u o b .nil ni x i v g) ?_;rintro σ H Q ⟨ρ,d,r,e,k⟩;obtain⟨l,z,f⟩:=bind_some e;by_cases h:l.length+1=n
 ·rw[af h] at f;exact⟨ρ,l,r,z,λD I m q=>Ds y q h f (k.later m)⟩
 ·rw[ag h] at f;cases f
def Gv{c:Str}{F:Lp->Option (d8×d8)}(N:q0 X.prog X.w X.K X.mg X.base c j n F)(l:gG (k+1) X.A)(o:Gl X c)(m:j<=k:=by decide)(h:zg c:=by decide):PF X (.Call (.Name c p) [] [] pos) (xb c n F fy):=by
 obtain⟨C,a,v,t,q,i,M,s,b⟩:=N.ex;refine PE.imp (FP M (s.mono m) l o i b .nil ni h) ?_;rintro σ H Q ⟨ρ,d,u,e,k⟩;obtain⟨x,r,f⟩:=bind_some e;cases r;by_cases g:([]:Lp).length+1=n
 ·rw[af g] at f;exact Ds q dv.nil g f k
 ·rw[ag g] at f;cases f
noncomputable def q5(c a:Str)(d:d8):Bool:=match d with
 |.dict ((.none,.str b)::r)=>decide (b=c)&&(lu a r).isNone
 |_=>false
noncomputable def sd(c b:Str)(n:Nat)(F:Lp->Od)(f:d9->Od)(e:d9->Option Lp):d9->Od:=λρ=>(f ρ).bind λd=>if q5 c b d=true then (e ρ).bind λa=>if a.length+1=n then F (d::a) else Z else Z
def uL{c e:Str}{d:d8}(h:q5 c e d=true)(i:et K H d v):∃p C b a,v=.ref p/\iO K c C/\H p=Y (.ins C b a)/\a.lookup e=Z:=by
 unfold q5 at h;split at h
 ·rename_i m r;simp only[bV,bu,Option.isNone_iff_eq_none] at h;obtain⟨rfl,f⟩:=h;obtain⟨p,C,b,a,l,k,j,g⟩:=i.Gi;exact⟨p,C,b,a,l,k,j,g.none f⟩
 ·cases h
def JB{t c:Str}{F:Lp->Od}{pl:Sem Bool} (N:om X.prog X.w X.K X.mg X.base t c j n F) (I:PD X o f) (G:gG k X.A) (M:vS X (e::es) ff) (L:j<=k:=by decide)
  (l:zE e es X:=by rfl) (m:(backTo pos (starEach es X.env)).any (·.1)=false:=by rfl)
  (E:eval (.Call (.Attribute o c apos) (e::es) [] pos) X.env=(do
   let ov <-eval o X.env
   standAt apos.atName
   let (f,first) <-holding [ov] (getMethod ov c pl)
   callWith pos f first (backTo pos (starEach (e::es) X.env)) (backToKw pos (keywordEach [] X.env))):=by rfl):PD X (.Call (.Attribute o c apos) (e::es) [] pos) (sd t c n F f ff):=by
 obtain⟨C,a,fd,ps,O,r,J,Fn,b⟩:=N.ex;refine PE.imp (C0 (pl:=pl) I r J (Fn.mono L) G b .nil ni M l m E) ?_;rintro σ H Q ⟨ρ,d,B,e,k⟩;obtain⟨x,V,h⟩:=bind_some e;by_cases i:q5 t c x=true
 ·rw[af i] at h;obtain⟨s,U,g⟩:=bind_some h;by_cases q:s.length+1=n
  ·rw[af q] at g;refine⟨ρ,x,B,V,λv H1 y z=>?_⟩;obtain⟨p,C',W,T,rfl,S,R,P⟩:=uL i z;have:=S.uniq O;subst this;exact⟨p,W,T,rfl,R,P,ρ,s,B.same y,U,λvs H2 u D=>⟨x::s,d,by rw[bb];exact dv.cons (z.same u) D,by simpa using q,g,k.later (y.trans u)⟩⟩
  ·rw[ag q] at g;cases g
 ·rw[ag i] at h;cases h
def uM{q c:Str}{F:Lp->Od}{pl:Sem Bool} (N:om X.prog X.w X.K X.mg X.base q c j n F) (z:PD X o f) (y:gG k X.A) (D:j<=k:=by decide)
  (t:eval (.Call (.Attribute o c apos) [] [] pos) X.env=(do
   let ov <-eval o X.env
   standAt apos.atName
   let (f,first) <-holding [ov] (getMethod ov c pl)
   callWith pos f first (backTo pos (starEach [] X.env)) (backToKw pos (keywordEach [] X.env))):=by rfl):PD X (.Call (.Attribute o c apos) [] [] pos) (sd q c n F f fy):=by
 obtain⟨C,a,T,S,E,m,B,R,b⟩:=N.ex;refine PE.imp (FN (pl:=pl) z m B (R.mono D) y b .nil ni t) ?_;rintro σ H Q ⟨ρ,d,u,e,k⟩;obtain⟨x,O,h⟩:=bind_some e;by_cases i:q5 q c x=true
 ·rw[af i] at h;obtain⟨U,M,g⟩:=bind_some h;cases M;by_cases l:([]:Lp).length+1=n
  ·rw[af l] at g;refine⟨ρ,x,u,O,λv V s r=>?_⟩;obtain⟨p,W,P,L,rfl,J,I,G⟩:=uL i r;have:=J.uniq E;subst this;exact⟨p,P,L,rfl,I,G,[x],d,dv.cons r dv.nil,by simpa using l,g,k.later s⟩
  ·rw[ag l] at g;cases g
 ·rw[ag i] at h;cases h
def PX(X:Cx)(O:List Nat)(e:Expr)(h:d9->Option (d8×d9)):Prop:=PE X e (λσ H Q=>∃ρ d ρ' G,fG O X.K σ ρ H G/\h ρ=Y (d,ρ')/\∀v a b,ez G b->fG O X.K σ ρ' a b->(∀F,et X.K F d v)->Q v a)
noncomputable def se(O:List Nat)(i n:Nat)(F:Lp->Option (d8×d8))(b:d9->Option Lp):d9->Option (d8×d9):=λρ=>(ρ[i]?).join.bind λc=>(b (iz O ρ)).bind λa=>if a.length+1=n then (F (c::a)).bind λr=>if lN r.1=true then Y (r.1,ρ.set i (Y r.2)) else Z else Z
def oq(i:Nat) {y:Str}{T:Pos}{F:Lp->Option (d8×d8)} (N:yj dp X.prog X.w X.K X.mg X.base x j n F) (C:O.Nodup) (hr:gG k X.A) (hg:Gl X x) (ha:vS X es ff) (hO:i∈O:=by decide) (hj:j<=k:=by decide) (L:iI O=dp:=by rfl)
  (hN:X.N[i]?=Y y:=by rfl) (hv:D0 X.env.scope y:=by first|exact bW rfl|exact bz (bW rfl)|exact bz (bz rfl)) (hd:zg y:=by decide) (P:(y==("__classdict__":Str))=false:=by decide) (M:zg x:=by decide)
  (he:starEach (.Name y T::es) X.env=(false,eval (.Name y T) X.env)::starEach es X.env:=by rfl) (I:(backTo pos (starEach es X.env)).any (·.1)=false:=by rfl):PX X O (.Call (.Name x p) (.Name y T::es) [] pos) (se O i n F ff):=by
 obtain⟨a,fd,ps,Fn,mm,kp,b⟩:=N.ex;refine PE.imp (PE.frame (xU (Fn.mono hj) hr hg mm kp b .nil ni (iE (mq hN hv hd P) (PA.frame ha) he) M he I)) ?_;rintro σ H Q ⟨ρ,d,ρ',G,hs,e,k⟩;obtain⟨d0,e1,e2⟩:=bind_some e;obtain⟨V,e3,B⟩:=bind_some e2;by_cases J:V.length+1=n
 ·rw[af J] at B;obtain⟨r,e5,z⟩:=bind_some B;obtain⟨r1,r2⟩:=r;by_cases l:lN r1=true
  ·rw[af l] at z;cases z;obtain⟨W,g,q,f,e7,eH,fm,u,E,D,cl,_⟩:=hs.own C hO (gE e1);rw[L] at u cl;have h:(g++(q++f)).Perm ((g++f)++q):=by
    rw[bw];exact cf _ aX
   have f2:ip G ((g++f)++q):=fm.perm h ((E.append D).append u.jJ);have S:=f2.BU u.jJ;refine⟨eD G q,g++f,by rw[eH,gu fm.nd h,gq],f2.BS (E.append D),W,e7,G,q,rfl,S,iz O ρ,V,hs.rest,e3,λvs G1 s1 i1 t=>?_⟩;refine⟨W,vs++[],d0,V,r1,r2,G1,q,rfl,rfl,t,u.same s1,by rw[bb];exact i1,J,e5,λv m o s2 R s iv fR=>?_⟩;have sG:ez G m:=s1.trans s2;have f3:ip m ((g++f)++o):=R.join fR;have c:((g++f)++o).Perm (g++(o++f)):=by rw[bw];exact cf _ aX
   have f4:ip m (g++(o++f)):=f3.perm c (E.append (s.jJ.append D));have U:eD (eD m o) (g++f)=eD m (g++(o++f)):=by rw[<-gq,gu f3.nd c]
   rw[U];exact k v _ m sG (cl m r2 o sG s f4) λF=>iv.iK l
  ·rw[ag l] at z;cases z
 ·rw[ag J] at B;cases B
noncomputable def yl(h:d9->Option (d8×d9)):d9->Option eY:=λρ=>(h ρ).map λr=>.nx r.2
def xc{h:d9->Option (d8×d9)}(d:PX X O e h)(a:swapsWith e Z pos.line X.env=pure false:=by rfl):oF X m O (.Expr e pos) (yl h) :=
 PS.imp (kW d a) <| by rintro D σ H ⟨ρ,o,G,a,e,k⟩;obtain⟨r,f,rfl⟩:=ab.mp e;exact⟨ρ,r.1,r.2,G,a.o,f,λv g i c b _=>k σ g i c ⟨b,a.z⟩⟩
noncomputable def Dt(h:d9->Option (d8×d9)):d9->Option eY:=λρ=>(h ρ).bind λr=>(r.2[0]?).join.map λa=>.rt (.tuple [r.1,a])
def uN{f:V}{h:d9->Option (d8×d9)}(a:O.Nodup)(n:PX X O e h):oF X (.io dp f) O (.Return (Y e) pos) (Dt h) :=
 PS.imp (uc n) <| by rintro D σ H ⟨ρ,o,G,c,e,k⟩;obtain⟨r,w,u⟩:=bind_some e;obtain⟨A,t,rfl⟩:=ab.mp u;refine⟨ρ,r.1,r.2,G,c.o,w,λv C E g b m=>?_⟩;obtain⟨d,B,i,s,p,j⟩:=iq.out (σ:=σ) (ρ:=r.2) a ⟨b,c.z⟩ t;obtain⟨x,y,q,l⟩:=k;cases q;rw[s];exact l v d B (g.trans i) p j (m d)
def RW(O:List Nat)(K:Fg)(h:d9->Option (Bool×d9)):TT:=λσ H Q=>∃ρ b ρ' G,fG O K σ ρ H G/\h ρ=Y (b,ρ')/\∀a c,ez G c->fG O K σ ρ' a c->Q b a
def Nm(X:Cx)(O:List Nat)(e:Expr)(h:d9->Option (Bool×d9)):Prop:=PT X e (RW O X.K h)
def Po(X:Cx)(O:List Nat)(e:Expr)(h:d9->Option (Bool×d9)):Prop:=PW X e (RW O X.K h)
noncomputable def hT(h:d9->Option (d8×d9)):d9->Option (Bool×d9):=λρ=>(h ρ).bind λr=>match r with|(.bool b,ρ')=>Y (b,ρ')|_=>Z
def JC{h:d9->Option (d8×d9)}(m:PX X O e h)(j:∀whole,isTrue e X.env whole=(do let v <-whole;standAt e.pos;holding [v] (truthy v)):=by intro _;rfl):Nm X O e (hT h) :=
 PT.imp (zx m j) <| by
  rintro σ H Q ⟨ρ,b,ρ',G,l,e,k⟩;obtain⟨r,o,c⟩:=bind_some e;obtain⟨d,ρ2⟩:=r;have n:d=.bool b/\ρ2=ρ':=by cases d<;>first|(cases c;exact⟨rfl,rfl⟩)|cases c
  obtain⟨rfl,rfl⟩:=n;exact⟨ρ,_,_,G,l,o,λv f p g a i=>⟨b,F7 (i f) rfl,k f p g a⟩⟩
noncomputable def OC(h:d9->Option (Bool×d9)):d9->Option (Bool×d9):=λρ=>(h ρ).map λr=>(!r.1,r.2)
def JD{h:d9->Option (Bool×d9)}(g:Nm X O a h):Nm X O (.UnaryOp .Not a pos) (OC h) :=
 PT.imp (Fv g) <| by rintro σ H Q ⟨ρ,b,ρ',G,f,e,k⟩;obtain⟨r,j,i⟩:=ab.mp e;cases i;exact⟨ρ,r.1,r.2,G,f,j,λl m d c=>k l m d c⟩
noncomputable def RX(g:d9->Option Bool)(h:d9->Option (Bool×d9)):d9->Option (Bool×d9):=λρ=>(g ρ).bind λb=>if b=true then Y (true,ρ) else h ρ
def JE{h:d9->Option (Bool×d9)}(b:Nm X O a h):Po X O (.BoolOp .Or [a] pos) h:=Fu b
def MC{i:Lx}{h:d9->Option (Bool×d9)}(p:Bq X a ga)(o:Po X O (.BoolOp .Or (b::i) pos) h):Po X O (.BoolOp .Or (a::b::i) pos) (RX ga h) :=
 PW.imp (KQ p o) <| by
  rintro σ H Q ⟨ρ,b,ρ',G,j,e,k⟩;obtain⟨y,q,d⟩:=bind_some e;refine⟨ρ,y,j.full,q,λs n=>?_⟩;obtain⟨l,g,_,c⟩:=j.grow n;cases y with
  |false=>rw[ag aQ] at d ⊢;exact⟨ρ,b,ρ',l,c,d,λr t m f=>k r t (g.trans m) f⟩
  |true=>rw[af rfl] at d ⊢;cases d;exact k s l g c
def OD{h:d9->Option (Bool×d9)}(a:Po X O e h):Nm X O e h:=a.pt
noncomputable def OE(c:d9->Option (Bool×d9))(g h:d9->Option eY):d9->Option eY:=λρ=>(c ρ).bind λr=>if r.1=true then g r.2 else h r.2
def JF{j i:List Stmt}{n:d9->Option (Bool×d9)}(q:Nm X O c n)(t:ny X m O j g)(s:ny X m O i h):oF X m O (.If c j i pos) (OE n g h) :=
 PS.imp (KR q t s) <| by
  rintro D σ H ⟨ρ,o,G,f,e,k⟩;obtain⟨r,u,d⟩:=bind_some e;obtain⟨b,ρ'⟩:=r;refine⟨ρ,b,ρ',G,f.o,u,λv p l a=>?_⟩;cases b with
  |true=>rw[af rfl] at d ⊢;exact⟨ρ',o,p,⟨a,f.z⟩,d,k.later l⟩
  |false=>rw[ag aQ] at d ⊢;exact⟨ρ',o,p,⟨a,f.z⟩,d,k.later l⟩
end
end L2
namespace L2
open PySem PySem.Spec PyProof.Rows PySem.Builtin PySem.Builtin.Str
theorem xf:∀(l:List (Str×Tok)),eQ ((l.map (·.1)).map V.str) (strValues l)
 |[]=>.nil
 | (x,t)::l=>.cons ⟨t,rfl⟩ (xf l)
theorem xg:∀{b:Lr}{a:Lw},eQ (b.map V.str) a->∃l:List (Str×Tok),a=strValues l/\l.map (·.1)=b
 |[],_,r=>by cases r;exact⟨[],rfl,rfl⟩
 |x::b,_,r=>by
  rw[az] at r;cases r with
  |cons h t=>obtain⟨c,rfl⟩:=h;obtain⟨l,rfl,e⟩:=xg t;exact⟨(x,c)::l,rfl,by simp[e]⟩
noncomputable def pk:Lp->Option Lr
 |[]=>Y []
 |.str x::r=>(pk r).map (x::·)
 |_::_=>Z
theorem sf:∀{b:Lp}{a:Lr},pk b=Y a->b=a.map .str
 |[],_,h=>by cases h;rfl
 |d::r,a,h=>by
  cases d<;>try (simp[pk] at h;done)
  obtain⟨c,e,rfl⟩:=ab.mp (show (pk r).map _=Y a from h);rw[sf e];rfl
theorem xh{K:Fg}{H:Hp}:∀{c:Lr}{d:List V},dv K H (c.map .str) d->d=c.map .str
 |[],_,h=>dv.eC.mp h
 |x::c,_,h=>by obtain⟨v,r,rfl,a,b⟩:=dv.eh.mp h;rw[et.eU.mp a,xh b];rfl
theorem mB{K:Fg}{H:Hp}:∀(a:Lr),dv K H (a.map .str) (a.map .str)
 |[]=>dv.nil
 |x::a=>dv.cons (et.eU.mpr rfl) (mB a)
section
variable {a:Expr}{es:Lx}{fb fc:d9->Od}{p2:Pos}{ga:d9->Option Bool}
noncomputable def La(g:d8->Lp->Od)(f:d9->Od)(a:d9->Option Lp):d9->Od:=λρ=>(f ρ).bind λd=>(a ρ).bind λb=>match d with | .str z=>g (.str z) b|_=>Z
def pq{a:Str}{n:String}{g:d8->Lp->Od} (j:Slot "str" a n) (p:typeOf (.builtin n)=pure (.type "method_descriptor")) (y:Jc X n (λx vs H Q=>∃d ds c,et X.K H d x/\dv X.K H ds vs/\g d ds=Y c/\KD X.K H c Q)) (w:PD X o f) (A:vS X (e::es) ff)
  (i:attributeBase o a X.env (eval o X.env)=eval o X.env:=by rfl)
  (l:((backTo fh (starEach (e::es) X.env)).all (λx=>!x.1)&&(backToKw fh (keywordEach [] X.env)).all (λx=>x.1.isSome)
  &&decide ((e::es).length+([]:List Keyword).length+(if ([]:List Keyword).isEmpty then 0 else 1)<30))=true:=by rfl)
  (h:(apos.endLine==fh.line)=true:=by rfl) (m:zE e es X:=by rfl) (b:(backTo fh (starEach es X.env)).any (·.1)=false:=by rfl):
  PD X (.Call (.Attribute o a apos) (e::es) [] fh) (La g f ff) :=
 PE.imp (rY PySem.F.plainAttrs_str j p y w A i l h m b) <| by
  rintro σ H Q ⟨ρ,d,m,e,k⟩;obtain⟨x,D,C⟩:=bind_some e;obtain⟨ds,B,t⟩:=bind_some C;obtain⟨z,rfl⟩:∃z,x=.str z:=by cases x<;>first|exact⟨_,rfl⟩|cases t
  refine⟨ρ,_,m,D,λv G r s=>⟨?_,ρ,ds,m.same r,B,λvs E q u=>⟨_,ds,d,s.same q,u,t,k.later (r.trans q)⟩⟩⟩;rw[et.eU.mp s];rfl
noncomputable def ym(d:d8)(a:Lp):Od:=match d,a with
 |.str x,[.str y]=>if (y.length==0)=false/\x.length<=sizeLine/\(partsBetween x (occurrences x y 0 x.length (x.length+1)) y.length).length<=sizeLine then Y (.list ((Txt.split x y).map .str)) else Z
 |_,_=>Z
def Gw:Jc X "str.split" (λx vs H Q=>∃d n c,et X.K H d x/\dv X.K H n vs/\ym d n=Y c/\KD X.K H c Q):=by
 intro a s σ H v vs u D Q I o p h;obtain⟨d,n,F,z,w,e,k⟩:=h;unfold ym at e;split at e
 ·rename_i x y;by_cases j:(y.length==0)=false/\x.length<=sizeLine/\(partsBetween x (occurrences x y 0 x.length (x.length+1)) y.length).length<=sizeLine
  ·rw[af j] at e;cases e;obtain⟨q,m,b⟩:=j;rw[et.eU.mp z] at o;obtain⟨t,rfl⟩:=o;obtain⟨C,rfl,r⟩:=gg w;rw[et.eU.mp r] at p;obtain⟨E,rfl,t',rfl⟩:=p.one;have f:∀(l:List (Str×Tok)) (i:Nat),l.map (·.1)=Txt.split x y->l.length<=sizeLine->EP X a σ Q (.ref (zB s)) { s with heap:=s.heap.push { cls:=.type "list",data:=.seq (strValues l).toArray },toks:=i }:=λl i A g=>by
    have B:=I.N3 (t':=i) (ys:=(l.map (·.1)).map V.str) (xf l) (by simpa using g);refine⟨.ref (zB s),_,B,rfl,k.qU ?_ _ I.fresh⟩;rw[A];exact mB _
   cases h1:(decide (x.length<y.length)||decide (strKind x<strKind y))
   ·cases hf:(occurrences x y 0 x.length (x.length+1)).isEmpty
    ·refine cC dQ (dA _ _ _) dG (dE _ _) (meets_str_split_sep x y t t' h1 q hf m b) ?_;show EP X a σ Q _ { s with toks:=_,heap:=s.heap.push { cls:=.type "list",data:=.seq (strsFrom s.toks (partsBetween x (occurrences x y 0 x.length (x.length+1)) y.length)).toArray } };rw[strsFrom_eq];refine f _ _ ((numbered_texts _ _).trans ((ag (dt h1)).trans (ag (dt hf))).symm) ?_;have:=bg List.length (numbered_texts s.toks (partsBetween x (occurrences x y 0 x.length (x.length+1)) y.length));rw[ay] at this;rw[this];exact b
    ·exact cC dQ (dA _ _ _) dG (dE _ _) (meets_str_split_not_found x y t t' h1 q hf)
      (f [(x,t)] s.toks ((ag (dt h1)).trans (af hf)).symm (by show 1<=sizeLine;decide))
   ·exact cC dQ (dA _ _ _) dG (dE _ _) (meets_str_split_cannot_occur x y t t' h1)
     (f [(x,t)] s.toks (af h1).symm (by show 1<=sizeLine;decide))
  ·rw[ag j] at e;cases e
 ·cases e
noncomputable def Gx(d:d8)(c:Lp):Od:=match d,c with
 |.str x,[.list b]=>(pk b).bind λa=>if JoinOk x a=true then Y (.str (Txt.join x a)) else Z
 |_,_=>Z
def JG:Jc X "str.join" (λx vs H Q=>∃d g c,et X.K H d x/\dv X.K H g vs/\Gx d g=Y c/\KD X.K H c Q):=by
 intro m s σ H v vs u L Q I j q h;obtain⟨d,g,O,D,C,e,k⟩:=h;unfold Gx at e;split at e
 ·rename_i x N;obtain⟨a,F,b⟩:=bind_some e;by_cases f:JoinOk x a=true
  ·rw[af f] at b;cases b;have:=sf F;subst this;rw[et.eU.mp D] at j;obtain⟨t,rfl⟩:=j;obtain⟨J,rfl,B⟩:=gg C;obtain⟨p,G,rfl,i,z⟩:=et.eK.mp B;obtain⟨M,rfl,w⟩:=q.one;cases w;rw[xh z] at i;obtain⟨A,r,y,_⟩:=I.list i;obtain⟨l,rfl,E⟩:=xg r;exact SC.join y.isList E f λo n=>⟨.str _,H,I.tok n,⟨o,rfl⟩,k.here (et.eU.mpr rfl)⟩
  ·rw[ag f] at b;cases b
 ·cases e
noncomputable def sg(x y:d8):Od:=match x,y with
 |.str z,.int n=>if 0<=n/\n<=64/\z.length<=64 then Y (.str (Txt.mul z n)) else Z
 |x,y=>Oa x y
def Ae{z:Str}{n:Int}(h:0<=n/\n<=64/\z.length<=64):MulOk z n:=mulOk_of 64 64 (by omega) (by omega) (by omega) (by decide) (by decide)
def JH:jD X (binaryOp .Mult) (λx y H Q=>∃z n,x=.str z/\y=.int n/\(0<=n/\n<=64/\z.length<=64)/\Q (.str (Txt.mul z n)) H):=by intro a s σ H x y v u Q I d c h;obtain⟨z,n,rfl,rfl,e,q⟩:=h;obtain⟨t,rfl⟩:=d;obtain⟨f,rfl⟩:=c;exact SB.mul (Ae e) λb k=>⟨.str _,H,I.tok _,⟨b,rfl⟩,q⟩
def Du:pS X (binaryOp .Mult) sg:=by
 refine jD.imp (jD.or Mm JH) ?_;rintro x y H Q ⟨a,b,d,g,f,e,k⟩;unfold sg at e;split at e
 ·rename_i z n;by_cases c:0<=n/\n<=64/\z.length<=64
  ·rw[af c] at e;cases e;exact .inr ⟨z,n,et.eU.mp g,et.eG.mp f,c,k.here (et.eU.mpr rfl)⟩
  ·rw[ag c] at e;cases e
 ·exact .inl ⟨a,b,d,g,f,e,k⟩
noncomputable def Et(x y:d8):Od:=match x,y with
 |.str a,.str b=>Y (.bool (!decide (b.cps.toList<a.cps.toList)))
 |x,y=>Ry x y
def Eu:jD X (compareOp .LtE) (λx y H Q=>∃i j,x=.str i/\y=.str j/\Q (.bl (!decide (j.cps.toList<i.cps.toList))) H):=by intro a s σ H x y v u Q I c b h;obtain⟨i,j,rfl,rfl,q⟩:=h;obtain⟨t,rfl⟩:=c;obtain⟨d,rfl⟩:=b;exact PySem.P.le_str (ug I q rfl)
def yn:pS X (compareOp .LtE) Et:=by
 refine jD.imp (jD.or Oc Eu) ?_;rintro x y H Q ⟨a,b,d,f,c,e,k⟩;unfold Et at e;split at e
 ·rename_i z n;cases e;exact .inr ⟨z,n,et.eU.mp f,et.eU.mp c,k.here (et.eN.mpr rfl)⟩
 ·exact .inl ⟨a,b,d,f,c,e,k⟩
noncomputable def B4(g a:d8->d8->Od)(e d c:d9->Od):d9->Option Bool:=λρ=>(e ρ).bind λx=>(d ρ).bind λy=>(g x y).bind λr=>(MD r).bind λk=>if k=true then (c ρ).bind λz=>(a y z).bind MD else Y false
where MD:d8->Option Bool | .bool b=>Y b|_=>Z
def xi{d:d8}{b:Bool}(h:B4.MD d=Y b):d=.bool b:=by cases d<;>first|(cases h;rfl)|cases h
def Ew{l d:CmpOp}{g B:d8->d8->Od} (J:pS X (compareOp l) g) (o:pS X (compareOp d) B) (N:PD X a fa) (M:PD X b fb) (L:PD X c fc)
  (K:lastMarks [l,d] [b,c]=false:=by with_unfolding_all rfl):Bq X (.Compare a [l,d] [b,c] pos) (B4 g B fa fb fc) :=
 PT.imp (FG J o N M L K) <| by
  rintro σ H Q ⟨ρ,b,n,e,k⟩;obtain⟨x,V,t⟩:=bind_some e;obtain⟨y,U,s⟩:=bind_some t;obtain⟨r,T,q⟩:=bind_some s;obtain⟨m,S,j⟩:=bind_some q;have:=xi S;subst this;clear e t s q;refine⟨ρ,x,n,V,λv H1 i I=>⟨ρ,y,n.same i,U,λu H2 h A=>⟨x,y,.bool m,I.same h,A,T,λw H3 f G=>⟨m,et.eN.mp G,?_⟩⟩⟩⟩;cases m with
  |false=>rw[ag aQ] at j ⊢;cases j;exact⟨false,rfl,k H3 (i.trans (h.trans f))⟩
  |true=>rw[af rfl] at j ⊢;obtain⟨z,R,D⟩:=bind_some j;obtain⟨r2,P,O⟩:=bind_some D;have:=xi O;subst this;exact⟨ρ,z,n.same (i.trans (h.trans f)),R,λw2 H4 p F=>⟨y,z,.bool b,A.same (f.trans p),F,P,λw3 W C E=>⟨b,et.eN.mp E,k W (i.trans (h.trans (f.trans (p.trans C))))⟩⟩⟩
noncomputable def Pp(f:d9->Od):d9->Od:=λρ=>(f ρ).bind λd=>match d with | .str x=>if x.length<=sizeLine then Y (.str x) else Z|_=>Z
def Gy{d:d8}(h:Pp f ρ=Y d):∃x,f ρ=Y (.str x)/\d=.str x/\x.length<=sizeLine:=by
 obtain⟨x,c,a⟩:=bind_some h;obtain⟨y,rfl⟩:∃y,x=.str y:=by cases x<;>first|exact⟨_,rfl⟩|cases a
 dsimp only at a;by_cases b:y.length<=sizeLine
 ·rw[af b] at a;cases a;exact⟨y,c,rfl,b⟩
 ·rw[ag b] at a;cases a
def Lb(q:PD X e f):PD X (.FormattedValue e (-1) Z pos) (Pp f):=by
 intro a s σ H Q I ⟨ρ,d,p,u,k⟩;obtain⟨x,r,rfl,o⟩:=Gy u;refine wpAny_FormattedValue_plain (gd (@q a s σ H (λv H'=>v=.str x/\ez H H') I ⟨ρ,_,p,r,λv H' j i=>⟨et.eU.mp i,j⟩⟩) ?_);rintro v h ⟨y,z,w,l,n,m⟩;subst n;obtain⟨t,rfl⟩:=l;have b:∀g c,EP X a σ Q (.str x g) { h with toks:=c }:=λg c=>⟨.str x,z,w.tok c,⟨g,rfl⟩,(k.later m).here (et.eU.mpr rfl)⟩
 exact wpAny_formatField_str (b t h.toks) (b _ _) o
def PJ(X:Cx)(e:Lx)(d:d9->Option Str):Prop :=
 ∀(a:Str) (pins:Ax) (s:Shared) (σ:St) (H:Hp) (Q:Str->Shared->Prop),eE X pins σ H s->(∃ρ z,hY X.K H σ ρ/\d ρ=Y z/\(a++z).length<=sizeLine/\∀c b,ez H c->eE X pins σ c b->Q (a++z) b) ->
  Joins (model X.prog X.w) X.A X.xe (evalEach e X.env) a Q s
def uO(a:Str):a++Str.empty=a:=by cases a with|mk c=>show Str.mk (c++#[])=Str.mk c;rw[Array.append_empty]
def lP(a b c:Str):a++b++c=a++(b++c):=by cases a with|mk x=>cases b with|mk y=>cases c with|mk z=>show Str.mk (x++y++z)=Str.mk (x++(y++z));rw[Array.append_assoc]
def k6(a b:Str):(a++b).length=a.length+b.length:=strLen_append ..
def ME:PJ X [] (λ_=>Y Str.empty):=by intro b a s σ H Q I ⟨ρ,z,d,e,c,k⟩;cases e;have:=k H s (.refl H) I;rw[uO] at this;exact this
noncomputable def Dv(f:d9->Od)(g:d9->Option Str):d9->Option Str:=λρ=>(f ρ).bind λd=>(g ρ).bind λz=>match d with | .str y=>Y (y++z)|_=>Z
def yo(B:PD X e f){m:d9->Option Str}(w:PJ X es m)(h:evalEach (e::es) X.env=eval e X.env::evalEach es X.env:=by rfl):PJ X (e::es) (Dv f m):=by
 intro b a s σ H Q I ⟨ρ,z,l,F,g,k⟩;obtain⟨d,E,D⟩:=bind_some F;obtain⟨o,C,n⟩:=bind_some D;obtain⟨y,rfl⟩:∃y,d=.str y:=by cases d<;>first|exact⟨_,rfl⟩|cases n
 cases n;rw[h];refine gd (@B a s σ H (λv H'=>v=.str y/\ez H H') I ⟨ρ,_,l,E,λv H' c i=>⟨et.eU.mp i,c⟩⟩) ?_;rintro v q ⟨x,K,G,r,u,j⟩;subst u;obtain⟨t,rfl⟩:=r;have A:(b++y).length<=sizeLine:=by rw[k6] at g ⊢;rw[k6] at g;omega
 refine⟨y,t,rfl,A,w (b++y) a q σ K Q G ⟨ρ,o,l.same j,C,by rw[lP];exact g,λH' c p J=>?_⟩⟩;rw[lP];exact k H' c (j.trans p) J
noncomputable def RY(a:d9->Option Str):d9->Od:=λρ=>(a ρ).bind λz=>if z.length<=sizeLine then Y (.str z) else Z
def JI{h g:Expr}{a:Lx}{i:d9->Option Str}(n:PJ X (h::g::a) i):PD X (.JoinedStr (h::g::a) pos) (RY i):=by
 intro b s σ H Q I ⟨ρ,d,m,p,k⟩;obtain⟨z,o,f⟩:=bind_some p;by_cases e:z.length<=sizeLine
 ·rw[af e] at f;cases f;have j:Str.empty++z=z:=by cases z with|mk c=>show Str.mk (#[]++c)=Str.mk c;rw[Array.empty_append]
  refine wpAny_JoinedStr (n Str.empty b s σ H _ I ⟨ρ,z,m,o,by rw[j];exact e,λr t l q=>?_⟩);rw[j];exact⟨e,.str z,r,q.tok _,⟨_,rfl⟩,(k.later l).here (et.eU.mpr rfl)⟩
 ·rw[ag e] at f;cases f
noncomputable def tQ(p:d8->Bool):Lp->Nat->Option Nat
 |[],_=>Z
 |d::ds,k=>if p d=true then Y k else tQ p ds (k+1)
noncomputable def yp(l:d8)(a:Lp):Od:=match l,a with
 |.list xs,[x]=>if SeqAt.shaped x=true/\xs.all SeqAt.shaped=true/\x.depth<=60/\xs.length<=sizeLine then (tQ (λy=>d8.eqv y x) xs 0).map λ(j:Nat)=>d8.int (j:Int) else Z
 |_,_=>Z
theorem p7{p:d8->Bool}:∀{a:Lp}{k j:Nat},tQ p a k=Y j->k<=j/\j - k<a.length/\(∃d,a[j - k]?=Y d/\p d=true)/\∀i d,i<j - k->a[i]?=Y d->p d=false
 |[],_,_,h=>by cases h
 |x::a,k,j,h=>by
  unfold tQ at h;by_cases b:p x=true
  ·rw[af b] at h;cases h;refine⟨ax _,by simp,⟨x,by simp,b⟩,λi d f=>by omega⟩
  ·rw[ag b] at h;obtain⟨o,n,⟨d,m,l⟩,g⟩:=p7 h;have e:j - k=(j - (k+1))+1:=by omega
   refine⟨by omega,by rw[e];simpa using n,⟨d,by rw[e];simpa using m,l⟩,λi y f c=>?_⟩;cases i with
   |zero=>simp at c;subst c;simpa using b
   |succ i=>exact g i y (by omega) (by simpa using c)
end
end L2
namespace PySem
open Builtin
def q7:typeLookup (.type "list") "keys"=pure Z:=by rw[ck,bJ];kernel_rfl
theorem yq{i:Heap}{m:Array GenState}{o:Drawn}{s:Nat}{l:OsState}{q:Array Ow}{g:Array Value}{e:Str}{Q:Ow->Shared->Prop}
    (r:i.get? a=Y { cls:=.type "list",dict:=Z,data:=.seq g n,slots:=q }) (d:typeLookup (.type "list") e=pure Z) (c:(["__module__","__name__","__qualname__","__doc__","__annotations__"]:Lr).contains e=false) (h:A.handled=Z) (b:e.length+100<=sizeLine)
    (k:∀Ol QN x,Heap.NewExcOf i Ol x "AttributeError"->Q Z ⟨Ol,m,o,QN,l⟩):wpAny (model prog w) A (getAttr? (.ref a) e) Q E ⟨i,m,o,s,l⟩:=by
  have p:∀t,Shared.TypeIs ⟨i,m,o,t,l⟩ (.ref a) "list":=λt=>⟨_,r,rfl⟩
  have z:=sub_AttributeError;have y:=F.slot_list_getattribute.lookup;have v:=F.slot_list_getattribute.bind (.ref a);have u:=am_list_getattr_none;unfold getAttr? getAttrBy? getAttrBy
  repeat (any_goals (first
    |assumption
    |exact p _
    | ((with_reducible show wpAny _ _ (call (Value.builtin "list.__getattribute__") _ _) _ _ _)
       refine cC F.slot_list_getattribute (p _) am_entry_list_getattribute (F.args_list_getattribute_2 _ _) (meets_getattribute_miss_list a g n q e _ d c b) ⟨r,h,λOl QN x f=>?_⟩)
    |wp_step))
  obtain⟨_,_,j⟩:=f.there;show wpAny _ _ (getattributeRaised _ _ _ _ _ _ _) _ _ _;unfold getattributeRaised
  repeat (any_goals (first|assumption|wp_step))
  exact k _ _ _ f.of
namespace F
def iV:entryFor table "dict.update.loop"=Y Builtin.«dict.update.loop»:=entryFor_of_tree (zK 0)
def fU:plainId "dict.update.loop"=true:=by decide +kernel
end F
section
variable {K:Type} [DecidableEq K] {knd:KeyKind prog w K}{s:Shared}
inductive jU (knd:KeyKind prog w K) (h:Heap):Lw->List (K×Value)->Prop
 |nil:jU knd h [] []
 |cons {T:Addr}{key v:Value}{k:K}{vs:Lw}{ps:List (K×Value)}:h.IsTuple T #[key,v]->knd.is k key=true->jU knd h vs ps->jU knd h (.ref T::vs) ((k,v)::ps)
def jU.keep{h':Heap}{d:Lw}{e:List (K×Value)}(x:jU knd h d e)(k:∀b o xs n,h.get? b=Y o->o.data=.seq xs n->h'.get? b=Y o):jU knd h' d e:=by
 induction x with
 |nil=>exact .nil
 |cons a b c g=>obtain⟨o,j,i,n,f⟩:=a;exact .cons ⟨o,k _ _ _ _ j f,i,n,f⟩ b g
def Af(b c:List (K×Value)):List (K×Value):=c.foldl (λa p=>stored a p.1 p.2) b
def B5(a:List (K×Value))(k:K)(v:Value):(stored a k v).length<=a.length+1:=by unfold stored;split<;>simp
theorem Gz{D I l:Addr}{a:Array Value}{R:Result->Shared->Prop}(hh:A.in1.handled=Z)(j:D≠I)(c:Heap)(L:c.get? D=Z)(t:c.get? I=Z):
  ∀(B:Lw) (ps:List (K×Value)) (i:Nat) (s:Shared) (acc:List (K×Value)),a.toList.drop i=B->jU knd s.heap B ps->(∀b o,c.get? b=Y o->s.heap.get? b=Y o)->s.heap.IsListIter I l i->s.heap.IsList l a->s.heap.DictOf knd D acc->acc.length+ps.length<=sizeLine ->
  (∀p S,p.DictOf knd D (Af acc ps)->(∀b o,c.get? b=Y o->p.get? b=Y o)->R (.ok (.ret .none)) { s with heap:=p,toks:=S }) ->
  codeAny (model prog w) A (.builtin "dict.update.loop" ⟨[.ref D,.ref I,rawInt i,.none],[]⟩) R s
 |[],_,i,s,acc,E,G,h0,J,O,hd,U,hR=>by
  cases G;refine bq F.iV ?_;rw[a9 F.fU _];show wpAny _ A.in1 (pyNext (.ref I)>>=_) _ _ s;have hn:a[i]?=Z:=by have:=List.drop_eq_nil_iff.mp E;simp at this ⊢;omega
  refine aa (c7 hh J O hn λp eb=>?_);show wpAny _ A.in1 (Builtin.Dict.addKeywords D []>>=_) _ _ _;refine aa (ae (ae ?_));obtain⟨o,P,Q,x,r⟩:=hd;exact hR p s.toks ⟨o,P,Q,eb _ _ j x,r⟩ λb o e=>eb b o (λz=>by rw[z,t] at e;cases e) (h0 b o e)
 |v::B,_,i,s,acc,E,G,h0,J,O,hd,U,hR=>by
  cases G with
  |@cons T q g k _ ps ht hk G=>
   refine bq F.iV ?_;rw[a9 F.fU _];show wpAny _ A.in1 (pyNext (.ref I)>>=_) _ _ s;have W:i<a.size:=by have:=bg List.length E;simp at this;omega
   have hx:a[i]?=Y (.ref T):=by have:=bg (·[0]?) E;simpa using this
   have V:a.toList.drop (i+1)=B:=by
    have e:=bF (l:=a.toList) (i:=i) (by simpa using W);rw[E] at e;injection e with _ f
    exact f.symm
   refine aa (cV J O hx λp QO C=>?_);have QP:p.IsTuple T #[q,g]:=by obtain⟨o,d,f,n,y⟩:=ht;refine⟨o,(C.2 _ λz=>?_).trans d,f,n,y⟩;subst z;obtain⟨oi,u,ci,N⟩:=J;rw[d] at u;cases u;rw[y] at N;cases N
   obtain⟨ot,M,Tj,nt,Tn⟩:=id QP;show wpAny _ A.in1 (holding [.ref T] _>>=_) _ _ _;refine aa (aY ?_);refine aa (wpAny_tryCatch ?_);unfold Builtin.Dict.pairItems;refine aa (b6 (T:="tuple") ⟨ot,M,Tj⟩ ?_);have To:((Value.type "tuple"==Value.type "list")||(Value.type "tuple"==Value.type "tuple"))=true:=by decide
   simp only[To,df];refine aa ?_;unfold seqItems?;refine aa (wpAny_load M ?_);rw[Tn];refine ae (ae ?_);show wpAny _ _ (holding [q,g] (dictSet D q g)) _ _ _;have Qx:p.DictOf knd D acc:=by obtain⟨o,P,Q,x,r⟩:=id hd;exact⟨o,P,Q,(C.2 _ j).trans x,r⟩
   have nI:∀b o m n,s.heap.get? b=Y o->o.data=.seq m n->b≠I:=λb o m n d f z=>by subst z;obtain⟨oi,u,ci,N⟩:=J;rw[d] at u;cases u;rw[f] at N;cases N
   have nD:∀b o m n,s.heap.get? b=Y o->o.data=.seq m n->b≠D:=λb o m n d f z=>by subst z;obtain⟨o',P,Q,x,UC,H,_⟩:=hd;rw[d] at x;cases x;rw[f] at H;cases H
   refine aY (wpAny_dictSet_pairs hk Qx (λh2 hd2 h=>?_) (hsz:=by simp at U;omega));refine ae ⟨bN F.fU _,?_⟩;have u:((i:Int)+1)=((i+1:Nat):Int):=by omega
   rw[u];have X:h2.IsList l a:=by obtain⟨o,d,f,n,y⟩:=O;exact⟨o,(h.2 _ (nD _ _ _ _ d y)).trans ((C.2 _ (nI _ _ _ _ d y)).trans d),f,n,y⟩
   have QQ:h2.IsListIter I l (i+1):=QO.at λo e=>(h.2 _ (Ne.symm j)).trans e;refine Gz hh j c L t B ps (i+1) { s with heap:=h2,toks:=s.toks+1 } (stored acc k g) V (G.keep λb o m n d f=>(h.2 _ (nD b o m n d f)).trans ((C.2 _ (nI b o m n d f)).trans d)) (λb o e=>?_) QQ X hd2 ?_ λh3 S Tp k3=>hR h3 S Tp k3
   ·have b1:b≠I:=λz=>by rw[z,t] at e;cases e
    have b2:b≠D:=λz=>by rw[z,L] at e;cases e
    exact(h.2 b b2).trans ((C.2 b b1).trans (h0 b o e))
   ·have:=B5 acc k g;simp at U ⊢;omega
theorem sM{l:Addr}{o:Obj}{u:List (K×Value)}{Q:Px} (I:A.handled=Z) (P:s.heap.get? l=Y o) (J:o.cls=.type "list") (g:o.data=.seq items n) (t:o.dict=Z)
  (R:jU knd s.heap items.toList u) (y:u.length<=sizeLine)
  (h:∀h' tk,h'.DictOf knd (zB s) (Af [] u)->(∀b o,s.heap.get? b=Y o->h'.get? b=Y o)->Q (.ref (zB s)) { s with heap:=h',toks:=tk }):
  wpAny (model prog w) A (call (.type "dict") [.ref l]) Q E s:=by
 refine callType_codes (Q₁:=λj d=>j=.ref (zB s)/\d={ s with heap:=s.heap.push { cls:=.type "dict",data:=.dict #[] } }) F.kt_called_dict (F.kt_typeCall_dict_1 _) F.entry_dict_init (kt_code_dict_new _ ⟨rfl,rfl⟩) ?_;rintro j d ⟨rfl,rfl⟩;have a:(s.heap.push { cls:=.type "dict",data:=.dict #[] }).DictOf knd (zB s) []:=Heap.DictOf.new s.heap;obtain⟨oc,od,M,L⟩:=o;simp only at J g t;subst J g t;have c:=ah { cls:=.type "dict",data:=.dict #[] } P;refine⟨a.typeIs,F.args_dict_init_2 _ _,?_⟩;unfold Builtin.«dict.__init__»;refine aa ?_;unfold Builtin.Dict.selfAndRest;refine aa (wpAny_notOrdered_dict a.typeIs ?_);show wpAny _ _ (pure ((zB s),[Value.ref l])) _ _ _;refine ae ?_;show wpAny _ _ (Builtin.Dict.updateFrom "dict.__init__" (zB s) (.ref l) [] .none) _ _ _;unfold Builtin.Dict.updateFrom;refine aa (b6 (T:="list") ⟨_,c,rfl⟩ ?_);rw[af (by decide)];refine aa (yq c q7 (by decide +kernel) (show A.in1.in1.handled=Z from I) (by decide) λi x e1 p=>?_);rw[af (show (Z:Ow).isNone=true from rfl)];refine aa (dS ?_);have C:i.IsList l items:=⟨_,p.keeps _ _ c,rfl,n,rfl⟩
 refine aa (cF C ?_);refine ae ⟨bN F.fU _,?_⟩;have f:(zB s)<i.objs.size:=aj (p.keeps _ _ (ar s.heap (o:={ cls:=.type "dict",data:=.dict #[] }) rfl));have H:∀b k,s.heap.get? b=Y k->(i.push { cls:=.type "list_iterator",data:=.fields #[.ref l,.int 0 0] }).get? b=Y k:=λb k e=>ah _ (p.keeps _ _ (ah _ e));have G:(i.push { cls:=.type "list_iterator",data:=.fields #[.ref l,.int 0 0] }).DictOf knd (zB s) []:=by obtain⟨N,V,W,S,r⟩:=a;exact⟨N,V,W,ah _ (p.keeps _ _ S),r⟩
 have B:(i.push { cls:=.type "list_iterator",data:=.fields #[.ref l,.int 0 0] }).IsList l items:=⟨_,ah _ (p.keeps _ _ c),rfl,n,rfl⟩
 exact Gz (knd:=knd) (s:={ s with heap:=i.push { cls:=.type "list_iterator",data:=.fields #[.ref l,.int 0 0] },toks:=x }) (show A.in1.in1.handled=Z from I) (aE f) s.heap (by
   cases q:s.heap.get? (zB s) with
   |none=>rfl
   |some z=>exact absurd (aj q) (aW _)) (by
   cases q:s.heap.get? i.objs.size with
   |none=>rfl
   |some z=>exact absurd (cZ (aj q) f) (aW _)) items.toList u 0 [] rfl (R.keep λb k X m e _=>H b k e) H ⟨_,ar _ rfl,rfl,rfl⟩ B G (by simpa using y)
  λU v D O=>⟨rfl,h U v D O⟩
end
end PySem
namespace L2
open PySem PySem.Spec PyProof.Rows
noncomputable def p8:Lp->Option (List (Key×d8))
 |[]=>Y []
 |.tuple [k,d]::r=>(kF k).bind λy=>(p8 r).map ((y,d)::·)
 |_::_=>Z
def Lc(b:List (Key×d8))(a:List (d8×d8)):List (d8×d8):=b.foldl (λa p=>BV (gW p.1) p.2 a) a
noncomputable def oT(b:List (Key×V))(a:List (Key×V)):List (Key×V):=b.foldl (λa p=>putK a p.1 p.2) a
noncomputable def yr:Lp->Od
 |[.list ds]=>(p8 ds).bind λa=>if a.length<=sizeLine then Y (.dict (Lc a [])) else Z
 |_=>Z
section
variable {s:Shared}
theorem Ag(I:eE X pins σ H s):∀{j:Lp}{g:List (Key×d8)}{l:List V}{m:Lw},p8 j=Y g->dv X.K H j l->eQ l m ->
  ∃(c:List (Key×V)) (ws:List (Key×Value)),jU (fj X.prog X.w) s.heap m ws/\KV c ws/\c.length=g.length/\∀a b,fq X.K H a b->fq X.K H (Lc g a) (oT c b)
 |[],_,_,_,e,i,r=>by cases e;rw[dv.eC.mp i] at r;cases r;exact⟨[],[],.nil,.nil,rfl,λa b h=>h⟩
 |d::j,_,_,_,e,i,r=>by
  obtain⟨v,l,rfl,N,M⟩:=dv.eh.mp i;obtain⟨k,f,rfl⟩:∃k f,d=.tuple [k,f]:=by
   unfold p8 at e;split at e
   ·rename_i z;cases z
   ·rename_i k f r z;injection z with o z2;exact⟨k,f,o⟩
   ·cases e
  obtain⟨y,Q,P⟩:=bind_some (show (kF k).bind (λy=>(p8 j).map ((y,f)::·))=Y _ from e);obtain⟨g,O,rfl⟩:=ab.mp P;cases r with
  |cons B A=>
   obtain⟨c,ws,W,U,S,R⟩:=Ag I O M A;obtain⟨T,ts,rfl,x,L⟩:=N.fJ;cases B;obtain⟨v1,q,rfl,G,F⟩:=F8 L;obtain⟨J,n,E,_⟩:=I.tuple x;have:=fM Q;subst this;rw[gi G] at n;cases n with
   |@cons _ w1 _ _ D u=>
    cases u with
    |@cons _ p _ _ C t=>cases t;exact⟨(y,q)::c,(y,p)::ws,jU.cons E (mN D) W,Paired.cons ⟨rfl,C⟩ U,by rw[aD,aD,S],λa b h=>R _ _ (h.put F)⟩
def KV.QR{c:List (Key×V)}{e:List (Key×Value)}(r:KV c e):∀{a:List (Key×V)}{b:List (Key×Value)},KV a b->KV (oT c a) (Af b e):=by
 induction r with
 |nil=>exact λh=>h
 |@cons p q c f h t g=>intro a b d;obtain⟨j,i⟩:=h;have:=d.put p.1 i;rw[show oT (p::c) a=oT c (putK a p.1 p.2) from rfl,show Af b (q::f)=Af (stored b q.1 q.2) f from rfl,<-j];exact g this
theorem xj:∀(b:List (Key×V)) (a:List (Key×V)),(oT b a).length<=a.length+b.length
 |[],a=>by simp[oT]
 |p::b,a=>by have d:=xj b (putK a p.1 p.2);have c:=nk a p.1 p.2;rw[show oT (p::b) a=oT b (putK a p.1 p.2) from rfl,aD];omega
def JK(K:X.calm=true):uu X (.type "dict") yr:=by
 intro q s σ H S U Q I r h;obtain⟨ds,c,i,e,k⟩:=h;unfold yr at e;split at e
 ·rename_i V;obtain⟨m,M,f⟩:=bind_some e;by_cases g:m.length<=sizeLine
  ·rw[af g] at f;cases f;obtain⟨v,rfl,L⟩:=gg i;obtain⟨u,rfl,B⟩:=oR r;obtain⟨p,T,rfl,z,D⟩:=et.eK.mp L;cases B;obtain⟨E,A,⟨o,n,F,l,j,d⟩,_⟩:=I.list z;obtain⟨b,x,P,t,O,N⟩:=Ag I M D A;have hw:x.length=m.length:=by rw[<-t.length,O]
   refine sM (knd:=fj X.prog X.w) (I.ok.hd K) F l d j (by simpa using P) (by rw[hw];exact g) λW y J C=>?_;have G:(oT b []).length<=sizeLine:=by have:=xj b [];simp at this;omega
   have R:=I.laid (a:=(zB s)) (o:=.dK (oT b [])) (t':=y) C (ax _) (FZ G (a7.mpr (Ne.symm (aE I.big))) (KV.QR t .nil) J);refine⟨.ref (zB s),_,R,rfl,k _ _ (jn I.fresh) (et.jm.mpr ⟨_,rfl,.inl ⟨_,.inl eI,?_⟩⟩)⟩;exact(N [] [] (fq.eC.mpr rfl)).same (jn I.fresh)
  ·rw[ag g] at f;cases f
 ·cases e
end
end L2
namespace PySem
open Builtin
section
variable {s:Shared}
abbrev QS(a:Program)(w:World)(A:Around)(R:Result->Shared->Prop):Fin->Shared->Prop:=λb c=>match b with
 |.done f=>R (.ok f) c
 |.again d=>d.quiet=true/\codeAny (model a w) A d R c
theorem nF{x:Value}{Q:Px}
  (j:∀h2 c,h2.get? (zB s)=Y (zl #[] c)->(∀b o,s.heap.get? b=Y o->h2.get? b=Y o) ->
   wpAny (model prog w) A.in1.in1 (Builtin.List.listExtendWith (.ref (zB s)) x .none) (QS prog w A.in1 (wants (λr s₂=>r=.none/\Q (.ref (zB s)) s₂) E)) (λe s'=>wants (λr s₂=>r=.none/\Q (.ref (zB s)) s₂) E (.error e) s') { s with heap:=h2 }):
  wpAny (model prog w) A (call (.type "list") [x]) Q E s:=by
 refine callType_codes (Q₁:=λf d=>f=.ref (zB s)/\d={ s with heap:=s.heap.push { cls:=.type "list",data:=.seq #[] } }) F.called_list (F.typeCall_list_1 _) F.entry_list_init (code_list_new _ ⟨rfl,rfl⟩) λf d g=>?_;obtain⟨rfl,rfl⟩:=g;have a:(s.heap.push { cls:=.type "list",data:=.seq #[] }).get? (zB s)=Y { cls:=.type "list",data:=.seq #[] }:=ar _ rfl;refine⟨⟨_,a,rfl⟩,F.args_list_init_2 _ _,?_⟩;show wpAny _ A.in1.in1 (do
  let h <-Builtin.List.listItems (.ref (zB s))
  Builtin.List.listUpdate (.ref (zB s)) (λ_=>#[])
  letGo h.toList.reverse
  Builtin.List.listExtendWith (.ref (zB s)) x .none) _ _ _
 refine aa ?_;unfold Builtin.List.listItems;refine aa (dX a rfl (ae ?_));show wpAny _ A.in1.in1 (updateSeq (zB s) (λ_=>#[])>>=_) _ _ _;refine aa (b5 a rfl (aa (wpAny_letGo ?_)));refine j _ _ (bj (Obj.mapSeq λ_=>(#[]:Array Value)) a rfl) λb o e=>?_;have i:(zB s)≠b:=λz=>aW _ (by have:=aj e;rw[<-z] at this;exact this);exact(bf _ _ i).trans (ah _ e)
variable {K:Type} [DecidableEq K] {knd:KeyKind prog w K}
theorem uP{d:Addr}{a:List (K×Value)}{Q:Px} (X:A.handled=Z) (hS:(d==sysModules)=false) (hd:s.heap.DictOf knd d a) (W:a.length<=sizeLine)
  (h:∀h' tk its c,its.size=a.length->(∀(j:Nat) v,its[j]?=Y v->∃k x,a[j]?=Y (k,x)/\knd.is k v=true)->h'.get? (zB s)=Y (zl its c)->(∀b o,s.heap.get? b=Y o->h'.get? b=Y o)->Q (.ref (zB s)) { s with heap:=h',toks:=tk }):
  wpAny (model prog w) A (call (.type "list") [.ref d]) Q E s:=by
 obtain⟨r,t⟩:=hd.dictAt;have i:d<(zB s):=t.lt_size;refine nF λg c B M=>?_;have f:g.DictAt knd d a r:=t.at' λo e=>M _ _ e;have P:Shared.TypeIs { s with heap:=g } (.ref d) "dict":=f.dictOf.typeIs;have l:(zB s)<g.objs.size:=aj B;unfold Builtin.List.listExtendWith;refine aa (b6 P ?_);have V:Builtin.List.listSameRef (.ref (zB s)) (.ref d)=false:=by simp[Builtin.List.listSameRef,bX i]
 have U:(Value.type "dict"==Value.type "list")=false:=by decide
 have T:(Value.type "dict"==Value.type "tuple")=false:=by decide
 simp only[V,U,T,dH,cD,dN];refine aa (wpAny_pyIter_dict hS f ?_);refine aa (aY ?_);have p:Shared.TypeIs { s with heap:=g.push { cls:=.type "dict_keyiterator",data:=.fields #[.ref d,.int 0 0,.int a.length 0,.int r 0] } } (.ref d) "dict":=(f.push _).dictOf.typeIs;unfold Builtin.List.listLengthHint;refine aa (cj p F.slot_dict_len.lookup ?_);have R:splitId "dict.__len__"=Y ("dict","__len__"):=by kernel_rfl
 dsimp only;rw[R];dsimp only;refine aa (wpAny_isInstance p isSubtype_dict_dict ?_);rw[ag (by decide),af (by decide)];refine aa (b6 p ?_);show wpAny _ _ (pure false) _ _ _;refine ae ?_;rw[af (by decide)];refine aa (dS (aa ?_));show wpAny _ _ (updateSeq (zB s) (·.push .none)>>=λ_=>updateSeq (zB s) (·.pop)) _ _ _;have y:(g.push { cls:=.type "dict_keyiterator",data:=.fields #[.ref d,.int 0 0,.int a.length 0,.int r 0] }).get? (zB s)=Y (zl #[] c):=ah _ B;refine aa (b5 y rfl ?_);have u:=bj (Obj.mapSeq (·.push Value.none)) y rfl;refine b5 (hz:=by seq_fits) u rfl ?_;have J:=bj (Obj.mapSeq (·.pop)) u rfl;have q:∀b o,b≠(zB s)->(g.push { cls:=.type "dict_keyiterator",data:=.fields #[.ref d,.int 0 0,.int a.length 0,.int r 0] }).get? b=Y o->(((g.push { cls:=.type "dict_keyiterator",data:=.fields #[.ref d,.int 0 0,.int a.length 0,.int r 0] }).update (zB s) (Obj.mapSeq (·.push Value.none))).update (zB s) (Obj.mapSeq (·.pop))).get? b=Y o :=
  λb o N e=>(bf _ _ (Ne.symm N)).trans ((bf _ _ (Ne.symm N)).trans e)
 have H:(zB s)∉[g.objs.size,d]:=by
  intro m;rcases ak.mp m with e|m
  ·exact absurd e (aE l)
  ·exact absurd (by simpa using m) (bX i)
 have dI:d≠g.objs.size:=aE (cZ i l);refine ae ⟨bN bR _,codeAny_extend_loopS (Walks.dictKeys (knd:=knd) (show A.in1.in1.handled=Z from X) g.objs.size d dI a r).toS W _ H _ a.length 0 _ _ _ rfl (bL _) ⟨?_,?_⟩ J (ItemsOf.nil _) λS L c' C I n=>?_⟩
 ·exact Heap.IsKeyIter.at ⟨_,ar _ rfl,rfl,rfl⟩ λo e=>q _ _ (Ne.symm (aE l)) e
 ·exact(f.push _).at' λo e=>q _ _ (aE i) e
 ·obtain⟨h',g',d',D,G⟩:=S;have eg:g'=s.gens:=C.gens;have ed:d'=s.drawn:=C.drawn;have eo:G=s.os:=C.os;subst eg ed eo;refine⟨rfl,h h' D L c' n.1 (λj v e=>n.2 j v e) I λb o e=>?_⟩;have O:b≠(zB s):=λz=>aW _ (by have:=aj e;rw[z] at this;exact this);have bI:b≠g.objs.size:=λz=>aW g.objs.size (cZ (by have:=aj e;rw[z] at this;exact this) l);refine C.heap b o (by simp[O,bI]) (q b o O (ah _ (M b o e)))
end
end PySem
namespace PySem
open Builtin
section
variable {s:Shared}
def JL{M:Model}{Q:Option Obj->Shared->Prop}(h:Q (s.heap.get? a) s):wpAny M A (loadIfAlive a) Q E s:=λΓ p b=>by show Sem.wp M Γ (Sem.loadIfAlive a _) _ _ p s;rw[Sem.wp_loadIfAlive];exact h
abbrev q8(h:Heap)(z c a T:Addr)(b:Bool):Prop:=h.get? z=Y { cls:=.type "zip",dict:=Z,data:=.fields #[rawInt T,.bool b,.bool false,.ref c,.ref a],slots:=#[] }
def si{z e d T:Addr}{b:Bool}{g:Obj}{Q:Bool->Shared->Prop} (a:q8 s.heap z e d T b) (h:s.heap.get? T=Y g)
  (k:∀h',q8 h' z e d T true->Heap.SameBut z s.heap h'->Q false { s with heap:=h' }):wpAny (model prog w) A (Builtin.SmallTypes.ownedTupleIsFree (.ref z)) Q E s:=by
 unfold Builtin.SmallTypes.ownedTupleIsFree;refine aa (cA a rfl (x:=rawInt T) rfl ?_);show wpAny _ _ (loadIfAlive ((T:Int)).toNat>>=_) _ _ _;refine aa (JL ?_);rw[show ((T:Int)).toNat=T from b0 T,h];rw[ag (by simp)];refine aa (cA a rfl (x:=.bool b) rfl ?_);cases b with
 |true=>rw[ag (by decide)];exact ae (k _ a (Heap.SameBut.refl _ _))
 |false=>rw[af (by decide)];refine aa (wpAny_setField_rec a (by simp) λh' c f=>ae (k h' c f))
def B6{z j I T h g n m:Addr}{b:Bool}{M:Obj}{q p:Nat}{K J:Array Value}{x y:Value}{Q:Px} (D:ZipApart z j I h g n m) (B:q8 s.heap z j I T b) (W:s.heap.get? T=Y M) (C:IsPair s.heap j (.ref h) (.ref g))
  (S:s.heap.IsListIter h n q) (R:s.heap.IsListIter g m p) (O:s.heap.IsList n K) (N:s.heap.IsList m J) (V:K[q]?=Y x) (U:J[p]?=Y y)
  (k:∀h',q8 h' z j I T true->h'.IsListIter h n (q+1)->h'.IsListIter g m (p+1)->IsPair h' (zB s) x y->(∀c o,c≠z->c≠h->c≠g->s.heap.get? c=Y o->h'.get? c=Y o)->Q (.ref (zB s)) { s with heap:=h' }):
  wpAny (model prog w) A (Builtin.«zip.__next__» ⟨[.ref z],[]⟩) (λfin s'=>∃v,fin=.done (.ret v)/\Q v s') E s:=by
 show wpAny _ _ (field (.ref z) 2>>=_) _ _ _;refine aa (cA B rfl (x:=.bool false) rfl ?_);show wpAny _ _ (field (.ref z) 3>>=_) _ _ _;refine aa (cA B rfl (x:=.ref j) rfl (aa (dX C rfl ?_)));show wpAny _ _ (Builtin.SmallTypes.ownedTupleIsFree (.ref z)>>=_) _ _ _;refine aa (si B W λh1 u a=>?_);rw[ag aQ];refine aa ?_;rw[<-Array.forIn_toList];simp only[dn,dB];refine aa (aa (aY ?_));show wpAny _ _ (Builtin.SmallTypes.nextOf (.ref h)>>=_) _ _ _;refine aa (c5 (S.extBut a.extBut D.i1z) (O.extBut a.extBut D.l1z) V λX t d=>ae (ae ?_));dsimp only;refine aa (aa (aY ?_));show wpAny _ _ (Builtin.SmallTypes.nextOf (.ref g)>>=_) _ _ _;refine aa (c5 ((R.extBut a.extBut D.i2z).extBut d.extBut D.i12.symm) ((N.extBut a.extBut D.l2z).extBut d.extBut D.l2i1) U λi r f=>ae (ae (ae ?_)));have L:i.objs.size=(zB s):=by rw[f.1,d.1,a.1]
 have P:∀c o,c≠z->c≠h->c≠g->s.heap.get? c=Y o->i.get? c=Y o:=λc o H G F e=>f.extBut _ _ F (d.extBut _ _ G (a.extBut _ _ H e));refine aa (wpAny_newTuple (ae ⟨_,rfl,?_⟩) (by show 2<=sizeLine;decide));show Q (.ref i.objs.size) _;rw[L];have l:∀c o,i.get? c=Y o->(i.push { cls:=.type "tuple",data:=.seq #[x,y] }).get? c=Y o:=λc o e=>ah _ e;refine k _ (l _ _ (f.extBut _ _ D.i2z.symm (d.extBut _ _ D.i1z.symm u))) ((t.extBut f.extBut D.i12).at λo e=>l _ _ e) (r.at λo e=>l _ _ e) (by rw[<-L];exact ar _ rfl) λc o H G F e=>l _ _ (P c o H G F e)
def B7{z i K T h g p n:Addr}{b:Bool}{L:Obj}{t r:Nat}{l j:Array Value}{Q:Fin->Shared->Prop} (I:A.handled=Z) (D:ZipApart z i K h g p n) (u:q8 s.heap z i K T b) (S:s.heap.get? T=Y L) (B:IsPair s.heap i (.ref h) (.ref g))
  (H:s.heap.IsListIter h p t) (N:s.heap.IsListIter g n r) (G:s.heap.IsList p l) (M:s.heap.IsList n j) (f:l[t]?=Z\/j[r]?=Z)
  (k:∀h' e,(∀c o,c≠z->c≠h->c≠g->s.heap.get? c=Y o->h'.get? c=Y o)->(∃o,h'.get? e=Y o/\o.cls=.type "StopIteration")->E (.ref e) { s with heap:=h' }):
  wpAny (model prog w) A (Builtin.«zip.__next__» ⟨[.ref z],[]⟩) Q E s:=by
 show wpAny _ _ (field (.ref z) 2>>=_) _ _ _;refine aa (cA u rfl (x:=.bool false) rfl ?_);show wpAny _ _ (field (.ref z) 3>>=_) _ _ _;refine aa (cA u rfl (x:=.ref i) rfl (aa (dX B rfl ?_)));show wpAny _ _ (Builtin.SmallTypes.ownedTupleIsFree (.ref z)>>=_) _ _ _;refine aa (si u S λh1 P a=>?_);rw[ag aQ];refine aa ?_;rw[<-Array.forIn_toList];simp only[dn,dB];refine aa (aa (aY ?_));show wpAny _ _ (Builtin.SmallTypes.nextOf (.ref h)>>=_) _ _ _;cases v:l[t]? with
 |none=>exact aa (wpAny_nextOf_list_end I (H.extBut a.extBut D.i1z) (G.extBut a.extBut D.l1z) v λJ e d y=>k J e (λc o F C _ q=>d _ _ C (a.extBut _ _ F q)) y)
 |some x=>have R:j[r]?=Z:=f.resolve_left (by rw[v];exact λq=>nomatch q);refine aa (c5 (H.extBut a.extBut D.i1z) (G.extBut a.extBut D.l1z) v λJ O d=>ae (ae ?_));dsimp only;refine aa (aa (aY ?_));show wpAny _ _ (Builtin.SmallTypes.nextOf (.ref g)>>=_) _ _ _;exact aa (wpAny_nextOf_list_end I ((N.extBut a.extBut D.i2z).extBut d.extBut D.i12.symm) ((M.extBut a.extBut D.l2z).extBut d.extBut D.l2i1) R λU e m y=>k U e (λc o F C V q=>m _ _ V (d.extBut _ _ C (a.extBut _ _ F q))) y)
def yt(S:Addr)(h:Heap)(c b a:Array Value):Prop:=∀(j:Nat) v,a[j]?=Y v->∃T x y,v=.ref T/\c[j]?=Y x/\b[j]?=Y y/\IsPair h T x y/\S<T
theorem yu{S z TI TO T E C P O:Addr}{l r:Array Value}(g:Heap)(hh:A.in1.handled=Z)(D:ZipApart z TI TO E C P O)(B:g.get? S=Z/\g.get? z=Z/\g.get? E=Z/\g.get? C=Z)(X:(∃o,g.get? P=Y o)/\∃o,g.get? O=Y o)(hn:min l.size r.size<=sizeLine):
    ∀(m i:Nat) (s:Shared) (acc:Array Value) (c:Nat) (b:Bool),min l.size r.size - i=m->i<=min l.size r.size->acc.size=i->(∃K,s.heap.get? T=Y K/\∃v n,K.cls=.type "tuple"/\K.data=.seq v n)->q8 s.heap z TI TO T b->IsPair s.heap TI (.ref E) (.ref C)->s.heap.IsListIter E P i->s.heap.IsListIter C O i->s.heap.IsList P l->s.heap.IsList O r ->
      s.heap.get? S=Y (zl acc c)->yt S s.heap l r acc->(∀b o,g.get? b=Y o->s.heap.get? b=Y o) ->
      (∀u t c',t.size=min l.size r.size->yt S u l r t->u.get? S=Y (zl t c')->(∀b o,g.get? b=Y o->u.get? b=Y o)->R (.ok (.ret .none)) { s with heap:=u }) ->
      codeAny (model prog w) A (.builtin "list.extend.loop" ⟨[.ref S,.ref z,.none],[]⟩) R s
:=by
  intro m;induction m using Nat.strongRecOn with
  |_ m ih=>
    rintro i s acc c b hm hi ha ⟨K,ht,tv,tn,tc,td⟩ V G j1 j2 m1 m2 hS W Q hR;have tz:s.TypeIs (.ref z) "zip":=⟨_,V,rfl⟩
    refine bq F.entry_extend_loop ?_;rw[a9 bR _];show wpAny _ A.in1 (pyNext (.ref z)>>=_) _ _ s;refine aa ?_;unfold pyNext;have nz:∀a o v n,s.heap.get? a=Y o->o.data=.seq v n->a≠z:=λa o v n f h q=>by subst q;rw[V] at f;cases f;cases h
    have M:∀a o v n,s.heap.get? a=Y o->o.data=.seq v n->a≠E:=λa o v n f h q=>by subst q;obtain⟨o',p,_,e4⟩:=j1;rw[f] at p;cases p;rw[h] at e4;cases e4
    have L:∀a o v n,s.heap.get? a=Y o->o.data=.seq v n->a≠C:=λa o v n f h q=>by subst q;obtain⟨o',p,_,e4⟩:=j2;rw[f] at p;cases p;rw[h] at e4;cases e4
    by_cases K5:i<min l.size r.size
    · obtain⟨x,hx⟩:∃x,l[i]?=Y x:=⟨l[i]'(by omega),by simp⟩
      obtain⟨y,hy⟩:∃y,r[i]?=Y y:=⟨r[i]'(by omega),by simp⟩
      refine aa (wpAny_attempt (br (name:=zZ "__next__") tz dq
        (bx dq tz F.entry_zip_next (B6 D V ht G j1 j2 m1 m2 hx hy λu QT QU QV QP U=>ae ?_) (F.args_zip_next_1 _))))
      have d:∀a o v n,s.heap.get? a=Y o->o.data=.seq v n->u.get? a=Y o:=λa o v n f h=>U a o (nz a o v n f h) (M a o v n f h) (L a o v n f h) f;have RZ:=d _ _ _ _ hS rfl;show wpAny _ A.in1 (updateSeq S (·.push (.ref (zB s)))>>=_) _ _ _;refine aa (b5 RZ rfl ?_ (by rw[ha];omega));have I:=bj (Obj.mapSeq (·.push (Value.ref (zB s)))) RZ rfl;have k:∀a o,a≠S->u.get? a=Y o->(u.update S (Obj.mapSeq (·.push (Value.ref (zB s))))).get? a=Y o:=λa o q e=>(bf _ _ (Ne.symm q)).trans e;refine ae ⟨bN bR _,?_⟩;have H:∀a o,s.heap.get? a=Y o->o.cls≠.type "list"->a≠S:=λa o f h q=>by subst q;rw[hS] at f;cases f;exact h rfl
      have QW:P≠S:=λq=>by obtain⟨o,e⟩:=X.1;rw[q,B.1] at e;cases e
      have QX:O≠S:=λq=>by obtain⟨o,e⟩:=X.2;rw[q,B.1] at e;cases e
      have zS:z≠S:=H z _ V (by intro q;injection q with q;revert q;decide);have TS:T≠S:=H T _ ht (by rw[tc];intro q;injection q with q;revert q;decide);have QY:TI≠S:=H TI _ G (by intro q;injection q with q;revert q;decide);have Tq:E≠S:=by obtain⟨o,f,h,p⟩:=id j1;exact H E o f (by rw[h];intro q;injection q with q;revert q;decide)
      have Tr:C≠S:=by obtain⟨o,f,h,p⟩:=id j2;exact H C o f (by rw[h];intro q;injection q with q;revert q;decide)
      have N:(zB s)≠S:=λq=>by have:=aj hS;rw[<-q] at this;exact aW _ this
      refine ih (min l.size r.size - (i+1)) (by omega) (i+1) _ (acc.push (.ref (zB s))) _ true rfl K5 (by rw[Array.size_push,ha]) ⟨K,k _ _ TS (d _ _ _ _ ht td),tv,tn,tc,td⟩ (k _ _ zS QT) (k _ _ QY (d _ _ _ _ G rfl)) (QU.at λo e=>k _ _ Tq e) (QV.at λo e=>k _ _ Tr e)
        ?_ ?_ I ?_ (λa o e=>?_) λh2 t c' q1 q2 q3 q4=>hR h2 t c' q1 q2 q3 q4
      · obtain⟨o,f,h,n,p⟩:=m1
        exact⟨o,k _ _ QW (d _ _ _ _ f p),h,n,p⟩
      · obtain⟨o,f,h,n,p⟩:=m2
        exact⟨o,k _ _ QX (d _ _ _ _ f p),h,n,p⟩
      · intro j v e
        by_cases hj:j<acc.size
        · have e':acc[j]?=Y v:=by rw[dw] at e;rw[ag (aE hj)] at e;exact e
          obtain⟨T',x',y',r1,r2,r3,r4,r5⟩:=W j v e';exact⟨T',x',y',r1,r2,r3,k _ _ (H _ _ r4 (by intro q;injection q with q;revert q;decide)) (d _ _ _ _ r4 rfl),r5⟩
        · have Ts:j=acc.size:=by
            by_cases q:j=acc.size
            · exact q
            · rw[dw,ag q] at e
              have:acc[j]?=Z:=by simp;omega
              rw[this] at e;cases e
          subst Ts;rw[dw,af rfl] at e;cases e;rw[ha];exact⟨_,x,y,rfl,hx,hy,k _ _ N QP,aj hS⟩
      · have a1:a≠S:=λq=>by rw[q,B.1] at e;cases e
        have a2:a≠z:=λq=>by rw[q,B.2.1] at e;cases e
        have a3:a≠E:=λq=>by rw[q,B.2.2.1] at e;cases e
        have a4:a≠C:=λq=>by rw[q,B.2.2.2] at e;cases e
        exact k a o a1 (U a o a2 a3 a4 (Q a o e))
    · have J:l[i]?=Z\/r[i]?=Z:=by
        by_cases q:l.size<=i
        · exact .inl (by simp;omega)
        · exact .inr (by simp;omega)
      refine aa (wpAny_attempt (br (name:=zZ "__next__") tz dq
        (bx dq tz F.entry_zip_next (B7 hh D V ht G j1 j2 m1 m2 J λu e U he=>?_) (F.args_zip_next_1 _))))
      obtain⟨o,ho,hc⟩:=he;refine aa (wpAny_isInstance (T:="StopIteration") (b:=true) ⟨o,ho,hc⟩ isSubtype_stop (ae ?_));have d:∀a o v n,s.heap.get? a=Y o->o.data=.seq v n->u.get? a=Y o:=λa o v n f h=>U a o (nz a o v n f h) (M a o v n f h) (L a o v n f h) f;show wpAny _ A.in1 (ret Value.none) _ _ _;refine ae (hR u acc c (by omega) (λj v e=>?_) (d _ _ _ _ hS rfl) λa o e=>?_)
      · obtain⟨T',x',y',r1,r2,r3,r4,r5⟩:=W j v e
        exact⟨T',x',y',r1,r2,r3,d _ _ _ _ r4 rfl,r5⟩
      · have a2:a≠z:=λq=>by rw[q,B.2.1] at e;cases e
        have a3:a≠E:=λq=>by rw[q,B.2.2.1] at e;cases e
        have a4:a≠C:=λq=>by rw[q,B.2.2.2] at e;cases e
        exact U a o a2 a3 a4 (Q a o e)
theorem vV{S z J I E B O N:Addr}{g k:Array Value}{a b:Value}{c:Nat} (d:Heap) (hh:A.in1.handled=Z) (D:ZipApart z J I E B O N) (t:d.get? S=Z/\d.get? z=Z/\d.get? E=Z/\d.get? B=Z) (Tt:d.get? I=Z) (G:(∃o,d.get? O=Y o)/\∃o,d.get? N=Y o) (hn:min g.size k.size<=sizeLine)
  (hz:IsZip s.heap z J I .none) (l:IsPair s.heap J (.ref E) (.ref B)) (H:IsPair s.heap I a b) (j1:s.heap.IsListIter E O 0) (j2:s.heap.IsListIter B N 0) (m1:s.heap.IsList O g) (m2:s.heap.IsList N k)
  (U:s.heap.get? S=Y (zl #[] c)) (Tu:∀b o,d.get? b=Y o->s.heap.get? b=Y o)
  (hR:∀h' its c',its.size=min g.size k.size->yt S h' g k its->h'.get? S=Y (zl its c')->(∀b o,d.get? b=Y o->h'.get? b=Y o)->R (.ok (.ret .none)) { s with heap:=h' }):
  codeAny (model prog w) A (.builtin "list.extend.loop" ⟨[.ref S,.ref z,.none],[]⟩) R s:=by
 refine bq F.entry_extend_loop ?_;rw[a9 bR _];show wpAny _ A.in1 (pyNext (.ref z)>>=_) _ _ s;have M:∀a o,s.heap.get? a=Y o->o.cls≠.type "list"->a≠S:=λa o i m q=>by subst q;rw[U] at i;cases i;exact m rfl
 have QW:O≠S:=λq=>by obtain⟨o,e⟩:=G.1;rw[q,t.1] at e;cases e
 have QX:N≠S:=λq=>by obtain⟨o,e⟩:=G.2;rw[q,t.1] at e;cases e
 have X:z≠S:=M z _ hz (by intro q;injection q with q;revert q;decide);have QY:J≠S:=M J _ l (by intro q;injection q with q;revert q;decide);have W:I≠S:=M I _ H (by intro q;injection q with q;revert q;decide);have C:E≠S:=by obtain⟨o,i,m,V⟩:=id j1;exact M E o i (by rw[m];intro q;injection q with q;revert q;decide)
 have u:B≠S:=by obtain⟨o,i,m,V⟩:=id j2;exact M B o i (by rw[m];intro q;injection q with q;revert q;decide)
 have r:∀h':Heap,(∀c o,c≠z->c≠I->c≠E->c≠B->s.heap.get? c=Y o->h'.get? c=Y o)->∀a o,d.get? a=Y o->h'.get? a=Y o:=λh' h a o e=>
  h a o (λq=>by rw[q,t.2.1] at e;cases e) (λq=>by rw[q,Tt] at e;cases e) (λq=>by rw[q,t.2.2.1] at e;cases e) (λq=>by rw[q,t.2.2.2] at e;cases e) (Tu a o e)
 by_cases K5:0<min g.size k.size
 ·obtain⟨x,hx⟩:∃x,g[0]?=Y x:=⟨g[0]'(by omega),by simp⟩
  obtain⟨y,hy⟩:∃y,k[0]?=Y y:=⟨k[0]'(by omega),by simp⟩
  refine aa (wpAny_pyNext_zip_item D hz l H j1 j2 m1 m2 hx hy λh' QT Tv QU QV P sz h=>?_);have Q:h'.get? S=Y (zl #[] c):=h S _ (Ne.symm X) (Ne.symm W) (Ne.symm C) (Ne.symm u) U;show wpAny _ A.in1 (updateSeq S (·.push (.ref (zB s)))>>=_) _ _ _;refine aa (b5 Q rfl ?_);have K:=bj (Obj.mapSeq (·.push (Value.ref (zB s)))) Q rfl;have f:∀a o,a≠S->h'.get? a=Y o->(h'.update S (Obj.mapSeq (·.push (Value.ref (zB s))))).get? a=Y o:=λa o q e=>(bf _ _ (Ne.symm q)).trans e;have p:(zB s)≠S:=λq=>by have:=aj U;rw[<-q] at this;exact aW _ this
  refine ae ⟨bN bR _,yu (T:=(zB s)) d hh D t G hn (min g.size k.size - 1) 1 _ #[.ref (zB s)] _ false rfl K5 rfl ⟨_,f _ _ p P,_,_,rfl,rfl⟩ (f _ _ X QT) (f _ _ QY (h J _ D.TIz D.TITO D.TIi1 D.TIi2 l)) (QU.at λo e=>f _ _ C e) (QV.at λo e=>f _ _ u e) ?_ ?_ K ?_ (λa o e=>?_) λh2 its c' q1 q2 q3 q4=>hR h2 its c' q1 q2 q3 q4⟩
  ·obtain⟨o,i,m,n,V⟩:=m1;exact⟨o,f _ _ QW (h _ _ D.l1z D.l1TO D.l1i1 D.l1i2 i),m,n,V⟩
  ·obtain⟨o,i,m,n,V⟩:=m2;exact⟨o,f _ _ QX (h _ _ D.l2z D.l2TO D.l2i1 D.l2i2 i),m,n,V⟩
  ·intro j v e;cases j with
   |zero=>cases e;exact⟨_,x,y,rfl,hx,hy,f _ _ p P,aj U⟩
   |succ j=>simp at e
  ·exact f a o (λq=>by rw[q,t.1] at e;cases e) (r h' h a o e)
 ·have L:g[0]?=Z\/k[0]?=Z:=by
   by_cases q:g.size<=0
   ·exact .inl (bE (by omega))
   ·exact .inr (bE (by omega))
  refine aa (wpAny_pyNext_zip_end hh D hz l H j1 j2 m1 m2 L λh' h=>?_);show wpAny _ A.in1 (ret Value.none) _ _ _;exact ae (hR h' #[] c (by show 0=_;omega) (λj v e=>by simp at e) (h S _ (Ne.symm X) (Ne.symm W) (Ne.symm C) (Ne.symm u) U) (r h' h))
def yv:typeLookup (.type "zip") "__len__"=pure Z:=by rw[ck,bJ];kernel_rfl
def vW:typeLookup (.type "zip") "__length_hint__"=pure Z:=by rw[ck,bJ];kernel_rfl
def vX{z u k t r p n:Addr}{m l:Array Value}{a b:Value}{Q:Px} (d:Heap) (hh:A.handled=Z) (D:ZipApart z u k t r p n) (V:d.get? z=Z/\d.get? t=Z/\d.get? r=Z) (y:d.get? k=Z) (C:(∃o,d.get? p=Y o)/\∃o,d.get? n=Y o) (hn:min m.size l.size<=sizeLine) (I:d.objs.size<=(zB s))
  (hz:IsZip s.heap z u k .none) (G:IsPair s.heap u (.ref t) (.ref r)) (F:IsPair s.heap k a b) (j1:s.heap.IsListIter t p 0) (j2:s.heap.IsListIter r n 0) (X:s.heap.IsList p m) (W:s.heap.IsList n l) (B:∀b o,d.get? b=Y o->s.heap.get? b=Y o)
  (h:∀h' its c,its.size=min m.size l.size->yt (zB s) h' m l its->h'.get? (zB s)=Y (zl its c)->(∀b o,d.get? b=Y o->h'.get? b=Y o)->Q (.ref (zB s)) { s with heap:=h' }):
  wpAny (model prog w) A (call (.type "list") [.ref z]) Q E s:=by
 have v:z<(zB s):=aj hz;refine nF λH c j K=>?_;have g:IsZip H z u k .none:=K _ _ hz;have x:Shared.TypeIs { s with heap:=H } (.ref z) "zip":=⟨_,g,rfl⟩
 unfold Builtin.List.listExtendWith;refine aa (b6 x ?_);have U:Builtin.List.listSameRef (.ref (zB s)) (.ref z)=false:=by simp[Builtin.List.listSameRef,bX v]
 have T:(Value.type "zip"==Value.type "list")=false:=by decide
 have S:(Value.type "zip"==Value.type "tuple")=false:=by decide
 simp only[U,T,S,dH,cD,dN];refine aa (wpAny_pyIter_zip g (aa (aY ?_)));unfold Builtin.List.listLengthHint;refine aa (cj x yv ?_);dsimp only;rw[ag (by decide),ag (by decide)];refine aa (cj x vW ?_);show wpAny _ _ (pure true) _ _ _;refine ae ?_;rw[af (by decide)];refine aa (dS (aa ?_));show wpAny _ _ (updateSeq (zB s) (·.push .none)>>=λ_=>updateSeq (zB s) (·.pop)) _ _ _;refine aa (b5 j rfl ?_);have i:=bj (Obj.mapSeq (·.push Value.none)) j rfl;refine b5 (hz:=by seq_fits) i rfl ?_;have J:=bj (Obj.mapSeq (·.pop)) i rfl;have f:∀b o,s.heap.get? b=Y o->((H.update (zB s) (Obj.mapSeq (·.push Value.none))).update (zB s) (Obj.mapSeq (·.pop))).get? b=Y o :=
  λb o e=>by
   have L:(zB s)≠b:=λq=>by have:=aj e;rw[<-q] at this;exact aW _ this
   exact(bf _ _ L).trans ((bf _ _ L).trans (K b o e))
 have R:d.get? (zB s)=Z:=by
  cases q:d.get? (zB s) with
  |none=>rfl
  |some o=>have:=aj q;exact absurd (aG this I) (aW _)
 refine ae ⟨bN bR _,vV d (show A.in1.in1.handled=Z from hh) D ⟨R,V⟩ y C hn (f _ _ hz) (f _ _ G) (f _ _ F) (j1.at λo e=>f _ _ e) (j2.at λo e=>f _ _ e) (X.at λo e=>f _ _ e) (W.at λo e=>f _ _ e) J (λb o e=>f b o (B b o e)) λh' its c' P O N M=>⟨rfl,h h' its c' P O N M⟩⟩
end
end PySem
namespace L2
open PySem PySem.Spec PyProof.Rows PySem.Builtin PySem.Builtin.Str
section
variable {s:Shared}{h':Heap}
def eE.JM{t':Nat}{i1 i2:Addr}(I:eE X pins σ H s)(k:∀b o,b≠i1->b≠i2->s.heap.get? b=Y o->h'.get? b=Y o)(A:mW X pins H i1)(y:mW X pins H i2):eE X pins σ H { s with heap:=h',toks:=t' }:=by
 obtain⟨w,h,_,j,E,p⟩:=A;obtain⟨t,g,_,i,D,l⟩:=y;have d:∀b u,H b=Y u->b≠i1/\b≠i2:=λb u e=>⟨(λz=>by rw[z,w] at e;cases e),(λz=>by rw[z,t] at e;cases e)⟩
 have a:∀b,b∉[i1,i2]->b≠i1/\b≠i2:=λb f=>⟨λz=>f (by simp[z]),λz=>f (by simp[z])⟩
 refine I.step (g':=s.gens) (d':=s.drawn) (ch:=[i1,i2]) ?_ (λb o _ _ hc e _=>k b o (a b hc).1 (a b hc).2 e) (λb o _ _ hc e _=>⟨o.slots,k b o (a b hc).1 (a b hc).2 e⟩) (λ_ _ _ _ n=>n)
  (λb o hc e=>⟨o,k b o (a b hc).1 (a b hc).2 e⟩) (λ_ _ e=>e) (λ_ _ _ e=>e) (λb ps e=>⟨#[],by rw[e];simp⟩) ?_ ?_ I.bare
 ·intro b f;rcases ak.mp f with e|f
  ·subst e;exact⟨j,h,E,p⟩
  ·have e:b=i2:=by simpa using f
   subst e;exact⟨i,g,D,l⟩
 ·rintro m ⟨o,B,C,x,r⟩;exact⟨o,B,C,k _ o (Ne.symm h) (Ne.symm g) x,r⟩
 ·intro b u e;refine(I.gr b u e).qN (λc v hc q=>?_) (λ_ q=>q) λ_ _ q=>q;rcases hc with z|z
  ·rw[z] at q ⊢;exact k _ _ (d b u e).1 (d b u e).2 q
  ·exact k _ _ (d c _ z).1 (d c _ z).2 q
end
def QZ(K:Fg)(l:Addr):It where
 go:=λi H=>∃a x,jS K H l a/\a[i]?=Y x
 Iy:=λi H y c=>∃T x,y=.ref T/\H T=Z/\(∀b,jS K H l b->b[i]?=Y x)/\c=upd H T (.tup [.int (i:Nat),x])
 stop:=λi H=>∃a,jS K H l a/\a.length<=i
def Ex{P:Program}{J:Lx}{kt:Nat}{tp:Pos}(l r j:Addr)(D:r≠j):zu P w K (.Tuple J kt tp) (QZ K l) [r,j] r (λi h=>(∃g,IsEnum h r j (i:Nat) g)/\h.IsListIter j l i) where
 mem:=by simp
 obj:=λi h m b f=>by
  obtain⟨⟨g,n⟩,A⟩:=m;rcases ak.mp f with e|f
  ·subst e;exact⟨_,n,λv z=>by cases z⟩
  ·have e:b=j:=by simpa using f
   subst e;obtain⟨o,e,c,d⟩:=A;exact⟨o,e,λv z=>by rw[d] at z;cases z⟩
 keep:=λi h h' m k=>⟨by obtain⟨g,n⟩:=m.1;exact⟨g,k r (by simp) _ n⟩,m.2.at λo e=>k j (by simp) o e⟩
 item:=by
  intro X V hw W hc i t s σ H E I S m R;subst V hw W;obtain⟨⟨g,n⟩,A⟩:=m;obtain⟨xs,x,L,O⟩:=R;obtain⟨N,M,p,hz⟩:=I.list L;obtain⟨u,hu,ru⟩:=M.get O;refine wpAny_pyNext_enum_item n A p.isList (x:=u) (by simpa using hu) D λh1 T Q C hsz kp=>⟨_,rfl,?_⟩
  refine wpAny_letOwnedTupleGo_enum T λh2 U sb=>?_;have G:r<(zB s):=aj n;have B:j<(zB s):=by obtain⟨o,e,_⟩:=A;exact aj e
  have I1:=I.laid (a:=(zB s)) (o:=.tup [.int (i:Nat),x]) (t':=s.toks+1) (h':=s.heap.push { cls:=.type "tuple",data:=.seq #[.int i s.toks,u] }) (λ_ _ q=>ah _ q) (ax _) ⟨by show 2<=sizeLine;decide,[.int i s.toks,u],.cons ⟨_,rfl⟩ (.cons ru .nil),_,ar _ rfl,rfl,0,rfl⟩;have y:∀b∈[r,j],mW X t (upd H (zB s) (.tup [.int (i:Nat),x])) b:=λb f=>by
   obtain⟨g1,g2⟩:=S b f;refine⟨?_,g2⟩;have:b≠(zB s):=by
    rcases ak.mp f with e|f
    ·rw[e];exact aE G
    ·rw[show b=j by simpa using f];exact aE B
   rw[en this];exact g1
  have I2:=I1.JM (h':=h2) (t':=s.toks+1) (i1:=r) (i2:=j) (λb o b1 b2 e=>(sb.2 b b1).trans (by
   by_cases f:b=(zB s)
   ·subst f;have e':Y o=Y { cls:=.type "tuple",data:=.seq #[.int i s.toks,u] }:=e.symm.trans (ar _ rfl);cases e';exact C
   ·have F:=aj e;rw[cW] at F;have Tw:b<(zB s):=Nat.lt_of_le_of_ne (Nat.le_of_lt_succ F) f;have q:s.heap.get? b=Y o:=(Heap.get?_push_ne _ _ _ f).symm.trans e;exact kp b o b1 b2 q)) (y r (by simp)) (y j (by simp))
  exact⟨.ref (zB s),_,I2,rfl,⟨_,x,rfl,I.fresh,λys hy=>by rw[I.ub hy L];exact O,rfl⟩,⟨⟨u,U⟩,Q.at λo e=>(sb.2 _ (Ne.symm D)).trans e⟩,λb f=>(y b f).1⟩
 done:=by intro X V hw W hc i t s σ H E I S m R;subst V hw W;obtain⟨⟨g,n⟩,A⟩:=m;obtain⟨xs,L,O⟩:=R;obtain⟨N,M,p,hz⟩:=I.list L;obtain⟨f0,f1,f2,f3,f4,f5⟩:=S j (by simp);have hl:=M.length;exact wpAny_pyNext_enum_end (I.ok.hd hc) n A p.isList (by simp;omega) λh' eb=>⟨rfl,I.turned (t':=s.toks) (λb o f e=>eb b o f e) f0 f1 f3 f4 f5⟩
 self:=λ_ _ _ _ _ m h=>by obtain⟨g,n⟩:=m.1;exact wpAny_pyIter_enum n h
section
variable {a:Expr}{es:Lx}{fb fc:d9->Od}{p2:Pos}
def OF(K:Fg)(c:TE):TI:=λσ H R=>c σ H λv a=>∃l b,v=.ref l/\jS K a l b/\R (QZ K l) a
def Dw{g:Lx}{u:Nat}{o:Pos}{m:TE}(C:Gl X "enumerate")(B:X.mg "enumerate"=Z)(D:PE X e m)(n:starEach [e] X.env=[(false,eval e X.env)]:=by rfl):PI X (.Tuple g u o) (.Call (.Name "enumerate" p) [e] [] pos) (OF X.K m):=by
 intro a s σ H R I h;refine aR (jk I C B (by rfl) ?_);refine aU ?_ (by rw[n];rfl) (by rfl);rw[n];refine aT (gd (@D a s σ H _ I h) ?_);rintro v c ⟨x,k,i,r,l,L,G,A,q⟩;refine aZ ?_;subst G;cases r;obtain⟨y,N,t,O⟩:=i.list A;refine call_enumerate_list t.isList λE f j M w=>?_;refine wpAny_pyIter_enum f ?_;have J:eE X a σ k { c with heap:=E }:=i.kept (t':=c.toks) w;have F:∀b,(zB c)<=b->mW X a k b:=λb d=>i.zt d (i.gr.fresh d);exact⟨_,[(zB c)+1,(zB c)],_,_,k,rfl,J,Ex l _ _ (bX (cH _)),⟨⟨_,f⟩,j⟩,λb d=>F b (by
  rcases ak.mp d with z|d
  ·rw[z];exact cR _
  ·rw[show b=(zB c) by simpa using d];exact ax _),q⟩
noncomputable def uQ(a:Lp):Lp:=a.zipIdx.map λx=>.tuple [.int x.2,x.1]
noncomputable def Dx(f:d9->Od):d9->Option Lp:=λρ=>(f ρ).bind λd=>match d with | .list ds=>Y (uQ ds)|_=>Z
def Ey{d:d8}(h:(uQ ds)[i]?=Y d):∃x,ds[i]?=Y x/\d=.tuple [.int (i:Nat),x]:=by
 unfold uQ at h;rw[aB,List.getElem?_zipIdx] at h;cases q:ds[i]? with
 |none=>rw[q] at h;cases h
 |some x=>rw[q] at h;simp at h;exact⟨x,rfl,h.symm⟩
def sj{c:Hp}{l:Addr}(b:jS K c l vs)(j:dv K c ds vs):ke K (QZ K l) (uQ ds) c:=λu a=>by
 have p:(uQ ds).length=ds.length:=by simp[uQ]
 refine⟨⟨vs,a.seq b,by rw[p,j.length];exact ax _⟩,λi d q=>?_⟩;obtain⟨x,r,rfl⟩:=Ey q;obtain⟨v,h,s⟩:=j.get r;refine⟨⟨vs,v,a.seq b,h⟩,?_⟩;rintro y t ⟨T,z,o,f,n,m⟩;have e:=n vs (a.seq b);rw[h] at e;cases e;subst o m;refine⟨jn f,λw k g=>et.i8.mpr ⟨T,_,rfl,mV.of (by rw[g T f];exact eI),dv.cons (et.eG.mpr rfl) (dv.cons (s.same k) dv.nil)⟩⟩
end
end L2
namespace L2
open PySem PySem.Spec PyProof.Rows PySem.Builtin PySem.Builtin.Str
def Q0(x:Str):It where
 go:=λi _=>i<x.cps.size
 Iy:=λi H y a=>a=H/\∃c,x.cps[i]?=Y c/\y=.str ⟨#[c]⟩
 stop:=λi _=>x.cps.size<=i
def Ah{P:Program}{D:String}(p:D="str_ascii_iterator"\/D="str_iterator")(x:Str)(t:Tok)(m:Addr):zu P w K tg (Q0 x) [m] m (λi h=>h.IsStrIter m D x t i) where
 mem:=by simp
 obj:=λi h f b a=>by
  have e:b=m:=by simpa using a
  subst e;obtain⟨o,e,c,d⟩:=f;exact⟨o,e,λv z=>by rw[d] at z;cases z⟩
 keep:=λi h l f k=>by obtain⟨o,e,r⟩:=f;exact⟨o,k m (by simp) o e,r⟩
 item:=by
  intro X J hw L G i j s σ H E I q f hg;subst J hw L;obtain⟨C,B,O,A,y,u⟩:=q m (by simp);have n:x.cps[i]?=Y (x.cps[i]'hg):=Array.getElem?_eq_getElem hg;rcases p with rfl|rfl
  ·refine wpAny_pyNext_ascii_item f n λl g F=>?_;have N:eE X j σ H { s with heap:=l,toks:=s.toks+1 }:=I.turned (t':=s.toks+1) (λb o a e=>(F.2 b a).trans e) C B A y u;obtain⟨o,e,c,d⟩:=id g;exact⟨_,rfl,ue (s:={ s with heap:=l,toks:=s.toks+1 }) e c d (by decide) ⟨.str _,H,N,⟨_,rfl⟩,⟨rfl,_,n,rfl⟩,g,λb a=>(q b a).1⟩⟩
  ·refine wpAny_pyNext_wide_item f n λl g F=>?_;have N:eE X j σ H { s with heap:=l,toks:=s.toks+1 }:=I.turned (t':=s.toks+1) (λb o a e=>(F.2 b a).trans e) C B A y u;obtain⟨o,e,c,d⟩:=id g;exact⟨_,rfl,ue (s:={ s with heap:=l,toks:=s.toks+1 }) e c d (by decide) ⟨.str _,H,N,⟨_,rfl⟩,⟨rfl,_,n,rfl⟩,g,λb a=>(q b a).1⟩⟩
 done:=by
  intro X J hw L G i j s σ H E I q f hg;subst J hw L;obtain⟨C,B,O,A,y,u⟩:=q m (by simp);have n:x.cps[i]?=Z:=bE hg;rcases p with rfl|rfl
  ·exact wpAny_pyNext_ascii_end (I.ok.hd G) f n λl M=>⟨rfl,I.turned (t':=s.toks) (λb o a e=>M b o a e) C B A y u⟩
  ·exact wpAny_pyNext_wide_end (I.ok.hd G) f n λl M=>⟨rfl,I.turned (t':=s.toks) (λb o a e=>M b o a e) C B A y u⟩
 self:=λ_ _ _ _ _ f h=>by
  rcases p with rfl|rfl
  ·exact wpAny_pyIter_striter_ascii f h
  ·exact wpAny_pyIter_striter_wide f h
section
variable {a:Expr}{es:Lx}{fb fc:d9->Od}{p2:Pos}
def MG{g:TE}(l:PE X e g):PI X tg e (λσ H R=>g σ H λv d=>∃x,v=.str x/\R (Q0 x) d):=by
 intro a s σ H R I h;refine gd (@l a s σ H _ I h) ?_;rintro v c ⟨y,d,f,k,x,n,q⟩;subst n;obtain⟨t,rfl⟩:=k;have j:∀b∈[(zB c)],mW X a d b:=λb m=>by rw[show b=(zB c) by simpa using m];exact f.zt (ax _) (f.gr.fresh (ax _))
 cases i:x.cps.all (·<128)
 ·exact wpAny_pyIter_wide i ⟨_,[(zB c)],_,_,d,rfl,f.kept (t':=c.toks) λb o e=>ah _ e,Ah (.inr rfl) x t _,⟨_,ar _ rfl,rfl,rfl⟩,j,q⟩
 ·exact wpAny_pyIter_ascii i ⟨_,[(zB c)],_,_,d,rfl,f.kept (t':=c.toks) λb o e=>ah _ e,Ah (.inl rfl) x t _,⟨_,ar _ rfl,rfl,rfl⟩,j,q⟩
def q9(x:Str):Lp:=x.cps.toList.map λc=>.str ⟨#[c]⟩
noncomputable def iC(f:d9->Od):d9->Option Lp:=λρ=>(f ρ).bind λd=>match d with | .list ds=>Y ds | .tuple ds=>Y ds | .str x=>Y (q9 x)|_=>Z
def B8(x:Str)(G:Hp):ke K (Q0 x) (q9 x) G:=λk h=>by
 have f:(q9 x).length=x.cps.size:=by simp[q9]
 refine⟨by show x.cps.size<=_;rw[f];exact ax _,λi d q=>?_⟩;have g:i<x.cps.size:=by have:=(av.mp q).1;omega
 refine⟨g,?_⟩;rintro y j ⟨e,c,b,a⟩;subst e a;have:d=.str ⟨#[c]⟩:=by unfold q9 at q;rw[aB,Array.getElem?_toList,b] at q;cases q;rfl
 subst this;exact⟨.refl _,λl _ _=>et.eU.mpr rfl⟩
def ib(h:PD X e f):Jy X tg e (iC f) :=
 PI.imp (PI.or (Jz h) (MG h)) <| by
  rintro σ H R ⟨ρ,g,b,e,k⟩;obtain⟨d,c,a⟩:=bind_some e;cases d with
  |list j=>exact .inl ⟨ρ,g,b,by show (f ρ).bind _=_;rw[c];exact a,k⟩
  |tuple j=>exact .inl ⟨ρ,g,b,by show (f ρ).bind _=_;rw[c];exact a,k⟩
  |str x=>cases a;exact .inr ⟨ρ,_,b,c,λv i l m=>⟨x,et.eU.mp m,k _ i l (B8 x i)⟩⟩
  |_=>cases a
def uR{a:Lx}{o:Nat}{m:Pos}(s:Gl X "enumerate")(r:X.mg "enumerate"=Z)(h:PD X e f)(b:starEach [e] X.env=[(false,eval e X.env)]:=by rfl):Jy X (.Tuple a o m) (.Call (.Name "enumerate" p) [e] [] pos) (Dx f) :=
 PI.imp (Dw s r h b) <| by
  rintro σ H R ⟨ρ,x,b,e,k⟩;obtain⟨d,u,i⟩:=bind_some e;obtain⟨c,rfl⟩:∃c,d=.list c:=by cases d<;>first|exact⟨_,rfl⟩|cases i
  cases i;refine⟨ρ,_,b,u,λv w n q=>?_⟩;obtain⟨l,j,rfl,g,t⟩:=et.eK.mp q;exact⟨l,j,rfl,g,k _ w n (sj g t)⟩
noncomputable def hV:Lp->Od
 |[.dict fX]=>if eT fX=true then Z else Y (.list (fX.map (·.1)))
 |ds=>Di ds
def xk{P:Program}{k:Key}{v:Value}(h:(fj P w).is k v=true):eV (kV k) v:=by
 rcases gp h with ⟨i,t,rfl,rfl⟩ | ⟨x,t,rfl,rfl⟩
 ·exact⟨t,rfl⟩
 ·exact⟨t,rfl⟩
theorem lQ{K:Fg}{H H':Hp}:∀{a:List (d8×d8)}{b:List (Key×V)},fq K H a b->dv K H' (a.map (·.1)) (b.map λx=>kV x.1)
 |[],_,h=>by rw[fq.eC.mp h];exact dv.nil
 | (k,d)::r,_,h=>by
  obtain⟨y,v,c,rfl,rfl,i,t⟩:=fq.eh.mp h;refine dv.cons ?_ (lQ t);cases y with
  |inl i=>exact et.eG.mpr rfl
  |inr x=>exact et.eU.mpr rfl
theorem rf{P:Program}{w:World}:∀{d:List (Key×V)}{c:List (Key×Value)}{its:Lw},KV d c->its.length=c.length->(∀(j:Nat) v,its[j]?=Y v->∃k x,c[j]?=Y (k,x)/\(fj P w).is k v=true)->eQ (d.map λx=>kV x.1) its
 |_,_,its,.nil,hl,_=>by
  cases its with
  |nil=>exact .nil
  |cons _ _=>simp at hl
 |_,_,its,.cons (a:=p) (b:=q) h t,hl,hi=>by
  cases its with
  |nil=>simp at hl
  |cons u l=>
   obtain⟨k,x,i,g⟩:=hi 0 u rfl;have f:q=(k,x):=by simpa using i
   refine .cons ?_ (rf t (by simpa using hl) λj v e=>hi (j+1) v (by simpa using e));show eV (kV p.1) u;rw[h.1,f];exact xk g
def GA(F:X.calm=true):gX X (.type "list") (λxs H Q=>∃l c,dv X.K H l xs/\hV l=Y c/\KO X.K H c Q):=by
 have E:gX X (.type "list") (λxs H Q=>∃b d p,xs=[V.ref p]/\Rd H p (.dK d)/\fq X.K H b d/\KO X.K H (.list (b.map (·.1))) Q):=by intro n s σ H xs T Q I r h;obtain⟨b,d,p,rfl,C,A,k⟩:=h;obtain⟨u,rfl,t⟩:=oR r;cases t;obtain⟨z,G,S,f,N⟩:=nq I.gr C;refine uP (knd:=fj X.prog X.w) (I.ok.hd F) G N (by rw[<-f.length];exact z) λU q its O D g m y=>?_;have B:=rf (P:=X.prog) (w:=X.w) (its:=its.toList) f (by simpa using D) (λj v e=>g j v (by simpa using e));have R:=I.laid (a:=(zB s)) (o:=.lst (d.map λx=>kV x.1)) (t':=q) y (ax _) ⟨by rw[ay];exact z,its.toList,O,B,by simpa using m⟩;exact⟨.ref (zB s),_,R,rfl,k.qU (lQ A) _ I.fresh⟩
 refine gX.imp (gX.or JA E) ?_;rintro xs H Q ⟨l,c,i,e,k⟩;unfold hV at e;split at e
 ·rename_i b;by_cases g:eT b=true
  ·rw[af g] at e;cases e
  ·rw[ag g] at e;cases e;obtain⟨v,rfl,J⟩:=gg i;obtain⟨p,d,rfl,M,L⟩:=J.kZ (by simpa using g);exact .inr ⟨b,d,p,rfl,M,L,k⟩
 ·exact .inl ⟨l,c,i,e,k⟩
def jV(l:X.calm=true)(i:Gl X "list")(h:X.mg "list"=Z)(m:vS X (e::es) ff)(j:zE e es X:=by rfl)(a:(backTo pos (starEach es X.env)).any (·.1)=false:=by rfl):
  PF X (.Call (.Name "list" p) (e::es) [] pos) (gH hV ff) :=
 PE.imp (wU (GA l) i h (by rfl) m (by decide) (by decide) j a) <| by rintro σ H Q ⟨ρ,d,g,e,k⟩;obtain⟨b,o,n⟩:=bind_some e;exact⟨ρ,b,g,o,λq r c f=>⟨b,d,f,n,k.later c⟩⟩
noncomputable def OG(b a:Lp):Lp:=(b.zip a).map λp=>.tuple [p.1,p.2]
noncomputable def OH(x y:d8):Od:=match x,y with
 |.list xs,.list ys=>Y (.list (OG xs ys))
 |_,_=>Z
def eE.Ld{s:Shared}{a:Addr}{u:HO}(I:eE X pins σ H s)(f:mW X pins H a)(h:gC X.prog X.w (upd H a u) s.heap a u):eE X pins σ (upd H a u) s:=by
 obtain⟨k,l,_,i,p,j⟩:=f;have d:∀b v,H b=Y v->upd H a u b=Y v:=λb v e=>by rw[en (fv e k)];exact e
 have:=I.step (g':=s.gens) (d':=s.drawn) (t':=s.toks) (h':=s.heap) (H':=upd H a u) (ch:=[a]) (λb g=>by rw[show b=a by simpa using g];exact⟨i,l,p,j⟩) (λb o _ _ _ e _=>e) (λb o _ _ _ e _=>⟨o.slots,e⟩) (λb o hc _ n=>by rw[en (λz=>hc (by simp[z]))];exact n)
  (λb o _ e=>⟨o,e⟩) (λb xs e=>d b _ e) (λb o v e=>d b _ e) (λb ps e=>⟨#[],by rw[d b _ e];simp⟩) (λm hm=>hm) ?_ I.bare
 ·exact this
 ·intro b v e;by_cases g:b=a
  ·subst g;rw[eI] at e;cases e;exact h
  ·rw[en g] at e;exact(I.gr b v e).qN (λ_ _ _ q=>q) (λc q=>d c _ q) λc xs q=>d c _ q
def eV.uniq{x y:V}{u:Value}(a:eV x u)(b:eV y u):x=y:=by have c:=a.abs;rw[b.abs] at c;exact(bo c).symm
theorem Dy{b:Ax}{σ:St}:∀(m:List (V×V)) (us:Lw) {H:Hp}{s:Shared},eE X b σ H s->us.length=m.length ->
  (∀(j:Nat) (v:Value) (p:V×V),us[j]?=Y v->m[j]?=Y p->∃T x y,v=.ref T/\IsPair s.heap T x y/\eV p.1 x/\eV p.2 y/\(mW X b H T\/∃d c l k,IsPair s.heap T d c/\eV l d/\eV k c/\H T=Y (.tup [l,k]))) ->
  ∃A z,ez H A/\eE X b σ A s/\eQ z us/\(∀a,H a=Z->A a=Z\/.ref a∈us)/\∀(j:Nat) (p:V×V),m[j]?=Y p->∃T,z[j]?=Y (.ref T)/\A T=Y (.tup [p.1,p.2])
 |[],us,H,s,I,hl,_=>by
  cases us with
  |nil=>exact⟨H,[],.refl H,I,.nil,(λa h=>.inl h),λj p e=>by simp at e⟩
  |cons _ _=>simp at hl
 |p::m,us,H,s,I,hl,hi=>by
  cases us with
  |nil=>simp at hl
  |cons v us=>
   obtain⟨T,x,y,rfl,E,C,B,M⟩:=hi 0 v p rfl rfl;have first:∃i,ez H i/\eE X b σ i s/\i T=Y (.tup [p.1,p.2])/\∀a,a≠T->i a=H a:=by
    rcases M with f | ⟨d,c,l,k,D,U,S,hT⟩
    ·refine⟨upd H T (.tup [p.1,p.2]),jn f.1,I.Ld f ⟨by show 2<=sizeLine;decide,[x,y],.cons C (.cons B .nil),_,E,rfl,0,rfl⟩,eI,λa F=>en F⟩
    ·have e:(#[d,c]:Array Value)=#[x,y]:=by
      have W:s.heap.get? T=Y { cls:=.type "tuple",data:=.seq #[d,c] }:=D;have g:s.heap.get? T=Y { cls:=.type "tuple",data:=.seq #[x,y] }:=E;rw[W] at g;injection g with g
      injection g with _ _ g _;injection g
     have e':[d,c]=[x,y]:=by simpa using bg Array.toList e
     injection e' with G t;injection t with t _;subst G t;rw[U.uniq C,S.uniq B] at hT;exact⟨H,.refl H,I,hT,λa _=>rfl⟩
   obtain⟨i,O,I1,hT,n⟩:=first
   obtain⟨H2,z,N,I2,R,fr,L⟩:=Dy m us (H:=i) I1 (by simpa using hl) λj v q G t=>by
    obtain⟨w,d,c,a1,a2,a3,a4,u⟩:=hi (j+1) v q (by simpa using G) (by simpa using t);refine⟨w,d,c,a1,a2,a3,a4,?_⟩;by_cases r:w=T
    ·subst r;exact .inr ⟨x,y,p.1,p.2,E,C,B,hT⟩
    ·rcases u with f | ⟨Q,P,l,k,K,J,b3,b4⟩
     ·exact .inl ⟨by rw[n w r];exact f.1,f.2⟩
     ·exact .inr ⟨Q,P,l,k,K,J,b3,O _ _ b4⟩
   refine⟨H2,.ref T::z,O.trans N,I2,.cons rfl R,λa F=>?_,λj q e=>?_⟩
   ·by_cases o:a=T
    ·exact .inr (by simp[o])
    ·rcases fr a (by rw[n a o];exact F) with h|h
     ·exact .inl h
     ·exact .inr (au _ h)
   ·cases j with
    |zero=>simp at e;subst e;exact⟨T,rfl,N _ _ hT⟩
    |succ j=>obtain⟨w,K,J⟩:=L j q (by simpa using e);exact⟨w,by simpa using K,J⟩
theorem B9{m pz:Pos} (hc:X.calm=true) (Tx:Gl X "list") (Tz:X.mg "list"=Z) (TB:Gl X "zip") (TC:X.mg "zip"=Z) (ha:PD X a fa) (hb:PD X b fb)
  (s1:starEach [.Call (.Name "zip" pz) [a,b] [] m] X.env=[(false,eval (.Call (.Name "zip" pz) [a,b] [] m) X.env)]:=by rfl) (s2:starEach [a,b] X.env=[(false,eval a X.env),(false,eval b X.env)]:=by rfl) (s3:starEach [b] X.env=[(false,eval b X.env)]:=by rfl):
  PF X (.Call (.Name "list" p) [.Call (.Name "zip" pz) [a,b] [] m] [] pos) (d2 OH fa fb):=by
 intro c s σ H Q I ⟨ρ,d,hs,e,k⟩;obtain⟨x,e1,q1⟩:=bind_some e;obtain⟨y,e2,q2⟩:=bind_some q1;obtain⟨xs,rfl⟩:∃xs,x=.list xs:=by cases x<;>first|exact⟨_,rfl⟩|(cases y<;>cases q2)
 obtain⟨ys,rfl⟩:∃ys,y=.list ys:=by cases y<;>first|exact⟨_,rfl⟩|cases q2
 cases q2;refine aR (jk I Tx Tz (by rfl) ?_);refine aU ?_ (by rw[s1];rfl) (by rfl);rw[s1];refine aT ?_;refine aR (jk I TB TC (by rfl) ?_);refine aU ?_ (by rw[s2,s3]) (by rw[s3];rfl);rw[s2];refine aT (gd (@ha c s σ H (λv H1=>ez H H1/\et X.K H1 (.list xs) v) I ⟨ρ,_,hs,e1,λv H1 sH i=>⟨sH,i⟩⟩) ?_);rintro u1 t1 ⟨v1,H1,I1,r1,Q2,i1⟩;refine aT (gd (@hb c t1 σ H1 (λv J=>ez H1 J/\et X.K J (.list ys) v) I1 ⟨ρ,_,hs.same Q2,e2,λv J sH i=>⟨sH,i⟩⟩) ?_);rintro u2 l ⟨v2,J,W,r2,R0,i2⟩;refine aZ ?_;obtain⟨l1,M,rfl,TF,Mw⟩:=et.eK.mp (i1.same R0);obtain⟨l2,L,rfl,TH,TJ⟩:=et.eK.mp i2;cases r1;cases r2;obtain⟨G,S,B,z1⟩:=W.list TF;obtain⟨F,R1,A,z2⟩:=W.list TH;have b1:l1<(zB l):=by obtain⟨o,n,e,_⟩:=B;exact aj e
 have b2:l2<(zB l):=by obtain⟨o,n,e,_⟩:=A;exact aj e
 have fr:∀j,(zB l)<=j->l.heap.get? j=Z:=λj hj=>by
  cases q:l.heap.get? j with
  |none=>rfl
  |some o=>exact absurd (aG (aj q) hj) (aW _)
 have hn:min G.toArray.size F.toArray.size<=sizeLine:=by rw[ao,ao,<-S.length];omega
 refine call_zip_2 B.isList A.isList λh' hz TK TL j1 j2 sz kp=>aZ ?_;refine vX l.heap (W.ok.hd hc) (zipApart_new b1 b2) ⟨fr _ (b9 _ _),fr _ (ax _),fr _ (b9 _ _)⟩ (fr _ (b9 _ _)) ⟨by obtain⟨o,_,e,_⟩:=B;exact⟨o,e⟩,by obtain⟨o,_,e,_⟩:=A;exact⟨o,e⟩⟩ hn (by show _<=h'.objs.size;rw[sz];exact b9 _ _) hz TK TL j1 j2 (Heap.IsList.at B.isList λo e=>kp _ _ e) (Heap.IsList.at A.isList λo e=>kp _ _ e) kp λh2 U cc z D C TM=>?_;have I3:eE X c σ J { l with heap:=h2 }:=W.kept (t':=l.toks) TM;have E:U.toList.length=(M.zip L).length:=by rw[List.length_zip,S.length,R1.length,a8,z,ao,ao]
 have h:∀b,(zB l)<=b->mW X c J b:=λb hb=>W.zt hb (W.gr.fresh hb);obtain⟨H3,rs,P,I4,R,Bp,TN⟩:=Dy (M.zip L) U.toList I3 E λj v q g1 g2=>by
  obtain⟨T,x,y,O,TQ,TR,TU,N⟩:=D j v (by simpa using g1);obtain⟨w1,w2⟩:=q;obtain⟨g3,g4⟩:=List.getElem?_zip_eq_some.mp g2;obtain⟨x',gx,rx⟩:=S.get g3;obtain⟨y',gy,ry⟩:=R1.get g4;have ex:x'=x:=by have:G.toArray[j]?=Y x:=TQ;rw[List.getElem?_toArray,gx] at this;cases this;rfl
  have ey:y'=y:=by have:F.toArray[j]?=Y y:=TR;rw[List.getElem?_toArray,gy] at this;cases this;rfl
  subst ex ey;exact⟨T,x',y',O,TU,rx,ry,.inl (h T (by have:h'.objs.size<T:=N;rw[sz] at this;exact bc (b9 _ _) (cB this)))⟩
 have w:H3 h'.objs.size=Z:=by
  rcases Bp h'.objs.size (W.gr.fresh (by rw[sz];exact b9 _ _)) with g|g
  ·exact g
  ·obtain⟨j,gj⟩:=List.mem_iff_getElem?.mp g;obtain⟨T,x,y,O,_,_,_,N⟩:=D j _ (by simpa using gj);cases O;exact absurd N (aW _)
 have fS:mW X c H3 h'.objs.size:=⟨w,(h _ (by rw[sz];exact b9 _ _)).2⟩
 have rl:rs.length<=sizeLine:=by rw[R.length,a8,z];exact hn
 have I5:=I4.Ld fS (u:=.lst rs) ⟨rl,U.toList,cc,R,by simpa using C⟩;refine⟨.ref h'.objs.size,_,I5,rfl,?_⟩;refine(k.later (Q2.trans (R0.trans P))).qU ?_ _ w;have go:∀(t f:Lp) (a1 a2:List V) (rr:List V),dv X.K J t a1->dv X.K J f a2->rr.length=(a1.zip a2).length->(∀(j:Nat) (q:V×V),(a1.zip a2)[j]?=Y q->∃T,rr[j]?=Y (.ref T)/\H3 T=Y (.tup [q.1,q.2]))->dv X.K H3 (OG t f) rr:=by
  intro t;induction t with
  |nil=>
   intro f a1 a2 rr h1 h2 z _;rw[dv.eC.mp h1] at z;have:rr=[]:=by simpa using z
   subst this;exact dv.nil
  |cons d1 t ih=>
   intro f a1 a2 rr h1 h2 z C;obtain⟨w1,TV,rfl,g1,g2⟩:=dv.eh.mp h1;cases f with
   |nil=>
    rw[dv.eC.mp h2] at z;have:rr=[]:=by simpa using z
    subst this;exact dv.nil
   |cons d2 f=>
    obtain⟨w2,TX,rfl,g3,g4⟩:=dv.eh.mp h2;cases rr with
    |nil=>simp at z
    |cons r rr=>
     obtain⟨T,t1,l⟩:=C 0 (w1,w2) rfl;have er:r=.ref T:=by simpa using t1
     subst er;refine dv.cons (et.i8.mpr ⟨T,_,rfl,mV.of l,dv.cons (g1.same P) (dv.cons (g3.same P) dv.nil)⟩) (ih f TV TX rr g2 g4 (by simpa using z) λj q e=>?_);obtain⟨T',u1,u2⟩:=C (j+1) q (by simpa using e);exact⟨T',by simpa using u1,u2⟩
 exact go xs ys M L rs Mw TJ (by rw[R.length];exact E) TN
end
end L2
namespace PySem
open Builtin
def lR:entryFor table "set.update.loop"=Y Builtin.«set.update.loop»:=entryFor_of_tree (zK 0)
def jL:plainId "set.update.loop"=true:=by decide +kernel
section
variable {K:Type} [DecidableEq K] {knd:KeyKind prog w K}{s:Shared}
def sN(a:List K)(k:K):List K:=if k∈a then a else a++[k]
def lS(a b:List K):List K:=b.foldl sN a
def Ai(a:List K)(k:K):(sN a k).length<=a.length+1:=by unfold sN;split<;>simp
inductive rg (knd:KeyKind prog w K):Lw->List K->Prop
 |nil:rg knd [] []
 |cons {v:Value}{k:K}{vs:Lw}{ks:List K}:knd.is k v=true->v.scannable=true->rg knd vs ks->rg knd (v::vs) (k::ks)
theorem uS{D I l:Addr}{a:Array Value}{R:Result->Shared->Prop}(hh:A.in1.handled=Z)(d:D≠I)(c:Heap)(G:c.get? D=Z)(u:c.get? I=Z):
  ∀(B:Lw) (ks:List K) (i:Nat) (s:Shared) (acc:List K),a.toList.drop i=B->rg knd B ks->(∀b o,c.get? b=Y o->s.heap.get? b=Y o)->s.heap.IsListIter I l i->s.heap.IsList l a->s.heap.SetOf knd D (λk=>decide (k∈acc)) acc.length->acc.length+ks.length+1<scanBound ->
  (∀j O,j.SetOf knd D (λk=>decide (k∈lS acc ks)) (lS acc ks).length->(∀b o,c.get? b=Y o->j.get? b=Y o)->R (.ok (.ret .none)) { s with heap:=j,toks:=O }) ->
  codeAny (model prog w) A (.builtin "set.update.loop" ⟨[.ref D,.ref I],[]⟩) R s
 |[],_,i,s,acc,C,E,h0,J,H,hd,hz,X=>by
  cases E;refine bq lR ?_;rw[a9 jL _];show wpAny _ A.in1 (pyNext (.ref I)>>=_) _ _ s;have hn:a[i]?=Z:=by have:=List.drop_eq_nil_iff.mp C;exact bE (by simpa using this)
  refine aa (c7 hh J H hn λj eb=>?_);show wpAny _ A.in1 (ret Value.none) _ _ _;refine ae ?_;obtain⟨o,M,N,t,x,r⟩:=hd;exact X j s.toks ⟨o,M,N,t,eb _ _ d x,r⟩ λb o e=>eb b o (λz=>by rw[z,u] at e;cases e) (h0 b o e)
 |v::B,_,i,s,acc,C,E,h0,J,H,hd,hz,X=>by
  cases E with
  |@cons _ k _ ks hk S E=>
   refine bq lR ?_;rw[a9 jL _];show wpAny _ A.in1 (pyNext (.ref I)>>=_) _ _ s;have T:i<a.size:=by have:=bg List.length C;simp at this;omega
   have hx:a[i]?=Y v:=by have:=bg (·[0]?) C;simpa using this
   have Q:a.toList.drop (i+1)=B:=by
    have e:=bF (l:=a.toList) (i:=i) (by simpa using T);rw[C] at e;injection e with _ f
    exact f.symm
   refine aa (cV J H hx λj QO P=>?_);have W:j.SetOf knd D (λk=>decide (k∈acc)) acc.length:=by obtain⟨o,M,N,t,x,r⟩:=id hd;exact⟨o,M,N,t,(P.2 _ d).trans x,r⟩
   have nI:∀b o y n,s.heap.get? b=Y o->o.data=.seq y n->b≠I:=λb o y n g f z=>by subst z;obtain⟨oi,ei,ci,di⟩:=J;rw[g] at ei;cases ei;rw[f] at di;cases di
   have nD:∀b o y n,s.heap.get? b=Y o->o.data=.seq y n->b≠D:=λb o y n g f z=>by subst z;obtain⟨o',M,N,t,x,_,F,_⟩:=hd;rw[g] at x;cases x;rw[f] at F;cases F
   show wpAny _ A.in1 (holding [v] (setAdd D v)>>=_) _ _ _;refine aa (aY ?_);unfold setAdd;refine aY (aa (knd.pyHash hk ?_));simp only[aD] at hz;refine wpAny_setAddHashed_of (knd:=knd) (s:={ s with heap:=j,toks:=s.toks+1 }) hk S W (by omega) λL m V=>?_;have p:L.SetOf knd D (λh=>decide (h∈sN acc k)) (sN acc k).length:=by
    have g:(λh=>decide (h∈acc)||decide (h=k))=λh=>decide (h∈sN acc k):=by
     funext h
     unfold sN;by_cases q:k∈acc
     ·rw[af q];by_cases q2:h=k
      ·subst q2;simp[q]
      ·simp[q2]
     ·rw[ag q];simp
    have f:(if decide (k∈acc)=true then acc.length else acc.length+1)=(sN acc k).length:=by
     unfold sN;by_cases q:k∈acc
     ·simp[q]
     ·simp[q]
    rw[<-g,<-f];exact V
   refine ae ⟨bN jL _,?_⟩;have U:L.IsList l a:=by obtain⟨o,g,f,n,e3⟩:=H;exact⟨o,(m.2 _ (nD _ _ _ _ g e3)).trans ((P.2 _ (nI _ _ _ _ g e3)).trans g),f,n,e3⟩
   have QQ:L.IsListIter I l (i+1):=QO.at λo e=>(m.2 _ (Ne.symm d)).trans e;refine uS hh d c G u B ks (i+1) { s with heap:=L,toks:=s.toks+1 } (sN acc k) Q E (λb o e=>?_) QQ U p ?_ λh3 O p k3=>X h3 O p k3
   ·have b1:b≠I:=λz=>by rw[z,u] at e;cases e
    have b2:b≠D:=λz=>by rw[z,G] at e;cases e
    exact(m.2 b b2).trans ((P.2 b b1).trans (h0 b o e))
   ·have:=Ai acc k;omega
theorem vY{l:Addr}{o:Obj}{p:List K}{Q:Px} (V:A.handled=Z) (S:s.heap.get? l=Y o) (I:o.cls=.type "list") (g:o.data=.seq items n)
  (T:rg knd items.toList p) (C:p.length+1<scanBound)
  (h:∀h' tk,h'.SetOf knd (zB s) (λk=>decide (k∈lS [] p)) (lS [] p).length->(∀b o,s.heap.get? b=Y o->h'.get? b=Y o)->Q (.ref (zB s)) { s with heap:=h',toks:=tk }):
  wpAny (model prog w) A (call (.type "set") [.ref l]) Q E s:=by
 obtain⟨oc,O,N,y⟩:=o;simp only at I g;subst I g;have w1:=F.called_set.made;have w2:=F.called_set.sub;have w3:=F.called_set.notType;have w4:=F.called_set.canCreate;have w5:=F.typeCall_set_1 (.ref l);obtain⟨mc,mt,w6⟩:=F.called_set.mro;refine wpAny_call (codeAny_of_tree ?_);show wpAny _ _ (callAny (.type "set") _) _ _ _;refine ae ⟨Code.quiet_builtin _ (by decide +kernel),bq F.entry_type_call ?_⟩;rw[Around.under_plain (weight_type_call_type "set" [.ref l] []) rfl]
 repeat (any_goals (first|assumption|wp_step))
 refine cp (code_set_new_1 (.ref l) (E:=E) (Q₁:=λv t=>∃a:Bool,v=.ref (zB s)/\t={ s with heap:=s.heap.push { cls:=.type "set",dict:=Z,data:=.set #[] 0 (.fresh 0 0 a) } }) λa=>⟨a,rfl,rfl⟩) λM t1 d=>?_
 match M,d with
 |.error e,d=>exact d
 |.ok .next,d=>exact d.elim
 |.ok .brk,d=>exact d.elim
 |.ok .cont,d=>exact d.elim
 |.ok (.ret v),⟨a,e1,e2⟩=>
  subst e1 e2;have u:(s.heap.push { cls:=.type "set",dict:=Z,data:=.set #[] 0 (.fresh 0 0 a) }).get? (zB s)=Y { cls:=.type "set",dict:=Z,data:=.set #[] 0 (.fresh 0 0 a) }:=ar _ rfl;have G:(s.heap.push { cls:=.type "set",dict:=Z,data:=.set #[] 0 (.fresh 0 0 a) }).get? l=Y { cls:=.type "list",dict:=O,data:=.seq items n,slots:=y }:=ah _ S;have J:Shared.TypeIs { s with heap:=s.heap.push { cls:=.type "set",dict:=Z,data:=.set #[] 0 (.fresh 0 0 a) } } (.ref (zB s)) "set":=⟨_,u,rfl⟩
  have X:=F.called_set.init.lookup;have W:=F.called_set.init.bind (.ref (zB s))
  repeat (any_goals (first|assumption|wp_step))
  refine cp (codeAny_call_builtin (R:=wants (λr t=>r=.none/\∃h' tk,t={ s with heap:=h',toks:=tk }/\h'.SetOf knd (zB s) (λk=>decide (k∈lS [] p)) (lS [] p).length/\∀b o,s.heap.get? b=Y o->h'.get? b=Y o) E) F.called_set.init.plain F.entry_set_init (check_set_init_1 J ?_)) λL t2 c=>?_
  ·have v1:=F.sub_list_set;have v2:=F.sub_list_frozenset;have v3:(Value.type "list"==Value.type "dict")=false:=by decide
   have H:(s.heap.push { cls:=.type "set",dict:=Z,data:=.set #[] 0 (.fresh 0 0 a) }).IsList l items:=⟨_,G,rfl,n,rfl⟩
   unfold Builtin.«set.__init__» noKeywords Builtin.Frozenset.updateFrom;generalize m:pyIter=walk
   wp_walk
   subst m;refine cF H (aa (wpAny_runValue ?_));have x:(zB s)<(s.heap.push { cls:=.type "set",dict:=Z,data:=.set #[] 0 (.fresh 0 0 a) }).objs.size:=aj u;have i:∀j,(zB s)<=j->s.heap.get? j=Z:=λj U=>by
    cases q:s.heap.get? j with
    |none=>rfl
    |some z=>exact absurd (aG (aj q) U) (aW _)
   have B:∀b o,s.heap.get? b=Y o->((s.heap.push { cls:=.type "set",dict:=Z,data:=.set #[] 0 (.fresh 0 0 a) }).push { cls:=.type "list_iterator",data:=.fields #[.ref l,.int 0 0] }).get? b=Y o:=λb o e=>ah _ (ah _ e);have f:((s.heap.push { cls:=.type "set",dict:=Z,data:=.set #[] 0 (.fresh 0 0 a) }).push { cls:=.type "list_iterator",data:=.fields #[.ref l,.int 0 0] }).SetOf knd (zB s) (λk=>decide (k∈([]:List K))) ([]:List K).length :=
    (funext λk=>by simp:(λ_:K=>false)=λk=>decide (k∈([]:List K)))▸(PyProof.Rows.setObjOf_fresh (knd:=knd) a).setOf (ah _ u) (by unfold scanBound;omega)
   refine uS (knd:=knd) (show A.in1.in1.in1.handled=Z from V) (aE x) s.heap (i _ (ax _)) (i _ (cB x)) items.toList p 0 _ [] rfl T B ⟨_,ar _ rfl,rfl,rfl⟩ (H.push _) f (by simpa using C) λh' tk D P=>?_;show wpAny _ _ _ _ _ _;refine ae ?_;show wpAny _ _ (ret Value.none) _ _ _;exact ae ⟨rfl,h',tk,rfl,D,P⟩
  ·match L,c with
   |.error e,c=>exact c
   |.ok .next,c=>exact c.elim
   |.ok .brk,c=>exact c.elim
   |.ok .cont,c=>exact c.elim
   |.ok (.ret v),⟨e3,h',tk,e4,D,B⟩=>
    subst e3 e4
    repeat (any_goals (first|assumption|wp_step))
    exact h _ _ D B
end
end PySem
namespace L2
open PySem PySem.Spec PyProof.Rows PySem.Builtin PySem.Builtin.Str
def yw:Lp->Option (List Key)
 |[]=>Y []
 |d::r=>(kF d).bind λk=>(yw r).map (k::·)
theorem Dz{P:Program}{w:World}{K:Fg}{H:Hp}:∀{f:Lp}{c:List Key}{b:List V}{g:Lw},yw f=Y c->dv K H f b->eQ b g->rg (fj P w) g c
 |[],_,_,_,e,i,r=>by cases e;rw[dv.eC.mp i] at r;cases r;exact .nil
 |d::f,_,_,_,e,i,r=>by
  obtain⟨k,o,n⟩:=bind_some e;obtain⟨c,m,rfl⟩:=ab.mp n;obtain⟨v,b,rfl,l,j⟩:=dv.eh.mp i;cases r with
  |cons a h=>
   have:=fM o;subst this;rw[gi l] at a;refine .cons (mN a) ?_ (Dz m j h);cases k with
   |inl i=>obtain⟨t,rfl⟩:=a;rfl
   |inr x=>obtain⟨t,rfl⟩:=a;rfl
section
variable {a:Expr}{es:Lx}{fb fc:d9->Od}{p2:Pos}
noncomputable def DA(f:d9->Od):d9->Od:=λρ=>(f ρ).bind λd=>match d with
 |.list ds=>(yw ds).bind λa=>if a.length+1<4096 then Y (.int (lS [] a).length) else Z
 |_=>Z
theorem xl{K:Type}[DecidableEq K]:∀(b a:List K),(lS a b).length<=a.length+b.length
 |[],a=>by simp[lS]
 |k::b,a=>by have d:=xl b (sN a k);have c:=Ai a k;rw[show lS a (k::b)=lS (sN a k) b from rfl,aD];omega
theorem Ez{a r:Pos} (hc:X.calm=true) (D:Gl X "len") (A:X.mg "len"=Z) (C:Gl X "set") (z:X.mg "set"=Z) (ha:PD X e f)
  (L:starEach [.Call (.Name "set" r) [e] [] a] X.env=[(false,eval (.Call (.Name "set" r) [e] [] a) X.env)]:=by rfl) (J:starEach [e] X.env=[(false,eval e X.env)]:=by rfl):
  PD X (.Call (.Name "len" p) [.Call (.Name "set" r) [e] [] a] [] pos) (DA f):=by
 intro g s σ H Q I ⟨ρ,d,W,e,k⟩;obtain⟨x,e1,M⟩:=bind_some e;obtain⟨j,rfl⟩:∃j,x=.list j:=by cases x<;>first|exact⟨_,rfl⟩|cases M
 obtain⟨c,e2,m⟩:=bind_some (show (yw j).bind (λc=>if c.length+1<4096 then Y (d8.int (lS [] c).length) else Z)=Y d from M);by_cases y:c.length+1<4096
 ·rw[af y] at m;cases m;refine aR (jk I D A PySem.boot_len ?_);refine cx ?_ (by rw[L];rfl) (by rfl);rw[L];refine aT ?_;refine aR (jk I C z (by rfl) ?_);refine aU ?_ (by rw[J];rfl) (by rfl);rw[J];refine aT (gd (@ha g s σ H (λv H1=>ez H H1/\et X.K H1 (.list j) v) I ⟨ρ,_,W,e1,λv H1 P i=>⟨P,i⟩⟩) ?_);rintro u1 t1 ⟨v1,H1,G,S,q,V⟩;refine aZ ?_;obtain⟨l,ws,rfl,O,u⟩:=et.eK.mp V;cases S;obtain⟨U,R,⟨o,n,ho,E,_,h⟩,z1⟩:=G.list O;refine vY (knd:=fj X.prog X.w) (G.ok.hd hc) ho E h (by simpa using Dz e2 u R) (by unfold scanBound;exact y) λh' N hd T=>aZ ?_;obtain⟨o',F,ep,t,g1,g2,g3,g4,g5,g6,g7,g8⟩:=hd;have b:F.size=(lS [] c).length:=g8;have B:=xl c ([]:List Key);refine call_len_set g1 g2 g3 g7 (by rw[b];simp at B;omega) ?_;rw[b];exact⟨.int _,H1,(G.kept (t':=N) T).tok _,⟨_,rfl⟩,(k.later q).here (et.eG.mpr rfl)⟩
 ·rw[ag y] at m;cases m
def GB{s:Shared}(I:eE X pins σ H s){x:d8}{u:Value}(h:SeqAt.shaped x=true)(m:et X.K H x v)(k:eV v u)(z:A.units+x.depth<cLine):
  ∃e:Value->Bool,∀(d:d8) (w:V) (y:Value),SeqAt.shaped d=true->et X.K H d w->eV w y->SeqAt.EqAt A s y u (e y)/\e y=d8.eqv d x:=by
 obtain⟨t,j⟩:=I.mv (aP h) m k;refine⟨λy=>@decide (∃d a,Reads s.heap y d a/\SeqAt.shaped d=true/\d8.eqv d x=true) (Classical.propDecidable _),λd w y b n c=>?_⟩;obtain⟨a,f⟩:=I.mv (aP b) n c;have i:@decide (∃d a,Reads s.heap y d a/\SeqAt.shaped d=true/\d8.eqv d x=true) (Classical.propDecidable _)=d8.eqv d x:=by
  cases q:d8.eqv d x with
  |true=>exact @decide_eq_true _ (Classical.propDecidable _) ⟨d,a,f,b,q⟩
  |false=>refine @decide_eq_false _ (Classical.propDecidable _) ?_;rintro⟨p,r,l,o,g⟩;have:=SeqAt.Reads.unique d p y _ _ (aP b) f l;subst this;rw[q] at g;cases g
 refine⟨?_,i⟩;show SeqAt.EqAt A s y u (@decide _ (Classical.propDecidable _));rw[i];refine SeqAt.eqAt_reads d x A s _ _ a t f j (aP b) (aP h) ?_;have:min d.depth x.depth<=x.depth:=dM _ _;omega
theorem Aj(hu:X.A.units+64<cLine):Jc X "list.index" (λx vs H Q=>∃d J c,et X.K H d x/\dv X.K H J vs/\yp d J=Y c/\KD X.K H c Q):=by
 intro O s σ H v vs u us Q I rx rv h;obtain⟨d,J,cc,i1,i2,e,k⟩:=h;unfold yp at e;split at e
 ·rename_i r x;by_cases l:SeqAt.shaped x=true/\r.all SeqAt.shaped=true/\x.depth<=60/\r.length<=sizeLine
  ·rw[af l] at e;obtain⟨j,e1,rfl⟩:=ab.mp e;obtain⟨h1,V,⟨dj,U,h4⟩,T⟩:=p7 e1;simp only[Nat.sub_zero] at V U T;obtain⟨p,w,rfl,sq,P⟩:=et.eK.mp i1;cases rx;obtain⟨v2,rfl,i3⟩:=gg i2;obtain⟨N,rfl,B⟩:=rv.one;obtain⟨a,f,⟨⟨cls,dd,W,sl⟩,n,R,S,RD,q⟩,z1⟩:=I.list sq;simp only at S q;subst S q;obtain⟨G,he⟩:=GB I (A:=X.A.in1) l.1 i3 B (by show X.A.units+1+x.depth<cLine;omega);have sh:∀d∈r,SeqAt.shaped d=true:=bD.mp l.2.1;have b:∀(i:Nat) (y:Value),a[i]?=Y y->∃d,r[i]?=Y d/\SeqAt.EqAt X.A.in1 s y N (G y)/\G y=d8.eqv d x:=λi y t=>by
    have E:i<w.length:=by rw[f.length];exact(av.mp t).1
    have hw:w[i]?=Y w[i]:=aH E;obtain⟨y',o,z⟩:=f.get hw;rw[t] at o;cases o;obtain⟨d,q,C⟩:=P.get' hw;obtain⟨g,M⟩:=he d _ y (sh d (bY q)) C z;exact⟨d,q,g,M⟩
   have hj:j<a.toArray.size:=by rw[ao,<-f.length,<-P.length];exact V
   refine cC F.slot_list_index ⟨_,R,rfl⟩ F.entry_list_index (F.args_list_index_2 _ _) (SeqAt.list_indexAt p a.toArray n dd sl N G j hj ?_ ?_ ?_) ⟨R,λy t=>?_,?_⟩
   ·have h6:=l.2.2.2;have h7:sizeLine<2 ^ 62:=by decide
    omega
   ·obtain⟨d,g,_,L⟩:=b j (a.toArray[j]) (by simp);rw[U] at g;cases g;rw[L];exact h4
   ·intro m hm D;obtain⟨d,g,_,L⟩:=b m (a.toArray[m]) (by simp);rw[L];exact T m d D g
   ·obtain⟨i,hi⟩:=List.mem_iff_getElem?.mp (show y∈a by simpa using t);obtain⟨d,_,M,_⟩:=b i y hi;exact M
   ·exact⟨.int _,H,I.tok _,⟨_,rfl⟩,k.here (et.eG.mpr rfl)⟩
  ·rw[ag l] at e;cases e
 ·cases e
noncomputable def MI(g:d8->Lp->Od)(f:d9->Od)(a:d9->Option Lp):d9->Od:=λρ=>(f ρ).bind λd=>(a ρ).bind λb=>match d with | .list z=>g (.list z) b|_=>Z
def GC{a:Str}{n:String}{g:d8->Lp->Od} (j:Slot "list" a n) (q:typeOf (.builtin n)=pure (.type "method_descriptor")) (C:Jc X n (λx vs H Q=>∃d ds c,et X.K H d x/\dv X.K H ds vs/\g d ds=Y c/\KD X.K H c Q)) (B:PD X o f) (D:vS X (e::es) ff)
  (i:attributeBase o a X.env (eval o X.env)=eval o X.env:=by rfl)
  (l:((backTo fh (starEach (e::es) X.env)).all (λx=>!x.1)&&(backToKw fh (keywordEach [] X.env)).all (λx=>x.1.isSome)
  &&decide ((e::es).length+([]:List Keyword).length+(if ([]:List Keyword).isEmpty then 0 else 1)<30))=true:=by rfl)
  (h:(apos.endLine==fh.line)=true:=by rfl) (m:zE e es X:=by rfl) (b:(backTo fh (starEach es X.env)).any (·.1)=false:=by rfl):
  PD X (.Call (.Attribute o a apos) (e::es) [] fh) (MI g f ff) :=
 PE.imp (rY ba j q C B D i l h m b) <| by
  rintro σ H Q ⟨ρ,d,m,e,k⟩;obtain⟨x,G,F⟩:=bind_some e;obtain⟨ds,E,u⟩:=bind_some F;obtain⟨z,rfl⟩:∃z,x=.list z:=by cases x<;>first|exact⟨_,rfl⟩|cases u
  refine⟨ρ,_,m,G,λv L s t=>?_⟩;obtain⟨p,vs,rfl,y,I⟩:=et.eK.mp t;exact⟨.inl ⟨rfl,vs,y⟩,ρ,ds,m.same s,E,λw J r A=>⟨_,ds,d,t.same r,A,u,k.later (s.trans r)⟩⟩
end
end L2
namespace L2
open PySem PySem.Spec PyProof.Rows
section
variable {s:Shared}
noncomputable def uT(g:d9->Option Bool)(f:d9->Od)(ρc:d9):Lp->Option Lp
 |[]=>Y []
 |d::ds=>match d with
  |.tuple [a,b]=>(g (Y a::Y b::ρc)).bind λc=>if c then (f (Y a::Y b::ρc)).bind λy=>(uT g f ρc ds).bind λe=>Y (y::e) else uT g f ρc ds
  |_=>Z
def uU(q:d9->Option Lp)(a:List (Nat×Str))(g:d9->Option Bool)(f:d9->Od):d9->Od:=λρ=>
 (q ρ).bind λb=>if b.length<=sizeLine then (uT g f (uz a ρ) b).map .list else Z
def GD{m a:Expr}{b:Str}{o i r:Pos}{t:Nat}{j:Lx}
  (A:X.calm=true) (S:iH scope x) (u:scope.names.lookup b=Y .local) (n:∀p∈scope.names,p.2=.free->∃c,X.env.cells.lookup p.1=Y c) (l:jr X scope gD) (k:(x::b::gD.map (·.2)).Nodup)
  (w:Fo X (.Tuple [.Name x o,.Name b i] t r) a q)
  (v:∀C s H fp,uA (jH X scope C (x::b::gD.map (·.2)) s H fp) j g)
  (y:∀C s H fp,PD (jH X scope C (x::b::gD.map (·.2)) s H fp) m f):Eo X (.ListComp m [⟨.Tuple [.Name x o,.Name b i] t r,a,j,0⟩] scope pos) scope a (tD X.K (uU q gD g f)):=
 (z7 (bd:=Jm 2 (F9 (Dj 0) (F9 (Dj 1) Oi))) (λ_ G ds vs=>dv X.K G ds vs) dv.length (λh s=>h.same s) [x,b] (uT g f) A S n l w (λC s H fp=>Jn rfl (wZ (uw 0 k rfl (.inl (bZ S.var)) (.inr (bZ S.var))) (wZ (uw 1 k rfl (.inl (bZ u)) (.inr (bZ u))) Ga))) v (λC s H fp=>Dl (y C s H fp) rfl) w8 (λ_ _ e=>by cases e;rfl) λc d ds D h=>by
  unfold uT at h;split at h
  ·obtain⟨z,B,e⟩:=bind_some h;exact⟨[Y _,Y _],z,rfl,rfl,B,Dk e⟩
  ·cases h).data
def Eo.TY{f a:Expr}{j:Str}{k d l:Pos}{n:Nat}{e:Lx}{t:TE} (h:Eo X (.ListComp f [⟨.Tuple [.Name x k,.Name j d] n l,a,e,0⟩] scope pos) scope a t) (S:iH scope x) (i:∀p∈scope.names,p.2=.free->∃c,X.env.cells.lookup p.1=Y c)
  (r:∀x,foldedSetIterable a X.env x=pure x:=by intro _;rfl):PE X (.ListComp f [⟨.Tuple [.Name x k,.Name j d] n l,a,e,0⟩] scope pos) t:=by
 intro b s σ H Q I y;rw[eval_ListComp];refine cN (use:=Z) rfl r (lr i) S.kind S.loc (@h b s σ H Q (compPost (model X.prog X.w) X.A X.xe Z (EP X b σ Q)) I y ?_);intro D C E B F m z v u o q;exact⟨m,v,λG g=>⟨.ref D,B,z.uB u o g,rfl,q⟩⟩
end
section
variable {a:Expr}{rest es:Lx}{fb fc:d9->Od}{p2:Pos}
def R3(d:d8):Option Bool:=match d with | .bool b=>Y b|_=>Z
noncomputable def p9(f g:d9->Od):d9->Od:=λρ=>(f ρ).bind λd=>(R3 d).bind λb=>if b then g ρ else Y (.bool false)
def GF{d:d8}{b:Bool}(h:R3 d=Y b):d=.bool b:=by cases d<;>first|(cases h;rfl)|cases h
def qa{b:BoolOp}(h:PD X a f):PD X (.BoolOp b [a] pos) f:=LK h
def k7(j:PD X a fa)(i:PD X (.BoolOp .And (b::rest) pos) fb):PD X (.BoolOp .And (a::b::rest) pos) (p9 fa fb) :=
 PE.imp (LL j i) <| by
  rintro σ H Q ⟨ρ,d,g,e,k⟩;obtain⟨x,n,m⟩:=bind_some e;obtain⟨y,l,c⟩:=bind_some m;cases GF l;refine⟨ρ,_,g,n,λv o f h=>⟨y,et.eN.mp h,?_⟩⟩;cases y with
  |true=>rw[af rfl] at c ⊢;exact⟨ρ,d,g.same f,c,k.later f⟩
  |false=>rw[ag aQ] at c ⊢;cases c;exact k _ o f (et.eN.mpr rfl)
noncomputable def Q3(x y:d8):Od:=match x,y with | .bool a,.bool b=>Y (.bool (a==b))|_,_=>Z
noncomputable def Ca(x y:d8):Od:=match x,y with | .bool a,.bool b=>Y (.bool (a != b))|_,_=>Z
def OI:pS X (compareOp .Is) Q3:=by
 intro f s σ H x y v u Q I b a ⟨d,i,c,h,g,e,k⟩;cases d<;>cases i<;>try (simp[Q3] at e;done)
 cases e;rw[et.eN.mp h] at b;rw[et.eN.mp g] at a;cases b;cases a;exact is_bool ⟨.bl _,H,I,rfl,k.here (et.eN.mpr rfl)⟩
def GG:pS X (compareOp .IsNot) Ca:=by
 intro f s σ H x y v u Q I b a ⟨d,i,c,h,g,e,k⟩;cases d<;>cases i<;>try (simp[Ca] at e;done)
 cases e;rw[et.eN.mp h] at b;rw[et.eN.mp g] at a;cases b;cases a;exact isnot_bool ⟨.bl _,H,I,rfl,k.here (et.eN.mpr rfl)⟩
noncomputable def k8:Lp->Option (List Bool)
 |[]=>Y []
 |.bool b::r=>(k8 r).map (b::·)
 |_::_=>Z
theorem qb:∀{b:Lp}{a:List Bool},k8 b=Y a->b=a.map .bool
 |[],a,h=>by cases h;rfl
 |d::r,a,h=>by
  cases d<;>try (simp[k8] at h;done)
  obtain⟨c,e,rfl⟩:=ab.mp h;rw[qb e];rfl
noncomputable def TZ:Lp->Od | [.list ds]=>(k8 ds).map λa=>.bool (a.any id)|_=>Z
noncomputable def EA:Lp->Od | [.list ds]=>(k8 ds).map λa=>.bool (a.all id)|_=>Z
def Cb{c:List Bool}{a:Lw}(i:dv K H (c.map .bool) vs)(r:eQ vs a){j:Nat}{v:Value}(e:a[j]?=Y v):∃b,c[j]?=Y b/\v=.bool b:=by
 have n:j<a.length:=(av.mp e).1;have k:=r.length;have d:=i.length;have f:j<c.length:=by simpa [k,d] using (by rw[ay] at d;omega:j<c.length)
 have q:(c.map d8.bool)[j]?=Y (.bool c[j]):=by rw[aB,aH f];rfl
 obtain⟨x,m,l⟩:=i.get q;obtain⟨u,h,g⟩:=r.get m;rw[e] at h;cases h;rw[et.eN.mp l] at g;exact⟨_,aH f,g⟩
def Cc(w:X.calm=true):uu X (.builtin "all") EA:=by
 intro j s σ H E G Q I r ⟨D,c,i,e,k⟩
 match D,e with
 |[.list ys],e=>
  obtain⟨d,C,rfl⟩:=ab.mp e;cases qb C;obtain⟨v,rfl,z⟩:=gg i;obtain⟨p,F,rfl,B,m⟩:=et.eK.mp z;obtain⟨u,rfl,n⟩:=oR r;cases n;obtain⟨a,h,o,M⟩:=I.list B;have g:=o.isList;have f:p<(zB s):=by obtain⟨_,e,_⟩:=g;exact aj e
  refine call_all_walk (cF g ?_);refine⟨(zB s),[(zB s),p],[(zB s)],a.toArray.size,_,_,λi=>(d[i]?).getD true,rfl,Walks.list (A:=X.A.in1) (I.ok.hd w) _ p (aE f) a.toArray,
   ⟨⟨_,ar _ rfl,rfl,rfl⟩,g.push _⟩,λi v K O P y l=>?_,λN J t=>?_⟩
  ·obtain⟨b,e,rfl⟩:=Cb m h (by simpa using y);simp only[e,Option.getD_some] at l;exact cm l
  ·have e:((List.range a.toArray.size).all λi=>(d[i]?).getD true)=d.all id:=by
    have L:=h.length;have q:=m.length;rw[ay] at q;rw[ao,show a.length=d.length by omega];exact LSm.range_all d
   rw[e];refine⟨.bl _,H,I.kept λb x e=>?_,rfl,k.here (et.eN.mpr rfl)⟩;exact t b x (λhm=>by rw[aS.mp hm] at e;exact aW _ (aj e)) (ah _ e)
def uV(X:Cx)(a:Scope):Bool:=a.names.all λp=>p.2 != .free||(X.env.kindOf p.1==Y .cell||X.env.kindOf p.1==Y .free)
def lT{i b:Expr}{l:Pos}{c:Lx} (a:List (Nat×Str))
  (t:Fo X (.Name x l) b q)
  (n:∀C s H fp,uA (jH X scope C (x::a.map (·.2)) s H fp) c g)
  (u:∀C s H fp,PD (jH X scope C (x::a.map (·.2)) s H fp) i f)
  (v:X.calm=true:=by rfl) (S:iH scope x:=by exact⟨rfl,by decide +kernel,by decide +kernel,rfl,aN⟩) (k:uV X scope=true:=by rfl) (d:jr X scope a:=by repeat' (first|exact aN|refine⟨⟨rfl,.inl rfl,rfl⟩,?_⟩|refine⟨⟨rfl,.inr rfl,rfl⟩,?_⟩)) (j:(x::a.map (·.2)).Nodup:=by decide +kernel)
  (o:∀x,foldedSetIterable b X.env x=pure x:=by intro _;rfl):PD X (.ListComp i [⟨.Name x l,b,c,0⟩] scope pos) (js q a g f):=by
 intro m s σ H Q I w;refine Jq v S (λp r e=>I.ok.has p.1 ?_) d j t n u o s σ H Q I w;have:=bD.mp k p r;simp only[Bool.or_eq_true,bne_iff_ne,ne_eq,cu] at this;rcases this with h|h
 ·exact absurd e h
 ·exact h
def jM{s:Shared}(I:eE X pins σ H s)(a:uV X scope=true):∀p∈scope.names,p.2=.free->∃c,X.env.cells.lookup p.1=Y c:=λp b e=>I.ok.has p.1 (by
 have:=bD.mp a p b;simp only[Bool.or_eq_true,bne_iff_ne,ne_eq,cu] at this;rcases this with h|h
 ·exact absurd e h
 ·exact h)
end
section
variable {m:Md}{a i:Expr}{es:Lx}{fb fc:d9->Od}{p2:Pos}
def DB(d:d8):Option Bool:=match d with
 |.dict fX=>if eT fX=true then Z else Y (!fX.isEmpty)
 |d=>BQ d
def pT(f:d9->Od):d9->Option Bool:=λρ=>(f ρ).bind DB
def fA(h:PD X e f)(q:∀whole,isTrue e X.env whole=(do let v <-whole;standAt e.pos;holding [v] (truthy v)):=by intro _;rfl):Bq X e (pT f) :=
 PT.imp (zx h q) <| by
  rintro σ H Q ⟨ρ,b,o,e,k⟩;obtain⟨d,r,a⟩:=bind_some e;refine⟨ρ,d,o,r,λv s l j=>⟨b,?_,k s l⟩⟩;cases d with
  |dict c=>
   unfold DB at a;by_cases g:eT c=true
   ·dsimp only at a;rw[af g] at a;cases a
   ·dsimp only at a;rw[ag g] at a;cases a;obtain⟨p,i,rfl,n,m⟩:=j.kZ (by simpa using g);refine .inr (.inr ⟨i,n,?_⟩);have:=m.length;cases c<;>cases i<;>first|rfl|(simp at this)
  |_=>exact F7 j a
def yx:d8->Bool
 |.none=>true
 |_=>false
def OJ(x y:d8):Od:=match y with
 |.none=>Y (.bool (yx x))
 |y=>Q3 x y
def tR(x y:d8):Od:=match y with
 |.none=>Y (.bool (!yx x))
 |y=>Ca x y
def Le{d:d8}(i:et K H d v):decide (v=.jj)=yx d:=by
 cases d with
 |none=>rw[et.gf.mp i];rfl
 |bool b=>rw[et.eN.mp i];rfl
 |int j=>rw[et.eG.mp i];rfl
 |str x=>rw[et.eU.mp i];rfl
 |list a=>obtain⟨p,c,rfl,_⟩:=et.eK.mp i;rfl
 |tuple a=>obtain⟨p,c,rfl,_⟩:=i.fJ;rfl
 |dict e=>obtain⟨p,rfl,_⟩:=et.jm.mp i;rfl
def MJ:pS X (compareOp .Is) OJ:=by
 refine jD.imp (jD.or OI LZ) ?_;rintro x y H Q ⟨a,b,d,f,c,e,k⟩;cases b with
 |none=>cases e;exact .inr ⟨et.gf.mp c,k.here (et.eN.mpr (by rw[Le f]))⟩
 |_=>exact .inl ⟨a,_,d,f,c,e,k⟩
def rh:pS X (compareOp .IsNot) tR:=by
 refine jD.imp (jD.or GG IU) ?_;rintro x y H Q ⟨a,b,d,f,c,e,k⟩;cases b with
 |none=>cases e;exact .inr ⟨et.gf.mp c,k.here (et.eN.mpr (by rw[Le f]))⟩
 |_=>exact .inl ⟨a,_,d,f,c,e,k⟩
structure Ak (K:Fg) (mg:Str->Ow) (x:Str) (d:d8):Prop where
 ex:∃u v,mg x=Y u/\eV v u/\∀H:Hp,et K H d v
def uW{d:d8}(c:Ak X.K X.mg x d)(a:Gl X x)(b:zg x:=by decide):PD X (.Name x pos) (dC d):=by obtain⟨u,v,h,g,f⟩:=c.ex;exact PE.imp (CT a h g b) <| by rintro σ H Q ⟨ρ,j,i,e,k⟩;cases e;exact k.here (f H)
structure k9 (P:Program) (w:World) (K:Fg) (mg:Str->Ow) (x:Str) (fX:List (d8×d8)):Prop where
 ex:∃(a:Addr) (vs:List (Key×Value)),mg x=Y (.ref a)/\(a==sysModules)=false/\(∀h:Heap,K.In h->h.DictOf (fj P w) a vs) /\
  ∀k:Key,(iU (gW k) fX=Z/\valueAt vs k=Z)\/∃d v u,iU (gW k) fX=Y d/\valueAt vs k=Y u/\eV v u/\∀H:Hp,et K H d v
def Lf(a:List (d8×d8))(k:d8):Od:=(kF k).map λ_=>(iU k a).getD .none
def JN(L:k9 X.prog X.w X.K X.mg x fX)(G:Gl X x)(J:PD X e fb)(j:M1 X (.Name x p) "get" apos e fh)(o:zg x:=by decide):PD X (.Call (.Attribute (.Name x p) "get" apos) [e] [] fh) (λρ=>(fb ρ).bind (Lf fX)):=by
 obtain⟨a,W,O,N,B,M⟩:=L.ex;intro c s σ H Q I ⟨ρ,d,F,V,k⟩;obtain⟨y,U,T⟩:=bind_some V;obtain⟨z,S,l⟩:=ab.mp T;have:=fM S;subst this;have C:=B s.heap I.qP;refine dF j.base j.Pf j.line cU bA c8 (kU I G O ?_ o);refine⟨C.typeIs,λb q=>?_,?_⟩
 ·cases q;obtain⟨E,_,_,g,f,_⟩:=C;exact⟨E,g,f.2.1⟩
 rw[j.trees];refine b7 rfl (cG (aT (gd (@J c s σ H (λv H1=>ez H H1/\et X.K H1 (gW z) v) I ⟨ρ,_,F,U,λv H1 m i=>⟨m,i⟩⟩) ?_)));rintro iv t ⟨v,H1,r,u,m,n⟩;refine aZ ?_;rw[gi n] at u;have h:=B t.heap r.qP;refine dy bA h.typeIs b8 (cT _ _) (meets_dict_get (fj X.prog X.w) a (mN u) N) ⟨_,h.mapOf,?_⟩;have A:=k.later m;rcases M z with ⟨g,f⟩ | ⟨d',D,u',g,f,R,P⟩
 ·rw[g] at l;subst l;rw[f];exact⟨.jj,H1,r.tok _,rfl,A.here (et.gf.mpr rfl)⟩
 ·rw[g] at l;subst l;rw[f];exact⟨D,H1,r.tok _,R,A.here (P H1)⟩
noncomputable def GH(a:List (d8×d8))(k:d8):Od:=(kF k).map λ_=>.bool (iU k a).isSome
def GI(a:List (d8×d8))(k:d8):Od:=(kF k).bind λ_=>iU k a
def MK(z:k9 X.prog X.w X.K X.mg x fX)(r:Gl X x)(u:PD X i fb)(g:zT i)(h:zg x:=by decide):PD X (.Subscript (.Name x p) i pos) (λρ=>(fb ρ).bind (GI fX)):=by
 obtain⟨U,O,C,S,B,A⟩:=z.ex;intro a s σ H Q I ⟨ρ,d,q,N,k⟩;obtain⟨y,M,L⟩:=bind_some N;obtain⟨m,J,c⟩:=bind_some L;have:=fM J;subst this;refine Dc PySem.F.slot_dict_getitem.lookup g (kU I r C (gd (@u a s σ H (λv H1=>ez H H1/\et X.K H1 (gW m) v) I ⟨ρ,_,q,M,λv H1 e i=>⟨e,i⟩⟩) ?_) h);rintro R t ⟨v,H1,n,l,e,f⟩;rw[gi f] at l;have b:=B t.heap n.qP;refine⟨b.typeIs,?_⟩;rcases A m with ⟨j,_⟩ | ⟨T,o,P,j,G,E,D⟩
 ·rw[j] at c;cases c
 ·rw[j] at c;cases c;exact wpAny_getItem_of (mN l) b.mapOf G ⟨o,H1,n.tok _,E,(k.later e).here (D H1)⟩
end
def Q4{n:Int}{t:Tok}(h:mg x=Y (.int n t)):Ak K mg x (.int n):=⟨_,.int n,h,⟨t,rfl⟩,λH=>et.eG.mpr rfl⟩
def OK{b:Array Value}{c:List V}(h:K.lookup a=Y (zy b n))(d:b.size<=sizeLine)(e:eQ c b.toList)(H:Hp):mV K H a c:=.inr ⟨_,b,n,h,rfl,rfl,d,e⟩
def kH{b:Array Value}{xs:Lr}(h:K.lookup a=Y (zy b n))(c:b.size<=sizeLine)(d:eQ (xs.map V.str) b.toList)(H:Hp):et K H (.tuple (xs.map .str)) (.ref a) :=
 et.i8.mpr ⟨a,_,rfl,OK h c d H,mB xs⟩
def ML(P:Params)(x:Str)(t:Tok)(v:Value):DictEntry:={ hash:=d8.keyHash P x,key:=.str x t,val:=v }
def Al(w:World)(x:Str):d8.keyHash w.params x=Ly w (.inr x):=by
 first
 |rfl
 | (unfold d8.keyHash Ly hashStr;rfl)
theorem xm{P:Program}{w:World}:∀(l:List (Str×Tok×Value×d8)),Pairs (fj P w) (l.map λq=>ML w.params q.1 q.2.1 q.2.2.1) (l.map λq=>((.inr q.1:Key),q.2.2.1))
 |[]=>.nil
 |q::l=>.cons (nc P w q.1 q.2.1) rfl (xm l)
theorem Am{K:Fg}(k:Key):∀(l:List (Str×Tok×Value×d8)),(∀q∈l,∃v,eV v q.2.2.1/\∀H:Hp,et K H q.2.2.2 v) ->
  (iU (gW k) (l.map λq=>(.str q.1,q.2.2.2))=Z/\valueAt (l.map λq=>((.inr q.1:Key),q.2.2.1)) k=Z)\/∃d v u,iU (gW k) (l.map λq=>(.str q.1,q.2.2.2))=Y d/\valueAt (l.map λq=>((.inr q.1:Key),q.2.2.1)) k=Y u/\eV v u/\∀H:Hp,et K H d v
 |[],_=>.inl ⟨rfl,rfl⟩
 |q::l,hv=>by
  by_cases e:(.inr q.1:Key)=k
  ·right;obtain⟨v,g,f⟩:=hv q (by simp);have a:iA (.str q.1) (gW k)=true:=by rw[show d8.str q.1=gW (.inr q.1) from rfl,gQ];exact aK e
   exact⟨q.2.2.2,v,q.2.2.1,by simp[iU,a],by simp[valueAt,bK,e],g,f⟩
  ·have a:¬ iA (.str q.1) (gW k)=true:=by rw[show d8.str q.1=gW (.inr q.1) from rfl,gQ];simp[e]
   rcases Am k l (λz h=>hv z (au _ h)) with ⟨c,b⟩ | ⟨d,v,u,c,b,i⟩
   ·exact .inl ⟨by rw[az];unfold iU;rw[ag a];exact c,by simp only[valueAt,az,bK,aV e];exact b⟩
   ·exact .inr ⟨d,v,u,by rw[az];unfold iU;rw[ag a];exact c,by simp only[valueAt,az,bK,aV e];exact b,i⟩
def DC{P:Program}{l:List (Str×Tok×Value×d8)} (g:mg x=Y (.ref a)) (m:(a==sysModules)=false)
  (i:K.lookup a=Y { cls:=.type "dict",data:=.dict (l.map λq=>ML w.params q.1 q.2.1 q.2.2.1).toArray n }) (d:(l.map (·.1)).Nodup) (f:∀q∈l,∃v,eV v q.2.2.1/\∀H:Hp,et K H q.2.2.2 v):
  k9 P w K mg x (l.map λq=>(.str q.1,q.2.2.2)):=by
 refine⟨a,l.map λq=>(.inr q.1,q.2.2.1),g,m,λh o=>?_,λk=>Am k l f⟩;refine⟨_,_,n,o a _ i,⟨rfl,rfl,rfl⟩,rfl,λe j=>?_,by simpa using xm l,?_⟩
 ·have c:e∈l.map λq=>ML w.params q.1 q.2.1 q.2.2.1:=by simpa using j
  obtain⟨q,_,rfl⟩:=aJ.mp c;exact⟨.inr q.1,nc P w q.1 q.2.1,Al w q.1⟩
 ·rw[c6];have:((λx:Key×Value=>x.1)∘λq:Str×Tok×Value×d8=>((.inr q.1:Key),q.2.2.1))=(λz:Str=>(.inr z:Key))∘(·.1):=rfl;rw[this,<-c6];exact List.Pairwise.map _ (λa b h z=>h (by injection z)) d
section
variable {m:Md}{a i:Expr}{es:Lx}{fb fc:d9->Od}{p2:Pos}{rest:List Stmt}{g h:d9->Option eY}
def PS.frame{t:TS}(h:PS X st t):PS X st (λD σ H=>∃G B,H=eD G B/\ip G B/\t { nx:=λσ' a=>ip a B->D.nx σ' (eD a B),rt:=λv a=>ip a B->D.rt v (eD a B),bk:=λσ' a=>ip a B->D.bk σ' (eD a B),ct:=λσ' a=>ip a B->D.ct σ' (eD a B) } σ G):=by
 intro g s σ H D I ⟨G,B,k,f,i⟩;subst k;obtain⟨m,l,_,_,b⟩:=z9 f.ok I f;refine gd (@h _ s σ G _ l i) λj e q=>?_;cases j with
 |next=>obtain⟨σ',a,J,q⟩:=q;obtain⟨c,d⟩:=b a e σ' J;exact⟨σ',_,d,q c⟩
 |brk=>obtain⟨σ',a,J,q⟩:=q;obtain⟨c,d⟩:=b a e σ' J;exact⟨σ',_,d,q c⟩
 |cont=>obtain⟨σ',a,J,q⟩:=q;obtain⟨c,d⟩:=b a e σ' J;exact⟨σ',_,d,q c⟩
 |ret u=>obtain⟨v,σ',a,J,r,q⟩:=q;obtain⟨c,d⟩:=b a e σ' J;exact⟨v,σ',_,d,r,q c⟩
def An(i:Nat) {y:Str}{J c:Pos}{l b:Expr}{r:Pos}{h:Lx} (a:List (Nat×Str)) {g:d9->Option Bool} (W:X.N.Nodup)
  (Q:Fo X (.Name x r) b q)
  (P:∀C s H fp,uA (jH X scope C (x::a.map (·.2)) s H fp) h g)
  (R:∀C s H fp,PD (jH X scope C (x::a.map (·.2)) s H fp) l f) (V:i∉O:=by decide)
  (T:X.calm=true:=by rfl) (S:iH scope x:=by exact⟨rfl,by decide +kernel,by decide +kernel,rfl,aN⟩) (n:uV X scope=true:=by rfl) (p:jr X scope a:=by repeat' (first|exact aN|refine⟨⟨rfl,.inl rfl,rfl⟩,?_⟩|refine⟨⟨rfl,.inr rfl,rfl⟩,?_⟩)) (w:(x::a.map (·.2)).Nodup:=by decide +kernel)
  (A:X.N[i]?=Y y:=by rfl) (M:X.env.scope.names.lookup y=Y .local:=by rfl) (u:swapsWith (.ListComp l [⟨.Name x r,b,h,0⟩] scope pos) (Y (.Name y J)) c.line X.env=pure true:=by rfl)
  (j:∀x,foldedSetIterable b X.env x=pure x:=by intro _;rfl):oF X m O (.Assign [.Name y J] (.ListComp l [⟨.Name x r,b,h,0⟩] scope pos) c) (fe (fw O (js q a g f)) i):=by
 intro K s σ H D I U;refine PS.imp (PS.frame (Dn (Dm T S (jM I n) p w Q P R) S (jM I n) W A M u j)) (?_) s σ H D I U;rintro D σ H ⟨ρ,o,G,j,e,k⟩;obtain⟨d,e1,rfl⟩:=ab.mp e;obtain⟨B,eH,fm,t⟩:=j.o.ex;refine⟨G,B,eH,fm,iz O ρ,d,j.o.rest,e1,λv G' F L E=>?_⟩;exact k _ _ G' F (iq.set ⟨fG.uE j.o.len t j.o.jj F E,j.z⟩ V L)
def rj{j b:Expr}{c:Str}{l d m:Pos}{o:Nat}{e:Lx} (a:List (Nat×Str)) {g:d9->Option Bool}
  (t:Fo X (.Tuple [.Name x l,.Name c d] o m) b q)
  (p:∀C s H fp,uA (jH X scope C (x::c::a.map (·.2)) s H fp) e g)
  (u:∀C s H fp,PD (jH X scope C (x::c::a.map (·.2)) s H fp) j f)
  (v:X.calm=true:=by rfl) (S:iH scope x:=by exact⟨rfl,by decide +kernel,by decide +kernel,rfl,aN⟩) (y:scope.names.lookup c=Y .local:=by rfl) (h:uV X scope=true:=by rfl) (i:jr X scope a:=by repeat' (first|exact aN|refine⟨⟨rfl,.inl rfl,rfl⟩,?_⟩|refine⟨⟨rfl,.inr rfl,rfl⟩,?_⟩)) (k:(x::c::a.map (·.2)).Nodup:=by decide +kernel)
  (r:∀x,foldedSetIterable b X.env x=pure x:=by intro _;rfl):PD X (.ListComp j [⟨.Tuple [.Name x l,.Name c d] o m,b,e,0⟩] scope pos) (uU q a g f):=by
 intro n s σ H Q I w;exact Eo.TY (GD v S y (jM I h) i k t p u) S (jM I h) r s σ H Q I w
section
variable {O':List Nat}{j:Nat}
theorem gh.snoc{l:Bool}(e:(ρ[j]?).join=Z):∀{k:List Nat}{B:List (Addr×HO)},gh l K σ ρ G k B↔gh l K σ ρ G (k++[j]) B
 |[],B=>⟨λh=>.inl ⟨e,h⟩,λh=>by
   rcases h with ⟨_,h⟩ | ⟨d,v,g,f,a,_⟩
   ·exact h
   ·rw[a] at e;cases e⟩
 |i::k,B=>by
  constructor
  ·rintro(⟨a,b⟩ | ⟨d,v,g,f,a,b,c,q,t⟩)
   ·exact .inl ⟨a,(gh.snoc e).mp b⟩
   ·exact .inr ⟨d,v,g,f,a,b,c,q,(gh.snoc e).mp t⟩
  ·rintro(⟨a,b⟩ | ⟨d,v,g,f,a,b,c,q,t⟩)
   ·exact .inl ⟨a,(gh.snoc e).mpr b⟩
   ·exact .inr ⟨d,v,g,f,a,b,c,q,(gh.snoc e).mpr t⟩
def fG.freeze(r:(O'++[j]).Nodup)(l:iI (O'++[j])=iI O')(h:fG (O'++[j]) K σ ρ H G):∃D,ez G D/\fG O' K σ ρ H D:=by
 have I:j∉O':=by rw[bP] at r;exact λz=>r.2.2 j z j (by simp) rfl
 cases hd:(ρ[j]?).join with
 |none=>
  obtain⟨B,w,f,b⟩:=h.ex;rw[l] at b;refine⟨G,.refl G,h.len,⟨B,w,f,(gh.snoc hd).mpr b⟩,λi d q k=>?_⟩;by_cases a:i=j
  ·subst a;rw[q] at hd;cases hd
  ·exact h.jj i d q (by simp[k,a])
 |some d=>
  have e:=gE hd;obtain⟨v,o,g,n,M,L,f,p,A,y,_,O⟩:=h.own r (by simp) e;have c:(o++(g++n)).Perm ((o++n)++g):=by rw[bw];exact cf _ aX
  have C:ip G ((o++n)++g):=f.perm c ((A.append y).append p.jJ);have m:=C.BU p.jJ;have t:=O (eD G g) m.same (C.BS (A.append y));have w:H=eD (eD G g) (o++n):=by rw[L,gu f.nd c,gq]
  rw[<-w] at t;have F:j<ρ.length:=(av.mp e).1;obtain⟨B,J,u,b⟩:=t.ex;rw[l] at b;have s:((ρ.set j Z)[j]?).join=Z:=by rw[aI F];rfl
  refine⟨eD G g,m.same,h.len,⟨B,J,u,((gh.snoc s).mpr b).other λi k=>?_⟩,λi N q k=>?_⟩
  ·have:j≠i:=λz=>I (z▸k);exact⟨(aq this).symm,rfl⟩
  ·by_cases a:i=j
   ·subst a;rw[e] at q;cases q;exact⟨v,M,p.Fp m.same λx E=>eO m.nd x E⟩
   ·exact t.jj i N (by rw[aq (Ne.symm a)];exact q) (by simp[k,a])
def fG.GJ(m:j∉O')(k:iI (O'++[j])=iI O')(h:fG O' K σ ρ H G):fG (O'++[j]) K σ (ρ.set j Z) H G:=by
 obtain⟨B,n,f,a⟩:=h.ex;rw[<-k] at a;have c:((ρ.set j Z)[j]?).join=Z:=by
  by_cases l:j<ρ.length
  ·rw[aI l];rfl
  ·rw[bH (by simpa using l)];rfl
 refine⟨by simpa using h.len,⟨B,n,f,(gh.snoc c).mp (a.other λi b=>?_)⟩,λi d q b=>?_⟩
 ·have:j≠i:=λz=>m (z▸b);exact⟨aq this,rfl⟩
 ·have g:i∉O':=λz=>b (by simp[z]);have e:j≠i:=λz=>b (by simp[z]);rw[aq e] at q;exact h.jj i d q g
end
noncomputable def MM(j:Nat):eY->eY
 |.nx ρ=>.nx (ρ.set j Z)
 |.bk ρ=>.bk (ρ.set j Z)
 |.ct ρ=>.ct (ρ.set j Z)
 |.rt d=>.rt d
def MN(j:Nat)(g:d9->Option eY):d9->Option eY:=λρ=>(g ρ).map (MM j)
def sr{O':List Nat}(j:Nat){i:List Stmt}(r:(O'++[j]).Nodup)(y:j≠0)(h:ny X m O' i g)(c:iI (O'++[j])=iI O':=by rfl):ny X m (O'++[j]) i (MN j g) :=
 tJ.imp h <| by
  rintro D σ H ⟨ρ,o,G,u,e,k⟩;have x:j∉O':=by rw[bP] at r;exact λz=>r.2.2 j z j (by simp) rfl
  obtain⟨t,A,rfl⟩:=ab.mp e;obtain⟨F,n,s⟩:=u.o.freeze r c;have v:∀(σ':St),(∀b a,m=.io b a->0∈O'++[j]/\σ'[0]?=Y (Y a)/\iI (O'++[j])=b)->∀b a,m=.io b a->0∈O'/\σ'[0]?=Y (Y a)/\iI O'=b:=λσ' w b a q=>by
   obtain⟨E,C,B⟩:=w b a q;refine⟨?_,C,c▸B⟩;rcases aC.mp E with z|z
   ·exact z
   ·exact absurd (by simpa using z:0=j).symm y
  have p:∀(σ':St) (ρ':d9) (H' f:Hp),iq m O' X.K σ' ρ' H' f->iq m (O'++[j]) X.K σ' (ρ'.set j Z) H' f:=λσ' ρ' H' f q=>⟨q.o.GJ x c,λb a z=>⟨by simp[(q.z b a z).1],(q.z b a z).2.1,c▸(q.z b a z).2.2⟩⟩
  refine⟨ρ,t,F,⟨s,v σ u.z⟩,A,?_⟩;cases t with
  |nx ρ'=>exact λσ' H' f l q=>k σ' H' f (n.trans l) (p _ _ _ _ q)
  |bk ρ'=>exact λσ' H' f l q=>k σ' H' f (n.trans l) (p _ _ _ _ q)
  |ct ρ'=>exact λσ' H' f l q=>k σ' H' f (n.trans l) (p _ _ _ _ q)
  |rt d=>exact K8.later n k
end
section
variable {m:Md}{a i:Expr}{es:Lx}{fb fc:d9->Od}{p2:Pos}
def yy{n:Int}{j:Nat}{q:Pos}:PD X (.UnaryOp .USub (.Constant (.int n) j q) pos) (zI (-n)) :=
 PE.imp (NI LY dm) <| by rintro σ H Q ⟨ρ,d,c,e,k⟩;cases e;exact⟨ρ,_,c,rfl,λv f a b=>⟨_,et.eG.mp b,k _ f a (et.eG.mpr rfl)⟩⟩
theorem JO(F:k9 X.prog X.w X.K X.mg x fX)(D:Gl X x)(E:PD X a fa)(C:behindInMarks .In (.Name x p)=false:=by with_unfolding_all rfl)(c:zg x:=by decide):Bq X (.Compare a [.In] [.Name x p] pos) (fB (λρ=>(fa ρ).bind (GH fX))):=by
 obtain⟨m,n,M,L,J,G⟩:=F.ex;have A:jD X (compareOp .In) (λy z H Q=>∃k:Key,y=kV k/\z=.ref m/\Q (.bl (valueAt n k).isSome) H):=by intro j s σ H y z v u Q I t r ⟨k,h,g,q⟩;subst h g;cases r;exact wpAny_in_of (mN t) L (J s.heap I.qP).mapOf ⟨.bl _,H,I.tok _,rfl,q⟩
 refine PT.imp (CZ A E (CT (v:=.ref m) D M rfl c) C) ?_;rintro σ H Q ⟨ρ,d,B,h,k⟩;obtain⟨y,g,P⟩:=bind_some (Dg h);obtain⟨l,O,N⟩:=ab.mp P;have:=fM O;subst this;refine⟨ρ,_,B,g,λv R o i=>⟨l,gi i,rfl,?_⟩⟩;have b:=k R o;cases N;rcases G l with ⟨f,e⟩ | ⟨W,S,T,f,e,V,U⟩
 ·rw[f] at b;rw[e];exact⟨_,rfl,b⟩
 ·rw[f] at b;rw[e];exact⟨_,rfl,b⟩
def OM(w:PF X e f):PV X O e (Jw f) :=
 PE.imp w <| by
  rintro σ H Q ⟨ρ,d,G,p,B,k⟩;obtain⟨x,A,b⟩:=bind_some B;by_cases a:Ep x=true
  ·rw[af a] at b;cases b;refine⟨ρ,d,p.full,A,λv E F n j r=>?_⟩;have m:ez H (eD E F):=n.trans j.same;obtain⟨D,g,y,h⟩:=p.grow m;refine k v _ D m g h ?_;cases d<;>try (simp[Ep] at a;done)
   rename_i I;obtain⟨q,o,rfl,rfl,s⟩:=r.cont rfl;rcases s with ⟨C,c,l,rfl,i⟩ | ⟨_,_,l,_⟩
   ·cases l;have t:H q=Z:=by
     cases u:H q with
     |none=>rfl
     |some z=>have:=n _ _ u;rw[j.free (q,.lst c) (by simp)] at this;cases this
    exact et.eK.mpr ⟨q,c,rfl,.inl (.inl (by rw[y q t];exact eO j.nd (q,.lst c) (by simp))),i.iK a⟩
   ·cases l
  ·rw[ag a] at b;cases b
end
section
open PySem.AutoSeq1 Builtin
def JP(p:Addr)(a:Array Value)(j:Nat)(q:Addr)(b:Array Value)(k:Nat)(i:Array Ow)(u:¬(!a.isEmpty&&Builtin.List.listTooLong (a.size+b.size))=true)(n:a.size<=sizeLine)(m:a.size+b.size<=sizeLine+1):
  Meets (Builtin.«list.extend» ⟨[.ref p,.ref q],[]⟩) (λ_ R s=>
   s.heap.get? p=Y ⟨.type "list",Z,.seq a j,#[]⟩/\s.heap.get? q=Y ⟨.type "list",Z,.seq b k,i⟩ /\
   R (.ok (.ret Value.none)) { s with heap:=s.heap.update p (Obj.mapSeq λz=>z++b),toks:=s.toks }) :=
 .of_wp λe w A R s h=>by
  obtain⟨t,g,d,o,r⟩:=s;obtain⟨f,l,h⟩:=h;have C:=PySem.AutoSeq1.idx_int;have B:=PySem.AutoSeq1.sub_tuple_tuple;have y:=PySem.AutoSeq1.sub_list_list;have x:=PySem.AutoSeq1.sub_tuple_list;have v:=PySem.AutoSeq1.sub_list_tuple;have c:(a++b).size<=sizeLine+1:=by rw[Array.size_append];exact m
  wp_walk using (b5 f rfl (hz:=n) (_hz':=c)),wpAny_loadPart' f,wpAny_loadPart' l
  exact⟨_,rfl,h⟩
end
section
variable {m:Md}{a i:Expr}{es:Lx}{fb fc:d9->Od}{p2:Pos}
noncomputable def Cd:Lp->Od
 |[.int i]=>Y (.int i)
 |[.bool b]=>Y (.int (if b then 1 else 0))
 |_=>Z
def MP:uu X (.type "int") Cd:=by
 refine gX.imp D6 ?_;rintro f H Q ⟨d,c,i,e,k⟩
 match d,e with
 |[.int j],e=>cases e;obtain⟨v,rfl,a⟩:=gg i;exact .inl ⟨j,by rw[et.eG.mp a],k.here (et.eG.mpr rfl)⟩
 |[.bool b],e=>cases e;obtain⟨v,rfl,a⟩:=gg i;exact .inr ⟨b,by rw[et.eN.mp a],k.here (et.eG.mpr rfl)⟩
def xn(x y:d8):Od:=match x,y with
 |.list xs,.list ys=>if xs.length+ys.length<=sizeLine then Y (.list (xs++ys)) else Z
 |_,_=>Z
def GK(z:PD X a fa)(y:PD X b fb):PF X (.BinOp a .Add b pos) (d2 xn fa fb) :=
 PE.imp (KS Df z y) <| by
  rintro σ H Q ⟨ρ,d,m,e,k⟩;obtain⟨u,D,C⟩:=bind_some e;obtain⟨v,B,c⟩:=bind_some C;obtain⟨g,rfl⟩:∃g,u=.list g:=by cases u<;>first|exact⟨_,rfl⟩|(cases v<;>cases c)
  obtain⟨f,rfl⟩:∃f,v=.list f:=by cases v<;>first|exact⟨_,rfl⟩|cases c
  dsimp only[xn] at c;by_cases h:g.length+f.length<=sizeLine
  ·rw[af h] at c;cases c;refine⟨ρ,_,m,D,λv F j x=>⟨ρ,_,m.same j,B,λw E i t=>?_⟩⟩;obtain⟨p,r,rfl,s,l⟩:=et.eK.mp (x.same i);obtain⟨q,o,rfl,A,n⟩:=et.eK.mp t;exact⟨p,q,r,o,rfl,rfl,s,A,by rw[<-l.length,<-n.length];exact h,(k.later (j.trans i)).qU (l.append n)⟩
  ·rw[ag h] at c;cases c
def ON(K:Fg):V->List V->Hp->VK->Prop:=λx d H Q=>∃l b c a,x=.ref l/\d=[.ref b]/\H l=Y (.lst c)/\jS K H b a/\c.length+a.length<=sizeLine/\Q .jj (upd H l (.lst (c++a)))
def JQ:N2 X "list.extend" (ON X.K):=by
 intro h s σ H x O v P Q I p t ⟨l,b,N,M,E,G,k,D,R,q⟩;subst E G;cases p;obtain⟨u,rfl,w⟩:=t.one;cases w;obtain⟨z,c,n,r,S,e⟩:=I.Ed k;obtain⟨a,g,⟨⟨L,T,m,o⟩,B,J,j,d,i⟩,C⟩:=I.list D;simp only at j d i;subst j d i;have A:=r.length;have y:=g.length;have f:c.toArray.size+a.toArray.size<=sizeLine:=by rw[ao,ao];omega
 refine cC cO ⟨_,e,rfl⟩ PySem.F.entry_list_extend (PySem.F.args_list_extend_2 _ _) (JP l c.toArray n b a.toArray B o (by rw[zJ f,Bool.and_false];exact aQ) (by rw[ao];omega) (by omega)) ⟨e,J,?_⟩;refine⟨.jj,_,I.FV (its':=c++a) k e (by simp) (r.append g) ?_,rfl,q⟩;rw[a6];omega
def nH{π:Pl} (i:O.Nodup) (W:PP X o π) (he:PV X O e f) (J:π.ix∈O:=by decide) (u:lM O π=false:=by rfl) (n:starEach [e] X.env=(false,eval e X.env)::starEach [] X.env:=by rfl)
  (g:attributeBase o "extend" X.env (eval o X.env)=eval o X.env:=by rfl)
  (t:((backTo fh (starEach [e] X.env)).all (λx=>!x.1)&&(backToKw fh (keywordEach [] X.env)).all (λx=>x.1.isSome)&&decide (([e]:Lx).length+([]:List Keyword).length+(if ([]:List Keyword).isEmpty then 0 else 1)<30))=true:=by rfl)
  (c:(apos.endLine==fh.line)=true:=by rfl) (a:(backTo fh (starEach [] X.env)).any (·.1)=false:=by rfl)
  (s:swapsWith (.Call (.Attribute o "extend" apos) [e] [] fh) Z pos.line X.env=pure false:=by rfl):
  oF X m O (.Expr (.Call (.Attribute o "extend" apos) [e] [] fh) pos) (oj π f) :=
 PS.imp (kW (rY ba cO PySem.F.type_list_extend JQ W (iE he kA n) g t c n a) s) <| by
  rintro D σ H ⟨ρ,o,G,s,e,k⟩;obtain⟨l,K,ea⟩:=bind_some e;obtain⟨d,e2,h⟩:=bind_some ea;obtain⟨E,rfl⟩:∃E,l=.list E:=by cases l<;>first|exact⟨_,rfl⟩|(cases d<;>cases h)
  obtain⟨C,rfl⟩:∃C,d=.list C:=by cases d<;>first|exact⟨_,rfl⟩|cases h
  dsimp only at h;by_cases A:E.length+C.length<=sizeLine
  ·rw[af A] at h;cases h;obtain⟨q,ob,r,V,S,_⟩:=s.o.place i J K rfl u;obtain⟨M,rfl,i4⟩:=S.lst;refine⟨q,r,.inl ⟨rfl,M,jS.of V⟩,ρ,_,G,s.o,e2,λv H' G' P Q p U=>?_⟩;obtain⟨b,L,rfl,N,I⟩:=et.eK.mp U;obtain⟨q',T,R,B,y,cl⟩:=p.place i J K rfl u;have:=pa.eq r R P;subst this;obtain⟨w,rfl,j⟩:=y.lst;refine⟨q,b,w,L,rfl,rfl,B,p.sub.seq N,by rw[<-j.length,<-I.length];exact A,?_⟩;exact k _ _ G' Q ⟨cl _ _ (.inl ⟨_,_,rfl,rfl,j.append I⟩),s.z⟩
  ·rw[ag A] at h;cases h
end
def Q5(K:Fg)(l:Addr)(n:Nat):It where
 go:=λi H=>i<n/\∃a,jS K H l a/\a.length=n
 Iy:=λi H y b=>b=H/\i<n/\∀a,jS K H l a->a[n - 1 - i]?=Y y
 stop:=λi _=>n<=i
def GL{P:Program}(l m:Addr)(n:Nat):zu P w K tg (Q5 K l n) [m] m (λi h=>i<=n/\h.IsRevIter m l ((n:Int) - 1 - (i:Int))) where
 mem:=by simp
 obj:=λi h f b p=>by
  have e:b=m:=by simpa using p
  subst e;obtain⟨_,o,e,c,d⟩:=f;exact⟨o,e,λv z=>by rw[d] at z;cases z⟩
 keep:=λi h r f k=>⟨f.1,f.2.at λo e=>k m (by simp) o e⟩
 item:=by
  intro X A hw B N i g s σ H E I q f y;subst A hw B;obtain⟨hi,t,M,hl⟩:=y;obtain⟨J,G,f2,F,D,C⟩:=q m (by simp);obtain⟨T,Q,S,hz⟩:=I.list M;have W:n - 1 - i<t.length:=by omega
  have L:t[n - 1 - i]?=Y t[n - 1 - i]:=aH W;obtain⟨u,V,R⟩:=Q.get L;have ei:(n:Int) - 1 - (i:Int)=((n - 1 - i:Nat):Int):=by omega
  have a:=f.2;rw[ei] at a;refine wpAny_pyNext_rev_item a S.isList (x:=u) (by simpa using V) λr j O=>?_;have I1:eE X g σ H { s with heap:=r,toks:=s.toks }:=I.turned (t':=s.toks) (λb o p e=>(O.2 b p).trans e) J G F D C;obtain⟨o,e,c,d⟩:=id j;have ej:((n - 1 - i:Nat):Int) - 1=(n:Int) - 1 - ((i+1:Nat):Int):=by omega
  rw[ej] at j;exact⟨_,rfl,ue (s:={ s with heap:=r,toks:=s.toks }) e c d (by decide) ⟨_,H,I1,R,⟨rfl,hi,λys U=>by rw[I.ub U M];exact L⟩,⟨by omega,j⟩,λb p=>(q b p).1⟩⟩
 done:=by
  intro X A hw B N i g s σ H E I q f y;subst A hw B;obtain⟨J,G,f2,F,D,C⟩:=q m (by simp);have UD:n<=i:=y;have:(n:Int) - 1 - (i:Int)=-1:=by have:=f.1;omega
  have a:=f.2;rw[this] at a;exact wpAny_pyNext_rev_end (I.ok.hd N) a λr eb=>⟨rfl,I.turned (t':=s.toks) (λb o p e=>eb b o p e) J G F D C⟩
 self:=λ_ _ _ _ _ f h=>wpAny_pyIter_revIter f.2 h
section
variable {m:Md}{a:Expr}{es:Lx}{fb fc:d9->Od}{p2:Pos}
def MQ{j:TE}(z:Gl X "reversed")(w:X.mg "reversed"=Z)(A:PE X e j)(m:starEach [e] X.env=[(false,eval e X.env)]:=by rfl):PI X tg (.Call (.Name "reversed" p) [e] [] pos) (λσ H R=>j σ H λv f=>∃l g,v=.ref l/\jS X.K f l g/\R (Q5 X.K l g.length) f):=by
 intro c s σ H R I h;refine aR (jk I z w (by rfl) ?_);refine aU ?_ (by rw[m];rfl) (by rfl);rw[m];refine aT (gd (@A c s σ H _ I h) ?_);rintro v a ⟨x,f,i,r,l,g,C,u,q⟩;refine aZ ?_;subst C;cases r;obtain⟨d,n,t,E⟩:=i.list u;have y:=n.length;refine call_reversed_list t.isList ?_;have k:({ a with heap:=a.heap.push (revObj l ((d.toArray.size:Int) - 1)) }:Shared).heap.IsRevIter (zB a) l ((g.length:Int) - 1 - ((0:Nat):Int)):=⟨_,ar _ rfl,rfl,by simp[revObj,y]⟩
 refine wpAny_pyIter_revIter k ?_;have D:eE X c σ f { a with heap:=a.heap.push (revObj l ((d.toArray.size:Int) - 1)) }:=i.kept (t':=a.toks) λb o e=>ah _ e;exact⟨_,[(zB a)],_,_,f,rfl,D,GL l _ _,⟨bL _,k⟩,λb B=>(by rw[show b=(zB a) by simpa using B];exact i.zt (ax _) (i.gr.fresh (ax _))),q⟩
noncomputable def OO(f:d9->Od):d9->Option Lp:=λρ=>(f ρ).bind λd=>match d with | .list ds=>Y ds.reverse|_=>Z
def Ce{a:Hp}{l:Addr}(j:jS K a l vs)(h:dv K a ds vs):ke K (Q5 K l vs.length) ds.reverse a:=λs b=>by have e:=h.length;refine⟨by show vs.length<=_;simp[e],λi d q=>?_⟩;have f:i<ds.reverse.length:=(av.mp q).1;rw[cL] at f;refine⟨⟨by omega,vs,b.seq j,rfl⟩,?_⟩;rintro y r ⟨n,p,m⟩;subst n;refine⟨.refl _,λt k _=>?_⟩;have c:=m vs (b.seq j);rw[List.getElem?_reverse f] at q;obtain⟨v,g,o⟩:=h.get q;rw[e] at g;rw[g] at c;cases c;exact o.same k
def JR(q:Gl X "reversed")(o:X.mg "reversed"=Z)(h:PD X e f)(a:starEach [e] X.env=[(false,eval e X.env)]:=by rfl):Jy X tg (.Call (.Name "reversed" p) [e] [] pos) (OO f) :=
 PI.imp (MQ q o h a) <| by
  rintro σ H R ⟨ρ,t,a,e,k⟩;obtain⟨d,r,g⟩:=bind_some e;obtain⟨b,rfl⟩:∃b,d=.list b:=by cases d<;>first|exact⟨_,rfl⟩|cases g
  cases g;refine⟨ρ,_,a,r,λv s j n=>?_⟩;obtain⟨l,i,rfl,c,m⟩:=et.eK.mp n;exact⟨l,i,rfl,c,k _ s j (Ce c m)⟩
end
end L2
namespace L2
open PySem PySem.Spec PyProof.Rows PySem.Builtin PySem.Builtin.Str
section
variable {m:Md}{a:Expr}{p2:Pos}{UE:List Stmt}
end
end L2
namespace L2
open PySem PySem.Spec PyProof.Rows
noncomputable def Ao(k v:d8):List (d8×d8)->List (d8×d8)
 |[]=>[]
 | (y,d)::r=>if iA y k=true then (y,v)::r else (y,d)::Ao k v r
section
theorem Br.split{o:Lp}:∀{ds:Lp}{vs:List V}{B:List (Addr×HO)}{j:Nat},Br K G ds vs B->ds[j]?=Y (.list o) ->
  ∃p h l k,vs[j]?=Y (.ref p)/\B=l++(p,.lst h)::k/\dv K G o h/\∀g f,dv K G g f->Br K G (ds.set j (.list g)) vs (l++(p,.lst f)::k)
 |[],_,_,_,_,e=>by simp at e
 |d::ds,_,_,0,⟨v,Gh,l,k,a,b,c,t⟩,e=>by
  rw[List.getElem?_cons_zero] at e;cases e;subst a b;rcases c with ⟨c,_⟩ | ⟨g,p,h,n,rfl,rfl,i⟩
  ·cases c
  ·cases n;exact⟨p,h,[],k,rfl,rfl,i,λg f m=>⟨_,_,[(p,.lst f)],k,rfl,rfl,.inr ⟨g,p,f,rfl,rfl,rfl,m⟩,t⟩⟩
 |d::ds,_,_,j+1,⟨v,Gh,l,k,a,b,c,t⟩,e=>by rw[cz] at e;subst a b;obtain⟨p,h,r,q,n,rfl,i,s⟩:=Br.split t e;exact⟨p,h,l++r,q,n,by simp,i,λg f m=>⟨_,_,l,r++(p,.lst f)::q,rfl,by simp,c,s g f m⟩⟩
theorem Br.length:∀{ds:Lp}{vs:List V}{B:List (Addr×HO)},Br K G ds vs B->ds.length=vs.length
 |[],_,_,h=>by rw[h.1];rfl
 |_::_,_,_,⟨v,Gh,B1,B2,a,b,c,t⟩=>by rw[a,aD,aD,t.length]
theorem qM.split{w:Lp}{y:Key}:∀{h:List (d8×d8)}{s:List (Key×V)}{B:List (Addr×HO)},qM K G h s B->iU (gW y) h=Y (.list w) ->
  ∃p j n m,ka s y=Y (.ref p)/\B=n++(p,.lst j)::m/\dv K G w j/\∀g f,dv K G g f->qM K G (Ao (gW y) (.list g) h) s (n++(p,.lst f)::m)
 |[],_,_,_,e=>by cases e
 | (k,d)::r,_,_,⟨z,v,r',n,m,a,a2,b,c,t⟩,e=>by
  subst a a2 b;rw[iU] at e;by_cases q:z=y
  ·subst q;have l:iA (gW z) (gW z)=true:=by rw[gQ];simp
   rw[af l] at e;cases e;rcases c with ⟨c,_⟩ | ⟨g,p,j,o,rfl,rfl,i⟩
   ·cases c
   ·cases o;refine⟨p,j,[],m,by simp[ka],rfl,i,λg f u=>?_⟩;rw[Ao,af l];exact⟨z,_,r',[(p,.lst f)],m,rfl,rfl,rfl,.inr ⟨g,p,f,rfl,rfl,rfl,u⟩,t⟩
  ·have l:¬ iA (gW z) (gW y)=true:=by rw[gQ];simpa using q
   rw[ag l] at e;obtain⟨p,j,A,x,o,rfl,i,C⟩:=qM.split t e;refine⟨p,j,n++A,x,?_,by simp,i,λg f u=>?_⟩
   ·unfold ka at o ⊢;rw[bK,aV q];exact o
   ·rw[Ao,ag l];exact⟨z,v,r',n,A++(p,.lst f)::x,rfl,rfl,by simp,c,C g f u⟩
theorem qM.any{y:Key}:∀{e:List (d8×d8)}{f:List (Key×V)}{B:List (Addr×HO)},qM K G e f B->(f.any λx=>decide (x.1=y))=e.any λx=>iA x.1 (gW y)
 |[],_,_,h=>by rw[h.1];rfl
 | (k,d)::r,_,_,⟨z,v,r',B1,B2,a,a2,b,c,t⟩=>by subst a a2;rw[bM,bM,qM.any t,gQ]
theorem qM.length:∀{e:List (d8×d8)}{f:List (Key×V)}{B:List (Addr×HO)},qM K G e f B->e.length=f.length
 |[],_,_,h=>by rw[h.1];rfl
 | (k,d)::r,_,_,⟨z,v,r',B1,B2,a,a2,b,c,t⟩=>by rw[a,aD,aD,t.length]
theorem qM.snoc{y:Key}{d:d8}{v:V}{B':List (Addr×HO)}(i:IA K G d v B'):∀{e:List (d8×d8)}{f:List (Key×V)}{B:List (Addr×HO)},qM K G e f B->qM K G (e++[(gW y,d)]) (f++[(y,v)]) (B++B')
 |[],_,_,h=>by obtain⟨rfl,rfl⟩:=h;exact⟨y,v,[],B',[],rfl,rfl,by simp,i,rfl,rfl⟩
 | (k,x)::r,_,_,⟨z,u,r',j,g,a,a2,b,c,t⟩=>by subst a a2 b;exact⟨z,u,_,j,g++B',rfl,rfl,by simp,c,qM.snoc i t⟩
end
noncomputable def OP:Od->Option Lp
 |some (.list us)=>Y us
 |_=>Z
def Ap{o:Od}{a:Lp}(h:OP o=Y a):o=Y (.list a):=by
 cases o with
 |none=>cases h
 |some d=>cases d<;>first|(cases h;rfl)|cases h
noncomputable def Cf(l a:d8):Option Lp:=match l with
 |.list ds=>match a with | .int i=>OP (qR ds i)|_=>Z
 |.dict fX=>if eT fX=true then Z else (kF a).bind λ_=>OP (iU a fX)
 |_=>Z
noncomputable def xo(l a:d8)(b:Lp):d8:=match l,a with
 |.list ds,.int i=>match Ec ds.length i with|some j=>.list (ds.set j (.list b))|none=>l
 |.dict fX,a=>.dict (Ao a (.list b) fX)
 |l,_=>l
section
variable {m:Md}{a:Expr}{fb fc fk:d9->Od}{p2:Pos}
def OQ(K:Fg)(σ:St)(H:Hp)(c:d8)(q p:Addr):Prop:=(∃a i,H q=Y (.lst a)/\c=.int i/\qR a i=Y (.ref p))\/∃b y,H q=Y (.dK b)/\c=gW y/\ka b y=Y (.ref p)
def OQ.eq{n:Hp}{l:d8}{q p k:Addr}(s:OQ K σ H l q p)(m:OQ K σ n l q k)(e:ez H n):p=k:=by
 rcases s with ⟨t,i,d,j,h⟩ | ⟨u,y,d,j,h⟩
 ·rcases m with ⟨f,r,a,c,b⟩ | ⟨g,o,a,c,b⟩
  ·rw[e _ _ d] at a;cases a;rw[j] at c;cases c;rw[h] at b;cases b;rfl
  ·rw[e _ _ d] at a;cases a
 ·rcases m with ⟨f,r,a,c,b⟩ | ⟨g,o,a,c,b⟩
  ·rw[e _ _ d] at a;cases a
  ·rw[e _ _ d] at a;cases a;have:=F4 (j.symm.trans c);subst this;rw[h] at b;cases b;rfl
theorem fG.inner(B:O.Nodup)(h:fG O K σ ρ H G){π:Pl}{l J:d8}{M:Lp}(hi:π.ix∈O)(D:lM O π=true)(hd:uF π ρ=Y l)(e:Cf l J=Y M):
  ∃q p u,pa K σ H π q/\H p=Y (.lst u)/\dv K G M u/\OQ K σ H J q p /\
   ∀b a,dv K G b a->fG O K σ (sL π (xo l J b) ρ) (upd H p (.lst a)) G:=by
 cases l<;>try (simp[Cf] at e;done)
 ·rename_i E;cases J<;>try (simp[Cf] at e;done)
  rename_i i;have f:=Ap (show OP (qR E i)=Y M from e);obtain⟨q,ob,Bi,o,n,r,g,c,Q,P,A,I⟩:=h.uG B hi hd rfl;rw[D] at A I;rcases A with ⟨RU,d,x,rfl,m⟩ | ⟨_,_,x,_⟩
  ·cases x;have hl:=m.length;unfold qR at f;cases L:Ec E.length i with
   |none=>rw[L] at f;cases f
   |some j=>
    rw[L] at f;obtain⟨p,u,t,s,X,rfl,R,z⟩:=m.split (show E[j]?=_ from f);have k:∀a:List V,o++((q,HO.lst d)::((t++(p,HO.lst a)::s)++n))=(o++(q,HO.lst d)::t)++(p,HO.lst a)::(s++n):=λa=>by simp
    have W:qR d i=Y (.ref p):=by unfold qR;rw[<-hl,L];exact X
    have T:H q=Y (.lst d):=by rw[g];exact eO c.nd (q,.lst d) (by simp)
    rw[k] at g c;refine⟨q,p,u,r,by rw[g];exact eO c.nd (p,.lst u) (by simp),R,.inl ⟨d,i,T,rfl,W⟩,λb a S=>?_⟩;have F:=z b a S;have ep:xo (.list E) (.int i) b=.list (E.set j (.list b)):=by simp only[xo,L]
    have N:lL (o++((q,HO.lst d)::((t++(p,HO.lst a)::s)++n))):=Q.append (.one aN (F.jJ.append P));have w:ip G ((o++(q,HO.lst d)::t)++(p,HO.lst a)::(s++n)):=c.put (by rw[<-k];exact N);rw[g,iJ c.nd,ep,<-k];exact I G _ _ _ (.refl G) (.inl ⟨_,d,rfl,rfl,F⟩) (by rw[k];exact w)
  ·cases x
 ·rename_i C;unfold Cf at e;dsimp only at e;by_cases U:eT C=true
  ·rw[af U] at e;cases e
  rw[ag U] at e;obtain⟨y,e0,f⟩:=bind_some e;have f:=Ap f;have:=fM e0;subst this;obtain⟨q,ob,Bi,o,n,r,g,c,Q,P,A,I⟩:=h.uG B hi hd (by show (!eT C)=true;simpa using U);rw[D] at A I;rcases A with ⟨_,_,x,_⟩ | ⟨Q6,v,x,rfl,m⟩
  ·cases x
  ·cases x;obtain⟨p,u,t,s,X,rfl,R,z⟩:=m.split f;have k:∀a:List V,o++((q,HO.dK v)::((t++(p,HO.lst a)::s)++n))=(o++(q,HO.dK v)::t)++(p,HO.lst a)::(s++n):=λa=>by simp
   have T:H q=Y (.dK v):=by rw[g];exact eO c.nd (q,.dK v) (by simp)
   rw[k] at g c;refine⟨q,p,u,r,by rw[g];exact eO c.nd (p,.lst u) (by simp),R,.inr ⟨v,y,T,rfl,X⟩,λb a S=>?_⟩;have F:=z b a S;have N:lL (o++((q,HO.dK v)::((t++(p,HO.lst a)::s)++n))):=Q.append (.one aN (F.jJ.append P));have w:ip G ((o++(q,HO.dK v)::t)++(p,HO.lst a)::(s++n)):=c.put (by rw[<-k];exact N);rw[g,iJ c.nd,<-k];exact I G _ _ _ (.refl G) (.inr ⟨_,v,rfl,rfl,F⟩) (by rw[k];exact w)
noncomputable def Cg(π:Pl)(c f:d9->Od):d9->Option eY:=λρ=>(uF π ρ).bind λl=>(c ρ).bind λb=>(Cf l b).bind λa=>(f ρ).bind λd=>if a.length<sizeLine then Y (.nx (sL π (xo l b (a++[d])) ρ)) else Z
def EB(hu:X.A.units+64<cLine) {π:Pl}{k:Expr}{b:Pos} (C:O.Nodup) (ho:PP X o π) (hk:PV X O k fk) (he:PV X O e f) (T1:oa k) (W:zT k) (hO:π.ix∈O:=by decide) (I:lM O π=true:=by rfl)
  (U:starEach [e] X.env=(false,eval e X.env)::starEach [] X.env:=by rfl)
  (J:attributeBase (.Subscript o k b) "append" X.env (eval (.Subscript o k b) X.env)=eval (.Subscript o k b) X.env:=by rfl)
  (Q7:((backTo fh (starEach [e] X.env)).all (λx=>!x.1)&&(backToKw fh (keywordEach [] X.env)).all (λx=>x.1.isSome)&&decide (([e]:Lx).length+([]:List Keyword).length+(if ([]:List Keyword).isEmpty then 0 else 1)<30))=true:=by rfl)
  (E:(apos.endLine==fh.line)=true:=by rfl) (s:(backTo fh (starEach [] X.env)).any (·.1)=false:=by rfl)
  (P:swapsWith (.Call (.Attribute (.Subscript o k b) "append" apos) [e] [] fh) Z pos.line X.env=pure false:=by rfl):
  oF X m O (.Expr (.Call (.Attribute (.Subscript o k b) "append" apos) [e] [] fh) pos) (Cg π fk f) :=
 PS.imp (kW (rY ba PySem.F.slot_list_append PySem.F.type_list_append qS (PE.or (C7 xW ho hk T1) (x3 (by omega) ho hk W)) (iE he kA U) J Q7 E U s) P) <| by
  rintro D σ H ⟨ρ,o,G,P,e,kk⟩;obtain⟨l,e1,ea⟩:=bind_some e;obtain⟨kd,e2,eb⟩:=bind_some ea;obtain⟨us,e3,ec⟩:=bind_some eb;obtain⟨d,e4,ed⟩:=bind_some ec;by_cases hz:us.length<sizeLine
  ·rw[af hz] at ed;cases ed;obtain⟨q,p,ws,r,hp,iw,al,_⟩:=P.o.inner C hO I e1 e3;have B:∀(R:Addr) (H1 j:Hp),ez H H1->ez G j->fG O X.K σ ρ H1 j->OQ X.K σ H1 kd q R->(∃c,H1 R=Y (.lst c))/\∀(u:V) (t w:Hp),ez H1 t->ez j w->fG O X.K σ ρ t w->et X.K w d u ->
     ∃a,t R=Y (.lst a)/\a.length<sizeLine/\D.nx σ (upd t R (.lst (a++[u]))):=λR H1 j n Q L a1=>by
    obtain⟨q1,p2,c,r1,h,UG,M,_⟩:=L.inner C hO I e1 e3;have:=pa.eq r r1 n;subst this;have:=a1.eq M (.refl H1);subst this;refine⟨⟨c,h⟩,λu t w N g h2 T=>?_⟩;obtain⟨q2,p3,a,r2,Nk,S,b2,cl⟩:=h2.inner C hO I e1 e3;have:=pa.eq r1 r2 N;subst this;have:=a1.eq b2 N;subst this;exact⟨a,Nk,by rw[<-S.length];exact hz,kk _ _ w (Q.trans g) ⟨cl _ _ (S.append (dv.cons T dv.nil)),P.z⟩⟩
   rcases al with ⟨xs,i,M,b2,b3⟩ | ⟨kv,y,M,b2,b3⟩
   ·subst b2;refine .inl ⟨q,r,ρ,.int i,G,P.o,e2,λv H1 j n Q L i1=>⟨q,xs,i,.ref p,rfl,et.eG.mp i1,jS.of (n _ _ M),b3,?_⟩⟩;obtain⟨⟨c,h⟩,tl⟩:=B p H1 j n Q L (.inl ⟨xs,i,n _ _ M,rfl,b3⟩);refine⟨.inl ⟨rfl,c,jS.of h⟩,ρ,d,j,L,e4,λu t w N g h2 T=>?_⟩;obtain⟨a,c1,c2,c3⟩:=tl u t w N g h2 T;exact⟨p,a,u,rfl,rfl,c1,c2,c3⟩
   ·subst b2;refine .inr ⟨q,r,ρ,gW y,G,P.o,e2,λv H1 j n Q L i1=>⟨q,.ref p,rfl,by rw[gi i1,<-b3];exact lq.k (n _ _ M),?_⟩⟩;obtain⟨⟨c,h⟩,tl⟩:=B p H1 j n Q L (.inr ⟨kv,y,n _ _ M,rfl,b3⟩);refine⟨.inl ⟨rfl,c,jS.of h⟩,ρ,d,j,L,e4,λu t w N g h2 T=>?_⟩;obtain⟨a,c1,c2,c3⟩:=tl u t w N g h2 T;exact⟨p,a,u,rfl,rfl,c1,c2,c3⟩
  ·rw[ag hz] at ed;cases ed
def GN(f:d9->Od)(i:Nat):d9->Option eY:=λρ=>(f ρ).bind λd=>if i<ρ.length/\qW d=true then Y (.nx (ρ.set i (Y d))) else Z
def Aq{d:d8}(h:qW d=true):nv d=true:=by
 cases d<;>try (cases h;done)
 ·rfl
 ·rename_i b;cases b with
  |nil=>rfl
  |cons a l=>cases h
def GO(i:Nat) {a:Pos} (C:X.N.Nodup) (h:O.Nodup) (A:MB X O e f) (B:i∈O:=by decide) (h0:i≠0\/m=.dat\/m=.own:=by first|exact .inl (by decide)|exact .inr (.inl rfl)|exact .inr (.inr rfl)) (w:X.N[i]?=Y x:=by rfl) (u:CQ X.env.scope x:=by first|exact bW rfl|exact bz rfl) (c:swapsWith e (Y (.Name x a)) pos.line X.env=pure false:=by rfl)
  (y:X.fn x=true\/X.env.scope.names.lookup x=Y .local:=by first|exact .inl rfl|exact .inr rfl|assumption):oF X m O (.Assign [.Name x a] e pos) (GN f i) :=
 PS.imp (xP C w u A c y) <| by
  rintro D σ H ⟨ρ,o,G,c,e,k⟩;obtain⟨d,I,g⟩:=bind_some e;by_cases b:i<ρ.length/\qW d=true
  ·rw[af b] at g;cases g;refine⟨ρ,d,G,c.o,I,λv L M P _ n j F r=>?_⟩;obtain⟨q,t,rfl,rfl,s⟩:=r.cont (Aq b.2);obtain⟨K,p,E⟩:=j.new h B b.1 (.inl ⟨q,t,[],rfl,rfl,s.gen (.inr b.2)⟩) F;refine k _ _ K (n.trans p) ⟨E,λJ l z=>?_⟩;rcases h0 with h0|h0|h0
   ·rw[aq h0];exact c.z J l z
   ·rw[h0] at z;cases z
   ·rw[h0] at z;cases z
  ·rw[ag b] at g;cases g
def Lg(e:(B.map (·.1)).Nodup)(f:∀x∈B,H x.1=Y x.2):∃G,H=eD G B/\(∀x∈B,G x.1=Z)/\∀a,(∀x∈B,x.1≠a)->G a=H a:=by
 let G:Hp:=λa=>if (∃x∈B,x.1=a) then Z else H a
 have d:∀a,(∀x∈B,x.1≠a)->G a=H a:=λa c=>ag λ⟨x,b,z⟩=>c x b z;have g:∀x∈B,G x.1=Z:=λx b=>af ⟨x,b,rfl⟩;exact⟨G,oh e f λa c=>(d a c).symm,g,d⟩
def GP(π:Pl)(b f:d9->Od):d9->Option eY:=λρ=>(uF π ρ).bind λl=>(f ρ).bind λd=>(b ρ).bind λa=>match l with
 |.dict fX=>if fX.length<sizeLine/\eT fX=false/\QI d=true/\(fX.any λx=>iA x.1 a)=false then (kF a).map λ_=>.nx (sL π (.dict (fX++[(a,d)])) ρ) else Z
 |_=>Z
theorem GQ(hu:X.A.units+64<cLine) {π:Pl}{b:Pos} (Q:O.Nodup) (ho:PP X o π) (hk:PV X O a fa) (he:MB X O e f) (hO:π.ix∈O:=by decide) (Q8:lM O π=true:=by rfl)
  (ha:∀v,assign (.Subscript o a b) X.env v=(do
   let ov <-holding [v] (eval o X.env);let iv <-holding [v,ov] (eval a X.env)
   standAt b
   holding [v,ov,iv] (setItem ov iv v)
   release [v,ov,iv] []):=by intro _;rfl)
  (W:swapsWithSole [.Subscript o a b] e pos.line X.env=pure false:=by rfl) (hw:swappedStores [.Subscript o a b] e X.env=pure Z:=by rfl)
  (I:(assignEach [.Subscript o a b] X.env).map (·.2)=[assign (.Subscript o a b) X.env]:=by rfl):
  oF X m O (.Assign [.Subscript o a b] e pos) (GP π fa f) :=
 PS.imp (Bv he (Bu ho hk (BZ hu) ha) W hw I) <| by
  rintro D σ H ⟨ρ,o,G,W,e,k⟩;obtain⟨l,e1,ea⟩:=bind_some e;obtain⟨d,e2,eb⟩:=bind_some ea;obtain⟨kd,e3,J⟩:=bind_some eb;cases l<;>try (cases J;done)
  rename_i h;dsimp only at J;by_cases hz:h.length<sizeLine/\eT h=false/\QI d=true/\(h.any λx=>iA x.1 kd)=false
  ·rw[af hz] at J;obtain⟨z1,z2,z3,z4⟩:=hz;obtain⟨u,e5,rfl⟩:=ab.mp J;have:=fM e5;subst this;obtain⟨M,rfl⟩:∃M,d=.list M:=by cases d<;>first|exact⟨_,rfl⟩|cases z3
   have hc:nv (.dict h)=true:=by show (!eT h)=true;rw[z2];rfl
   refine⟨ρ,_,G,W.o,e2,λv L G1 B1 Q2 T2 I fB ot=>?_⟩;obtain⟨p,ob,rfl,rfl,oc⟩:=ot.cont rfl;obtain⟨c,rfl,iw⟩:=oc.lst;have R:L p=Z:=fB.free (p,.lst c) (by simp);obtain⟨q,o',i,r,n,r1,eH,fm,k1,k2,og,cl⟩:=I.uG Q hO e1 hc;rw[Q8] at og cl;rcases og with ⟨_,_,z,_⟩ | ⟨Q6,g,z,rfl,F⟩
   ·cases z
   cases z;have w:ez L (eD L [(p,HO.lst c)]):=fB.same;obtain⟨G2,UH,_,h2⟩:=I.grow w;obtain⟨q2,_,_,_,_,r2,_⟩:=h2.uG Q hO e1 hc;have:=pa.eq r1 r2 w;subst this;refine⟨q,r2,ρ,_,G2,h2,e3,λUI H3 G3 N UJ h3 i3=>?_⟩;have P:ez L H3:=w.trans N;have T3:H3 p=Y (.lst c):=N _ _ (eO (B:=[(p,HO.lst c)]) (by simp) (p,.lst c) (by simp));have U:∀x∈r++((q,HO.dK g)::(i++n)),L x.1=Y x.2:=λx j=>by rw[eH];exact eO fm.nd x j
   have QH:∀x∈r++((q,HO.dK g)::(i++n)),x.1≠p:=λx j z=>by have:=U x j;rw[z,R] at this;cases this
   have s:∀y:HO,((p,HO.lst c)::(r++((q,y)::(i++n)))).Perm (r++((q,y)::((i++[(p,HO.lst c)])++n))):=λy=>by
    have I:r++((q,y)::((i++[(p,HO.lst c)])++n))=(r++((q,y)::i))++((p,HO.lst c)::n):=by simp
    have h2:(p,HO.lst c)::(r++((q,y)::(i++n)))=(p,HO.lst c)::((r++((q,y)::i))++n):=by simp
    rw[I,h2];exact List.perm_middle.symm
   have C:((r++((q,HO.dK g)::((i++[(p,HO.lst c)])++n))).map (·.1)).Nodup:=by refine((s (HO.dK g)).map (·.1)).nodup_iff.mp ?_;rw[az,bp];refine⟨λz=>?_,fm.nd⟩;obtain⟨x,j,ex⟩:=aJ.mp z;exact QH x j ex
   have T:∀x∈r++((q,HO.dK g)::((i++[(p,HO.lst c)])++n)),H3 x.1=Y x.2:=λx j=>by
    rcases ak.mp ((s (HO.dK g)).mem_iff.mpr j) with rfl|j
    ·exact T3
    ·exact P _ _ (U x j)
   obtain⟨V,T4,T5,g4⟩:=Lg C T;have t:ez G1 V:=λa oo ga=>by
    have E:L a=Y oo:=by rw[eH];exact fm.same _ _ ga
    rw[g4 a λx j z=>?_]
    ·exact P _ _ E
    ·rcases ak.mp ((s (HO.dK g)).mem_iff.mpr j) with rfl|j
     ·have z':p=a:=z;rw[<-z',R] at E;cases E
     ·have:=fm.free x j;rw[z,ga] at this;cases this
   have S:(g.any λx=>decide (x.1=u))=false:=by rw[F.any];exact z4
   have T6:putK g u (.ref p)=g++[(u,.ref p)]:=by unfold putK;rw[ag (by rw[S];simp)]
   have d4:qM X.K V (h++[(gW u,.list M)]) (g++[(u,.ref p)]) (i++[(p,.lst c)]):=(F.same t).snoc (.inr ⟨M,p,c,rfl,rfl,rfl,iw.same t⟩);have T7:lL (r++((q,HO.dK (g++[(u,.ref p)]))::((i++[(p,HO.lst c)])++n))):=k1.append (.one aN (d4.jJ.append k2));have T8:ip V (r++((q,HO.dK g)::((i++[(p,HO.lst c)])++n))):=⟨C,T5,k1.append (.one aN (d4.jJ.append k2))⟩
   refine⟨q,g,u,rfl,gi i3,T (q,.dK g) (by simp),by rw[<-F.length];exact z1,?_⟩;have fin:=cl V (.dict (h++[(gW u,.list M)])) (.dK (g++[(u,.ref p)])) (i++[(p,.lst c)]) t (.inr ⟨_,_,rfl,rfl,d4⟩) (T8.put T7);rw[T6,T4,iJ C];exact k _ _ V (T2.trans t) ⟨fin,W.z⟩
  ·rw[ag hz] at J;cases J
end
section
variable {m:Md}{a:Expr}{fb fc:d9->Od}{p2:Pos}
def nJ(x k z:d8):Od:=match x with
 |.dict fX=>if eT fX=true then Z else (kF k).bind λ_=>Y ((iU k fX).getD z)
 |_=>Z
noncomputable def d3(g:d8->d8->d8->Od)(c b a:d9->Od):d9->Od:=λρ=>(c ρ).bind λx=>(b ρ).bind λy=>(a ρ).bind λz=>g x y z
def Ar(T:X.A.units+64<cLine)(L:PD X o fa)(K:PD X e fb)(J:PD X c fc)(m:M2 X o "get" apos e c fh):PD X (.Call (.Attribute o "get" apos) [e,c] [] fh) (d3 nJ fa fb fc) :=
 PE.imp (F3 (by omega) L K J m) λσ H Q h=>by
  obtain⟨ρ,d,n,e,k⟩:=h;obtain⟨x,P,e⟩:=bind_some e;obtain⟨y,O,e⟩:=bind_some e;obtain⟨z,R,e⟩:=bind_some e;refine⟨ρ,x,n,P,λv H1 i I=>?_⟩;obtain⟨a,rfl⟩:∃a,x=.dict a:=by cases x<;>first|exact⟨_,rfl⟩|(simp[nJ] at e)
  unfold nJ at e;by_cases q:eT a=true
  ·dsimp only at e;rw[af q] at e;cases e
  ·dsimp only at e;rw[ag q] at e;obtain⟨D,N,f⟩:=bind_some e;obtain⟨p,E,rfl,B,M⟩:=I.kZ (by simpa using q);refine⟨p,rfl,.inl ⟨E,B⟩,ρ,y,n.same i,O,λu W b G=>⟨ρ,z,n.same (i.trans b),R,λw V g F=>?_⟩⟩;have:=fM N;subst this;rw[gi G];refine⟨_,lq.r (g.rd (b.rd B)),?_⟩;have s:=M.same (b.trans g);have t:=k.later (i.trans (b.trans g));rcases s.val (y:=D) with ⟨l,j⟩ | ⟨U,S,l,j,C⟩
   ·rw[l] at f;cases f;rw[j];exact t.here F
   ·rw[l] at f;cases f;rw[j];exact t.here C
def MT(π:Pl):d9->Option (d8×d9):=λρ=>(uF π ρ).bind λl=>match l with
 |.list ds=>ds.getLast?.bind λd=>if lN d=true then Y (d,sL π (.list ds.dropLast) ρ) else Z
 |_=>Z
def MU{π:Pl} (g:O.Nodup) (w:PP X o π) (y:π.ix∈O:=by decide) (j:lM O π=false:=by rfl)
  (b:attributeBase o "pop" X.env (eval o X.env)=eval o X.env:=by rfl) (a:(apos.endLine==fh.line)=true:=by rfl):
  PX X O (.Call (.Attribute o "pop" apos) [] [] fh) (MT π) :=
 PE.imp (FU ba PySem.F.slot_list_pop PySem.F.type_list_pop FW w b a) <| by
  rintro σ H Q ⟨ρ,d,ρ',G,u,e,k⟩;obtain⟨l,C,m⟩:=bind_some e;obtain⟨f,rfl⟩:∃f,l=.list f:=by cases l<;>first|exact⟨_,rfl⟩|cases m
  dsimp only at m;obtain⟨D,B,c⟩:=bind_some m;by_cases i:lN D=true
  ·rw[af i] at c;cases c;obtain⟨q,I,r,p,t,E⟩:=u.place g y C rfl j;obtain⟨n,rfl,h⟩:=t.lst;have x:=h.length;have A:f[f.length - 1]?=Y d:=by rw[<-List.getLast?_eq_getElem?];exact B
   obtain⟨v,s,z⟩:=h.get A;rw[x] at s;exact⟨q,r,.inl ⟨rfl,n,jS.of p⟩,q,n,v,rfl,rfl,p,s,k v _ G (.refl G) (E _ _ (.inl ⟨_,_,rfl,rfl,h.dropLast⟩)) λF=>z.iK i⟩
  ·rw[ag i] at c;cases c
def GR(h:d9->Option (d8×d9))(i:Nat):d9->Option eY:=λρ=>(h ρ).map λr=>.nx (r.2.set i (Y r.1))
def GS(i:Nat) {h:d9->Option (d8×d9)}{a:Pos} (s:X.N.Nodup) (p:PX X O e h) (q:i∉O:=by decide) (l:X.N[i]?=Y x:=by rfl) (j:CQ X.env.scope x:=by first|exact bW rfl|exact bz rfl) (b:swapsWith e (Y (.Name x a)) pos.line X.env=pure false:=by rfl)
  (n:X.fn x=true\/X.env.scope.names.lookup x=Y .local:=by first|exact .inl rfl|exact .inr rfl|assumption):oF X m O (.Assign [.Name x a] e pos) (GR h i) :=
 PS.imp (xP s l j p b n) <| by rintro D σ H ⟨ρ,o,G,b,e,k⟩;obtain⟨r,t,rfl⟩:=ab.mp e;exact⟨ρ,r.1,r.2,G,b.o,t,λv u d f c g=>k _ u d f (iq.set ⟨c,b.z⟩ q (g d))⟩
end
section
variable {s:Shared}
end
section
variable {m:Md}{a:Expr}{fb fc:d9->Od}{p2:Pos}
theorem ke.d{K:Fg}{J:It}{ds:Lp}{H:Hp}(h:ke K J ds H):yb K J ds H:=λH' s'=>by obtain⟨a,b⟩:=h H' s';refine⟨a,λi d q=>?_⟩;obtain⟨g,y⟩:=b i d q;refine⟨g,λx e z=>?_⟩;obtain⟨c,k⟩:=y x e z;exact⟨c,k e (s'.trans c) λ_ _=>rfl⟩
theorem Jy.d{b a:Expr}{q:d9->Option Lp}(h:Jy X b a q):Fo X b a q:=PI.imp h <| by rintro σ H R ⟨ρ,ds,f,e,k⟩;exact⟨ρ,ds,f,e,λJ g c w=>k J g c w.d⟩
end
structure uX (P:Program) (w:World) (K:Fg) (mg:Str->Ow) (base:Heap) (c m:Str) (k n:Nat) (f:Lp->Od):Prop where
 ex:∃C a fd ps,iO K c C/\D9 K C/\Ea K C m a/\jl P w K mg base tK k a fd ps (QM K n f)/\jd K fd ps []
section
variable {m:Md}{a:Expr}{es:Lx}{fb fc:d9->Od}{p2:Pos}{j k:Nat}
def JS{t c:Str}{F:Lp->Od}{pl:Sem Bool} (N:uX X.prog X.w X.K X.mg X.base t c j n F) (I:PD X o f) (G:gG k X.A) (M:vS X (e::es) ff) (L:j<=k:=by decide)
  (l:zE e es X:=by rfl) (m:(backTo pos (starEach es X.env)).any (·.1)=false:=by rfl)
  (E:eval (.Call (.Attribute o c apos) (e::es) [] pos) X.env=(do
   let ov <-eval o X.env
   standAt apos.atName
   let (f,first) <-holding [ov] (getMethod ov c pl)
   callWith pos f first (backTo pos (starEach (e::es) X.env)) (backToKw pos (keywordEach [] X.env))):=by rfl):PF X (.Call (.Attribute o c apos) (e::es) [] pos) (sd t c n F f ff):=by
 obtain⟨C,a,fd,ps,O,r,J,Fn,b⟩:=N.ex;refine PE.imp (C0 (pl:=pl) I r J (Fn.mono L) G b .nil ni M l m E) ?_;rintro σ H Q ⟨ρ,d,B,e,k⟩;obtain⟨x,V,h⟩:=bind_some e;by_cases i:q5 t c x=true
 ·rw[af i] at h;obtain⟨s,U,g⟩:=bind_some h;by_cases q:s.length+1=n
  ·rw[af q] at g;refine⟨ρ,x,B,V,λv H1 y z=>?_⟩;obtain⟨p,C',W,T,rfl,S,R,P⟩:=uL i z;have:=S.uniq O;subst this;exact⟨p,W,T,rfl,R,P,ρ,s,B.same y,U,λvs H2 u D=>⟨x::s,d,by rw[bb];exact dv.cons (z.same u) D,by simpa using q,g,k.later (y.trans u)⟩⟩
  ·rw[ag q] at g;cases g
 ·rw[ag i] at h;cases h
def EC(i:Nat) {y:Str}{py r:Pos}{n c:Expr}{J:Pos}{t:Lx} (a:List (Nat×Str)) (hN:X.N.Nodup) (P:O.Nodup)
  (hi:Fo X (.Name x J) c q)
  (ht:∀C s H fp,uA (jH X scope C (x::a.map (·.2)) s H fp) t g)
  (he:∀C s H fp,PD (jH X scope C (x::a.map (·.2)) s H fp) n f) (hO:i∈O:=by decide) (Q8:iI O=false:=by rfl) (h0:i≠0\/m=.dat\/m=.own:=by first|exact .inl (by decide)|exact .inr (.inl rfl)|exact .inr (.inr rfl))
  (hc:X.calm=true:=by rfl) (S:iH scope x:=by exact⟨rfl,by decide +kernel,by decide +kernel,rfl,aN⟩) (u:uV X scope=true:=by rfl) (w:jr X scope a:=by repeat' (first|exact aN|refine⟨⟨rfl,.inl rfl,rfl⟩,?_⟩|refine⟨⟨rfl,.inr rfl,rfl⟩,?_⟩)) (T:(x::a.map (·.2)).Nodup:=by decide +kernel)
  (V:X.N[i]?=Y y:=by rfl) (hy:X.env.scope.names.lookup y=Y .local:=by rfl) (R:swapsWith (.ListComp n [⟨.Name x J,c,t,0⟩] scope pos) (Y (.Name y py)) r.line X.env=pure true:=by rfl)
  (l:∀x,foldedSetIterable c X.env x=pure x:=by intro _;rfl):oF X m O (.Assign [.Name y py] (.ListComp n [⟨.Name x J,c,t,0⟩] scope pos) r) (gk (fw O (js q a g f)) i):=by
 intro pins s σ H D I hQ;have W:∀C s H fp,PE (jH X scope C (x::a.map (·.2)) s H fp) n (λσ G Q=>∃ρ E,hY X.K G σ ρ/\f ρ=Y E/\∀v G',ez G G'->(∀(b:Hp) ds vs,dv X.K G ds vs->dv X.K G' (ds++[E]) (vs++[v]))->Q v G'):=λC s H fp=>
  PE.imp (he C s H fp) <| by rintro σ G Q ⟨ρ,E,l,e,k⟩;exact⟨ρ,E,l,e,λv G1 sG iv=>k v G1 sG λb ds vs iw=>(iw.same sG).append (dv.cons iv dv.nil)⟩
 refine PS.imp (PS.frame (Dn (z8 (λ_ G ds vs=>dv X.K G ds vs) (λh=>h.length) (λh e=>h.same e) hc S (jM I u) w T hi ht W) S (jM I u) hN V hy R l)) (?_) s σ H D I hQ;rintro D σ H ⟨ρ,o,G,l,e,k⟩;obtain⟨d,e1,F⟩:=bind_some e;by_cases U:i<ρ.length
 ·rw[af U] at F;cases F;obtain⟨B,eH,fm,L⟩:=l.o.ex;refine⟨G,B,eH,fm,iz O ρ,d,l.o.rest,e1,dv.nil,λys j p vs ed s0 hD hA A=>?_⟩;subst ed;have f1:ip j [(p,HO.lst vs)]:=⟨by simp,(λx hx=>by simp at hx;subst hx;exact hD),.one aN .nil⟩
  have eu:upd j p (.lst vs)=eD j [(p,HO.lst vs)]:=rfl;rw[eu] at A ⊢;have f2:ip j (B++[(p,HO.lst vs)]):=f1.join A;have M:hI (iI O) X.K j (.list ys) (.ref p) [(p,HO.lst vs)]:=by rw[Q8];exact hI.Oy (.inl ⟨ys,vs,rfl,rfl,hA⟩)
  have f3:ip j ([(p,HO.lst vs)]++B):=f2.perm aX (M.jJ.append fm.ok);have e3:eD (eD j [(p,HO.lst vs)]) B=eD (eD j B) [(p,HO.lst vs)]:=by rw[<-gq,<-gq];exact gu f2.nd aX
  have h1:fG O X.K σ ρ (eD j B) j:=fG.uE l.o.len L l.o.jj s0 (f3.BU fm.ok);obtain⟨G2,s2,h2⟩:=h1.new P hO U M (f3.BS M.jJ);rw[e3];refine k _ _ G2 (s0.trans s2) ⟨h2,λdp v0 z=>?_⟩;rcases h0 with h0|h0|h0
  ·rw[aq h0];exact l.z dp v0 z
  ·rw[h0] at z;cases z
  ·rw[h0] at z;cases z
 ·rw[ag U] at F;cases F
end
section
variable {a:Expr}{fb:d9->Od}
end
def JT:Nat->(Lw->Prop)->Prop
 |0,p=>p []
 |n+1,p=>∀v,JT n λa=>p (v::a)
theorem JT.all:∀{n:Nat}{p:Lw->Prop},JT n p->∀a:Lw,a.length=n->p a
 |0,_,h,[],_=>h
 |_+1,_,h,v::a,e=>(h v).all a (Nat.succ.inj e)
def IC(x q:Str)(a:Stmt)(d:Lr):Prop:=∀(f b e:Value) (an:Option Addr) (oA ct:Value),JT d.length λc=>bindArgs (W.fnOf x q (kY a) (hP a) (eM a) .none f b e an oA ct) ⟨c,[]⟩=pure (d.zip c)
theorem IC.to{q:Str}{d:Lr}(h:IC x q st d)(F:Eh K x q st a fd):jd K fd d []:=F.binds λi b g k c j f e=>(h i b g k c j).all f e
def gn(K:Fg)(c:Str->Ow)(x:Str)(b:Stmt):Prop:=∃a d,c x=Y (.ref a)/\Eh K x x b a d
def Ci(K:Fg)(c m q:Str)(b:Stmt):Prop:=∃C a d,iO K c C/\D9 K C/\Ea K C m a/\Eh K m q b a d
def Cj(K:Fg)(d:Str->Ow)(c q:Str)(b:Stmt):Prop:=∃C a e,iO K c C/\d c=Y (.ref C)/\Mk K C a/\Eh K "__init__" q b a e
section
variable {c m q:Str}{C f:Addr}{od an:Option Addr}{sl:Array Ow}{oc kV dc pm cd ct:Value}
def fnAt(X:K.In h)(G:h.Ns mainGlobals mg)(a:W.nsIn K mainGlobals x=Y (Y (.ref f)))(l:K.lookup f=Y ⟨oc,od,.func (W.fnOf x x (kY st) (hP st) (eM st) .none kV dc pm an cd ct),sl⟩)(c:W.codeIn K cd x=true)(k:W.keepIn K (.ref f)=true):gn K mg x st :=
 ⟨f,_,W.mg_of X G a,BO l c k⟩
def intAt{n:Int}{t:Tok}(X:K.In h)(G:h.Ns mainGlobals mg)(a:W.nsIn K mainGlobals x=Y (Y (.int n t))):Ak K mg x (.int n):=Q4 (W.mg_of X G a)
def OR(a:W.nsIn K mainGlobals c=Y (Y (.ref C))) (p:W.plainGet K C Str.empty=true) (d:W.hasDictIn K C=true) (o:W.plainOver K C=true) (s:W.findIn K (.ref C) "__setattr__"=Y (Y (.builtin "object.__setattr__")))
  (n:W.findIn K (.ref C) x=Y Z):fY K c x:=⟨C,a,⟨p,d,o,s⟩,n⟩
def Q9(a:W.nsIn K mainGlobals c=Y (Y (.ref C))) (p:W.plainGet K C Str.empty=true) (d:W.hasDictIn K C=true) (o:W.plainOver K C=true) (s:W.findIn K (.ref C) "__setattr__"=Y (Y (.builtin "object.__setattr__")))
  (n:W.findIn K (.ref C) m=Y (Y (.ref f))) (i:W.isFn K (.ref f)=true) (l:K.lookup f=Y ⟨oc,od,.func (W.fnOf m q (kY st) (hP st) (eM st) .none kV dc pm an cd ct),sl⟩) (e:W.codeIn K cd q=true) (k:W.keepIn K (.ref f)=true):Ci K c m q st :=
 ⟨C,f,_,a,⟨p,d,o,s⟩,⟨n,i,k⟩,BO l e k⟩
def MW(X:K.In h) (G:h.Ns mainGlobals mg) (a:W.nsIn K mainGlobals c=Y (Y (.ref C))) (m:W.makesIn K C=true) (b:W.keepIn K (.ref C)=true)
  (n:W.findIn K (.ref C) "__init__"=Y (Y (.ref f))) (i:W.isFn K (.ref f)=true) (l:K.lookup f=Y ⟨oc,od,.func (W.fnOf "__init__" q (kY st) (hP st) (eM st) .none kV dc pm an cd ct),sl⟩) (e:W.codeIn K cd q=true) (k:W.keepIn K (.ref f)=true):Cj K mg c q st :=
 ⟨C,f,_,a,W.mg_of X G a,⟨m,n,i,b⟩,BO l e k⟩
end
section
variable {P:Program}{base:Heap}{c m q:Str}{N:Lr}{k:Nat}{g:d9->Option eY}{fa:Addr}
abbrev uY(P:Program)(w:World)(K:W.Frag)(f:Str->Option Value)(c:Heap)(q:Str)(d:Stmt)(N:List Str)(k:Nat)(h:V->Md)(O:List Nat)(g:d9->Option eY):Prop :=
 ∀{v0:V}{e:Addr}{b:Value}{A:Around}{a:List Env}{s:Shared}{H:Hp}{E:XK},gG k (A.deeper (envOfC q (eM d) (zB s) e b))->(A.deeper (envOfC q (eM d) (zB s) e b)).units+64<cLine->N.Nodup->O.Nodup ->
  ny (sI tK P w K f c N q (eM d) e b A a s H E).Iv (h v0) O (hP d) g
theorem fC(O:List Nat) (F:gn K mg x st) (f:uY P w K mg base x st N k (λ_=>.dat) O g) (S:hJ N (N.take n) (eM st):=by exact⟨rfl,rfl,rfl,by decide +kernel,rfl,by decide +kernel,by decide +kernel⟩) (e:n=(N.take n).length:=by rfl) (h:∀i∈O,n<=i:=by decide) (c:O.Nodup:=by decide)
  (o:IC x x st (N.take n):=by intro _ _ _ _ _ _;(repeat' intro _);exact rfl):nr P w K mg base x (k+1) n (f7 N g):=by
 obtain⟨a,l,j,F⟩:=F;exact⟨a,l,N.take n,B3 F S e h λm A b s H E d=>f (v0:=.jj) d d.units S.nd c,j,F.kp,o.to F⟩
theorem uZ(O:List Nat) (F:gn K mg x st) (f:uY P w K mg base x st N k (λ_=>.own) O g) (S:hJ N (N.take n) (eM st):=by exact⟨rfl,rfl,rfl,by decide +kernel,rfl,by decide +kernel,by decide +kernel⟩) (e:n=(N.take n).length:=by rfl) (h:∀i∈O,n<=i:=by decide) (c:O.Nodup:=by decide)
  (o:IC x x st (N.take n):=by intro _ _ _ _ _ _;(repeat' intro _);exact rfl):nE P w K mg base x (k+1) n (uJ N g):=by
 obtain⟨a,l,j,F⟩:=F;exact⟨a,l,N.take n,Gu F S e h λm A b s H E d=>f (v0:=.jj) d d.units S.nd c,j,F.kp,o.to F⟩
theorem xp(O:List Nat) (F:gn K mg x st) (f:uY P w K mg base x st N k (.io (iI (0::O))) (0::O) g) (S:hJ N (N.take n) (eM st):=by exact⟨rfl,rfl,rfl,by decide +kernel,rfl,by decide +kernel,by decide +kernel⟩) (e:n=(N.take n).length:=by rfl) (h:∀i∈O,n<=i:=by decide) (b:(0::O).Nodup:=by decide) (j:n≠0:=by decide)
  (p:IC x x st (N.take n):=by intro _ _ _ _ _ _;(repeat' intro _);exact rfl):yj (iI (0::O)) P w K mg base x (k+1) n (lO N g):=by
 obtain⟨a,l,m,F⟩:=F;exact⟨a,l,N.take n,K9 F S e j b h λq o A c s H E d=>f d d.units S.nd b,m,F.kp,p.to F⟩
def yz(O:List Nat) (F:Cj K mg c q st) (l:uY P w K mg base q st N k (.io (iI (0::O))) (0::O) g) (S:hJ N (N.take n) (eM st):=by exact⟨rfl,rfl,rfl,by decide +kernel,rfl,by decide +kernel,by decide +kernel⟩) (h:n=(N.take n).length:=by rfl) (m:∀i∈O,n<=i:=by decide) (b:(0::O).Nodup:=by decide) (o:n≠0:=by decide) (j:iI (0::O)=false:=by rfl)
  (v:IC "__init__" q st (N.take n):=by intro _ _ _ _ _ _;(repeat' intro _);exact rfl):q0 P w K mg base c (k+1) n (lO N g):=by
 obtain⟨C,a,p,t,r,M,F⟩:=F;have f:=K9 F S h o b m λx u A d s H E e=>l e e.units S.nd b;rw[j] at f;exact⟨C,a,p,N.take n,t,r,M,f,v.to F⟩
def GU(O:List Nat) (F:Ci K c m q st) (h:uY P w K mg base q st N k (λ_=>.dat) O g) (S:hJ N (N.take n) (eM st):=by exact⟨rfl,rfl,rfl,by decide +kernel,rfl,by decide +kernel,by decide +kernel⟩) (f:n=(N.take n).length:=by rfl) (j:∀i∈O,n<=i:=by decide) (d:O.Nodup:=by decide)
  (t:IC m q st (N.take n):=by intro _ _ _ _ _ _;(repeat' intro _);exact rfl):om P w K mg base c m (k+1) n (f7 N g):=by
 obtain⟨C,a,l,p,o,M,F⟩:=F;exact⟨C,a,l,N.take n,p,o,M,B3 F S f j λr A b s H E e=>h (v0:=.jj) e e.units S.nd d,t.to F⟩
def MX(O:List Nat) (F:Ci K c m q st) (h:uY P w K mg base q st N k (λ_=>.own) O g) (S:hJ N (N.take n) (eM st):=by exact⟨rfl,rfl,rfl,by decide +kernel,rfl,by decide +kernel,by decide +kernel⟩) (f:n=(N.take n).length:=by rfl) (j:∀i∈O,n<=i:=by decide) (d:O.Nodup:=by decide)
  (t:IC m q st (N.take n):=by intro _ _ _ _ _ _;(repeat' intro _);exact rfl):uX P w K mg base c m (k+1) n (uJ N g):=by
 obtain⟨C,a,l,p,o,M,F⟩:=F;exact⟨C,a,l,N.take n,p,o,M,Gu F S f j λr A b s H E e=>h (v0:=.jj) e e.units S.nd d,t.to F⟩
theorem MY{b:Str} (O:List Nat) (h:mg x=Y (.ref fa)) (F:gn K mg x st) (q:∀base:Heap,uY P w K mg base x st (b::N) k (λ_=>.dat) O g) (S:hJ (b::N) [b] (eM st):=by exact⟨rfl,rfl,rfl,by decide +kernel,rfl,by decide +kernel,by decide +kernel⟩) (r:∀i∈O,1<=i:=by decide) (f:O.Nodup:=by decide)
  (y:IC x x st [b]:=by intro _ _ _ _ _ _;(repeat' intro _);exact rfl):∃d:FuncData,(∀(s:Shared) (u:Value),BindsTo s d ⟨[u],[]⟩ [(b,u)])/\∀base:Heap,K.In base->base.Ns mainGlobals mg->jl P w K mg base tK (k+1) fa d [b] (Mu K 1 (f7 (b::N) g)):=by
 obtain⟨a,d,t,F⟩:=F;cases h.symm.trans t;refine⟨d,λs u=>?_,λbase _ _=>B3 F S rfl r λc A e s H E l=>q base (v0:=.jj) l l.units S.nd f⟩;obtain⟨C,B,o,j,m,z,c,v,n,rfl,D,p⟩:=F.ex;exact .of_eq (y o j m z c v u)
variable {a:Expr}{es:Lx}{fa fb:d9->Od}
def gS(d:X.A.units+64<cLine)(g:PD X a fa)(f:PD X b fb)(e:oa b:=by exact λ_ _=>rfl)(c:zT b:=by exact λ_ _=>rfl):PD X (.Subscript a b pos) (zX fa fb):=My d g f e c
def fu{c:CmpOp}{g:d8->d8->Od}(d:pS X (compareOp c) g)(h:PD X a fa)(f:PD X b fb)(e:behindInMarks c b=false:=by first|exact FF _|with_unfolding_all rfl):Bq X (.Compare a [c] [b] pos) (fB (d2 g fa fb)):=Jj d h f e
def kI{c:CmpOp}{g:d8->d8->Od}(d:pS X (compareOp c) g)(h:PD X a fa)(f:PD X b fb)(e:behindInMarks c b=false:=by first|exact FF _|with_unfolding_all rfl):PD X (.Compare a [c] [b] pos) (d2 g fa fb):=Mi d h f e
noncomputable def GV:Lx->Option Lr
 |[]=>Y []
 |.Constant (.str x) _ _::es=>(GV es).map (x::·)
 |_=>Z
def Lh:Lr->d9->Option Lp
 |[]=>fy
 |x::xs=>ee (zA x) (Lh xs)
def rk(a:Lr)(h:GV es=Y a):vS X es (Lh a):=by
 induction es generalizing a with
 |nil=>cases h;exact fT
 |cons e es c=>
  unfold GV at h;split at h
  ·rename_i z;cases z
  ·rename_i z;cases z;obtain⟨b,e,rfl⟩:=ab.mp h;exact dr ef (c b e)
  ·cases h
end
section
variable {s:Shared}
def eE.told(I:eE X pins σ H s) {u u':HO} (k:H a=Y u) (C:∀b,u≠.own b) (l:∀xs,u≠.tup xs) (B:∀ps,u≠.IG ps) (t:∀o v,X.H₀ a≠Y (.oz o v))
  (h:∀H',gC X.prog X.w H' s.heap a u'):eE X pins σ (upd H a u') s:=by
 have g:∀b,H b=Z->b≠a:=λb e z=>by subst z;rw[k] at e;cases e
 have f:∀b o,H b=Y o->o≠u->b≠a:=λb o e n z=>by subst z;rw[k] at e;exact n (bo e).symm
 refine⟨I.ok,I.os,I.bare,⟨I.base.keep,I.base.slot,λb o e n y=>?_,I.base.there,λb xs e=>?_,λb o v e=>?_,λb ps e=>?_⟩,I.loc,I.cell,?_,λx c e=>?_,λp A=>?_,λb o e=>?_,I.len⟩
 ·have:=I.base.free b o e n y;rw[en (g b this)];exact this
 ·have:=I.base.qO b xs e;rw[en (f b _ this (l xs).symm)];exact this
 ·rw[en (λz:b=a=>t o v (by rw[<-z];exact e))];exact I.base.o4 b o v e
 ·obtain⟨d,this⟩:=I.base.sF b ps e;exact⟨d,by rw[en (f b _ this (B _).symm)];exact this⟩
 ·rw[en (g _ I.free)];exact I.free
 ·rw[en (g _ (I.kl x c e))];exact I.kl x c e
 ·obtain⟨r,i,m⟩:=I.pin p A;exact⟨r,by rw[en (g _ i)];exact i,m⟩
 ·by_cases j:b=a
  ·subst j;rw[eI] at e;cases e;exact h _
  ·rw[en j] at e;exact(I.gr b o e).qN (λc v _ q=>q) (λc q=>by rw[en (f c _ q (C b).symm)];exact q) λc xs q=>by rw[en (f c _ q (l xs).symm)];exact q
theorem Paired.at'{α β:Type}{F:α->β->Prop}:∀{d:List α}{c:List β}{i:Nat}{a:α}{b:β},Paired F d c->d[i]?=Y a->c[i]?=Y b->F a b
 |_,_,i,_,_,.nil,h,_=>by simp at h
 |_,_,0,_,_,.cons r _,h,h'=>by simp at h h';subst h h';exact r
 |_,_,i+1,_,_,.cons _ t,h,h'=>Paired.at' t (by simpa using h) (by simpa using h')
def OS(a:Addr)(c:Obj)(b:List (Key×V)):It :=
 ⟨λi H=>H a=Y (.oz c (.dK b))/\i<b.length,λi H x H'=>H'=H/\∃y v,b[i]?=Y (y,v)/\x=kV y,λi H=>H a=Y (.oz c (.dK b))/\b.length<=i⟩
def xq{P:Program}{g:Obj}{k:Array DictEntry}{l:Nat}(x:gC P w H h a (.oz g (.dK kv)))(j:g.data=.dict k l):
  ∃e,KV kv e/\h.DictAt (fj P w) a e l:=by
 obtain⟨i,z,p,e,f,o,m,n,b,c,d,r⟩:=x;rw[i] at b;cases b;rw[j] at d;cases d;exact⟨e,f,g,k,i,c,j,r⟩
def ED{P:Program}(a p:Addr)(R:Obj)(m:List (Key×V)):zu P w K tg (OS a R m) [p] p (λi h=>∃t n,R.data=.dict t n/\h.IsKeyIter p a i m.length n) where
 mem:=by simp
 obj:=by
  rintro i h ⟨t,n,_,o,e,c,d⟩ b r;have e':b=p:=by simpa using r
  subst e';exact⟨o,e,λv z=>by rw[d] at z;cases z⟩
 keep:=λi h B ⟨t,n,q,f⟩ k=>⟨t,n,q,f.at λo e=>k p (by simp) o e⟩
 item:=by intro X F hw G W i l s σ H E I A ⟨t,n,x,f⟩ ⟨D,U⟩;subst F hw G;obtain⟨j,g,Q⟩:=xq (I.gr a _ D) x;have y:m.length=j.length:=cE g;obtain⟨O,N,f2,M,L,J⟩:=A p (by simp);have T:m[i]?=Y m[i]:=aH U;have S:j[i]?=Y j[i]:=aH (by omega);have hr:=Paired.at' g T S;rw[y] at f;refine wpAny_pyNext_dict_item f Q (k:=j[i].1) (v:=j[i].2) (by rw[S]) λC B hy u sb=>?_;have I1:eE X l σ H { s with heap:=B }:=I.turned (t':=s.toks) (λb o r e=>(sb.2 b r).trans e) O N M L J;obtain⟨o,e,c,d⟩:=id u;exact⟨C,rfl,ue (s:={ s with heap:=B }) e c d (by decide) ⟨kV j[i].1,H,I1,xk hy,⟨rfl,m[i].1,m[i].2,T,by rw[hr.1]⟩,⟨t,n,x,by rw[y];exact u⟩,λb r=>(A b r).1⟩⟩
 done:=by intro X F hw G W i l s σ H E I A ⟨t,n,x,f⟩ ⟨D,U⟩;subst F hw G;obtain⟨j,g,Q⟩:=xq (I.gr a _ D) x;have y:m.length=j.length:=cE g;obtain⟨O,N,f2,M,L,J⟩:=A p (by simp);rw[y] at f;exact wpAny_pyNext_dict_end (I.ok.hd W) f Q (bH (by omega)) λB eb=>⟨rfl,I.turned (t':=s.toks) (λb o r e=>eb b o r e) O N M L J⟩
 self:=λ_ _ _ _ _ ⟨_,_,_,f⟩ h=>wpAny_pyIter_keyiter f h
def DD{E:TE}(M:PE X e E):PI X tg e (λσ H R=>E σ H λv n=>∃a i,v=.ref a/\Rd n a (.dK i)/\(∀g,n a=Y (.oz g (.dK i))->R (OS a g i) n) /\
  ∀g,n a=Y (.dK i)->(∀o v,X.H₀ a≠Y (.oz o v))->R (OS a g i) (upd n a (.oz g (.dK i)))):=by
 intro f s σ H R I h;refine gd (@M f s σ H _ I h) ?_;rintro v k ⟨y,n,A,J,a,i,P,j,L,K⟩;subst P;cases J;have G:∀{m:Hp}{g:Obj},eE X f σ m k->m a=Y (.oz g (.dK i))->R (OS a g i) m->(zw X) (pyIter (.ref a)) (P5 X f σ tg R) X.xe k:=λ{m g} x e2 q=>by
  obtain⟨t,z,B,D,l,o,u,C,p,c,d,r⟩:=(show gC X.prog X.w m k.heap a (.oz g (.dK i)) from x.gr a _ e2)
  rw[t] at p;cases p;have O:∀b∈[(zB k)],mW X f m b:=λb N=>by rw[show b=(zB k) by simpa using N];exact x.zt (ax _) (x.gr.fresh (ax _))
  refine wpAny_pyIter_dict (knd:=fj X.prog X.w) B ⟨g,u,t,c,d,r⟩ ?_;exact⟨_,[(zB k)],_,_,m,rfl,x.kept (t':=k.toks) λb o e=>ah _ e,ED a _ g i,⟨u,C,d,_,ar _ rfl,rfl,by rw[cE l];rfl⟩,O,q⟩
 rcases j with j | ⟨g,j⟩
 ·obtain⟨z,B,D,l,o,u,C,t,r⟩:=(show gC X.prog X.w n k.heap a (.dK i) from A.gr a _ j)
  have F:∀o v,X.H₀ a≠Y (.oz o v):=λo v e=>by have:=A.base.o4 a o v e;rw[j] at this;cases this
  exact G (A.told (u':=.oz o (.dK i)) j (λ_ q=>by cases q) (λ_ q=>by cases q) (λ_ q=>by cases q) F λQ=>⟨t,z,B,D,l,o,u,C,t,r⟩) eI (K o j F)
 ·exact G A j (L g j)
def DE{t:TS}(h:PS X st t):PS X st (λD σ H=>t { D with nx:=λσ' b=>D.nx σ' b\/∃a e d,b a=Y (.oz e (.dK d))/\(∀o v,X.H₀ a≠Y (.oz o v))/\D.nx σ' (upd b a (.dK d)) } σ H):=by
 intro c s σ H D I m;refine gd (@h c s σ H _ I m) λf k q=>?_;cases f with
 |next=>
  obtain⟨σ',b,i,q | ⟨a,e,d,j,l,q⟩⟩:=q
  ·exact⟨σ',b,i,q⟩
  ·obtain⟨_,g⟩:=(show gC X.prog X.w b k.heap a (.oz e (.dK d)) from i.gr a _ j)
   exact⟨σ',_,i.told (u':=.dK d) j (λ_ q=>by cases q) (λ_ q=>by cases q) (λ_ q=>by cases q) l λ_=>g,q⟩
 |brk=>exact q
 |cont=>exact q
 |ret v=>exact q
end
def yA(u:HO)(a:List (Key×V)):Prop:=u=.dK a\/∃o,u=.oz o (.dK a)
def u3{u g:HO}(j:G a=Y u)(i:yA u kv)(e:yA g kv):vR K G (upd G a g):=by
 have c:∀{b:Addr}{v:HO},G b=Y v->(∀kv,¬ yA v kv)->b≠a:=λ{b v} h n z=>by subst z;rw[j] at h;cases h;exact n _ i
 refine⟨λ{b xs} h=>?_,λ{b xs} h=>?_,λ{b d} h=>?_,λ{b C dx fs} h=>?_⟩
 ·rcases h with (h | ⟨o,h⟩)|h
  ·exact .inl (.inl (by rw[en (c h λ_ z=>by rcases z with z | ⟨_,z⟩<;>cases z)];exact h))
  ·exact .inl (.inr ⟨o,by rw[en (c h λ_ z=>by rcases z with z | ⟨_,z⟩<;>cases z)];exact h⟩)
  ·exact .inr h
 ·rcases h with (h | ⟨o,h⟩)|h
  ·exact .inl (.inl (by rw[en (c h λ_ z=>by rcases z with z | ⟨_,z⟩<;>cases z)];exact h))
  ·exact .inl (.inr ⟨o,by rw[en (c h λ_ z=>by rcases z with z | ⟨_,z⟩<;>cases z)];exact h⟩)
  ·exact .inr h
 ·by_cases f:b=a
  ·subst f;have:d=kv:=by
    rcases h with h | ⟨o,h⟩<;>rw[j] at h<;>cases h<;>rcases i with z | ⟨_,z⟩<;>cases z<;>rfl
   subst this;rcases e with z | ⟨o,z⟩<;>subst z
   ·exact .inl eI
   ·exact .inr ⟨o,eI⟩
  ·rcases h with h | ⟨o,h⟩
   ·exact .inl (by rw[en f];exact h)
   ·exact .inr ⟨o,by rw[en f];exact h⟩
 ·rw[en (c h λ_ z=>by rcases z with z | ⟨_,z⟩<;>cases z)];exact h
def fG.tell{u f:HO}(h:fG O K σ ρ H G)(m:G a=Y u)(n:yA u kv)(j:yA f kv):fG O K σ ρ (upd H a f) (upd G a f):=by
 obtain⟨B,p,e,g⟩:=h.ex;have l:∀x∈B,x.1≠a:=λx c z=>by have:=e.free x c;rw[z,m] at this;cases this
 have k:=u3 (K:=K) m n j;refine⟨h.len,⟨B,?_,⟨e.nd,λx c=>by rw[en (l x c)];exact e.free x c,e.ok⟩,g.sim k⟩,λi d q o=>by obtain⟨v,a,b⟩:=h.jj i d q o;exact⟨v,a,b.sim k⟩⟩;subst p
 funext b
 rcases k0 (a:=b) B with ⟨x,c,rfl⟩|h'
 ·rw[eO e.nd x c,en (l x c),eO e.nd x c]
 ·rw[fg h'];unfold upd;split
  ·rfl
  ·rw[fg h']
section
variable {m:Md}{a:Expr}{g:d9->Option eY}
def T9(c n:Str)(i:Nat):d9->Od:=λρ=>(ρ[i]?).join.bind λd=>match d with
 |.dict ((.none,.str a)::r)=>if a=c/\jI c n=false then lu n r else Z
 |_=>Z
def la{n:Hp}{a:Addr}{c:Obj}(g:G a=Y (.oz c (.dK kv)))(e:fq K n fX kv):ke K (OS a c kv) (fX.map (·.1)) G:=λH' b=>by
 have f:fX.length=kv.length:=e.length;refine⟨⟨b _ _ g,by simp[f]⟩,λi d q=>⟨⟨b _ _ g,?_⟩,λx r ⟨l,y,v,k,j⟩=>?_⟩⟩
 ·have:=(av.mp q).1;simpa [f] using this
 ·subst l j;refine⟨.refl _,λo _ _=>?_⟩;obtain⟨p,h,m⟩:=(lQ (H':=o) e).get q;rw[aB,k] at h;cases h;exact m
def As{J:It}{t:Tg}{ρN:d9}{G f:Hp}{D:ua} (X:t.free O) (w:ke K J ds f) (h1:iq m O K σ ρ G f) (e2:kc (p6 t) g ds ρ=Y (.nx ρN))
  (k:∀σ' H' G',ez f G'->iq m O K σ' ρN H' G'->D.nx σ' H'):∃W:Nat->Nat->St->Hp->Prop,(∃c,W 0 c σ G)/\∀i c σ H,W i c σ H ->
   (J.stop i H/\D.nx σ H)\/(J.go i H/\∃N:St->Hp->Prop,(∀σ' H',N σ' H'->∃E,E<c/\W (i+1) E σ' H')/\∀x H',J.Iy i H x H'->gT K t x σ H' λσ2 A=>tO m O K g { D with nx:=N,ct:=N,bk:=D.nx } σ2 A):=by
 refine⟨λi c σ' H'=>c=ds.length - i/\i<=ds.length/\∃ρ' G',ez f G'/\iq m O K σ' ρ' H' G'/\kc (p6 t) g (ds.drop i) ρ'=Y (.nx ρN),⟨ds.length,by simp,bL _,ρ,f,.refl _,h1,by simpa using e2⟩,?_⟩;rintro i c σ' H' ⟨rfl,hi,ρ',G',p,a,l⟩;obtain⟨Q,P⟩:=w H' (p.trans a.o.sub);by_cases e:i<ds.length
 ·right;have V:ds[i]?=Y ds[i]:=aH e;obtain⟨M,L⟩:=P i _ V;rw[bF e] at l;unfold kc at l;obtain⟨C,e4,q⟩:=bind_some l;obtain⟨ρ1,e6,e7⟩:=bind_some e4;refine⟨M,λσ3 F=>∃ρ3 r,ez f r/\iq m O K σ3 ρ3 F r/\kc (p6 t) g (ds.drop (i+1)) ρ3=Y (.nx ρN),by rintro σ3 F ⟨ρ3,r,R,h3,u⟩;exact⟨ds.length - (i+1),by omega,rfl,e,ρ3,r,R,h3,u⟩,λx A y=>?_⟩;obtain⟨T,S⟩:=L x A y;obtain⟨I,B,g2,s⟩:=a.o.grow T;have U:=S I (p.trans B) g2;refine iq.bind (m:=m) ⟨s,a.z⟩ X U e6 λσ5 h5=>⟨ρ1,C,I,h5,e7,?_⟩
  have b:=p.trans B;cases C with
  |nx ρ3=>exact λσ6 v n h j=>⟨ρ3,n,b.trans h,j,q⟩
  |ct ρ3=>exact λσ6 v n h j=>⟨ρ3,n,b.trans h,j,q⟩
  |bk ρ3=>cases q;exact λσ6 v n h j=>k σ6 v n (b.trans h) j
  |rt d=>cases q
 ·have u:i=ds.length:=by omega
  subst u;rw[c9] at l;cases l;exact .inl ⟨Q,k σ' H' G' p a⟩
def GW:eY->Option eY
 |.nx ρ=>Y (.nx ρ)
 |_=>Z
def GX(f:d9->Od)(t:Tg)(g:d9->Option eY):d9->Option eY:=λρ=>(f ρ).bind λd=>match d with
 |.dict fX=>if eT fX=true then Z else (kc (p6 t) g (fX.map (·.1)) ρ).bind GW
 |_=>Z
def GY{h:Expr}{t:Tg}{j:List Stmt} (W:PassesOwn (model X.prog X.w) X.A X.env X.xe) (hc:X.calm=true) (hi:PV X O h f) (hg:PG X tg (gT X.K t)) (R:t.free O) (y:ny X m O j g)
  (u:∀x,foldedSetIterable h X.env x=pure x:=by intro _;rfl):oF X m O (.For tg h j [] pos) (GX f t g) :=
 PS.imp (DE (xQ W hc (DD hi) hg y u)) <| by
  rintro D σ H ⟨ρ,o,G0,u,e,k⟩;obtain⟨d,e1,s⟩:=bind_some e;obtain⟨i,rfl⟩:∃i,d=.dict i:=by cases d<;>first|exact⟨_,rfl⟩|cases s
  dsimp only at s;by_cases p:eT i=true
  ·rw[af p] at s;cases s
  rw[ag p] at s;obtain⟨P,S,e4⟩:=bind_some s;obtain⟨ρN,rfl,rfl⟩:∃ρN,P=.nx ρN/\o=.nx ρN:=by cases P<;>cases e4;exact⟨_,rfl,rfl⟩
  refine⟨ρ,.dict i,G0,u.o,e1,λv H1 J s1 N r U=>?_⟩;obtain⟨a,n,rfl,c,Q⟩:=U.kZ (by simpa using p);refine⟨a,n,rfl,r.sub.rd c,λl F=>?_,λl F V=>?_⟩
  ·have I:J a=Y (.oz l (.dK n)):=by
    rcases c with c | ⟨o,c⟩
    ·have:=r.sub _ _ c;rw[F] at this;cases this
    ·have:=r.sub _ _ c;rw[F] at this;cases this;exact c
   exact As R (la I Q) ⟨r,u.z⟩ S λσ' T M E C=>.inl (k σ' T M (N.trans E) C)
  ·have I:J a=Y (.dK n):=by
    rcases c with c | ⟨o,c⟩
    ·exact c
    ·have:=r.sub _ _ c;rw[F] at this;cases this
   refine As R (la (G:=upd J a (.oz l (.dK n))) eI Q) ⟨r.tell I (.inl rfl) (.inr ⟨l,rfl⟩),u.z⟩ S λσ' T M E C=>.inr ?_;have B:=E _ _ (eI (H:=J) (a:=a) (o:=.oz l (.dK n)));refine⟨a,l,n,C.o.sub _ _ B,V,k σ' _ (upd M a (.dK n)) (λb o q=>?_) ⟨C.o.tell B (.inr ⟨l,rfl⟩) (.inl rfl),C.z⟩⟩;have L:=N b o q;by_cases y:b=a
   ·subst y;rw[I] at L;cases L;exact eI
   ·rw[en y];exact E b o (by rw[en y];exact L)
end
inductive MV where
 |d (x:d8)
 |l (n:Nat)
 |t (xs:List MV)
inductive MO where
 |lst (xs:List MV)
 |xa (fX:List (Key×MV))
 |ins (c:Str) (fs:List (Str×MV))
 |gone
abbrev MH:=List MO
abbrev MR:=List (Option MV)
abbrev AL:=List (Addr×Addr)
mutual
def gR (K:Fg) (G:Hp) (as:AL):MV->V->Prop
  |.d x,v=>et K G x v
  |.l n,v=>∃a,as[n]?=Y a/\v=.ref a.1
  |.t xs,v=>∃p vs,v=.ref p/\mV K G p vs/\eW K G as xs vs
def eW (K:Fg) (G:Hp) (as:AL):List MV->List V->Prop
  |[],vs=>vs=[]
  |x::xs,vs=>∃v r,vs=v::r/\gR K G as x v/\eW K G as xs r
end
def oG(c b:AL):Prop:=∀(n:Nat) (a:Addr×Addr),c[n]?=Y a->b[n]?=Y a
def oG.refl(a:AL):oG a a:=λ_ _ h=>h
def oG.trans{a b c:AL}(h:oG a b)(h':oG b c):oG a c:=λn x e=>h' n x (h n x e)
def oG.snoc{b:AL}{x:Addr×Addr}:oG b (b++[x]):=λn a e=>by rw[aM (av.mp e).1];exact e
section
variable {G':Hp}{as Au:AL}
def gR.jf{x:d8}:gR K G as (.d x) v↔et K G x v:=by unfold gR;exact cv
def gR.lb:gR K G as (.l n) v↔∃a,as[n]?=Y a/\v=.ref a.1:=by unfold gR;exact cv
def gR.xr{a:List MV}:gR K G as (.t a) v↔∃p b,v=.ref p/\mV K G p b/\eW K G as a b:=by unfold gR;exact cv
def eW.eC:eW K G as [] vs↔vs=[]:=by unfold eW;exact cv
def eW.eh{x:MV}{a:List MV}:eW K G as (x::a) vs↔∃v r,vs=v::r/\gR K G as x v/\eW K G as a r:=by
 constructor
 ·intro h;unfold eW at h;exact h
 ·intro h;unfold eW;exact h
mutual
theorem gR.mono (e:vR K G G') (x:oG as Au):∀{m:MV}{v:V},gR K G as m v->gR K G' Au m v
  |.d _,_,h=>gR.jf.mpr ((gR.jf.mp h).sim e)
  |.l _,_,h=>by
    obtain⟨a,e1,e2⟩:=gR.lb.mp h
    exact gR.lb.mpr ⟨a,x _ _ e1,e2⟩
  |.t _,_,h=>by
    obtain⟨p,vs,e1,e2,e3⟩:=gR.xr.mp h
    exact gR.xr.mpr ⟨p,vs,e1,e.oB e2,eW.mono e x e3⟩
theorem eW.mono (e:vR K G G') (x:oG as Au):∀{ms:List MV}{vs:List V},eW K G as ms vs->eW K G' Au ms vs
  |[],_,h=>eW.eC.mpr (eW.eC.mp h)
  |_::_,_,h=>by
    obtain⟨v,r,e1,e2,e3⟩:=eW.eh.mp h
    exact eW.eh.mpr ⟨v,r,e1,gR.mono e x e2,eW.mono e x e3⟩
end
def eW.nil:eW K G as [] []:=eW.eC.mpr rfl
def eW.cons{x:MV}{xs:List MV}{v:V}{vs:List V}(h:gR K G as x v)(t:eW K G as xs vs):eW K G as (x::xs) (v::vs):=eW.eh.mpr ⟨v,vs,rfl,h,t⟩
theorem eW.length:∀{xs:List MV}{vs:List V},eW K G as xs vs->xs.length=vs.length
 |[],_,h=>by rw[eW.eC.mp h];rfl
 |_::_,_,h=>by obtain⟨v,r,rfl,_,t⟩:=eW.eh.mp h;simp[t.length]
theorem eW.get:∀{c:List MV}{vs:List V}{i:Nat}{x:MV},eW K G as c vs->c[i]?=Y x->∃v,vs[i]?=Y v/\gR K G as x v
 |[],_,_,_,_,e=>by simp at e
 |_::_,_,i,_,h,e=>by
  obtain⟨v,r,rfl,d,t⟩:=eW.eh.mp h;cases i with
  |zero=>simp at e;subst e;exact⟨v,rfl,d⟩
  |succ i=>obtain⟨u,a,b⟩:=t.get (by simpa using e);exact⟨u,by simpa using a,b⟩
theorem eW.append:∀{b a:List MV}{c d:List V},eW K G as b c->eW K G as a d->eW K G as (b++a) (c++d)
 |[],_,_,_,h,h'=>by rw[eW.eC.mp h];exact h'
 |_::_,_,_,_,h,h'=>by obtain⟨v,r,rfl,e,t⟩:=eW.eh.mp h;exact eW.cons e (t.append h')
theorem eW.set:∀{a:List MV}{b:List V}{i:Nat}{x:MV}{v:V},eW K G as a b->gR K G as x v->eW K G as (a.set i x) (b.set i v)
 |[],_,_,_,_,h,_=>by rw[eW.eC.mp h];exact eW.nil
 |_::_,_,i,_,_,h,h'=>by
  obtain⟨v,r,rfl,c,t⟩:=eW.eh.mp h;cases i with
  |zero=>exact eW.cons h' t
  |succ i=>exact eW.cons c (t.set h')
def j8(K:Fg)(G:Hp)(c:AL){κ:Type}(b:List (κ×MV))(a:List (κ×V)):Prop:=a.map (·.1)=b.map (·.1)/\eW K G c (b.map (·.2)) (a.map (·.2))
theorem j8.mono{κ:Type}{b:List (κ×MV)}{a:List (κ×V)}(e:vR K G G')(x:oG as Au)(h:j8 K G as b a):j8 K G' Au b a:=⟨h.1,h.2.mono e x⟩
theorem j8.nil{κ:Type}:j8 K G as ([]:List (κ×MV)) []:=⟨rfl,eW.nil⟩
theorem j8.cases{κ:Type}{k:κ}{x:MV}{c:List (κ×MV)}{b:List (κ×V)}(h:j8 K G as ((k,x)::c) b):∃v r,b=(k,v)::r/\gR K G as x v/\j8 K G as c r:=by
 obtain⟨a,d⟩:=h;cases b with
 |nil=>cases a
 |cons y r=>obtain⟨j,v⟩:=y;obtain⟨f,g,e,i,t⟩:=eW.eh.mp d;simp at a e;obtain⟨rfl,a⟩:=a;obtain⟨rfl,rfl⟩:=e;exact⟨v,r,rfl,i,a,t⟩
theorem j8.cons{κ:Type}{k:κ}{x:MV}{v:V}{b:List (κ×MV)}{a:List (κ×V)}(i:gR K G as x v)(h:j8 K G as b a):j8 K G as ((k,x)::b) ((k,v)::a):=⟨by simp[h.1],eW.cons i h.2⟩
def j8.Ck{κ:Type}{a:List (κ×V)}(h:j8 K G as ([]:List (κ×MV)) a):a=[]:=by simpa using h.1
theorem j8.length{κ:Type}{b:List (κ×MV)}{a:List (κ×V)}(h:j8 K G as b a):b.length=a.length:=by simpa using (bg List.length h.1).symm
noncomputable def Av(f:Str):List (Str×MV)->Option MV
 |[]=>Z
 | (g,x)::r=>if g=f then Y x else Av f r
noncomputable def DF(f:Str)(y:MV):List (Str×MV)->List (Str×MV)
 |[]=>[(f,y)]
 | (g,x)::r=>if g=f then (g,y)::r else (g,x)::DF f y r
theorem j8.look{f:Str}{x:MV}:∀{d:List (Str×MV)}{c:List (Str×V)},j8 K G as d c->Av f d=Y x->∃v,c.lookup f=Y v/\gR K G as x v
 |[],_,_,e=>by cases e
 | (g,y)::r,_,h,e=>by
  obtain⟨v,j,rfl,i,t⟩:=h.cases;by_cases q:g=f
  ·simp only[Av,af q] at e;cases e;exact⟨v,by rw[a0,cu.mpr q.symm],i⟩
  ·simp only[Av,ag q] at e;obtain⟨u,a,b⟩:=t.look e;exact⟨u,by rw[a0,a7.mpr (λz=>q z.symm)];exact a,b⟩
theorem j8.put{f:Str}{y:MV}{u:V}(i:gR K G as y u):∀{b:List (Str×MV)}{a:List (Str×V)},j8 K G as b a->j8 K G as (DF f y b) (jX f u a)
 |[],_,h=>by rw[h.Ck];exact j8.cons i j8.nil
 | (g,x)::r,_,h=>by
  obtain⟨v,d,rfl,c,t⟩:=h.cases;unfold DF jX;by_cases q:g=f
  ·rw[af q,af q];exact j8.cons i t
  ·rw[ag q,ag q];exact j8.cons c (t.put i)
noncomputable def xt(k:Key)(a:List (Key×MV)):Option MV:=(a.find? λb=>decide (b.1=k)).map (·.2)
noncomputable def GZ(k:Key)(v:MV)(a:List (Key×MV)):List (Key×MV) :=
 if (a.any λb=>decide (b.1=k))=true then a.map (λb=>if b.1=k then (b.1,v) else b) else a++[(k,v)]
theorem j8.val{k:Key}:∀{d:List (Key×MV)}{f:List (Key×V)},j8 K G as d f->(xt k d=Z/\ka f k=Z)\/∃x v,xt k d=Y x/\ka f k=Y v/\gR K G as x v
 |[],_,h=>by rw[h.Ck];exact .inl ⟨rfl,rfl⟩
 | (y,x)::r,_,h=>by
  obtain⟨v,l,rfl,i,t⟩:=h.cases;by_cases e:y=k
  ·exact .inr ⟨x,v,by simp[xt,e],by simp[ka,e],i⟩
  ·rcases j8.val (k:=k) t with ⟨a,b⟩ | ⟨g,j,a,b,c⟩
   ·exact .inl ⟨by simpa [xt,e] using a,by simpa [ka,e] using b⟩
   ·exact .inr ⟨g,j,by simpa [xt,e] using a,by simpa [ka,e] using b,c⟩
theorem j8.any{k:Key}:∀{a:List (Key×MV)}{b:List (Key×V)},j8 K G as a b->(b.any λx=>decide (x.1=k))=a.any λx=>decide (x.1=k)
 |[],_,h=>by rw[h.Ck];rfl
 | (y,x)::r,_,h=>by obtain⟨v,c,rfl,i,t⟩:=h.cases;simp only[bM,t.any]
theorem j8.snoc{κ:Type}{k:κ}{y:MV}{u:V}(i:gR K G as y u):∀{a:List (κ×MV)}{b:List (κ×V)},j8 K G as a b->j8 K G as (a++[(k,y)]) (b++[(k,u)])
 |[],_,h=>by rw[h.Ck];exact j8.cons i j8.nil
 | (_,_)::_,_,h=>by obtain⟨v,d,rfl,c,t⟩:=h.cases;exact j8.cons c (t.snoc i)
theorem j8.MZ{k:Key}{y:MV}{u:V}(i:gR K G as y u):∀{a:List (Key×MV)}{b:List (Key×V)},j8 K G as a b->j8 K G as (a.map λx=>if x.1=k then (x.1,y) else x) (b.map λx=>if x.1=k then (x.1,u) else x)
 |[],_,h=>by rw[h.Ck];exact j8.nil
 | (z,_)::_,_,h=>by
  obtain⟨v,d,rfl,c,t⟩:=h.cases;simp only[az];by_cases e:z=k
  ·simp only[af e];exact j8.cons i (t.MZ i)
  ·simp only[ag e];exact j8.cons c (t.MZ i)
theorem j8.putK{k:Key}{y:MV}{u:V}{a:List (Key×MV)}{b:List (Key×V)}(i:gR K G as y u)(h:j8 K G as a b):j8 K G as (GZ k y a) (L2.putK b k u):=by
 unfold GZ L2.putK;rw[h.any];split
 ·exact h.MZ i
 ·exact h.snoc i
def ID(K:Fg)(G:Hp)(b:AL)(a:Addr×Addr):MO->List (Addr×HO)->Prop
 |.lst xs,B=>∃d,B=[(a.1,.lst d)]/\eW K G b xs d
 |.xa fX,B=>∃e,B=[(a.1,.dK e)]/\j8 K G b fX e
 |.ins c fs,B=>∃C f,B=[(a.1,.ins C a.2 f),(a.2,.own a.1)]/\iO K c C/\j8 K G b fs f
 |.gone,B=>B=[]
def Aw(K:Fg)(G:Hp)(b:AL):AL->MH->List (Addr×HO)->Prop
 |[],μ,B=>μ=[]/\B=[]
 |a::l,μ,B=>∃o μ' d c,μ=o::μ'/\B=d++c/\ID K G b a o d/\Aw K G b l μ' c
theorem ID.mono{a:Addr×Addr}{o:MO}{B:List (Addr×HO)}(e:vR K G G')(x:oG as Au)(h:ID K G as a o B):ID K G' Au a o B:=by
 cases o with
 |lst l=>obtain⟨f,d,b⟩:=h;exact⟨f,d,b.mono e x⟩
 |xa g=>obtain⟨i,d,b⟩:=h;exact⟨i,d,b.mono e x⟩
 |ins c m=>obtain⟨C,j,d,b,k⟩:=h;exact⟨C,j,d,b,k.mono e x⟩
 |gone=>exact h
def ID.jJ{a:Addr×Addr}{o:MO}(h:ID K G as a o B):lL B:=by
 cases o with
 |lst d=>obtain⟨e,rfl,_⟩:=h;exact .one aN .nil
 |xa b=>obtain⟨f,rfl,_⟩:=h;exact .one aN .nil
 |ins c i=>obtain⟨C,g,rfl,_⟩:=h;exact .ins .nil
 |gone=>cases (show B=[] from h);exact .nil
theorem Aw.mono(e:vR K G G')(x:oG as Au):∀{l:AL}{μ:MH}{B:List (Addr×HO)},Aw K G as l μ B->Aw K G' Au l μ B
 |[],_,_,h=>h
 |_::_,_,_,⟨o,μ',B1,B2,e1,e2,e3,t⟩=>⟨o,μ',B1,B2,e1,e2,e3.mono e x,Aw.mono e x t⟩
theorem Aw.jJ:∀{l:AL}{μ:MH}{B:List (Addr×HO)},Aw K G as l μ B->lL B
 |[],_,_,h=>by rw[h.2];exact .nil
 |_::_,_,_,⟨o,μ',B1,B2,e1,e2,e3,t⟩=>by rw[e2];exact e3.jJ.append t.jJ
theorem Aw.len:∀{l:AL}{μ:MH}{B:List (Addr×HO)},Aw K G as l μ B->l.length=μ.length
 |[],_,_,h=>by rw[h.1];rfl
 |_::_,_,_,⟨o,μ',B1,B2,e1,e2,e3,t⟩=>by rw[e1];simp[t.len]
theorem Aw.at{o:MO}:∀{l:AL}{μ:MH}{B:List (Addr×HO)}{n:Nat},Aw K G as l μ B->μ[n]?=Y o ->
  ∃a g d f,l[n]?=Y a/\B=g++(d++f)/\lL g/\lL f/\ID K G as a o d/\∀c b,ID K G as a c b->Aw K G as l (μ.set n c) (g++(b++f))
 |[],_,_,_,h,e=>by rw[h.1] at e;cases e
 |a::l,_,_,0,⟨o1,μ',d,B2,e1,e2,e3,t⟩,e=>by subst e1 e2;cases e;exact⟨a,[],d,B2,rfl,rfl,.nil,t.jJ,e3,λc b h=>⟨c,μ',b,B2,rfl,rfl,h,t⟩⟩
 |a::l,_,_,n+1,⟨o1,μ',d,B2,e1,e2,e3,t⟩,e=>by subst e1 e2;obtain⟨q,g,b,f,p,rfl,m,k,j,i⟩:=t.at (n:=n) (by simpa using e);exact⟨q,d++g,b,f,by simpa using p,by simp,e3.jJ.append m,k,j,λc B h=>⟨o1,μ'.set n c,d,g++(B++f),rfl,by simp,e3,i c B h⟩⟩
theorem Aw.snoc{a:Addr×Addr}{o:MO}{B':List (Addr×HO)}(b:ID K G as a o B'):∀{l:AL}{μ:MH}{B:List (Addr×HO)},Aw K G as l μ B->Aw K G as (l++[a]) (μ++[o]) (B++B')
 |[],_,_,h=>by rw[h.1,h.2];exact⟨o,[],B',[],rfl,by simp,b,rfl,rfl⟩
 |_::_,_,_,⟨o1,μ',B1,B2,e1,e2,e3,t⟩=>⟨o1,μ'++[o],B1,B2++B',by rw[e1];rfl,by rw[e2];simp,e3,t.snoc b⟩
structure iQ (K:Fg) (μ:MH) (H G:Hp) (as:AL):Prop where
 ex:∃B,H=eD G B/\ip G B/\Aw K G as as μ B
structure iM (K:Fg) (σ:St) (ρ:MR) (μ:MH) (H G:Hp) (as:AL):Prop where
 h:iQ K μ H G as
 len:σ.length=ρ.length
 loc:∀(i:Nat) (x:MV),ρ[i]?=Y (Y x)->∃v,σ[i]?=Y (Y v)/\gR K G as x v
variable {μ:MH}{ρ:MR}
def iQ.sub(h:iQ K μ H G as):ez G H:=by obtain⟨B,rfl,f,_⟩:=h.ex;intro b o e;rw[fg λx a z=>by have:=f.free x a;rw[z,e] at this;cases this];exact e
theorem iQ.lst{n:Nat}{g:List MV}(h:iQ K μ H G as)(e:μ[n]?=Y (.lst g)):∃a d,as[n]?=Y a/\H a.1=Y (.lst d)/\eW K G as g d /\
  ∀c b,eW K G as c b->iQ K (μ.set n (.lst c)) (upd H a.1 (.lst b)) G as:=by
 obtain⟨B,rfl,f,m⟩:=h.ex;obtain⟨a,r,s,q,p,rfl,o,l,⟨d,rfl,k⟩,j⟩:=m.at e;refine⟨a,d,p,eO f.nd (a.1,.lst d) (by simp),k,λc b i=>⟨_,iJ f.nd,f.put ?_,j (.lst c) [(a.1,.lst b)] ⟨b,rfl,i⟩⟩⟩;exact o.append (.one aN l)
theorem iQ.xa{n:Nat}{d:List (Key×MV)}(h:iQ K μ H G as)(e:μ[n]?=Y (.xa d)):∃a g,as[n]?=Y a/\H a.1=Y (.dK g)/\j8 K G as d g /\
  ∀b c,j8 K G as b c->iQ K (μ.set n (.xa b)) (upd H a.1 (.dK c)) G as:=by
 obtain⟨B,rfl,f,m⟩:=h.ex;obtain⟨a,r,s,q,p,rfl,o,l,⟨g,rfl,k⟩,j⟩:=m.at e;refine⟨a,g,p,eO f.nd (a.1,.dK g) (by simp),k,λb c i=>⟨_,iJ f.nd,f.put ?_,j (.xa b) [(a.1,.dK c)] ⟨c,rfl,i⟩⟩⟩;exact o.append (.one aN l)
theorem iQ.ins{n:Nat}{c:Str}{l:List (Str×MV)}(h:iQ K μ H G as)(e:μ[n]?=Y (.ins c l)):∃a C g,as[n]?=Y a/\H a.1=Y (.ins C a.2 g)/\iO K c C/\j8 K G as l g /\
  ∀d b,j8 K G as d b->iQ K (μ.set n (.ins c d)) (upd H a.1 (.ins C a.2 b)) G as:=by
 obtain⟨B,rfl,f,m⟩:=h.ex;obtain⟨a,t,u,s,r,rfl,q,p,⟨C,g,rfl,k,j⟩,o⟩:=m.at e;refine⟨a,C,g,r,eO f.nd (a.1,.ins C a.2 g) (by simp),k,j,λd b i=>⟨_,iJ f.nd,f.put ?_,o (.ins c d) [(a.1,.ins C a.2 b),(a.2,.own a.1)] ⟨C,b,rfl,k,i⟩⟩⟩;exact q.append (.ins p)
end
end L2
local macro_rules
| `(zd $a) => `(some (.d $a))
namespace L2
open PySem PySem.Spec PyProof.Rows
section
variable {G' H':Hp}{as Au:AL}{μ μ':MH}{ρ:MR}
def iQ.new{a:Addr×Addr}{o:MO}{B':List (Addr×HO)}(h:iQ K μ H G as)(m:ID K G (as++[a]) a o B')(g:ip H B'):iQ K (μ++[o]) (eD H B') G (as++[a]):=by
 obtain⟨B,rfl,f,c⟩:=h.ex;have d:=f.join g;have b:(B'++B).Perm (B++B'):=aX;refine⟨⟨B++B',?_,d.perm b (c.jJ.append m.jJ),?_⟩⟩
 ·rw[<-gq];exact gu d.nd b
 ·exact Aw.snoc m (c.mono (ez.refl G).sim oG.snoc)
def iQ.OT(h:iQ K μ H G as)(e:ez H H'):∃b,ez G b/\(∀a,H a=Z->b a=H' a)/\iQ K μ H' b as:=by
 obtain⟨B,rfl,f,j⟩:=h.ex;obtain⟨b,l,k,i⟩:=Lg (H:=H') f.nd λx c=>e _ _ (eO f.nd x c);have g:ez G b:=λa o q=>by
  have d:∀x∈B,x.1≠a:=λx c z=>by have:=f.free x c;rw[z,q] at this;cases this
  rw[i a d];exact e _ _ (by rw[fg d];exact q)
 exact⟨b,g,λa d=>i a λx c z=>(by have:=eO (G:=G) f.nd x c;rw[z,d] at this;cases this),⟨B,l,⟨f.nd,k,f.ok⟩,j.mono g.sim (oG.refl _)⟩⟩
theorem iM.mono(h:iM K σ ρ μ H G as)(e:vR K G G')(x:oG as Au)(h':iQ K μ' H' G' Au):iM K σ ρ μ' H' G' Au :=
 ⟨h',h.len,λi y q=>by obtain⟨v,a,b⟩:=h.loc i y q;exact⟨v,a,b.mono e x⟩⟩
theorem iM.set{i:Nat}{x:MV}{v:V}(h:iM K σ ρ μ H G as)(e:gR K G as x v):iM K (σ.set i (Y v)) (ρ.set i (Y x)) μ H G as:=by
 refine⟨h.h,by simpa using h.len,λj y q=>?_⟩;by_cases c:i=j
 ·subst c;have d:i<ρ.length:=by
   have:=(av.mp q).1;simpa using this
  rw[aI d] at q;cases q;exact⟨v,aI (by rw[h.len];exact d),e⟩
 ·rw[aq c] at q;obtain⟨u,a,b⟩:=h.loc j y q;exact⟨u,by rw[aq c];exact a,b⟩
def EE{α β:Type}(f:α->Option β):List α->Option (List β)
 |[]=>Y []
 |x::xs=>(f x).bind λy=>(EE f xs).map (y::·)
noncomputable def xu(μ:MH):Nat->MV->Od
 |0,_=>Z
 |_+1,.d x=>Y x
 |n+1,.t xs=>(EE (xu μ n) xs).map .tuple
 |n+1,.l k=>(μ[k]?).bind λo=>match o with
  |.lst xs=>(EE (xu μ n) xs).map .list
  |.xa fX=>(EE (λq=>(xu μ n q.2).map λy=>(gW q.1,y)) fX).map .dict
  |.ins c fs=>(EE (λq=>(xu μ n q.2).map λy=>(d8.str q.1,y)) fs).map λr=>.dict ((.none,.str c)::r)
  |.gone=>Z
theorem rm{f:MV->Od}(c:∀m d v,f m=Y d->gR K G as m v->et K H d v):∀{a:List MV}{g:Lp}{b:List V},EE f a=Y g->eW K G as a b->dv K H g b
 |[],_,_,e,h=>by cases e;rw[eW.eC.mp h];exact dv.nil
 |x::a,_,_,e,h=>by obtain⟨y,l,k⟩:=bind_some e;obtain⟨n,j,rfl⟩:=ab.mp k;obtain⟨v,r,rfl,i,t⟩:=eW.eh.mp h;exact dv.cons (c _ _ _ l i) (rm c j t)
theorem nK(h:iQ K μ H G as):∀(n:Nat) (m:MV) (d:d8) (v:V),xu μ n m=Y d->gR K G as m v->et K H d v
 |0,_,_,_,e,_=>by cases e
 |n+1,.d x,_,_,e,i=>by cases e;exact(gR.jf.mp i).same h.sub
 |n+1,.t xs,_,_,e,i=>by obtain⟨u,f,rfl⟩:=ab.mp e;obtain⟨p,w,rfl,b,g⟩:=gR.xr.mp i;exact et.i8.mpr ⟨p,w,rfl,h.sub.oB b,rm (nK h n) f g⟩
 |n+1,.l k,_,_,e,i=>by
  obtain⟨a,F,rfl⟩:=gR.lb.mp i;obtain⟨o,f,b⟩:=bind_some e;cases o with
  |lst xs=>obtain⟨u,g,rfl⟩:=ab.mp b;obtain⟨N,w,j,r,q,_⟩:=h.lst f;rw[F] at j;cases j;exact et.eK.mpr ⟨a.1,w,rfl,jS.of r,rm (nK h n) g q⟩
  |xa s=>
   obtain⟨u,g,rfl⟩:=ab.mp b;obtain⟨N,J,j,r,q,_⟩:=h.xa f;rw[F] at j;cases j;refine et.jm.mpr ⟨a.1,rfl,.inl ⟨J,.inl r,?_⟩⟩;clear f r b e;induction s generalizing J u with
   |nil=>cases g;rw[q.Ck];exact fq.eC.mpr rfl
   |cons y s D=>obtain⟨B,x⟩:=y;obtain⟨v,A,rfl,E,t⟩:=q.cases;obtain⟨z,f,b⟩:=bind_some g;obtain⟨O,Q,rfl⟩:=ab.mp b;obtain⟨R,I,rfl⟩:=ab.mp f;exact fq.eh.mpr ⟨B,v,A,rfl,rfl,nK h n _ _ _ I E,by apply D<;>assumption⟩
  |ins c M=>
   obtain⟨u,g,rfl⟩:=ab.mp b;obtain⟨N,C,L,j,r,P,q,_⟩:=h.ins f;rw[F] at j;cases j;refine et.jm.mpr ⟨a.1,rfl,.inr ⟨c,C,a.2,L,P,r,lH.eh.mpr ⟨rfl,rfl,?_⟩⟩⟩;clear f r b e;induction M generalizing L u with
   |nil=>cases g;rw[q.Ck];exact iG.eC.mpr rfl
   |cons y M D=>obtain⟨B,x⟩:=y;obtain⟨v,A,rfl,E,t⟩:=q.cases;obtain⟨z,f,b⟩:=bind_some g;obtain⟨O,Q,rfl⟩:=ab.mp b;obtain⟨R,I,rfl⟩:=ab.mp f;exact iG.eh.mpr ⟨B,v,A,rfl,rfl,nK h n _ _ _ I E,by apply D<;>assumption⟩
  |gone=>cases b
mutual
def u4:MV->Od
  |.d x=>Y x
  |.l _=>Z
  |.t xs=>(xv xs).map .tuple
def xv:List MV->Option Lp
  |[]=>Y []
  |x::xs=>(u4 x).bind λy=>(xv xs).map (y::·)
end
mutual
theorem gR.dat:∀{m:MV}{d:d8}{v:V},u4 m=Y d->gR K G as m v->et K G d v
  |.d _,_,_,e,i=>by unfold u4 at e;cases e;exact gR.jf.mp i
  |.l _,_,_,e,_=>by unfold u4 at e;cases e
  |.t xs,_,_,e,i=>by
    unfold u4 at e
    obtain⟨ds,e1,rfl⟩:=ab.mp e
    obtain⟨p,vs,rfl,e2,e3⟩:=gR.xr.mp i
    exact et.i8.mpr ⟨p,vs,rfl,e2,eW.dat e1 e3⟩
theorem eW.dat:∀{ms:List MV}{ds:Lp}{vs:List V},xv ms=Y ds->eW K G as ms vs->dv K G ds vs
  |[],_,_,e,i=>by unfold xv at e;cases e;rw[eW.eC.mp i];exact dv.nil
  |x::xs,_,_,e,i=>by
    unfold xv at e
    obtain⟨y,e1,e2⟩:=bind_some e
    obtain⟨ys,e3,rfl⟩:=ab.mp e2
    obtain⟨v,r,rfl,i1,t⟩:=eW.eh.mp i
    exact dv.cons (gR.dat e1 i1) (eW.dat e3 t)
end
def G4(ρ:MR):d9:=ρ.map λo=>o.bind u4
theorem iM.dat(h:iM K σ ρ μ H G as):hY K G σ (G4 ρ):=by refine⟨by rw[h.len];simp[G4],λi d q=>?_⟩;unfold G4 at q;rw[aB] at q;obtain⟨o,f,e⟩:=ab.mp q;obtain⟨m,rfl,c⟩:=bind_some e;obtain⟨v,a,b⟩:=h.loc i m f;exact⟨v,a,gR.dat c b⟩
end
abbrev MF:=MR->MH->Option (MV×MH)
def KM(K:Fg)(σ:St)(ρ:MR)(G:Hp)(d:AL)(μ':MH)(v:MV)(Q:VK):Prop:=∀u c b a,ez G b->oG d a->iM K σ ρ μ' c b a->gR K b a v u->Q u c
def PM(X:Cx)(e:Expr)(f:MF):Prop:=PE X e (λσ H Q=>∃ρ μ v μ' G as,iM X.K σ ρ μ H G as/\f ρ μ=Y (v,μ')/\KM X.K σ ρ G as μ' v Q)
def Pq(X:Cx)(h:Lx)(f:MR->MH->Option (List MV×MH)):Prop:=PA X h (λσ H Q=>∃ρ μ c μ' G e,iM X.K σ ρ μ H G e/\f ρ μ=Y (c,μ') /\
 ∀d g b a,ez G b->oG e a->iM X.K σ ρ μ' g b a->eW X.K b a c d->Q d g)
section
variable {a:Expr}{es:Lx}{fb fc:d9->Od}{ma mb mc m:MF}{ff:MR->MH->Option (List MV×MH)}{ep:Pos}
noncomputable def jv(i:Nat):MF:=λρ μ=>(ρ[i]?).join.map λv=>(v,μ)
def fP(i:Nat)(h:X.N[i]?=Y x:=by rfl)(f:D0 X.env.scope x:=by first|exact bW rfl|exact bz (bW rfl)|exact bz (bz rfl))(g:zg x:=by decide)(a:(x==("__classdict__":Str))=false:=by decide):PM X (.Name x pos) (jv i) :=
 PE.imp (mq h f g a) <| by rintro σ H Q ⟨ρ,μ,v,μ',G,n,b,e,k⟩;obtain⟨m,l,j⟩:=ab.mp e;cases j;obtain⟨u,d,c⟩:=b.loc i v (gE l);exact⟨u,d,k u H G n (.refl _) (.refl _) b c⟩
noncomputable def G5(f:d9->Od):MF:=λρ μ=>(f (G4 ρ)).map λd=>(.d d,μ)
def yB(h:PD X e f):PM X e (G5 f) :=
 PE.imp (PE.frame h) <| by rintro σ H Q ⟨ρ,μ,v,μ',G,o,b,e,k⟩;obtain⟨d,n,m⟩:=ab.mp e;cases m;obtain⟨B,l,j,g⟩:=b.h.ex;exact⟨G,B,l,j,G4 ρ,d,b.dat,n,λu p a i c=>k u _ p o a (.refl _) (b.mono a.sim (.refl _) ⟨B,rfl,c,g.mono a.sim (.refl _)⟩) (gR.jf.mpr i)⟩
noncomputable def sO(c n:Str)(m:MF):MF:=λρ μ=>(m ρ μ).bind λr=>match r.1 with
 |.l k=>(r.2[k]?).bind λo=>match o with
  |.ins a fs=>if a=c then (Av n fs).map λv=>(v,r.2) else Z
  |_=>Z
 |_=>Z
def kJ{c n:Str}(I:fY X.K c n)(E:PM X e m)(F:attributeBase e n X.env (eval e X.env)=eval e X.env:=by rfl):PM X (.Attribute e n pos) (sO c n m) :=
 PE.imp (BE E F) <| by
  rintro σ H Q ⟨ρ,μ,v,μ',G,V,D,e,k⟩;obtain⟨⟨x,μ1⟩,T,o⟩:=bind_some e;cases x with
  |l j=>
   obtain⟨z,S,b⟩:=bind_some o;cases z with
   |ins U fs=>
    dsimp only at b;by_cases d:U=c
    ·rw[af d] at b;subst d;obtain⟨y,R,P⟩:=ab.mp b;cases P;refine⟨ρ,μ,_,_,G,V,D,T,λu W G1 f q p i B=>?_⟩;obtain⟨a,O,rfl⟩:=gR.lb.mp B;obtain⟨a',C,N,g,t,r,s,_⟩:=i.h.ins S;rw[O] at g;cases g;obtain⟨C',M,L,J⟩:=I;have:=r.uniq M;subst this;obtain⟨w,l,A⟩:=s.look R;exact⟨a.1,C,a.2,N,w,rfl,t,L,J,l,k w W G1 f q p i A⟩
    ·rw[ag d] at b;cases b
   |_=>cases b
  |_=>cases o
end
abbrev IE:=List MV->MH->Option (MV×MH)
def R4(K:Fg)(n:Nat)(F:IE):Sp:=λf H Q _=>∃b μ r μ' G c,eW K G c b f/\b.length=n/\iQ K μ H G c/\F b μ=Y (r,μ')/\∀u e d a,ez G d->oG c a->iQ K μ' e d a->gR K d a r u->Q u e
structure Ha (P:Program) (w:World) (K:Fg) (mg:Str->Ow) (base:Heap) (c:Str) (k n:Nat) (F:IE):Prop where
 ex:∃C a fd ps,iO K c C/\mg c=Y (.ref C)/\Mk K C a/\jl P w K mg base tK k a fd ps (R4 K n F)/\jd K fd ps []
section
variable {a:Expr}{es:Lx}{fb fc:d9->Od}{ma mb mc m:MF}{ff:MR->MH->Option (List MV×MH)}{ep:Pos}{j k:Nat}{F:IE}
abbrev Bs:=MR->MH->Option (List MV×MH)
def yC:Bs:=λ_ μ=>Y ([],μ)
def tS:Pq X [] yC:=PA.imp kA <| by rintro σ H Q ⟨ρ,μ,c,μ',G,b,a,e,k⟩;cases e;exact k [] H G b (.refl _) (.refl _) a eW.nil
noncomputable def qc(m:MF)(a:Bs):Bs:=λρ μ=>(m ρ μ).bind λr=>(a ρ r.2).map λq=>(r.1::q.1,q.2)
def qd(p:PM X e m)(o:Pq X es ff)(n:zE e es X:=by rfl):Pq X (e::es) (qc m ff) :=
 PA.imp (iE p o n) <| by rintro σ H Q ⟨ρ,μ,D,μ',G,y,l,e,k⟩;obtain⟨⟨x,μ1⟩,w,v⟩:=bind_some e;obtain⟨⟨C,μ2⟩,t,s⟩:=ab.mp v;cases s;exact⟨ρ,μ,_,_,G,y,l,w,λu E B b h f r j=>⟨ρ,μ1,_,_,B,b,r,t,λg z A a d c q i=>k (u::g) z A a (h.trans d) (f.trans c) q (eW.cons (j.mono d.sim c) i)⟩⟩
def Li:MF:=λ_ μ=>Y (.l μ.length,μ++[.lst []])
def JU:PM X (.List [] pos) Li :=
 PE.imp (BI tS) <| by
  rintro σ H Q ⟨ρ,μ,v,μ',G,s,n,e,k⟩;cases e;refine⟨ρ,μ,[],μ,G,s,n,rfl,λt u g d j i c m=>?_⟩;rw[eW.eC.mp m];refine⟨bL _,λq p=>?_⟩;have b:d.length=μ.length:=by obtain⟨B,_,_,l⟩:=c.h.ex;exact l.len
  have r:=c.h.new (a:=(q,q)) (o:=.lst []) (B':=[(q,.lst [])]) ⟨[],rfl,eW.nil⟩ ⟨by simp,(λy f=>by simp at f;subst f;exact p),.one aN .nil⟩;exact k _ _ g _ j (i.trans oG.snoc) (c.mono (ez.refl g).sim oG.snoc r) (gR.lb.mpr ⟨(q,q),by rw[<-b];simp,rfl⟩)
def Ay:MF:=λ_ μ=>Y (.l μ.length,μ++[.xa []])
def tT:PM X (.Dict [] [] pos) Ay :=
 PE.imp zV <| by
  rintro σ H Q ⟨ρ,μ,v,μ',G,j,c,e,k⟩;cases e;intro q g;have b:j.length=μ.length:=by obtain⟨B,_,_,f⟩:=c.h.ex;exact f.len
  have i:=c.h.new (a:=(q,q)) (o:=.xa []) (B':=[(q,.dK [])]) ⟨[],rfl,j8.nil⟩ ⟨by simp,(λy d=>by simp at d;subst d;exact g),.one aN .nil⟩;exact k _ _ G _ (.refl _) oG.snoc (c.mono (ez.refl G).sim oG.snoc i) (gR.lb.mpr ⟨(q,q),by rw[<-b];simp,rfl⟩)
end
inductive JV where
 |nx (ρ:MR) (μ:MH)
 |rt (v:MV) (μ:MH)
 |bk (ρ:MR) (μ:MH)
 |ct (ρ:MR) (μ:MH)
abbrev MS:=MR->MH->Option JV
def Hb(K:Fg)(G:Hp)(d:AL)(D:ua):JV->Prop
 |.nx ρ μ=>∀σ c b a,ez G b->oG d a->iM K σ ρ μ c b a->D.nx σ c
 |.bk ρ μ=>∀σ c b a,ez G b->oG d a->iM K σ ρ μ c b a->D.bk σ c
 |.ct ρ μ=>∀σ c b a,ez G b->oG d a->iM K σ ρ μ c b a->D.ct σ c
 |.rt v μ=>∀u c b a,ez G b->oG d a->iQ K μ c b a->gR K b a v u->D.rt u c
def Hb.later{k:Hp}{j g:AL}{D:ua}(e:ez G k)(x:oG j g):∀{o:JV},Hb K G j D o->Hb K k g D o
 |.nx _ _,h=>λσ d f a c b q=>h σ d f a (e.trans c) (x.trans b) q
 |.bk _ _,h=>λσ d f a c b q=>h σ d f a (e.trans c) (x.trans b) q
 |.ct _ _,h=>λσ d f a c b q=>h σ d f a (e.trans c) (x.trans b) q
 |.rt _ _,h=>λu d f a c b q i=>h u d f a (e.trans c) (x.trans b) q i
def tU(K:Fg)(g:MS):TS:=λD σ H=>∃ρ μ o G a,iM K σ ρ μ H G a/\g ρ μ=Y o/\Hb K G a D o
def PU(X:Cx)(a:Stmt)(g:MS):Prop:=PS X a (tU X.K g)
def M0(X:Cx)(a:List Stmt)(g:MS):Prop:=tJ X a (tU X.K g)
section
variable {a:Expr}{es:Lx}{fb fc:d9->Od}{ma mb mc m mo:MF}{ff:Bs}{ep:Pos}{rest:List Stmt}{g h:MS}{gc:MR->MH->Option (Bool×MH)}{j k:Nat}{F:IE}
noncomputable def rn(g h:MS):MS:=λρ μ=>(g ρ μ).bind λo=>match o with
 |.nx ρ' μ'=>h ρ' μ'
 |o=>Y o
def ic(m:PU X st g)(l:M0 X rest h):M0 X (st::rest) (rn g h) :=
 tJ.imp (zr m l) <| by
  rintro D σ H ⟨ρ,μ,o,G,p,j,e,k⟩;obtain⟨d,n,a⟩:=bind_some e;refine⟨ρ,μ,d,G,p,j,n,?_⟩;cases d with
  |nx ρ' μ'=>exact λσ' r q c i f b=>⟨ρ',μ',o,q,c,b,a,k.later i f⟩
  |rt _ _=>cases a;exact k
  |bk _ _=>cases a;exact k
  |ct _ _=>cases a;exact k
def tV(a:PU X st g):M0 X [st] g:=tJ.imp (CU a) λD σ H h=>h
noncomputable def Lj(m:MF):MS:=λρ μ=>(m ρ μ).map λr=>.nx ρ r.2
def JW(h:PM X e m)(f:swapsWith e Z pos.line X.env=pure false:=by rfl):PU X (.Expr e pos) (Lj m) :=
 PS.imp (kW h f) <| by rintro D σ H ⟨ρ,μ,o,G,j,d,e,k⟩;obtain⟨⟨v,μ1⟩,i,rfl⟩:=ab.mp e;exact⟨ρ,μ,v,μ1,G,j,d,i,λu l n a c b g p=>k _ l n a c b g⟩
noncomputable def OU(c n:Str)(v:MV)(r:MV)(μ:MH):Option MH:=match r with
 |.l k=>(μ[k]?).bind λo=>match o with
  |.ins a fs=>if a=c/\fs.length<1000 then Y (μ.set k (.ins c (DF n v fs))) else Z
  |_=>Z
 |_=>Z
def JX{c n:Str}{v r:MV}{μ μ':MH}{f:AL}{i j:V}(h:OU c n v r μ=Y μ')(y:iQ K μ H G f)(w:gR K G f v i)(x:gR K G f r j):
  ∃p C q e,j=.ref p/\H p=Y (.ins C q e)/\iO K c C/\e.length<1000/\iQ K μ' (upd H p (.ins C q (jX n i e))) G f:=by
 cases r with
 |l k=>
  obtain⟨u,B,b⟩:=bind_some h;cases u with
  |ins D e=>
   dsimp only at b;by_cases d:D=c/\e.length<1000
   ·rw[af d] at b;cases b;obtain⟨rfl,d⟩:=d;obtain⟨a,A,rfl⟩:=gR.lb.mp x;obtain⟨E,C,z,o,t,s,m,g⟩:=y.ins B;rw[A] at o;cases o;exact⟨a.1,C,a.2,z,rfl,t,s,by rw[<-m.length];exact d,g _ _ (m.put w)⟩
   ·rw[ag d] at b;cases b
  |_=>cases b
 |_=>cases h
noncomputable def yD(c n:Str)(a m:MF):MS:=λρ μ=>(m ρ μ).bind λr=>(a ρ r.2).bind λq=>(OU c n r.1 q.1 q.2).map λμ'=>.nx ρ μ'
def nL{c n:Str}{a:Pos}(F:fY X.K c n)(B:PM X o mo)(E:PM X e m)(A:swapsWith e (Y (.Attribute o n a)) pos.line X.env=pure false:=by rfl):PU X (.Assign [.Attribute o n a] e pos) (yD c n mo m) :=
 PS.imp (BF B E A) <| by rintro D σ H ⟨ρ,μ,oo,G,U,z,e,k⟩;obtain⟨⟨v,μ1⟩,S,P⟩:=bind_some e;obtain⟨⟨r,μ2⟩,R,O⟩:=bind_some P;obtain⟨μ3,Q,rfl⟩:=ab.mp O;refine⟨ρ,μ,v,μ1,G,U,z,S,λW H1 V d q l I y=>⟨ρ,μ1,r,μ2,V,d,I,R,λur H2 j b g f i x=>?_⟩⟩;obtain⟨p,C,T,N,rfl,w,u,t,s⟩:=JX Q i.h (y.mono g.sim f) x;obtain⟨C',M,L,J⟩:=F;have:=u.uniq M;subst this;exact⟨p,C,T,N,rfl,w,L,J,t,k _ _ j b (q.trans g) (l.trans f) (i.mono (ez.refl j).sim (.refl _) s)⟩
noncomputable def Ra(v r:MV)(μ:MH):Option MH:=match r with
 |.l k=>(μ[k]?).bind λo=>match o with
  |.lst xs=>if xs.length<sizeLine then Y (μ.set k (.lst (xs++[v]))) else Z
  |_=>Z
 |_=>Z
noncomputable def DG(μ:MH):MV->Bool
 |.l k=>match μ[k]? with
  |some (.lst _)=>true
  |_=>false
 |_=>false
noncomputable def DH(a m:MF):MF:=λρ μ=>(a ρ μ).bind λr=>if DG r.2 r.1=true then (m ρ r.2).bind λq=>(Ra q.1 r.1 q.2).map λμ'=>(.d .none,μ') else Z
def Hc{r:MV}{μ:MH}{f:AL}{c:V}(h:DG μ r=true)(j:iQ K μ H G f)(i:gR K G f r c):∃p b,c=.ref p/\H p=Y (.lst b):=by
 cases r with
 |l k=>
  unfold DG at h;dsimp only at h;split at h
  ·rename_i n e;obtain⟨a,m,rfl⟩:=gR.lb.mp i;obtain⟨o,b,d,g,_⟩:=j.lst e;rw[m] at d;cases d;exact⟨a.1,b,rfl,g⟩
  ·cases h
 |_=>cases h
def EF(ho:PM X o mo) (he:PM X e m) (i:starEach [e] X.env=(false,eval e X.env)::starEach [] X.env:=by rfl)
  (d:attributeBase o "append" X.env (eval o X.env)=eval o X.env:=by rfl)
  (j:((backTo fh (starEach [e] X.env)).all (λx=>!x.1)&&(backToKw fh (keywordEach [] X.env)).all (λx=>x.1.isSome)&&decide (([e]:Lx).length+([]:List Keyword).length+(if ([]:List Keyword).isEmpty then 0 else 1)<30))=true:=by rfl)
  (c:(apos.endLine==fh.line)=true:=by rfl) (b:(backTo fh (starEach [] X.env)).any (·.1)=false:=by rfl):
  PM X (.Call (.Attribute o "append" apos) [e] [] fh) (DH mo m) :=
 PE.imp (rY ba PySem.F.slot_list_append PySem.F.type_list_append qS ho (iE he kA i) d j c i b) <| by
  rintro σ H Q ⟨ρ,μ,v,μ',G,as,V,e,k⟩;obtain⟨⟨r,μ1⟩,e1,f⟩:=bind_some e;by_cases t:DG μ1 r=true
  ·simp only[af t] at f;obtain⟨⟨y,μ2⟩,e2,eb⟩:=bind_some f;obtain⟨μ3,J,e4⟩:=ab.mp eb;cases e4;refine⟨ρ,μ,r,μ1,G,as,V,e1,λur H1 G1 w R M I D=>?_⟩;obtain⟨p,O,rfl,W⟩:=Hc t I.h D;refine⟨.inl ⟨rfl,O,jS.of W⟩,ρ,μ1,y,μ2,G1,w,I,e2,λP H2 K u A z E U=>?_⟩;have q:=D.mono A.sim z;cases r with
   |l kk=>
    obtain⟨T,e5,g⟩:=bind_some J;cases T with
    |lst L=>
     dsimp only at g;by_cases s:L.length<sizeLine
     ·rw[af s] at g;cases g;obtain⟨a,f,er⟩:=gR.lb.mp q;cases er;obtain⟨a',N,C,S,B,n⟩:=E.h.lst e5;rw[f] at C;cases C;exact⟨a.1,N,P,rfl,rfl,S,by rw[<-B.length];exact s,k .jj _ K u (R.trans A) (M.trans z) (E.mono (ez.refl K).sim (.refl _) (n _ _ (B.append (eW.cons U eW.nil)))) (gR.jf.mpr (et.gf.mpr rfl))⟩
     ·rw[ag s] at g;cases g
    |_=>cases g
   |_=>cases J
  ·simp only[ag t] at f;cases f
end
section
variable {a:Expr}{es:Lx}{ma mb mc m mo mk:MF}{ff:Bs}{ep:Pos}{rest:List Stmt}{g h:MS}{gc:MR->MH->Option (Bool×MH)}{j k:Nat}{F:IE}
noncomputable def Ua(b:MF):MF:=λρ μ=>(b ρ μ).bind λr=>match r.1 with
 |.l k=>(r.2[k]?).bind λa=>match a with
  |.lst xs=>(xs[xs.length - 1]?).map λv=>(v,r.2.set k (.lst xs.dropLast))
  |_=>Z
 |_=>Z
def Rb(a v r:MV)(μ:MH):Option MH:=match r with
 |.l n=>(μ[n]?).bind λb=>match b with
  |.lst xs=>match a with
   |.d (.int i)=>(Ec xs.length i).map λj=>μ.set n (.lst (xs.set j v))
   |_=>Z
  |.xa fX=>if fX.length<sizeLine then ((u4 a).bind kF).map λy=>μ.set n (.xa (GZ y v fX)) else Z
  |_=>Z
 |_=>Z
def Hd(a b m:MF):MS:=λρ μ=>(m ρ μ).bind λv=>(a ρ v.2).bind λr=>(b ρ r.2).bind λq=>(Rb q.1 v.1 r.1 q.2).map λμ'=>.nx ρ μ'
def yE(E:X.A.units+64<cLine) {b:Pos} (ho:PM X o mo) (hk:PM X a mk) (he:PM X e m)
  (ha:∀v,assign (.Subscript o a b) X.env v=(do
   let ov <-holding [v] (eval o X.env);let iv <-holding [v,ov] (eval a X.env)
   standAt b
   holding [v,ov,iv] (setItem ov iv v)
   release [v,ov,iv] []):=by intro _;rfl)
  (hs:swapsWithSole [.Subscript o a b] e pos.line X.env=pure false:=by rfl) (hw:swappedStores [.Subscript o a b] e X.env=pure Z:=by rfl)
  (F:(assignEach [.Subscript o a b] X.env).map (·.2)=[assign (.Subscript o a b) X.env]:=by rfl):PU X (.Assign [.Subscript o a b] e pos) (Hd mo mk m) :=
 PS.imp (Bv he (Bu ho hk (xO.or zH (BZ E)) ha) hs hw F) <| by
  rintro D σ H ⟨ρ,μ,oo,G,as,E,e,k⟩;obtain⟨⟨v,μ1⟩,e1,ea⟩:=bind_some e;obtain⟨⟨r,μ2⟩,e2,eb⟩:=bind_some ea;obtain⟨⟨t,μ3⟩,e3,ec⟩:=bind_some eb;obtain⟨μ4,P,rfl⟩:=ab.mp ec;refine⟨ρ,μ,v,μ1,G,as,E,e1,λuv H1 G1 K M L F i1=>⟨ρ,μ1,r,μ2,G1,K,F,e2,λur H2 G2 J y x h2 W=>⟨ρ,μ2,t,μ3,G2,J,h2,e3,λuk H3 w p s q u N=>?_⟩⟩⟩;have iv:=i1.mono (y.trans s).sim (x.trans q);have V:=W.mono s.sim q;cases r with
  |l n=>
   obtain⟨R,O,c⟩:=bind_some P;obtain⟨a,j,rfl⟩:=gR.lb.mp V;cases R with
   |lst xs=>
    rcases t with t|_|_<;>try (cases c;done)
    cases t with
    |int i=>obtain⟨U,I,rfl⟩:=ab.mp c;obtain⟨a',Q,g,z,f,d⟩:=u.h.lst O;rw[j] at g;cases g;exact .inl ⟨a.1,Q,i,U,rfl,et.eG.mp (gR.jf.mp N),z,by rw[<-f.length];exact I,k _ _ w p (M.trans (y.trans s)) (L.trans (x.trans q)) (u.mono (ez.refl w).sim (.refl _) (d _ _ (f.set iv)))⟩
    |_=>cases c
   |xa B=>
    dsimp only at c;by_cases C:B.length<sizeLine
    ·rw[af C] at c;obtain⟨S,I,rfl⟩:=ab.mp c;obtain⟨dk,e8,e9⟩:=bind_some I;have:=fM e9;subst this;obtain⟨a',T,g,z,f,d⟩:=u.h.xa O;rw[j] at g;cases g;exact .inr ⟨a.1,T,S,rfl,gi (gR.dat e8 N),z,by rw[<-f.length];exact C,k _ _ w p (M.trans (y.trans s)) (L.trans (x.trans q)) (u.mono (ez.refl w).sim (.refl _) (d _ _ (f.putK iv)))⟩
    ·rw[ag C] at c;cases c
   |_=>cases c
  |_=>cases P
end
section
variable {G' H':Hp}{as Au:AL}{μ μ':MH}{ρ:MR}
noncomputable def tW:MR->List Nat->List MV->MR
 |ρ,i::is,v::vs=>tW (ρ.set i (Y v)) is vs
 |ρ,_,_=>ρ
noncomputable def Lk:Tg->MV->MR->Option MR
 |.one i,v,ρ=>Y (ρ.set i (Y v))
 |.many is,.t xs,ρ=>if xs.length=is.length then Y (tW ρ is xs) else Z
 |.many is,.d (.tuple ds),ρ=>if ds.length=is.length then Y (tW ρ is (ds.map .d)) else Z
 |_,_,_=>Z
theorem iM.qY:∀{is:List Nat}{σ:St}{ρ:MR}{b:List MV}{a:List V},iM K σ ρ μ H G as->eW K G as b a->iM K (tM σ is a) (tW ρ is b) μ H G as
 |[],σ,ρ,b,a,h,_=>by cases b<;>cases a<;>exact h
 |i::is,σ,ρ,[],a,h,d=>by rw[eW.eC.mp d];exact h
 |i::is,σ,ρ,m::b,a,h,ds=>by obtain⟨v,r,rfl,e,c⟩:=eW.eh.mp ds;exact iM.qY (is:=is) (h.set e) c
def tX(h:dv K G ds vs):eW K G as (ds.map .d) vs:=by
 induction ds generalizing vs with
 |nil=>rw[dv.eC.mp h];exact eW.nil
 |cons d ds a=>obtain⟨v,r,rfl,i,t⟩:=dv.eh.mp h;exact eW.cons (gR.jf.mpr i) (a t)
def iM.bind{ρ':MR}{f:Tg}{m:MV}{Q:St->Hp->Prop}(h:iM K σ ρ μ H G as)(i:gR K G as m v)(e:Lk f m ρ=Y ρ')(k:∀σ',iM K σ' ρ' μ H G as->Q σ' H):gT K f v σ H Q:=by
 cases f with
 |one j=>cases e;exact k _ (h.set i)
 |many is=>
  rcases m with d|_|xs
  ·cases d with
   |tuple l=>
    dsimp only[Lk] at e;by_cases a:l.length=is.length
    ·rw[af a] at e;cases e;obtain⟨p,c,rfl,g,b⟩:=(gR.jf.mp i).fJ;exact⟨p,c,rfl,h.h.sub.oB g,by rw[<-b.length];exact a,k _ (h.qY (tX b))⟩
    ·rw[ag a] at e;cases e
   |_=>cases e
  ·cases e
  ·dsimp only[Lk] at e;by_cases a:xs.length=is.length
   ·rw[af a] at e;cases e;obtain⟨p,c,rfl,g,b⟩:=gR.xr.mp i;exact⟨p,c,rfl,h.h.sub.oB g,by rw[<-b.length];exact a,k _ (h.qY b)⟩
   ·rw[ag a] at e;cases e
noncomputable def Az(a:MV->MR->Option MR)(g:MS):List MV->MS
 |[],ρ,μ=>Y (.nx ρ μ)
 |m::ms,ρ,μ=>((a m ρ).bind λρ1=>g ρ1 μ).bind λo=>match o with
  |.nx ρ' μ'=>Az a g ms ρ' μ'
  |.ct ρ' μ'=>Az a g ms ρ' μ'
  |.bk ρ' μ'=>Y (.nx ρ' μ')
  |.rt v μ'=>Y (.rt v μ')
def Cm(K:Fg)(J:It)(f:List MV)(G:Hp)(g:AL):Prop :=
 ∀b,ez G b->J.stop f.length b/\∀(i:Nat) (m:MV),f[i]?=Y m->J.go i b/\∀x d,J.Iy i b x d->ez b d/\∀e c,ez G e->oG g c->(∀a,b a=Z->e a=d a)->gR K e c m x
def ke.u{J:It}(w:ke K J ds G):Cm K J (ds.map .d) G as:=λH' s'=>by obtain⟨f,e⟩:=w H' s';refine⟨by simpa using f,λi m q=>?_⟩;rw[aB] at q;obtain⟨d,j,rfl⟩:=ab.mp q;obtain⟨c,a⟩:=e i d j;exact⟨c,λx b y=>⟨(a x b y).1,λl k g _ h=>gR.jf.mpr ((a x b y).2 l g h)⟩⟩
def ro{J:It}{t:Tg}{c:List MV}{g:MS}{o:JV}{D:ua}(w:Cm K J c G as)(h1:iM K σ ρ μ H G as)(e2:Az (Lk t) g c ρ μ=Y o)(k:Hb K G as D o):
  ∃W:Nat->Nat->St->Hp->Prop,(∃n,W 0 n σ H)/\∀i n σ H,W i n σ H ->
   (J.stop i H/\D.nx σ H)\/(J.go i H/\∃N:St->Hp->Prop,(∀σ' d,N σ' d->∃R,R<n/\W (i+1) R σ' d)/\∀x d,J.Iy i H x d->gT K t x σ d λσ2 P=>tU K g { D with nx:=N,ct:=N,bk:=D.nx } σ2 P):=by
 refine⟨λi n σ' d=>n=c.length - i/\i<=c.length/\∃ρ' μ' F b,ez G F/\oG as b/\iM K σ' ρ' μ' d F b/\Az (Lk t) g (c.drop i) ρ' μ'=Y o,⟨c.length,by simp,bL _,ρ,μ,G,as,.refl _,.refl _,h1,by simpa using e2⟩,?_⟩;rintro i n σ' d ⟨rfl,hi,ρ',μ',F,b,B,s,f,z⟩;obtain⟨w1,w2⟩:=w d (B.trans f.h.sub);by_cases p:i<c.length
 ·right;have hd:c[i]?=Y c[i]:=aH p;obtain⟨X,V⟩:=w2 i _ hd;rw[bF p] at z;unfold Az at z;obtain⟨Q,e4,C⟩:=bind_some z;obtain⟨ρ1,e6,e7⟩:=bind_some e4;refine⟨X,λσ3 S=>∃ρ3 μ3 E j,ez G E/\oG as j/\iM K σ3 ρ3 μ3 S E j/\Az (Lk t) g (c.drop (i+1)) ρ3 μ3=Y o,by rintro σ3 S ⟨ρ3,μ3,E,j,s3,U,h3,O⟩;exact⟨c.length - (i+1),by omega,rfl,p,ρ3,μ3,E,j,s3,U,h3,O⟩,λx P y=>?_⟩;obtain⟨r1,r2⟩:=V x P y;obtain⟨T,I,g2,M⟩:=f.h.OT r1;have L:=f.mono I.sim (.refl _) M;have i4:=r2 T b (B.trans I) s g2;refine iM.bind L i4 e6 λσ5 h5=>⟨ρ1,μ',Q,T,b,h5,e7,?_⟩
  have e:=B.trans I;cases Q with
  |nx ρ3 μ3=>exact λσ6 A r a m l q=>⟨ρ3,μ3,r,a,e.trans m,s.trans l,q,C⟩
  |ct ρ3 μ3=>exact λσ6 A r a m l q=>⟨ρ3,μ3,r,a,e.trans m,s.trans l,q,C⟩
  |bk ρ3 μ3=>cases C;exact λσ6 A r a m l q=>k σ6 A r a (e.trans m) (s.trans l) q
  |rt v μ3=>cases C;exact λu A r a m l q i6=>k u A r a (e.trans m) (s.trans l) q i6
 ·have O:i=c.length:=by omega
  subst O;rw[c9] at z;cases z;exact .inl ⟨w1,k σ' d F b B s f⟩
def iQ.tell{u e:HO}(h:iQ K μ H G as)(i:G a=Y u)(k:yA u kv)(f:yA e kv):iQ K μ (upd H a e) (upd G a e) as:=by
 obtain⟨B,rfl,d,j⟩:=h.ex;have g:∀x∈B,x.1≠a:=λx c z=>by have:=d.free x c;rw[z,i] at this;cases this
 refine⟨⟨B,?_,⟨d.nd,λx c=>by rw[en (g x c)];exact d.free x c,d.ok⟩,j.mono (u3 i k f) (.refl _)⟩⟩
 funext b
 rcases k0 (a:=b) B with ⟨x,c,rfl⟩|h'
 ·rw[eO d.nd x c,en (g x c),eO d.nd x c]
 ·rw[fg h'];unfold upd;split
  ·rfl
  ·rw[fg h']
theorem iM.tell{a:Addr}{d:List (Key×V)}{u c:HO}(h:iM K σ ρ μ H G as)(f:G a=Y u)(e:yA u d)(b:yA c d):iM K σ ρ μ (upd H a c) (upd G a c) as:=h.mono (u3 f e b) (.refl _) (h.h.tell f e b)
end
section
variable {a:Expr}{es:Lx}{fs:d9->Option Lp}{ma mb mc m mo mk:MF}{ff:Bs}{ep:Pos}{rest:List Stmt}{g h:MS}{gc:MR->MH->Option (Bool×MH)}{j k:Nat}{F:IE}
def R5(X:Cx)(g b:Expr)(q:Bs):Prop:=PI X g b (λσ H R=>∃ρ μ d μ' G e,iM X.K σ ρ μ H G e/\q ρ μ=Y (d,μ')/\∀J f c a,ez G c->oG e a->iM X.K σ ρ μ' f c a->Cm X.K J d c a->R J f)
noncomputable def R6(m:MF):Bs:=λρ μ=>(m ρ μ).bind λr=>match r.1 with
 |.d (.list ds)=>Y (ds.map .d,r.2)
 |_=>Z
def OV(q:Bs)(t:Tg)(g:MS):MS:=λρ μ=>(q ρ μ).bind λr=>Az (Lk t) g r.1 ρ r.2
def M3{a:Expr}{t:Tg}{b:List Stmt}{q:Bs} (j:PassesOwn (model X.prog X.w) X.A X.env X.xe) (n:X.calm=true) (l:R5 X tg a q) (m:PG X tg (gT X.K t)) (p:M0 X b g)
  (i:∀x,foldedSetIterable a X.env x=pure x:=by intro _;rfl):PU X (.For tg a b [] pos) (OV q t g) :=
 PS.imp (xQ j n l m p i) <| by rintro D σ H ⟨ρ,μ,o,G,y,h,e,k⟩;obtain⟨⟨f,μ1⟩,u,s⟩:=bind_some e;exact⟨ρ,μ,f,μ1,G,y,h,u,λJ z B v d c r w=>ro w r s (k.later d c)⟩
def He(m:MF)(t:Tg)(g:MS):MS:=λρ μ=>(m ρ μ).bind λr=>match r.1 with
 |.d (.dict fX)=>if eT fX=true then Z else (Az (Lk t) g (fX.map λx=>.d x.1) ρ r.2).bind λo=>match o with
  |.nx ρ' μ'=>Y (.nx ρ' μ')
  |_=>Z
 |_=>Z
def DI{i:Expr}{t:Tg}{j:List Stmt} (hp:PassesOwn (model X.prog X.w) X.A X.env X.xe) (hc:X.calm=true) (hi:PM X i m) (hg:PG X tg (gT X.K t)) (B:M0 X j g)
  (hs:∀x,foldedSetIterable i X.env x=pure x:=by intro _;rfl):PU X (.For tg i j [] pos) (He m t g) :=
 PS.imp (DE (xQ hp hc (DD hi) hg B hs)) <| by
  rintro D σ H ⟨ρ,μ,o,G,as,hu,e,k⟩;obtain⟨⟨r,μ1⟩,e1,s⟩:=bind_some e;rcases r with d|_|_<;>try (cases s;done)
  obtain⟨c,rfl⟩:∃c,d=.dict c:=by cases d<;>first|exact⟨_,rfl⟩|cases s
  dsimp only at s;by_cases p:eT c=true
  ·rw[af p] at s;cases s
  rw[ag p] at s;obtain⟨S,O,e4⟩:=bind_some s;obtain⟨ρN,μN,rfl,rfl⟩:∃ρN μN,S=.nx ρN μN/\o=.nx ρN μN:=by cases S<;>cases e4;exact⟨_,_,rfl,rfl⟩
  have em:(c.map λx=>MV.d x.1)=(c.map (·.1)).map .d:=by simp
  rw[em] at O;refine⟨ρ,μ,.d (.dict c),μ1,G,as,hu,e1,λv H1 L UK R Q z V=>?_⟩;obtain⟨a,n,rfl,f,T⟩:=(gR.jf.mp V).kZ (by simpa using p);refine⟨a,n,rfl,z.h.sub.rd f,λl F=>?_,λl F W=>?_⟩
  ·have I:L a=Y (.oz l (.dK n)):=by
    rcases f with f | ⟨o,f⟩
    ·have:=z.h.sub _ _ f;rw[F] at this;cases this
    ·have:=z.h.sub _ _ f;rw[F] at this;cases this;exact f
   exact ro (la I T).u z O λσ' U P y E M J=>.inl (k σ' U P y (R.trans E) (Q.trans M) J)
  ·have I:L a=Y (.dK n):=by
    rcases f with f | ⟨o,f⟩
    ·exact f
    ·have:=z.h.sub _ _ f;rw[F] at this;cases this
   refine ro (la (G:=upd L a (.oz l (.dK n))) eI T).u (z.tell I (.inl rfl) (.inr ⟨l,rfl⟩)) O λσ' U P y E M J=>.inr ?_;have C:=E _ _ (eI (H:=L) (a:=a) (o:=.oz l (.dK n)));refine⟨a,l,n,J.h.sub _ _ C,W,k σ' _ (upd P a (.dK n)) y (λb o q=>?_) (Q.trans M) (J.tell C (.inr ⟨l,rfl⟩) (.inl rfl))⟩;have N:=R b o q;by_cases B:b=a
   ·subst B;rw[I] at N;cases N;exact eI
   ·rw[en B];exact E b o (by rw[en B];exact N)
end
def u5(N:Lr)(a:List MV):MR:=a.map Y++List.replicate (N.length - a.length) Z
def Cn{b:AL}{μ:MH}{N:Lr}{a:List MV}(i:eW K G b a vs)(h:iQ K μ H G b):iM K (start N vs) (u5 N a) μ H G b:=by
 have d:=i.length;refine⟨h,by simp[start,u5,d],λj m q=>?_⟩;unfold u5 at q;by_cases c:j<a.length
 ·rw[aM (by simpa using c),aB] at q;obtain⟨l,k,g⟩:=ab.mp q;cases g;obtain⟨v,f,e⟩:=i.get k;refine⟨v,?_,e⟩;unfold start;rw[aM (by simp;omega),aB,f];rfl
 ·rw[aO (by simpa using c),bB] at q;split at q<;>cases q
noncomputable def M4(N:Lr)(g:MS):IE:=λa μ=>(g (u5 N a) μ).bind λo=>match o with
 |.rt v μ'=>Y (v,μ')
 |.nx _ μ'=>Y (.d .none,μ')
 |_=>Z
def iQ.empty:iQ K [] H H []:=⟨[],rfl,ip.nil,rfl,rfl⟩
section
variable {P:Program}{base:Heap}{qual:Str}{fa:Addr}{N ps:Lr}{k:Nat}{g:MS}
theorem JY(F:Eh K x qual st fa fd) (S:hJ N ps (eM st)) (B:n=ps.length)
  (a:∀(oA:Value) (A:Around) (outer:List Env) (s:Shared) (H:Hp) (E:XK),gG k (A.deeper (envOfC qual (eM st) (zB s) fa oA)) ->
   M0 (sI tK P w K mg base N qual (eM st) fa oA A outer s H E).Iv (hP st) g):jl P w K mg base tK (k+1) fa fd ps (R4 K n (M4 N g)):=by
 refine F.ok S (by rintro vs H Q E ⟨q,μ,r,μ',G,t,i,l,_⟩;rw[<-i.length,l,B]) ?_;rintro oA A outer s H vs Q E z ⟨q,μ,r,μ',G,t,i,l,C,e,k⟩;refine⟨_,a oA A outer s H E z,?_⟩;obtain⟨o,D,c⟩:=bind_some e;refine⟨u5 N q,μ,o,G,t,Cn i C,D,?_⟩;cases o with
 |rt v μ1=>cases c;exact λu m p b f d j y=>k u m p b f d j y
 |nx ρ' μ1=>cases c;exact λσ m p b f d j=>k .jj m p b f d j.h (gR.jf.mpr (et.gf.mpr rfl))
 |bk _ _=>cases c
 |ct _ _=>cases c
abbrev OW(P:Program)(w:World)(K:W.Frag)(f:Str->Option Value)(c:Heap)(q:Str)(d:Stmt)(N:List Str)(k:Nat)(g:MS):Prop :=
 ∀{e:Addr}{b:Value}{A:Around}{a:List Env}{s:Shared}{H:Hp}{E:XK},gG k (A.deeper (envOfC q (eM d) (zB s) e b))->(A.deeper (envOfC q (eM d) (zB s) e b)).units+64<cLine->N.Nodup ->
  M0 (sI tK P w K f c N q (eM d) e b A a s H E).Iv (hP d) g
variable {c m q:Str}
def Hf(F:Cj K mg c q st) (f:OW P w K mg base q st N k g) (S:hJ N (N.take n) (eM st):=by exact⟨rfl,rfl,rfl,by decide +kernel,rfl,by decide +kernel,by decide +kernel⟩) (e:n=(N.take n).length:=by rfl)
  (m:IC "__init__" q st (N.take n):=by intro _ _ _ _ _ _;(repeat' intro _);exact rfl):Ha P w K mg base c (k+1) n (M4 N g):=by
 obtain⟨C,a,h,j,i,M,F⟩:=F;exact⟨C,a,h,N.take n,j,i,M,JY F S e λl A b s H E d=>f d d.units S.nd,m.to F⟩
end
section
variable {es:Lx}{j k:Nat}{F:IE}
def nM(c:Str)(n:Nat)(F:IE)(b:d9->Option Lp):d9->Od:=λρ=>(b ρ).bind λa=>if a.length+1=n then (F (.l 0::a.map .d) [.ins c []]).bind λq=>match q.1 with
 |.d .none=>xu q.2 9 (.l 0)
 |_=>Z else Z
def AA{f:Str} (N:Ha X.prog X.w X.K X.mg X.base f j n F) (R:gG (k+1) X.A) (U:Gl X f) (W:vS X (e::es) ff) (T:j<=k:=by decide) (s:zg f:=by decide)
  (V:zE e es X:=by rfl) (i:(backTo pos (starEach es X.env)).any (·.1)=false:=by rfl):PD X (.Call (.Name f p) (e::es) [] pos) (nM f n F ff):=by
 obtain⟨C,a,fd,ps,hC,I,M,Fn,b⟩:=N.ex;refine PE.imp (C1 M (Fn.mono T) R U I b .nil ni W s V i) ?_;rintro σ H Q ⟨ρ,d,P,e,k⟩;obtain⟨z,e1,g⟩:=bind_some e;by_cases m:z.length+1=n
 ·rw[af m] at g;refine⟨ρ,z,P,e1,λvs B E J x c O q l=>?_⟩;obtain⟨⟨r,μ1⟩,e3,t⟩:=bind_some g;rcases r with r|_|_<;>try (cases t;done)
  cases r<;>try (cases t;done)
  have S:=(iQ.empty (K:=X.K) (H:=B)).new (a:=(x,c)) (o:=.ins f []) (B':=[(x,.ins C c []),(c,.own x)]) ⟨C,[],rfl,hC,j8.nil⟩ ⟨by simp[Ne.symm l],λy h=>by
   rcases ak.mp h with e|h
   ·rw[e];exact O
   ·have:y=(c,HO.own x):=by simpa using h
    rw[this];exact q,.ins .nil⟩
  refine⟨_,_,_,_,B,[(x,c)],eW.cons (gR.lb.mpr ⟨(x,c),rfl,rfl⟩) (by rw[bb];exact tX J),by simpa using m,S,e3,λu H' G' Au G D v L=>⟨et.gf.mp (gR.jf.mp L),?_⟩⟩;exact k _ H' (E.trans (G.trans v.sub)) (nK v 9 _ _ _ t (gR.lb.mpr ⟨(x,c),D _ _ rfl,rfl⟩))
 ·rw[ag m] at g;cases g
end
section
variable {a i:Expr}{es:Lx}{mi:MF}{ff:Bs}{sp:Pos}{j k:Nat}
end
section
variable {a i:Expr}{es rest:Lx}{g:d8->d8->Od}{ma mb mc m mo mk:MF}{ff:Bs}{sp:Pos}{ga gb gc:MR->MH->Option (Bool×MH)}{j k:Nat}
def R7(r q:MV)(μ:MH):Option MV:=match r with
 |.l n=>match μ[n]? with
  |some (.lst xs)=>match q with
   |.d (.int i)=>qR xs i
   |_=>Z
  |some (.xa fX)=>((u4 q).bind kF).bind λy=>xt y fX
  |_=>Z
 |.t xs=>match q with
  |.d (.int i)=>qR xs i
  |_=>Z
 |.d (.list ds)=>match q with
  |.d (.int i)=>(qR ds i).map .d
  |_=>Z
 |.d (.tuple ds)=>match q with
  |.d (.int i)=>(qR ds i).map .d
  |_=>Z
 |.d (.dict fX)=>if eT fX=true then Z else (u4 q).bind λy=>(kF y).bind λ_=>(iU y fX).map .d
 |_=>Z
def Pr(b a:MF):MF:=λρ μ=>(b ρ μ).bind λr=>(a ρ r.2).bind λq=>(R7 r.1 q.1 q.2).map λv=>(v,q.2)
def tY{as:AL}{a:List MV}{i:Int}{m:MV}(h:eW K G as a vs)(e:qR a i=Y m):∃v,qR vs i=Y v/\gR K G as m v:=by obtain⟨j,f,d⟩:=bind_some e;obtain⟨v,c,b⟩:=h.get d;exact⟨v,by show (Ec vs.length i).bind _=_;rw[<-h.length,f];exact c,b⟩
def DJ{i:Int}{d:d8}(e:qR ds i=Y d):qR (ds.map MV.d) i=zd d:=by obtain⟨j,b,a⟩:=bind_some e;show (Ec (ds.map MV.d).length i).bind _=_;rw[ay,b];show (ds.map MV.d)[j]?=_;rw[aB,a];rfl
def Hg(R:X.A.units+64<cLine)(ha:PM X a ma)(hb:PM X b mb)(hs:oa b:=by exact λ_ _=>rfl)(Ub:zT b:=by exact λ_ _=>rfl):PM X (.Subscript a b pos) (Pr ma mb) :=
 PE.imp (PE.or (PE.or (C7 xW ha hb hs) (C7 FR ha hb hs)) (x3 (by omega) ha hb Ub)) <| by
  rintro σ H Q ⟨ρ,μ,v,μ',G,as,R,e,k⟩;obtain⟨⟨r,μ1⟩,W,e2⟩:=bind_some e;obtain⟨⟨q,μ2⟩,U,e4⟩:=bind_some e2;obtain⟨y,f,e6⟩:=ab.mp e4;cases e6;have M:∀{i:Int}{K:Fg}{G:Hp}{as:AL}{u:V},gR K G as (.d (.int i)) u->u=.int i:=λh=>et.eG.mp (gR.jf.mp h);unfold R7 at f;cases r with
  |l nn=>
   dsimp only at f;split at f
   ·rename_i xs N;split at f
    ·rename_i i;refine .inl (.inl ⟨ρ,μ,_,_,G,as,R,W,λu H1 L j x s F E=>⟨ρ,μ1,_,_,L,j,F,U,λw I J c n m o D=>?_⟩⟩);obtain⟨a,ea,rfl⟩:=gR.lb.mp (E.mono n.sim m);obtain⟨a',O,q1,C,B,_⟩:=o.h.lst N;rw[ea] at q1;cases q1;obtain⟨t,g,P⟩:=tY B f;exact⟨a.1,O,_,t,rfl,M D,jS.of C,g,k t I J c (x.trans n) (s.trans m) o P⟩
    ·cases f
   ·rename_i fX N;obtain⟨ky,e8,e9⟩:=bind_some f;obtain⟨dk,T,g⟩:=bind_some e8;have:=fM g;subst this;refine .inr ⟨ρ,μ,_,_,G,as,R,W,λu H1 L j x s F E=>⟨ρ,μ1,_,_,L,j,F,U,λw I J c n m o D=>?_⟩⟩;obtain⟨a,ea,rfl⟩:=gR.lb.mp (E.mono n.sim m);obtain⟨a',kv,q1,C,B,_⟩:=o.h.xa N;rw[ea] at q1;cases q1;rcases B.val (k:=ky) with ⟨p,_⟩ | ⟨z,t,p,z2,z3⟩
    ·rw[e9] at p;cases p
    ·rw[e9] at p;cases p;rw[gi (gR.dat T D)];exact⟨a.1,t,rfl,by rw[<-z2];exact lq.k C,k t I J c (x.trans n) (s.trans m) o z3⟩
   ·cases f
  |t xs=>
   dsimp only at f;split at f
   ·refine .inl (.inr ⟨ρ,μ,_,_,G,as,R,W,λu H1 L j x s F E=>⟨ρ,μ1,_,_,L,j,F,U,λw I J c n m o D=>?_⟩⟩);obtain⟨q,O,rfl,C,B⟩:=gR.xr.mp (E.mono n.sim m);obtain⟨t,g,P⟩:=tY B f;exact⟨q,O,_,t,rfl,M D,o.h.sub.oB C,g,k t I J c (x.trans n) (s.trans m) o P⟩
   ·cases f
  |d dd=>
   cases dd with
   |list ds=>
    dsimp only at f;split at f
    ·obtain⟨z,N,rfl⟩:=ab.mp f;refine .inl (.inl ⟨ρ,μ,_,_,G,as,R,W,λu H1 L j x s F E=>⟨ρ,μ1,_,_,L,j,F,U,λw I J c n m o D=>?_⟩⟩);obtain⟨q,O,rfl,C,B⟩:=et.eK.mp (gR.jf.mp (E.mono n.sim m));obtain⟨t,g,P⟩:=tY (tX (as:=c) B) (DJ N);exact⟨q,O,_,t,rfl,M D,o.h.sub.seq C,g,k t I J c (x.trans n) (s.trans m) o P⟩
    ·cases f
   |tuple ds=>
    dsimp only at f;split at f
    ·obtain⟨z,N,rfl⟩:=ab.mp f;refine .inl (.inr ⟨ρ,μ,_,_,G,as,R,W,λu H1 L j x s F E=>⟨ρ,μ1,_,_,L,j,F,U,λw I J c n m o D=>?_⟩⟩);obtain⟨q,O,rfl,C,B⟩:=(gR.jf.mp (E.mono n.sim m)).fJ;obtain⟨t,g,P⟩:=tY (tX (as:=c) B) (DJ N);exact⟨q,O,_,t,rfl,M D,o.h.sub.oB C,g,k t I J c (x.trans n) (s.trans m) o P⟩
    ·cases f
   |dict fX=>
    dsimp only at f;by_cases S:eT fX=true
    ·rw[af S] at f;cases f
    rw[ag S] at f;obtain⟨dk,N,e8⟩:=bind_some f;obtain⟨ky,e9,T⟩:=bind_some e8;obtain⟨z,g,rfl⟩:=ab.mp T;have:=fM e9;subst this;refine .inr ⟨ρ,μ,_,_,G,as,R,W,λu H1 L j x s F E=>⟨ρ,μ1,_,_,L,j,F,U,λw I J c n m o D=>?_⟩⟩;obtain⟨q,kv,rfl,C,B⟩:=(gR.jf.mp (E.mono n.sim m)).kZ (by simpa using S);rcases B.val (y:=ky) with ⟨p,_⟩ | ⟨d',t,p,z2,z3⟩
    ·rw[g] at p;cases p
    ·rw[g] at p;cases p;rw[gi (gR.dat N D)];exact⟨q,t,rfl,by rw[<-z2];exact lq.r (o.h.sub.rd C),k t I J c (x.trans n) (s.trans m) o (gR.jf.mpr z3)⟩
   |_=>cases f
noncomputable def m2(g:d8->d8->Od)(b a:MF):MF:=λρ μ=>(b ρ μ).bind λr=>(a ρ r.2).bind λq=>(u4 r.1).bind λx=>(u4 q.1).bind λy=>(g x y).map λd=>(.d d,q.2)
noncomputable def JZ(n:Nat)(f:Lp->Od)(b:Bs):MF:=λρ μ=>(b ρ μ).bind λr=>(xv r.1).bind λa=>if a.length=n then (f a).map λd=>(.d d,r.2) else Z
def Hh(m:MF):Bs:=λρ μ=>(m ρ μ).bind λr=>match r.1 with
 |.d (.list ds)=>Y ((uQ ds).map .d,r.2)
 |_=>Z
def Hi{a:Lx}{q:Nat}{n:Pos}(x:Gl X "enumerate")(w:X.mg "enumerate"=Z)(h:PM X e m)(v:starEach [e] X.env=[(false,eval e X.env)]:=by rfl):R5 X (.Tuple a q n) (.Call (.Name "enumerate" p) [e] [] pos) (Hh m) :=
 PI.imp (Dw x w h v) <| by
  rintro σ H R ⟨ρ,μ,D,μ',G,A,t,e,k⟩;obtain⟨⟨r,μ1⟩,z,b⟩:=bind_some e;refine⟨ρ,μ,r,μ1,G,A,t,z,λu B C c o i f s=>?_⟩;rcases r with d|_|_<;>try (cases b;done)
  cases d with
  |list E=>cases b;obtain⟨l,j,rfl,g,y⟩:=et.eK.mp (gR.jf.mp s);exact⟨l,j,rfl,f.h.sub.seq g,k _ B C c o i f (sj g y).u⟩
  |_=>cases b
end
section
variable {a i:Expr}{es rest:Lx}{m:MF}{sp:Pos}{ga gb gc:MR->MH->Option (Bool×MH)}
end
section
variable {a:Expr}
end
section
variable {es:Lx}{ff:Bs}{j k:Nat}
theorem yF{f:Lp->Od} (N:nE X.prog X.w X.K X.mg X.base x j n f) (hr:gG k X.A) (hg:Gl X x) (ha:Pq X (e::es) ff) (hj:j<=k:=by decide) (D:zg x:=by decide)
  (he:zE e es X:=by rfl) (z:(backTo pos (starEach es X.env)).any (·.1)=false:=by rfl):PM X (.Call (.Name x p) (e::es) [] pos) (JZ n f ff):=by
 obtain⟨a,fd,ps,Fn,hm,hk,hb⟩:=N.ex;intro l s σ H Q I ⟨ρ,μ,v,μ',G,O,hu,e1,k⟩;obtain⟨⟨V,μ1⟩,e2,e3⟩:=bind_some e1;obtain⟨F,e4,q⟩:=bind_some e3;by_cases C:F.length=n
 ·rw[af C] at q;obtain⟨d,e6,e7⟩:=ab.mp q;cases e7;refine aR (kU I hg hm ?_ D);refine W.callWith_K (h₀:=X.base) I.ok.mod.Ng hk (gd (@ha pos l s σ H (λus H1=>∃g b,ez G g/\oG O b/\iM X.K σ ρ μ1 H1 g b/\dv X.K g F us) I ⟨ρ,μ,V,μ1,G,O,hu,e2,λus H1 g b L S o y=>⟨g,b,L,S,o,eW.dat e4 y⟩⟩) ?_) he z;rintro us L ⟨vs,H1,P,r,g,b,T,R,o,y⟩;refine⟨P.qP,?_⟩;obtain⟨B,eH,M,mb⟩:=o.h.ex;subst eH;obtain⟨PB,I2,_,_,m⟩:=z9 M.ok P M;refine gd (uj (Q:=λu i=>ez g i/\et X.K i d u) (E:=E0) (Fn.mono hj) hr hb .nil ni I2 r ⟨F,d,by rw[bb];exact y,C,e6,KO.kd λu i t i'=>⟨t,i'⟩⟩) ?_;rintro w t ⟨u,i,J,U,c,iu⟩;obtain⟨f',J'⟩:=m i t σ J;exact⟨u,eD i B,J',U,k u _ i b (T.trans c) R (o.mono c.sim (.refl _) ⟨B,rfl,f',mb.mono c.sim (.refl _)⟩) (gR.jf.mpr iu)⟩
 ·rw[ag C] at q;cases q
end
section
variable {a:Expr}{fb:d9->Od}
end
section
variable {s:Shared}{h':Heap}
end
section
variable {a:Expr}{ta tb:TE}
end
section
variable {a:Expr}{es:Lx}{ma mb mc m mo mk:MF}{ff:Bs}{ep:Pos}{rest:List Stmt}{g h:MS}
end
section
variable {te:TE}
end
section
variable {G' H':Hp}{as Au:AL}{μ μ':MH}{ρ:MR}
end
section
variable {mo:MF}{g:MS}
end
end L2
section
noncomputable section
namespace L2
open PySem PySem.Spec PyProof.Rows PySem.StrLaws PySem.Builtin PySem.Builtin.Str
theorem DK{c:Nat}:∀(f d i g:List Nat),c∉f->c∉d->f++c::i=d++c::g->f=d/\i=g
 |[],[],_,_,_,_,h=>by simp at h;exact⟨rfl,h⟩
 |[],a::d,_,_,_,h2,h=>by simp at h;exact absurd h.1 (by intro e;subst e;simp at h2)
 |a::f,[],_,_,h1,_,h=>by simp at h;exact absurd h.1 (by intro e;subst e;simp at h1)
 |a::f,b::d,i,g,h1,h2,h=>by simp only[de,List.cons.injEq] at h;simp only[ak,not_or] at h1 h2;obtain⟨k,j⟩:=DK f d i g h1.2 h2.2 h.2;exact⟨by rw[h.1,k],j⟩
def Hj{c:Nat}(a d b:List Nat)(e:c∉a)(h:a=d++c::b):False:=e (by rw[h];simp)
def lU(c:Nat)(a b:Str)(r:Lr):(Str.join ⟨#[c]⟩ (a::b::r)).cps.toList=a.cps.toList++c::(Str.join ⟨#[c]⟩ (b::r)).cps.toList:=by show (a++(⟨#[c]⟩:Str)++Str.join ⟨#[c]⟩ (b::r)).cps.toList=_;simp[Str.cps_append]
theorem AB(c:Nat):∀(g f:Lr),g≠[]->f≠[]->(∀p∈g,c∉p.cps.toList)->(∀p∈f,c∉p.cps.toList)->Str.join ⟨#[c]⟩ g=Str.join ⟨#[c]⟩ f->g=f
 |[],_,h,_,_,_,_=>absurd rfl h
 |_::_,[],_,h,_,_,_=>absurd rfl h
 |[a],[b],_,_,_,_,h=>by have:a=b:=h;rw[this]
 |[a],b::j::r,_,_,h1,_,h=>by have e:=bg (λz:Str=>z.cps.toList) h;simp only[lU] at e;exact(Hj _ _ _ (h1 a (by simp)) e).elim
 |a::a2::r,[b],_,_,_,d,h=>by have e:=bg (λz:Str=>z.cps.toList) h;simp only[lU] at e;exact(Hj _ _ _ (d b (by simp)) e.symm).elim
 |a::a2::r,b::j::t,_,_,h1,d,h=>by have e:=bg (λz:Str=>z.cps.toList) h;simp only[lU] at e;obtain⟨n,m⟩:=DK _ _ _ _ (h1 a (by simp)) (d b (by simp)) e;have l:a=b:=Str.ext' (cJ.mp n);have k:=AB c (a2::r) (j::t) (by simp) (by simp) (λp i=>h1 p (by simp[i])) (λp i=>d p (by simp[i])) (Str.ext' (cJ.mp m));rw[l,k]
def Hk(x y:Str):Txt.split x y≠[]:=by
 unfold Txt.split;split
 ·simp
 ·split
  ·simp
  ·rw[partsBetween_eq];obtain⟨p,r,e⟩:=partsFrom_ne x y.length 0 (occurrences x y 0 x.length (x.length+1));rw[e];simp
def Co(c:Nat)(a:Lr)(d:a≠[])(h:∀p∈a,c∉p.cps.toList):Txt.split (Str.join ⟨#[c]⟩ a) ⟨#[c]⟩=a :=
 AB c _ _ (Hk _ _) d (λp b=>split_free _ c p b) h (join_split _ _)
theorem oU(x:Str)(w:Nat):∀(b:List Nat) (a:Nat),(partsFrom x w a b).length=b.length+1
 |[],_=>rfl
 |c::r,a=>by show (strSub x a c::partsFrom x w (c+w) r).length=_;simp[oU x w r]
def J0(c:Nat)(a:Lr)(b:a≠[])(h:∀p∈a,c∉p.cps.toList)(d:(Str.join ⟨#[c]⟩ a).length<=1000000):
  ym (.str (Str.join ⟨#[c]⟩ a)) [.str ⟨#[c]⟩]=Y (.list (a.map .str)):=by
 have e:=occ_length_le_len (Str.join ⟨#[c]⟩ a) ⟨#[c]⟩ 0 (Str.join ⟨#[c]⟩ a).length ((Str.join ⟨#[c]⟩ a).length+1);show (if _ then _ else Z)=_;rw[af ⟨rfl,by rw[sizeLine_eq];omega,by rw[partsBetween_eq,oU,sizeLine_eq];omega⟩,Co c a b h]
def fH(c:Nat)(l:List Nat):List Nat×List (List Nat):=@List.rec Nat (λ_=>List Nat×List (List Nat)) ([],[]) (λx _ q=>match Nat.beq x c with|true=>([],q.1::q.2)|false=>(x::q.1,q.2)) l
def lV(l:List Nat):Str:=⟨l.toArray⟩
def rp(c:Nat)(l:List Nat):Lr:=lV (fH c l).1::(fH c l).2.map lV
def ko(d:d8)(a:Lp):Od:=match d,a with
 |.str x,[.str y]=>match y.cps.toList with
  |[c]=>if x.length<100000 then Y (.list ((rp c x.cps.toList).map .str)) else Z
  |_=>Z
 |_,_=>Z
theorem su(c:Nat):∀l:List Nat,c∉(fH c l).1/\∀q∈(fH c l).2,c∉q
 |[]=>⟨by simp[fH],by simp[fH]⟩
 |x::r=>by
  obtain⟨d,b⟩:=su c r;show c∉(match Nat.beq x c with|true=>(([]:List Nat),(fH c r).1::(fH c r).2)|false=>(x::(fH c r).1,(fH c r).2)).1/\∀q∈(match Nat.beq x c with|true=>(([]:List Nat),(fH c r).1::(fH c r).2)|false=>(x::(fH c r).1,(fH c r).2)).2,c∉q;cases e:Nat.beq x c with
  |true=>
   refine⟨by simp,λq a=>?_⟩;rcases ak.mp a with e|a
   ·rw[e];exact d
   ·exact b q a
  |false=>have:=Nat.ne_of_beq_eq_false e;exact⟨by simp[d,Ne.symm this],b⟩
theorem sv(c:Nat):∀l:List Nat,(Str.join ⟨#[c]⟩ (rp c l)).cps.toList=l
 |[]=>by rfl
 |x::r=>by
  have d:=sv c r;unfold rp at d ⊢;show (Str.join ⟨#[c]⟩ (lV (match Nat.beq x c with|true=>(([]:List Nat),(fH c r).1::(fH c r).2)|false=>(x::(fH c r).1,(fH c r).2)).1::(match Nat.beq x c with|true=>(([]:List Nat),(fH c r).1::(fH c r).2)|false=>(x::(fH c r).1,(fH c r).2)).2.map lV)).cps.toList=_;cases e:Nat.beq x c with
  |true=>have:=Nat.eq_of_beq_eq_true e;subst this;show (Str.join ⟨#[x]⟩ (lV []::lV (fH x r).1::(fH x r).2.map lV)).cps.toList=_;rw[lU,d];rfl
  |false=>
   show (Str.join ⟨#[c]⟩ (lV (x::(fH c r).1)::(fH c r).2.map lV)).cps.toList=_;cases h:(fH c r).2 with
   |nil=>rw[h] at d;show x::(lV (fH c r).1).cps.toList=_;rw[show (lV (fH c r).1).cps.toList=r from d]
   |cons a b=>rw[h] at d;simp only[az] at d ⊢;rw[lU] at d ⊢;show x::((lV (fH c r).1).cps.toList++_)=_;rw[d]
def Cp{d:d8}{r:d8}(h:ko d ds=Y r):ym d ds=Y r:=by
 unfold ko at h;split at h
 ·rename_i x y;split at h
  ·rename_i c l;by_cases f:x.length<100000
   ·rw[af f] at h;cases h;have g:x=Str.join ⟨#[c]⟩ (rp c x.cps.toList):=Str.ext' (cJ.mp (sv c x.cps.toList).symm);have b:y=⟨#[c]⟩:=Str.ext' (cJ.mp l);have q:=J0 c (rp c x.cps.toList) (by simp[rp]) (λp a=>by
     obtain⟨k,j⟩:=su c x.cps.toList;rcases ak.mp a with e|a
     ·rw[e];exact k
     ·obtain⟨q,i,rfl⟩:=aJ.mp a;exact j q i) (by rw[<-g];omega)
    rw[<-g] at q;rw[b];exact q
   ·rw[ag f] at h;cases h
  ·cases h
 ·cases h
def Hl(c:List Nat)(a:Lr):List Nat:=@List.rec Str (λ_=>List Nat) [] (λx r b=>match r with | []=>x.cps.toList|_::_=>x.cps.toList++(c++b)) a
theorem AD(c:Str):∀a:Lr,(Str.join c a).cps.toList=Hl c.cps.toList a
 |[]=>rfl
 |[x]=>rfl
 |x::y::r=>by
  have b:=AD c (y::r);show (x++c++Str.join c (y::r)).cps.toList=x.cps.toList++(c.cps.toList++Hl c.cps.toList (y::r))
  rw[<-b];simp[Str.cps_append]
def yG(d:d8)(c:Lp):Od:=match d,c with
 |.str x,[.list b]=>(pk b).bind λa=>if JoinOk x a=true then Y (.str (lV (Hl x.cps.toList a))) else Z
 |_,_=>Z
def EG{d:d8}{r:d8}(h:yG d ds=Y r):Gx d ds=Y r:=by
 unfold yG at h;split at h
 ·rename_i x e;obtain⟨a,f,b⟩:=bind_some h;by_cases c:JoinOk x a=true
  ·rw[af c] at b;cases b;show (pk e).bind _=_;rw[f];show (if JoinOk x a=true then Y (d8.str (glued x a)) else Z)=_;rw[af c,glued_eq_join]
   congr 2
   exact Str.ext' (cJ.mp (AD x a))
  ·rw[ag c] at b;cases b
 ·cases h
section
def kz:Jc X "str.split" (λx vs H Q=>∃d b c,et X.K H d x/\dv X.K H b vs/\ko d b=Y c/\KD X.K H c Q) :=
 λa s σ H v vs u f Q I g h ⟨d,b,c,j,i,e,k⟩=>Gw a s σ H v vs u f Q I g h ⟨d,b,c,j,i,Cp e,k⟩
def Hm:Jc X "str.join" (λx vs H Q=>∃d b c,et X.K H d x/\dv X.K H b vs/\yG d b=Y c/\KD X.K H c Q) :=
 λa s σ H v vs u f Q I g h ⟨d,b,c,j,i,e,k⟩=>JG a s σ H v vs u f Q I g h ⟨d,b,c,j,i,EG e,k⟩
end
end L2
end
namespace L2
open PySem
noncomputable def rq(a:Array Nat):Prop:=a.toList.Pairwise (·<·)
def rq.lt{a:Array Nat}(h:rq a){j:Nat}(b:i<j)(c:j<a.size):a.getD i 0<a.getD j 0:=by have:=List.pairwise_iff_getElem.mp h i j (by simp;omega) (by simpa using c) b;simp only[Array.getD_eq_getD_getElem?,Array.getElem?_eq_getElem c,Array.getElem?_eq_getElem (show i<a.size by omega),Option.getD_some];simpa using this
def Hn{d:Array Nat}(h:rq d)(j:Nat):∀(a c b:Nat),b - c<=a->c<=b->b<=d.size->(∀k,k<c->d.getD k 0<j)->(∀k,b<=k->k<d.size->j<=d.getD k 0) ->
  SetTable.below.go d j a c b<=d.size/\(∀k,k<SetTable.below.go d j a c b->d.getD k 0<j)/\∀k,SetTable.below.go d j a c b<=k->k<d.size->j<=d.getD k 0:=by
 intro a;induction a with
 |zero=>
  intro c b s p i g f;have:c=b:=by omega
  subst this;exact⟨i,g,f⟩
 |succ a m=>
  intro c b s p i g f;unfold SetTable.below.go;by_cases q:c<b
  ·rw[af q];have n:(c+b) / 2<d.size:=by omega
   have e:d.getD ((c+b) / 2) j=d.getD ((c+b) / 2) 0:=by simp[Array.getD_eq_getD_getElem?,Array.getElem?_eq_getElem n]
   dsimp only;rw[e];by_cases r:d.getD ((c+b) / 2) 0<j
   ·rw[af r];refine m _ _ (by omega) (by omega) i (λk o=>?_) f;rcases Nat.lt_or_ge k ((c+b) / 2) with z|z
    ·exact cZ (h.lt z n) r
    ·rw[show k=(c+b) / 2 by omega];exact r
   ·rw[ag r];refine m _ _ (by omega) (by omega) (by omega) g λk o l=>?_;rcases Nat.lt_or_ge ((c+b) / 2) k with z|z
    ·exact cB (Nat.lt_of_le_of_lt (cy r) (h.lt z l))
    ·rw[show k=(c+b) / 2 by omega];exact cy r
  ·rw[ag q];have:c=b:=by omega
   subst this;exact⟨i,g,f⟩
def u6{a:Array Nat}(h:rq a)(j:Nat):SetTable.below a j<=a.size/\(∀k,k<SetTable.below a j->a.getD k 0<j)/\∀k,SetTable.below a j<=k->k<a.size->j<=a.getD k 0 :=
 Hn h j a.size 0 a.size (by omega) (bL _) (ax _) (λk b=>absurd b (Nat.not_lt_zero _)) λk d c=>absurd c (by omega)
def Cq{a:Array Nat}(h:rq a)(b:i<a.size):SetTable.below a (a.getD i 0+1)=i+1:=by
 obtain⟨e,d,c⟩:=u6 h (a.getD i 0+1);rcases Nat.lt_trichotomy (SetTable.below a (a.getD i 0+1)) (i+1) with z|z|z
 ·have:=c i (by omega) b;omega
 ·exact z
 ·have:=d (i+1) z;have:=h.lt (show i<i+1 by omega) (by omega);omega
def J4{a:Array Nat}(h:rq a):SetTable.below a 0=0:=by
 obtain⟨d,b,c⟩:=u6 h 0;rcases Nat.eq_zero_or_pos (SetTable.below a 0) with z|z
 ·exact z
 ·exact absurd (b 0 z) (Nat.not_lt_zero _)
def iW(a:Array α)(p:Nat)(x:α):(SetTable.insertAt a p x).toList=a.toList.take p++x::a.toList.drop p:=by unfold SetTable.insertAt;simp[Array.toList_extract,List.take_of_length_le]
def AE{c:Array Nat}(h:rq c){j:Nat}(s:c[SetTable.below c j]?≠Y j):rq (SetTable.insertAt c (SetTable.below c j) j):=by
 obtain⟨w,u,q⟩:=u6 h j;unfold rq;rw[iW];have p:∀a∈c.toList.take (SetTable.below c j),a<j:=λa f=>by
  obtain⟨k,g,e⟩:=List.mem_iff_getElem.mp f;rw[cw] at g;have:=u k (by omega);have d:k<c.size:=by simp at g;omega
  rw[Array.getD_eq_getD_getElem?,Array.getElem?_eq_getElem d,Option.getD_some] at this;rw[<-e];simpa using this
 have o:∀a∈c.toList.drop (SetTable.below c j),j<a:=λa f=>by
  obtain⟨k,g,e⟩:=List.mem_iff_getElem.mp f;rw[cI] at g;have d:SetTable.below c j+k<c.size:=by simp at g;omega
  have l:=q (SetTable.below c j+k) (by omega) d;rw[Array.getD_eq_getD_getElem?,Array.getElem?_eq_getElem d,Option.getD_some] at l;have t:a=c[SetTable.below c j+k]:=by rw[<-e];simp
  rw[t];rcases Nat.lt_or_eq_of_le l with z|z
  ·exact z
  ·exfalso;rcases Nat.eq_zero_or_pos k with n|n
   ·subst n;exact s (by rw[Array.getElem?_eq_getElem (by simpa using d),<-show j=c[SetTable.below c j] from by simpa using z])
   ·have v:=q (SetTable.below c j) (ax _) (by omega);have r:=h.lt (i:=SetTable.below c j) (j:=SetTable.below c j+k) (by omega) d;rw[Array.getD_eq_getD_getElem? (i:=SetTable.below c j+k),Array.getElem?_eq_getElem d,Option.getD_some,<-z] at r;omega
 refine List.pairwise_append.mpr ⟨h.sublist (List.take_sublist _ _),List.pairwise_cons.mpr ⟨o,h.sublist (List.drop_sublist _ _)⟩,λa f b m=>?_⟩;rcases ak.mp m with rfl|m
 ·exact p a f
 ·exact cZ (p a f) (o b m)
noncomputable def NL(t:SetTable)(j:Nat):Prop:=t.place[SetTable.below t.place j]?≠Y j
def Ll{t:SetTable}{j:Nat}(h:∀i,t.slot j≠.live i):NL t j:=λe=>by refine h (SetTable.below t.place j) ?_;unfold SetTable.slot;simp[e]
theorem u7{t:SetTable}{f:Nat->Int}{h:Int}:∀(n:Nat) (p:SetTable.Probe) (j:Nat) (a:Option Nat),(∀d,p.dummy=Y d->NL t d)->SetTable.probe.go t f h n p=Y (.empty j a)->NL t j/\∀d,a=Y d->NL t d
 |0,_,_,_,_,e=>by cases e
 |n+1,p,j,a,hp,e=>by
  unfold SetTable.probe.go at e;cases q:t.slot p.j with
  |empty=>rw[q] at e;cases e;exact⟨Ll (λi z=>by rw[q] at z;cases z),hp⟩
  |dummy=>
   rw[q] at e;refine u7 n _ j a (λd hd=>?_) e;have:d=p.j:=by unfold SetTable.advance at hd;split at hd<;>simpa using hd.symm
   rw[this];exact Ll λi z=>by rw[q] at z;cases z
  |live i=>
   rw[q] at e;dsimp only at e;split at e
   ·cases e
   ·refine u7 n _ j a (λd hd=>hp d ?_) e;unfold SetTable.advance at hd;split at hd<;>simpa using hd
def J5{t:SetTable}{h:Int}{j:Nat}{b:Bool}(e:t.freeSlot h=Y (j,b)):NL t j:=by
 unfold SetTable.freeSlot at e;split at e
 ·rename_i g f q;obtain⟨c,a⟩:=u7 _ _ _ _ (λd hd=>by cases hd) q;cases f with
  |none=>cases e;exact c
  |some d=>cases e;exact a d rfl
 ·cases e
structure Tb (led:Bool) (t:SetTable):Prop where
 r:rq t.place
 l:t.led=led
theorem yH{α:Type}(f:Nat->Option α):∀l:List Nat,((l.filterMap λj=>(f j).map (j,·)).map (·.1)).Sublist l
 |[]=>.slnil
 |a::l=>by
  rw[bQ];cases q:f a with
  |none=>simpa [q] using (yH f l).cons a
  |some b=>simpa [q] using (yH f l).cons₂ a
end L2
namespace L2
open PySem PySem.Spec PyProof.Rows
noncomputable def vZ:Value->Option Int
 |.int k _=>Y k
 |_=>Z
def xw{v:Value}{k:Int}(h:vZ v=Y k):∃t,v=.int k t:=by
 unfold vZ at h;split at h
 ·cases h;exact⟨_,rfl⟩
 ·cases h
structure nN (h:Heap) (a:Addr) (led:Bool) (ks:List Int) (es:Array (Int×Value)) (ep:Nat) (t:SetTable):Prop where
 ex:∃o,h.get? a=Y o/\o.ExactSet/\o.data=.set es ep t
 el:(es.toList.map λe=>(e.1,vZ e.2)).Perm (ks.map λk=>(hashInt k,Y k))
 sz:es.size<scanBound
 fi:t.fits es.size=true
 tb:Tb led t
section
variable {s:Shared}{led:Bool}{ks:List Int}{es AF:Array (Int×Value)}{ep:Nat}{t t':SetTable}{h':Heap}
def nN.mem(q:nN h a led ks es ep t){e:Int×Value}(f:e∈es.toList):∃k b,k∈ks/\e=(hashInt k,.int k b):=by have:(e.1,vZ e.2)∈ks.map λk=>(hashInt k,Y k):=q.el.mem_iff.mp (aJ.mpr ⟨e,f,rfl⟩);obtain⟨k,d,c⟩:=aJ.mp this;obtain⟨b,g⟩:=xw (bg Prod.snd c).symm;exact⟨k,b,d,Prod.ext (bg Prod.fst c).symm g⟩
def nN.elems(q:nN h a led ks es ep t):ElemsOf (intKind prog w) es.toList:=λe b=>by obtain⟨k,c,_,rfl⟩:=q.mem b;exact⟨⟨k,intKind_is _ _ _ _,rfl⟩,rfl⟩
def nN.has(q:nN h a led ks es ep t)(k:Int):k∈ks↔∃e∈es.toList,(intKind prog w).is k e.2=true:=by
 constructor
 ·intro b;obtain⟨e,c,j⟩:=aJ.mp (q.el.mem_iff.mpr (aJ.mpr ⟨k,b,rfl⟩));obtain⟨d,g⟩:=xw (bg Prod.snd j);exact⟨e,c,by rw[g];exact intKind_is _ _ _ _⟩
 ·rintro⟨e,c,i⟩;obtain⟨f,d,b,rfl⟩:=q.mem c;rw[(intKind prog w).inj _ _ _ i (intKind_is prog w f d)];exact b
def nN.move(q:nN h a led ks es ep t)(e:∀o,h.get? a=Y o->h'.get? a=Y o):nN h' a led ks es ep t:=by obtain⟨o,b,r⟩:=q.ex;exact⟨⟨o,e o b,r⟩,q.el,q.sz,q.fi,q.tb⟩
def nN.put(q:nN h a led ks es ep t){b:List Int}(m:(AF.toList.map λe=>(e.1,vZ e.2)).Perm (b.map λk=>(hashInt k,Y k)))(g:AF.size<scanBound)(l:t'.fits AF.size=true)(f:Tb led t'):nN (h.update a (Obj.putSet AF t')) a led b AF (ep+1) t':=by obtain⟨o,j,i,d⟩:=q.ex;have c:=bj (Obj.putSet AF t') j (by rw[putSet_of AF t' d];rfl);rw[putSet_of AF t' d] at c;exact⟨⟨_,c,i,rfl⟩,m,g,l,f⟩
def nN.store(q:nN s.heap a led ks es ep t){Q:Unit->Shared->Prop}(b:AF.size<scanBound)(k:Q () { s with heap:=s.heap.update a (Obj.putSet AF t') }):wpAny (model prog w) A (storeSet a AF t') Q E s:=by obtain⟨o,c,e,d⟩:=q.ex;exact wpAny_storeSet_of c d k (fits_of_scanBound b)
end
noncomputable def Ho:List Nat->List (List Nat)
 |[]=>[[]]
 |a::l=>Ho l++(Ho l).map (a::·)
def Hq{p l:List Nat}(h:p.Sublist l):p∈Ho l:=by
 induction h with
 |slnil=>simp[Ho]
 |cons a _ b=>exact aw _ b
 |cons_cons a _ b=>exact ai _ (aJ.mpr ⟨_,b,rfl⟩)
def EH(m:Nat):∀(n:Nat) (p:List Nat),p.Pairwise (·<·)->(∀x∈p,m<=x/\x<m+n)->p.Sublist (List.range' m n):=by
 intro n;induction n generalizing m with
 |zero=>
  intro p _ h;cases p with
  |nil=>exact .slnil
  |cons x p=>have:=h x (by simp);omega
 |succ n b=>
  intro p c h;cases p with
  |nil=>exact List.nil_sublist _
  |cons x p=>
   rw[List.range'_succ];obtain⟨d,f⟩:=List.pairwise_cons.mp c;rcases Nat.eq_or_lt_of_le (h x (by simp)).1 with e|e
   ·subst e;exact(b (m+1) p f λy a=>⟨d y a,by have:=h y (by simp[a]);omega⟩).cons₂ _
   ·exact(b (m+1) (x::p) c λy a=>⟨by
     rcases ak.mp a with rfl|a
     ·exact e
     ·have:=d y a;omega,by have:=h y a;omega⟩).cons _
noncomputable abbrev tA(p:List Nat)(u v:Nat)(w:Bool):SetTable:={ mask:=7,place:=p.toArray,dummies:=#[],finger:=u,led:=w,moves:=v,plain:=true }
noncomputable def Ka:List (List Nat):=(Ho (List.range 8)).filter λp=>decide (p.length<=4)
def Kb(a b:Nat)(c:Bool):Ka.map (λp=>(List.range 13).map λk:Nat=>((tA p a b c).freeSlot (k:Int)).map λr=>(decide (r.1<=7),r.2))=Ka.map λp=>(List.range 13).map λ_=>Y (true,false):=by kernel_rfl
def pw:∀k:Nat,k<13->hashInt (k:Int)=(k:Int):=by decide +kernel
def u9:∀k:Nat,k<13->SetTable.bits (k:Int)=k:=by decide +kernel
def M5{t:SetTable}(s:t.mask=7)(w:t.dummies=#[])(q:t.plain=true)(o:rq t.place)(u:∀p∈t.place.toList,p<=7)(y:t.place.size<=4){k:Nat}(v:k<13):∃j,t.freeSlot (k:Int)=Y (j,false)/\j<=7:=by
 obtain⟨l,c,g,a,i,d,h⟩:=t;cases s;cases w;cases q;have f:c.toList∈Ka:=by unfold Ka;refine bT.mpr ⟨Hq ?_,by simpa using y⟩;rw[List.range_eq_range'];exact EH 0 8 _ o λx n=>⟨bL _,by have:=u x n;omega⟩
 have e:=(List.map_inj_left.mp ((List.map_inj_left.mp (Kb a d i)) _ f)) k (List.mem_range.mpr v);obtain⟨r,B,m⟩:=ab.mp e;obtain⟨j,b⟩:=r;simp at m;obtain⟨A,z⟩:=m;subst z;exact⟨j,B,A⟩
def M6{t:SetTable}(a:t.mask=31)(f:t.dummies=#[]){k:Nat}(d:k<13)(b:NL t k):t.freeSlot (k:Int)=Y (k,false):=by
 have g:=u9 k d;have c:t.slot k=.empty:=by
  unfold SetTable.slot;have:(t.place[SetTable.below t.place k]?==Y k)=false:=by
   cases q:(t.place[SetTable.below t.place k]?==Y k) with
   |false=>rfl
   |true=>exact absurd (eq_of_beq q) b
  simp only[this,cD,dN,f];rfl
 have e:(t.probeStart (k:Int)).j=k:=by show SetTable.bits (k:Int) % (t.mask+1)=k;rw[g,a];omega
 unfold SetTable.freeSlot SetTable.probe;rw[show 10*SetTable.turns t.mask=459+1 by rw[a];rfl];unfold SetTable.probe.go;rw[e,c];rfl
noncomputable def kE(a:Array (Int×Value)):List Int:=a.toList.map (·.1)
structure Sm (es:Array (Int×Value)) (t:SetTable):Prop where
 pl:t.plain=true
 du:t.dummies=#[]
 ri:rq t.place
 fi:t.place.size=es.size
 hs:∀h∈kE es,∃k:Nat,k<13/\h=(k:Int)
 nd:(kE es).Nodup
 md:(t.mask=7/\es.size<=5/\∀p∈t.place.toList,p<=7)\/(t.mask=31/\t.place.toList.map (λp:Nat=>(p:Int))=kE es)
theorem va:∀(n:Nat) (l:List Int),l.Nodup->(∀x∈l,0<=x/\x<(n:Int))->l.length<=n
 |0,l,_,h=>by
  cases l with
  |nil=>exact ax _
  |cons x l=>have:=h x (by simp);omega
 |n+1,l,nd,h=>by
  by_cases b:(n:Int)∈l
  ·have:=va n (l.erase n) (nd.erase _) λx a=>by
    obtain⟨d,c⟩:=(List.Nodup.mem_erase_iff nd).mp a;have:=h x c;omega
   rw[List.length_erase_of_mem b] at this;omega
  ·have:=va n l nd λx a=>by
    have d:=h x a;have:x≠(n:Int):=λz=>b (z▸a);omega
   omega
def lg{l:List Int}(h:∀x∈l,∃k:Nat,k<13/\x=(k:Int))(a:l.Nodup):l.length<=13 :=
 va 13 l a λx b=>by obtain⟨k,c,rfl⟩:=h x b;omega
def xx(a:Array (Int×Value))(p:Nat)(h:Int)(x:Value):kE (SetTable.insertAt a p (h,x))=(kE a).take p++h::(kE a).drop p:=by unfold kE;rw[iW];simp
def DL(a:Array (Int×Value))(p:Nat)(h:Int)(x:Value):(kE (SetTable.insertAt a p (h,x))).Perm (h::kE a):=by rw[xx];exact List.perm_middle.trans (by rw[List.take_append_drop])
def vb(a:Array α)(p:Nat)(x:α):(SetTable.insertAt a p x).size=a.size+1:=by rw[<-a8,iW];simp;omega
def Sm.lay{b:Array (Int×Value)}{t:SetTable}(q:Sm b t)(u:t.mask=7->b.size<=4){k:Nat}(A:k<13)(C:(k:Int)∉kE b)(x:Value):∃B o,layNew t b (k:Int) x=(B,o,false,false)/\Sm B o/\B.size=b.size+1/\o.led=t.led/\o.mask=t.mask:=by
 have v:∃j,t.freeSlot (k:Int)=Y (j,false)/\((t.mask=7/\j<=7)\/(t.mask=31/\j=k)):=by
  rcases q.md with ⟨a,G,s⟩ | ⟨a,d⟩
  ·obtain⟨j,e,g⟩:=M5 a q.du q.pl q.ri s (by rw[q.fi];exact u a) A;exact⟨j,e,.inl ⟨a,g⟩⟩
  ·refine⟨k,M6 a q.du A λz=>C ?_,.inr ⟨a,rfl⟩⟩;rw[<-d];exact aJ.mpr ⟨k,by rw[Array.mem_toList_iff];exact Array.mem_of_getElem? z,rfl⟩
 obtain⟨j,E,g⟩:=v;have F:=J5 E;have n:(t.put j).1.dummies=#[]:=by unfold SetTable.put;rw[q.du];rfl
 have c:(t.put j).1.place=SetTable.insertAt t.place (SetTable.below t.place j) j:=rfl;have w:(t.put j).2=SetTable.below t.place j:=rfl;have r:(SetTable.insertAt b (SetTable.below t.place j) ((k:Int),x)).size=b.size+1:=vb _ _ _;have f:((k:Int)::kE b).Nodup:=bp.mpr ⟨C,q.nd⟩;have i:∀h∈(k:Int)::kE b,∃k:Nat,k<13/\h=(k:Int):=λh l=>by
  rcases ak.mp l with rfl|l
  ·exact⟨k,A,rfl⟩
  ·exact q.hs h l
 have D:b.size+1<=13:=by have:=lg i f;simpa [kE] using this
 have y:(t.put j).1.mask=t.mask:=rfl;have m:(t.put j).1.fits (b.size+1)=true:=by
  unfold SetTable.fits SetTable.fill;rw[c,n,y,vb,q.fi];rcases g with ⟨a,_⟩ | ⟨a,_⟩
  ·have:=u a;rw[a];simp;omega
  ·rw[a];simp;omega
 refine⟨SetTable.insertAt b (SetTable.below t.place j) ((k:Int),x),(t.put j).1,?_,⟨q.pl,n,?_,?_,?_,?_,?_⟩,r,rfl,rfl⟩
 ·unfold layNew;rw[E];show (SetTable.insertAt b (t.put j).2 ((k:Int),x),(t.put j).1.orStandIn (SetTable.insertAt b (t.put j).2 ((k:Int),x)).size,false,!(t.put j).1.fits (SetTable.insertAt b (t.put j).2 ((k:Int),x)).size)=_;rw[w,r,m];unfold SetTable.orStandIn;rw[af m];rfl
 ·rw[c];exact AE q.ri F
 ·rw[c,r,vb,q.fi]
 ·intro h l;exact i h ((DL b _ _ x).mem_iff.mp l)
 ·exact(DL b _ _ x).nodup_iff.mpr f
 ·rcases q.md with ⟨a,G,s⟩ | ⟨a,d⟩
  ·refine .inl ⟨a,by have:=u a;rw[r];omega,λp d=>?_⟩;rw[c,iW] at d;rcases aC.mp d with z|z
   ·exact s p (dg z)
   ·rcases ak.mp z with rfl|z
    ·rcases g with ⟨_,z⟩ | ⟨z,_⟩
     ·exact z
     ·rw[a] at z;cases z
    ·exact s p (List.mem_of_mem_drop z)
  ·refine .inr ⟨a,?_⟩;have H:j=k:=by
    rcases g with ⟨z,_⟩ | ⟨_,z⟩
    ·rw[a] at z;cases z
    ·exact z
   rw[c,iW,xx,<-d,bC,az,d7,List.map_drop,H]
noncomputable def EI(o:Array (Option Nat))(l:List Nat):Prop:=o.size=32/\∀j,j<32->∀i,o.getD j Z=Y i↔l[i]?=Y j
theorem EI.free{o:Array (Option Nat)}{l:List Nat}(h:EI o l){k:Nat}(f:k<13)(d:k∉l):SetTable.layClean.free 31 o (SetTable.turns 31) k k=Y k:=by
 have e:(o.getD k (Y 0)).isNone=true:=by
  have b:k<o.size:=by rw[h.1];omega
  have a:o.getD k Z=Z:=by
   cases q:o.getD k Z with
   |none=>rfl
   |some i=>exact absurd (bY ((h.2 k (by omega) i).mp q)) d
  rw[Array.getD_eq_getD_getElem?,Array.getElem?_eq_getElem b,Option.getD_some] at a ⊢;rw[a];rfl
 rw[show SetTable.turns 31=45+1 from rfl];unfold SetTable.layClean.free;have c:SetTable.runEnd 31 k+1 - k=9+1:=by unfold SetTable.runEnd;rw[af (by omega)];omega
 rw[c,List.range_succ_eq_map,List.find?_cons_of_pos (by simpa using e)];rfl
def EI.put{o:Array (Option Nat)}{l:List Nat}(h:EI o l){k:Nat}(f:k<13)(d:k∉l):EI (o.setIfInBounds k (Y l.length)) (l++[k]):=by
 refine⟨by rw[Array.size_setIfInBounds];exact h.1,λj b i=>?_⟩;have a:j<o.size:=by rw[h.1];exact b
 have c:=h.2 j b i;rw[Array.getD_eq_getD_getElem?,Array.getElem?_eq_getElem a,Option.getD_some] at c;rw[Array.getD_eq_getD_getElem?,Array.getElem?_eq_getElem (by rw[Array.size_setIfInBounds];exact a),Option.getD_some,Array.getElem_setIfInBounds a];by_cases e:k=j
 ·subst e;rw[af rfl];constructor
  ·intro z;cases z;simp
  ·intro z;rcases Nat.lt_or_ge i l.length with q|q
   ·rw[aM q] at z;exact absurd (bY z) d
   ·have:=(av.mp z).1;simp at this;rw[show i=l.length by omega]
 ·rw[ag e,c];rcases Nat.lt_or_ge i l.length with q|q
  ·rw[aM q]
  ·constructor
   ·intro z;have:=(av.mp z).1;omega
   ·intro z;have:=(av.mp z).1;simp at this;rw[show i=l.length by omega] at z;simp at z;exact absurd z e
def EI.start:EI (Array.replicate 32 Z) []:=⟨by simp,λj a i=>by simp[Array.getD_eq_getD_getElem?,a]⟩
noncomputable abbrev M7:Option (Array (Option Nat)×Nat)->Int->Option (Array (Option Nat)×Nat):=λa h=>do
  let (owner,k) <-a;let j <-SetTable.layClean.free 31 owner (SetTable.turns 31) (SetTable.bits h % (31+1)) (SetTable.bits h)
  pure (owner.setIfInBounds j (Y k),k+1)
theorem AG:∀(a l:List Nat) (o:Array (Option Nat)),EI o l->(l++a).Nodup->(∀p∈a,p<13)->∃b,(a.map λp:Nat=>(p:Int)).foldl M7 (Y (o,l.length))=Y (b,(l++a).length)/\EI b (l++a)
 |[],l,o,h,_,_=>⟨o,by simp,by simpa using h⟩
 |p::a,l,o,h,nd,hp=>by
  have c:=hp p (by simp);have d:p∉l:=λz=>by have:=(bP.mp nd).2.2 p z p (by simp);exact this rfl
  obtain⟨b,g,f⟩:=AG a (l++[p]) _ (h.put c d) (by simpa using nd) λq e=>hp q (by simp[e]);refine⟨b,?_,by simpa using f⟩;rw[az,List.foldl_cons];have:M7 (Y (o,l.length)) (p:Int)=Y (o.setIfInBounds p (Y l.length),(l++[p]).length):=by show ((SetTable.layClean.free 31 o (SetTable.turns 31) (SetTable.bits (p:Int) % (31+1)) (SetTable.bits (p:Int))).bind λj=>Y (o.setIfInBounds j (Y l.length),l.length+1))=_;rw[u9 p c,show p % (31+1)=p by omega,h.free c d];simp
  rw[this,g];simp
def Hr(a:List Nat)(d:a.Nodup)(f:∀p∈a,p<13)(b:Array Int)(e:b.toList=a.map λp:Nat=>(p:Int)):∃o,SetTable.layClean 31 b=Y o/\EI o a:=by obtain⟨c,h,g⟩:=AG a [] _ EI.start (by simpa using d) f;refine⟨c,?_,by simpa using g⟩;unfold SetTable.layClean;rw[<-Array.foldl_toList,e];show Option.map _ (List.foldl M7 _ _)=_;rw[show (Y (Array.replicate (31+1) Z,0):Option (Array (Option Nat)×Nat))=Y (Array.replicate 32 Z,([]:List Nat).length) from rfl,h];rfl
noncomputable abbrev AH(o:Array (Option Nat)):List (Nat×Nat):=(List.range 32).filterMap λj=>(o.getD j Z).map (j,·)
def ou{o:Array (Option Nat)}{l:List Nat}(h:EI o l){q:Nat×Nat}:q∈AH o↔q.1<32/\l[q.2]?=Y q.1:=by
 unfold AH;rw[bU];constructor
 ·rintro⟨j,b,e⟩;obtain⟨i,d,rfl⟩:=ab.mp e;have:=List.mem_range.mp b;exact⟨this,(h.2 j this i).mp d⟩
 ·rintro⟨a,c⟩;exact⟨q.1,List.mem_range.mpr a,by rw[(h.2 q.1 a q.2).mpr c];rfl⟩
def yI(o:Array (Option Nat)):((AH o).map (·.1)).Pairwise (·<·):=List.pairwise_lt_range.sublist (yH (λj=>o.getD j Z) _)
def Kc{o:Array (Option Nat)}{l:List Nat}(h:EI o l)(f:∀p∈l,p<13):((AH o).map (·.2)).Perm (List.range l.length):=by
 refine(List.perm_ext_iff_of_nodup ?_ List.nodup_range).mpr λi=>?_
 ·have:=List.pairwise_map.mp (yI o);refine List.pairwise_map.mpr (this.imp_of_mem λ{a b} k g j z=>?_);have d:=((ou h).mp k).2;have m:=((ou h).mp g).2;rw[z,m] at d;have:=bo d;omega
 ·rw[List.mem_range];constructor
  ·intro c;obtain⟨q,e,rfl⟩:=aJ.mp c;exact(av.mp ((ou h).mp e).2).1
  ·intro c;refine aJ.mpr ⟨(l[i],i),(ou h).mpr ⟨?_,aH c⟩,rfl⟩;have:=f l[i] (List.getElem_mem c);show l[i]<32;omega
theorem DM{a:Array (Int×Value)}{l:List Nat}(e:kE a=l.map λp:Nat=>(p:Int)):∀L:List (Nat×Nat),(∀q∈L,l[q.2]?=Y q.1)->((L.map (·.2)).filterMap (a[·]?)).map (·.1)=L.map λq=>(q.1:Int)
 |[],_=>rfl
 |q::L,h=>by
  have c:=h q (by simp);have b:q.2<a.size:=by have:=(av.mp c).1;have g:=bg List.length e;simp[kE] at g;omega
  have f:(a[q.2]).1=(q.1:Int):=by
   have:(kE a)[q.2]?=Y (q.1:Int):=by rw[e,aB,c];rfl
   unfold kE at this;rw[aB] at this;simpa [b] using this
  rw[az,bQ,Array.getElem?_eq_getElem b];dsimp only;rw[az,DM e L λx d=>h x (by simp[d]),az,f]
def Sm.OX{b:Array (Int×Value)}{t:SetTable}(q:Sm b t)(B:b.size=5):∃v n,relayAll t b (SetTable.grown b.size)=(v,n,false)/\Sm v n/\v.size=5/\n.mask=31/\n.led=t.led:=by
 obtain⟨c,e,i⟩:∃c:List Nat,kE b=c.map (λp:Nat=>(p:Int))/\∀p∈c,p<13:=by
  have:∀l:List Int,(∀x∈l,∃k:Nat,k<13/\x=(k:Int))->∃c:List Nat,l=c.map (λp:Nat=>(p:Int))/\∀p∈c,p<13:=by
   intro l;induction l with
   |nil=>exact λ_=>⟨[],rfl,by simp⟩
   |cons x l D=>intro h;obtain⟨k,j,rfl⟩:=h x (by simp);obtain⟨c,rfl,H⟩:=D λy E=>h y (by simp[E]);exact⟨k::c,rfl,λp s=>by rcases ak.mp s with rfl|z;exact j;exact H p z⟩
  exact this _ q.hs
 have C:c.Nodup:=by have:=q.nd;rw[e] at this;exact(List.pairwise_map.mp this).imp λh z=>h (by rw[z])
 have w:c.length=5:=by have:=bg List.length e;simp[kE] at this;omega
 obtain⟨o,I,u⟩:=Hr c C i (b.map (·.1)) (by rw[Array.toList_map];exact e);have f:=Kc u i;have d:(AH o).length=5:=by have:=f.length_eq;simpa [w] using this
 have a:=DM e (AH o) λq G=>((ou u).mp G).2;have m:t.relaid (b.map (·.1)) (SetTable.grown b.size)=Y ({ mask:=31,place:=((AH o).map (·.1)).toArray,dummies:=#[],finger:=t.finger,led:=t.led,moves:=t.movedTo 31,plain:=t.plain },((AH o).map (·.2)).toArray):=by unfold SetTable.relaid;rw[B,show SetTable.sizeAbove (SetTable.grown 5) - 1=31 from rfl];unfold SetTable.laid;rw[I];rfl
 have g:(((AH o).map (·.2)).toArray.filterMap (b[·]?)).size=5:=by rw[<-a8,Array.toList_filterMap];have:=bg List.length a;simpa [d] using this
 refine⟨((AH o).map (·.2)).toArray.filterMap (b[·]?),{ mask:=31,place:=((AH o).map (·.1)).toArray,dummies:=#[],finger:=t.finger,led:=t.led,moves:=t.movedTo 31,plain:=t.plain },?_,⟨q.pl,rfl,yI o,?_,?_,?_,.inr ⟨rfl,?_⟩⟩,g,rfl,rfl⟩
 ·unfold relayAll;rw[m];dsimp only;rw[af];rw[bV];refine⟨?_,?_⟩
  ·unfold coversAll;rw[List.isPerm_iff,B,<-w];exact f
  ·rw[g];unfold SetTable.fits SetTable.fill;simp[d]
 ·rw[g];simp[d]
 ·intro h A;have j:kE (((AH o).map (·.2)).toArray.filterMap (b[·]?))=(AH o).map λq=>(q.1:Int):=by unfold kE;rw[Array.toList_filterMap];exact a
  rw[j] at A;obtain⟨r,F,rfl⟩:=aJ.mp A;exact⟨r.1,i r.1 (bY ((ou u).mp F).2),rfl⟩
 ·have j:kE (((AH o).map (·.2)).toArray.filterMap (b[·]?))=(AH o).map λq=>(q.1:Int):=by unfold kE;rw[Array.toList_filterMap];exact a
  rw[j];refine List.pairwise_map.mpr ((List.pairwise_map.mp (yI o)).imp λh z=>?_);omega
 ·have j:kE (((AH o).map (·.2)).toArray.filterMap (b[·]?))=(AH o).map λq=>(q.1:Int):=by unfold kE;rw[Array.toList_filterMap];exact a
  rw[j];simp
structure lW (h:Heap) (a:Addr) (led:Bool) (ks:List Int) (es:Array (Int×Value)) (ep:Nat) (t:SetTable):Prop where
 q:nN h a led ks es ep t
 sm:Sm es t
 m7:t.mask=7->es.size<=4
 sk:∀x∈ks,∃k:Nat,k<13/\x=(k:Int)
theorem Sm.fill{a:Array (Int×Value)}{t:SetTable}(q:Sm a t):t.fill=a.size:=by unfold SetTable.fill;rw[q.fi,q.du];rfl
def Sm.tb{b:Array (Int×Value)}{t:SetTable}{a:Bool}(q:Sm b t)(h:t.led=a):Tb a t:=⟨q.ri,h⟩
def Sm.small{es:Array (Int×Value)}{t:SetTable}(q:Sm es t):es.size<=13:=by have:=lg q.hs q.nd;simpa [kE] using this
theorem Sm.fits{b:Array (Int×Value)}{t:SetTable}(q:Sm b t):t.fits b.size=true:=by have:=q.small;unfold SetTable.fits;rw[q.fill,q.fi];rcases q.md with ⟨a,c,_⟩ | ⟨a,_⟩<;>rw[a]<;>simp<;>omega
section
variable {s:Shared}{led:Bool}{ks:List Int}{es AF:Array (Int×Value)}{ep:Nat}{t t':SetTable}{h':Heap}
theorem lW.put(c:lW h a led ks es ep t){b:List Int}(j:(AF.toList.map λe=>(e.1,vZ e.2)).Perm (b.map λk=>(hashInt k,Y k)))(d:Sm AF t')(i:t'.led=led)(g:t'.mask=7->AF.size<=4)(f:∀x∈b,∃k:Nat,k<13/\x=(k:Int)):lW (h.update a (Obj.putSet AF t')) a led b AF (ep+1) t' :=
 ⟨c.q.put j (by have:=d.small;have:scanBound=4096:=rfl;omega) d.fits (d.tb i),d,g,f⟩
def lW.add(c:lW s.heap a led ks es ep t){k:Nat}(n:k<13){p:Tok}{Q:Bool->Shared->Prop}(N:∀b h',Heap.SameBut a s.heap h'->(∃es ep t,lW h' a led (step_dedup ks (k:Int)) es ep t)->Q b { s with heap:=h' }):
  wpAny (model prog w) A (setAddHashed a (.int (k:Int) p) (hashInt (k:Int))) Q E s:=by
 obtain⟨o,V,U,W⟩:=c.q.ex;have S:ElemsOf (intKind prog w) es.toList:=c.q.elems;unfold setAddHashed setAddHashedIn;refine aY ?_;refine aa (wpAny_setState_of V W c.q.fi ?_);show wpAny _ A (if byScan (.int (k:Int) p) es=true then _ else _) Q E s;rw[af (byScan_of rfl c.q.sz S)];refine aa ?_;unfold setAddByScan;refine aa (dS ?_);refine aa (wpAny_setScan_of (knd:=intKind prog w) (intKind_is prog w (k:Int) p) V W c.q.fi S ?_);cases r:es.toList.findIdx? (λe=>(intKind prog w).is (k:Int) e.2) with
 |some j=>
  obtain⟨hj,pj,_⟩:=List.findIdx?_eq_some_iff_getElem.mp r;have I:(k:Int)∈ks:=(c.q.has (prog:=prog) (w:=w) k).mpr ⟨_,List.getElem_mem hj,pj⟩;have G:step_dedup ks (k:Int)=ks:=by unfold step_dedup;rw[af (List.any_eq_true.mpr ⟨_,I,by simp⟩)]
  refine ae (ae ?_);exact N false s.heap (.refl _ _) (by rw[G];exact⟨es,ep,t,c⟩)
 |none=>
  have I:(k:Int)∉ks:=λz=>by obtain⟨e,P,i⟩:=(c.q.has (prog:=prog) (w:=w) k).mp z;have:=List.findIdx?_eq_none_iff.mp r e P;rw[i] at this;cases this
  have G:step_dedup ks (k:Int)=ks++[(k:Int)]:=by unfold step_dedup;rw[ag λz=>by obtain⟨y,hy,e⟩:=List.any_eq_true.mp z;exact I (by rw[<-eq_of_beq e];exact hy)]
  have O:(k:Int)∉kE es:=λz=>by obtain⟨e,P,d⟩:=aJ.mp z;obtain⟨k',QN,u,rfl⟩:=c.q.mem P;obtain⟨m,B,rfl⟩:=c.sk k' u;have J:hashInt (m:Int)=(k:Int):=d;rw[pw m B] at J;rw[J] at u;exact I u
  have C:∀x∈ks++[(k:Int)],∃k:Nat,k<13/\x=(k:Int):=λx U=>by
   rcases aC.mp U with z|z
   ·exact c.sk x z
   ·exact⟨k,n,by simpa using z⟩
  obtain⟨d,f,eL,h,z1,M,m1⟩:=c.sm.lay c.m7 n O (.int (k:Int) p);have H:=layNew_perm t es (hashInt (k:Int)) (.int (k:Int) p);dsimp only;rw[pw k n] at H ⊢;rw[eL] at H ⊢;dsimp only at H ⊢;have v:(d.toList.map λe=>(e.1,vZ e.2)).Perm ((ks++[(k:Int)]).map λk=>(hashInt k,Y k)):=by refine(H.map _).trans ?_;rw[Array.toList_push,bC,bC];refine c.q.el.append ?_;show ([((k:Int),Y (k:Int))]:List (Int×Option Int)).Perm [(hashInt (k:Int),Y (k:Int))];rw[pw k n]
  refine aa (ae ?_);rw[af h.pl];refine aa ?_;rw[hashByValue_scannable 8 (x:=.int (k:Int) p) rfl];refine ae ?_;simp only[show plainKind (Value.int (k:Int) p)=true from rfl,df];have F:d.size<scanBound:=by have:=h.small;have:scanBound=4096:=rfl;omega
  show wpAny _ A (storeSet a d f>>=_) _ E s;refine aa (c.q.store F ?_);have R:=Heap.SameBut.update s.heap a (Obj.putSet d f);by_cases g:f.tooFull=true
  ·have X:d.size=5/\f.mask=7:=by
    unfold SetTable.tooFull at g;rw[h.fill] at g;simp at g;have:=h.small;rcases h.md with ⟨B,X,_⟩ | ⟨B,_⟩
    ·rw[B] at g;exact⟨by omega,B⟩
    ·rw[B] at g;omega
   obtain⟨J,t2,eR,K,z2,m2,l2⟩:=h.OX X.1;have L:=relayAll_perm f d (SetTable.grown d.size);show wpAny _ A (if (!false&&f.tooFull)=true then _ else _) _ E _;rw[af (by rw[g];rfl)];rw[eR] at L ⊢;dsimp only at L ⊢;refine aa (ae ?_);have D:J.size<scanBound:=by have:scanBound=4096:=rfl;omega
   have T:nN (s.heap.update a (Obj.putSet d f)) a led (ks++[(k:Int)]) d (ep+1) f:=c.q.put v F h.fits (h.tb (by rw[M];exact c.q.tb.l));refine aa (nN.store (s:={ s with heap:=s.heap.update a (Obj.putSet d f) }) T D ?_);have q2:=T.put (t':=t2) ((L.map _).trans v) D K.fits (K.tb (by rw[l2,M];exact c.q.tb.l));exact ae (ae (N true _ (R.trans (Heap.SameBut.update _ a _)) (by rw[G];exact⟨_,_,_,q2,K,(λz=>by rw[m2] at z;cases z),C⟩)))
  ·show wpAny _ A (if (!false&&f.tooFull)=true then _ else _) _ E _;rw[ag (by simpa using g)];have m4:f.mask=7->d.size<=4:=λz=>by
    unfold SetTable.tooFull at g;rw[h.fill,z] at g;simp at g;omega
   exact ae (ae (N true _ R (by rw[G];exact⟨_,_,_,c.put v h (by rw[M];exact c.q.tb.l) m4 C⟩)))
end
noncomputable def yJ(h:Heap)(a:Addr)(led:Bool)(b:List Int):Prop:=∃c d t,lW h a led b c d t
theorem yJ.move{h h':Heap}{a:Addr}{b:Bool}{d:List Int}(q:yJ h a b d)(e:∀o,h.get? a=Y o->h'.get? a=Y o):yJ h' a b d:=by obtain⟨f,g,t,c⟩:=q;exact⟨f,g,t,c.q.move e,c.sm,c.m7,c.sk⟩
noncomputable def rz(l:List Int):List Int:=l.foldl step_dedup []
def EJ(l:List Int)(x:Int):rz (l++[x])=step_dedup (rz l) x:=by simp[rz]
def Cr{led:Bool}(e:h.get? a=Y { cls:=.type "set",dict:=Z,data:=.set #[] 0 (.fresh 0 0 led) }):yJ h a led [] :=
 ⟨#[],0,_,⟨⟨_,e,⟨rfl,rfl,rfl⟩,rfl⟩,.refl _,by decide,by rfl,⟨List.Pairwise.nil,rfl⟩⟩,⟨rfl,rfl,List.Pairwise.nil,rfl,by simp[kE],by simp[kE],.inl ⟨rfl,by simp,by simp[SetTable.fresh]⟩⟩,λ_=>by simp,by simp⟩
section
variable {I:Addr}{fp wr:List Addr}{G:Array GenState->Array GenState->Prop}{P:Nat->Value->Prop}{St:Nat->Shared->Prop}{led:Bool}
theorem Hs{l:List Int}(N:∀x∈l,∃k:Nat,k<13/\x=(k:Int))(W:WalksS prog w A.in1 I fp wr G l.length P St)(S:Addr)(E:S∉fp)(Q:∀i v,P i v->∃x tk,l[i]?=Y x/\v=.int x tk):
  ∀(j i:Nat) (s:Shared),i+j=l.length->St i s->yJ s.heap S led (rz (l.take i))->(∀q,Moved (S::wr) G s q->yJ q.heap S led (rz l)->R (.ok (.ret .none)) q)->codeAny (model prog w) A (.builtin "set.update.loop" ⟨[.ref S,.ref I],[]⟩) R s:=by
 have hw:S∉wr:=λz=>E (W.sub _ z);have a:∀b∈wr,b∈S::wr:=λb g=>.tail _ g;intro j;induction j with
 |zero=>
  intro i s O p h k;have U:i=l.length:=by omega
  subst U;rw[List.take_length] at h;refine bq F.entry_set_update_loop ?_;rw[a9 F.plain_set_update_loop _];refine aa (W.done s _ _ p λd f=>?_);exact ae (k d (f.mono a) (h.move λo e=>f.heap S _ hw e))
 |succ j L=>
  intro i s O p h k;refine bq F.entry_set_update_loop ?_;rw[a9 F.plain_set_update_loop _];refine aa (W.item i s _ _ (by omega) p λv d K m f=>?_);obtain⟨x,tk,H,rfl⟩:=Q i v K;obtain⟨n,M,rfl⟩:=N x (bY H);have C:=h.move (h':=d.heap) λo e=>f.heap S _ hw e;obtain⟨V,X,t,c⟩:=C;refine aa (aY ?_);unfold setAdd;refine aY ?_;refine aa ((intKind prog w).pyHash (k:=(n:Int)) (intKind_is _ _ _ _) ?_);refine lW.add (s:={ d with toks:=d.toks+1 }) c M λb h' D B=>?_;have T:l.take (i+1)=l.take i++[(n:Int)]:=by rw[List.take_add_one,H];rfl
  have y:yJ h' S led (rz (l.take (i+1))):=by rw[T,EJ];exact B
  refine ae ⟨bN F.plain_set_update_loop _,L (i+1) _ (by omega) (W.frame _ d _ _ m (cR _) λb g o e=>?_) y λJ r u=>?_⟩
  ·rw[D.2 b λz=>E (z▸g)];exact e
  ·refine k J (Moved.trans W.gtrans ((f.mono a).then_heap (cR _) λb o g e=>?_) r) u;rw[D.2 b λz=>g (z▸.head _)];exact e
end
noncomputable abbrev vO(w:World):Bool:=w.params.followText "set-order"
noncomputable abbrev yK(w:World):Obj:={ cls:=.type "set",dict:=Z,data:=.set #[] 0 (.fresh 0 0 (!vO w)) }
section
variable {s:Shared}
theorem EK(a:Value){Q1:Px}(h:Q1 (.ref (zB s)) { s with heap:=s.heap.push (yK w) }):codeAny (model prog w) A (.call (.builtin "set.__new__") ⟨[.type "set",a],[]⟩) (wants Q1 E) s:=by
 refine codeAny_of_tree ?_;show wpAny _ A.in1 (checkBuiltinCall "set.__new__" ⟨[.type "set",a],[]⟩>>=λ_=>again (.builtin "set.__new__" ⟨[.type "set",a],[]⟩)) _ _ s;refine aa (wpAny_of_eq (F.newCall_set_1 a) (ae ⟨bN F.plain_set_new _,bq F.entry_set_new ?_⟩));rw[a9 F.plain_set_new _];have b:=sub_set_self;obtain⟨f,g,d,c,e⟩:=s;unfold Builtin.«set.__new__» Builtin.Frozenset.newClass;dsimp only
 wp_walk
 refine wpAny_askSetting ?_;refine ae ?_;simp only[newObj];exact aa (wpAny_alloc (ae (ae h)))
def Ht{a:Lw}{b:List Int}(h:IntsAre a b):a.length=b.length:=h.length
theorem EL{l:Addr}{ns:List Int}{Q:Px} (hh:A.handled=Z) (hl:s.heap.IsList l items) (U:IntsAre items.toList ns) (hs:∀x∈ns,∃k:Nat,k<13/\x=(k:Int))
  (k:∀(h':Heap) (tk:Nat),yJ h' (zB s) (!vO w) (rz ns)->(∀b o,b<(zB s)->s.heap.get? b=Y o->h'.get? b=Y o)->Q (.ref (zB s)) { s with heap:=h',toks:=tk }):wpAny (model prog w) A (call (.type "set") [.ref l]) Q E s:=by
 have S:ns.length=items.size:=by rw[<-Ht U];simp
 obtain⟨c,tl,T⟩:=F.called_set.mro;have a1:=F.called_set.made;have a2:=F.called_set.sub;have a3:=F.called_set.notType;have a4:=F.called_set.canCreate;have a5:=F.typeCall_set_1 (.ref l);refine wpAny_call (codeAny_of_tree ?_);show wpAny _ _ (callAny (.type "set") _) _ _ _;refine ae ⟨Code.quiet_builtin _ (by decide +kernel),bq F.entry_type_call ?_⟩;rw[Around.under_plain (weight_type_call_type "set" [.ref l] []) rfl]
 repeat (any_goals (first|assumption|wp_step))
 refine cp (EK (.ref l) (E:=E) (Q1:=λj N=>j=.ref (zB s)/\N={ s with heap:=s.heap.push (yK w) }) ⟨rfl,rfl⟩) λr N I=>?_;cases r with
 |error e=>exact I
 |ok fl=>
  cases fl with
  |ret j=>
   obtain⟨rfl,rfl⟩:=I;have X:(s.heap.push (yK w)).get? (zB s)=Y (yK w):=ar _ rfl;have hT:Shared.TypeIs { s with heap:=s.heap.push (yK w) } (.ref (zB s)) "set":=⟨_,X,rfl⟩
   have b1:=F.called_set.init.lookup;have b2:=F.called_set.init.bind (.ref (zB s))
   repeat (any_goals (first|assumption|wp_step))
   refine cp (codeAny_call_builtin (R:=wants (λr s2=>r=.none/\∃h' tk,s2={ s with heap:=h',toks:=tk }/\yJ h' (zB s) (!vO w) (rz ns)/\(∀b o,b<(zB s)->s.heap.get? b=Y o->h'.get? b=Y o)) E) F.called_set.init.plain F.entry_set_init (check_set_init_1 hT ?_)) λr2 s2 g=>?_
   ·obtain⟨ol,p,B,P,y⟩:=hl;obtain⟨O,f,H,a⟩:=ol;simp only at B y;subst B;subst y;have n:(s.heap.push (yK w)).get? l=Y { cls:=.type "list",dict:=f,data:=.seq items P,slots:=a }:=ah _ p;have c1:=F.sub_list_set;have c2:=F.sub_list_frozenset;have c3:(Value.type "list"==Value.type "dict")=false:=by decide
    have t:(s.heap.push (yK w)).IsList l items:=⟨_,n,rfl,P,rfl⟩
    have q:l<(zB s):=aj p;have K:A.in1.in1.in1.handled=Z:=by simp[hh]
    have d:(s.heap.push (yK w)).objs.size=(zB s)+1:=cW ..;unfold Builtin.«set.__init__» noKeywords Builtin.Frozenset.updateFrom;generalize L:pyIter=PI
    wp_walk
    subst L;refine cF t ?_;refine aa (wpAny_runValue ?_);have W:=(Walks.list (prog:=prog) (w:=w) K (s.heap.push (yK w)).objs.size l (by rw[d];exact aE (Nat.lt_succ_of_lt q)) items).toS;rw[<-S] at W;refine Hs (led:=!vO w) (l:=ns) hs W (zB s) (by
     rw[d];intro z;rcases ak.mp z with z|z
     ·exact absurd z (aE (cH _))
     ·exact absurd (aS.mp z) (bX q)) (λi v hv=>?_) ns.length 0 _ (by omega) ⟨⟨_,ar _ rfl,rfl,rfl⟩,(t.push _)⟩ (Cr (ah _ X)) λs' C h=>?_
    ·have m:items[i]?=Y v:=hv;have u:i<ns.length:=by rw[S];exact(Array.getElem?_eq_some_iff.mp m).1
     obtain⟨tk,e⟩:=IntsAre.int_at U i v (by rw[Array.getElem?_toList];exact m);exact⟨ns[i],tk,aH u,by rw[e];simp[List.getD_eq_getElem?_getD,u]⟩
    ·obtain⟨h',g',d',D,G⟩:=s';have eg:g'=s.gens:=C.gens;have ed:d'=s.drawn:=C.drawn;have eo:G=s.os:=C.os;subst eg;subst ed;subst eo;refine ae (ae ⟨rfl,h',D,rfl,h,λb o V e=>?_⟩);exact C.heap b o (by
      rw[d];intro z;rcases ak.mp z with z|z
      ·exact absurd z (aE V)
      ·exact absurd (aS.mp z) (aE (Nat.lt_succ_of_lt V))) (ah _ (ah _ e))
   ·cases r2 with
    |error e=>exact g
    |ok M=>
     cases M with
     |ret r=>
      obtain⟨rfl,h',tk,rfl,h,J⟩:=g
      repeat (any_goals (first|assumption|wp_step))
      exact k _ _ h J
     |_=>exact g.elim
  |_=>exact I.elim
end
def iX:Slot "set_iterator" "__next__" "set_iterator.__next__" :=
 .of (owner:="set_iterator") (n:="__next__") (by rw[ck,bJ];kernel_rfl) (by decide +kernel) (by decide +kernel) (by decide +kernel) (by first|exact .inl (by decide +kernel)|exact .inr (by decide +kernel)) (by rw[isSubtype_type];kernel_rfl)
def ow:entryFor table "set_iterator.__next__"=Y Builtin.«set_iterator.__next__»:=entryFor_of_tree (zK 0)
def Hu:entryFor table "set.__iter__"=Y Builtin.«frozenset.__iter__»:=entryFor_alias (id':="frozenset.__iter__") (zK 0) rfl (by decide +kernel) (zK 0)
def xy:Manifest.owners.lookup (String.ofList ['r','o','t','a','r','e','t','i','_','t','e','s'].reverse)=Y Manifest.sig_set_iterator:=by kernel_rfl
def qe(a:Value):argsOk "set_iterator.__next__" ⟨[a],[]⟩:=by unfold argsOk;rw[signature?_of (id:="set_iterator.__next__") (n:=['_','_','t','x','e','n','_','_']) (o:=['r','o','t','a','r','e','t','i','_','t','e','s']) (zK 0) xy];kernel_rfl
noncomputable abbrev yL(a:Addr)(b i n c:Nat):Obj:={ cls:=.type "set_iterator",data:=.fields #[.int (b:Int) 0,.int (i:Int) 0,.ref a,.int (n:Int) 0,.int (c:Int) 0] }
section
variable {s:Shared}{led:Bool}{ks:List Int}{es:Array (Int×Value)}{ep:Nat}{t:SetTable}
theorem Hv(c:lW s.heap a led ks es ep t){Q:Px}(k:Q (.ref (zB s)) { s with heap:=s.heap.push (yL a 0 0 es.size ep) }):wpAny (model prog w) A (pyIter (.ref a)) Q E s:=by
 obtain⟨o,b,g,d⟩:=c.q.ex;have f:s.TypeIs (.ref a) "set":=⟨o,b,g.1⟩
 refine wpAny_pyIter_slot f F.slot_set_iter (bx F.slot_set_iter f Hu ?_ (F.args_set_iter_1 _));unfold Builtin.«frozenset.__iter__» Builtin.Frozenset.slot0 slotArgs;simp only[List.isEmpty_nil,Bool.not_true,cD,↓reduceIte,bind_assoc,List.length_nil,bne_self_eq_false];unfold Builtin.Frozenset.addrOf Builtin.Frozenset.sizeOf;refine aa (ae ?_)
 try dsimp only
 refine aa (ae ?_);refine aa (aa (wpAny_setEntries_of b d c.q.fi (ae ?_)));refine aa ?_;refine aa ?_;refine wpAny_setState_of b d c.q.fi ?_;unfold setsByText;refine aa (aa (wpAny_askSetting (ae ?_)));refine ae ?_;rw[ag λz=>by have e:(!(vO w)&&(!t.plain&&decide (es.size > 1)))=true:=z;rw[c.sm.pl] at e;simp at e];refine aa (ae ?_);refine aa (wpAny_setEpoch_of b d c.q.fi ?_);refine aa (m:=newFields "set_iterator" _) ?_;unfold newFields;exact bt (ae ⟨_,rfl,"set_iterator",_,⟨_,ar _ rfl,rfl⟩,iX.lookup,k⟩)
end
noncomputable def qf(t:SetTable)(n:Nat):Nat:=if n=0 then 0 else t.place.getD (n - 1) 0+1
def vc{t:SetTable}(h:rq t.place)(a:n<=t.place.size):SetTable.below t.place (qf t n)=n:=by
 unfold qf;split
 ·rename_i e;rw[e];exact J4 h
 ·rw[Cq h (by omega)];omega
section
variable {s:Shared}{it:Addr}{led:Bool}{ks:List Int}{es:Array (Int×Value)}{ep:Nat}{t:SetTable}
def Cs(i:vO w=false) (c:lW s.heap a (!vO w) ks es ep t) (e:s.heap.get? it=Y (yL a (qf t n) n es.size ep)) (m:n<es.size) {Q:Ow->Shared->Prop}
  (k:∀h',h'.get? it=Y (yL a (qf t (n+1)) (n+1) es.size ep)->Heap.SameBut it s.heap h'->Q (Y es[n].2) { s with heap:=h' }):wpAny (model prog w) A (pyNext (.ref it)) Q E s:=by
 obtain⟨o,g,D,h⟩:=c.q.ex;have j:s.TypeIs (.ref it) "set_iterator":=⟨_,e,rfl⟩
 have C:t.place.size=es.size:=c.sm.fi;unfold pyNext;refine aa (wpAny_attempt (br (name:=zZ "__next__") j iX (bx iX j ow ?_ (qe _))));refine aa (ae ?_);refine aa (wpAny_fieldsOf e rfl ?_);show wpAny _ _ (setEntries a>>=_) _ _ s;refine aa (wpAny_setEntries_of g h c.q.fi ?_);rw[ag (by simp)];refine aa ?_;simp only[b0];unfold setNext;refine aa (wpAny_setState_of g h c.q.fi ?_);unfold setsByText;refine aa (aa (wpAny_askSetting (ae ?_)));rw[ag λz=>by have b:vO w=true:=z;rw[i] at b;cases b];dsimp only;rw[ag λz=>by have b:(!t.plain&&decide (es.size > 1))=true:=z;rw[c.sm.pl] at b;simp at b];refine aa ?_;have d:t.led=true:=by have:=c.q.tb.l;rw[i] at this;exact this
 show wpAny _ _ (if (!t.led&&!es.isEmpty)=true then unsupported "set:maker-not-led" else pure ()) _ _ s;rw[ag (by rw[d];simp)];refine ae ?_;rw[vc c.sm.ri (by omega)];have f:n<t.place.size:=by omega
 rw[Array.getElem?_eq_getElem m,Array.getElem?_eq_getElem f];refine ae ?_;have u:qf t (n+1)=t.place[n]+1:=by unfold qf;rw[ag (by omega),Nat.add_sub_cancel];simp[f]
 refine aa (wpAny_setField_rec e (by simp) λr x B=>?_);refine aa (wpAny_setField_rec (s:={ s with heap:=r }) x (by simp) λp v y=>?_);refine ae ⟨_,rfl,ae (k p ?_ (B.trans y))⟩;rw[u];exact v
def EM(r:A.handled=Z)(j:vO w=false)(c:lW s.heap a (!vO w) ks es ep t)(g:s.heap.get? it=Y (yL a (qf t es.size) es.size es.size ep)){Q:Ow->Shared->Prop}(k:∀h',Heap.ExtBut it s.heap h'->Q Z { s with heap:=h' }):wpAny (model prog w) A (pyNext (.ref it)) Q E s:=by
 obtain⟨o,h,x,i⟩:=c.q.ex;have n:s.TypeIs (.ref it) "set_iterator":=⟨_,g,rfl⟩
 have v:t.place.size=es.size:=c.sm.fi;unfold pyNext;refine aa (wpAny_attempt (br (name:=zZ "__next__") n iX (bx iX n ow ?_ (qe _))));refine aa (ae ?_);refine aa (wpAny_fieldsOf g rfl ?_);show wpAny _ _ (setEntries a>>=_) _ _ s;refine aa (wpAny_setEntries_of h i c.q.fi ?_);rw[ag (by simp)];refine aa ?_;simp only[b0];unfold setNext;refine aa (wpAny_setState_of h i c.q.fi ?_);unfold setsByText;refine aa (aa (wpAny_askSetting (ae ?_)));rw[ag λz=>by have d:vO w=true:=z;rw[j] at d;cases d];dsimp only;rw[ag λz=>by have d:(!t.plain&&decide (es.size > 1))=true:=z;rw[c.sm.pl] at d;simp at d];refine aa ?_;have e:t.led=true:=by have:=c.q.tb.l;rw[j] at this;exact this
 show wpAny _ _ (if (!t.led&&!es.isEmpty)=true then unsupported "set:maker-not-led" else pure ()) _ _ s;rw[ag (by rw[e];simp)];refine ae ?_;rw[vc c.sm.ri (by omega),bE (ax _)];refine ae ?_;refine aa (wpAny_setField g rfl (by simp) (aa ?_));unfold newExc newTuple;refine aa (bt (aa (m:=firstArgMember _ _) (wpAny_of_eq (a:=Value.none) ?_ (bt ?_ (by size_fits)))) (by size_fits))
 ·first|rfl|(unfold firstArgMember;rfl)
 unfold raiseNew;refine aa (wpAny_handled ?_);have u:A.in1.handled=Z:=r;rw[u];refine aa (ae (wpAny_throw (aa (wpAny_isInstance (b:=true) (T:="StopIteration") ?_ isSubtype_stop ?_))))
 ·exact⟨_,ar _ rfl,rfl⟩
 ·have p:=Heap.SameBut.extBut (Heap.SameBut.update s.heap it (Obj.mapFields λf=>f.setIfInBounds 2 .none))
  first
   |exact ae (k _ ((p.push _).push _))
   |exact ae (k _ ((Heap.ExtBut.push (Heap.ExtBut.push (Heap.SameBut.extBut (Heap.SameBut.update ..)) _)) _))
end
def Ct{l:List α}(h:i<l.length):(l[i]::l.eraseIdx i).Perm l:=by
 have e:l=l.take i++l[i]::l.drop (i+1):=by rw[List.getElem_cons_drop,List.take_append_drop]
 rw[List.eraseIdx_eq_take_drop_succ];exact List.perm_middle.symm.trans (by rw[<-e])
theorem DN{α:Type}(f:Nat->Nat):∀(n k:Nat) (l:List α) (out:Array α),l.length=n->(pickOrder.go f n k l out).toList.Perm (out.toList++l)
 |0,k,l,out,h=>by have:l=[]:=List.length_eq_zero_iff.mp h;subst this;unfold pickOrder.go;simp
 |n+1,k,l,out,h=>by have a:f k % l.length<l.length:=Nat.mod_lt _ (by omega);unfold pickOrder.go;rw[aH a];refine(DN f n (k+1) _ _ (by rw[List.length_eraseIdx_of_lt a];omega)).trans ?_;rw[Array.toList_push,bw];exact cf _ (Ct a)
def xA(f:Nat->Nat)(a:Array α):(pickOrder f a).toList.Perm a.toList:=by have:=DN f a.size 0 a.toList #[] (by simp);simpa [pickOrder] using this
section
variable {s:Shared}{it:Addr}{led:Bool}{ks:List Int}{es:Array (Int×Value)}{ep:Nat}{t:SetTable}
noncomputable abbrev Lm(w:World)(a:Addr)(c:Nat)(b:Array (Int×Value)):Array (Int×Value):=pickOrder (w.params.setOrder a c) b
def EN(j:vO w=true) (c:lW s.heap a (!vO w) ks es ep t) (f:s.heap.get? it=Y (yL a 0 n es.size ep)) (i:n<(Lm w a ep es).size) {Q:Ow->Shared->Prop}
  (k:∀h',h'.get? it=Y (yL a 0 (n+1) es.size ep)->Heap.SameBut it s.heap h'->Q (Y (Lm w a ep es)[n].2) { s with heap:=h' }):wpAny (model prog w) A (pyNext (.ref it)) Q E s:=by
 obtain⟨o,d,x,g⟩:=c.q.ex;have h:s.TypeIs (.ref it) "set_iterator":=⟨_,f,rfl⟩
 unfold pyNext;refine aa (wpAny_attempt (br (name:=zZ "__next__") h iX (bx iX h ow ?_ (qe _))));refine aa (ae ?_);refine aa (wpAny_fieldsOf f rfl ?_);show wpAny _ _ (setEntries a>>=_) _ _ s;refine aa (wpAny_setEntries_of d g c.q.fi ?_);rw[ag (by simp)];refine aa ?_;simp only[b0];unfold setNext;refine aa (wpAny_setState_of d g c.q.fi ?_);unfold setsByText;refine aa (aa (wpAny_askSetting (ae ?_)));have b:({ program:=(model prog w).prog,params:=(model prog w).w.params }:Setting).params.followText "set-order"=true:=j;rw[af b];dsimp only;rw[ag (by simp)];refine aa ?_;unfold setWalk;refine aa (wpAny_setState_of d g c.q.fi ?_);unfold setsByText;refine aa (aa (wpAny_askSetting (ae ?_)));rw[af b];refine aa (wpAny_askSetting (ae ?_));show wpAny _ _ (pure (Option.map (λe:Int×Value=>(e.2,0)) (Lm w a ep es)[n]?)) _ _ s;rw[Array.getElem?_eq_getElem i];refine ae ?_;refine aa (wpAny_setField_rec f (by simp) λm r v=>?_);refine aa (wpAny_setField_rec (s:={ s with heap:=m }) r (by simp) λl p u=>?_);exact ae ⟨_,rfl,ae (k l p (v.trans u))⟩
def Hw(r:A.handled=Z)(u:vO w=true)(c:lW s.heap a (!vO w) ks es ep t)(h:s.heap.get? it=Y (yL a 0 n es.size ep))(p:(Lm w a ep es).size<=n){Q:Ow->Shared->Prop}(k:∀h',Heap.ExtBut it s.heap h'->Q Z { s with heap:=h' }):wpAny (model prog w) A (pyNext (.ref it)) Q E s:=by
 obtain⟨o,g,x,i⟩:=c.q.ex;have j:s.TypeIs (.ref it) "set_iterator":=⟨_,h,rfl⟩
 unfold pyNext;refine aa (wpAny_attempt (br (name:=zZ "__next__") j iX (bx iX j ow ?_ (qe _))));refine aa (ae ?_);refine aa (wpAny_fieldsOf h rfl ?_);show wpAny _ _ (setEntries a>>=_) _ _ s;refine aa (wpAny_setEntries_of g i c.q.fi ?_);rw[ag (by simp)];refine aa ?_;simp only[b0];unfold setNext;refine aa (wpAny_setState_of g i c.q.fi ?_);unfold setsByText;refine aa (aa (wpAny_askSetting (ae ?_)));have d:({ program:=(model prog w).prog,params:=(model prog w).w.params }:Setting).params.followText "set-order"=true:=u;rw[af d];dsimp only;rw[ag (by simp)];refine aa ?_;unfold setWalk;refine aa (wpAny_setState_of g i c.q.fi ?_);unfold setsByText;refine aa (aa (wpAny_askSetting (ae ?_)));rw[af d];refine aa (wpAny_askSetting (ae ?_));show wpAny _ _ (pure (Option.map (λe:Int×Value=>(e.2,0)) (Lm w a ep es)[n]?)) _ _ s;rw[bE p];refine ae ?_;refine aa (wpAny_setField h rfl (by simp) (aa ?_));unfold newExc newTuple;refine aa (bt (aa (m:=firstArgMember _ _) (wpAny_of_eq (a:=Value.none) ?_ (bt ?_ (by size_fits)))) (by size_fits))
 ·first|rfl|(unfold firstArgMember;rfl)
 unfold raiseNew;refine aa (wpAny_handled ?_);have v:A.in1.handled=Z:=r;rw[v];refine aa (ae (wpAny_throw (aa (wpAny_isInstance (b:=true) (T:="StopIteration") ?_ isSubtype_stop ?_))))
 ·exact⟨_,ar _ rfl,rfl⟩
 ·have l:=Heap.SameBut.extBut (Heap.SameBut.update s.heap it (Obj.mapFields λf=>f.setIfInBounds 2 .none))
  first
   |exact ae (k _ ((l.push _).push _))
   |exact ae (k _ ((Heap.ExtBut.push (Heap.ExtBut.push (Heap.SameBut.extBut (Heap.SameBut.update ..)) _)) _))
end
def AI:Slot "set_iterator" "__iter__" "set_iterator.__iter__" :=
 .of (owner:="set_iterator") (n:="__iter__") (by rw[ck,bJ];kernel_rfl) (by decide +kernel) (by decide +kernel) (by decide +kernel) (by first|exact .inl (by decide +kernel)|exact .inr (by decide +kernel)) (by rw[isSubtype_type];kernel_rfl)
def EO:entryFor table "set_iterator.__iter__"=Y Builtin.«dict_keyiterator.__iter__»:=entryFor_alias (id':="dict_keyiterator.__iter__") (zK 0) rfl (by decide +kernel) (zK 0)
def Hx(a:Value):argsOk "set_iterator.__iter__" ⟨[a],[]⟩:=by unfold argsOk;rw[signature?_of (id:="set_iterator.__iter__") (n:=['_','_','r','e','t','i','_','_']) (o:=['r','o','t','a','r','e','t','i','_','t','e','s']) (zK 0) xy];kernel_rfl
section
variable {s:Shared}{it:Addr}{ks:List Int}{es:Array (Int×Value)}{ep:Nat}{t:SetTable}
def Hy{c m:Nat}(d:s.heap.get? it=Y (yL a c n m ep)){Q:Px}(k:Q (.ref it) s):wpAny (model prog w) A (pyIter (.ref it)) Q E s:=by
 have b:s.TypeIs (.ref it) "set_iterator":=⟨_,d,rfl⟩
 refine wpAny_pyIter_slot b AI (bx AI b EO ?_ (Hx _));unfold Builtin.«dict_keyiterator.__iter__»;exact aa (ae (ae ⟨_,rfl,"set_iterator",_,b,iX.lookup,k⟩))
noncomputable def yM(w:World)(a:Addr)(ep:Nat)(es:Array (Int×Value)):Lw:=(if vO w then Lm w a ep es else es).toList.map (·.2)
def rD:(yM w a ep es).Perm (es.toList.map (·.2)):=by
 unfold yM;split
 ·exact(xA _ _).map _
 ·exact .refl _
noncomputable def R8(w:World)(a e:Addr)(d:List Int)(b:Array (Int×Value))(c:Nat)(t:SetTable)(i:Nat)(h:Heap):Prop:=lW h a (!vO w) d b c t/\h.get? e=Y (yL a (if vO w=true then 0 else qf t i) i b.size c)
theorem lW.move{h h':Heap}{b:Bool}(c:lW h a b ks es ep t)(e:∀o,h.get? a=Y o->h'.get? a=Y o):lW h' a b ks es ep t:=⟨c.q.move e,c.sm,c.m7,c.sk⟩
def DO:(Lm w a ep es).size=es.size:=by have:=(xA (w.params.setOrder a ep) es).length_eq;simpa using this
def ER(x:A.handled=Z)(q:a≠it):Walks prog w A it [it,a] [it] es.size (λi v=>(yM w a ep es)[i]?=Y v) (R8 w a it ks es ep t) where
 sub:=λb d=>by rw[aS] at d;rw[d];exact .head _
 frame:=λi h g l u=>⟨l.1.move λo e=>u a (.tail _ (.head _)) o e,u it (.head _) _ l.2⟩
 item:=λi s Q E n l k=>by
  obtain⟨c,f⟩:=l;have m:∀g,Heap.SameBut it s.heap g->∀b o,b∉[it]->s.heap.get? b=Y o->g.get? b=Y o:=λg j b o d e=>by rw[j.2 b λz=>d (z▸.head _)];exact e
  by_cases d:vO w=true
  ·rw[af d] at f;have r:i<(Lm w a ep es).size:=by rw[DO];exact n
   refine EN d c f r λg e j=>k _ g s.toks ?_ ⟨c.move λo e=>by rw[j.2 a q];exact e,by rw[af d];exact e⟩ (m g j);unfold yM;rw[af d,aB,Array.getElem?_toList,Array.getElem?_eq_getElem r];rfl
  ·rw[ag d] at f;have p:vO w=false:=by simpa using d
   refine Cs p c f n λg e j=>k _ g s.toks ?_ ⟨c.move λo e=>by rw[j.2 a q];exact e,by rw[ag d];exact e⟩ (m g j);unfold yM;rw[ag d,aB,Array.getElem?_toList,Array.getElem?_eq_getElem n];rfl
 done:=λs Q E l k=>by
  obtain⟨c,f⟩:=l;have m:∀g,Heap.ExtBut it s.heap g->∀b o,b∉[it]->s.heap.get? b=Y o->g.get? b=Y o:=λg j b o d e=>j b o (λz=>d (z▸.head _)) e;by_cases d:vO w=true
  ·rw[af d] at f;exact Hw x d c f (by rw[DO];exact ax _) λg j=>k _ s.toks (m g j)
  ·rw[ag d] at f;exact EM x (by simpa using d) c f λg j=>k _ s.toks (m g j)
 self:=λi s Q E l k=>Hy l.2 k
def Hz{r:Addr}{Q:Bool->Shared->Prop}(e:s.TypeIs (.ref r) "set")(h:Q false s):wpAny (model prog w) A (Builtin.List.listLengthHint (.ref r)) Q E s:=by
 unfold Builtin.List.listLengthHint;refine aa (cj e PySem.F.slot_set_len.lookup ?_);generalize c:("set.__len__":String)=d
 wp_delta
 rw[show splitId d=Y ("set","__len__") from by subst c;decide +kernel];subst c;refine aa (wpAny_isInstance (T:="set") (b:=true) e (by rw[isSubtype_type];kernel_rfl) ?_);refine wpAny_ite_split (λa=>absurd a (by decide)) λ_=>?_;refine wpAny_ite_split (λ_=>?_) λa=>absurd (by decide +kernel) a;exact aa (b6 e (ae h))
def lW.lt{b:Bool}(c:lW h a b ks es ep t):a<h.objs.size:=by obtain⟨o,d,_⟩:=c.q.ex;exact aj d
def Ke:W.KdlSrc prog w "set" a a es.size (λi v=>(yM w a ep es)[i]?=Y v) (λh=>lW h a (!vO w) ks es ep t) where
 type:=λs c=>by obtain⟨o,f,b,_⟩:=c.q.ex;exact⟨o,f,b.1⟩
 there:=λh c=>⟨c.lt,c.lt⟩
 keep:=λh k c g=>c.move λo e=>g a (.inl rfl) o e
 notList:=by decide
 notTuple:=by decide
 hint:=λA E s Q c d=>Hz (by obtain⟨o,f,b,_⟩:=c.q.ex;exact⟨o,f,b.1⟩) d
 iter:=λA s j c=>⟨_,R8 w a (zB s) ks es ep t,λE Q d=>Hv c d,ER j (aE c.lt),⟨c.move λo e=>ah _ e,by rw[ar _ rfl];simp[qf]⟩⟩
end
section
variable {s:Shared}
def AJ{T:String}{r d:Addr}{P:Nat->Value->Prop}{t:Heap->Prop}{R:Lw->Shared->Prop} (K:W.KdlSrc prog w T r d n P t) (v:A.handled=Z) (i:t s.heap) (u:n<=sizeLine)
  (h:∀(h':Heap) (tk:Nat) (acc:Array Value),(zB s)<h'.objs.size->(∀b o,s.heap.get? b=Y o->h'.get? b=Y o)->ItemsOf P acc n->R acc.toList { s with heap:=h',toks:=tk }):wpAny (model prog w) A (collect (.ref r)) R E s:=by
 unfold collect;refine aa (wpAny_runValue (bq entry_proto_collect' ?_));rw[a9 PySem.F.plain_proto_collect _];refine aa (m:=newList []) (bt (ae ⟨bN PySem.F.plain_list_iadd _,bq entry_list_iadd' ?_⟩));rw[a9 PySem.F.plain_list_iadd _];have p:=K.there _ i;have l:=W.kdl_extend (A:=A) (s:={ s with heap:=s.heap.push (seqObj "list" #[] 0) })
  (R:=λq k=>q=.ok (.ret (.ref (zB s)))/\∃h' tk acc c,k={ s with heap:=h',toks:=tk }/\(∀b o,s.heap.get? b=Y o->h'.get? b=Y o)/\h'.get? (zB s)=Y (seqObj "list" acc c)/\ItemsOf P acc n)
  K v (K.keep _ _ i λb _ o e=>ah _ e) (zB s) (bX p.1) (bX p.2) (.ref (zB s)) 0 (ar _ rfl)
  (λh' tk acc c j g a=>⟨rfl,h',tk,acc,c,rfl,λb o e=>j b o (aE (aj e)) (ah _ e),g,a⟩) u
 refine bO l (λf k x=>?_) λe k x=>by cases x.1
 cases f with
 |done f=>obtain⟨e,h',tk,acc,c,rfl,j,g,a⟩:=x;cases e;exact aa (wpAny_load g (ae (h h' tk acc (aj g) j a)))
 |again B=>refine⟨x.1,cp x.2 λq z y=>?_⟩;obtain⟨rfl,h',tk,acc,c,rfl,j,g,a⟩:=y;exact aa (wpAny_load g (ae (h h' tk acc (aj g) j a)))
def vd{T:String}{r d:Addr}{P:Nat->Value->Prop}{q:Heap->Prop}{ks:List Int}{Q:Px} (K:W.KdlSrc prog w T r d n P q) (G:A.handled=Z) (g:q s.heap) (F:n<64) (D:∀acc,ItemsOf P acc n->∃ns,IntsAre acc.toList ns/\ns.Perm ks)
  (h:∀(B:Addr) (h':Heap) (tk c:Nat) (out:Array Value) (ns:List Int),(zB s)<=B->(∀b o,s.heap.get? b=Y o->h'.get? b=Y o)->IntsAre out.toList ns->ns.Perm ks->ns.Pairwise (·<=·)->h'.get? B=Y (seqObj "list" out c)->Q (.ref B) { s with heap:=h',toks:=tk }):
  wpAny (model prog w) A (call (.builtin "sorted") [.ref r]) Q E s:=by
 have H:(64:Nat)<=sizeLine:=by decide
 refine Calls.call_function_entry kind_sorted plain_sorted entry_sorted (args_sorted1 _) ?_;unfold Builtin.«sorted»;refine aa (m:=checkCount "sorted" 1 1 _) (ae ?_);refine aa (AJ (A:=A.in1) K G g (by omega) λp tk acc C j a=>?_);have k:acc.toList.length=n:=by rw[a8];exact a.1
 obtain⟨x,z,v⟩:=D acc a;refine aa (wpAny_newList ?_ (by rw[k];omega));have f:(p.push (seqObj "list" acc.toList.toArray 0)).get? p.objs.size=Y (seqObj "list" acc.toList.toArray 0):=ar _ rfl;refine aa (aY (bx slot_list_sort ⟨_,f,rfl⟩ entry_list_sort (list_sort_tree f z (by rw[k];exact F) λout ns y u t=>⟨_,rfl,ae ⟨_,rfl,?_⟩⟩) (args_list_sort _)));obtain⟨c,i⟩:=sortedHeap_at (out:=out) f;refine h _ _ tk c out ns (cB C) (λb o e=>?_) y (u.trans v) t i;have l:=aj (j b o e);rw[sortedHeap_old (aE l) (by rw[size_push'];exact Nat.lt_succ_of_lt l)];exact ah _ (j b o e)
end
noncomputable def fz(ns:List Int):List Int:=((List.range 13).map λk:Nat=>(k:Int)).filter λk=>decide (k∈ns)
def kK{a:List Int}(h:∀x∈a,∃k:Nat,k<13/\x=(k:Int)){x:Int}:x∈fz a↔x∈a:=by unfold fz;rw[bT,bu];refine⟨λh=>h.2,λb=>⟨?_,b⟩⟩;obtain⟨k,c,rfl⟩:=h x b;exact aJ.mpr ⟨k,List.mem_range.mpr c,rfl⟩
def ES(a:List Int):(fz a).Pairwise (·<·):=List.Pairwise.filter _ (by decide)
def xB{ns ks m:List Int}(h:∀x∈ns,∃k:Nat,k<13/\x=(k:Int))(d:ks.Nodup)(e:∀x,x∈ks↔x∈ns)(p:m.Perm ks)(w:m.Pairwise (·<=·)):m=fz ns:=by have c:=ES ns;refine List.Perm.eq_of_pairwise (le:=(·<=·)) (λa b _ _ h1 f=>Int.le_antisymm h1 f) w (c.imp Int.le_of_lt) (p.trans ?_);exact(List.perm_ext_iff_of_nodup d (c.imp Int.ne_of_lt)).mpr λx=>(e x).trans (kK h).symm
def Kf(l:List Int):(rz l).Nodup/\∀x,x∈rz l↔x∈l:=by
 have c:∀(l b:List Int),b.Nodup->(l.foldl step_dedup b).Nodup/\∀x,x∈l.foldl step_dedup b↔x∈b\/x∈l:=by
  intro l;induction l with
  |nil=>intro b h;exact⟨h,λx=>by simp⟩
  |cons a l d=>
   intro b h;rw[List.foldl_cons];have e:step_dedup b a=if a∈b then b else b++[a]:=by unfold step_dedup;simp
   rw[e];split
   ·rename_i f;refine⟨(d b h).1,λx=>?_⟩;rw[(d b h).2,ak];exact⟨λq=>q.elim .inl λq=>.inr (.inr q),λq=>q.elim .inl λq=>q.elim (λq=>.inl (q▸f)) .inr⟩
   ·rename_i f;have g:(b++[a]).Nodup:=bP.mpr ⟨h,by simp,λx j y i z=>f (by rw[aS] at i;rw[<-i,<-z];exact j)⟩;refine⟨(d _ g).1,λx=>?_⟩;rw[(d _ g).2,aC,aS,ak,or_assoc]
 refine⟨(c l [] dD).1,λx=>?_⟩;have:=(c l [] dD).2 x;exact this.trans (by simp)
noncomputable def i0:Lp->Option (List Int)
 |[]=>Y []
 |.int k::r=>if 0<=k/\k<13 then (i0 r).map (k::·) else Z
 |_=>Z
theorem px:∀{b:Lp}{ns:List Int},i0 b=Y ns->(∀x∈ns,∃k:Nat,k<13/\x=(k:Int))/\b=ns.map .int
 |[],ns,e=>by cases e;exact⟨by simp,rfl⟩
 |d::r,ns,e=>by
  obtain⟨k,rfl⟩:∃k,d=.int k:=by cases d<;>first|exact⟨_,rfl⟩|(unfold i0 at e;cases e)
  unfold i0 at e;split at e
  ·rename_i h;obtain⟨c,f,rfl⟩:=ab.mp e;obtain⟨g,rfl⟩:=px f;refine⟨λx a=>?_,rfl⟩;rcases ak.mp a with rfl|a
   ·exact⟨x.toNat,by omega,by omega⟩
   ·exact g x a
  ·cases e
theorem yN{K:Fg}{H:Hp}:∀{ns:List Int}{b:List V}{a:Lw},dv K H (ns.map .int) b->eQ b a->IntsAre a ns
 |[],b,a,i,v=>by
  have:b=[]:=by have:=i.length;simpa using this.symm
  subst this;cases v;exact .nil
 |k::ns,b,a,i,v=>by
  obtain⟨w,c,rfl,g,f⟩:=dv.eh.mp i;cases et.eG.mp g;cases v with
  |cons e d=>obtain⟨h,rfl⟩:=e;exact .cons _ _ (yN f d)
theorem xC:∀{l:Lw},(∀v∈l,∃k t,v=.int k t)->IntsAre l (l.filterMap vZ)
 |[],_=>.nil
 |v::l,h=>by obtain⟨k,t,rfl⟩:=h v (.head _);exact .cons k t (xC λu a=>h u (.tail _ a))
def HA{l:Lw}{a:Array Value}(h:ItemsOf (λi v=>l[i]?=Y v) a l.length):a.toList=l:=by
 refine List.ext_getElem? λi=>?_;rcases Nat.lt_or_ge i a.size with hi|hi
 ·rw[Array.getElem?_toList,Array.getElem?_eq_getElem hi,h.2 i _ (Array.getElem?_eq_getElem hi)]
 ·rw[bH (by simpa using hi),bH (by rw[<-h.1];exact hi)]
section
noncomputable def g0:d8->Od
 |.list ds=>(i0 ds).map λns=>.list ((fz ns).map .int)
 |_=>Z
def ve{s:Shared}(I:eE X pins σ H s){B:Addr}{e:Heap}{g c:Nat}{d:Array Value}{m:List Int}{Q:VK}(h:(zB s)<=B)(j:∀b o,s.heap.get? b=Y o->e.get? b=Y o)(i:IntsAre d.toList m)(n:m.length<=13)(f:e.get? B=Y (seqObj "list" d c))(k:KO X.K H (.list (m.map .int)) Q):
  ∃v H',eE X pins σ H' { s with heap:=e,toks:=g }/\eV v (.ref B)/\Q v H':=by
 have l:=I.laid (a:=B) (o:=.lst (m.map V.int)) (t':=g) j h ⟨by rw[ay,show sizeLine=16777216 from by decide];omega,d.toList,c,qT i,by simpa using f⟩;exact⟨.ref B,_,l,rfl,k.qU (qV m) _ (I.gr.fresh h)⟩
def pA(ns:List Int):(fz ns).length<=13:=by have:=List.length_filter_le (λk=>decide (k∈ns)) ((List.range 13).map λk:Nat=>(k:Int));simpa [fz] using this
def mD{C g:Pos} (hc:X.calm=true) (O:Gl X "sorted") (M:X.mg "sorted"=Z) (N:Gl X "set") (L:X.mg "set"=Z) (P:PD X e f)
  (V:starEach [.Call (.Name "set" C) [e] [] g] X.env=[(false,eval (.Call (.Name "set" C) [e] [] g) X.env)]:=by rfl) (U:starEach [e] X.env=[(false,eval e X.env)]:=by rfl):PF X (.Call (.Name "sorted" p) [.Call (.Name "set" C) [e] [] g] [] pos) (λρ=>(f ρ).bind g0):=by
 intro j s σ H Q I ⟨ρ,d,hs,e1,k⟩;obtain⟨x,e2,W⟩:=bind_some e1;obtain⟨n,rfl⟩:∃n,x=.list n:=by cases x<;>first|exact⟨_,rfl⟩|cases W
 obtain⟨ns,e3,rfl⟩:=ab.mp (show (i0 n).map _=Y d from W);refine aR (jk I O M (by rfl) ?_);refine cx ?_ (by rw[V];rfl) (by rfl);rw[V];refine aT ?_;refine aR (jk I N L (by rfl) ?_);refine aU ?_ (by rw[U];rfl) (by rfl);rw[U];refine aT (gd (@P j s σ H (λv H1=>ez H H1/\et X.K H1 (.list n) v) I ⟨ρ,_,hs,e2,λv H1 sH i=>⟨sH,i⟩⟩) ?_);rintro u h ⟨v,H1,T,r1,A,i1⟩;refine aZ ?_;obtain⟨l,ws,rfl,sq,F⟩:=et.eK.mp i1;cases r1;obtain⟨E,rv,pl,z⟩:=T.list sq;obtain⟨a2,rfl⟩:=px e3;have a1:=yN F rv;have hh:=T.ok.hd hc;refine EL (items:=E.toArray) (ns:=ns) hh pl.isList (by simpa using a1) a2 λh' y hT kp=>aZ ?_;obtain⟨es,ep,t,c⟩:=hT;have hz:(yM X.w (zB h) ep es).length=es.size:=by have:=(rD (w:=X.w) (a:=(zB h)) (ep:=ep) (es:=es)).length_eq;simpa using this
 have G:∀v∈yM X.w (zB h) ep es,∃k t,v=.int k t:=λv hv=>by obtain⟨e,P,rfl⟩:=aJ.mp (rD.mem_iff.mp hv);obtain⟨k,y,_,rfl⟩:=c.q.mem P;exact⟨k,y,rfl⟩
 have J:((yM X.w (zB h) ep es).filterMap vZ).Perm (rz ns):=by refine(rD.filterMap vZ).trans ?_;have:=c.q.el.filterMap (λx:Int×Option Int=>x.2);rw[cQ,cQ] at this;rw[cQ];refine List.Perm.trans this ?_;rw[show (λx:Int×Option Int=>x.2)∘(λk=>(hashInt k,Y k))=(Y:Int->Option Int) from rfl,List.filterMap_some]
 have fo:=Kf ns;refine vd (s:={ h with heap:=h',toks:=y }) (r:=(zB h)) (ks:=rz ns) (Ke (ks:=rz ns) (es:=es) (ep:=ep) (t:=t)) hh c (by have:=c.sm.small;omega) (λacc ha=>?_) λB h2 UL c2 out m hB D i2 p2 w2 S=>?_
 ·rw[<-hz] at ha;rw[HA ha];exact⟨_,xC G,J⟩
 ·have em:m=fz ns:=xB a2 fo.1 fo.2 p2 w2;subst em;have R:(zB h)<=B:=bc (cB c.lt) hB;exact ve T R (λb o e=>D b o (kp b o (aj e) e)) i2 (pA ns) S (k.later A)
noncomputable def rE:Lp->Od
 |[.dict fX]=>if eT fX=true then Z else (i0 (fX.map (·.1))).bind λa=>if a.Nodup then Y (.list ((fz a).map .int)) else Z
 |_=>Z
def HB(V:X.calm=true):gX X (.builtin "sorted") (λxs H Q=>∃l c,dv X.K H l xs/\rE l=Y c/\KO X.K H c Q):=by
 intro C s σ H xs us Q I r ⟨l,c,i,e,k⟩;obtain⟨a,rfl⟩:∃a,l=[.dict a]:=by
  unfold rE at e;split at e
  ·exact⟨_,rfl⟩
  ·cases e
 have e:(if eT a=true then Z else (i0 (a.map (·.1))).bind λb=>if b.Nodup then Y (.list ((fz b).map .int)) else Z)=Y c:=e;by_cases q:eT a=true
 ·rw[af q] at e;cases e
 rw[ag q] at e;obtain⟨b,e1,h⟩:=bind_some e;have f:b.Nodup:=Classical.byContradiction λf=>by rw[ag f] at h;cases h
 rw[af f] at h;cases h;obtain⟨v,rfl,g⟩:=gg i;obtain⟨p,S,rfl,e5,D⟩:=g.kZ (by simpa using q);obtain⟨u,rfl,N⟩:=oR r;cases N;obtain⟨z,hS,L,d,dd⟩:=nq I.gr e5;obtain⟨ep,t⟩:=dd.dictAt;obtain⟨G,F⟩:=px e1;have U:L.length=b.length:=by have g:=bg List.length F;have y:=(lQ (H':=H) D).length;rw[ay,ay] at g y;rw[<-d.length,<-y,g]
 have o:dv X.K H (b.map .int) (S.map λx=>kV x.1):=F▸lQ D;refine vd (s:=s) (r:=p) (ks:=b) (W.kdl_dict (knd:=fj X.prog X.w) (ep:=ep) hS) (I.ok.hd V) t (by rw[U];have:=lg G f;omega) (λacc E=>?_) λB y M c2 R m hB n T O J A=>?_
 ·exact⟨b,yN o (rf (P:=X.prog) (w:=X.w) d (by rw[a8];exact E.1) λj v e=>E.2 j v (by rw[<-Array.getElem?_toList];exact e)),.refl _⟩
 ·have em:m=fz b:=xB G f (λ_=>cv) O J;subst em;exact ve I hB n T (pA b) A k
def HC(j:X.calm=true)(h:Gl X "sorted")(g:X.mg "sorted"=Z)(l:vS X [e] ff)(i:starEach [e] X.env=(false,eval e X.env)::starEach [] X.env:=by rfl):PF X (.Call (.Name "sorted" p) [e] [] pos) (gH rE ff) :=
 PE.imp (um (HB j) h g (by rfl) l (by decide) (by decide) i (by rfl)) <| by rintro σ H Q ⟨ρ,d,f,e,k⟩;obtain⟨a,n,m⟩:=bind_some e;exact⟨ρ,a,f,n,λo q b c=>⟨a,d,c,m,k.later b⟩⟩
end
def Cu:typeLookup (.type "list_reverseiterator") "__len__"=pure Z:=by rw[ck,bJ];kernel_rfl
def HD:typeLookup (.type "list_reverseiterator") "__length_hint__"=pure (Y (.builtin "list_reverseiterator.__length_hint__")):=by rw[ck,bJ];kernel_rfl
section
variable {s:Shared}
def v5{l r:Addr}{Q:Px} (L:A.handled=Z) (B:s.heap.IsRevIter r l ((items.size:Int) - 1)) (D:s.heap.IsList l items) (G:l≠r) (K:items.size<=sizeLine)
  (h:∀(h':Heap) (tk c:Nat),(∀b o,b≠r->s.heap.get? b=Y o->h'.get? b=Y o)->h'.get? (zB s)=Y (seqObj "list" items.toList.reverse.toArray c)->Q (.ref (zB s)) { s with heap:=h',toks:=tk }):wpAny (model prog w) A (call (.type "list") [.ref r]) Q E s:=by
 have f:r<(zB s):=by obtain⟨o,t,_⟩:=B;exact aj t
 have m:l<(zB s):=by obtain⟨o,t,_⟩:=D;exact aj t
 refine nF λx c y n=>?_;have d:x.IsRevIter r l ((items.size:Int) - 1):=B.at λo e=>n _ _ e;have u:x.IsList l items:=D.at λo e=>n _ _ e;have k:Shared.TypeIs { s with heap:=x } (.ref r) "list_reverseiterator":=d.typeIs;unfold Builtin.List.listExtendWith;refine aa (b6 k ?_);have J:Builtin.List.listSameRef (.ref (zB s)) (.ref r)=false:=by simp[Builtin.List.listSameRef,bX f]
 have I:(Value.type "list_reverseiterator"==Value.type "list")=false:=by decide
 have H:(Value.type "list_reverseiterator"==Value.type "tuple")=false:=by decide
 simp only[J,I,H,dH,cD,dN];refine aa (wpAny_pyIter_revIter d (aa (aY ?_)));unfold Builtin.List.listLengthHint;refine aa (cj k Cu ?_);dsimp only;rw[ag (by decide),ag (by decide)];refine aa (cj k HD ?_);generalize g:("list_reverseiterator.__length_hint__":String)=p
 wp_delta
 rw[show splitId p=Y ("list_reverseiterator","__length_hint__") from by subst g;decide +kernel];subst g;refine aa (wpAny_isInstance (b:=true) k (by rw[isSubtype_type];kernel_rfl) ?_);refine ae ?_;rw[ag (by decide)];have W:=(Walks.listRev (prog:=prog) (w:=w) (A:=A.in1.in1) L r l G items).toS;refine ae ⟨bN bR _,codeAny_extend_loopS W K (zB s) (by simp[bX f,bX m]) .none items.size 0 _ #[] c rfl (bL _) ⟨bL _,by simpa using d,u⟩ y (ItemsOf.nil _) λz j O C F a=>⟨rfl,?_⟩⟩;rw[Moved.eq_with C];have N:j=items.toList.reverse.toArray:=by
  refine Array.ext_getElem? λi=>?_;rcases Nat.lt_or_ge i j.size with hi|hi
  ·have:=a.2 i _ (Array.getElem?_eq_getElem hi);have v:i<items.toList.length:=by rw[a8,<-a.1];exact hi
   rw[Array.getElem?_eq_getElem hi,List.getElem?_toArray,List.getElem?_reverse v,a8,Array.getElem?_toList];exact this.symm
  ·rw[bE hi,List.getElem?_toArray,bH (by rw[cL,a8,<-a.1];exact hi)]
 rw[N] at F;refine h z.heap z.toks O (λb o M e=>C.heap b o (λq=>?_) (n b o e)) F;rcases ak.mp q with q|q
 ·exact absurd (aj e) (by rw[q];exact aW _)
 ·exact M (aS.mp q)
end
section
noncomputable def xD:d8->Od
 |.list ds=>Y (.list ds.reverse)
 |_=>Z
def HE{b:List V}(i:dv K H ds b):dv K H ds.reverse b.reverse:=by
 have e:∀{ds:Lp}{b:List V}{c:Lp}{a:List V},dv K H ds b->dv K H c a->dv K H (ds.reverse++c) (b.reverse++a):=by
  intro ds;induction ds with
  |nil=>
   intro b c a i f;have:b=[]:=by have:=i.length;simpa using this.symm
   subst this;exact f
  |cons d ds g=>intro b c a i f;obtain⟨v,b,rfl,j,h⟩:=dv.eh.mp i;have:=g h (dv.cons j f);simpa using this
 simpa using e i dv.nil
def HF{c:List V}{e:Lw}(r:eQ c e):eQ c.reverse e.reverse:=by
 have f:∀{c:List V}{e:Lw}{a:List V}{b:Lw},eQ c e->eQ a b->eQ (c.reverse++a) (e.reverse++b):=by
  intro c;induction c with
  |nil=>intro e a b i g;cases i;exact g
  |cons d l k=>
   intro e a b i g;cases i with
   |cons j h=>have:=k h (.cons j g);simpa using this
 simpa using f r .nil
def Cv{t g:Pos} (hc:X.calm=true) (E:Gl X "list") (C:X.mg "list"=Z) (D:Gl X "reversed") (B:X.mg "reversed"=Z) (he:PD X e f)
  (L:starEach [.Call (.Name "reversed" t) [e] [] g] X.env=[(false,eval (.Call (.Name "reversed" t) [e] [] g) X.env)]:=by rfl) (J:starEach [e] X.env=[(false,eval e X.env)]:=by rfl):PF X (.Call (.Name "list" p) [.Call (.Name "reversed" t) [e] [] g] [] pos) (λρ=>(f ρ).bind xD):=by
 intro m s σ H Q I ⟨ρ,d,hs,e1,k⟩;obtain⟨x,e2,N⟩:=bind_some e1;obtain⟨F,rfl⟩:∃F,x=.list F:=by cases x<;>first|exact⟨_,rfl⟩|cases N
 cases N;refine aR (jk I E C (by rfl) ?_);refine aU ?_ (by rw[L];rfl) (by rfl);rw[L];refine aT ?_;refine aR (jk I D B (by rfl) ?_);refine aU ?_ (by rw[J];rfl) (by rfl);rw[J];refine aT (gd (@he m s σ H (λv H1=>ez H H1/\et X.K H1 (.list F) v) I ⟨ρ,_,hs,e2,λv H1 T i=>⟨T,i⟩⟩) ?_);rintro u j ⟨v,H1,n,U,q,W⟩;refine aZ ?_;obtain⟨l,P,rfl,S,A⟩:=et.eK.mp W;cases U;obtain⟨h,M,w,z⟩:=n.list S;have y:l<(zB j):=by obtain⟨o,ho,_⟩:=w.isList;exact aj ho
 refine call_reversed_list w.isList (aZ ?_);have O:∀b o,j.heap.get? b=Y o->(j.heap.push (revObj l ((h.toArray.size:Int) - 1))).get? b=Y o:=λb o e=>ah _ e;refine v5 (items:=h.toArray) (s:={ j with heap:=j.heap.push (revObj l ((h.toArray.size:Int) - 1)) }) (l:=l) (r:=(zB j)) (n.ok.hd hc) ⟨_,ar _ rfl,rfl,rfl⟩ (w.isList.at λo e=>O _ _ e) (aE y) (by rw[ao,<-M.length];exact z) λh' R c V G=>?_;have I':=n.laid (a:=(j.heap.push (revObj l ((h.toArray.size:Int) - 1))).objs.size) (o:=.lst P.reverse) (t':=R) (h':=h') (λb o e=>V b o (aE (aj e)) (O b o e)) (by rw[size_push'];exact cR _) ⟨by rw[cL];exact z,h.reverse,c,HF M,by simpa using G⟩;exact⟨.ref _,_,I',rfl,(k.later q).qU (HE A) _ (n.gr.fresh (by rw[size_push'];exact cR _))⟩
end
section
variable {m:Md}
noncomputable def DP(π:Pl)(f:d9->Od):d9->Option eY:=λρ=>(uF π ρ).bind λl=>(f ρ).bind λd=>match l,d with
 |.list ds,.int i=>if 0<=i/\i<ds.length/\i<1000 then Y (.nx (sL π (.list (ds.eraseIdx i.toNat)) ρ)) else Z
 |_,_=>Z
theorem dv.erase{K:Fg}{H:Hp}:∀{c:Lp}{d:List V} (j:Nat),dv K H c d->dv K H (c.eraseIdx j) (d.eraseIdx j)
 |[],_,_,h=>by rw[dv.eC.mp h];exact dv.nil
 |x::c,_,j,h=>by
  obtain⟨u,r,rfl,a,b⟩:=dv.eh.mp h;cases j with
  |zero=>exact b
  |succ j=>exact dv.cons a (dv.erase j b)
def HG{π:Pl} (j:O.Nodup) (T:PP X o π) (V:PV X O e f) (E:π.ix∈O:=by decide) (u:lM O π=false:=by rfl) (p:starEach [e] X.env=(false,eval e X.env)::starEach [] X.env:=by rfl)
  (g:attributeBase o "pop" X.env (eval o X.env)=eval o X.env:=by rfl)
  (t:((backTo fh (starEach [e] X.env)).all (λx=>!x.1)&&(backToKw fh (keywordEach [] X.env)).all (λx=>x.1.isSome)&&decide (([e]:Lx).length+([]:List Keyword).length+(if ([]:List Keyword).isEmpty then 0 else 1)<30))=true:=by rfl)
  (c:(apos.endLine==fh.line)=true:=by rfl) (a:(backTo fh (starEach [] X.env)).any (·.1)=false:=by rfl)
  (s:swapsWith (.Call (.Attribute o "pop" apos) [e] [] fh) Z pos.line X.env=pure false:=by rfl):
  oF X m O (.Expr (.Call (.Attribute o "pop" apos) [e] [] fh) pos) (DP π f) :=
 PS.imp (kW (rY ba PySem.F.slot_list_pop PySem.F.type_list_pop FX T (iE V kA p) g t c p a) s) <| by
  rintro D σ H ⟨ρ,o,G,s,e,k⟩;obtain⟨l,I,ea⟩:=bind_some e;obtain⟨d,e2,h⟩:=bind_some ea;obtain⟨B,rfl⟩:∃B,l=.list B:=by cases l<;>first|exact⟨_,rfl⟩|cases h
  obtain⟨i,rfl⟩:∃i,d=.int i:=by cases d<;>first|exact⟨_,rfl⟩|cases h
  dsimp only at h;by_cases C:0<=i/\i<B.length/\i<1000
  ·rw[af C] at h;cases h;obtain⟨q,ob,r,S,N,_⟩:=s.o.place j E I rfl u;obtain⟨J,rfl,i4⟩:=N.lst;refine⟨q,r,.inl ⟨rfl,J,jS.of S⟩,ρ,_,G,s.o,e2,λv H' G' K L y Q=>?_⟩;obtain⟨q',P,M,A,w,cl⟩:=y.place j E I rfl u;have:=pa.eq r M K;subst this;obtain⟨b,rfl,n⟩:=w.lst;have hl:=n.length;have U:i.toNat<b.length:=by omega
   have R:seqIndex? i b.length=Y i.toNat:=by
    have W:¬ i<0:=by omega
    simp only[seqIndex?,ag W];exact af (by rw[bV,bu,bu];omega)
   refine⟨q,b,i,i.toNat,_,rfl,by rw[et.eG.mp Q],A,by omega,by omega,R,aH U,?_⟩;exact k _ _ G' L ⟨cl _ _ (.inl ⟨_,_,rfl,rfl,n.erase i.toNat⟩),s.z⟩
  ·rw[ag C] at h;cases h
def Kg{F:Lp->Od}{j k:Nat}(W:nr X.prog X.w X.K X.mg X.base x j n F)(l:gG k X.A)(o:Gl X x)(m:j<=k:=by decide)(g:zg x:=by decide):PD X (.Call (.Name x p) [] [] pos) (gI n F fy):=by
 obtain⟨a,u,s,r,h,i,b⟩:=W.ex;refine PE.imp (FK (r.mono m) l o h i b .nil ni g) ?_;rintro σ H Q ⟨ρ,d,t,e,k⟩;obtain⟨v,q,c⟩:=bind_some e;cases q;by_cases f:([]:Lp).length=n
 ·rw[af f] at c;exact⟨[],d,dv.nil,f,c,k⟩
 ·rw[ag f] at c;cases c
end
end L2
noncomputable section
namespace K55
open PySem L2
def j9(i:Nat):Stmt:=PySem.Challenge.pw_pointsure_k55_outs_and_what_they_lead_to.main.body.getD i (.Pass ⟨0,0,0,0⟩)
noncomputable def yO:List (d8×d8):=[((.str "new"),(.tuple [(.str "X"),(.str "KIND")])),((.str "row"),(.tuple [(.str "X")])),((.str "func"),(.tuple [(.str "X"),(.str "FUNCTION"),(.str "A")])),((.str "copy"),(.tuple [(.str "X"),(.str "Y")])),((.str "take"),(.tuple [(.str "X"),(.str "Y"),(.str "FIELD")])),((.str "put"),(.tuple [(.str "Y"),(.str "FIELD"),(.str "X")])),((.str "push"),(.tuple [(.str "Y"),(.str "X")])),((.str "pull"),(.tuple [(.str "X"),(.str "Y")])),((.str "do"),(.tuple [(.str "X"),(.str "Y"),(.str "A")])),((.str "ask"),(.tuple [(.str "X"),(.str "Y"),(.str "METHOD"),(.str "A")])),((.str "straight"),(.tuple [(.str "X"),(.str "Y"),(.str "KIND"),(.str "METHOD"),(.str "A")])),((.str "give"),(.tuple [(.str "X")])),((.str "tell"),(.tuple [(.str "X")])),((.str "rest"),(.tuple [])),((.str "check"),(.tuple [(.str "Y"),(.str "FIELD")])),((.str "fresh"),(.tuple [(.str "X"),(.str "KIND")])),((.str "own"),(.tuple [(.str "X"),(.str "Y"),(.str "FIELD")])),((.str "place"),(.tuple [(.str "Y"),(.str "FIELD"),(.str "X")]))]
noncomputable def kq:List (d8×d8):=[((.str "choose"),(.tuple [])),((.str "some"),(.tuple [(.str "X")])),((.str "same"),(.tuple [(.str "X"),(.str "Y")]))]
abbrev vf:Stmt:=kX (j9 44) 0
def vg:d9->Option eY :=
(eB (Ac 0 "Reading" "fields" (fw [0] (dC (.dict []))))
(eB (Ac 0 "Reading" "heads" (fw [0] (dC (.dict []))))
(eB (ju 0 "Reading" "body" (fw [0] (dC .none)))
(eB (Ac 0 "Reading" "blocks" (fw [0] (fZ fy)))
(eB (ju 0 "Reading" "over" (fw [0] (dC (.bool false))))
(Ac 0 "Reading" "later" (fw [0] (fZ fy))))))))
def nO:Lp->Option (d8×d8):=lO ["self"] vg
abbrev v7:Stmt:=j9 5
def v8:d9->Option eY :=
(ft (RY (Dv (Pp (cn 0)) (Dv (zA ".") (Dv (Pp (cn 1)) (λ_=>Y Str.empty))))))
def lz:Lp->Od:=f7 ["kind","method"] v8
abbrev AK:Stmt:=j9 7
def AM:d9->Option eY :=
(eB (il (fB (d2 jE (zX (cn 0) (zI 0)) (zA "method")))
(ft (gI 2 lz (ee (zX (cn 0) (zI 1)) (zQ (zX (cn 0) (zI 2))))))
fx)
(eB (il (fB (d2 jE (zX (cn 0) (zI 0)) (zA "func")))
(ft (zX (cn 0) (zI 1)))
fx)
(ft (zA "main"))))
def jZ:Lp->Od:=f7 ["head"] AM
abbrev sP:Stmt:=j9 41
def pB:d9->Option eY :=
(eB (fe (fw [1] (La ko (cn 5) (zC " " fy))) 6)
(il (fB (d2 jE (zX (cn 6) (zI 0)) (zA "end")))
(Gq 3 (λi j=>i - j) (fw [1] (zI 1)))
(il (fB (d2 Ob (cn 3) (zI 0)))
(eB (il (fB (d2 ya (zX (cn 6) (zI 0)) (zA "else")))
(vU (.sl 1) (IB (zN (cn 1))) (fw [1] (ia (ee (cn 4) (ee (cn 6) (zQ (cn 2)))))))
fx)
(il (fB (d2 r9 (zX (cn 6) (zI 0)) (dC (.tuple [(.str "if"),(.str "while")]))))
(Gq 3 (λi j=>i+j) (fw [1] (zI 1)))
fx))
(il (fB (d2 ya (zX (cn 6) (zI 0)) (zA "kind")))
(eB (fe (fw [1] (gI 1 jZ (zQ (cn 6)))) 2)
(fe (fw [1] (zI 1)) 3))
fx))))
def sQ:d9->Option eY :=
(eB (gk (fw [1] (dC (.dict []))) 1)
(eB (fe (fw [1] (dC .none)) 2)
(eB (fe (fw [1] (zI 0)) 3)
(eB (gL (ph [1] (Dx (La ko (cn 0) (zC "\n" fy)))) (.many [4,5]) pB)
(ft (cn 1))))))
def mP:Lp->Od:=f7 ["text","rows","body","depth","line","row","words"] sQ
abbrev sR:Stmt:=kX (j9 40) 1
def sS:d9->Option eY :=
(ft (gJ ["Program"] "text" (cn 0)))
def mQ:Lp->Od:=f7 ["self"] sS
abbrev sT:Stmt:=j9 8
def pC:d9->Option Bool:=(λ_=>Y true)
def pD:d9->Od:=(La ko (cn 0) (zC " " fy))
def sU:d9->Option eY :=
(ft (js (o9 (La ko (sd "Program" "shown" 1 mQ (cn 0) fy) (zC "\n" fy))) [] pC pD))
def kf:Lp->Od:=f7 ["program"] sU
abbrev yP:Stmt:=j9 12
def sV:d9->Option eY :=
(il (fB (d2 jE (zX (cn 3) (zI 0)) (zA "end")))
(Gq 2 (λi j=>i - j) (fw [1] (zI 1)))
(il (kb (fB (d2 jE (cn 2) (zI 0))) (fB (d2 ya (zX (cn 3) (zI 0)) (zA "kind"))))
(eB (vU (.sl 1) (fw [1] (gI 1 jZ (zQ (cn 3)))) (fw [1] (cn 3)))
(fe (fw [1] (zI 1)) 2))
(il (fB (d2 r9 (zX (cn 3) (zI 0)) (ia (zC "if" (zC "while" fy)))))
(Gq 2 (λi j=>i+j) (fw [1] (zI 1)))
fx)))
def yQ:d9->Option eY :=
(eB (gk (fw [1] (dC (.dict []))) 1)
(eB (fe (fw [1] (zI 0)) 2)
(eB (gL (ph [1] (iC (gI 1 kf (zQ (cn 0))))) (.one 3) sV)
(ft (cn 1)))))
def mE:Lp->Od:=f7 ["program","heads","depth","words"] yQ
abbrev vh:Stmt:=kX (j9 40) 0
def vi:d9->Option eY :=
(eB (ju 0 "Program" "text" (fw [0] (cn 1)))
(eB (ju 0 "Program" "numbered" (fw [0] (gI 1 mP (zQ (cn 1)))))
(ju 0 "Program" "body_texts" (Jw (gH hV (zQ (gI 1 mE (zQ (cn 0)))))))))
def nP:Lp->Option (d8×d8):=lO ["self","text"] vi
abbrev AN:Stmt:=j9 4
def AO:d9->Option eY :=
(eB (il (Dh (fB (d2 ya (zX (cn 0) (zI 0)) (zA "func"))) (fB (d2 ja (zA "keeps") (ik (cn 0) (ir (zI 2)) jo))))
(ft (fZ fy))
fx)
(eB (fe (fw [] (gH hV (zQ (ik (cn 0) (ir (zI 2)) jo)))) 1)
(ft (tP (cn 1) (ir (d2 iT (MI yp (cn 1) (zC "keeps" fy)) (zI 1))) jo))))
def j0:Lp->Od:=uJ ["head","names"] AO
abbrev nQ:Stmt:=j9 54
def nR:d9->Option eY :=
(eB (il (fB (d2 jE (gJ ["Row"] "word" (cn 1)) (zA "straight")))
(ft (d2 r9 (gI 2 lz (ee (gJ ["Row"] "kind" (cn 1)) (zQ (gJ ["Row"] "method" (cn 1))))) (gJ ["Reading"] "heads" (cn 0))))
fx)
(eB (il (Dh (fB (d2 jE (gJ ["Row"] "function" (cn 1)) (zA "main"))) (fB (d2 ja (gJ ["Row"] "function" (cn 1)) (gJ ["Reading"] "heads" (cn 0)))))
(ft (dC (.bool false)))
fx)
(ft (d2 jE (zN (gI 1 j0 (zQ (zX (gJ ["Reading"] "heads" (cn 0)) (gJ ["Row"] "function" (cn 1)))))) (zN (gJ ["Row"] "handed" (cn 1)))))))
def j3:Lp->Od:=f7 ["reading","row"] nR
abbrev ET:Stmt:=j9 25
def EU:d9->Option eY :=
(eB (il (fB (d2 r9 (zX (cn 0) (zI 0)) (dC (.tuple [(.str "if"),(.str "while")]))))
(eB (il (kb (fB (d2 Ob (zN (cn 0)) (zI 1))) (fB (λρ=>((zX (cn 0) (zI 1)) ρ).bind (GH kq))))
(ft (d2 iT (ia (zC "CONDITION" fy)) (λρ=>((zX (cn 0) (zI 1)) ρ).bind (GI kq))))
fx)
(ft (dC .none)))
fx)
(ft (λρ=>((zX (cn 0) (zI 0)) ρ).bind (Lf yO))))
def rF:Lp->Od:=f7 ["words"] EU
abbrev Cw:Stmt:=j9 26
def v9:d9->Option eY :=
(iL (.sl 1) (fw [1] (zA "A")))
def Cy:d9->Option eY :=
(eB (gk (fw [1] (gH hV (zQ (gI 1 rF (zQ (cn 0)))))) 1)
(eB (uI (fB (d2 K1 (zN (cn 1)) (d2 N9 (zN (cn 0)) (zI 1)))) v9)
(ft (d2 OH (cn 1) (ik (cn 0) (ir (zI 1)) jo)))))
def mF:Lp->Od:=f7 ["words","form"] Cy
abbrev Cz:Stmt:=kX (j9 21) 0
def wa:d9->Option Bool:=(fB (d2 jE (cn 0) (zA "A")))
def wb:d9->Od:=(cn 1)
def wc:d9->Option Bool:=(fB (d2 r9 (cn 0) (ia (zC "X" (zC "Y" (zC "A" fy))))))
def we:d9->Od:=(cn 1)
def CA:d9->Option eY :=
(eB (fe (fw [0] (gH yr (zQ (gI 1 mF (zQ (cn 1)))))) 2)
(eB (ju 0 "Row" "word" (fw [0] (zX (cn 1) (zI 0))))
(eB (ju 0 "Row" "condition" (fw [0] (d2 ly (cn 2) (zA "CONDITION"))))
(eB (ju 0 "Row" "x" (fw [0] (d2 ly (cn 2) (zA "X"))))
(eB (ju 0 "Row" "y" (fw [0] (d2 ly (cn 2) (zA "Y"))))
(eB (ju 0 "Row" "kind" (fw [0] (d2 ly (cn 2) (zA "KIND"))))
(eB (ju 0 "Row" "field" (fw [0] (d2 ly (cn 2) (zA "FIELD"))))
(eB (ju 0 "Row" "method" (fw [0] (d2 ly (cn 2) (zA "METHOD"))))
(eB (ju 0 "Row" "function" (fw [0] (d2 ly (cn 2) (zA "FUNCTION"))))
(eB (ju 0 "Row" "handed" (fw [0] (uU (o9 (gI 1 mF (zQ (cn 1)))) [] wa wb)))
(ju 0 "Row" "names" (fw [0] (uU (o9 (gI 1 mF (zQ (cn 1)))) [] wc we)))))))))))))
def pE:Lp->Option (d8×d8):=lO ["self","words","parts"] CA
abbrev wg:Stmt:=j9 52
def wh:d9->Option eY :=
(eB (il (pT (gJ ["Reading"] "blocks" (cn 0)))
(eB (Oz (.fl 0 "Reading" "blocks"))
Gs)
fx)
(eB (ju 0 "Reading" "over" (IB (d2 jE (gJ ["Reading"] "body" (cn 0)) (zA "main"))))
(ju 0 "Reading" "body" (fw [0] (dC .none)))))
def oV:Lp->Option (d8×d8):=lO ["reading"] wh
abbrev sW:Stmt:=j9 53
def sX:d9->Option eY :=
(eB (il (Dh (oD (pT (gJ ["Reading"] "blocks" (cn 0)))) (fB (d2 ya (zX (gJ ["Reading"] "blocks" (cn 0)) (zI (-1))) (zA "if"))))
(k5 (dC (.bool false)))
fx)
(eB (vU (.fl 0 "Reading" "blocks") (fw [0] (zI (-1))) (fw [0] (zA "else")))
(k5 (dC (.bool true)))))
def mR:Lp->Option (d8×d8):=lO ["reading"] sX
abbrev yR:Stmt:=j9 22
def sY:d9->Option eY :=
(il (oD (B4 Et Et (zA "a") (cn 1) (zA "z")))
(ft (dC (.bool false)))
fx)
def yS:d9->Option eY :=
(eB (gL (ph [] (iC (cn 0))) (.one 1) sY)
(ft (d2 ya (cn 0) (zA ""))))
def qg:Lp->Od:=f7 ["word","sign"] yS
abbrev EV:Stmt:=j9 23
def EW:d9->Option eY :=
(ft (p9 (d2 Et (zN (cn 0)) (zI 8)) (gI 1 qg (zQ (cn 0)))))
def rG:Lp->Od:=f7 ["word"] EW
abbrev HH:Stmt:=j9 24
def AQ:d9->Option Bool:=(λ_=>Y true)
def AR:d9->Od:=(gI 1 rG (zQ (cn 0)))
def HI:d9->Option eY :=
(eB (il (Dh (oD (pT (cn 0))) (oD (pT (gH EA (zQ (js (o9 (cn 0)) [] AQ AR))))))
(ft (dC (.bool false)))
fx)
(eB (fe (fw [] (gI 1 rF (zQ (cn 0)))) 1)
(eB (il (fB (d2 OJ (cn 1) (dC .none)))
(ft (dC (.bool false)))
fx)
(eB (il (kb (pT (cn 1)) (fB (d2 jE (zX (cn 1) (zI (-1))) (zA "A"))))
(ft (d2 Rz (zN (cn 0)) (zN (cn 1))))
fx)
(ft (d2 jE (zN (cn 0)) (d2 iT (zN (cn 1)) (zI 1))))))))
def AU:Lp->Od:=f7 ["words","form"] HI
abbrev vj:Stmt:=j9 51
def vk:d9->Option eY :=
(eB (il (fB (d2 jE (cn 2) (fZ (zC "end" fy))))
(eB (yl (se [0] 0 1 oV fy))
(k5 (dC (.bool true))))
fx)
(eB (il (fB (d2 jE (cn 2) (fZ (zC "else" fy))))
(Dt (se [0] 0 1 mR fy))
fx)
(eB (il (oD (pT (gI 1 AU (zQ (cn 2)))))
(k5 (dC (.bool false)))
fx)
(eB (fe (fw [0] (xb "Row" 2 pE (zQ (cn 2)))) 3)
(eB (il (kb (fB (d2 tR (gJ ["Row"] "kind" (cn 3)) (dC .none))) (fB (d2 ja (gJ ["Row"] "kind" (cn 3)) (gJ ["Reading"] "fields" (cn 0)))))
(k5 (dC (.bool false)))
fx)
(eB (il (fB (d2 r9 (gJ ["Row"] "word" (cn 3)) (dC (.tuple [(.str "if"),(.str "while")]))))
(iL (.fl 0 "Reading" "blocks") (fw [0] (gJ ["Row"] "word" (cn 3))))
fx)
(eB (il (fB (d2 r9 (gJ ["Row"] "word" (cn 3)) (ia (zC "func" (zC "straight" fy)))))
(iL (.fl 0 "Reading" "later") (fw [0] (ia (ee (cn 1) (zQ (cn 3))))))
fx)
(k5 (d2 Et (zN (gJ ["Reading"] "blocks" (cn 0))) (zI 8))))))))))
def nS:Lp->Option (d8×d8):=lO ["reading","line","words","row"] vk
abbrev CB:Stmt:=j9 50
def CC:d9->Option eY :=
(ft (d2 jE (DA (cn 0)) (zN (cn 0))))
def pF:Lp->Od:=f7 ["names"] CC
abbrev yT:Stmt:=j9 47
def yU:d9->Option eY :=
(eB (il (Dh (pT (gJ ["Reading"] "heads" (cn 0))) (Dh (fB (d2 K1 (zN (cn 1)) (zI 2))) (fB (d2 r9 (zX (cn 1) (zI 1)) (gJ ["Reading"] "fields" (cn 0))))))
(k5 (dC (.bool false)))
fx)
(eB (fe (fw [0,3] (ik (cn 1) (ir (zI 2)) jo)) 2)
(eB (gk (fw [0,3] (fZ fy)) 3)
(eB (il (kb (pT (cn 2)) (fB (d2 jE (zX (cn 2) (zI 0)) (zA "of"))))
(eB (il (Dh (fB (d2 K1 (zN (cn 2)) (zI 2))) (fB (d2 ja (zX (cn 2) (zI 1)) (gJ ["Reading"] "fields" (cn 0)))))
(k5 (dC (.bool false)))
fx)
(eB (gk (Jw (gH hV (zQ (zX (gJ ["Reading"] "fields" (cn 0)) (zX (cn 2) (zI 1)))))) 3)
(fe (fw [0,3] (ik (cn 2) (ir (zI 2)) jo)) 2)))
fx)
(eB (il (kb (pT (cn 2)) (Dh (fB (d2 ya (zX (cn 2) (zI 0)) (zA "fields"))) (fB (d2 K1 (zN (cn 2)) (zI 2)))))
(k5 (dC (.bool false)))
fx)
(eB (oj (.sl 3) (fw [0,3] (tP (cn 2) (ir (zI 1)) jo)))
(MN 3 (eB (vU (.fl 0 "Reading" "fields") (fw [0] (zX (cn 1) (zI 1))) (fw [0] (cn 3)))
(k5 (gI 1 pF (zQ (cn 3))))))))))))
def qh:Lp->Option (d8×d8):=lO ["reading","words","behind","fields"] yU
abbrev wj:Stmt:=j9 3
def wk:d9->Option eY :=
(eB (il (fB (d2 jE (zX (cn 0) (zI 0)) (zA "method")))
(ft (gH hV (zQ (ik (cn 0) (ir (zI 3)) jo))))
fx)
(eB (gk (fw [1] (gH hV (zQ (ik (cn 0) (ir (zI 2)) jo)))) 1)
(eB (il (fB (d2 r9 (zA "keeps") (cn 1)))
(ft (tP (cn 1) jo (ir (MI yp (cn 1) (zC "keeps" fy)))))
fx)
(ft (cn 1)))))
def lA:Lp->Od:=uJ ["head","names"] wk
abbrev qi:Stmt:=j9 49
def qj:d9->Option eY :=
(eB (il (kb (fB (d2 jE (zX (cn 0) (zI 0)) (zA "func"))) (kb (fB (d2 r9 (zA "keeps") (ik (cn 0) (ir (zI 2)) jo))) (oD (pT (gI 1 j0 (zQ (cn 0)))))))
(ft (dC (.bool false)))
fx)
(eB (fe (fw [] (d2 iT (gI 1 lA (zQ (cn 0))) (gI 1 j0 (zQ (cn 0))))) 1)
(ft (p9 (d2 ja (zA "self") (cn 1)) (gI 1 pF (zQ (cn 1)))))))
def jw:Lp->Od:=f7 ["words","names"] qj
abbrev EX:Stmt:=j9 48
def EY:d9->Option eY :=
(eB (il (fB (d2 jE (zX (cn 1) (zI 0)) (zA "func")))
(ft (p9 (d2 Ob (zN (cn 1)) (zI 1)) (p9 (d2 ya (zX (cn 1) (zI 1)) (zA "main")) (gI 1 jw (zQ (cn 1))))))
fx)
(eB (il (fB (d2 jE (zX (cn 1) (zI 0)) (zA "method")))
(ft (p9 (d2 Ob (zN (cn 1)) (zI 2)) (p9 (d2 r9 (zX (cn 1) (zI 1)) (gJ ["Reading"] "fields" (cn 0))) (gI 1 jw (zQ (cn 1))))))
fx)
(ft (d2 jE (cn 1) (fZ (zC "main" fy))))))
def xE:Lp->Od:=f7 ["reading","words"] EY
abbrev AV:Stmt:=j9 46
def AW:d9->Option eY :=
(eB (il (pT (gJ ["Reading"] "over" (cn 0)))
(k5 (dC (.bool false)))
fx)
(eB (il (fB (d2 tR (gJ ["Reading"] "body" (cn 0)) (dC .none)))
(Dt (se [0] 0 3 nS (ee (cn 1) (zQ (cn 2)))))
fx)
(eB (il (fB (d2 jE (zX (cn 2) (zI 0)) (zA "kind")))
(Dt (se [0] 0 2 qh (zQ (cn 2))))
fx)
(eB (il (Dh (oD (pT (gI 2 xE (ee (cn 0) (zQ (cn 2)))))) (fB (d2 r9 (gI 1 jZ (zQ (cn 2))) (gJ ["Reading"] "heads" (cn 0)))))
(k5 (dC (.bool false)))
fx)
(eB (ju 0 "Reading" "body" (fw [0] (gI 1 jZ (zQ (cn 2)))))
(eB (vU (.fl 0 "Reading" "heads") (IB (gJ ["Reading"] "body" (cn 0))) (fw [0] (cn 2)))
(k5 (dC (.bool true)))))))))
def sx:Lp->Option (d8×d8):=lO ["reading","line","words"] AW
abbrev vl:Stmt:=j9 45
def qk:d9->Option Bool:=(λ_=>Y true)
def ql:d9->Od:=(La ko (cn 0) (zC " " fy))
def qm:d9->Option Bool:=(λ_=>Y true)
def qo:d9->Od:=(gI 1 rG (zQ (cn 0)))
def qp:d9->Option eY :=
(OE (RX (oD (pT (gH EA (zQ (js (o9 (cn 4)) [] qm qo))))) (OC (hT (se [1] 1 3 sx (ee (cn 3) (zQ (cn 4)))))))
yf
fx)
def qq:d9->Option eY :=
(il (oD (pT (gI 2 j3 (ee (cn 1) (zQ (cn 5))))))
yf
fx)
def vm:d9->Option eY :=
(eB (gk (fw [1] (xb "Reading" 1 nO fy)) 1)
(eB (fe (fw [1] (js (o9 (La ko (cn 0) (zC "\n" fy))) [] qk ql)) 2)
(eB (gL (ph [1] (Dx (cn 2))) (.many [3,4]) qp)
(eB (il (oD (pT (gJ ["Reading"] "over" (cn 1))))
yf
fx)
(MN 1 (eB (gL (ph [] (iC (gJ ["Reading"] "later" (cn 1)))) (.many [3,5]) qq)
(ft (xb "Program" 2 nP (zQ (cn 0))))))))))
def nT:Lp->Od:=f7 ["text","reading","rows","line","words","row"] vm
abbrev wm:Stmt:=j9 57
def wo:d9->Option eY :=
(eB (fe (fw [] (fZ (zC "new x ka" (zC "row y" (zC "func z fa x" (zC "new p ka" (zC "row z" (zC "func x fa z" fy)))))))) 0)
(eB (fe (fw [] (d2 iT (d2 iT (d2 iT (fZ (zC "kind ka fields f g" (zC "func fa p keeps k" fy))) (cn 0)) (fZ (zC "give x" (zC "end" (zC "main" fy))))) (cn 0))) 1)
(ft (gI 1 nT (zQ (La yG (zA "\n") (zQ (d2 iT (cn 1) (fZ (zC "end" fy))))))))))
def jW:Lp->Od:=f7 ["_law_made","_law_lines"] wo
abbrev AX:Stmt:=j9 58
def sy:d9->Option eY :=
(ft (zX (zX (fZ (ee (fZ (ee (zI 0) (ee (zI 3) (ee (zI 7) (zQ (zI 10)))))) (ee (fZ (ee (zI 1) (ee (zI 4) (ee (zI 8) (zQ (zI 11)))))) (zQ (fZ (ee (zI 2) (ee (zI 5) (ee (zI 9) (zQ (zI 12)))))))))) (cn 0)) (d2 iS (cn 1) (zI 4))))
def fN:Lp->Od:=f7 ["_law_kind","_law_number"] sy
abbrev CD:Stmt:=j9 59
def gw:d9->Option eY :=
(eB (fe (fw [] (d2 iS (d2 sg (cn 0) (zI 618033988749894848204587)) (d2 iT (d2 El (zI 10) (zI 24)) (zI 7)))) 1)
(eB (fe (fw [] (ia (ee (gI 2 fN (ee (d2 iS (d2 i9 (cn 1) (zI 7)) (zI 3)) (zQ (d2 i9 (cn 1) (zI 21))))) (zQ (ia fy))))) 2)
(eB (fe (fw [] (d2 iS (cn 1) (zI 7))) 3)
(eB (il (fB (d2 K1 (cn 3) (zI 3)))
(ft (ia (zC "holds" (ee (ia (zC "local" (zC "fa" (ee (ia fy) (zQ (zX (fZ (zC "p" (zC "k" (zC "x" fy)))) (cn 3))))))) (zQ (cn 2))))))
fx)
(eB (il (fB (d2 jE (cn 3) (zI 3)))
(ft (ia (zC "holds" (ee (ia (zC "given" (ee (zX (fZ (zC "fa" (zC "main" fy))) (d2 iS (d2 i9 (cn 1) (zI 1000)) (zI 2))) (zQ (ia fy))))) (zQ (cn 2))))))
fx)
(eB (il (fB (d2 jE (cn 3) (zI 4)))
(ft (ia (zC "holds" (ee (ia (zC "field" (ee (gI 2 fN (ee (zI 0) (zQ (d2 i9 (cn 1) (zI 100))))) (ee (ia fy) (zQ (zX (fZ (zC "f" (zC "g" fy))) (d2 iS (d2 i9 (cn 1) (zI 1000)) (zI 2)))))))) (zQ (cn 2))))))
fx)
(eB (il (fB (d2 jE (cn 3) (zI 5)))
(ft (ia (zC "holds" (ee (ia (zC "each" (ee (gI 2 fN (ee (zI 1) (zQ (d2 i9 (cn 1) (zI 100))))) (zQ (ia fy))))) (zQ (cn 2))))))
fx)
(ft (ia (zC "holds" (ee (ia (zC "kept" (ee (gI 2 fN (ee (zI 2) (zQ (d2 i9 (cn 1) (zI 100))))) (ee (ia fy) (zC "k" fy))))) (zQ (cn 2)))))))))))))
def jN:Lp->Od:=f7 ["_law_cell","_law_mixed","_law_thing","_law_pick"] gw
abbrev EZ:Stmt:=j9 61
def kr:d9->Option eY :=
(il (kb (fB (d2 r9 (zX (zX (cn 4) (zI 1)) (zI 0)) (fZ (zC "field" (zC "each" (zC "kept" fy)))))) (kb (fB (d2 r9 (zX (zX (cn 4) (zI 1)) (zI 1)) (cn 2))) (fB (d2 ja (zX (zX (cn 4) (zI 2)) (zI 0)) (cn 2)))))
(iL (.sl 2) (fw [2] (zX (zX (cn 4) (zI 2)) (zI 0))))
fx)
def jx:d9->Option eY :=
(gL (ph [2] (iC (cn 0))) (.one 4) kr)
def rH:d9->Option eY :=
(eB (gk (fw [2] (gH hV (zQ (cn 1)))) 2)
(eB (gL (ph [2] (jq (zI 13))) (.one 3) jx)
(ft (cn 2))))
def ig:Lp->Od:=uJ ["_law_facts","_law_places","_law_out","_law_k","_law_fact_here"] rH
abbrev wq:Stmt:=j9 56
def lB:d9->Option eY :=
(eB (il (fB (d2 K1 (cn 1) (zN (cn 0))))
(ft (zX (cn 0) (cn 1)))
fx)
(ft (zI 0)))
def iY:Lp->Od:=f7 ["_law_script","_law_k"] lB
abbrev yV:Stmt:=j9 60
def ie:d9->Option eY :=
(eB (fe (fw [] (zX (cn 3) (zI 1))) 4)
(il (Dh (fB (d2 jE (cn 4) (ia (zC "given" (ee (cn 1) (zQ (ia fy))))))) (kb (fB (d2 jE (cn 1) (zA "fa"))) (kb (fB (d2 jE (zX (cn 4) (zI 0)) (zA "local"))) (fB (d2 r9 (zX (cn 4) (zI 3)) (fZ (zC "p" (zC "k" fy))))))))
(fe (fw [] (d2 iT (cn 2) (fZ (zQ (zX (zX (cn 3) (zI 2)) (zI 0)))))) 2)
fx))
def mG:d9->Option eY :=
(eB (fe (fw [] (zX (fZ (ee (fZ (ee (zI 7) (ee (zI 8) (ee (zI 9) (ee (zI 10) (ee (zI 11) (zQ (zI 12)))))))) (zQ (fZ (ee (zI 0) (ee (zI 1) (ee (zI 2) (ee (zI 3) (ee (zI 4) (zQ (zI 5))))))))))) (gH Cd (zQ (d2 jE (cn 1) (zA "main")))))) 2)
(eB (gL (ph [] (iC (cn 0))) (.one 3) ie)
(ft (cn 2))))
def gN:Lp->Od:=f7 ["_law_facts","_law_body","_law_starts_here","_law_fact_here","_law_name"] mG
abbrev HJ:Stmt:=j9 15
def vn:d9->Option eY :=
(eB (il (fB (d2 ja (cn 1) (cn 0)))
(GP (.sl 0) (fw [0,99] (cn 1)) (fw [0,99] (fZ fy)))
fx)
(Cg (.sl 0) (fw [0,99] (cn 1)) (fw [0,99] (cn 2))))
def lX:Lp->Option (d8×d8):=lO ["table","key","one"] vn
abbrev sZ:Stmt:=j9 35
def gz:d9->Option eY :=
(il (kb (fB (d2 jE (zX (cn 2) (zI 0)) (zA "holds"))) (fB (d2 r9 (zX (zX (cn 2) (zI 1)) (zI 0)) (ia (zC "field" (zC "each" (zC "kept" fy)))))))
(yl (se [1,99] 1 3 lX (ee (zX (zX (cn 2) (zI 1)) (zI 1)) (zQ (zX (zX (cn 2) (zI 2)) (zI 0))))))
fx)
def kg:d9->Option eY :=
(eB (GN (fw [1,99] (dC (.dict []))) 1)
(eB (gL (ph [1,99] (iC (cn 0))) (.one 2) gz)
(ft (cn 1))))
def fD:Lp->Od:=f7 ["facts","ways","fact"] kg
abbrev rJ:Stmt:=j9 6
def rK:d9->Option eY :=
(ft (d2 r9 (zA ".") (cn 0)))
def jO:Lp->Od:=f7 ["body"] rK
abbrev wt:Stmt:=j9 32
def rL:d9->Option Bool:=(fB (d2 r9 (gJ ["Row"] "word" (cn 1)) (dC (.tuple [(.str "new"),(.str "row"),(.str "func")]))))
def rM:d9->Od:=(cn 0)
def wu:d9->Option eY :=
(ft (uU (Dx (gJ ["Outline"] "rows" (cn 0))) [] rL rM))
def lC:Lp->Od:=f7 ["outline"] wu
abbrev vo:Stmt:=j9 34
def vp:d9->Option eY :=
(eB (il (fB (d2 jE (zX (cn 0) (zI 0)) (zA "given")))
(ft (d2 jE (zX (cn 0) (zI 1)) (cn 1)))
fx)
(ft (p9 (d2 jE (zX (cn 0) (zI 0)) (zA "local")) (p9 (d2 jE (zX (cn 0) (zI 1)) (cn 1)) (d2 r9 (zX (cn 0) (zI 3)) (cn 2))))))
def kL:Lp->Od:=f7 ["name","body","names"] vp
abbrev vq:Stmt:=j9 33
def lh:d9->Option Bool:=(fB (d2 ya (zX (gJ ["Outline"] "homes" (cn 2)) (cn 0)) (cn 1)))
def lj:d9->Od:=(cn 0)
def gO:d9->Option eY :=
(il (kb (fB (d2 jE (zX (cn 5) (zI 0)) (zA "holds"))) (pT (gI 3 kL (ee (zX (cn 5) (zI 1)) (ee (cn 2) (zQ (cn 4)))))))
(iL (.sl 3) (fw [3,4] (zX (zX (cn 5) (zI 2)) (zI 0))))
fx)
def kM:d9->Option eY :=
(eB (gk (fw [3,4] (js (o9 (gI 1 lC (zQ (cn 0)))) [(2,"body"),(0,"outline")] lh lj)) 3)
(eB (gk (fw [3,4] (d2 xn (zX (gJ ["Outline"] "params" (cn 0)) (cn 2)) (zX (gJ ["Outline"] "kept" (cn 0)) (cn 2)))) 4)
(eB (il (pT (gI 1 jO (zQ (cn 2))))
(iL (.sl 4) (fw [3,4] (zA "self")))
fx)
(eB (gL (ph [3,4] (iC (cn 1))) (.one 5) gO)
(ft (cn 3))))))
def fL:Lp->Od:=uJ ["outline","facts","body","places","names","fact"] kM
abbrev pG:Stmt:=kX (j9 40) 5
def pH:d9->Option eY :=
(ft (zX (zX (gJ ["Program"] "numbered" (cn 0)) (cn 1)) (zI 2)))
def kN:Lp->Od:=f7 ["self","number"] pH
abbrev pI:Stmt:=j9 10
def pJ:d9->Option eY :=
(eB (il (kb (pT (cn 0)) (fB (d2 jE (zX (cn 0) (zI 0)) (zA "of"))))
(ft (ia (ee (zX (cn 0) (zI 1)) (zQ (ik (cn 0) (ir (zI 3)) jo)))))
fx)
(ft (ia (ee (dC .none) (zQ (ik (cn 0) (ir (zI 1)) jo))))))
def kO:Lp->Od:=f7 ["words"] pJ
abbrev yW:Stmt:=j9 9
def tf:d9->Option eY :=
(eB (il (fB (d2 ya (zX (cn 2) (zI 0)) (zA "kind")))
(λρ=>Y (.bk ρ))
fx)
(vU (.sl 1) (fw [1] (zX (cn 2) (zI 1))) (fw [1] (gI 1 kO (zQ (ik (cn 2) (ir (zI 2)) jo))))))
def yX:d9->Option eY :=
(eB (gk (fw [1] (dC (.dict []))) 1)
(eB (gL (ph [1] (iC (gI 1 kf (zQ (cn 0))))) (.one 2) tf)
(ft (cn 1))))
def qr:Lp->Od:=f7 ["program","table","words"] yX
abbrev oH:Stmt:=kX (j9 40) 4
def oI:d9->Option eY :=
(ft (gH hV (zQ (zX (zX (gJ ["Program"] "numbered" (cn 0)) (cn 1)) (zI 1)))))
def km:Lp->Od:=uJ ["self","number"] oI
abbrev qs:Stmt:=j9 11
def nU:d9->Option eY :=
(eB (iL (.sl 2) (fw [2] (cn 3)))
(fe (fw [2] (zX (zX (cn 0) (cn 3)) (zI 0))) 3))
def qt:d9->Option eY :=
(eB (gk (fw [2] (fZ fy)) 2)
(eB (fe (fw [2] (cn 1)) 3)
(eB (uI (fB (d2 tR (cn 3) (dC .none))) nU)
(ft (cn 2)))))
def ll:Lp->Od:=f7 ["table","kind","line","one"] qt
abbrev AY:Stmt:=j9 2
def vr:d9->Option eY :=
(oj (.sl 2) (fw [2] (zX (zX (cn 0) (cn 3)) (zI 1))))
def AZ:d9->Option eY :=
(eB (gk (fw [2] (fZ fy)) 2)
(eB (gL (ph [2] (OO (gI 2 ll (ee (cn 0) (zQ (cn 1)))))) (.one 3) vr)
(ft (cn 2))))
def sC:Lp->Od:=uJ ["table","kind","fields","one"] AZ
abbrev oJ:Stmt:=kX (j9 40) 3
def oK:d9->Option eY :=
(ft (zN (gJ ["Program"] "numbered" (cn 0))))
def iR:Lp->Od:=f7 ["self"] oK
abbrev vt:Stmt:=kX (j9 28) 0
def qu:d9->Option Bool:=(λ_=>Y true)
def qv:d9->Od:=(xb "Row" 2 pE (zQ (sd "Program" "row_words" 2 km (cn 1) (zQ (cn 0)))))
def qw:d9->Option Bool:=(λ_=>Y true)
def qx:d9->Od:=(sd "Program" "row_body" 2 kN (cn 1) (zQ (cn 0)))
def qy:MS :=
(rn (Hd (sO "Outline" "params" (jv 0)) (jv 2) (JZ 1 lA (qc (Pr (sO "Outline" "heads" (jv 0)) (jv 2)) yC)))
(rn (Hd (sO "Outline" "kept" (jv 0)) (jv 2) (JZ 1 j0 (qc (Pr (sO "Outline" "heads" (jv 0)) (jv 2)) yC)))
(Hd (sO "Outline" "own_rows" (jv 0)) (jv 2) Li)))
def qz:MS :=
(Lj (DH (Pr (sO "Outline" "own_rows" (jv 0)) (jv 2)) (jv 3)))
def qA:MS :=
(Hd (sO "Outline" "fields" (jv 0)) (jv 4) (JZ 2 sC (qc (sO "Outline" "table" (jv 0)) (qc (jv 4) yC))))
def vu:MS :=
(rn (yD "Outline" "rows" (jv 0) (G5 (js (jq (sd "Program" "many_rows" 1 iR (cn 1) fy)) [(1,"program")] qu qv)))
(rn (yD "Outline" "homes" (jv 0) (G5 (js (jq (sd "Program" "many_rows" 1 iR (cn 1) fy)) [(1,"program")] qw qx)))
(rn (yD "Outline" "table" (jv 0) (G5 (gI 1 qr (zQ (cn 1)))))
(rn (yD "Outline" "heads" (jv 0) (G5 (gI 1 mE (zQ (cn 1)))))
(rn (yD "Outline" "params" (jv 0) Ay)
(rn (yD "Outline" "kept" (jv 0) Ay)
(rn (yD "Outline" "own_rows" (jv 0) Ay)
(rn (He (sO "Outline" "heads" (jv 0)) (.one 2) qy)
(rn (OV (Hh (sO "Outline" "homes" (jv 0))) (.many [3,2]) qz)
(rn (yD "Outline" "fields" (jv 0) Ay)
(He (sO "Outline" "table" (jv 0)) (.one 4) qA)))))))))))
def fW:IE:=M4 ["self","program","body","number","kind"] vu
abbrev HK:Stmt:=j9 30
def j4:d9->Option eY :=
(eB (GR (MT (.sl 5)) 6)
(il (fB (d2 ja (cn 6) (cn 4)))
(eB (vU (.sl 4) (fw [4,5] (cn 6)) (fw [4,5] (dC (.bool true))))
(oj (.sl 5) (fw [4,5] (d3 nJ (cn 3) (cn 6) (fZ fy)))))
fx))
def vv:d9->Option eY :=
(eB (fe (fw [4,5] (gI 1 fD (zQ (cn 1)))) 3)
(eB (gk (fw [4,5] (dC (.dict []))) 4)
(eB (gk (fw [4,5] (gI 3 fL (ee (nM "Outline" 2 fW (zQ (cn 0))) (ee (cn 1) (zQ (cn 2)))))) 5)
(eB (uI (pT (cn 5)) j4)
(ft (gH rE (zQ (cn 4))))))))
def lY:Lp->Od:=f7 ["program","facts","body","ways","out","left","place"] vv
abbrev yY:Stmt:=j9 62
def gF:d9->Option eY :=
(il (fB (d2 ja (cn 3) (cn 2)))
(ft (dC (.bool false)))
fx)
def mH:d9->Option eY :=
(eB (gL (ph [] (iC (gI 2 gN (ee (cn 0) (zQ (cn 1)))))) (.one 3) gF)
(ft (d2 jE (λρ=>((gI 2 ig (ee (cn 0) (zQ (cn 2)))) ρ).bind g0) (λρ=>((cn 2) ρ).bind g0))))
def iN:Lp->Od:=f7 ["_law_facts","_law_body","_law_places","_law_place_here"] mH
abbrev CF:Stmt:=j9 14
def lD:d9->Option eY :=
(vU (.sl 1) (fw [1] (cn 2)) (fw [1] (dC (.bool true))))
def pK:d9->Option eY :=
(eB (gk (fw [1] (dC (.dict []))) 1)
(eB (gL (ph [1] (iC (cn 0))) (.one 2) lD)
(ft (cn 1))))
def jP:Lp->Od:=f7 ["ones","known","one"] pK
abbrev HL:Stmt:=j9 31
def j5:d9->Option eY :=
(oj (.sl 6) (fw [6] (d3 nJ (cn 5) (cn 7) (fZ fy))))
def jg:d9->Option Bool:=(λ_=>Y true)
def jh:d9->Od:=(d2 r9 (cn 0) (cn 1))
def vw:d9->Option eY :=
(eB (fe (fw [6] (gI 1 jP (zQ (cn 3)))) 4)
(eB (fe (fw [6] (gI 1 fD (zQ (cn 1)))) 5)
(eB (gk (fw [6] (gI 3 fL (ee (nM "Outline" 2 fW (zQ (cn 0))) (ee (cn 1) (zQ (cn 2)))))) 6)
(eB (GX (fw [6] (cn 4)) (.one 7) j5)
(ft (gH EA (zQ (js (o9 (cn 6)) [(4,"known")] jg jh))))))))
def lZ:Lp->Od:=f7 ["program","facts","body","rows","known","ways","needed","place"] vw
abbrev A0:Stmt:=j9 63
def gA:d9->Option eY :=
(eB (fe (fw [] (gI 4 lZ (ee (cn 0) (ee (cn 1) (ee (cn 2) (zQ (cn 5))))))) 6)
(il (Dh (oD (pT (Ms "bool" (cn 6)))) (fB (d2 ya (cn 6) (cn 4))))
(ft (dC (.bool false)))
fx))
def nV:d9->Option eY :=
(eB (fe (fw [] (gI 3 iN (ee (cn 1) (ee (cn 2) (zQ (cn 3)))))) 4)
(eB (gL (ph [] (iC (fZ (ee (gH hV (zQ (cn 3))) (ee (λρ=>((cn 3) ρ).bind xD) (zQ (d2 iT (cn 3) (ik (cn 3) jo (ir (zI 2)))))))))) (.one 5) gA)
(ft (dC (.bool true)))))
def ji:Lp->Od:=f7 ["_law_program_here","_law_facts","_law_body","_law_places","_law_due","_law_some","_law_found"] nV
abbrev OY:Stmt:=j9 64
def nW:d9->Option Bool:=(λ_=>Y true)
def nX:d9->Od:=(gI 1 jN (zQ (cn 0)))
def nY:d9->Option eY :=
(gk (Jw (d2 xn (cn 6) (fZ (zQ (gI 2 fN (ee (cn 7) (zQ (d2 i9 (cn 3) (d2 iT (zI 10) (cn 7)))))))))) 6)
def kP:d9->Option eY :=
(eB (fe (fw [6] (gI 2 ig (ee (cn 2) (zQ (gI 2 gN (ee (cn 2) (zQ (cn 4)))))))) 5)
(eB (il (fB (d2 ya (gI 3 lY (ee (cn 1) (ee (gH hV (zQ (cn 2))) (zQ (cn 4))))) (λρ=>((cn 5) ρ).bind g0)))
(ft (dC (.bool false)))
fx)
(eB (gk (fw [6] (λρ=>((cn 5) ρ).bind g0)) 6)
(eB (gL (ph [6] (jq (d2 iS (cn 3) (zI 4)))) (.one 7) nY)
(eB (il (fB (d2 jE (d2 iS (d2 i9 (cn 3) (zI 4)) (zI 2)) (zI 1)))
(gk (Jw (gI 2 ig (ee (cn 2) (zQ (cn 6))))) 6)
fx)
(eB (il (fB (d2 jE (d2 iS (d2 i9 (cn 3) (zI 8)) (zI 3)) (zI 1)))
(DP (.sl 6) (IB (d2 iS (d2 i9 (cn 3) (zI 24)) (zN (cn 6)))))
fx)
(il (oD (pT (gI 4 ji (ee (cn 1) (ee (cn 2) (ee (cn 4) (zQ (cn 6))))))))
(ft (dC (.bool false)))
fx)))))))
def HM:d9->Option eY :=
(eB (fe (fw [6] (gI 0 jW fy)) 1)
(eB (fe (fw [6] (js (o9 (ik (cn 0) (ir (zI 1)) (ir (zI 61)))) [] nW nX)) 2)
(eB (fe (fw [6] (d2 iS (d2 sg (gI 2 iY (ee (cn 0) (zQ (zI 0)))) (zI 414213562373095048801689)) (d2 iT (d2 El (zI 10) (zI 24)) (zI 7)))) 3)
(eB (gL (ph [6] (iC (fZ (zC "fa" (zC "main" fy))))) (.one 4) kP)
(ft (dC (.bool true)))))))
def DQ:Lp->Od:=f7 ["_law_script","_law_program_here","_law_facts","_law_mixed","_law_body","_law_least","_law_places","_law_k"] HM
structure Md (P:Program) (w:World) (K:Fg) (mg:Str->Ow):Prop where
 all:mg "all"=Z
 bool:mg "bool"=Z
 dict:mg "dict"=Z
 enumerate:mg "enumerate"=Z
 int:mg "int"=Z
 isinstance:mg "isinstance"=Z
 len:mg "len"=Z
 list:mg "list"=Z
 range:mg "range"=Z
 reversed:mg "reversed"=Z
 set:mg "set"=Z
 sorted:mg "sorted"=Z
 zip:mg "zip"=Z
 me:fY K "Outline" "fields"
 i5:fY K "Outline" "heads"
 kh:fY K "Outline" "homes"
 kQ:fY K "Outline" "kept"
 jc:fY K "Outline" "own_rows"
 jQ:fY K "Outline" "params"
 nZ:fY K "Outline" "rows"
 ki:fY K "Outline" "table"
 n0:fY K "Program" "body_texts"
 hW:fY K "Program" "numbered"
 n1:fY K "Program" "text"
 fE:fY K "Reading" "blocks"
 g9:fY K "Reading" "body"
 fQ:fY K "Reading" "fields"
 f9:fY K "Reading" "heads"
 kj:fY K "Reading" "later"
 jy:fY K "Reading" "over"
 ti:fY K "Row" "condition"
 A1:fY K "Row" "field"
 jz:fY K "Row" "function"
 qB:fY K "Row" "handed"
 mI:fY K "Row" "kind"
 qC:fY K "Row" "method"
 A2:fY K "Row" "names"
 jR:fY K "Row" "word"
 Kh:fY K "Row" "x"
 Ki:fY K "Row" "y"
 lE:Ak K mg "BLOCK_WORDS" (.tuple [(.str "if"),(.str "while")])
 qD:k9 P w K mg "CONDITIONS" kq
 Kj:k9 P w K mg "FORMS" yO
 HN:Ak K mg "MAKERS" (.tuple [(.str "new"),(.str "row"),(.str "func")])
 wx:Ak K mg "MOST_BLOCKS" (.int 8)
 vx:Cj K mg "Reading" "Reading.__init__" vf
 wy:gn K mg "method_body" v7
 A3:gn K mg "head_body" AK
 tj:gn K mg "numbered_rows" sP
 tm:Ci K "Program" "shown" "Program.shown" sR
 tq:gn K mg "rows_of_words" sT
 yZ:gn K mg "body_heads" yP
 vy:Cj K mg "Program" "Program.__init__" vh
 A4:gn K mg "head_kept" AN
 n2:gn K mg "names_what_is_told" nQ
 E1:gn K mg "form_of" ET
 CG:gn K mg "parts_of" Cw
 CH:Cj K mg "Row" "Row.__init__" Cz
 wz:gn K mg "close_block" wg
 tr:gn K mg "turns_to_else" sW
 y0:gn K mg "is_letters" yR
 E2:gn K mg "is_name" EV
 HP:gn K mg "is_row" HH
 vz:gn K mg "reads_within" vj
 CI:gn K mg "are_once" CB
 y1:gn K mg "reads_kind" yT
 wA:gn K mg "head_params" wj
 qE:gn K mg "are_heads_names" qi
 E3:gn K mg "is_head" EX
 A5:gn K mg "reads_row" AV
 vA:gn K mg "read_program" vl
 wB:gn K mg "_law_program" wm
 A6:gn K mg "_law_place" AX
 CJ:gn K mg "_law_fact" CD
 E4:gn K mg "_law_led" EZ
 wC:gn K mg "_law_cell_at" wq
 y2:gn K mg "_law_starts" yV
 HQ:gn K mg "add_to" HJ
 tu:gn K mg "places_within" sZ
 rN:gn K mg "is_method_body" rJ
 wD:gn K mg "making_rows" wt
 vB:gn K mg "is_open_name" vo
 vC:gn K mg "first_places" vq
 pL:Ci K "Program" "row_body" "Program.row_body" pG
 pM:gn K mg "elder_and_fields" pI
 y3:gn K mg "kind_table" yW
 oM:Ci K "Program" "row_words" "Program.row_words" oH
 qF:gn K mg "kind_and_elders" qs
 A7:gn K mg "fields_by" AY
 oN:Ci K "Program" "many_rows" "Program.many_rows" oJ
 vD:Cj K mg "Outline" "Outline.__init__" vt
 HR:gn K mg "out_of" HK
 y4:gn K mg "_law_is_out" yY
 CK:gn K mg "known_of" CF
 HS:gn K mg "is_out" HL
 A8:gn K mg "_law_right" A0
 OZ:gn K mg "law" OY
section
variable {P:Program}{base:Heap} (M:Md P w K mg)
include M
def tw:q0 P w K mg base "Reading" 1 1 nO :=
 yz [] M.vx λe d b a=>(c4 (p5 0 (c:="Reading") a M.fQ (gv nA))
  (c4 (p5 0 (c:="Reading") a M.f9 (gv nA))
  (c4 (gB 0 (c:="Reading") a M.g9 (eJ mw))
  (c4 (p5 0 (c:="Reading") a M.fE (gv (pf fT)))
  (c4 (gB 0 (c:="Reading") a M.jy (eJ hZ))
  (da (p5 0 (c:="Reading") a M.kj (gv (pf fT)))))))))
def n3:nr P w K mg base "method_body" 1 2 lz :=
 fC [] M.wy λd c b a=>(da (eA (JI (yo (Lb (bS 0)) (yo ef (yo (Lb (bS 1)) ME))))))
def ku:nr P w K mg base "head_body" 2 1 jZ :=
 fC [] M.A3 λc a d b=>(c4 (eF (fu (fK a) (gS a (bS 0) dm) ef)
  (da (eA (eP (n3 M) c rfl (dr (gS a (bS 0) dm) (zO (gS a (bS 0) dm))))))
  ek)
  (c4 (eF (fu (fK a) (gS a (bS 0) dm) ef)
  (da (eA (gS a (bS 0) dm)))
  ek)
  (da (eA ef))))
def rO:nr P w K mg base "numbered_rows" 3 1 mP :=
 fC [1] M.tj λd b a c=>(c4 (gm 1 a c (gv nA))
  (c4 (eZ 2 a (eJ mw))
  (c4 (eZ 3 a (eJ dm))
  (c4 (gM aL rfl (iB (uR rfl M.enumerate (pq PySem.F.slot_str_split PySem.F.type_str_split kz (bS 0) (zO ef)))) (tN 4 5 rfl a) (by decide)
  (c4 (eZ 6 a (eJ (pq PySem.F.slot_str_split PySem.F.type_str_split kz (bS 5) (zO ef))))
  (da (eF (fu (fK b) (gS b (bS 6) dm) ef)
  (da (tL 3 a FA (eJ dm)))
  (da (eF (fu De (bS 3) dm)
  (c4 (eF (fu (mO b) (gS b (bS 6) dm) ef)
  (da (k4 b c (jF 1) (Dq (zL M.len (bS 1))) (eJ (fO (dr (bS 4) (dr (bS 6) (zO (bS 2))))))))
  ek)
  (da (eF (fu (je b) (gS b (bS 6) dm) (uW M.lE rfl))
  (da (tL 3 a Fz (eJ dm)))
  ek)))
  (da (eF (fu (mO b) (gS b (bS 6) dm) ef)
  (c4 (eZ 2 a (eJ (eP (ku M) d rfl (zO (bS 6)))))
  (da (eZ 3 a (eJ dm))))
  ek))))))))
  (da (eA (bS 1)))))))
def rP:om P w K mg base "Program" "shown" 1 1 mQ :=
 GU [] M.tm λd c b a=>(da (eA (zP "Program" M.n1 (bS 0))))
def mf:nr P w K mg base "rows_of_words" 2 1 kf :=
 fC [] M.tq λb d c a=>(da (eA (lT [] (kn (pq PySem.F.slot_str_split PySem.F.type_str_split kz (uM (rP M) (bS 0) b) (zO ef))) (λ_ _ _ _=>jY) (λ_ _ _ _=>(pq PySem.F.slot_str_split PySem.F.type_str_split kz (bS 0) (zO ef))))))
def oW:nr P w K mg base "body_heads" 3 1 mE :=
 fC [1] M.yZ λd a b c=>(c4 (gm 1 b c (gv nA))
  (c4 (eZ 2 b (eJ dm))
  (c4 (gM aL rfl (iB (ib (eP (mf M) d rfl (zO (bS 0))))) (gK 3 b) (by decide)
  (da (eF (fu (fK a) (gS a (bS 3) dm) ef)
  (da (tL 2 b FA (eJ dm)))
  (da (eF (iP (hU (fu (fK a) (bS 2) dm) (h9 (fu (mO a) (gS a (bS 3) dm) ef))))
  (c4 (k4 a c (jF 1) (eJ (eP (ku M) d rfl (zO (bS 3)))) (eJ (bS 3)))
  (da (eZ 2 b (eJ dm))))
  (da (eF (fu (je a) (gS a (bS 3) dm) (fO (dr ef (zO ef))))
  (da (tL 2 b Fz (eJ dm)))
  ek)))))))
  (da (eA (bS 1))))))
def tB:q0 P w K mg base "Program" 4 2 nP :=
 yz [] M.vy λb e d a=>(c4 (gB 0 (c:="Program") a M.n1 (eJ (bS 1)))
  (c4 (gB 0 (c:="Program") a M.hW (eJ (eP (rO M) b rfl (zO (bS 1)))))
  (da (gB 0 (c:="Program") a M.n0 (OM (jV rfl rfl M.list (zO (eP (oW M) b rfl (zO (bS 0))))))))))
def kx:nE P w K mg base "head_kept" 1 1 j0 :=
 uZ [] M.A4 λd a c b=>(c4 (eF (iP (kD (fu (mO a) (gS a (bS 0) dm) ef) (jT (fu (jt a) ef (gY (bS 0) (fV dm) gs)))))
  (da (nB (pf fT)))
  ek)
  (c4 (eZ 1 c (eJ (PF.pd (jV rfl rfl M.list (zO (gY (bS 0) (fV dm) gs))))))
  (da (nB (uK (bS 1) (fV (fI jG (GC PySem.F.slot_list_index PySem.F.type_list_index (Aj a) (bS 1) (zO ef)) dm)) gs)))))
def mZ:nr P w K mg base "names_what_is_told" 2 2 j3 :=
 fC [] M.n2 λb a d c=>(c4 (eF (fu (fK a) (zP "Row" M.jR (bS 1)) ef)
  (da (eA (kI (je a) (eP (n3 M) b rfl (dr (zP "Row" M.mI (bS 1)) (zO (zP "Row" M.qC (bS 1))))) (zP "Reading" M.f9 (bS 0)))))
  ek)
  (c4 (eF (iP (kD (fu (fK a) (zP "Row" M.jz (bS 1)) ef) (jT (fu (jt a) (zP "Row" M.jz (bS 1)) (zP "Reading" M.f9 (bS 0))))))
  (da (eA hZ))
  ek)
  (da (eA (kI (fK a) (zL M.len (PF.pd (mz (kx M) b rfl (zO (gS a (zP "Reading" M.f9 (bS 0)) (zP "Row" M.jz (bS 1))))))) (zL M.len (zP "Row" M.qB (bS 1))))))))
def vE:nr P w K mg base "form_of" 1 1 rF :=
 fC [] M.E1 λd a c b=>(c4 (eF (fu (je a) (gS a (bS 0) dm) (uW M.lE rfl))
  (c4 (eF (iP (hU (fu De (zL M.len (bS 0)) dm) (h9 (JO M.qD rfl (gS a (bS 0) dm)))))
  (da (eA (fI jG (fO (zO ef)) (MK M.qD rfl (gS a (bS 0) dm) (λ_ _=>rfl)))))
  ek)
  (da (eA mw)))
  ek)
  (da (eA (JN M.Kj rfl (gS a (bS 0) dm) ⟨rfl,rfl,rfl,rfl⟩))))
def n4:nr P w K mg base "parts_of" 2 1 mF :=
 fC [1] M.CG λc d b a=>(c4 (gm 1 b a (gv (jV rfl rfl M.list (zO (eP (vE M) c rfl (zO (bS 0)))))))
  (c4 (qZ aL (fu wX (zL M.len (bS 1)) (fI Ml (zL M.len (bS 0)) dm))
  (da (jb a (jF 1) (eJ ef))))
  (da (eA (PF.pd (B9 rfl rfl M.list rfl M.zip (bS 1) (gY (bS 0) (fV dm) gs)))))))
def sD:q0 P w K mg base "Row" 3 2 pE :=
 yz [] M.CH λd b e a=>(c4 (eZ 2 e (eJ (wY (JK rfl) rfl M.dict (by rfl) (zO (eP (n4 M) d rfl (zO (bS 1)))))))
  (c4 (gB 0 (c:="Row") a M.jR (eJ (gS b (bS 1) dm)))
  (c4 (gB 0 (c:="Row") a M.ti (eJ (kG b (bS 2) ef ⟨rfl,rfl,rfl,rfl⟩)))
  (c4 (gB 0 (c:="Row") a M.Kh (eJ (kG b (bS 2) ef ⟨rfl,rfl,rfl,rfl⟩)))
  (c4 (gB 0 (c:="Row") a M.Ki (eJ (kG b (bS 2) ef ⟨rfl,rfl,rfl,rfl⟩)))
  (c4 (gB 0 (c:="Row") a M.mI (eJ (kG b (bS 2) ef ⟨rfl,rfl,rfl,rfl⟩)))
  (c4 (gB 0 (c:="Row") a M.A1 (eJ (kG b (bS 2) ef ⟨rfl,rfl,rfl,rfl⟩)))
  (c4 (gB 0 (c:="Row") a M.qC (eJ (kG b (bS 2) ef ⟨rfl,rfl,rfl,rfl⟩)))
  (c4 (gB 0 (c:="Row") a M.jz (eJ (kG b (bS 2) ef ⟨rfl,rfl,rfl,rfl⟩)))
  (c4 (gB 0 (c:="Row") a M.qB (eJ (rj [] (kn (eP (n4 M) d rfl (zO (bS 1)))) (λ_ _ _ _=>(p0 (fu (fK b) (bS 0) ef))) (λ_ _ _ _=>(bS 1)))))
  (da (gB 0 (c:="Row") a M.A2 (eJ (rj [] (kn (eP (n4 M) d rfl (zO (bS 1)))) (λ_ _ _ _=>(p0 (fu (je b) (bS 0) (fO (rk ["X","Y","A"] rfl))))) (λ_ _ _ _=>(bS 1))))))))))))))))
def vF:Ad P w K mg base "close_block" 1 1 oV :=
 xp [] M.wz λe b d a=>(c4 (eF (fA (zP "Reading" M.fE (bS 0)))
  (c4 (Jx a (w9 0 (c:="Reading") M.fE))
  (da (Es a)))
  ek)
  (c4 (gB 0 (c:="Reading") a M.jy (Dq (kI (fK b) (zP "Reading" M.g9 (bS 0)) ef)))
  (da (gB 0 (c:="Reading") a M.g9 (eJ mw)))))
def rQ:Ad P w K mg base "turns_to_else" 1 1 mR :=
 xp [] M.tr λe b d a=>(c4 (eF (iP (kD (iZ (fA (zP "Reading" M.fE (bS 0)))) (jT (fu (mO b) (gS b (zP "Reading" M.fE (bS 0)) yy) ef))))
  (da (gZ a hZ))
  ek)
  (c4 (k4 b a (w9 0 (c:="Reading") M.fE) (eJ yy) (eJ ef))
  (da (gZ a hZ))))
def wF:nr P w K mg base "is_letters" 1 1 qg :=
 fC [] M.y0 λd c b a=>(c4 (gM aL rfl (iB (ib (bS 0))) (gK 1 b) (by decide)
  (da (eF (iZ (Ew yn yn ef (bS 1) ef))
  (da (eA hZ))
  ek)))
  (da (eA (kI (mO c) (bS 0) ef))))
def vG:nr P w K mg base "is_name" 2 1 rG :=
 fC [] M.E2 λb d c a=>(da (eA (k7 (kI yn (zL M.len (bS 0)) dm) (qa (eP (wF M) b rfl (zO (bS 0)))))))
def E5:nr P w K mg base "is_row" 3 1 AU :=
 fC [] M.HP λb a d c=>(c4 (eF (iP (kD (iZ (fA (bS 0))) (jT (iZ (fA (pX (Cc rfl) rfl M.all (by rfl) (zO (lT [] (kn (bS 0)) (λ_ _ _ _=>jY) (λ_ _ _ _=>(eP (vG M) b rfl (zO (bS 0))))))))))))
  (da (eA hZ))
  ek)
  (c4 (eZ 1 d (eJ (eP (vE M) b rfl (zO (bS 0)))))
  (c4 (eF (fu MJ (bS 1) mw)
  (da (eA hZ))
  ek)
  (c4 (eF (iP (hU (fA (bS 1)) (h9 (fu (fK a) (gS a (bS 1) yy) ef))))
  (da (eA (kI Oe (zL M.len (bS 0)) (zL M.len (bS 1)))))
  ek)
  (da (eA (kI (fK a) (zL M.len (bS 0)) (fI jG (zL M.len (bS 1)) dm))))))))
def tF:Ad P w K mg base "reads_within" 5 3 nS :=
 xp [] M.vz λd b e a=>(c4 (eF (fu (fK b) (bS 2) (f6 (zO ef)))
  (c4 (xc (oq 0 (vF M) a d rfl fT))
  (da (gZ a hZ)))
  ek)
  (c4 (eF (fu (fK b) (bS 2) (f6 (zO ef)))
  (da (uN a (oq 0 (rQ M) a d rfl fT)))
  ek)
  (c4 (eF (iZ (fA (eP (E5 M) d rfl (zO (bS 2)))))
  (da (gZ a hZ))
  ek)
  (c4 (eZ 3 e (eJ (PF.pd (yk (sD M) d rfl (zO (bS 2))))))
  (c4 (eF (iP (hU (fu rh (zP "Row" M.mI (bS 3)) mw) (h9 (fu (jt b) (zP "Row" M.mI (bS 3)) (zP "Reading" M.fQ (bS 0))))))
  (da (gZ a hZ))
  ek)
  (c4 (eF (fu (je b) (zP "Row" M.jR (bS 3)) (uW M.lE rfl))
  (da (jb a (w9 0 (c:="Reading") M.fE) (eJ (zP "Row" M.jR (bS 3)))))
  ek)
  (c4 (eF (fu (je b) (zP "Row" M.jR (bS 3)) (fO (dr ef (zO ef))))
  (da (jb a (w9 0 (c:="Reading") M.kj) (eJ (fO (dr (bS 1) (zO (bS 3)))))))
  ek)
  (da (gZ a (kI yn (zL M.len (zP "Reading" M.fE (bS 0))) (uW M.wx rfl)))))))))))
def sE:nr P w K mg base "are_once" 1 1 pF :=
 fC [] M.CI λd b c a=>(da (eA (kI (fK b) (Ez rfl rfl M.len rfl M.set (bS 0)) (zL M.len (bS 0)))))
def wG:Ad P w K mg base "reads_kind" 2 2 qh :=
 xp [3] M.y1 λe b d a=>(c4 (eF (iP (kD (fA (zP "Reading" M.f9 (bS 0))) (kD (fu wX (zL M.len (bS 1)) dm) (jT (fu (je b) (gS b (bS 1) dm) (zP "Reading" M.fQ (bS 0)))))))
  (da (gZ a hZ))
  ek)
  (c4 (eZ 2 d (eJ (gY (bS 1) (fV dm) gs)))
  (c4 (gm 3 d a (gv (pf fT)))
  (c4 (eF (iP (hU (fA (bS 2)) (h9 (fu (fK b) (gS b (bS 2) dm) ef))))
  (c4 (eF (iP (kD (fu wX (zL M.len (bS 2)) dm) (jT (fu (jt b) (gS b (bS 2) dm) (zP "Reading" M.fQ (bS 0))))))
  (da (gZ a hZ))
  ek)
  (c4 (gm 3 d a (BY (jV rfl rfl M.list (zO (gS b (zP "Reading" M.fQ (bS 0)) (gS b (bS 2) dm))))))
  (da (eZ 2 d (eJ (gY (bS 2) (fV dm) gs))))))
  ek)
  (c4 (eF (iP (hU (fA (bS 2)) (h9 (iP (kD (fu (mO b) (gS b (bS 2) dm) ef) (jT (fu wX (zL M.len (bS 2)) dm)))))))
  (da (gZ a hZ))
  ek)
  (c4 (B0 a (jF 3) (gv (uK (bS 2) (fV dm) gs)))
  (sr (O':=[0]) 3 (by decide) (by decide)
  (have a:([0]:List Nat).Nodup:=by decide
  (c4 (k4 b a (w9 0 (c:="Reading") M.fQ) (eJ (gS b (bS 1) dm)) (eJ (bS 3)))
  (da (gZ a (eP (sE M) e rfl (zO (bS 3))))))))))))))
def n5:nE P w K mg base "head_params" 1 1 lA :=
 uZ [1] M.wA λd b c a=>(c4 (eF (fu (fK b) (gS b (bS 0) dm) ef)
  (da (nB (jV rfl rfl M.list (zO (gY (bS 0) (fV dm) gs)))))
  ek)
  (c4 (gm 1 c a (gv (jV rfl rfl M.list (zO (gY (bS 0) (fV dm) gs)))))
  (c4 (eF (fu (je b) ef (bS 1))
  (da (nB (uK (bS 1) gs (fV (GC PySem.F.slot_list_index PySem.F.type_list_index (Aj b) (bS 1) (zO ef))))))
  ek)
  (da (p4 1 a)))))
def kR:nr P w K mg base "are_heads_names" 2 1 jw :=
 fC [] M.qE λb a d c=>(c4 (eF (iP (hU (fu (fK a) (gS a (bS 0) dm) ef) (hU (fu (je a) ef (gY (bS 0) (fV dm) gs)) (h9 (iZ (fA (PF.pd (mz (kx M) b rfl (zO (bS 0))))))))))
  (da (eA hZ))
  ek)
  (c4 (eZ 1 d (eJ (fI jG (PF.pd (mz (n5 M) b rfl (zO (bS 0)))) (PF.pd (mz (kx M) b rfl (zO (bS 0)))))))
  (da (eA (k7 (kI (jt a) ef (bS 1)) (qa (eP (sE M) b rfl (zO (bS 1)))))))))
def CL:nr P w K mg base "is_head" 3 2 xE :=
 fC [] M.E3 λb a d c=>(c4 (eF (fu (fK a) (gS a (bS 1) dm) ef)
  (da (eA (k7 (kI De (zL M.len (bS 1)) dm) (k7 (kI (mO a) (gS a (bS 1) dm) ef) (qa (eP (kR M) b rfl (zO (bS 1))))))))
  ek)
  (c4 (eF (fu (fK a) (gS a (bS 1) dm) ef)
  (da (eA (k7 (kI De (zL M.len (bS 1)) dm) (k7 (kI (je a) (gS a (bS 1) dm) (zP "Reading" M.fQ (bS 0))) (qa (eP (kR M) b rfl (zO (bS 1))))))))
  ek)
  (da (eA (kI (fK a) (bS 1) (f6 (zO ef)))))))
def y7:Ad P w K mg base "reads_row" 6 3 sx :=
 xp [] M.A5 λb d e a=>(c4 (eF (fA (zP "Reading" M.jy (bS 0)))
  (da (gZ a hZ))
  ek)
  (c4 (eF (fu rh (zP "Reading" M.g9 (bS 0)) mw)
  (da (uN a (oq 0 (tF M) a b rfl (dr (bS 1) (zO (bS 2))))))
  ek)
  (c4 (eF (fu (fK d) (gS d (bS 2) dm) ef)
  (da (uN a (oq 0 (wG M) a b rfl (zO (bS 2)))))
  ek)
  (c4 (eF (iP (kD (iZ (fA (eP (CL M) b rfl (dr (bS 0) (zO (bS 2)))))) (jT (fu (je d) (eP (ku M) b rfl (zO (bS 2))) (zP "Reading" M.f9 (bS 0))))))
  (da (gZ a hZ))
  ek)
  (c4 (gB 0 (c:="Reading") a M.g9 (eJ (eP (ku M) b rfl (zO (bS 2)))))
  (c4 (k4 d a (w9 0 (c:="Reading") M.f9) (Dq (zP "Reading" M.g9 (bS 0))) (eJ (bS 2)))
  (da (gZ a hZ))))))))
def tG:nr P w K mg base "read_program" 7 1 nT :=
 fC [1] M.vA λb d c a=>(c4 (gm 1 c a (gv (Gv (tw M) b rfl)))
  (c4 (An 2 [] c (kn (pq PySem.F.slot_str_split PySem.F.type_str_split kz (bS 0) (zO ef))) (λ_ _ _ _=>jY) (λ_ _ _ _=>(pq PySem.F.slot_str_split PySem.F.type_str_split kz (bS 0) (zO ef))))
  (c4 (gM aL rfl (iB (uR rfl M.enumerate (bS 2))) (tN 3 4 rfl c) (by decide)
  (da (JF (OD (MC (iZ (fA (pX (Cc rfl) rfl M.all (by rfl) (zO (lT [] (kn (bS 4)) (λ_ _ _ _=>jY) (λ_ _ _ _=>(eP (vG M) b rfl (zO (bS 0))))))))) (JE (JD (JC (oq 1 (y7 M) a b rfl (dr (bS 3) (zO (bS 4)))))))))
  (da qX)
  ek)))
  (c4 (eF (iZ (fA (zP "Reading" M.jy (bS 1))))
  (da qX)
  ek)
  (sr (O':=[]) 1 (by decide) (by decide)
  (have a:([]:List Nat).Nodup:=by decide
  (c4 (gM aL rfl (iB (ib (zP "Reading" M.kj (bS 1)))) (tN 3 5 rfl c) (by decide)
  (da (eF (iZ (fA (eP (mZ M) b rfl (dr (bS 1) (zO (bS 5))))))
  (da qX)
  ek)))
  (da (eA (PF.pd (yk (tB M) b rfl (zO (bS 0)))))))))))))
def vH:nr P w K mg base "_law_program" 8 0 jW :=
 fC [] M.wB λc d a b=>(c4 (eZ 0 a (eJ (f6 (rk ["new x ka","row y","func z fa x","new p ka","row z","func x fa z"] rfl))))
  (c4 (eZ 1 a (eJ (fI jG (fI jG (fI jG (f6 (dr ef (zO ef))) (bS 0)) (f6 (rk ["give x","end","main"] rfl))) (bS 0))))
  (da (eA (eP (tG M) c rfl (zO (pq PySem.F.slot_str_join PySem.F.type_str_join Hm ef (zO (fI jG (bS 1) (f6 (zO ef)))))))))))
def jA:nr P w K mg base "_law_place" 1 2 fN :=
 fC [] M.A6 λd a c b=>(da (eA (gS a (gS a (f6 (dr (f6 (dr dm (dr dm (dr dm (zO dm))))) (dr (f6 (dr dm (dr dm (dr dm (zO dm))))) (zO (f6 (dr dm (dr dm (dr dm (zO dm))))))))) (bS 0)) (fI kC (bS 1) dm))))
def A9:nr P w K mg base "_law_fact" 2 1 jN :=
 fC [] M.CJ λb a c d=>(c4 (eZ 1 c (eJ (fI kC (fI Du (bS 0) dm) (fI jG (fI F5 dm dm) dm))))
  (c4 (eZ 2 c (eJ (fO (dr (eP (jA M) b rfl (dr (fI kC (fI kB (bS 1) dm) dm) (zO (fI kB (bS 1) dm)))) (zO (fO fT))))))
  (c4 (eZ 3 c (eJ (fI kC (bS 1) dm)))
  (c4 (eF (fu wX (bS 3) dm)
  (da (eA (fO (dr ef (dr (fO (dr ef (dr ef (dr (fO fT) (zO (gS a (f6 (rk ["p","k","x"] rfl)) (bS 3))))))) (zO (bS 2)))))))
  ek)
  (c4 (eF (fu (fK a) (bS 3) dm)
  (da (eA (fO (dr ef (dr (fO (dr ef (dr (gS a (f6 (dr ef (zO ef))) (fI kC (fI kB (bS 1) dm) dm)) (zO (fO fT))))) (zO (bS 2)))))))
  ek)
  (c4 (eF (fu (fK a) (bS 3) dm)
  (da (eA (fO (dr ef (dr (fO (dr ef (dr (eP (jA M) b rfl (dr dm (zO (fI kB (bS 1) dm)))) (dr (fO fT) (zO (gS a (f6 (dr ef (zO ef))) (fI kC (fI kB (bS 1) dm) dm))))))) (zO (bS 2)))))))
  ek)
  (c4 (eF (fu (fK a) (bS 3) dm)
  (da (eA (fO (dr ef (dr (fO (dr ef (dr (eP (jA M) b rfl (dr dm (zO (fI kB (bS 1) dm)))) (zO (fO fT))))) (zO (bS 2)))))))
  ek)
  (da (eA (fO (dr ef (dr (fO (dr ef (dr (eP (jA M) b rfl (dr dm (zO (fI kB (bS 1) dm)))) (dr (fO fT) (zO ef))))) (zO (bS 2))))))))))))))
def pN:nE P w K mg base "_law_led" 1 2 ig :=
 uZ [2] M.E4 λd a c b=>(c4 (gm 2 c b (gv (jV rfl rfl M.list (zO (bS 1)))))
  (c4 (gM aL rfl (iB (uH rfl M.range dm)) (gK 3 c) (by decide)
  (da (gM aL rfl (iB (ib (bS 0))) (gK 4 c) (by decide)
  (da (eF (iP (hU (fu (je a) (gS a (gS a (bS 4) dm) dm) (f6 (rk ["field","each","kept"] rfl))) (hU (fu (je a) (gS a (gS a (bS 4) dm) dm) (bS 2)) (h9 (fu (jt a) (gS a (gS a (bS 4) dm) dm) (bS 2))))))
  (da (jb b (jF 2) (eJ (gS a (gS a (bS 4) dm) dm))))
  ek)))))
  (da (p4 2 b))))
def vI:nr P w K mg base "_law_cell_at" 1 2 iY :=
 fC [] M.wC λd b c a=>(c4 (eF (fu wX (bS 1) (zL M.len (bS 0)))
  (da (eA (gS b (bS 0) (bS 1))))
  ek)
  (da (eA dm)))
def oX:nr P w K mg base "_law_starts" 1 2 gN :=
 fC [] M.y2 λd a b c=>(c4 (eZ 2 b (eJ (gS a (f6 (dr (f6 (dr dm (dr dm (dr dm (dr dm (dr dm (zO dm))))))) (zO (f6 (dr dm (dr dm (dr dm (dr dm (dr dm (zO dm)))))))))) (wY MP rfl M.int (by rfl) (zO (kI (fK a) (bS 1) ef))))))
  (c4 (gM aL rfl (iB (ib (bS 0))) (gK 3 b) (by decide)
  (c4 (eZ 4 b (eJ (gS a (bS 3) dm)))
  (da (eF (iP (kD (fu (fK a) (bS 4) (fO (dr ef (dr (bS 1) (zO (fO fT)))))) (jT (iP (hU (fu (fK a) (bS 1) ef) (hU (fu (fK a) (gS a (bS 4) dm) ef) (h9 (fu (je a) (gS a (bS 4) dm) (f6 (dr ef (zO ef)))))))))))
  (da (eZ 2 b (eJ (fI jG (bS 2) (f6 (zO (gS a (gS a (bS 3) dm) dm)))))))
  ek))))
  (da (eA (bS 2)))))
def E6:yj true P w K mg base "add_to" 1 3 lX :=
 xp [99] M.HQ λd b c a=>(c4 (eF (fu (jt b) (bS 1) (bS 0))
  (da (GQ b a (jF 0) (eJ (bS 1)) (gv (pf fT))))
  ek)
  (da (EB b a (jF 0) (eJ (bS 1)) (eJ (bS 2)) (λ_ _=>rfl) (λ_ _=>rfl))))
def mh:nr P w K mg base "places_within" 2 1 fD :=
 fC [1,99] M.tu λd a c b=>(c4 (GO 1 c b (gv nA))
  (c4 (gM aL rfl (iB (ib (bS 0))) (gK 2 c) (by decide)
  (da (eF (iP (hU (fu (fK a) (gS a (bS 2) dm) ef) (h9 (fu (je a) (gS a (gS a (bS 2) dm) dm) (fO (rk ["field","each","kept"] rfl))))))
  (da (xc (oq 1 (E6 M) b d rfl (dr (gS a (gS a (bS 2) dm) dm) (zO (gS a (gS a (bS 2) dm) dm))))))
  ek)))
  (da (eA (bS 1)))))
def qG:nr P w K mg base "is_method_body" 1 1 jO :=
 fC [] M.rN λd b c a=>(da (eA (kI (je b) ef (bS 0))))
def vJ:nr P w K mg base "making_rows" 1 1 lC :=
 fC [] M.wD λe b c a=>(da (eA (rj [] (Jy.d (uR rfl M.enumerate (zP "Outline" M.nZ (bS 0)))) (λ_ _ _ _=>(p0 (fu (je b) (zP "Row" M.jR (bS 1)) (uW M.HN rfl)))) (λ_ _ _ _=>(bS 0)))))
def tH:nr P w K mg base "is_open_name" 1 3 kL :=
 fC [] M.vB λd a c b=>(c4 (eF (fu (fK a) (gS a (bS 0) dm) ef)
  (da (eA (kI (fK a) (gS a (bS 0) dm) (bS 1))))
  ek)
  (da (eA (k7 (kI (fK a) (gS a (bS 0) dm) ef) (k7 (kI (fK a) (gS a (bS 0) dm) (bS 1)) (qa (kI (je a) (gS a (bS 0) dm) (bS 2))))))))
def mS:nE P w K mg base "first_places" 2 3 fL :=
 uZ [3,4] M.vC λd b c a=>(c4 (EC 3 [(2,"body"),(0,"outline")] c a (kn (eP (vJ M) d rfl (zO (bS 0)))) (λ_ _ _ _=>(p0 (fu (mO b) (gS b (zP "Outline" M.kh (bS 2)) (bS 0)) (bS 1)))) (λ_ _ _ _=>(bS 0)))
  (c4 (gm 4 c a (gv (GK (gS b (zP "Outline" M.jQ (bS 0)) (bS 2)) (gS b (zP "Outline" M.kQ (bS 0)) (bS 2)))))
  (c4 (eF (fA (eP (qG M) d rfl (zO (bS 2))))
  (da (jb a (jF 4) (eJ ef)))
  ek)
  (c4 (gM aL rfl (iB (ib (bS 1))) (gK 5 c) (by decide)
  (da (eF (iP (hU (fu (fK b) (gS b (bS 5) dm) ef) (h9 (fA (eP (tH M) d rfl (dr (gS b (bS 5) dm) (dr (bS 2) (zO (bS 4)))))))))
  (da (jb a (jF 3) (eJ (gS b (gS b (bS 5) dm) dm))))
  ek)))
  (da (p4 3 a))))))
def oO:om P w K mg base "Program" "row_body" 1 2 kN :=
 GU [] M.pL λd a c b=>(da (eA (gS a (gS a (zP "Program" M.hW (bS 0)) (bS 1)) dm)))
def oP:nr P w K mg base "elder_and_fields" 1 1 kO :=
 fC [] M.pM λd a c b=>(c4 (eF (iP (hU (fA (bS 0)) (h9 (fu (fK a) (gS a (bS 0) dm) ef))))
  (da (eA (fO (dr (gS a (bS 0) dm) (zO (gY (bS 0) (fV dm) gs))))))
  ek)
  (da (eA (fO (dr mw (zO (gY (bS 0) (fV dm) gs)))))))
def wH:nr P w K mg base "kind_table" 3 1 qr :=
 fC [1] M.y3 λd b c a=>(c4 (gm 1 c a (gv nA))
  (c4 (gM aL rfl (iB (ib (eP (mf M) d rfl (zO (bS 0))))) (gK 2 c) (by decide)
  (c4 (eF (fu (mO b) (gS b (bS 2) dm) ef)
  (da Er)
  ek)
  (da (k4 b a (jF 1) (eJ (gS b (bS 2) dm)) (eJ (eP (oP M) d rfl (zO (gY (bS 2) (fV dm) gs))))))))
  (da (eA (bS 1)))))
def n6:uX P w K mg base "Program" "row_words" 1 2 km :=
 MX [] M.oM λd a c b=>(da (nB (jV rfl rfl M.list (zO (gS a (gS a (zP "Program" M.hW (bS 0)) (bS 1)) dm)))))
def pO:nr P w K mg base "kind_and_elders" 1 2 ll :=
 fC [2] M.qF λd c b a=>(c4 (gm 2 b a (gv (pf fT)))
  (c4 (eZ 3 b (eJ (bS 1)))
  (c4 (qZ aL (fu rh (bS 3) mw)
  (c4 (jb a (jF 2) (eJ (bS 3)))
  (da (eZ 3 b (eJ (gS c (gS c (bS 0) (bS 3)) dm))))))
  (da (eA (bS 2))))))
def y8:nE P w K mg base "fields_by" 2 2 sC :=
 uZ [2] M.A7 λd c b a=>(c4 (gm 2 b a (gv (pf fT)))
  (c4 (gM aL rfl (iB (JR rfl M.reversed (eP (pO M) d rfl (dr (bS 0) (zO (bS 1)))))) (gK 3 b) (by decide)
  (da (nH a (jF 2) (eJ (gS c (gS c (bS 0) (bS 3)) dm)))))
  (da (p4 2 a))))
def j6:om P w K mg base "Program" "many_rows" 1 1 iR :=
 GU [] M.oN λd c b a=>(da (eA (zL M.len (zP "Program" M.hW (bS 0)))))
def mT:Ha P w K mg base "Outline" 5 2 fW :=
 Hf M.vD λa b c=>(ic (nL M.nZ (fP 0) (yB (lT [(1,"program")] (ux rfl M.range (uM (j6 M) (bS 1) a)) (λ_ _ _ _=>jY) (λ_ _ _ _=>(PF.pd (yk (sD M) a rfl (zO (PF.pd (JS (n6 M) (bS 1) a (zO (bS 0)))))))))))
  (ic (nL M.kh (fP 0) (yB (lT [(1,"program")] (ux rfl M.range (uM (j6 M) (bS 1) a)) (λ_ _ _ _=>jY) (λ_ _ _ _=>(JB (oO M) (bS 1) a (zO (bS 0)))))))
  (ic (nL M.ki (fP 0) (yB (eP (wH M) a rfl (zO (bS 1)))))
  (ic (nL M.i5 (fP 0) (yB (eP (oW M) a rfl (zO (bS 1)))))
  (ic (nL M.jQ (fP 0) tT)
  (ic (nL M.kQ (fP 0) tT)
  (ic (nL M.jc (fP 0) tT)
  (ic (DI aL rfl (kJ M.i5 (fP 0)) (gK 2 c)
  (ic (yE b (kJ M.jQ (fP 0)) (fP 2) (yF (n5 M) a rfl (qd (Hg b (kJ M.i5 (fP 0)) (fP 2)) tS)))
  (ic (yE b (kJ M.kQ (fP 0)) (fP 2) (yF (kx M) a rfl (qd (Hg b (kJ M.i5 (fP 0)) (fP 2)) tS)))
  (tV (yE b (kJ M.jc (fP 0)) (fP 2) JU)))))
  (ic (M3 aL rfl (Hi rfl M.enumerate (kJ M.kh (fP 0))) (tN 3 2 rfl c)
  (tV (JW (EF (Hg b (kJ M.jc (fP 0)) (fP 2)) (fP 3)))))
  (ic (nL M.me (fP 0) tT)
  (tV (DI aL rfl (kJ M.ki (fP 0)) (gK 4 c)
  (tV (yE b (kJ M.me (fP 0)) (fP 4) (yF (y8 M) a rfl (qd (kJ M.ki (fP 0)) (qd (fP 4) tS)))))))))))))))))
def E7:nr P w K mg base "out_of" 7 3 lY :=
 fC [4,5] M.HR λd c b a=>(c4 (eZ 3 b (eJ (eP (mh M) d rfl (zO (bS 1)))))
  (c4 (gm 4 b a (gv nA))
  (c4 (gm 5 b a (gv (mz (mS M) d rfl (dr (AA (mT M) d rfl (zO (bS 0))) (dr (bS 1) (zO (bS 2)))))))
  (c4 (qZ aL (fA (bS 5))
  (c4 (GS 6 b (MU a (jF 5)))
  (da (eF (fu (jt c) (bS 6) (bS 4))
  (c4 (k4 c a (jF 4) (eJ (bS 6)) (eJ hZ))
  (da (nH a (jF 5) (eJ (Ar c (bS 3) (bS 6) (f6 fT) ⟨rfl,rfl,rfl,rfl⟩)))))
  ek))))
  (da (eA (PF.pd (HC rfl rfl M.sorted (zO (bS 4))))))))))
def wI:nr P w K mg base "_law_is_out" 2 3 iN :=
 fC [] M.y4 λb a d c=>(c4 (gM aL rfl (iB (ib (eP (oX M) b rfl (dr (bS 0) (zO (bS 1)))))) (gK 3 d) (by decide)
  (da (eF (fu (jt a) (bS 3) (bS 2))
  (da (eA hZ))
  ek)))
  (da (eA (kI (fK a) (PF.pd (mD rfl rfl M.sorted rfl M.set (PF.pd (mz (pN M) b rfl (dr (bS 0) (zO (bS 2))))))) (PF.pd (mD rfl rfl M.sorted rfl M.set (bS 2)))))))
def Ba:nr P w K mg base "known_of" 1 1 jP :=
 fC [1] M.CK λd c b a=>(c4 (gm 1 b a (gv nA))
  (c4 (gM aL rfl (iB (ib (bS 0))) (gK 2 b) (by decide)
  (da (k4 c a (jF 1) (eJ (bS 2)) (eJ hZ))))
  (da (eA (bS 1)))))
def E8:nr P w K mg base "is_out" 7 4 lZ :=
 fC [6] M.HS λc d b a=>(c4 (eZ 4 b (eJ (eP (Ba M) c rfl (zO (bS 3)))))
  (c4 (eZ 5 b (eJ (eP (mh M) c rfl (zO (bS 1)))))
  (c4 (gm 6 b a (gv (mz (mS M) c rfl (dr (AA (mT M) c rfl (zO (bS 0))) (dr (bS 1) (zO (bS 2)))))))
  (c4 (GY aL rfl (eJ (bS 4)) (gK 7 b) (by decide)
  (da (nH a (jF 6) (eJ (Ar d (bS 5) (bS 7) (f6 fT) ⟨rfl,rfl,rfl,rfl⟩)))))
  (da (eA (pX (Cc rfl) rfl M.all (by rfl) (zO (lT [(4,"known")] (kn (bS 6)) (λ_ _ _ _=>jY) (λ_ _ _ _=>(kI (je d) (bS 0) (bS 1))))))))))))
def y9:nr P w K mg base "_law_right" 8 4 ji :=
 fC [] M.A8 λb d a c=>(c4 (eZ 4 a (eJ (eP (wI M) b rfl (dr (bS 1) (dr (bS 2) (zO (bS 3)))))))
  (c4 (gM aL rfl (iB (ib (f6 (dr (PF.pd (jV rfl rfl M.list (zO (bS 3)))) (dr (PF.pd (Cv rfl rfl M.list rfl M.reversed (bS 3))) (zO (fI jG (bS 3) (gY (bS 3) gs (fV dm))))))))) (gK 5 a) (by decide)
  (c4 (eZ 6 a (eJ (eP (E8 M) b rfl (dr (bS 0) (dr (bS 1) (dr (bS 2) (zO (bS 5))))))))
  (da (eF (iP (kD (iZ (fA (Em (bz (bz (bW rfl))) (bS 6) rfl M.isinstance rfl M.bool (by rfl)))) (jT (fu (mO d) (bS 6) (bS 4)))))
  (da (eA hZ))
  ek))))
  (da (eA hZ))))
def M8{h:Addr}(f:mg "law"=Y (.ref h)):∃g:FuncData,(∀(s:Shared) (u:Value),BindsTo s g ⟨[u],[]⟩ [("_law_script",u)])/\∀a:Heap,K.In a->a.Ns mainGlobals mg->jl P w K mg a tK 9 h g ["_law_script"] (Mu K 1 DQ) :=
 MY [6] f M.OZ λ_=>λd e c b=>(c4 (eZ 1 c (eJ (Kg (vH M) d rfl)))
  (c4 (An 2 [] c (kn (gY (bS 0) (fV dm) (fV dm))) (λ_ _ _ _=>jY) (λ_ _ _ _=>(eP (A9 M) d rfl (zO (bS 0)))))
  (c4 (eZ 3 c (eJ (fI kC (fI Du (eP (vI M) d rfl (dr (bS 0) (zO dm))) dm) (fI jG (fI F5 dm dm) dm))))
  (c4 (gM aL rfl (iB (ib (f6 (dr ef (zO ef))))) (gK 4 c) (by decide)
  (c4 (eZ 5 c (eJ (PF.pd (mz (pN M) d rfl (dr (bS 2) (zO (eP (oX M) d rfl (dr (bS 2) (zO (bS 4))))))))))
  (c4 (eF (fu (mO e) (eP (E7 M) d rfl (dr (bS 1) (dr (PF.pd (jV rfl rfl M.list (zO (bS 2)))) (zO (bS 4))))) (PF.pd (mD rfl rfl M.sorted rfl M.set (bS 5))))
  (da (eA hZ))
  ek)
  (c4 (gm 6 c b (gv (mD rfl rfl M.sorted rfl M.set (bS 5))))
  (c4 (gM aL rfl (iB (uH rfl M.range (fI kC (bS 3) dm))) (gK 7 c) (by decide)
  (da (gm 6 c b (BY (GK (bS 6) (f6 (zO (eP (jA M) d rfl (dr (bS 7) (zO (fI kB (bS 3) (fI jG dm (bS 7)))))))))))))
  (c4 (eF (fu (fK e) (fI kC (fI kB (bS 3) dm) dm) dm)
  (da (gm 6 c b (BY (mz (pN M) d rfl (dr (bS 2) (zO (bS 6)))))))
  ek)
  (c4 (eF (fu (fK e) (fI kC (fI kB (bS 3) dm) dm) dm)
  (da (HG b (jF 6) (Dq (fI kC (fI kB (bS 3) dm) (zL M.len (bS 6))))))
  ek)
  (da (eF (iZ (fA (eP (y9 M) d rfl (dr (bS 1) (dr (bS 2) (dr (bS 4) (zO (bS 6))))))))
  (da (eA hZ))
  ek)))))))))
  (da (eA hZ))))))
end
section
variable {P:Program}{A:Addr}{N:Nat}
def tI{b a:Tok}(X:K.In h)(G:h.Ns mainGlobals mg)(k:W.nsIn K mainGlobals "BLOCK_WORDS"=Y (Y (.ref A)))(l:K.lookup A=Y (zy #[.str "if" b,.str "while" a] N)):Ak K mg "BLOCK_WORDS" (.tuple [(.str "if"),(.str "while")]) :=
 ⟨.ref A,.ref A,W.mg_of X G k,rfl,kH (xs:=["if","while"]) l (by show 2<=sizeLine;decide) (.cons ⟨_,rfl⟩ (.cons ⟨_,rfl⟩ .nil))⟩
def vK{f e d:Addr}{o n m:Nat}{j i c g b a:Tok} (X:K.In h) (G:h.Ns mainGlobals mg) (k:W.nsIn K mainGlobals "CONDITIONS"=Y (Y (.ref A))) (z:(A==sysModules)=false) (l:K.lookup A=Y { cls:=.type "dict",data:=.dict #[⟨d8.keyHash w.params "choose",.str "choose" j,.ref f⟩,⟨d8.keyHash w.params "some",.str "some" i,.ref e⟩,⟨d8.keyHash w.params "same",.str "same" g,.ref d⟩] N })
  (r:K.lookup f=Y (zy #[] o))
  (q:K.lookup e=Y (zy #[.str "X" c] n))
  (p:K.lookup d=Y (zy #[.str "X" b,.str "Y" a] m)):k9 P w K mg "CONDITIONS" kq :=
 DC (P:=P) (l:=[("choose",j,.ref f,.tuple (([]:Lr).map .str)),("some",i,.ref e,.tuple ((["X"]:Lr).map .str)),("same",g,.ref d,.tuple ((["X","Y"]:Lr).map .str))]) (W.mg_of X G k) z l (by show (["choose","some","same"]:Lr).Nodup;decide +kernel) (aF.mpr ⟨⟨.ref f,rfl,kH (xs:=[]) r (by show 0<=sizeLine;decide) .nil⟩,aF.mpr ⟨⟨.ref e,rfl,kH (xs:=["X"]) q (by show 1<=sizeLine;decide) (.cons ⟨_,rfl⟩ .nil)⟩,aF.mpr ⟨⟨.ref d,rfl,kH (xs:=["X","Y"]) p (by show 2<=sizeLine;decide) (.cons ⟨_,rfl⟩ (.cons ⟨_,rfl⟩ .nil))⟩,d5 _⟩⟩⟩)
def E9{V0 V1 V2 V3 V4 V5 V6 V7 V8 V9 i g f e d c b a:Addr}{m0 m1 m2 m3 m4 m5 m6 m7 m8 m9 Uc Ud Ue Ug Uh Ui Uj Uk:Nat}{t0 Rc Rf t1 Rg t2 Rh Ri Rj t3 Rk Rl t4 Rm Rn Ro t5 Rp V U t6 T S t7 R Q t8 O M L t9 J I H F R9 E D C B y Sa x Sb v Sd Se u t Sf s r Sg q p o Sh n m j:Tok} (X:K.In h) (G:h.Ns mainGlobals mg) (k:W.nsIn K mainGlobals "FORMS"=Y (Y (.ref A))) (z:(A==sysModules)=false) (l:K.lookup A=Y { cls:=.type "dict",data:=.dict #[⟨d8.keyHash w.params "new",.str "new" t0,.ref V0⟩,⟨d8.keyHash w.params "row",.str "row" t1,.ref V1⟩,⟨d8.keyHash w.params "func",.str "func" t2,.ref V2⟩,⟨d8.keyHash w.params "copy",.str "copy" t3,.ref V3⟩,⟨d8.keyHash w.params "take",.str "take" t4,.ref V4⟩,⟨d8.keyHash w.params "put",.str "put" t5,.ref V5⟩,⟨d8.keyHash w.params "push",.str "push" t6,.ref V6⟩,⟨d8.keyHash w.params "pull",.str "pull" t7,.ref V7⟩,⟨d8.keyHash w.params "do",.str "do" t8,.ref V8⟩,⟨d8.keyHash w.params "ask",.str "ask" t9,.ref V9⟩,⟨d8.keyHash w.params "straight",.str "straight" R9,.ref i⟩,⟨d8.keyHash w.params "give",.str "give" Sa,.ref g⟩,⟨d8.keyHash w.params "tell",.str "tell" Sb,.ref f⟩,⟨d8.keyHash w.params "rest",.str "rest" Sd,.ref e⟩,⟨d8.keyHash w.params "check",.str "check" Se,.ref d⟩,⟨d8.keyHash w.params "fresh",.str "fresh" Sf,.ref c⟩,⟨d8.keyHash w.params "own",.str "own" Sg,.ref b⟩,⟨d8.keyHash w.params "place",.str "place" Sh,.ref a⟩] N })
  (l0:K.lookup V0=Y (zy #[.str "X" Rc,.str "KIND" Rf] m0))
  (l1:K.lookup V1=Y (zy #[.str "X" Rg] m1))
  (l2:K.lookup V2=Y (zy #[.str "X" Rh,.str "FUNCTION" Ri,.str "A" Rj] m2))
  (l3:K.lookup V3=Y (zy #[.str "X" Rk,.str "Y" Rl] m3))
  (l4:K.lookup V4=Y (zy #[.str "X" Rm,.str "Y" Rn,.str "FIELD" Ro] m4))
  (l5:K.lookup V5=Y (zy #[.str "Y" Rp,.str "FIELD" V,.str "X" U] m5))
  (l6:K.lookup V6=Y (zy #[.str "Y" T,.str "X" S] m6))
  (l7:K.lookup V7=Y (zy #[.str "X" R,.str "Y" Q] m7))
  (l8:K.lookup V8=Y (zy #[.str "X" O,.str "Y" M,.str "A" L] m8))
  (l9:K.lookup V9=Y (zy #[.str "X" J,.str "Y" I,.str "METHOD" H,.str "A" F] m9))
  (Ul:K.lookup i=Y (zy #[.str "X" E,.str "Y" D,.str "KIND" C,.str "METHOD" B,.str "A" y] Uc))
  (Um:K.lookup g=Y (zy #[.str "X" x] Ud))
  (Uo:K.lookup f=Y (zy #[.str "X" v] Ue))
  (Up:K.lookup e=Y (zy #[] Ug))
  (Uq:K.lookup d=Y (zy #[.str "Y" u,.str "FIELD" t] Uh))
  (Ur:K.lookup c=Y (zy #[.str "X" s,.str "KIND" r] Ui))
  (Us:K.lookup b=Y (zy #[.str "X" q,.str "Y" p,.str "FIELD" o] Uj))
  (Ut:K.lookup a=Y (zy #[.str "Y" n,.str "FIELD" m,.str "X" j] Uk)):k9 P w K mg "FORMS" yO :=
 DC (P:=P) (l:=[("new",t0,.ref V0,.tuple ((["X","KIND"]:Lr).map .str)),("row",t1,.ref V1,.tuple ((["X"]:Lr).map .str)),("func",t2,.ref V2,.tuple ((["X","FUNCTION","A"]:Lr).map .str)),("copy",t3,.ref V3,.tuple ((["X","Y"]:Lr).map .str)),("take",t4,.ref V4,.tuple ((["X","Y","FIELD"]:Lr).map .str)),("put",t5,.ref V5,.tuple ((["Y","FIELD","X"]:Lr).map .str)),("push",t6,.ref V6,.tuple ((["Y","X"]:Lr).map .str)),("pull",t7,.ref V7,.tuple ((["X","Y"]:Lr).map .str)),("do",t8,.ref V8,.tuple ((["X","Y","A"]:Lr).map .str)),("ask",t9,.ref V9,.tuple ((["X","Y","METHOD","A"]:Lr).map .str)),("straight",R9,.ref i,.tuple ((["X","Y","KIND","METHOD","A"]:Lr).map .str)),("give",Sa,.ref g,.tuple ((["X"]:Lr).map .str)),("tell",Sb,.ref f,.tuple ((["X"]:Lr).map .str)),("rest",Sd,.ref e,.tuple (([]:Lr).map .str)),("check",Se,.ref d,.tuple ((["Y","FIELD"]:Lr).map .str)),("fresh",Sf,.ref c,.tuple ((["X","KIND"]:Lr).map .str)),("own",Sg,.ref b,.tuple ((["X","Y","FIELD"]:Lr).map .str)),("place",Sh,.ref a,.tuple ((["Y","FIELD","X"]:Lr).map .str))]) (W.mg_of X G k) z l (by show (["new","row","func","copy","take","put","push","pull","do","ask","straight","give","tell","rest","check","fresh","own","place"]:Lr).Nodup;decide +kernel) (aF.mpr ⟨⟨.ref V0,rfl,kH (xs:=["X","KIND"]) l0 (by show 2<=sizeLine;decide) (.cons ⟨_,rfl⟩ (.cons ⟨_,rfl⟩ .nil))⟩,aF.mpr ⟨⟨.ref V1,rfl,kH (xs:=["X"]) l1 (by show 1<=sizeLine;decide) (.cons ⟨_,rfl⟩ .nil)⟩,aF.mpr ⟨⟨.ref V2,rfl,kH (xs:=["X","FUNCTION","A"]) l2 (by show 3<=sizeLine;decide) (.cons ⟨_,rfl⟩ (.cons ⟨_,rfl⟩ (.cons ⟨_,rfl⟩ .nil)))⟩,aF.mpr ⟨⟨.ref V3,rfl,kH (xs:=["X","Y"]) l3 (by show 2<=sizeLine;decide) (.cons ⟨_,rfl⟩ (.cons ⟨_,rfl⟩ .nil))⟩,aF.mpr ⟨⟨.ref V4,rfl,kH (xs:=["X","Y","FIELD"]) l4 (by show 3<=sizeLine;decide) (.cons ⟨_,rfl⟩ (.cons ⟨_,rfl⟩ (.cons ⟨_,rfl⟩ .nil)))⟩,aF.mpr ⟨⟨.ref V5,rfl,kH (xs:=["Y","FIELD","X"]) l5 (by show 3<=sizeLine;decide) (.cons ⟨_,rfl⟩ (.cons ⟨_,rfl⟩ (.cons ⟨_,rfl⟩ .nil)))⟩,aF.mpr ⟨⟨.ref V6,rfl,kH (xs:=["Y","X"]) l6 (by show 2<=sizeLine;decide) (.cons ⟨_,rfl⟩ (.cons ⟨_,rfl⟩ .nil))⟩,aF.mpr ⟨⟨.ref V7,rfl,kH (xs:=["X","Y"]) l7 (by show 2<=sizeLine;decide) (.cons ⟨_,rfl⟩ (.cons ⟨_,rfl⟩ .nil))⟩,aF.mpr ⟨⟨.ref V8,rfl,kH (xs:=["X","Y","A"]) l8 (by show 3<=sizeLine;decide) (.cons ⟨_,rfl⟩ (.cons ⟨_,rfl⟩ (.cons ⟨_,rfl⟩ .nil)))⟩,aF.mpr ⟨⟨.ref V9,rfl,kH (xs:=["X","Y","METHOD","A"]) l9 (by show 4<=sizeLine;decide) (.cons ⟨_,rfl⟩ (.cons ⟨_,rfl⟩ (.cons ⟨_,rfl⟩ (.cons ⟨_,rfl⟩ .nil))))⟩,aF.mpr ⟨⟨.ref i,rfl,kH (xs:=["X","Y","KIND","METHOD","A"]) Ul (by show 5<=sizeLine;decide) (.cons ⟨_,rfl⟩ (.cons ⟨_,rfl⟩ (.cons ⟨_,rfl⟩ (.cons ⟨_,rfl⟩ (.cons ⟨_,rfl⟩ .nil)))))⟩,aF.mpr ⟨⟨.ref g,rfl,kH (xs:=["X"]) Um (by show 1<=sizeLine;decide) (.cons ⟨_,rfl⟩ .nil)⟩,aF.mpr ⟨⟨.ref f,rfl,kH (xs:=["X"]) Uo (by show 1<=sizeLine;decide) (.cons ⟨_,rfl⟩ .nil)⟩,aF.mpr ⟨⟨.ref e,rfl,kH (xs:=[]) Up (by show 0<=sizeLine;decide) .nil⟩,aF.mpr ⟨⟨.ref d,rfl,kH (xs:=["Y","FIELD"]) Uq (by show 2<=sizeLine;decide) (.cons ⟨_,rfl⟩ (.cons ⟨_,rfl⟩ .nil))⟩,aF.mpr ⟨⟨.ref c,rfl,kH (xs:=["X","KIND"]) Ur (by show 2<=sizeLine;decide) (.cons ⟨_,rfl⟩ (.cons ⟨_,rfl⟩ .nil))⟩,aF.mpr ⟨⟨.ref b,rfl,kH (xs:=["X","Y","FIELD"]) Us (by show 3<=sizeLine;decide) (.cons ⟨_,rfl⟩ (.cons ⟨_,rfl⟩ (.cons ⟨_,rfl⟩ .nil)))⟩,aF.mpr ⟨⟨.ref a,rfl,kH (xs:=["Y","FIELD","X"]) Ut (by show 3<=sizeLine;decide) (.cons ⟨_,rfl⟩ (.cons ⟨_,rfl⟩ (.cons ⟨_,rfl⟩ .nil)))⟩,d5 _⟩⟩⟩⟩⟩⟩⟩⟩⟩⟩⟩⟩⟩⟩⟩⟩⟩⟩)
def CM{c b a:Tok}(X:K.In h)(G:h.Ns mainGlobals mg)(k:W.nsIn K mainGlobals "MAKERS"=Y (Y (.ref A)))(l:K.lookup A=Y (zy #[.str "new" c,.str "row" b,.str "func" a] N)):Ak K mg "MAKERS" (.tuple [(.str "new"),(.str "row"),(.str "func")]) :=
 ⟨.ref A,.ref A,W.mg_of X G k,rfl,kH (xs:=["new","row","func"]) l (by show 3<=sizeLine;decide) (.cons ⟨_,rfl⟩ (.cons ⟨_,rfl⟩ (.cons ⟨_,rfl⟩ .nil)))⟩
end
open PySem L2 PySem.StrLaws PySem.Builtin PySem.Builtin.Str
open PySem
noncomputable abbrev LI(a:List Int):d8:=.list (a.map .int)
inductive LN where
 |p|k|x
noncomputable def LN.s:LN->Str
 |.p=>"p"
 |.k=>"k"
 |.x=>"x"
inductive Fc where
 |loc (i:LN) (t:Int)|Kk (m:Bool) (t:Int)|fld (g:Bool) (s t:Int)|each (s t:Int)|kept (s t:Int)
noncomputable def eS(m:Bool):Str:=if m then "main" else "fa"
noncomputable def Fc.nm:Fc->d8
 |.loc i _=>.tuple [.str "local",.str "fa",.tuple [],.str i.s]
 |.Kk m _=>.tuple [.str "given",.str (eS m),.tuple []]
 |.fld g s _=>.tuple [.str "field",.int s,.tuple [],.str (if g then "g" else "f")]
 |.each s _=>.tuple [.str "each",.int s,.tuple []]
 |.kept s _=>.tuple [.str "kept",.int s,.tuple [],.str "k"]
noncomputable def Fc.t:Fc->Int
 |.loc _ t=>t
 |.Kk _ t=>t
 |.fld _ _ t=>t
 |.each _ t=>t
 |.kept _ t=>t
noncomputable def Fc.src:Fc->Option Int
 |.fld _ s _=>Y s
 |.each s _=>Y s
 |.kept s _=>Y s
 |_=>Z
noncomputable def Fc.d(f:Fc):d8:=.tuple [.str "holds",f.nm,.tuple [.int f.t,.tuple []]]
noncomputable abbrev FL(F:List Fc):d8:=.list (F.map Fc.d)
noncomputable def Fc.op(m:Bool):Fc->Bool
 |.loc .p _=>!m
 |.loc .k _=>!m
 |.Kk b _=>b==m
 |_=>false
noncomputable def base(m:Bool):List Int:=if m then [0,1,2,3,4,5] else [7,8,9,10,11,12]
noncomputable def eX(F:List Fc)(m:Bool):List Int:=base m++(F.filter (Fc.op m)).map Fc.t
def oY{c:d9->Option Bool}{g h:d9->Option eY}(e:c ρ=Y true):il c g h ρ=g ρ:=by unfold il;rw[e];rfl
def lp{c:d9->Option Bool}{g h:d9->Option eY}(e:c ρ=Y false):il c g h ρ=h ρ:=by unfold il;rw[e];rfl
def ew{g h:d9->Option eY}{ρ':d9}(e:g ρ=Y (.nx ρ')):eB g h ρ=h ρ':=by unfold eB;rw[e];rfl
def DR{g h:d9->Option eY}{d:d8}(e:g ρ=Y (.rt d)):eB g h ρ=Y (.rt d):=by unfold eB;rw[e];rfl
theorem jB{α β:Type}{bd:BD}{g:d9->Option eY} (R:Nat->α->d9->Prop) (c:α->β->α) (d:β->d8) (M:Nat)
  (e:∀n a b ρ,n<M->R n a ρ->∃ρ',(bd (d b) ρ).bind g=Y (.nx ρ')/\R (n+1) (c a b) ρ'):
  ∀(l:List β) (n:Nat) (a:α) (ρ:d9),n+l.length<=M->R n a ρ->∃ρ',kc bd g (l.map d) ρ=Y (.nx ρ')/\R (n+l.length) (l.foldl c a) ρ'
 |[],n,a,ρ,_,h=>⟨ρ,rfl,h⟩
 |b::l,n,a,ρ,hn,h=>by
  rw[aD] at hn;obtain⟨ρ1,k,i⟩:=e n a b ρ (by omega) h;obtain⟨ρ2,j,f⟩:=jB R c d M e l (n+1) (c a b) ρ1 (by omega) i;refine⟨ρ2,?_,?_⟩
  ·rw[az,kc,k,aA];exact j
  ·rw[aD,List.foldl_cons,show n+(l.length+1)=n+1+l.length by omega];exact f
def Bb{a b:List Int}(h:a.length+b.length<=16777216):iT (LI a) (LI b)=Y (LI (a++b)):=by show (if (a.map d8.int).length+(b.map d8.int).length<=sizeLine then Y (d8.list (a.map d8.int++b.map d8.int)) else Z)=_;rw[af (by rw[ay,ay];exact h),<-bC]
theorem n7{α:Type}(f:Fc->Bool)(u:Fc->α):∀(F:List Fc) (a:List α),F.foldl (λa x=>if f x then a++[u x] else a) a=a++(F.filter f).map u
 |[],a=>by simp
 |x::F,a=>by rw[List.foldl_cons,n7 f u F];cases h:f x<;>simp[h]
def Kl(m:Bool)(f:Fc)(d c a:Od):(Dh (fB (d2 jE (cn 4) (ia (zC "given" (ee (cn 1) (zQ (ia fy))))))) (kb (fB (d2 jE (cn 1) (zA "fa"))) (kb (fB (d2 jE (zX (cn 4) (zI 0)) (zA "local"))) (fB (d2 r9 (zX (cn 4) (zI 3)) (fZ (zC "p" (zC "k" fy)))))))) [d,Y (.str (eS m)),c,a,Y f.nm]=Y (f.op m):=by
 cases f with
 |loc i t=>cases i<;>cases m<;>kernel_rfl
 |Kk b t=>cases b<;>cases m<;>kernel_rfl
 |fld g s t=>cases g<;>cases m<;>kernel_rfl
 |each s t=>cases m<;>kernel_rfl
 |kept s t=>cases m<;>kernel_rfl
def O0(f:Fc)(c b a e:Od):fe (fw [] (zX (cn 3) (zI 1))) 4 [c,b,a,Y f.d,e]=Y (.nx [c,b,a,Y f.d,Y f.nm]):=by kernel_rfl
def Km(m:Bool)(f:Fc)(a:List Int)(b c:Od)(h:a.length<1000):ie [b,Y (.str (eS m)),Y (LI a),Y f.d,c]=Y (.nx [b,Y (.str (eS m)),Y (LI (if f.op m then a++[f.t] else a)),Y f.d,Y f.nm]):=by
 unfold ie;rw[ew (O0 f ..)];have t:=Kl m f b (Y (LI a)) (Y f.d);cases q:f.op m
 ·rw[lp (by rw[t,q])];rfl
 ·rw[oY (by rw[t,q])];have e:(d2 iT (cn 2) (fZ (zQ (zX (zX (cn 3) (zI 2)) (zI 0))))) [b,Y (.str (eS m)),Y (LI a),Y f.d,Y f.nm]=iT (LI a) (LI [f.t]):=by kernel_rfl
  rw[Bb (by simp;omega)] at e;unfold fe fw;show Option.map _ ((d2 iT (cn 2) (fZ (zQ (zX (zX (cn 3) (zI 2)) (zI 0))))) [b,Y (.str (eS m)),Y (LI a),Y f.d,Y f.nm])=_;rw[e];rfl
theorem pP(F:List Fc)(m:Bool):(eX F m).length<=6+F.length:=by
 unfold eX;have b:=List.length_filter_le (Fc.op m) F;have a:(base m).length=6:=by cases m<;>rfl
 rw[a6,ay];omega
theorem oZ(F:List Fc)(m:Bool)(q:F.length<=60):gN [FL F,.str (eS m)]=Y (LI (eX F m)):=by
 unfold gN f7;show (mG [Y (FL F),Y (.str (eS m)),Z,Z,Z]).bind _=_;unfold mG;have j:(fe (fw [] (zX (fZ (ee (fZ (ee (zI 7) (ee (zI 8) (ee (zI 9) (ee (zI 10) (ee (zI 11) (zQ (zI 12)))))))) (zQ (fZ (ee (zI 0) (ee (zI 1) (ee (zI 2) (ee (zI 3) (ee (zI 4) (zQ (zI 5))))))))))) (gH Cd (zQ (d2 jE (cn 1) (zA "main")))))) 2) [Y (FL F),Y (.str (eS m)),Z,Z,Z]=Y (.nx [Y (FL F),Y (.str (eS m)),Y (LI (base m)),Z,Z]):=by cases m<;>kernel_rfl
 rw[ew j];obtain⟨ρ,i,h,l,k⟩:=jB (bd:=p6 (.one 3)) (g:=ie) (λn (a:List Int) ρ=>(∃c b,ρ=[Y (FL F),Y (.str (eS m)),Y (LI a),c,b])/\a.length<=6+n/\True) (λa f=>if f.op m then a++[f.t] else a) Fc.d 60
  (λn a f ρ o ⟨⟨c,b,e⟩,p,_⟩=>by
   subst e;refine⟨_,Km m f a (Y (FL F)) b (by omega),⟨_,_,rfl⟩,?_,trivial⟩;split
   ·simp;omega
   ·omega) F 0 (base m) [Y (FL F),Y (.str (eS m)),Y (LI (base m)),Z,Z] (by omega) ⟨⟨_,_,rfl⟩,by cases m<;>decide,trivial⟩
 obtain⟨c,b,rfl⟩:=h;rw[ew (show (gL (ph [] (iC (cn 0))) (.one 3) ie) [Y (FL F),Y (.str (eS m)),Y (LI (base m)),Z,Z]=_ from i),n7];rfl
def za(k:Int)(a:List Int):jK (.int k) (LI a)=Y (decide (k∈a)):=by
 show (if SeqAt.shaped (.int k)=true/\(a.map d8.int).all SeqAt.shaped=true/\(d8.int k).depth<=60 then Y ((a.map d8.int).any λy=>d8.eqv y (.int k)) else Z)=_;have c:(a.map d8.int).all SeqAt.shaped=true:=by rw[List.all_map,bD];intro x _;rfl
 rw[af ⟨rfl,c,by simp[d8.depth]⟩,List.any_map];refine bg Y ?_;rw[Bool.eq_iff_iff,List.any_eq_true,bu];constructor
 ·rintro⟨x,b,e⟩;have:x=k:=by simpa [d8.eqv] using e
  rw[<-this];exact b
 ·intro h;exact⟨k,h,by simp[d8.eqv]⟩
noncomputable def j7(a:List Int)(f:Fc):List Int:=match f.src with
 |some s=>if s∈a/\f.t∉a then a++[f.t] else a
 |none=>a
noncomputable def jC(F:List Fc)(a:List Int):List Int:=F.foldl j7 a
noncomputable def led(F:List Fc)(a:List Int):List Int:=(List.range 13).foldl (λa _=>jC F a) a
noncomputable def tE(f:Fc)(y:d8):Option Bool:=match f.src with
 |none=>Y false
 |some s=>kb (fB λ_=>r9 (.int s) y) (fB λ_=>ja (.int f.t) y) []
def M9(f:Fc)(y:d8)(e c a:Od):(kb (fB (d2 r9 (zX (zX (cn 4) (zI 1)) (zI 0)) (fZ (zC "field" (zC "each" (zC "kept" fy)))))) (kb (fB (d2 r9 (zX (zX (cn 4) (zI 1)) (zI 1)) (cn 2))) (fB (d2 ja (zX (zX (cn 4) (zI 2)) (zI 0)) (cn 2))))) [e,c,Y y,a,Y f.d]=tE f y:=by
 cases f with
 |loc i t=>cases i<;>kernel_rfl
 |Kk b t=>cases b<;>kernel_rfl
 |fld g s t=>cases g<;>kernel_rfl
 |each s t=>kernel_rfl
 |kept s t=>kernel_rfl
def O1(f:Fc)(a:List Int):tE f (LI a)=Y (match f.src with|none=>false|some s=>decide (s∈a/\f.t∉a)):=by
 unfold tE;cases f.src with
 |none=>rfl
 |some s=>show kb (fB λ_=>(jK (.int s) (LI a)).map .bool) (fB λ_=>(jK (.int f.t) (LI a)).map λb=>.bool (!b)) []=_;rw[za,za];by_cases d:s∈a<;>by_cases c:f.t∈a<;>simp[d,c,kb,fB]
def HU{a:List Int}{t:Int}{f d c b:Od}{v:d9->Od}(h:a.length<16777216)(e:v [f,d,Y (LI a),c,b]=Y (.int t)):iL (.sl 2) v [f,d,Y (LI a),c,b]=Y (.nx [f,d,Y (LI (a++[t])),c,b]):=by unfold iL;show Option.bind (v [f,d,Y (LI a),c,b]) _=_;rw[e];show (if (a.map d8.int).length<sizeLine then Y (eY.nx [f,d,Y (.list (a.map d8.int++[.int t])),c,b]) else Z)=_;rw[af (by rw[ay];exact h),show a.map d8.int++[.int t]=(a++[t]).map d8.int by simp]
def HV(f:Fc)(a:List Int)(e c b:Od)(h:a.length<16777216):kr [e,c,Y (LI a),b,Y f.d]=Y (.nx [e,c,Y (LI (j7 a f)),b,Y f.d]):=by
 unfold kr j7;have t:=(M9 f (LI a) e c b).trans (O1 f a);cases q:f.src with
 |none=>rw[q] at t;rw[lp t];rfl
 |some s=>
  rw[q] at t;dsimp only at t;by_cases g:s∈a/\f.t∉a
  ·rw[aK g] at t;rw[oY t,HU h (t:=f.t) (zK 0)];show _=Y (eY.nx [e,c,Y (LI (if s∈a/\f.t∉a then _ else _)),b,Y f.d]);rw[af g]
  ·rw[aV g] at t;rw[lp t];show _=Y (eY.nx [e,c,Y (LI (if s∈a/\f.t∉a then _ else _)),b,Y f.d]);rw[ag g];rfl
def Fb(a:List Int)(f:Fc):(j7 a f).length<=a.length+1:=by
 unfold j7;split
 ·split
  ·simp
  ·omega
 ·omega
theorem Fd(F:List Fc)(r:F.length<=60)(a:List Int)(k j i:Od)(h:a.length<10000000):∃c,jx [Y (FL F),k,Y (LI a),j,i]=Y (.nx [Y (FL F),k,Y (LI (jC F a)),j,c])/\(jC F a).length<=a.length+60:=by
 obtain⟨ρ,m,l,o⟩:=jB (bd:=p6 (.one 4)) (g:=kr) (λn (b:List Int) ρ=>(∃i,ρ=[Y (FL F),k,Y (LI b),j,i])/\b.length<=a.length+n) j7 Fc.d 60
  (λn b f ρ p ⟨⟨i,e⟩,q⟩=>by subst e;have:=Fb b f;exact⟨_,HV f b (Y (FL F)) k j (by omega),⟨_,rfl⟩,by omega⟩) F 0 a [Y (FL F),k,Y (LI a),j,i] (by omega) ⟨⟨_,rfl⟩,by omega⟩
 obtain⟨c,rfl⟩:=l;exact⟨c,m,by unfold jC;omega⟩
theorem pQ(F:List Fc)(m:F.length<=60)(a:List Int)(h:a.length<1000):ig [FL F,LI a]=Y (LI (led F a))/\(led F a).length<=a.length+780:=by
 unfold ig uJ;have q:(gk (fw [2] (gH hV (zQ (cn 1)))) 2) [Y (FL F),Y (LI a),Z,Z,Z]=Y (.nx [Y (FL F),Y (LI a),Y (LI a),Z,Z]):=by kernel_rfl
 obtain⟨ρ,p,j,i⟩:=jB (bd:=p6 (.one 3)) (g:=jx) (λn (b:List Int) ρ=>(∃d c,ρ=[Y (FL F),Y (LI a),Y (LI b),d,c])/\b.length<=a.length+60*n) (λa _=>jC F a) (λk:Nat=>d8.int (0+(k:Nat))) 13
  (λn b k ρ r ⟨⟨d,c,e⟩,s⟩=>by subst e;obtain⟨f,e,l⟩:=Fd F m b (Y (LI a)) (Y (.int (0+(k:Nat)))) c (by omega);exact⟨_,e,⟨_,_,rfl⟩,by omega⟩) (List.range 13) 0 a [Y (FL F),Y (LI a),Y (LI a),Z,Z] (by simp) ⟨⟨_,_,rfl⟩,by omega⟩
 obtain⟨d,c,rfl⟩:=j;refine⟨?_,by unfold led;simp at i;omega⟩;show (rH [Y (FL F),Y (LI a),Z,Z,Z]).bind _=_;unfold rH;rw[ew q];have o:(gL (ph [2] (jq (zI 13))) (.one 3) jx) [Y (FL F),Y (LI a),Y (LI a),Z,Z]=kc (p6 (.one 3)) jx ((List.range 13).map λk:Nat=>d8.int (0+(k:Nat))) [Y (FL F),Y (LI a),Y (LI a),Z,Z]:=by kernel_rfl
 rw[ew (o.trans p)];rfl
noncomputable def PR:d8:=(.dict [(.none,(.str "Program")),((.str "text"),(.str "kind ka fields f g\nfunc fa p keeps k\nnew x ka\nrow y\nfunc z fa x\nnew p ka\nrow z\nfunc x fa z\ngive x\nend\nmain\nnew x ka\nrow y\nfunc z fa x\nnew p ka\nrow z\nfunc x fa z\nend")),((.str "numbered"),(.dict [((.int 0),(.tuple [(.int 2),(.list [(.str "new"),(.str "x"),(.str "ka")]),(.str "fa")])),((.int 1),(.tuple [(.int 3),(.list [(.str "row"),(.str "y")]),(.str "fa")])),((.int 2),(.tuple [(.int 4),(.list [(.str "func"),(.str "z"),(.str "fa"),(.str "x")]),(.str "fa")])),((.int 3),(.tuple [(.int 5),(.list [(.str "new"),(.str "p"),(.str "ka")]),(.str "fa")])),((.int 4),(.tuple [(.int 6),(.list [(.str "row"),(.str "z")]),(.str "fa")])),((.int 5),(.tuple [(.int 7),(.list [(.str "func"),(.str "x"),(.str "fa"),(.str "z")]),(.str "fa")])),((.int 6),(.tuple [(.int 8),(.list [(.str "give"),(.str "x")]),(.str "fa")])),((.int 7),(.tuple [(.int 11),(.list [(.str "new"),(.str "x"),(.str "ka")]),(.str "main")])),((.int 8),(.tuple [(.int 12),(.list [(.str "row"),(.str "y")]),(.str "main")])),((.int 9),(.tuple [(.int 13),(.list [(.str "func"),(.str "z"),(.str "fa"),(.str "x")]),(.str "main")])),((.int 10),(.tuple [(.int 14),(.list [(.str "new"),(.str "p"),(.str "ka")]),(.str "main")])),((.int 11),(.tuple [(.int 15),(.list [(.str "row"),(.str "z")]),(.str "main")])),((.int 12),(.tuple [(.int 16),(.list [(.str "func"),(.str "x"),(.str "fa"),(.str "z")]),(.str "main")]))])),((.str "body_texts"),(.list [(.str "fa"),(.str "main")]))])
noncomputable def OL:d8:=(.dict [(.none,(.str "Outline")),((.str "rows"),(.list [(.dict [(.none,(.str "Row")),((.str "word"),(.str "new")),((.str "condition"),.none),((.str "x"),(.str "x")),((.str "y"),.none),((.str "kind"),(.str "ka")),((.str "field"),.none),((.str "method"),.none),((.str "function"),.none),((.str "handed"),(.list [])),((.str "names"),(.list [(.str "x")]))]),(.dict [(.none,(.str "Row")),((.str "word"),(.str "row")),((.str "condition"),.none),((.str "x"),(.str "y")),((.str "y"),.none),((.str "kind"),.none),((.str "field"),.none),((.str "method"),.none),((.str "function"),.none),((.str "handed"),(.list [])),((.str "names"),(.list [(.str "y")]))]),(.dict [(.none,(.str "Row")),((.str "word"),(.str "func")),((.str "condition"),.none),((.str "x"),(.str "z")),((.str "y"),.none),((.str "kind"),.none),((.str "field"),.none),((.str "method"),.none),((.str "function"),(.str "fa")),((.str "handed"),(.list [(.str "x")])),((.str "names"),(.list [(.str "z"),(.str "x")]))]),(.dict [(.none,(.str "Row")),((.str "word"),(.str "new")),((.str "condition"),.none),((.str "x"),(.str "p")),((.str "y"),.none),((.str "kind"),(.str "ka")),((.str "field"),.none),((.str "method"),.none),((.str "function"),.none),((.str "handed"),(.list [])),((.str "names"),(.list [(.str "p")]))]),(.dict [(.none,(.str "Row")),((.str "word"),(.str "row")),((.str "condition"),.none),((.str "x"),(.str "z")),((.str "y"),.none),((.str "kind"),.none),((.str "field"),.none),((.str "method"),.none),((.str "function"),.none),((.str "handed"),(.list [])),((.str "names"),(.list [(.str "z")]))]),(.dict [(.none,(.str "Row")),((.str "word"),(.str "func")),((.str "condition"),.none),((.str "x"),(.str "x")),((.str "y"),.none),((.str "kind"),.none),((.str "field"),.none),((.str "method"),.none),((.str "function"),(.str "fa")),((.str "handed"),(.list [(.str "z")])),((.str "names"),(.list [(.str "x"),(.str "z")]))]),(.dict [(.none,(.str "Row")),((.str "word"),(.str "give")),((.str "condition"),.none),((.str "x"),(.str "x")),((.str "y"),.none),((.str "kind"),.none),((.str "field"),.none),((.str "method"),.none),((.str "function"),.none),((.str "handed"),(.list [])),((.str "names"),(.list [(.str "x")]))]),(.dict [(.none,(.str "Row")),((.str "word"),(.str "new")),((.str "condition"),.none),((.str "x"),(.str "x")),((.str "y"),.none),((.str "kind"),(.str "ka")),((.str "field"),.none),((.str "method"),.none),((.str "function"),.none),((.str "handed"),(.list [])),((.str "names"),(.list [(.str "x")]))]),(.dict [(.none,(.str "Row")),((.str "word"),(.str "row")),((.str "condition"),.none),((.str "x"),(.str "y")),((.str "y"),.none),((.str "kind"),.none),((.str "field"),.none),((.str "method"),.none),((.str "function"),.none),((.str "handed"),(.list [])),((.str "names"),(.list [(.str "y")]))]),(.dict [(.none,(.str "Row")),((.str "word"),(.str "func")),((.str "condition"),.none),((.str "x"),(.str "z")),((.str "y"),.none),((.str "kind"),.none),((.str "field"),.none),((.str "method"),.none),((.str "function"),(.str "fa")),((.str "handed"),(.list [(.str "x")])),((.str "names"),(.list [(.str "z"),(.str "x")]))]),(.dict [(.none,(.str "Row")),((.str "word"),(.str "new")),((.str "condition"),.none),((.str "x"),(.str "p")),((.str "y"),.none),((.str "kind"),(.str "ka")),((.str "field"),.none),((.str "method"),.none),((.str "function"),.none),((.str "handed"),(.list [])),((.str "names"),(.list [(.str "p")]))]),(.dict [(.none,(.str "Row")),((.str "word"),(.str "row")),((.str "condition"),.none),((.str "x"),(.str "z")),((.str "y"),.none),((.str "kind"),.none),((.str "field"),.none),((.str "method"),.none),((.str "function"),.none),((.str "handed"),(.list [])),((.str "names"),(.list [(.str "z")]))]),(.dict [(.none,(.str "Row")),((.str "word"),(.str "func")),((.str "condition"),.none),((.str "x"),(.str "x")),((.str "y"),.none),((.str "kind"),.none),((.str "field"),.none),((.str "method"),.none),((.str "function"),(.str "fa")),((.str "handed"),(.list [(.str "z")])),((.str "names"),(.list [(.str "x"),(.str "z")]))])])),((.str "homes"),(.list [(.str "fa"),(.str "fa"),(.str "fa"),(.str "fa"),(.str "fa"),(.str "fa"),(.str "fa"),(.str "main"),(.str "main"),(.str "main"),(.str "main"),(.str "main"),(.str "main")])),((.str "table"),(.dict [((.str "ka"),(.tuple [.none,(.list [(.str "f"),(.str "g")])]))])),((.str "heads"),(.dict [((.str "fa"),(.list [(.str "func"),(.str "fa"),(.str "p"),(.str "keeps"),(.str "k")])),((.str "main"),(.list [(.str "main")]))])),((.str "params"),(.dict [((.str "fa"),(.list [(.str "p")])),((.str "main"),(.list []))])),((.str "kept"),(.dict [((.str "fa"),(.list [(.str "k")])),((.str "main"),(.list []))])),((.str "own_rows"),(.dict [((.str "fa"),(.list [(.int 0),(.int 1),(.int 2),(.int 3),(.int 4),(.int 5),(.int 6)])),((.str "main"),(.list [(.int 7),(.int 8),(.int 9),(.int 10),(.int 11),(.int 12)]))])),((.str "fields"),(.dict [((.str "ka"),(.list [(.str "f"),(.str "g")]))]))])
def O2:jW []=Y PR:=by kernel_rfl
def Ln:nM "Outline" 2 fW (λ_=>Y [PR]) []=Y OL:=by kernel_rfl
noncomputable def zb(m:Bool):d8:=.list (if m then [] else [.str "p",.str "k"])
def Kn(m:Bool)(f:Fc)(e c a:Od):(kb (fB (d2 jE (zX (cn 5) (zI 0)) (zA "holds"))) (pT (gI 3 kL (ee (zX (cn 5) (zI 1)) (ee (cn 2) (zQ (cn 4))))))) [e,c,Y (.str (eS m)),a,Y (zb m),Y f.d]=Y (f.op m):=by
 cases f with
 |loc i t=>cases i<;>cases m<;>kernel_rfl
 |Kk b t=>cases b<;>cases m<;>kernel_rfl
 |fld g s t=>cases g<;>cases m<;>kernel_rfl
 |each s t=>cases m<;>kernel_rfl
 |kept s t=>cases m<;>kernel_rfl
def Na{a:List Int}{t:Int}{g f d c b:Od}{v:d9->Od}(h:a.length<16777216)(e:v [g,f,d,Y (LI a),c,b]=Y (.int t)):iL (.sl 3) v [g,f,d,Y (LI a),c,b]=Y (.nx [g,f,d,Y (LI (a++[t])),c,b]):=by unfold iL;show Option.bind (v [g,f,d,Y (LI a),c,b]) _=_;rw[e];show (if (a.map d8.int).length<sizeLine then Y (eY.nx [g,f,d,Y (.list (a.map d8.int++[.int t])),c,b]) else Z)=_;rw[af (by rw[ay];exact h),show a.map d8.int++[.int t]=(a++[t]).map d8.int by simp]
def Ko(m:Bool)(f:Fc)(a:List Int)(c b:Od)(h:a.length<1000):gO [c,b,Y (.str (eS m)),Y (LI a),Y (zb m),Y f.d]=Y (.nx [c,b,Y (.str (eS m)),Y (LI (if f.op m then a++[f.t] else a)),Y (zb m),Y f.d]):=by
 unfold gO;have t:=Kn m f c b (Y (LI a));cases q:f.op m
 ·rw[lp (t.trans (by rw[q]))];rfl
 ·rw[oY (t.trans (by rw[q])),Na (t:=f.t) (by omega) (zK 0)];rfl
def Kp(F:List Fc)(m:Bool):(gk (fw [3,4] (js (o9 (gI 1 lC (zQ (cn 0)))) [(2,"body"),(0,"outline")] lh lj)) 3) [Y OL,Y (FL F),Y (.str (eS m)),Z,Z,Z]=Y (.nx [Y OL,Y (FL F),Y (.str (eS m)),Y (LI (base m)),Z,Z]):=by cases m<;>kernel_rfl
def HW(F:List Fc)(m:Bool)(x:d8):(gk (fw [3,4] (d2 xn (zX (gJ ["Outline"] "params" (cn 0)) (cn 2)) (zX (gJ ["Outline"] "kept" (cn 0)) (cn 2)))) 4) [Y OL,Y (FL F),Y (.str (eS m)),Y x,Z,Z]=Y (.nx [Y OL,Y (FL F),Y (.str (eS m)),Y x,Y (zb m),Z]):=by cases m<;>kernel_rfl
def Kq(F:List Fc)(m:Bool)(x:d8):(il (pT (gI 1 jO (zQ (cn 2))))
(iL (.sl 4) (fw [3,4] (zA "self")))
fx) [Y OL,Y (FL F),Y (.str (eS m)),Y x,Y (zb m),Z]=Y (.nx [Y OL,Y (FL F),Y (.str (eS m)),Y x,Y (zb m),Z]):=by cases m<;>kernel_rfl
theorem Bc(F:List Fc)(m:Bool)(l:F.length<=60):fL [OL,FL F,.str (eS m)]=Y (LI (eX F m)):=by
 unfold fL uJ;show (kM [Y OL,Y (FL F),Y (.str (eS m)),Z,Z,Z]).bind _=_;unfold kM;rw[ew (Kp F m),ew (HW F m _),ew (Kq F m _)];obtain⟨ρ,h,c,i⟩:=jB (bd:=p6 (.one 5)) (g:=gO) (λn (a:List Int) ρ=>(∃b,ρ=[Y OL,Y (FL F),Y (.str (eS m)),Y (LI a),Y (zb m),b])/\a.length<=6+n) (λa f=>if f.op m then a++[f.t] else a) Fc.d 60
  (λn a f ρ j ⟨⟨b,e⟩,k⟩=>by
   subst e;refine⟨_,Ko m f a (Y OL) (Y (FL F)) (by omega),⟨_,rfl⟩,?_⟩;split
   ·simp;omega
   ·omega) F 0 (base m) [Y OL,Y (FL F),Y (.str (eS m)),Y (LI (base m)),Y (zb m),Z] (by omega) ⟨⟨_,rfl⟩,by cases m<;>decide⟩
 obtain⟨b,rfl⟩:=c;rw[ew (show (gL (ph [3,4] (iC (cn 1))) (.one 5) gO) [Y OL,Y (FL F),Y (.str (eS m)),Y (LI (base m)),Y (zb m),Z]=_ from h),n7];rfl
noncomputable def kT(k t:Int):List (Int×List Int)->List (Int×List Int)
 |[]=>[(k,[t])]
 | (y,l)::r=>if y=k then (y,l++[t])::r else (y,l)::kT k t r
noncomputable def iD(k:Int):List (Int×List Int)->Option (List Int)
 |[]=>Z
 | (y,l)::r=>if y=k then Y l else iD k r
noncomputable abbrev zc(x:Int×List Int):d8×d8:=(.int x.1,LI x.2)
noncomputable abbrev dW(W:List (Int×List Int)):d8:=.dict (W.map zc)
noncomputable def wJ(k:Int)(W:List (Int×List Int)):List Int:=(iD k W).getD []
def ze(W:List (Int×List Int)):eT (W.map zc)=false:=by cases W<;>rfl
def rR(a b:Int):iA (.int a) (.int b)=decide (a=b):=rfl
theorem zf(k:Int):∀W:List (Int×List Int),iU (.int k) (W.map zc)=(iD k W).map LI
 |[]=>rfl
 | (y,l)::r=>by
  rw[az,iU,rR,iD];by_cases h:y=k
  ·rw[af (aK h),af h];rfl
  ·rw[ag (by rw[bu];exact h),ag h,zf k r]
theorem Lo(k:Int):∀W:List (Int×List Int),((W.map zc).any λx=>iA x.1 (.int k))=(iD k W).isSome
 |[]=>rfl
 | (y,l)::r=>by
  rw[az,bM,Lo k r,iD];show (decide (y=k)||_)=_;by_cases h:y=k
  ·rw[aK h,af h];rfl
  ·rw[aV h,ag h];rfl
theorem Lq{k t:Int}{l:List Int}:∀{W:List (Int×List Int)},iD k W=Y l->Ao (.int k) (LI (l++[t])) (W.map zc)=(kT k t W).map zc
 |[],h=>by cases h
 | (y,a)::r,h=>by
  unfold iD at h;rw[az,Ao,rR,kT];by_cases e:y=k
  ·rw[af e] at h;cases h;rw[af (aK e),af e];rfl
  ·rw[ag e] at h;rw[ag (by rw[bu];exact e),ag e,Lq h];rfl
theorem Bd{k:Int}:∀{W:List (Int×List Int)},iD k W=Z->iD k (W++[(k,[])])=Y []/\∀t,kT k t (W++[(k,[])])=kT k t W
 |[],_=>by
  refine⟨?_,λt=>?_⟩
  ·show (if k=k then Y [] else _)=_;rw[af rfl]
  ·show (if k=k then [(k,[]++[t])] else _)=_;rw[af rfl];rfl
 | (y,l)::r,h=>by
  unfold iD at h;by_cases e:y=k
  ·rw[af e] at h;cases h
  ·rw[ag e] at h;obtain⟨b,a⟩:=Bd h;refine⟨?_,λt=>?_⟩
   ·show (if y=k then _ else iD k (r++[(k,[])]))=_;rw[ag e,b]
   ·show (if y=k then _ else (y,l)::kT k t (r++[(k,[])]))=if y=k then _ else (y,l)::kT k t r
    rw[ag e,ag e,a]
theorem Be(j k t:Int):∀W:List (Int×List Int),wJ j (kT k t W)=if j=k then wJ j W++[t] else wJ j W
 |[]=>by
  unfold wJ kT iD;by_cases e:j=k
  ·rw[af e,af e.symm];rfl
  ·rw[ag e,ag (Ne.symm e)];rfl
 | (y,l)::r=>by
  have a:=Be j k t r;unfold wJ at a ⊢;unfold kT;by_cases e:y=k
  ·rw[af e];unfold iD;by_cases h:j=k
   ·rw[af h,af (e.trans h.symm),af (e.trans h.symm)];rfl
   ·rw[ag h,ag (λz=>h (z.symm.trans e)),ag (λz=>h (z.symm.trans e))]
  ·rw[ag e];unfold iD;by_cases h:y=j
   ·rw[af h,af h,ag (λz=>e (h.trans z))]
   ·rw[ag h,ag h];exact a
def Rq(k:Int)(W:List (Int×List Int)):jK (.int k) (dW W)=Y (iD k W).isSome:=by show (if eT (W.map zc)=true then Z else (kF (.int k)).map λ_=>(iU (.int k) (W.map zc)).isSome)=_;rw[ze,ag (by decide),zf,cY];rfl
def DS{W:List (Int×List Int)}{k t:Int}{l:List Int}(h:iD k W=Y l)(c:l.length<10000):Cg (.sl 0) (fw [0,99] (cn 1)) (fw [0,99] (cn 2)) [Y (dW W),Y (.int k),Y (.int t)]=Y (.nx [Y (dW (kT k t W)),Y (.int k),Y (.int t)]):=by
 have b:Cf (dW W) (.int k)=Y (l.map .int):=by show (if eT (W.map zc)=true then Z else (kF (.int k)).bind λ_=>OP (iU (.int k) (W.map zc)))=_;rw[ze,ag (by decide),zf,h];rfl
 show (Cf (dW W) (.int k)).bind (λus=>if us.length<sizeLine then Y (eY.nx [Y (xo (dW W) (.int k) (us++[.int t])),Y (.int k),Y (.int t)]) else Z)=_;rw[b,aA,af (by rw[ay];exact(by omega:l.length<16777216))];have a:xo (dW W) (.int k) (l.map d8.int++[.int t])=dW (kT k t W):=by show d8.dict (Ao (.int k) (.list (l.map d8.int++[.int t])) (W.map zc))=_;rw[show l.map d8.int++[.int t]=(l++[t]).map d8.int by simp,Lq h]
 rw[a]
def Nb(W:List (Int×List Int))(k t:Int)(g:W.length<10000)(c:∀l,iD k W=Y l->l.length<10000):lX [dW W,.int k,.int t]=Y (.none,dW (kT k t W)):=by
 unfold lX lO;show (vn [Y (dW W),Y (.int k),Y (.int t)]).bind _=_;unfold vn;have a:(fB (d2 ja (cn 1) (cn 0))) [Y (dW W),Y (.int k),Y (.int t)]=Y (!(iD k W).isSome):=by show fB (λ_=>(jK (.int k) (dW W)).map λb=>.bool (!b)) []=_;rw[Rq];rfl
 cases h:iD k W with
 |some l=>rw[h] at a;rw[ew ((lp a).trans (show fx _=Y (eY.nx [Y (dW W),Y (.int k),Y (.int t)]) from rfl)),DS h (c l h)];rfl
 |none=>
  rw[h] at a;obtain⟨f,d⟩:=Bd h;have e:(GP (.sl 0) (fw [0,99] (cn 1)) (fw [0,99] (fZ fy))) [Y (dW W),Y (.int k),Y (.int t)]=Y (.nx [Y (dW (W++[(k,[])])),Y (.int k),Y (.int t)]):=by show (if (W.map zc).length<sizeLine/\eT (W.map zc)=false/\true=true/\((W.map zc).any λx=>iA x.1 (.int k))=false then Y (eY.nx [Y (.dict (W.map zc++[(.int k,.list [])])),Y (.int k),Y (.int t)]) else Z)=_;rw[af ⟨by rw[ay];exact(by omega:W.length<16777216),ze W,rfl,by rw[Lo,h];rfl⟩,show W.map zc++[(.int k,.list [])]=(W++[(k,[])]).map zc by simp]
  rw[ew ((oY a).trans e),DS f (by simp),d];rfl
noncomputable def vL(W:List (Int×List Int))(f:Fc):List (Int×List Int):=match f.src with
 |some s=>kT s f.t W
 |none=>W
noncomputable def hE(F:List Fc):List (Int×List Int):=F.foldl vL []
noncomputable def o2(F:List Fc)(s:Int):List Int:=(F.filter λf=>f.src==Y s).map Fc.t
theorem xF(s:Int):∀(F:List Fc) (W:List (Int×List Int)),wJ s (F.foldl vL W)=wJ s W++o2 F s
 |[],W=>by simp[o2]
 |f::F,W=>by
  rw[List.foldl_cons,xF s F];unfold vL o2;cases h:f.src with
  |none=>simp[h]
  |some j=>
   show wJ s (kT j f.t W)++_=_;rw[Be,cK,h];by_cases e:s=j
   ·rw[af e,af (by simp[e])];simp
   ·rw[ag e,ag (by simpa using Ne.symm e)]
def HX(F:List Fc)(s:Int):wJ s (hE F)=o2 F s:=by unfold hE;rw[xF];rfl
theorem zh{n:Nat}(k t:Int):∀{W:List (Int×List Int)},W.length<=n->(∀x∈W,x.2.length<=n)->(kT k t W).length<=n+1/\∀x∈kT k t W,x.2.length<=n+1
 |[],_,_=>by unfold kT;refine⟨by simp,λx a=>?_⟩;rw[aS.mp a];simp
 | (y,l)::r,h1,h2=>by
  unfold kT;have d:=h2 _ (.head _);split
  ·refine⟨by simp at h1 ⊢;omega,λx a=>?_⟩;rcases ak.mp a with rfl|a
   ·simp at d ⊢;omega
   ·have:=h2 x (.tail _ a);omega
  ·have c:=zh (n:=n) k t (W:=r) (by simp at h1;omega) λx a=>h2 x (.tail _ a);cases n with
   |zero=>simp at h1
   |succ n=>
    have b:=zh (n:=n) k t (W:=r) (by simp at h1;omega);refine⟨?_,λx a=>?_⟩
    ·have:(kT k t r).length<=r.length+1:=by
      clear c b h1 h2 d;induction r with
      |nil=>simp[kT]
      |cons z r c=>obtain⟨f,e⟩:=z;unfold kT;split<;>simp<;>omega
     simp at h1 ⊢;omega
    ·rcases ak.mp a with rfl|a
     ·simp at d ⊢;omega
     ·exact c.2 x a
theorem Bf{k:Int}{l:List Int}:∀{W:List (Int×List Int)},iD k W=Y l->(k,l)∈W
 |[],h=>by cases h
 | (y,a)::r,h=>by
  unfold iD at h;split at h
  ·rename_i e;cases h;rw[e];exact .head _
  ·exact .tail _ (Bf h)
def Kr(f:Fc)(c a:Od):(kb (fB (d2 jE (zX (cn 2) (zI 0)) (zA "holds"))) (fB (d2 r9 (zX (zX (cn 2) (zI 1)) (zI 0)) (ia (zC "field" (zC "each" (zC "kept" fy))))))) [c,a,Y f.d]=Y f.src.isSome:=by
 cases f with
 |loc i t=>cases i<;>kernel_rfl
 |Kk b t=>cases b<;>kernel_rfl
 |fld g s t=>cases g<;>kernel_rfl
 |each s t=>kernel_rfl
 |kept s t=>kernel_rfl
def Ks(f:Fc){s:Int}(h:f.src=Y s)(y:d8)(a:Od):(yl (se [1,99] 1 3 lX (ee (zX (zX (cn 2) (zI 1)) (zI 1)) (zQ (zX (zX (cn 2) (zI 2)) (zI 0)))))) [a,Y y,Y f.d]=(((lX [y,.int s,.int f.t]).bind λr=>if lN r.1=true then Y (r.1,[a,Y r.2,Y f.d]) else Z).map λr=>eY.nx r.2):=by
 cases f with
 |loc i t=>cases h
 |Kk b t=>cases h
 |fld g s t=>cases h;kernel_rfl
 |each s t=>cases h;kernel_rfl
 |kept s t=>cases h;kernel_rfl
def Kt(f:Fc)(W:List (Int×List Int))(a:Od)(n:Nat)(e:n<1000)(g:W.length<=n)(c:∀x∈W,x.2.length<=n):gz [a,Y (dW W),Y f.d]=Y (.nx [a,Y (dW (vL W f)),Y f.d]):=by
 unfold gz vL;have t:=Kr f a (Y (dW W));cases h:f.src with
 |none=>rw[h] at t;rw[lp t];rfl
 |some s=>rw[h] at t;rw[oY t,Ks f h,Nb W s f.t (by omega) λl b=>by have:=c _ (Bf b);simp at this;omega];rfl
theorem xG(F:List Fc)(o:F.length<=60):fD [FL F]=Y (dW (hE F)):=by
 unfold fD f7;show (kg [Y (FL F),Z,Z]).bind _=_;unfold kg;rw[ew (show (GN (fw [1,99] (dC (.dict []))) 1) [Y (FL F),Z,Z]=Y (.nx [Y (FL F),Y (dW []),Z]) by kernel_rfl)];obtain⟨ρ,j,h,l⟩:=jB (bd:=p6 (.one 2)) (g:=gz) (λn (W:List (Int×List Int)) ρ=>(∃b,ρ=[Y (FL F),Y (dW W),b])/\W.length<=n/\∀x∈W,x.2.length<=n) vL Fc.d 60
  (λn W f ρ m ⟨⟨b,e⟩,c,a⟩=>by
   subst e;refine⟨_,Kt f W (Y (FL F)) n (by omega) c a,⟨_,rfl⟩,?_⟩;unfold vL;split
   ·exact zh _ _ c a
   ·exact⟨by omega,λx i=>by have:=a x i;omega⟩) F 0 [] [Y (FL F),Y (dW []),Z] (by omega) ⟨⟨_,rfl⟩,by simp,by simp⟩
 obtain⟨k,rfl⟩:=h;rw[ew (show (gL (ph [1,99] (iC (cn 0))) (.one 2) gz) [Y (FL F),Y (dW []),Z]=_ from j)];rfl
noncomputable abbrev Bg(k:Int):d8×d8:=(.int k,.bool true)
noncomputable abbrev dO(a:List Int):d8:=.dict (a.map Bg)
def zj(a:List Int):eT (a.map Bg)=false:=by cases a<;>rfl
theorem HY(k:Int):∀a:List Int,(iU (.int k) (a.map Bg)).isSome=decide (k∈a)
 |[]=>rfl
 |y::r=>by
  rw[az,iU,rR];by_cases h:y=k
  ·rw[af (aK h),aK (by rw[h];exact .head _)];rfl
  ·rw[ag (by rw[bu];exact h),HY k r];have:k∈y::r↔k∈r:=by rw[ak];exact⟨λz=>z.resolve_left (Ne.symm h),.inr⟩
   simp[this]
def O3(k:Int)(a:List Int):jK (.int k) (dO a)=Y (decide (k∈a)):=by show (if eT (a.map Bg)=true then Z else (kF (.int k)).map λ_=>(iU (.int k) (a.map Bg)).isSome)=_;rw[zj,ag (by decide),HY];rfl
def O4(k:Int)(a:List Int):((a.map Bg).any λx=>iA x.1 (.int k))=decide (k∈a):=by
 rw[List.any_map,Bool.eq_iff_iff,List.any_eq_true,bu];constructor
 ·rintro⟨x,b,e⟩;have:x=k:=by simpa [iA] using e
  rw[<-this];exact b
 ·intro h;exact⟨k,h,by simp[iA]⟩
noncomputable def mJ(a:List Int)(k:Int):List Int:=if k∈a then a else a++[k]
def Ls(k:Int)(a:List Int)(h:a.length<10000):yg (.int k) (.bool true) (dO a)=Y (dO (mJ a k)):=by
 show (if (a.map Bg).length<sizeLine/\eT (a.map Bg)=false then (kF (.int k)).map (λ_=>d8.dict (BV (.int k) (.bool true) (a.map Bg))) else Z)=_;rw[af ⟨by rw[ay];exact(by omega:a.length<16777216),zj a⟩];show Y (d8.dict (BV (.int k) (.bool true) (a.map Bg)))=_;unfold BV mJ;rw[O4];by_cases b:k∈a
 ·rw[af (aK b),af b,c6];refine bg (λz=>Y (d8.dict z)) (d6 λx _=>?_);show (if iA (.int x) (.int k)=true then _ else _)=_;split<;>rfl
 ·rw[ag (by simp[b]),ag b];show _=Y (d8.dict ((a++[k]).map Bg));rw[bC];rfl
def HZ(F:List Fc)(k:Int):nJ (dW (hE F)) (.int k) (.list [])=Y (LI (o2 F k)):=by show (if eT ((hE F).map zc)=true then Z else (kF (.int k)).bind λ_=>Y ((iU (.int k) ((hE F).map zc)).getD (.list [])))=_;rw[ze,ag (by decide),zf,<-HX];unfold wJ;cases iD k (hE F)<;>rfl
noncomputable def mK(x:Int):Prop:=∃k:Nat,k<13/\x=(k:Int)
noncomputable def Fc.Ok(f:Fc):Prop:=mK f.t/\∀s,f.src=Y s->mK s
def CN{F:List Fc}(h:∀f∈F,f.Ok){s x:Int}(a:x∈o2 F s):mK x:=by obtain⟨f,b,rfl⟩:=aJ.mp a;exact(h f (bT.mp b).1).1
theorem zk(F:List Fc)(s:Int):(o2 F s).length<=F.length:=by unfold o2;rw[ay];exact List.length_filter_le _ _
noncomputable def Cl(F:List Fc)(P:Int->Prop):Prop:=∀s x,P s->x∈o2 F s->P x
structure Lu (F:List Fc) (S os l:List Int):Prop where
 nd:os.Nodup
 so:∀x∈os,mK x
 sl:∀x∈l,mK x
 st:∀x∈S,x∈os\/x∈l
 cl:∀s∈os,∀x∈o2 F s,x∈os\/x∈l
 mn:∀P,Cl F P->(∀x∈S,P x)->∀x,x∈os\/x∈l->P x
noncomputable def rest(F:List Fc)(a:List Int):Nat:=((List.range 13).map λk:Nat=>if (k:Int)∈a then 0 else (o2 F k).length).sum
theorem DT(f g:Nat->Nat)(k c:Nat)(b:g k+c=f k)(h:∀j,j≠k->g j=f j):∀l:List Nat,l.Nodup->k∈l->(l.map g).sum+c=(l.map f).sum
 |[],_,hk=>by cases hk
 |j::l,nd,hk=>by
  rw[bp] at nd;rw[az,az,List.sum_cons,List.sum_cons];by_cases e:j=k
  ·subst e;have:l.map g=l.map f:=d6 λi a=>h i λz=>nd.1 (z▸a);rw[this];omega
  ·have:=DT f g k c b h l nd.2 ((ak.mp hk).resolve_left (Ne.symm e));rw[h j e];omega
def H0{F:List Fc}{a:List Int}{k:Int}(c:mK k)(h:k∉a):rest F (a++[k])+(o2 F k).length=rest F a:=by
 obtain⟨n,b,rfl⟩:=c;refine DT (λj:Nat=>if (j:Int)∈a then 0 else (o2 F j).length) (λj:Nat=>if (j:Int)∈a++[(n:Int)] then 0 else (o2 F j).length) n _ ?_ (λj d=>?_) (List.range 13) List.nodup_range (List.mem_range.mpr b)
 ·rw[af (by simp),ag h];omega
 ·have:(j:Int)∈a++[(n:Int)]↔(j:Int)∈a:=by
   rw[aC,aS];exact⟨λz=>z.resolve_right λz=>d (by omega),.inl⟩
  simp only[this]
def Fe{F:List Fc}{S:List Int}(h:∀x∈S,mK x):Lu F S [] S:=⟨dD,by simp,h,λx a=>.inr a,by simp,λP _ b x a=>a.elim (λz=>by cases z) (b x)⟩
def Ku{F:List Fc}{S b l:List Int}{k:Int}(c:Lu F S b (l++[k]))(f:k∈b):Lu F S b l:=by
 have d:∀x,x∈b\/x∈l++[k]->x∈b\/x∈l:=λx a=>by
  rcases a with a|a
  ·exact .inl a
  ·rcases aC.mp a with a|a
   ·exact .inr a
   ·rw[aS.mp a];exact .inl f
 exact⟨c.nd,c.so,λx a=>c.sl x (aw _ a),λx a=>d x (c.st x a),λs e x a=>d x (c.cl s e x a),λP h g x a=>c.mn P h g x (a.imp id λz=>aw _ z)⟩
def Kv{F:List Fc}{S b l:List Int}{k:Int}(n:∀f∈F,f.Ok)(c:Lu F S b (l++[k]))(m:k∉b):Lu F S (b++[k]) (l++o2 F k):=by
 have i:k∈l++[k]:=by simp
 have d:∀x,x∈b\/x∈l++[k]->x∈b++[k]\/x∈l++o2 F k:=λx a=>by
  rcases a with a|a
  ·exact .inl (aw _ a)
  ·rcases aC.mp a with a|a
   ·exact .inr (aw _ a)
   ·exact .inl (ai _ a)
 refine⟨bP.mpr ⟨c.nd,by simp,λx a y j z=>m (by rw[aS] at j;rw[<-j,<-z];exact a)⟩,λx a=>?_,λx a=>?_,λx a=>d x (c.st x a),λs hs x a=>?_,λP g h x a=>?_⟩
 ·rcases aC.mp a with a|a
  ·exact c.so x a
  ·rw[aS.mp a];exact c.sl k i
 ·rcases aC.mp a with a|a
  ·exact c.sl x (aw _ a)
  ·exact CN n a
 ·rcases aC.mp hs with hs|hs
  ·exact d x (c.cl s hs x a)
  ·rw[aS.mp hs] at a;exact .inr (ai _ a)
 ·have e:P k:=c.mn P g h k (.inr i);rcases a with a|a
  ·rcases aC.mp a with a|a
   ·exact c.mn P g h x (.inl a)
   ·rw[aS.mp a];exact e
  ·rcases aC.mp a with a|a
   ·exact c.mn P g h x (.inr (aw _ a))
   ·exact g k x e a
def Kw(l:List Int)(k:Int)(g f c b a h:Od):GR (MT (.sl 5)) 6 [g,f,c,b,a,Y (LI (l++[k])),h]=Y (.nx [g,f,c,b,a,Y (LI l),Y (.int k)]):=by
 have e:((l++[k]).map d8.int)=l.map d8.int++[.int k]:=by simp
 show Option.map _ ((((l++[k]).map d8.int).getLast?).bind λd=>if lN d=true then Y (d,[g,f,c,b,a,Y (.list ((l++[k]).map d8.int).dropLast),h]) else Z)=_;rw[e,List.getLast?_append,List.dropLast_concat];rfl
def H7{F:List Fc}{a l:List Int}{k:Int}(f e c h:Od)(m:a.length<1000)(n:l.length+(o2 F k).length<100000):j4 [f,e,c,Y (dW (hE F)),Y (dO a),Y (LI (l++[k])),h]=Y (.nx [f,e,c,Y (dW (hE F)),Y (dO (mJ a k)),Y (LI (if k∈a then l else l++o2 F k)),Y (.int k)]):=by
 unfold j4;rw[ew (Kw ..)];have t:(fB (d2 ja (cn 6) (cn 4))) [f,e,c,Y (dW (hE F)),Y (dO a),Y (LI l),Y (.int k)]=Y (!decide (k∈a)):=by show fB (λ_=>(jK (.int k) (dO a)).map λb=>.bool (!b)) []=_;rw[O3];rfl
 by_cases g:k∈a
 ·rw[aK g] at t;rw[lp t,af g];unfold mJ;rw[af g];rfl
 ·rw[aV g] at t;rw[oY t,ag g];have j:(vU (.sl 4) (fw [4,5] (cn 6)) (fw [4,5] (dC (.bool true)))) [f,e,c,Y (dW (hE F)),Y (dO a),Y (LI l),Y (.int k)]=Y (.nx [f,e,c,Y (dW (hE F)),Y (dO (mJ a k)),Y (LI l),Y (.int k)]):=by
   show (yg (.int k) (.bool true) (dO a)).map (λi=>eY.nx [f,e,c,Y (dW (hE F)),Y i,Y (LI l),Y (.int k)])=_;rw[Ls k a (by omega)];rfl
  rw[ew j];show (nJ (dW (hE F)) (.int k) (.list [])).bind (λd=>match LI l,d with
   |.list ds,.list es=>if ds.length+es.length<=sizeLine then Y (eY.nx [f,e,c,Y (dW (hE F)),Y (dO (mJ a k)),Y (.list (ds++es)),Y (.int k)]) else Z
   |_,_=>Z)=_
  rw[HZ,aA];show (if (l.map d8.int).length+((o2 F k).map d8.int).length<=sizeLine then Y (eY.nx [f,e,c,Y (dW (hE F)),Y (dO (mJ a k)),Y (.list (l.map d8.int++(o2 F k).map d8.int)),Y (.int k)]) else Z)=_;rw[af (by rw[ay,ay];exact(by omega:l.length+(o2 F k).length<=16777216)),<-bC]
def qH{a b:List Int}(h:∀x,x∈a↔x∈b):fz a=fz b:=by unfold fz;exact List.filter_congr λx _=>decide_eq_decide.mpr (h x)
theorem mM:∀{a:List Int},(∀x∈a,mK x)->i0 (a.map .int)=Y a
 |[],_=>rfl
 |x::a,h=>by obtain⟨k,c,e⟩:=h x (.head _);rw[az,i0,af (by omega),mM λy b=>h y (.tail _ b)];rfl
def Bh(a:List Int)(f:Fc){x:Int}(h:x∈a):x∈j7 a f:=by
 unfold j7;split
 ·split
  ·exact aw _ h
  ·exact h
 ·exact h
theorem qI{x:Int}:∀(F:List Fc) {a:List Int},x∈a->x∈F.foldl j7 a
 |[],_,h=>h
 |f::F,a,h=>qI F (Bh a f h)
def Ia{F:List Fc}{P:Int->Prop}(g:Cl F P){f:Fc}(e:f∈F){a:List Int}(h:∀x∈a,P x):∀x∈j7 a f,P x:=by
 unfold j7;split
 ·rename_i s c;split
  ·rename_i d;intro x b;rcases aC.mp b with b|b
   ·exact h x b
   ·rw[aS.mp b];exact g s f.t (h s d.1) (aJ.mpr ⟨f,bT.mpr ⟨e,by simp[c]⟩,rfl⟩)
  ·exact h
 ·exact h
theorem Bj{F:List Fc}{P:Int->Prop}(b:Cl F P):∀(G:List Fc),(∀f∈G,f∈F)->∀{a:List Int},(∀x∈a,P x)->∀x∈G.foldl j7 a,P x
 |[],_,_,h=>h
 |f::G,hG,a,h=>Bj b G (λg hg=>hG g (.tail _ hg)) (Ia b (hG f (.head _)) h)
def Ff{F:List Fc}{a:List Int}(e:Cl F (·∈a)){f:Fc}(d:f∈F):j7 a f=a:=by
 unfold j7;split
 ·rename_i s c;rw[ag λb=>b.2 (e s f.t b.1 (aJ.mpr ⟨f,bT.mpr ⟨d,by simp[c]⟩,rfl⟩))]
 ·rfl
theorem rS{F:List Fc}{a:List Int}(b:Cl F (·∈a)):∀G:List Fc,(∀f∈G,f∈F)->G.foldl j7 a=a
 |[],_=>rfl
 |f::G,hG=>by rw[List.foldl_cons,Ff b (hG f (.head _))];exact rS b G λg c=>hG g (.tail _ c)
theorem Bk{s t:Int}:∀(G:List Fc) {a:List Int},(∃f∈G,f.src=Y s/\f.t=t)->s∈a->t∈G.foldl j7 a
 |[],_,h,_=>by obtain⟨_,h,_⟩:=h;cases h
 |g::G,a,⟨f,hf,e1,e2⟩,hs=>by
  rw[List.foldl_cons];rcases ak.mp hf with rfl|hf
  ·refine qI G ?_;unfold j7;rw[e1];dsimp only;by_cases h:f.t∈a
   ·rw[ag (λz=>z.2 h),<-e2];exact h
   ·rw[af ⟨hs,h⟩,e2];simp
  ·exact Bk G ⟨f,hf,e1,e2⟩ (Bh a g hs)
theorem rT{α:Type}{p q:α->Bool}(h:∀x,p x=true->q x=true):∀{l:List α},(∃x∈l,q x=true/\p x=false)->(l.filter p).length<(l.filter q).length
 |[],hx=>by obtain⟨_,hx,_⟩:=hx;cases hx
 |y::l,⟨x,hx,h1,c⟩=>by
  have d:∀l:List α,(l.filter p).length<=(l.filter q).length:=by
   intro l;induction l with
   |nil=>exact ax _
   |cons z l a=>
    rw[cK,cK];cases b:p z
    ·cases e:q z<;>simp<;>omega
    ·rw[h z b];simpa using a
  rw[cK,cK];rcases ak.mp hx with rfl|hx
  ·rw[h1,c];have:=d l;simp;omega
  ·have a:=rT h ⟨x,hx,h1,c⟩;cases b:p y
   ·cases e:q y<;>simp<;>omega
   ·rw[h y b];simpa using a
noncomputable abbrev Nn(a:List Int):Nat:=(fz a).length
def Ib{F:List Fc}(n:∀f∈F,f.Ok)(a:List Int):Cl F (·∈a)\/Nn a<Nn (jC F a):=by
 by_cases b:Cl F (·∈a)
 ·exact .inl b
 ·right;obtain⟨s,b⟩:=Classical.not_forall.mp b;obtain⟨t,b⟩:=Classical.not_forall.mp b;obtain⟨i,b⟩:=Classical.not_imp.mp b;obtain⟨h,j⟩:=Classical.not_imp.mp b;obtain⟨f,m,rfl⟩:=aJ.mp h;have c:=bT.mp m;have d:f.t∈jC F a:=Bk F ⟨f,c.1,by simpa using c.2,rfl⟩ i;obtain⟨k,l,e⟩:=(n f c.1).1;refine rT (λx g=>?_) ⟨f.t,?_,aK d,aV j⟩
  ·exact aK (qI F (cq g))
  ·exact aJ.mpr ⟨k,List.mem_range.mpr l,e.symm⟩
theorem xH{F:List Fc}(c:∀f∈F,f.Ok):∀(l:List Nat) (a:List Int) (n:Nat),(Cl F (·∈a)\/n<=Nn a)->Cl F (·∈l.foldl (λa _=>jC F a) a)\/n+l.length<=Nn (l.foldl (λa _=>jC F a) a)
 |[],a,n,h=>h
 |k::l,a,n,h=>by
  rw[List.foldl_cons,aD,show n+(l.length+1)=n+1+l.length by omega];refine xH c l (jC F a) (n+1) ?_;rcases Ib c a with b|d
  ·left;have:jC F a=a:=rS b F λ_ h=>h;rw[this];exact b
  ·rcases h with b|hle
   ·left;have:jC F a=a:=rS b F λ_ h=>h;rw[this];exact b
   ·right;omega
def Ic{a:List Int}(h:13<=Nn a){x:Int}(b:mK x):x∈a:=by
 refine Classical.byContradiction λc=>?_;obtain⟨k,d,e⟩:=b;have:=rT (p:=λk=>decide (k∈a)) (q:=λ_=>true) (l:=(List.range 13).map λk:Nat=>(k:Int)) (λ_ _=>rfl) ⟨x,aJ.mpr ⟨k,List.mem_range.mpr d,e.symm⟩,rfl,aV c⟩;have g:(((List.range 13).map λk:Nat=>(k:Int)).filter λ_=>true).length=13:=by decide
 have f:Nn a=(((List.range 13).map λk:Nat=>(k:Int)).filter λk=>decide (k∈a)).length:=rfl;omega
def Ie{F:List Fc}(b:∀f∈F,f.Ok)(a:List Int):Cl F (·∈led F a):=by
 rcases xH b (List.range 13) a 0 (.inr (bL _)) with h|h
 ·exact h
 ·rw[List.length_range,Nat.zero_add] at h;exact λs x _ c=>Ic (a:=led F a) h (CN b c)
theorem vM{F:List Fc}{x:Int}:∀(l:List Nat) {a:List Int},x∈a->x∈l.foldl (λa _=>jC F a) a
 |[],_,h=>h
 |_::l,_,h=>vM l (qI F h)
def qJ(F:List Fc){a:List Int}{x:Int}(h:x∈a):x∈led F a:=vM _ h
def zm{F:List Fc}{P:Int->Prop}(d:Cl F P){a:List Int}(h:∀x∈a,P x):∀x∈led F a,P x:=by
 have b:∀(l:List Nat) (a:List Int),(∀x∈a,P x)->∀x∈l.foldl (λa _=>jC F a) a,P x:=by
  intro l;induction l with
  |nil=>intro a h;exact h
  |cons k l c=>intro a h;exact c _ (Bj d F (λ_ h=>h) h)
 exact b _ a h
def zo{F:List Fc}(c:∀f∈F,f.Ok){a:List Int}(h:∀x∈a,mK x):∀x∈led F a,mK x:=zm (λ_ _ _ b=>CN c b) h
def xI{F:List Fc}(c:∀f∈F,f.Ok)(m:Bool):∀x∈eX F m,mK x:=λx a=>by
 rcases aC.mp a with a|a
 ·have:∀x∈base m,0<=x/\x<13:=by cases m<;>decide
  have:=this x a;exact⟨x.toNat,by omega,by omega⟩
 ·obtain⟨f,b,rfl⟩:=aJ.mp a;exact(c f (bT.mp b).1).1
def Kx{F:List Fc}(g:∀f∈F,f.Ok){S b:List Int}(c:Lu F S b []):fz b=fz (led F S):=by
 refine qH λx=>⟨λd=>?_,λd=>?_⟩
 ·exact c.mn (·∈led F S) (Ie g S) (λy a=>qJ F a) x (.inl d)
 ·have h:Cl F (·∈b):=λs y e a=>(c.cl s e y a).elim id λz=>by cases z
  exact zm h (λy a=>(c.st y a).elim id λz=>by cases z) x d
theorem Ky{F:List Fc}(r:∀f∈F,f.Ok)(v:F.length<=60){S:List Int}(i g d:Od):∀(n:Nat) (os l:List Int) (a:Od),l.length+rest F os<n->l.length+rest F os<10000->Lu F S os l ->
  ∃b j,nC (pT (cn 5)) j4 n [i,g,d,Y (dW (hE F)),Y (dO os),Y (LI l),a]=Y (.nx [i,g,d,Y (dW (hE F)),Y (dO b),Y (LI []),j])/\Lu F S b []:=by
 intro n;induction n with
 |zero=>intro os l a m _ _;exact absurd m (Nat.not_lt_zero _)
 |succ n p=>
  intro os l a m q c;unfold nC;have t:pT (cn 5) [i,g,d,Y (dW (hE F)),Y (dO os),Y (LI l),a]=Y (!(l.map d8.int).isEmpty):=rfl;rw[t,aA];rcases List.eq_nil_or_concat l with e | ⟨o,k,e⟩
  ·subst e;exact⟨os,a,rfl,c⟩
  ·rw[List.concat_eq_append] at e;subst e;rw[af (by simp)];have u:os.length<=13:=lg c.so c.nd;have w:=zk F k;rw[a6,List.length_singleton] at m q;rw[H7 i g d a (by omega) (by omega),aA];dsimp only;by_cases h:k∈os
   ·rw[af h,show mJ os k=os from af h];exact p os o _ (by omega) (by omega) (Ku c h)
   ·rw[ag h,show mJ os k=os++[k] from ag h];have s:=H0 (F:=F) (c.sl k (by simp)) h;exact p (os++[k]) (o++o2 F k) _ (by rw[a6];omega) (by rw[a6];omega) (Kv r c h)
theorem Kz(F:List Fc)(b:List Int):rest F b<=13*F.length:=by
 unfold rest;have a:∀l:List Nat,(l.map λk:Nat=>if (k:Int)∈b then 0 else (o2 F k).length).sum<=l.length*F.length:=by
  intro l;induction l with
  |nil=>simp
  |cons k l c=>rw[az,List.sum_cons,aD,Nat.succ_mul];have:=zk F k;split<;>omega
 simpa using a (List.range 13)
theorem Fh{F:List Fc}(e:∀f∈F,f.Ok)(b:F.length<=60)(m:Bool):lY [PR,FL F,.str (eS m)]=Y (LI (fz (led F (eX F m)))):=by
 unfold lY f7;show (vv [Y PR,Y (FL F),Y (.str (eS m)),Z,Z,Z,Z]).bind _=_;unfold vv;have n:(fe (fw [4,5] (gI 1 fD (zQ (cn 1)))) 3) [Y PR,Y (FL F),Y (.str (eS m)),Z,Z,Z,Z]=Y (.nx [Y PR,Y (FL F),Y (.str (eS m)),Y (dW (hE F)),Z,Z,Z]):=by show (fD [FL F]).map (λd=>eY.nx [Y PR,Y (FL F),Y (.str (eS m)),Y d,Z,Z,Z])=_;rw[xG F b];rfl
 have l:(gk (fw [4,5] (dC (.dict []))) 4) [Y PR,Y (FL F),Y (.str (eS m)),Y (dW (hE F)),Z,Z,Z]=Y (.nx [Y PR,Y (FL F),Y (.str (eS m)),Y (dW (hE F)),Y (dO []),Z,Z]):=rfl;have k:(gk (fw [4,5] (gI 3 fL (ee (nM "Outline" 2 fW (zQ (cn 0))) (ee (cn 1) (zQ (cn 2)))))) 5) [Y PR,Y (FL F),Y (.str (eS m)),Y (dW (hE F)),Y (dO []),Z,Z]=Y (.nx [Y PR,Y (FL F),Y (.str (eS m)),Y (dW (hE F)),Y (dO []),Y (LI (eX F m)),Z]):=by show Option.bind (((nM "Outline" 2 fW (λ_=>Y [PR]) []).bind λx=>Y [x,FL F,.str (eS m)]).bind λh=>if h.length=3 then fL h else Z) (λd=>if 5<7 then Y (eY.nx [Y PR,Y (FL F),Y (.str (eS m)),Y (dW (hE F)),Y (dO []),Y d,Z]) else Z)=_;rw[Ln,aA,aA,af (show [OL,FL F,d8.str (eS m)].length=3 from rfl),Bc F m b];rfl
 rw[ew n,ew l,ew k];have q:=Kz F [];have p:=pP F m;obtain⟨a,o,j,c⟩:=Ky e b (Y PR) (Y (FL F)) (Y (.str (eS m))) Dr [] (eX F m) Z (by unfold Dr;omega) (by omega) (Fe (xI e m));rw[ew (show uI (pT (cn 5)) j4 _=_ from j)];have i:rE [dO a]=Y (LI (fz a)):=by show (if eT (a.map Bg)=true then Z else (i0 ((a.map Bg).map (·.1))).bind λg=>if g.Nodup then Y (d8.list ((fz g).map .int)) else Z)=_;rw[zj,ag (by decide),show (a.map Bg).map (·.1)=a.map d8.int by rw[c6];rfl,mM c.so,aA,af c.nd]
 show ((rE [dO a]).map eY.rt).bind _=_;rw[i,Kx e c];rfl
theorem n8:∀a b:List Int,d8.eqvAll (a.map .int) (b.map .int)=decide (a=b)
 |[],[]=>rfl
 |[],_::_=>rfl
 |_::_,[]=>rfl
 |x::a,y::b=>by rw[az,az,d8.eqvAll,n8 a b,d8.eqv];by_cases d:x=y<;>by_cases c:a=b<;>simp[d,c]
def KA(a b:List Int):jE (LI a) (LI b)=Y (.bool (decide (a=b))):=by unfold jE;rw[af ⟨W.ke_shaped_ints a,W.ke_shaped_ints b⟩,d8.eqv,n8]
def KC(a b:List Int):ya (LI a) (LI b)=Y (.bool (!decide (a=b))):=by unfold ya;rw[af ⟨W.ke_shaped_ints a,W.ke_shaped_ints b⟩,d8.eqv,n8]
def ox{a:List Int}(h:∀x∈a,mK x):g0 (LI a)=Y (LI (fz a)):=by show (i0 (a.map .int)).map _=_;rw[mM h];rfl
noncomputable def keys(a:List Int):List Int:=a.foldl mJ []
def Ig(a:List Int)(k x:Int):x∈mJ a k↔x∈a\/x=k:=by
 unfold mJ;split
 ·rename_i h;exact⟨.inl,λz=>z.elim id λz=>z▸h⟩
 ·rw[aC,aS]
def Bl(a:List Int)(k:Int):(mJ a k).length<=a.length+1:=by
 unfold mJ;split
 ·omega
 ·simp
def vN(a:List Int)(x:Int):x∈keys a↔x∈a:=by
 have c:∀(a b:List Int),x∈a.foldl mJ b↔x∈b\/x∈a:=by
  intro a;induction a with
  |nil=>intro b;simp
  |cons k a d=>intro b;rw[List.foldl_cons,d,Ig,ak,or_assoc]
 exact(c a []).trans (by simp)
def Ih(a:List Int):(keys a).length<=a.length:=by
 have c:∀(a b:List Int),(a.foldl mJ b).length<=b.length+a.length:=by
  intro a;induction a with
  |nil=>intro b;simp
  |cons k a d=>intro b;have:=d (mJ b k);have:=Bl b k;rw[List.foldl_cons,aD];omega
 exact bc (c a []) (by simp)
def Ii(a:List Int)(h:a.length<=2000):jP [LI a]=Y (dO (keys a)):=by
 unfold jP f7;show (pK [Y (LI a),Z,Z]).bind _=_;unfold pK;rw[ew (show (gk (fw [1] (dC (.dict []))) 1) [Y (LI a),Z,Z]=Y (.nx [Y (LI a),Y (dO []),Z]) from rfl)];obtain⟨ρ,i,d,l⟩:=jB (bd:=p6 (.one 2)) (g:=lD) (λn (b:List Int) ρ=>(∃c,ρ=[Y (LI a),Y (dO b),c])/\b.length<=n) mJ d8.int 2000
  (λn b k ρ m ⟨⟨c,e⟩,o⟩=>by subst e;have:=Bl b k;refine⟨[Y (LI a),Y (dO (mJ b k)),Y (.int k)],?_,⟨_,rfl⟩,by omega⟩;show (yg (.int k) (.bool true) (dO b)).map (λf=>eY.nx [Y (LI a),Y f,Y (.int k)])=_;rw[Ls k b (by omega)];rfl) a 0 [] [Y (LI a),Y (dO []),Z] (by omega) ⟨⟨_,rfl⟩,by simp⟩
 obtain⟨j,rfl⟩:=d;rw[ew (show (gL (ph [1] (iC (cn 0))) (.one 2) lD) [Y (LI a),Y (dO []),Z]=_ from i)];rfl
noncomputable def oQ(F:List Fc)(m:Bool)(a:List Int):List Int:=eX F m++(keys a).flatMap (o2 F)
noncomputable def gU(F:List Fc)(m:Bool)(a:List Int):Bool:=(oQ F m a).all λx=>decide (x∈a)
theorem xJ(F:List Fc):∀(l a:List Int),l.foldl (λa k=>a++o2 F k) a=a++l.flatMap (o2 F)
 |[],a=>by simp
 |k::l,a=>by rw[List.foldl_cons,xJ F l];simp
theorem DU(a:List Int):∀l:List Int,lK jg jh [Y (dO a)] (l.map .int)=Y (l.map λx=>.bool (decide (x∈a)))
 |[]=>rfl
 |x::l=>by
  have b:jh [Y (.int x),Y (dO a)]=Y (.bool (decide (x∈a))):=by show (jK (.int x) (dO a)).map d8.bool=_;rw[O3];rfl
  rw[az,lK,show jg [Y (.int x),Y (dO a)]=Y true from rfl,aA,af rfl,b,aA,DU a l];rfl
theorem Bm:∀l:List Bool,k8 (l.map .bool)=Y l
 |[]=>rfl
 |b::l=>by rw[az,k8,Bm l];rfl
def Ij(F:List Fc)(b:List Int)(k:Int)(g f e c a:Od)(h:b.length+(o2 F k).length<10000000):j5 [g,f,e,c,a,Y (dW (hE F)),Y (LI b),Y (.int k)]=Y (.nx [g,f,e,c,a,Y (dW (hE F)),Y (LI (b++o2 F k)),Y (.int k)]):=by
 show (nJ (dW (hE F)) (.int k) (.list [])).bind (λd=>match LI b,d with
  |.list ds,.list es=>if ds.length+es.length<=sizeLine then Y (eY.nx [g,f,e,c,a,Y (dW (hE F)),Y (.list (ds++es)),Y (.int k)]) else Z
  |_,_=>Z)=_
 rw[HZ,aA];show (if (b.map d8.int).length+((o2 F k).map d8.int).length<=sizeLine then Y (eY.nx [g,f,e,c,a,Y (dW (hE F)),Y (.list (b.map d8.int++(o2 F k).map d8.int)),Y (.int k)]) else Z)=_;rw[af (by rw[ay,ay];exact(by omega:b.length+(o2 F k).length<=16777216)),<-bC]
theorem Fi{F:List Fc}(f:F.length<=60)(m:Bool)(a:List Int)(o:a.length<=2000):lZ [PR,FL F,.str (eS m),LI a]=Y (.bool (gU F m a)):=by
 unfold lZ f7;show (vw [Y PR,Y (FL F),Y (.str (eS m)),Y (LI a),Z,Z,Z,Z]).bind _=_;unfold vw;have u:(fe (fw [6] (gI 1 jP (zQ (cn 3)))) 4) [Y PR,Y (FL F),Y (.str (eS m)),Y (LI a),Z,Z,Z,Z]=Y (.nx [Y PR,Y (FL F),Y (.str (eS m)),Y (LI a),Y (dO (keys a)),Z,Z,Z]):=by show (jP [LI a]).map (λd=>eY.nx [Y PR,Y (FL F),Y (.str (eS m)),Y (LI a),Y d,Z,Z,Z])=_;rw[Ii a o];rfl
 have t:(fe (fw [6] (gI 1 fD (zQ (cn 1)))) 5) [Y PR,Y (FL F),Y (.str (eS m)),Y (LI a),Y (dO (keys a)),Z,Z,Z]=Y (.nx [Y PR,Y (FL F),Y (.str (eS m)),Y (LI a),Y (dO (keys a)),Y (dW (hE F)),Z,Z]):=by show (fD [FL F]).map (λd=>eY.nx [Y PR,Y (FL F),Y (.str (eS m)),Y (LI a),Y (dO (keys a)),Y d,Z,Z])=_;rw[xG F f];rfl
 have s:(gk (fw [6] (gI 3 fL (ee (nM "Outline" 2 fW (zQ (cn 0))) (ee (cn 1) (zQ (cn 2)))))) 6) [Y PR,Y (FL F),Y (.str (eS m)),Y (LI a),Y (dO (keys a)),Y (dW (hE F)),Z,Z]=Y (.nx [Y PR,Y (FL F),Y (.str (eS m)),Y (LI a),Y (dO (keys a)),Y (dW (hE F)),Y (LI (eX F m)),Z]):=by show Option.bind (((nM "Outline" 2 fW (λ_=>Y [PR]) []).bind λx=>Y [x,FL F,.str (eS m)]).bind λi=>if i.length=3 then fL i else Z) (λd=>if 6<8 then Y (eY.nx [Y PR,Y (FL F),Y (.str (eS m)),Y (LI a),Y (dO (keys a)),Y (dW (hE F)),Y d,Z]) else Z)=_;rw[Ln,aA,aA,af (show [OL,FL F,d8.str (eS m)].length=3 from rfl),Bc F m f];rfl
 rw[ew u,ew t,ew s];have v:=Ih a;have w:=pP F m;obtain⟨ρ,h,l,j⟩:=jB (bd:=p6 (.one 7)) (g:=j5) (λn (b:List Int) ρ=>(∃c,ρ=[Y PR,Y (FL F),Y (.str (eS m)),Y (LI a),Y (dO (keys a)),Y (dW (hE F)),Y (LI b),c])/\b.length<=66+60*n) (λb k=>b++o2 F k) d8.int 2000
  (λn b k ρ y ⟨⟨c,e⟩,A⟩=>by subst e;have:=zk F k;exact⟨_,Ij F b k _ _ _ _ _ (by omega),⟨_,rfl⟩,by rw[a6];omega⟩) (keys a) 0 (eX F m) [Y PR,Y (FL F),Y (.str (eS m)),Y (LI a),Y (dO (keys a)),Y (dW (hE F)),Y (LI (eX F m)),Z] (by omega) ⟨⟨_,rfl⟩,by omega⟩
 obtain⟨c,rfl⟩:=l;rw[xJ] at h j;have r:(GX (fw [6] (cn 4)) (.one 7) j5) [Y PR,Y (FL F),Y (.str (eS m)),Y (LI a),Y (dO (keys a)),Y (dW (hE F)),Y (LI (eX F m)),Z]=Y (.nx [Y PR,Y (FL F),Y (.str (eS m)),Y (LI a),Y (dO (keys a)),Y (dW (hE F)),Y (LI (oQ F m a)),c]):=by show (if eT ((keys a).map Bg)=true then Z else (kc (p6 (.one 7)) j5 (((keys a).map Bg).map (·.1)) [Y PR,Y (FL F),Y (.str (eS m)),Y (LI a),Y (dO (keys a)),Y (dW (hE F)),Y (LI (eX F m)),Z]).bind GW)=_;rw[zj,ag (by decide),show ((keys a).map Bg).map (·.1)=(keys a).map d8.int by rw[c6];rfl,h];rfl
 rw[ew r];have q:(js (o9 (cn 6)) [(4,"known")] jg jh) [Y PR,Y (FL F),Y (.str (eS m)),Y (LI a),Y (dO (keys a)),Y (dW (hE F)),Y (LI (oQ F m a)),c]=Y (.list ((oQ F m a).map λx=>.bool (decide (x∈keys a)))):=by show (if ((oQ F m a).map d8.int).length<=sizeLine then (lK jg jh [Y (dO (keys a))] ((oQ F m a).map .int)).map d8.list else Z)=_;rw[af (by rw[ay];exact(by unfold oQ;omega:(oQ F m a).length<=16777216)),DU];rfl
 show (((((js (o9 (cn 6)) [(4,"known")] jg jh) [Y PR,Y (FL F),Y (.str (eS m)),Y (LI a),Y (dO (keys a)),Y (dW (hE F)),Y (LI (oQ F m a)),c]).bind λx=>Y [x]).bind EA).map eY.rt).bind _=_;rw[q,aA,aA];have p:EA [.list ((oQ F m a).map λx=>.bool (decide (x∈keys a)))]=Y (.bool (gU F m a)):=by show (k8 ((oQ F m a).map λx=>.bool (decide (x∈keys a)))).map _=_;rw[show ((oQ F m a).map λx=>d8.bool (decide (x∈keys a)))=((oQ F m a).map λx=>decide (x∈keys a)).map .bool by rw[c6];rfl,Bm];show Y (d8.bool (((oQ F m a).map λx=>decide (x∈keys a)).all id))=_;unfold gU;rw[List.all_map];refine bg (λz=>Y (d8.bool z)) ?_;refine bg (List.all (oQ F m a)) (funext λx=>?_);show decide (x∈keys a)=_;exact decide_eq_decide.mpr (vN a x)
 rw[p];rfl
def oy(F:List Fc)(m:Bool)(a:List Int):gU F m a=true↔(∀x∈eX F m,x∈a)/\Cl F (·∈a):=by
 unfold gU oQ;rw[bD];constructor
 ·intro h;refine⟨λx b=>cq (h x (aw _ b)),λs x c b=>cq (h x (ai _ ?_))⟩;exact List.mem_flatMap.mpr ⟨s,(vN a s).mpr c,b⟩
 ·rintro⟨e,d⟩ x b;rcases aC.mp b with b|b
  ·exact aK (e x b)
  ·obtain⟨s,c,b⟩:=List.mem_flatMap.mp b;exact aK (d s x ((vN a s).mp c) b)
def Bn(F:List Fc)(m:Bool){a b:List Int}(h:∀x,x∈a↔x∈b):gU F m a=gU F m b:=by
 rw[Bool.eq_iff_iff,oy,oy];have c:∀{a b:List Int},(∀x,x∈a↔x∈b)->(∀x∈eX F m,x∈a)/\Cl F (·∈a)->(∀x∈eX F m,x∈b)/\Cl F (·∈b):=λh ⟨g,f⟩=>⟨λx d=>(h x).mp (g x d),λs x e d=>(h x).mp (f s x ((h s).mpr e) d)⟩
 exact⟨c h,c λx=>(h x).symm⟩
def Ik{F:List Fc}(c:∀f∈F,f.Ok){a:List Int}(b:∀x∈a,mK x):fz (led F a)=fz a↔Cl F (·∈a):=by
 constructor
 ·intro e s x i g;have k:x∈led F a:=Ie c a s x (qJ F i) g;have d:=(kK (zo c b)).mpr k;rw[e] at d;exact(kK b).mp d
 ·intro j;exact qH λx=>⟨zm j (λ_ h=>h) x,qJ F⟩
theorem DV(a:List Int)(e d:Od):∀(S:List Int) (f:Od),∃c,kc (p6 (.one 3)) gF (S.map .int) [e,d,Y (LI a),f]=Y (if (S.all λx=>decide (x∈a))=true then .nx [e,d,Y (LI a),c] else .rt (.bool false))
 |[],f=>⟨f,rfl⟩
 |k::S,f=>by
  obtain⟨c,g⟩:=DV a e d S (Y (.int k));refine⟨c,?_⟩;have t:(fB (d2 ja (cn 3) (cn 2))) [e,d,Y (LI a),Y (.int k)]=Y (!decide (k∈a)):=by show fB (λ_=>(jK (.int k) (LI a)).map λb=>d8.bool (!b)) []=_;rw[za];rfl
  rw[az,kc];show Option.bind (gF [e,d,Y (LI a),Y (.int k)]) _=_;unfold gF;rw[List.all_cons];by_cases h:k∈a
  ·rw[aK h] at t ⊢;rw[lp t];exact g
  ·rw[aV h] at t ⊢;rw[oY t];rfl
theorem wK{F:List Fc}(l:∀f∈F,f.Ok)(k:F.length<=60)(m:Bool){a:List Int}(i:∀x∈a,mK x)(n:a.length<1000):iN [FL F,.str (eS m),LI a]=Y (.bool (gU F m a)):=by
 unfold iN f7;show (mH [Y (FL F),Y (.str (eS m)),Y (LI a),Z]).bind _=_;unfold mH;obtain⟨j,e⟩:=DV a (Y (FL F)) (Y (.str (eS m))) (eX F m) Z;have b:(gL (ph [] (iC (gI 2 gN (ee (cn 0) (zQ (cn 1)))))) (.one 3) gF) [Y (FL F),Y (.str (eS m)),Y (LI a),Z]=Y (if ((eX F m).all λx=>decide (x∈a))=true then .nx [Y (FL F),Y (.str (eS m)),Y (LI a),j] else .rt (.bool false)):=by show (Option.bind (gN [FL F,.str (eS m)]) λd=>match d with | .list ds=>Y ds | .tuple ds=>Y ds | .str x=>Y (q9 x)|_=>Z).bind (λds=>kc (p6 (.one 3)) gF ds [Y (FL F),Y (.str (eS m)),Y (LI a),Z])=_;rw[oZ F m k];exact e
 by_cases h:((eX F m).all λx=>decide (x∈a))=true
 ·rw[af h] at b;rw[ew b];have o:(d2 jE (λρ=>((gI 2 ig (ee (cn 0) (zQ (cn 2)))) ρ).bind g0) (λρ=>((cn 2) ρ).bind g0)) [Y (FL F),Y (.str (eS m)),Y (LI a),j]=Y (.bool (decide (fz (led F a)=fz a))):=by
   show ((ig [FL F,LI a]).bind g0).bind (λx=>(g0 (LI a)).bind λy=>jE x y)=_;rw[(pQ F k a n).1,aA,ox (zo l i),ox i];exact KA _ _
  unfold ft;rw[o];show Y (d8.bool (decide (fz (led F a)=fz a)))=_;refine bg (λz=>Y (d8.bool z)) ?_;rw[Bool.eq_iff_iff,bu,Ik l i,oy];exact⟨λg=>⟨λx c=>cq (bD.mp h x c),g⟩,λg=>g.2⟩
 ·rw[ag h] at b;rw[DR b];refine bg (λz=>Y (d8.bool z)) ?_;refine(Bool.eq_false_iff.mpr λz=>h ?_).symm;rw[oy] at z;exact bD.mpr λx c=>aK (z.1 x c)
theorem CO(F:List Fc)(k:F.length<=60)(m:Bool)(a b:List Int)(h:∀x,x∈b↔x∈a)(l:b.length<=2000)(e:Od):gA [Y PR,Y (FL F),Y (.str (eS m)),Y (LI a),Y (.bool (gU F m a)),Y (LI b),e]=Y (.nx [Y PR,Y (FL F),Y (.str (eS m)),Y (LI a),Y (.bool (gU F m a)),Y (LI b),Y (.bool (gU F m a))]):=by
 unfold gA;have n:(fe (fw [] (gI 4 lZ (ee (cn 0) (ee (cn 1) (ee (cn 2) (zQ (cn 5))))))) 6) [Y PR,Y (FL F),Y (.str (eS m)),Y (LI a),Y (.bool (gU F m a)),Y (LI b),e]=Y (.nx [Y PR,Y (FL F),Y (.str (eS m)),Y (LI a),Y (.bool (gU F m a)),Y (LI b),Y (.bool (gU F m a))]):=by show (lZ [PR,FL F,.str (eS m),LI b]).map (λd=>eY.nx [Y PR,Y (FL F),Y (.str (eS m)),Y (LI a),Y (.bool (gU F m a)),Y (LI b),Y d])=_;rw[Fi k m b l,Bn F m h];rfl
 rw[ew n];have t:∀(c:Bool) (x0 j i g f:Od),(Dh (oD (pT (Ms "bool" (cn 6)))) (fB (d2 ya (cn 6) (cn 4)))) [x0,j,i,g,Y (.bool c),f,Y (.bool c)]=Y false:=λc _ _ _ _ _=>by cases c<;>kernel_rfl
 rw[lp (t _ _ _ _ _ _)];rfl
def KG(a:List Int):∃b,Ni (LI a) Z (Y 2)=Y (LI b)/\(∀x∈b,x∈a)/\b.length<=a.length:=by
 refine⟨lI a Z (Y 2),?_,λx c=>List.mem_of_mem_drop (dg c),?_⟩
 ·show Y (d8.list (lI (a.map d8.int) Z (Y 2)))=_;unfold lI;rw[ay,<-List.map_drop,<-d7]
 ·unfold lI;rw[cw,cI];omega
def qK{a:BD}{g:d9->Option eY}{d:d8}{ρ':d9}(e:(a d ρ).bind g=Y (.nx ρ')):kc a g (d::ds) ρ=kc a g ds ρ':=by rw[kc,e];rfl
def O5{b a:d9->Od}{x y z:d8}(e:fa ρ=Y x)(d:b ρ=Y y)(c:a ρ=Y z):ph [] (iC (fZ (ee fa (ee b (zQ a))))) ρ=Y [x,y,z]:=by simp only[ph,iz,iC,fZ,ee,fy,e,d,c,aA];rw[af (show [x,y,z].length<=sizeLine from (by decide:3<=16777216))];rfl
theorem Il{F:List Fc}(hF:∀f∈F,f.Ok)(hl:F.length<=60)(m:Bool){a:List Int}(ha:∀x∈a,mK x)(hz:a.length<1000):ji [PR,FL F,.str (eS m),LI a]=Y (.bool true):=by
 unfold ji f7;show (nV [Y PR,Y (FL F),Y (.str (eS m)),Y (LI a),Z,Z,Z]).bind _=_;unfold nV;have e1:(fe (fw [] (gI 3 iN (ee (cn 1) (ee (cn 2) (zQ (cn 3)))))) 4) [Y PR,Y (FL F),Y (.str (eS m)),Y (LI a),Z,Z,Z]=Y (.nx [Y PR,Y (FL F),Y (.str (eS m)),Y (LI a),Y (.bool (gU F m a)),Z,Z]):=by show (iN [FL F,.str (eS m),LI a]).map (λd=>eY.nx [Y PR,Y (FL F),Y (.str (eS m)),Y (LI a),Y d,Z,Z])=_;rw[wK hF hl m ha hz];rfl
 rw[ew e1];obtain⟨b,eb,RC,UM⟩:=KG a;have e2:(ph [] (iC (fZ (ee (gH hV (zQ (cn 3))) (ee (λρ=>((cn 3) ρ).bind xD) (zQ (d2 iT (cn 3) (ik (cn 3) jo (ir (zI 2)))))))))) [Y PR,Y (FL F),Y (.str (eS m)),Y (LI a),Y (.bool (gU F m a)),Z,Z]=Y [LI a,LI a.reverse,LI (a++b)]:=by
  have e3:iT (LI a) (LI b)=Y (LI (a++b)):=Bb (by omega);have e4:(d2 iT (cn 3) (ik (cn 3) jo (ir (zI 2)))) [Y PR,Y (FL F),Y (.str (eS m)),Y (LI a),Y (.bool (gU F m a)),Z,Z]=Y (LI (a++b)):=by show (Ni (LI a) Z (Y 2)).bind (λy=>iT (LI a) y)=_;rw[eb,aA,e3]
  have e5:xD (LI a)=Y (LI a.reverse):=by show Y (d8.list (a.map d8.int).reverse)=_;rw[<-List.map_reverse]
  have e6:(gH hV (zQ (cn 3))) [Y PR,Y (FL F),Y (.str (eS m)),Y (LI a),Y (.bool (gU F m a)),Z,Z]=Y (LI a):=rfl;have e7:((cn 3) [Y PR,Y (FL F),Y (.str (eS m)),Y (LI a),Y (.bool (gU F m a)),Z,Z]).bind xD=Y (LI a.reverse):=e5;exact O5 e6 e7 e4
 have e6:kc (p6 (.one 5)) gA [LI a,LI a.reverse,LI (a++b)] [Y PR,Y (FL F),Y (.str (eS m)),Y (LI a),Y (.bool (gU F m a)),Z,Z]=Y (.nx [Y PR,Y (FL F),Y (.str (eS m)),Y (LI a),Y (.bool (gU F m a)),Y (LI (a++b)),Y (.bool (gU F m a))]):=by have st:∀(c:List Int),(∀x,x∈c↔x∈a)->c.length<=2000->∀x5 x6:Od,(p6 (.one 5) (LI c) [Y PR,Y (FL F),Y (.str (eS m)),Y (LI a),Y (.bool (gU F m a)),x5,x6]).bind gA=Y (.nx [Y PR,Y (FL F),Y (.str (eS m)),Y (LI a),Y (.bool (gU F m a)),Y (LI c),Y (.bool (gU F m a))]):=λc h1 h2 x5 x6=>CO F hl m a c h1 h2 x6;rw[qK (st a (λ_=>cv) (by omega) _ _),qK (st a.reverse (λ_=>dP) (by rw[cL];omega) _ _),qK (st (a++b) (λx=>⟨λh=>(aC.mp h).elim id (RC x),λh=>aw _ h⟩) (by rw[a6];omega) _ _)];rfl
 have e7:(gL (ph [] (iC (fZ (ee (gH hV (zQ (cn 3))) (ee (λρ=>((cn 3) ρ).bind xD) (zQ (d2 iT (cn 3) (ik (cn 3) jo (ir (zI 2)))))))))) (.one 5) gA) [Y PR,Y (FL F),Y (.str (eS m)),Y (LI a),Y (.bool (gU F m a)),Z,Z]=kc (p6 (.one 5)) gA [LI a,LI a.reverse,LI (a++b)] [Y PR,Y (FL F),Y (.str (eS m)),Y (LI a),Y (.bool (gU F m a)),Z,Z]:=by unfold gL;rw[e2];rfl
 rw[ew (e7.trans e6)];rfl
def fF{g:d9->Option Lp}{x:d8}{xs:Lp}(b:f ρ=Y x)(a:g ρ=Y xs):ee f g ρ=Y (x::xs):=by unfold ee;rw[b,aA,a];rfl
def qL{g:d9->Option Lp}{xs:Lp}(h:g ρ=Y xs)(a:xs.length<=1000):ia g ρ=Y (.tuple xs):=by unfold ia;rw[h,aA,af (show xs.length<=sizeLine from bc a (by decide))]
def mj{f:Lp->Od}{g:d9->Option Lp}{xs:Lp}{d:d8}(c:g ρ=Y xs)(b:xs.length=n)(a:f xs=Y d):gI n f g ρ=Y d:=by unfold gI;rw[c,aA,af b,a]
def kS{g:d8->d8->Od}{a:d9->Od}{x y:d8}{o:Od}(d:fa ρ=Y x)(c:a ρ=Y y)(b:g x y=o):d2 g fa a ρ=o:=by unfold d2;rw[d,aA,c,aA,b]
def xK{d:d8}(h:f ρ=Y d):ft f ρ=Y (.rt d):=by unfold ft;rw[h];rfl
def skip{c:d9->Option Bool}{g h:d9->Option eY}{o:Option eY}(e:c ρ=Y false)(k:h ρ=o):eB (il c g fx) h ρ=o:=by rw[ew ((lp e).trans (show fx ρ=Y (eY.nx ρ) from rfl)),k]
def stop{c:d9->Option Bool}{g h:d9->Option eY}{d:d8}(e:c ρ=Y true)(k:g ρ=Y (.rt d)):eB (il c g fx) h ρ=Y (.rt d):=by rw[DR ((oY e).trans k)]
def pR{d:d8}(h:f ρ=Y d):fe f i ρ=Y (.nx (ρ.set i (Y d))):=by unfold fe;rw[h];rfl
def Nc{c N:Int}(h:ij c=true)(a:ij N=true):sg (.int c) (.int N)=Y (.int (c*N)):=by show (if (ij c&&ij N)=true then Y (d8.int (c*N)) else Z)=_;rw[h,a];rfl
def Im{c N:Int}(a:f ρ=Y (.int c))(h:ij c=true)(b:ij N=true):(d2 iS (d2 sg f (zI N)) (d2 iT (d2 El (zI 10) (zI 24)) (zI 7))) ρ=Y (.int (c*N % 1000000000000000000000007)) :=
 kS (kS a rfl (Nc h b)) (y:=.int 1000000000000000000000007) (zK 0) (zK 0)
def n9(k n:Int)(j:0<=k)(i:k<3):∃p,fN [.int k,.int n]=Y (.int p)/\mK p:=by
 have h:=Int.emod_nonneg n (show (4:Int)≠0 by decide);have c:=Int.emod_lt_of_pos n (show (0:Int)<4 by decide);have b:∀(r:d8) (p:Int),(Gj (.list [.list [.int 0,.int 3,.int 7,.int 10],.list [.int 1,.int 4,.int 8,.int 11],.list [.int 2,.int 5,.int 9,.int 12]]) (.int k))=Y r->Gj r (.int (n % 4))=Y (.int p)->fN [.int k,.int n]=Y (.int p):=λr p g f=>by unfold fN f7 sy;rw[xK (d:=.int p) (kS (kS (zK 0) (show _=Y (d8.int k) from rfl) g) (show _=Y (d8.int (n % 4)) by kernel_rfl) f)];rfl
 have e:k=0\/k=1\/k=2:=by omega
 have a:n % 4=0\/n % 4=1\/n % 4=2\/n % 4=3:=by omega
 rcases e with rfl|rfl|rfl<;>rcases a with a|a|a|a<;>rw[a] at b<;>exact⟨_,b _ _ rfl rfl,⟨_,by decide,rfl⟩⟩
def Io(n:Int)(a b:Str)(ρ:d9)(f:d9->Od)(h:f ρ=Y (.int n)):∃c:Bool,d2 Gj (fZ (zC a (zC b fy))) (d2 iS f (zI 2)) ρ=Y (.str (if c then b else a)):=by
 have i:=Int.emod_nonneg n (show (2:Int)≠0 by decide);have g:=Int.emod_lt_of_pos n (show (0:Int)<2 by decide);have d:n % 2=0\/n % 2=1:=by omega
 have e:d2 iS f (zI 2) ρ=Y (.int (n % 2)):=kS h rfl (zK 0);rcases d with d|d
 ·exact⟨false,kS (x:=.list [.str a,.str b]) (zK 0) e (by rw[d];rfl)⟩
 ·exact⟨true,kS (x:=.list [.str a,.str b]) (zK 0) e (by rw[d];rfl)⟩
def Rr(m:Int):m % 7=0\/m % 7=1\/m % 7=2\/m % 7=3\/m % 7=4\/m % 7=5\/m % 7=6:=by have b:=Int.emod_nonneg m (show (7:Int)≠0 by decide);have a:=Int.emod_lt_of_pos m (show (0:Int)<7 by decide);omega
def KH(c:Int)(G:ij c=true):∃f:Fc,f.Ok/\jN [.int c]=Y f.d:=by
 have A:∀f:Fc,gw [Y (.int c),Z,Z,Z]=Y (.rt f.d)->jN [.int c]=Y f.d:=λf e=>by unfold jN f7;show (gw [Y (.int c),Z,Z,Z]).bind _=_;rw[e];rfl
 generalize F:c*618033988749894848204587 % 1000000000000000000000007=m;obtain⟨t,I,g⟩:=n9 (m / 7 % 3) (m / 21) (Int.emod_nonneg _ (by decide)) (Int.emod_lt_of_pos _ (by decide));have q:∀(j:Int) (x0 u r:Od),0<j->j<1073741824->d2 i9 (cn 1) (zI j) [x0,Y (.int m),u,r]=Y (.int (m / j)):=λj x0 u r y w=>by show (if (decide (0<j)&&decide (j<1073741824))=true then Y (d8.int (m / j)) else Z)=_;rw[aK y,aK w];rfl
 have E:∀(j k:Int) (x0 u r:Od),0<j->j<1073741824->0<k->d2 iS (d2 i9 (cn 1) (zI j)) (zI k) [x0,Y (.int m),u,r]=Y (.int (m / j % k)):=λj k x0 u r y w H=>kS (q j x0 u r y w) rfl (by show (if decide (0<k)=true then Y (d8.int (m / j % k)) else Z)=_;rw[aK H];rfl);have o:(fe (fw [] (d2 iS (d2 sg (cn 0) (zI 618033988749894848204587)) (d2 iT (d2 El (zI 10) (zI 24)) (zI 7)))) 1) [Y (.int c),Z,Z,Z]=Y (.nx [Y (.int c),Y (.int m),Z,Z]):=by rw[<-F];exact pR (Im rfl G (by decide +kernel))
 have D:(ia (ee (gI 2 fN (ee (d2 iS (d2 i9 (cn 1) (zI 7)) (zI 3)) (zQ (d2 i9 (cn 1) (zI 21))))) (zQ (ia fy)))) [Y (.int c),Y (.int m),Z,Z]=Y (.tuple [.int t,.tuple []]):=by
  refine qL (xs:=[.int t,.tuple []]) (fF (mj (xs:=[.int (m / 7 % 3),.int (m / 21)]) (fF ?_ (fF ?_ ?_)) ?_ I) (fF ?_ ?_)) ?_
  ·exact E 7 3 _ _ _ (by decide) (by decide) (by decide)
  ·exact q 21 _ _ _ (by decide) (by decide)
  ·rfl
  ·rfl
  ·kernel_rfl
  ·rfl
  ·exact Nat.le_of_ble_eq_true rfl
 have n:(fe (fw [] (ia (ee (gI 2 fN (ee (d2 iS (d2 i9 (cn 1) (zI 7)) (zI 3)) (zQ (d2 i9 (cn 1) (zI 21))))) (zQ (ia fy))))) 2) [Y (.int c),Y (.int m),Z,Z]=Y (.nx [Y (.int c),Y (.int m),Y (.tuple [.int t,.tuple []]),Z]):=pR D;have l:(fe (fw [] (d2 iS (cn 1) (zI 7))) 3) [Y (.int c),Y (.int m),Y (.tuple [.int t,.tuple []]),Z]=Y (.nx [Y (.int c),Y (.int m),Y (.tuple [.int t,.tuple []]),Y (.int (m % 7))]):=pR (zK 0);have a:=Rr m;have i:∀f:Fc,f.Ok->(gw [Y (.int c),Z,Z,Z]=Y (.rt f.d))->∃f:Fc,f.Ok/\jN [.int c]=Y f.d:=λf y w=>⟨f,y,A f w⟩
 rcases a with a|a|a|a|a|a|a
 ·refine i (.loc .p t) ⟨g,λs h=>by cases h⟩ ?_;unfold gw;rw[ew o,ew n,ew l,a];exact stop (zK 0) (zK 0)
 ·refine i (.loc .k t) ⟨g,λs h=>by cases h⟩ ?_;unfold gw;rw[ew o,ew n,ew l,a];exact stop (zK 0) (zK 0)
 ·refine i (.loc .x t) ⟨g,λs h=>by cases h⟩ ?_;unfold gw;rw[ew o,ew n,ew l,a];exact stop (zK 0) (zK 0)
 ·obtain⟨b,B⟩:=Io (m / 1000) "fa" "main" [Y (.int c),Y (.int m),Y (.tuple [.int t,.tuple []]),Y (.int 3)] (d2 i9 (cn 1) (zI 1000)) (q 1000 _ _ _ (by decide) (by decide));refine i (.Kk b t) ⟨g,λs h=>by cases h⟩ ?_;unfold gw;rw[ew o,ew n,ew l,a];refine skip (zK 0) (stop (zK 0) (xK (qL (fF rfl (fF (qL (fF rfl (fF B (fF (zK 0) rfl))) ?_) (fF rfl rfl))) ?_)))
  ·exact Nat.le_of_ble_eq_true rfl
  ·exact Nat.le_of_ble_eq_true rfl
 ·obtain⟨b,B⟩:=Io (m / 1000) "f" "g" [Y (.int c),Y (.int m),Y (.tuple [.int t,.tuple []]),Y (.int 4)] (d2 i9 (cn 1) (zI 1000)) (q 1000 _ _ _ (by decide) (by decide));obtain⟨s,z,v⟩:=n9 0 (m / 100) (by decide) (by decide);refine i (.fld b s t) ⟨g,λC h=>by cases h;exact v⟩ ?_;unfold gw;rw[ew o,ew n,ew l,a];refine skip (zK 0) (skip (zK 0) (stop (zK 0) (xK (qL (fF rfl (fF (qL (fF rfl (fF (mj (fF rfl (fF (q 100 _ _ _ (by decide) (by decide)) rfl)) rfl z) (fF (zK 0) (fF B rfl)))) ?_) (fF rfl rfl))) ?_))))
  ·exact Nat.le_of_ble_eq_true rfl
  ·exact Nat.le_of_ble_eq_true rfl
 ·obtain⟨s,z,v⟩:=n9 1 (m / 100) (by decide) (by decide);refine i (.each s t) ⟨g,λC h=>by cases h;exact v⟩ ?_;unfold gw;rw[ew o,ew n,ew l,a];refine skip (zK 0) (skip (zK 0) (skip (zK 0) (stop (zK 0) (xK (qL (fF rfl (fF (qL (fF rfl (fF (mj (fF rfl (fF (q 100 _ _ _ (by decide) (by decide)) rfl)) rfl z) (fF (zK 0) rfl))) ?_) (fF rfl rfl))) ?_)))))
  ·exact Nat.le_of_ble_eq_true rfl
  ·exact Nat.le_of_ble_eq_true rfl
 ·obtain⟨s,z,v⟩:=n9 2 (m / 100) (by decide) (by decide);refine i (.kept s t) ⟨g,λC h=>by cases h;exact v⟩ ?_;unfold gw;rw[ew o,ew n,ew l,a];refine skip (zK 0) (skip (zK 0) (skip (zK 0) (skip (zK 0) (xK (qL (fF rfl (fF (qL (fF rfl (fF (mj (fF rfl (fF (q 100 _ _ _ (by decide) (by decide)) rfl)) rfl z) (fF (zK 0) (fF rfl rfl)))) ?_) (fF rfl rfl))) ?_)))))
  ·exact Nat.le_of_ble_eq_true rfl
  ·exact Nat.le_of_ble_eq_true rfl
def Fj(a:List Int):Ep (LI a)=true:=by show (a.map d8.int).all lN=true;rw[List.all_map,bD];intro x _;rfl
def KI(d:Nat):lJ 0 d=(List.range d).map λk:Nat=>d8.int (k:Int):=by unfold lJ;simp
def O6{q:d9->Od}(h:q ρ=Y (zi n))(b:n<1000):jq q ρ=Y ((List.range n).map λk:Nat=>d8.int (k:Int)):=by
 unfold jq;rw[h,aA];have a:-(2 ^ 62)<=(n:Int)/\(n:Int)<2 ^ 62:=by constructor<;>omega
 simp only[a,and_self,df,b0,KI]
noncomputable abbrev rB(s:d8)(M:Int)(F:List Fc)(m:Bool)(c b a:Od):d9:=[Y s,Y PR,Y (FL F),Y (.int M),Y (.str (eS m)),c,b,a]
structure IF (a:List Int) (n:Nat):Prop where
 sm:∀x∈a,mK x
 ne:a≠[]
 le:a.length<=n
def CP{d:d8}(h:f ρ=Y d)(a:i<ρ.length):gk f i ρ=Y (.nx (ρ.set i (Y d))):=by unfold gk;rw[h,aA,af a]
def Lv{a:List Int}(h:f ρ=Y (LI a)):Jw f ρ=Y (LI a):=by unfold Jw;rw[h,aA,af (Fj a)]
def KJ{a b:List Int}(h:a.length+b.length<=1000):xn (LI a) (LI b)=Y (LI (a++b)):=by show (if (a.map d8.int).length+(b.map d8.int).length<=sizeLine then Y (d8.list (a.map d8.int++b.map d8.int)) else Z)=_;rw[af (by rw[ay,ay];exact(by omega:a.length+b.length<=16777216)),<-bC]
def O7{g:d9->Option Lp}{xs:Lp}(h:g ρ=Y xs)(a:xs.length<=1000):fZ g ρ=Y (.list xs):=by unfold fZ;rw[h,aA,af (show xs.length<=sizeLine from bc a (by decide))]
def Fl(s:d8)(M:Int)(F:List Fc)(m:Bool)(d:Od){a:List Int}(j:n<900)(h:IF a n)(k:Fin 3):∃b,IF b (n+1)/\nY (rB s M F m d (Y (LI a)) (Y (zi k.val)))=Y (.nx (rB s M F m d (Y (LI b)) (Y (zi k.val)))):=by
 have l:=k.isLt;obtain⟨p,f,e⟩:=n9 (k.val:Int) (M / (10+(k.val:Int))) (by omega) (by omega);refine⟨a++[p],⟨λx c=>?_,by simp,by have:=h.le;simp;omega⟩,?_⟩
 ·rcases aC.mp c with c|c
  ·exact h.sm x c
  ·rw[aS.mp c];exact e
 ·have i:(d2 i9 (cn 3) (d2 iT (zI 10) (cn 7))) (rB s M F m d (Y (LI a)) (Y (zi k.val)))=Y (.int (M / (10+(k.val:Int)))):=by
   refine kS (x:=.int M) (y:=.int (10+(k.val:Int))) rfl rfl ?_;show (if (decide (0<10+(k.val:Int))&&decide (10+(k.val:Int)<1073741824))=true then Y (d8.int (M / (10+(k.val:Int)))) else Z)=_;rw[aK (by omega),aK (by omega)];rfl
  have g:(fZ (zQ (gI 2 fN (ee (cn 7) (zQ (d2 i9 (cn 3) (d2 iT (zI 10) (cn 7)))))))) (rB s M F m d (Y (LI a)) (Y (zi k.val)))=Y (LI [p]):=by
   refine O7 (xs:=[.int p]) (fF (mj (xs:=[.int (k.val:Int),.int (M / (10+(k.val:Int)))]) (fF ?_ (fF i ?_)) rfl f) ?_) (Nat.le_of_ble_eq_true rfl)
   ·rfl
   ·rfl
   ·rfl
  have:=h.le;exact CP (Lv (kS (x:=LI a) (y:=LI [p]) rfl g (KJ (by simp;omega)))) (Nat.le_of_ble_eq_true rfl)
def Fm(s:d8)(M:Int)(F:List Fc)(m:Bool)(f i:Od){a:List Int}(G:n<800)(h:IF a n):∃b c,IF b (n+3)/\(gL (ph [6] (jq (d2 iS (cn 3) (zI 4)))) (.one 7) nY) (rB s M F m f (Y (LI a)) i)=Y (.nx (rB s M F m f (Y (LI b)) c)):=by
 have E:=Int.emod_nonneg M (show (4:Int)≠0 by decide);have D:=Int.emod_lt_of_pos M (show (0:Int)<4 by decide);have o:∀l:List (Fin 3),l.length<=3->∃ρ',kc (p6 (.one 7)) nY (l.map λk=>.int (k.val:Int)) (rB s M F m f (Y (LI a)) i)=Y (.nx ρ')/\∃b c,IF b (n+l.length)/\ρ'=rB s M F m f (Y (LI b)) c:=λl t=>by
  obtain⟨ρ',e,r⟩:=jB (bd:=p6 (.one 7)) (g:=nY) (λj (_:Unit) ρ=>∃b c,IF b (n+j)/\ρ=rB s M F m f (Y (LI b)) c) (λ_ _=>()) (λk:Fin 3=>d8.int (k.val:Int)) 3
   (λj _ k ρ H ⟨b,c,d,e⟩=>by subst e;obtain⟨C,p,B⟩:=Fl s M F m f (by omega) d k;exact⟨_,B,C,_,p,rfl⟩) l 0 () _ (by omega) ⟨a,i,h,rfl⟩
  refine⟨ρ',e,?_⟩;obtain⟨b,c,d,e⟩:=r;exact⟨b,c,by rw[Nat.zero_add] at d;exact d,e⟩
 obtain⟨q,v,u⟩:∃q:Nat,M % 4=(q:Int)/\q<4:=⟨(M % 4).toNat,by omega,by omega⟩
 have w:(ph [6] (jq (d2 iS (cn 3) (zI 4)))) (rB s M F m f (Y (LI a)) i)=Y ((List.range q).map λk:Nat=>d8.int (k:Int)):=by refine O6 ?_ (by omega);rw[<-v];kernel_rfl
 have x:∃l:List (Fin 3),l.length<=3/\(l.map λk=>d8.int (k.val:Int))=(List.range q).map λk:Nat=>d8.int (k:Int):=by
  have:q=0\/q=1\/q=2\/q=3:=by omega
  rcases this with rfl|rfl|rfl|rfl
  ·exact⟨[],by decide,rfl⟩
  ·exact⟨[0],by decide,rfl⟩
  ·exact⟨[0,1],by decide,rfl⟩
  ·exact⟨[0,1,2],by decide,rfl⟩
 obtain⟨l,t,A⟩:=x;obtain⟨ρ',z,b,c,d,y⟩:=o l t;refine⟨b,c,⟨d.sm,d.ne,by have:=d.le;omega⟩,?_⟩;unfold gL;rw[w,aA,<-A,z,y]
theorem Ip{F:List Fc}(k:∀f∈F,f.Ok)(j:F.length<=60)(s:d8)(M:Int)(m:Bool)(d c:Od){a:List Int}(r:n<900)(h:IF a n):∃b,IF b (n+780)/\(il (fB (d2 jE (d2 iS (d2 i9 (cn 3) (zI 4)) (zI 2)) (zI 1)))
(gk (Jw (gI 2 ig (ee (cn 2) (zQ (cn 6))))) 6)
fx) (rB s M F m d (Y (LI a)) c)=Y (.nx (rB s M F m d (Y (LI b)) c)):=by
 have p:=Int.emod_nonneg (M / 4) (show (2:Int)≠0 by decide);have o:=Int.emod_lt_of_pos (M / 4) (show (0:Int)<2 by decide);have e:(d2 iS (d2 i9 (cn 3) (zI 4)) (zI 2)) (rB s M F m d (Y (LI a)) c)=Y (.int (M / 4 % 2)):=by kernel_rfl
 have g:M / 4 % 2=0\/M / 4 % 2=1:=by omega
 rcases g with g|g
 ·refine⟨a,⟨h.sm,h.ne,by have:=h.le;omega⟩,?_⟩;rw[lp (show fB (d2 jE (d2 iS (d2 i9 (cn 3) (zI 4)) (zI 2)) (zI 1)) (rB s M F m d (Y (LI a)) c)=Y false by unfold fB;rw[kS (y:=.int 1) e rfl (by rw[g])];kernel_rfl)];rfl
 ·have q:=h.le;obtain⟨l,t⟩:=pQ F j a (by omega);refine⟨led F a,⟨zo k h.sm,λz=>?_,by omega⟩,?_⟩
  ·obtain⟨x,i⟩:=List.exists_mem_of_ne_nil a h.ne;have:=qJ F i;rw[z] at this;cases this
  ·rw[oY (show fB (d2 jE (d2 iS (d2 i9 (cn 3) (zI 4)) (zI 2)) (zI 1)) (rB s M F m d (Y (LI a)) c)=Y true by
    unfold fB;rw[kS (y:=.int 1) e rfl (by rw[g])];kernel_rfl)]
   exact CP (Lv (mj (xs:=[FL F,LI a]) rfl rfl l)) (Nat.le_of_ble_eq_true rfl)
theorem Iq{α β:Type}(f:α->β):∀(l:List α) (i:Nat),(l.map f).eraseIdx i=(l.eraseIdx i).map f
 |[],_=>rfl
 |_::_,0=>rfl
 |x::l,i+1=>bg (f x::·) (Iq f l i)
def Ir(F:List Fc)(s:d8)(M:Int)(m:Bool)(d c:Od){a:List Int}(r:n<1000)(h:IF a n):∃b,(∀x∈b,mK x)/\b.length<=n/\(il (fB (d2 jE (d2 iS (d2 i9 (cn 3) (zI 8)) (zI 3)) (zI 1)))
(DP (.sl 6) (IB (d2 iS (d2 i9 (cn 3) (zI 24)) (zN (cn 6)))))
fx) (rB s M F m d (Y (LI a)) c)=Y (.nx (rB s M F m d (Y (LI b)) c)):=by
 have e:(d2 iS (d2 i9 (cn 3) (zI 8)) (zI 3)) (rB s M F m d (Y (LI a)) c)=Y (.int (M / 8 % 3)):=by kernel_rfl
 have k:=h.le;have t:fB (d2 jE (d2 iS (d2 i9 (cn 3) (zI 8)) (zI 3)) (zI 1)) (rB s M F m d (Y (LI a)) c)=Y (M / 8 % 3==1):=by unfold fB;rw[kS (y:=.int 1) e rfl rfl];show (jE (.int (M / 8 % 3)) (.int 1)).bind _=_;unfold jE;rw[af ⟨rfl,rfl⟩,d8.eqv];rfl
 cases f:(M / 8 % 3==1)
 ·rw[f] at t;exact⟨a,h.sm,h.le,(lp t).trans rfl⟩
 ·rw[f] at t;have q:0<a.length:=dZ.mpr h.ne;have i:=Int.emod_nonneg (M / 24) (show ((a.length:Nat):Int)≠0 by omega);have g:=Int.emod_lt_of_pos (M / 24) (show (0:Int)<((a.length:Nat):Int) by omega);refine⟨a.eraseIdx (M / 24 % (a.length:Int)).toNat,λx j=>h.sm x (List.mem_of_mem_eraseIdx j),bc (List.length_eraseIdx_le ..) h.le,(oY t).trans ?_⟩;have p:(zN (cn 6)) (rB s M F m d (Y (LI a)) c)=Y (zi a.length):=by
   show Y (d8.int ((a.map d8.int).length:Nat))=_;rw[ay]
  have l:(IB (d2 iS (d2 i9 (cn 3) (zI 24)) (zN (cn 6)))) (rB s M F m d (Y (LI a)) c)=Y (.int (M / 24 % (a.length:Int))):=by unfold IB;rw[kS (x:=.int (M / 24)) (y:=.int (a.length:Int)) (o:=Y (.int (M / 24 % (a.length:Int)))) (zK 0) p (by show (if decide (0<(a.length:Int))=true then Y (d8.int (M / 24 % (a.length:Int))) else Z)=_;rw[aK (by omega)];rfl)];rfl
  unfold DP;rw[l];show (if 0<=M / 24 % (a.length:Int)/\M / 24 % (a.length:Int)<((a.map d8.int).length:Nat)/\M / 24 % (a.length:Int)<1000 then Y (eY.nx (rB s M F m d (Y (.list ((a.map d8.int).eraseIdx (M / 24 % (a.length:Int)).toNat))) c)) else Z)=_;rw[af ⟨i,by rw[ay];exact g,by omega⟩,Iq]
theorem DW{F:List Fc}(j:∀f∈F,f.Ok)(i:F.length<=60)(s:d8)(M:Int)(m:Bool)(l g d:Od):∃o n e,kP (rB s M F m l g d)=Y (.nx (rB s M F m o n e)):=by
 have I:=pP F m;obtain⟨G,H⟩:=pQ F i (eX F m) (by omega);have h:=zo j (xI j m);unfold kP;have A:(fe (fw [6] (gI 2 ig (ee (cn 2) (zQ (gI 2 gN (ee (cn 2) (zQ (cn 4)))))))) 5) (rB s M F m l g d)=Y (.nx (rB s M F m (Y (LI (led F (eX F m)))) g d)):=by
  refine pR (mj (xs:=[FL F,LI (eX F m)]) (fF ?_ (fF (mj (xs:=[FL F,.str (eS m)]) ?_ rfl (oZ F m i)) ?_)) rfl G)
  ·rfl
  ·rfl
  ·rfl
 have w:(il (fB (d2 ya (gI 3 lY (ee (cn 1) (ee (gH hV (zQ (cn 2))) (zQ (cn 4))))) (λρ=>((cn 5) ρ).bind g0)))
(ft (dC (.bool false)))
fx) (rB s M F m (Y (LI (led F (eX F m)))) g d)=Y (.nx (rB s M F m (Y (LI (led F (eX F m)))) g d)):=by
  refine(lp ?_).trans rfl;have q:(d2 ya (gI 3 lY (ee (cn 1) (ee (gH hV (zQ (cn 2))) (zQ (cn 4))))) (λρ=>((cn 5) ρ).bind g0)) (rB s M F m (Y (LI (led F (eX F m)))) g d)=Y (.bool (!decide (fz (led F (eX F m))=fz (led F (eX F m))))):=by
   refine kS (x:=LI (fz (led F (eX F m)))) (y:=LI (fz (led F (eX F m)))) (mj (xs:=[PR,FL F,.str (eS m)]) ?_ ?_ (Fh j i m)) ?_ (KC _ _)
   ·rfl
   ·rfl
   ·exact ox h
  rw[aK rfl] at q;unfold fB;rw[q];rfl
 have v:(gk (fw [6] (λρ=>((cn 5) ρ).bind g0)) 6) (rB s M F m (Y (LI (led F (eX F m)))) g d)=Y (.nx (rB s M F m (Y (LI (led F (eX F m)))) (Y (LI (fz (led F (eX F m))))) d)):=CP (ox h) (Nat.le_of_ble_eq_true rfl);have E:IF (fz (led F (eX F m))) 13:=by
  refine⟨λx k=>h x ((kK h).mp k),λz=>?_,pA _⟩;have:∃x,x∈eX F m:=by cases m<;>exact⟨_,aw _ (.head _)⟩
  obtain⟨x,k⟩:=this;have:=(kK h).mpr (qJ F k);rw[z] at this;cases this
 obtain⟨a,e,D,u⟩:=Fm s M F m (Y (LI (led F (eX F m)))) d (by decide) E;obtain⟨b,C,t⟩:=Ip j i s M m (Y (LI (led F (eX F m)))) e (by decide) D;obtain⟨c,B,J,r⟩:=Ir F s M m (Y (LI (led F (eX F m)))) e (by decide) C;have p:(il (oD (pT (gI 4 ji (ee (cn 1) (ee (cn 2) (ee (cn 4) (zQ (cn 6))))))))
(ft (dC (.bool false)))
fx) (rB s M F m (Y (LI (led F (eX F m)))) (Y (LI c)) e)=Y (.nx (rB s M F m (Y (LI (led F (eX F m)))) (Y (LI c)) e)):=by
  refine(lp ?_).trans rfl;have q:(gI 4 ji (ee (cn 1) (ee (cn 2) (ee (cn 4) (zQ (cn 6)))))) (rB s M F m (Y (LI (led F (eX F m)))) (Y (LI c)) e)=Y (.bool true):=by
   refine mj (xs:=[PR,FL F,.str (eS m),LI c]) ?_ ?_ (Il j i m B (by omega))
   ·rfl
   ·rfl
  unfold oD pT;rw[q];rfl
 exact⟨_,_,_,by rw[ew A,ew w,ew v,ew u,ew t,ew r,p]⟩
def Nd(a:Lp):(fB (d2 K1 (cn 1) (zN (cn 0)))) [Y (.list a),Y (.int 0)]=Y (decide ((0:Int)<(a.length:Int))):=by kernel_rfl
def KL(a:List Int):iY [.list (a.map .int),.int 0]=Y (.int (a.getD 0 0)):=by
 have t:=Nd (a.map .int);rw[ay] at t;unfold iY f7;show (lB [Y (.list (a.map .int)),Y (.int 0)]).bind _=_;unfold lB;cases a with
 |nil=>kernel_rfl
 |cons x r=>
  rw[aK (by rw[aD];omega)] at t;have e:(zX (cn 0) (cn 1)) [Y (.list ((x::r).map .int)),Y (.int 0)]=Y (.int x):=by show qR (.int x::r.map d8.int) 0=_;unfold qR Ec;rw[af (by decide),af (by rw[aD];omega)];rfl
  rw[stop t (xK e)];rfl
def KN(a:List Int):lI (a.map d8.int) (Y 1) (Y 61)=(lI a (Y 1) (Y 61)).map .int/\(lI a (Y 1) (Y 61)).length<=60/\∀x∈lI a (Y 1) (Y 61),x∈a:=by unfold lI;refine⟨by rw[ay,<-List.map_drop,<-d7],?_,λx b=>List.mem_of_mem_drop (dg b)⟩;rw[cw];have d:HT.iF a.length 0 (Y 1)=min 1 a.length:=HT.C2 a.length 0 1;have c:HT.iF a.length a.length (Y 61)=min 61 a.length:=HT.C2 a.length a.length 61;rw[d,c,cI];omega
theorem Bo:∀a:List Int,(∀x∈a,ij x=true)->∃F:List Fc,lK nW nX [] (a.map .int)=Y (F.map Fc.d)/\F.length=a.length/\∀f∈F,f.Ok
 |[],_=>⟨[],rfl,rfl,by simp⟩
 |c::a,h=>by
  obtain⟨F,e,j,l⟩:=Bo a λx i=>h x (.tail _ i);obtain⟨f,k,m⟩:=KH c (h c (.head _));refine⟨f::F,?_,by simp[j],λg b=>?_⟩
  ·have n:nX [Y (.int c)]=Y f.d:=mj (xs:=[.int c]) rfl rfl m;rw[az,lK,show nW [Y (.int c)]=Y true from rfl,aA,af rfl,n,aA,e];rfl
  ·rcases ak.mp b with rfl|b
   ·exact k
   ·exact l g b
theorem Iu:∀a:List Int,a.length<=63->(∀x∈a,ij x=true)->DQ [.list (a.map .int)]=Y (.bool true):=λa i j=>by
 obtain⟨y,A,w⟩:=KN a;obtain⟨F,e,z,k⟩:=Bo (lI a (Y 1) (Y 61)) λx u=>j x (w x u);have c:F.length<=60:=by omega
 have v:ij (a.getD 0 0)=true:=by
  cases a with
  |nil=>exact(by decide +kernel:ij 0=true)
  |cons x r=>exact j x (.head _)
 unfold DQ f7;show (HM [Y (.list (a.map .int)),Z,Z,Z,Z,Z,Z,Z]).bind _=_;unfold HM;have t:(fe (fw [6] (gI 0 jW fy)) 1) [Y (.list (a.map .int)),Z,Z,Z,Z,Z,Z,Z]=Y (.nx [Y (.list (a.map .int)),Y PR,Z,Z,Z,Z,Z,Z]):=pR (mj (xs:=[]) rfl rfl O2);have s:(fe (fw [6] (js (o9 (ik (cn 0) (ir (zI 1)) (ir (zI 61)))) [] nW nX)) 2) [Y (.list (a.map .int)),Y PR,Z,Z,Z,Z,Z,Z]=Y (.nx [Y (.list (a.map .int)),Y PR,Y (FL F),Z,Z,Z,Z,Z]):=by refine pR ?_;show (if (lI (a.map d8.int) (Y 1) (Y 61)).length<=sizeLine then (lK nW nX [] (lI (a.map d8.int) (Y 1) (Y 61))).map d8.list else Z)=_;rw[y,af (by rw[ay];exact(by omega:(lI a (Y 1) (Y 61)).length<=16777216)),e];rfl
 have h:(fe (fw [6] (d2 iS (d2 sg (gI 2 iY (ee (cn 0) (zQ (zI 0)))) (zI 414213562373095048801689)) (d2 iT (d2 El (zI 10) (zI 24)) (zI 7)))) 3) [Y (.list (a.map .int)),Y PR,Y (FL F),Z,Z,Z,Z,Z]=Y (.nx [Y (.list (a.map .int)),Y PR,Y (FL F),Y (.int (a.getD 0 0*414213562373095048801689 % 1000000000000000000000007)),Z,Z,Z,Z]) :=
  pR (Im (mj (xs:=[.list (a.map .int),.int 0]) rfl rfl (KL a)) v (by decide +kernel))
 generalize a.getD 0 0*414213562373095048801689 % 1000000000000000000000007=M at h;obtain⟨g,f,d,p⟩:=DW k c (.list (a.map .int)) M false Z Z Z;obtain⟨n,m,l,o⟩:=DW k c (.list (a.map .int)) M true g f d;have q:(gL (ph [6] (iC (fZ (zC "fa" (zC "main" fy))))) (.one 4) kP) [Y (.list (a.map .int)),Y PR,Y (FL F),Y (.int M),Z,Z,Z,Z]=Y (.nx (rB (.list (a.map .int)) M F true n m l)):=by refine Eq.trans (b:=kc (p6 (.one 4)) kP [.str "fa",.str "main"] [Y (.list (a.map .int)),Y PR,Y (FL F),Y (.int M),Z,Z,Z,Z]) rfl ?_;rw[qK (show (p6 (.one 4) (.str "fa") [Y (.list (a.map .int)),Y PR,Y (FL F),Y (.int M),Z,Z,Z,Z]).bind kP=_ from p),qK (show (p6 (.one 4) (.str "main") (rB (.list (a.map .int)) M F false g f d)).bind kP=_ from o)];rfl
 rw[ew t,ew s,ew h,ew q];rfl
end K55
namespace PySem.W.Fast
def tw2766720026550627954:=0
def tw15871764052596720428:=0
def tw5670112573506911058:=0
def tw12409793822450881935:=0
def tw16995020323911283444:=0
def tw11859403916086678993:=0
def tw12638049449408273626:=0
def tw13022740161330512596:=0
def tw12254411350473250564:=0
def tw12894166311288217651:=0
def tw11755646631620402528:=0
def tw15818212290227398333:=0
def tw7502097668056263363:=0
def tw3326008781014167419:=0
def tw16078246786613969629:=0
def tw9892838147671650211:=0
def tw9354906113370231571:=0
def tw6057043331253077197:=0
def tw11577277072608138572:=0
def tw16617213740516273517:=0
def tw3745299144419665155:=0
def tw2655141333504931307:=0
def tw2466842260473736963:=0
def tw14568329280961102998:=0
def tw3332652113814322461:=0
def tw488547598279620692:=0
def tw3335174391185595328:=0
def tw14669311419048273855:=0
def tw9731922225404831752:=0
def tw10375786625526780264:=0
def tw3980152011128008523:=0
def tw13823417891653189542:=0
def tw5069627129617947390:=0
def tw11941273789967114690:=0
def tw18271974697100156279:=0
def tw18050600097959202306:=0
def tw424757379840406716:=0
def tw6339758250300104498:=0
def tw14666472106389156787:=0
def tw17161113921777004380:=0
def tw2462204537173105811:=0
def tw3829032105621383770:=0
def tw2677464228802190767:=0
def tw3132286503409468844:=0
def tw2347022522622124984:=0
def tw13520128315761221030:=0
def tw7819611382417528350:=0
def tw3901050837042219271:=0
def tw3614132902343535032:=0
def tw2392465319600245098:=0
def tw1167290556302488671:=0
def tw7037549487817727681:=0
def tw10242812039752940916:=0
def tw11887350266505456417:=0
def tw11350454318639380910:=0
def tw5994152164262948954:=0
def tw7301140150804444516:=0
def tw6668888645706824896:=0
def tw5464530897577552299:=0
def tw12463269856682935612:=0
def tw18261891946274064536:=0
def tw16265540031679178834:=0
def tw12562013144406796393:=0
def tw11666400117087132936:=0
def tw18287550647082417461:=0
def tw3259171465894711026:=0
def tw11557485977395916025:=0
def tw14435233452976573052:=0
def tw3141834228840939924:=0
def tw12798109846766247225:=0
def tw3097204969445009131:=0
def tw4169962389361130223:=0
def tw11733838562622055132:=0
def tw4026346997852117322:=0
def tw9230638893317678046:=0
def tw391291707576400737:=0
def tw13895616352862686760:=0
def tw1528776482430069617:=0
def tw7831336743481025987:=0
def tw17004866870771438563:=0
def tw15898986512503516897:=0
def tw12886669782838568268:=0
def tw10856976568932088379:=0
def tw206711390781956389:=0
def tw12043059168840082355:=0
def tw10340203111819798636:=0
def tw8309802791945218:=0
def tw4303207578616205980:=0
def tw2332372810685172887:=0
def tw10190761025832552583:=0
def tw16572060902461275693:=0
def tw9657207341497156315:=0
def tw8873043605741365589:=0
def tw14450782261111815285:=0
def tw18213510074024356801:=0
def tw8747876657115731572:=0
def tw979050121381888560:=0
def tw18105908100144788962:=0
def tw10900402698704810924:=0
def tw1911830412330668734:=0
def tw11049395590732842890:=0
def tw1744596674164079248:=0
def tw14696629056619688398:=0
def tw3551938327715651789:=0
def tw17049430008661975230:=0
def tw1652935837339067089:=0
def tw8336989799083201482:=0
def tw18174486509483616272:=0
def tw5288064274571895642:=0
def tw3324467668240101917:=0
def tw352536944824946419:=0
def tw8990642065251049492:=0
def tw4524317150538007606:=0
def tw6653744735641240828:=0
def tw14722972924229891774:=0
def tw1876290328349594958:=0
def tw11656000002189311383:=0
def tw3287736978956170430:=0
def tw2230291399019040439:=0
def tw17867141152208776416:=0
def tw17287236921559604514:=0
def tw8731577955850493017:=0
def tw14335444479489552361:=0
def tw9631128224164134335:=0
def tw14948466160892045193:=0
def tw12979602287654975597:=0
def tw8193176393363504164:=0
def tw17113568714816285109:=0
def tw11820156138090287800:=0
def tw12441359261864624438:=0
def tw12502315659875189991:=0
def tw15582477208026175637:=0
def tw15569305105174086212:=0
def tw14609538756185382884:=0
def tw2866195112392467657:=0
def tw15872155853790715659:=0
def tw14742695802988563406:=0
def tw14002882468831185819:=0
def tw14542310813388056309:=0
def tw10800616684193186728:=0
def tw13076340242017998152:=0
def tw3743208995047330271:=0
def tw13166073337551654793:=0
def tw17982498349813985711:=0
def tw3185333797287011105:=0
def tw4507280266989953182:=0
def tw9178970480411208707:=0
def tw7367743764488257309:=0
def tw8445308760610371394:=0
def tw6993996077133015434:=0
def tw10243703039648750982:=0
def tw3144150265001640396:=0
def tw16108362948315521047:=0
def tw13991830786047921313:=0
def tw14675903945289353700:=0
def tw16475939221236787603:=0
def tw3388461682799596313:=0
def tw5690365573994663118:=0
def tw4515111472295711172:=0
def tw15360128794571109662:=0
def tw5865559538017444921:=0
def tw15945557880101949304:=0
def tw6579368640090743084:=0
def tw11896803591255995021:=0
def tw7357967310635804845:=0
def tw16816456343461458382:=0
def tw10572388824733414440:=0
def tw9192578676583297328:=0
def tw8885766316622518866:=0
def tw10145493164953725540:=0
def tw9485828374871344912:=0
def tw3091836506760765868:=0
def tw9291129504194571807:=0
def tw8636435255365856513:=0
def tw16712648541753791906:=0
def tw17351163657597010850:=0
def tw17748617281748123949:=0
def tw3398203331387612243:=0
def tw3029057520981198441:=0
def tw14010293298417388346:=0
def tw11778771358474159013:=0
def tw18276510756256709192:=0
def tw4295930848007807397:=0
def tw3177965837603977803:=0
def tw10134389414120174829:=0
def tw13467020800040035504:=0
def tw15962943443313337353:=0
def tw16070684662948475207:=0
def tw9772848964238692172:=0
def tw12532700761757404105:=0
def tw2412166561756687204:=0
def tw5288309701976134058:=0
def tw2188755330606957889:=0
def tw15991551167373558764:=0
def tw8432825869009062802:=0
def tw2690751357746358182:=0
def tw4954634828480928355:=0
def tw1002221185259686833:=0
def tw11289086646378152893:=0
def tw13853155096990467872:=0
def tw16949077349255180321:=0
def tw15800139053288321078:=0
def tw16982694957877165866:=0
def tw565902588683584449:=0
def tw833423153824667627:=0
def tw10735171978322176392:=0
def tw16917528570437269741:=0
def tw16700826438947994736:=0
def tw3440377065404928234:=0
def tw17495286696495540474:=0
def tw13297265320854079161:=0
def tw13993363246202033097:=0
def tw16387805887363937136:=0
def tw17154297497876577325:=0
def tw7654668348614010735:=0
def tw9671036189571130744:=0
def tw13777254516784619046:=0
def tw8455062257440257123:=0
def tw4519219720233921138:=0
def tw12979136473794399328:=0
def tw2078622307261814432:=0
def tw8633131828890704287:=0
def tw17406996368123416260:=0
def tw10852774055627619343:=0
def tw17778393195013289286:=0
def tw17162844491767503942:=0
def tw15081951836640897528:=0
def tw10864671689157869633:=0
def tw17203066416388872046:=0
def tw18203441060251135826:=0
def tw13350737659616415929:=0
def tw11069449201390440185:=0
def tw11290416603367771689:=0
def tw3824630893497322307:=0
def tw14961236459190574539:=0
def tw8367970277017207113:=0
def tw10710665518365023196:=0
def tw13311771902681530490:=0
def tw18321865614436046028:=0
def tw9299036685220286006:=0
def tw3541915123480961963:=0
def tw14072912619050212579:=0
def tw6439585086851219407:=0
def tw14961224174193208559:=0
def tw10175623676677862540:=0
def tw3495284098315150555:=0
def tw17733640260364558168:=0
def tw2615805738629778838:=0
def tw17591034820870754510:=0
def tw15965548437280053172:=0
def tw14432891818568776468:=0
def tw13337899045063476338:=0
def tw8813618659373762903:=0
def tw6220749532345585243:=0
def tw7930459726295806419:=0
def tw12174984111052163987:=0
def tw14994839370663405217:=0
def tw1104030243177541075:=0
def tw1530802484146814414:=0
def tw12170382006529299030:=0
def tw8069764266377161568:=0
def tw13589028236121788449:=0
def tw2049002730643097795:=0
def tw11593859316867228224:=0
def tw16463809089028407732:=0
def tw9331635206986786529:=0
def tw157102932042516580:=0
def tw11134668898917627726:=0
def tw17272013190662189787:=0
def tw5096856580989173420:=0
def tw13940228648160311692:=0
def tw7619440335367206080:=0
def tw14729735851164845124:=0
def tw9172319566652240593:=0
def tw7102939283869962522:=0
def tw2115598995664807277:=0
def tw14631054221039149578:=0
def tw10641805978487270222:=0
def tw16709998686231917771:=0
def tw10076619222085898259:=0
def tw8450576955715375705:=0
def tw11522369153047053891:=0
def tw7607451796512762573:=0
def tw8759182494394726082:=0
def tw4218825264445344244:=0
def tw765675994769616499:=0
def tw7369993896039849001:=0
def tw1681467537625660802:=0
def tw10392237717857233071:=0
def tw13565150114607078922:=0
def tw5300543263083684563:=0
def tw11675869494028788279:=0
def tw7025390782661562473:=0
def tw13861716980152044907:=0
def tw18332211534695550129:=0
def tw15639956329176167278:=0
def tw11358439106863303035:=0
def tw6645660893880066901:=0
def tw1358651610140476960:=0
def tw16041109705356478034:=0
def tw7116305300226407608:=0
def tw14915025612209084034:=0
def tw10307933062568481612:=0
def tw9058946210470801214:=0
def tw16371495391804875472:=0
def tw12400349665611640752:=0
def tw15212932267058284775:=0
def tw18280803209265431280:=0
def tw4259858663537802293:=0
def tw8403776877133280714:=0
def tw13397072616256510578:=0
def tw7805046099692193430:=0
def tw6294696902294000329:=0
def tw10140733430836486946:=0
def tw15605099841848664553:=0
def tw8079170702036527736:=0
def tw13668994382504208631:=0
def tw2338854207793577634:=0
def tw6734954975395667117:=0
def tw13677357069104256639:=0
def tw18239549859441793646:=0
def tw385075300351600223:=0
def tw14529721850322877124:=0
def tw16030371610699185535:=0
def tw10630774181025213542:=0
def tw7614310015252520465:=0
def tw14924191409681732049:=0
def tw776468568301539223:=0
def tw11184195369584976434:=0
def tw1304801368022686917:=0
def tw3809838996836952430:=0
def tw11384284998105333692:=0
def tw11166801927065187628:=0
def tw8760300894829464822:=0
def tw10578617661566241909:=0
def tw7585602373578795145:=0
def tw13957845003832051912:=0
def tw18173396743246934760:=0
def tw12459918991077477266:=0
def tw6156339624443780472:=0
def tw1474491102369077639:=0
def tw16367379250480535681:=0
def tw16091499987971295047:=0
def tw5499690867908598829:=0
def tw10606450609052868273:=0
def tw12785211716702437519:=0
def tw16730585885799059527:=0
def tw5681798660976148809:=0
def tw5946344291023606872:=0
def tw7209272082374316253:=0
def tw7962883563739210994:=0
def tw7966334350116594679:=0
def tw14614242125467932532:=0
def tw9706933309239363846:=0
def tw10522020994022468833:=0
def tw4258118139928953224:=0
def tw18284628002400795203:=0
def tw10810663276413470444:=0
def tw13880077788944654618:=0
def tw13644538141780283834:=0
end PySem.W.Fast
open PySem PySem.W PyProof.Rows
set_option maxHeartbeats 0 in
theorem PySem.Challenge.cw_pointsure_k55_outs_and_what_they_lead_to_holds : PySem.Challenge.rw_pointsure_k55_outs_and_what_they_lead_to.Holds := by
  w_on; o_law; k_head; (case hw => w_witness2)
  k_fill
  refine L2.En (l := PySem.Challenge.rw_pointsure_k55_outs_and_what_they_lead_to) (n := 63) (k := 9) (x := "_law_script") (f := K55.DQ) rfl (by decide) rfl ⟨rfl, by decide, by decide⟩ (fun w h Y => PySem.W.kIn_of Y) ?F K55.Iu
  case F =>
    intro w mg fa h KX G hmg
    refine K55.M8 ?zM hmg
    constructor
    all_goals first
   |(refine PySem.W.mg_none_of KX G ?_;first|k_is|decide)
   |(apply L2.OR<;>first|k_is|decide)
   |(apply L2.fnAt KX G<;>first|k_is|decide)
   |(apply L2.Q9<;>first|k_is|decide)
   |(apply L2.MW KX G<;>first|k_is|decide)
   |(apply K55.tI KX G<;>first|k_is|decide)
   |(apply K55.vK KX G<;>first|k_is|decide)
   |(apply K55.E9 KX G<;>first|k_is|decide)
   |(apply K55.CM KX G<;>first|k_is|decide)
   |(apply L2.intAt KX G<;>first|k_is|decide)
