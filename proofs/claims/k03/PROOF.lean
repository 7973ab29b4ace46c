import PyProof.Rows.All
import Wide.All
import OpenK.AllK
import Wide.FinOn
import Lean
import PyProof.EqAt
import PyProof.EqKinds
import PyProof.TupleCall
import PyProof.ExcInit
import PyProof.ExcClass3
import PyProof.StationsW
import PyProof.ExcArgs
import PyProof.NsDelKeeps
import KE.KRevIter
import KE.KRevSl
import PyProof.AttrMissHeap
import PySem.Challenge.RW_pointsure_k03_told_nowhere
noncomputable section
abbrev Od:=Option PySem.PyData
abbrev Lp:=List PySem.PyData
abbrev Lr:=List PySem.Str
abbrev Lw:=List PySem.Value
abbrev Ow:=Option PySem.Value
abbrev Ax:=List (PySem.Addr × PySem.Obj)
abbrev Px:=PySem.Value → PySem.Shared → Prop
abbrev Lx:=List PySem.Expr
abbrev Fg:=PySem.W.Frag
set_option Elab.async false
set_option linter.all false
set_option maxRecDepth 100000
set_option maxHeartbeats 4000000
def aa:=@PySem.wpAny_bind
def ae:=@List.map_cons
def af:=@PySem.Heap.get?_push_of_some
def ag:=@List.mem_cons
def ah:=@List.length_map
def ai:=@if_pos
def aj:=@List.mem_cons_of_mem
def ak:=@Option.map_eq_some_iff
def ao:=@if_neg
def aq:=@List.mem_map
def ar:=@PySem.wpAny_pure
def au:=@List.mem_append_right
def av:=@PySem.Heap.lt_size
def aw:=@List.mem_append
def ax:=@List.getElem?_set_ne
def ay:=@List.length_cons
def az:=@List.size_toArray
def aA:=@decide_eq_false
def aB:=@List.length_append
def aC:=@List.mem_append_left
def aD:=@Option.bind_some
def aE:=@List.forall_mem_cons
def aF:=@List.append_nil
def aG:=@PySem.Heap.get?_push_size
def aH:=@Nat.le_refl
def aI:=@Nat.lt_of_lt_of_le
def aJ:=@List.getElem?_map
def aK:=@List.map_append
def aL:=@List.getElem?_set_self
def aM:=@List.getElem?_eq_some_iff
def aN:=@Nat.ne_of_lt
def aO:=@List.getElem?_eq_getElem
def aP:=@PySem.Heap.get?_update_other
def aQ:=@List.append_assoc
def aR:=@Bool.false_ne_true
def aS:=@List.getElem?_append_right
def aT:=@PySem.SeqAt.canLay_of_shaped
def aU:=@List.all_eq_true
def aV:=@List.not_mem_nil
def aW:=@List.perm_append_comm
def aX:=@decide_eq_true
def aY:=@beq_eq_false_iff_ne
def aZ:=@Nat.lt_irrefl
def a0:=@True.intro
def a6:=@PySem.Heap.get?_update_self
def a7:=@List.nodup_append
def a8:=@List.cons_append
def a9:=@List.map_nil
def bc:=@List.mem_cons_self
def bf:=@PySem.wpAny_holding
def bh:=@List.lookup_cons
def bj:=@List.nodup_cons
def bp:=@List.nil_append
def bq:=@List.getElem?_cons_zero
def br:=@List.length_pos_iff
def bt:=@List.getElem?_append_left
def bu:=@Nat.le_trans
def bw:=@List.mem_filterMap
def bx:=@PySem.wpAny_Call_Name_kw
def bA:=@PyProof.Rows.slot_tuple_getitem
def bB:=@Option.some.inj
def bC:=@PySem.PassesOwn.never
def bD:=@Bool.and_eq_true
def bE:=@PySem.mem_of_lookup
def bF:=@PySem.wpAny_mono
def bG:=@PyProof.Rows.callWith_type1
def bH:=@List.getElem?_replicate
def bJ:=@List.getElem?_cons_succ
def bK:=@congrArg
def bL:=@PySem.Calls.spliced_cons
def bM:=@List.any_cons
def bN:=@List.replicate_succ
def bO:=@List.find?_cons
def bP:=@Or.inr
def bQ:=@PySem.Calls.spliced_nil
def bR:=@decide_eq_true_eq
def bT:=@List.filterMap_cons
def bU:=@List.mem_filter
def bV:=@PySem.wpAny_field
def bW:=@Option.map_some
def bX:=@List.getElem?_eq_none
def bY:=@beq_iff_eq
def bZ:=@Bool.false_eq_true
def b0:=@Option.join_some
def b5:=@PySem.lookup_relabel_local
def b6:=@PySem.Around.under_plainId
def b7:=@PySem.F.plainAttrs_list
def b8:=@PySem.wpAny_execs_nil
def b9:=@PySem.F.plain_extend_loop
def cb:=@or_false
def cf:=@Nat.le_add_right
def cg:=@Or.inl
def cj:=@PySem.F.slot_dict_get
def cm:=@List.drop_eq_getElem_cons
def cp:=@PySem.wpAny_passesOwn
def cq:=@PySem.codeAny_builtin
def cu:=@PySem.wpAny_updateSeq
def cv:=@PySem.wpAny_truthy_bool
def cw:=@PySem.codeAny_mono
def cx:=@PySem.wpAny_typeOf
def cy:=@PySem.wpAny_newObj_type
def cz:=@List.flatten_cons
def cA:=@PySem.call_meets
def cB:=@Array.length_toList
def cC:=@PyProof.Rows.callWith_builtin1
def cD:=@PySem.wpAny_callSpecial?_slot
def cE:=@List.getElem_mem
def cF:=@Nat.ne_of_gt
def cG:=@PySem.Calls.callWith_builtin
def cH:=@PySem.tupleKind_room_in1
def cI:=@Array.getElem?_eq_none
def cJ:=@PySem.plainId_quiet
def cK:=@Bool.beq_comm
def cL:=@List.Perm.append_left
def cM:=@PySem.Str.length_append
def cN:=@Function.comp_def
def cO:=@PySem.Calls.Name_function_global
def cP:=@List.mem_of_getElem?
def cQ:=@if_true
def cR:=@List.map_map
def cS:=@PySem.F.args_tuple_add_2
def cT:=@Bool.or_false
def cU:=@PySem.wpAny_comprehension_free
def cV:=@PySem.F.entry_tuple_add
def cW:=@PySem.F.args_dict_get_2
def cX:=@Nat.le_of_lt
def cY:=@PySem.wpAny_pyNext_list_item
def cZ:=@PySem.wpAny_pyIter_list
def c9:=@PySem.F.slot_tuple_add
def de:=@PySem.F.entry_dict_get
def df:=@PySem.Str.ofString_eq_toList
def dh:=@List.Perm.append_right
def dk:=@Int.toNat_natCast
def dm:=@PySem.wpAny_nextOf_list_item
def dn:=@Nat.zero_add
def du:=@PySem.wpAny_pyNext_list_end
def dv:=@PySem.builtinLookup_eq_fast
def dw:=@List.singleton_append
def dy:=@Nat.lt_succ_self
def dz:=@List.length_take
def dA:=@PySem.wpAny_call_entry
def dB:=@PySem.typeIs_str
def dD:=@Nat.le_of_not_lt
def dE:=@Array.toList_inj
def dF:=@List.range'_succ
def dG:=@Iff.rfl
def dH:=@Nat.zero_le
def dJ:=@if_false
def dM:=@PySem.Calls.evalArgs_plain
def dN:=@PySem.wpAny_specialOf
def dO:=@List.forIn_cons
def dP:=@PySem.F.slot_zip_next
def dQ:=@PyProof.Rows.canLayAll_strs'
def dR:=@List.dropLast_concat_getLast
def dS:=@ne_true_of_eq_false
def dU:=@Array.getElem?_push
def dW:=@List.flatMap_append
def dX:=@Nat.lt_trans
def dY:=@PySem.Heap.size_push
def dZ:=@List.filterMap_map
def d3:=@List.forIn_nil
def d4:=@PySem.F.args_str_split_2
def d5:=@PySem.F.slot_str_partition
def d6:=@PySem.F.type_str_partition
def d7:=@List.take_succ
def d8:=@List.mem_or_eq_of_mem_set
def d9:=@Option.isSome_map
def ej:=@PySem.F.entry_str_split
def eA:=@List.flatMap_cons
def eC:=@PySem.Paired.length
def eD:=@PySem.noFill_tuple_add
def eE:=@Nat.min_le_right
def eG:=@PySem.F.plainAttrs_dict
def eI:=@PySem.F.slot_str_split
def eJ:=@beq_self_eq_true
def eK:=@decide_eq_false_iff_not
def eN:=@PySem.concat_meets
def eO:=@PySem.wpAny_rule
def eP:=@List.of_mem_zip
def eQ:=@List.length_set
def eS:=@List.length_nil
def eU:=@PySem.typeLookup_type
def eV:=@Bool.or_eq_true
def eW:=@PySem.F.type_dict_get
def eX:=@List.nodup_nil
def eY:=@PySem.wpAny_seqItems
def eZ:=@PySem.Str.cps_append
def e9:=@Int.toNat_of_nonneg
open Option renaming some→Y
open Option renaming none→Z
open PySem renaming PyData→fe
variable  {x t c:PySem.Str}{u:PySem.Value}{a C:PySem.Addr}{w:PySem.World}{h:PySem.Heap}{α:Type}{e tg:PySem.Expr}{pins:Ax}{s:PySem.Shared}{i n:Nat}{A:PySem.Around}{E:Px}{pos:PySem.Pos}{st:PySem.Stmt}{es:Lx}{R:PySem.Result->PySem.Shared->Prop}{r kF:List (PySem.PyData×PySem.PyData)}{mg:PySem.Str->Ow}{fd:PySem.FuncData}{ds:Lp}{kindOf:PySem.Str->Option PySem.NameKind}{scope:PySem.Scope}{d:PySem.PyData}{caps:List (Nat×PySem.Str)}{dp:Bool}{O:List Nat}{F:List (PySem.Str×PySem.PyData)}
local macro_rules
| `(zZ $a) => `(PySem.Str.ofString $a)
| `(zD 0) => `(by decide +kernel)
| `(zK 0) => `(by kernel_rfl)
| `(zB $s) => `(($s).heap.objs.size)
| `(zg $x) => `(($x == ("__debug__" : PySem.Str)) = false)
| `(zE $e $s $x) => `(PySem.starEach ($e :: $s) ($x).env = (false, PySem.eval $e ($x).env) :: PySem.starEach $s ($x).env)
| `(zy $a $n) => `({ cls := .type "tuple", data := .seq $a $n })
| `(zl $a $n) => `({ cls := .type "list", data := .seq $a $n })
| `(zw $x) => `(PySem.wpAny (PySem.model ($x).prog ($x).w) ($x).A)
namespace L2
open PySem PySem.Spec PyProof.Rows
abbrev Key:=Sum Int Str
def yT:Key->Value->Bool
 |.inl k,v=>Value.isInt k v
 |.inr x,v=>Value.isStrOf x v
def Qx(w:World):Key->Int
 |.inl k=>hashInt k
 |.inr x=>hashStr w x
theorem iK:∀{k:Key}{v:Value},yT k v=true->(∃i t,k=Sum.inl i/\v=Value.int i t)\/(∃x t,k=Sum.inr x/\v=Value.str x t)
 |.inl i,v,h=>by obtain⟨t,e⟩:=Value.isInt_shape (k:=i) (v:=v) h;exact .inl ⟨i,t,rfl,e⟩
 |.inr x,v,h=>by obtain⟨t,e⟩:=Value.isStrOf_shape (x:=x) (v:=v) h;exact .inr ⟨x,t,rfl,e⟩
theorem Hz(i:Int)(t:Tok):yT (.inl i) (.int i t)=true:=by simp[yT,Value.isInt]
theorem HA(x:Str)(t:Tok):yT (.inr x) (.str x t)=true:=by simp[yT,Value.isStrOf]
theorem Qy(a b:Int):decide ((Sum.inl a:Key)=Sum.inl b)=(a==b):=by
 by_cases e:a=b
 ·subst e;simp
 ·have h:¬ (Sum.inl a:Key)=Sum.inl b:=λq=>e (Sum.inl.inj q);rw[aA h];exact(aY.mpr e).symm
theorem Qz(a b:Str):decide ((Sum.inr a:Key)=Sum.inr b)=decide (a=b):=by
 by_cases e:a=b
 ·subst e;simp
 ·have h:¬ (Sum.inr a:Key)=Sum.inr b:=λq=>e (Sum.inr.inj q);rw[aA h,aA e]
theorem QA(a:Int)(b:Str):decide ((Sum.inl a:Key)=Sum.inr b)=false:=aA (λq=>nomatch q)
theorem QB(a:Str)(b:Int):decide ((Sum.inr a:Key)=Sum.inl b)=false:=aA (λq=>nomatch q)
def gL(c:Program)(w:World):PySem.KeyKind c w Key where
 is:=yT
 hash:=Qx w
 inj:=λv a b m g=>by
  rcases iK m with ⟨i,t,rfl,rfl⟩ | ⟨x,t,rfl,rfl⟩
  ·rcases iK g with ⟨j,u,rfl,e⟩ | ⟨y,u,rfl,e⟩
   ·injection e with d _;rw[d]
   ·exact nomatch e
  ·rcases iK g with ⟨j,u,rfl,e⟩ | ⟨y,u,rfl,e⟩
   ·exact nomatch e
   ·injection e with d _;rw[d]
 byValue:=λk v h=>by rcases iK h with ⟨i,t,rfl,rfl⟩ | ⟨x,t,rfl,rfl⟩<;>rfl
 pyHash:=λf h=>by
  rcases iK f with ⟨i,t,rfl,rfl⟩ | ⟨x,t,rfl,rfl⟩
  ·exact wpAny_pyHash_int h
  ·exact wpAny_pyHash_str h
 eqBool:=λl f h=>by
  rcases iK l with ⟨i,t,rfl,rfl⟩ | ⟨x,t,rfl,rfl⟩
  ·rcases iK f with ⟨j,u,rfl,rfl⟩ | ⟨y,u,rfl,rfl⟩
   ·rw[Qy] at h;exact wpAny_eqBool_int h
   ·rw[QA] at h;exact SeqAt.EqAt.int_str i t y u _ _ _ _ h
  ·rcases iK f with ⟨j,u,rfl,rfl⟩ | ⟨y,u,rfl,rfl⟩
   ·rw[QB] at h;exact SeqAt.EqAt.str_int x t j u _ _ _ _ h
   ·rw[Qz] at h;exact wpAny_eqBool_str h
 «strs»:=λk x t v h=>by
  rcases iK h with ⟨i,u,rfl,e⟩ | ⟨y,u,rfl,e⟩
  ·exact nomatch e
  ·injection e with d _;subst d;cases v<;>rfl
theorem B0(a:Program)(w:World)(i:Int)(t:Tok):(gL a w).is (.inl i) (.int i t)=true:=Hz i t
theorem qv(a:Program)(w:World)(x:Str)(t:Tok):(gL a w).is (.inr x) (.str x t)=true:=HA x t
end L2
variable  {xs:List (List L2.Key×PySem.Addr×PySem.Value)}
namespace L2
open PySem PySem.Spec PyProof.Rows
inductive V where
 |lP|bl (b:Bool)|int (i:Int)|str (x:Str)|SY (b:Array UInt8)|Vu (b:UInt64)|ref (a:Addr)|ty (n:String)
 deriving DecidableEq
def gv:V->Value->Prop
 |.lP,u=>u=Value.none
 |.bl b,u=>u=Value.bool b
 |.int i,u=>∃t,u=Value.int i t
 |.str x,u=>∃t,u=Value.str x t
 |.SY b,u=>∃t,u=Value.bytes b t
 |.Vu b,u=>∃t,u=Value.float b t
 |.ref a,u=>u=Value.ref a
 |.ty n,u=>u=Value.type n
abbrev f7:List V->List Value->Prop:=Paired gv
theorem f7.length{xs:List V}{a:Lw}(r:f7 xs a):xs.length=a.length:=eC r
theorem f7.get:∀{a:List V}{b:Lw}{i:Nat}{x:V},f7 a b->a[i]?=Y x->∃u,b[i]?=Y u/\gv x u
 |_,_,_,_,.nil,e=>by simp at e
 |_,_,0,_,.cons r _,e=>by simp at e;subst e;exact⟨_,rfl,r⟩
 |_,_,i+1,x,.cons _ t,e=>by obtain⟨u,d,c⟩:=f7.get (i:=i) (x:=x) t (by simpa using e);exact⟨u,by simpa using d,c⟩
theorem f7.set{x:V}{u:Value}(r:gv x u):∀{a:List V}{b:Lw} (i:Nat),f7 a b->f7 (a.set i x) (b.set i u)
 |_,_,_,.nil=>.nil
 |_,_,0,.cons _ t=>.cons r t
 |_,_,i+1,.cons q t=>.cons q (f7.set r i t)
theorem f7.append:∀{b a:List V}{d c:Lw},f7 b d->f7 a c->f7 (b++a) (d++c)
 |_,_,_,_,.nil,s=>s
 |_,_,_,_,.cons r t,s=>.cons r (f7.append t s)
theorem f7.take:∀{xs:List V}{a:Lw} (n:Nat),f7 xs a->f7 (xs.take n) (a.take n)
 |_,_,0,_=>.nil
 |_,_,_+1,.nil=>.nil
 |_,_,n+1,.cons r t=>.cons r (f7.take n t)
theorem f7.drop:∀{a:List V}{b:Lw} (n:Nat),f7 a b->f7 (a.drop n) (b.drop n)
 |_,_,0,r=>r
 |_,_,_+1,.nil=>.nil
 |_,_,n+1,.cons _ t=>f7.drop n t
def qi:Option V->Ow->Prop
 |some v,Y u=>gv v u
 |none,Z=>True
 |_,_=>False
def KV{κ:Type}:List (κ×V)->List (κ×Value)->Prop:=Paired λ(p:κ×V) (q:κ×Value)=>p.1=q.1/\gv p.2 q.2
noncomputable def kV:Key->V
 |.inl i=>.int i
 |.inr x=>.str x
inductive HO where
 |lst (xs:List V)
 |tup (xs:List V)
 |dK (kF:List (Key×V))|dT (kF:List (List Key×V))
 |set (S:Int->Bool) (n:Nat)
 |ins (C dx:Addr) (fs:List (Str×V))
 |own (x:Addr)
 |xd (fs:List (Str×V))
 |met (f x:Addr)
 |S0 (lo hi:Int)
 |Ja (o:Obj) (u:HO)
 |MJ (ps:Array Value)
 |ext (φ:Heap->Prop)
abbrev Hp:=Addr->Option HO
def upd(H:Hp)(a:Addr)(o:HO):Hp:=λb=>if b=a then Y o else H b
theorem fX{H:Hp}{o:HO}:upd H a o a=Y o:=by unfold upd;rw[ai rfl]
theorem fK{H:Hp}{b:Addr}{o:HO}(h:b≠a):upd H a o b=H b:=by unfold upd;rw[ao h]
theorem Th{H:Hp}{b:Addr}{o u:HO}(h:H a=Y o)(c:H b=Y u)(d:o≠u):a≠b:=by intro e;subst e;rw[h] at c;exact d (bB c)
theorem gC{H:Hp}{b:Addr}{o:HO}(h:H a=Y o)(h':H b=Z):a≠b:=by intro e;subst e;rw[h] at h';cases h'
section
variable (P:Program) (w:World)
def jh(H:Hp)(h:Heap)(a:Addr):HO->Prop
 |.lst xs=>xs.length<=sizeLine/\∃(b:Lw) (n:Nat),f7 xs b/\h.get? a=Y (zl b.toArray n)
 |.tup xs=>xs.length<=sizeLine/\∃b:Lw,f7 xs b/\IsTup h a b.toArray
 |.dK kF=>kF.length<=sizeLine/\(a==sysModules)=false/\∃d,KV kF d/\h.DictOf (gL P w) a d
 |.dT kF=>kF.length<=sizeLine/\(a==sysModules)=false/\∃xs:List (List Key×Addr×Value),
   Paired (λ(p:List Key×V) (q:List Key×Addr×Value)=>p.1=q.1/\H q.2.1=Y (.tup (p.1.map kV))/\gv p.2 q.2.2) kF xs /\
   ∃o i j,h.get? a=Y o/\o.ExactDict/\o.data=.dict i j/\i.toList=xs.map (entryOfKey (tupleKind (gL P w)))/\(xs.map (·.1)).Nodup
 |.set S n=>h.SetOf (intKind P w) a S n
 |.ins C dx fs=>H dx=Y (.own a)/\fs.length<=1000/\dx≠a/\h.get? a=Y (W.instObj C dx) /\
   ∃c,h.Ns1 dx c/\(∀f,qi (fs.lookup f) (c f))/\PySem.Within c (fs.map (·.1))
 |.own _=>∃o,h.get? a=Y o
 |.xd fs=>∃c,h.Ns1 a c/\∀f,qi (fs.lookup f) (c f)
 |.S0 lo hi=>∃t u v,h.get? a=Y { cls:=.type "range",data:=.fields #[.int lo t,.int hi u,.int 1 v] }
 |.Ja o u=>h.get? a=Y o/\jh H h a u
 |.MJ ps=>h.get? a=Y { cls:=.none,data:=.fields ps }
 |.met f x=>h.get? a=Y (W.methodObj (.ref f) (.ref x))
 |.ext φ=>φ h/\(∃o,h.get? a=Y o)/\∀g e:Heap,φ g->(∀o,g.get? a=Y o->e.get? a=Y o)->φ e
def qj(H:Hp)(h:Heap):Prop:=∀a o,H a=Y o->jh P w H h a o
end
section
variable {P:Program}{H H':Hp}{h':Heap}{o:HO}
theorem jh.lt(x:jh P w H h a o):a<h.objs.size:=by
 cases o with
 |lst c=>obtain⟨_,_,_,_,e⟩:=x;exact av e
 |tup c=>obtain⟨_,_,_,p⟩:=x;exact p.lt
 |dK b=>obtain⟨_,_,_,_,o,_,_,e,_⟩:=x;exact av e
 |dT b=>obtain⟨_,_,_,_,o,_,_,e,_⟩:=x;exact av e
 |set S n=>obtain⟨o,_,_,_,e,_⟩:=x;exact av e
 |ins C l d=>obtain⟨_,_,_,e,_⟩:=x;exact av e
 |own y=>obtain⟨_,e⟩:=x;exact av e
 |xd d=>obtain⟨_,⟨_,_,_,e,_⟩,_⟩:=x;exact av e
 |S0 j k=>obtain⟨_,_,_,e⟩:=x;exact av e
 |Ja i u=>obtain⟨e,_⟩:=x;exact av e
 |MJ g=>exact av (show h.get? a=Y _ from x)
 |met f y=>exact av (show h.get? a=Y _ from x)
 |ext φ=>obtain⟨_,⟨_,e⟩,_⟩:=x;exact av e
theorem Paired.QC{α β:Type}{F G:α->β->Prop}:∀{d:List α}{c:List β},Paired F d c->(∀a b,F a b->G a b)->Paired G d c
 |_,_,.nil,_=>.nil
 |_,_,.cons r t,f=>.cons (f _ _ r) (Paired.QC t f)
theorem jh.uq(x:jh P w H h a o) (k:∀b u,(b=a\/H b=Y (.own a))->h.get? b=Y u->h'.get? b=Y u)
  (J:∀b,H b=Y (.own a)->H' b=Y (.own a)) (I:∀b xs,H b=Y (.tup xs)->H' b=Y (.tup xs)):jh P w H' h' a o:=by
 induction o with
 |lst xs=>obtain⟨z,l,n,r,e⟩:=x;exact⟨z,l,n,r,k _ _ (.inl rfl) e⟩
 |tup xs=>obtain⟨z,l,r,g,e,c⟩:=x;exact⟨z,l,r,g,k _ _ (.inl rfl) e,c⟩
 |dK A=>obtain⟨z,y,E,r,g,i,j,e,c⟩:=x;exact⟨z,y,E,r,g,i,j,k _ _ (.inl rfl) e,c⟩
 |dT A=>obtain⟨z,y,xs,r,g,i,j,e,c⟩:=x;exact⟨z,y,xs,Paired.QC r λp q z=>⟨z.1,I _ _ z.2.1,z.2.2⟩,g,i,j,k _ _ (.inl rfl) e,c⟩
 |set S n=>obtain⟨g,i,j,t,e,c⟩:=x;exact⟨g,i,j,t,k _ _ (.inl rfl) e,c⟩
 |ins C O K=>obtain⟨d,z,F,e,s,⟨m,i,j,L,c⟩,r⟩:=x;exact⟨J _ d,z,F,k _ _ (.inl rfl) e,s,⟨m,i,j,k _ _ (.inr d) L,c⟩,r⟩
 |own y=>obtain⟨g,e⟩:=x;exact⟨g,k _ _ (.inl rfl) e⟩
 |xd K=>obtain⟨s,⟨m,i,j,e,c⟩,r⟩:=x;exact⟨s,⟨m,i,j,k _ _ (.inl rfl) e,c⟩,r⟩
 |S0 M N=>obtain⟨t,u,v,e⟩:=x;exact⟨t,u,v,k _ _ (.inl rfl) e⟩
 |Ja g u G=>obtain⟨e,q⟩:=x;exact⟨k _ _ (.inl rfl) e,G q⟩
 |MJ D=>have e:h.get? a=Y { cls:=.none,data:=.fields D }:=x;show h'.get? a=Y { cls:=.none,data:=.fields D };exact k a _ (.inl rfl) e
 |met f y=>have e:h.get? a=Y (W.methodObj (.ref f) (.ref y)):=x;show h'.get? a=Y (W.methodObj (.ref f) (.ref y));exact k a _ (.inl rfl) e
 |ext φ=>obtain⟨p,⟨o,e⟩,B⟩:=x;exact⟨B _ _ p λo q=>k _ _ (.inl rfl) q,⟨o,k _ _ (.inl rfl) e⟩,B⟩
theorem qj.lt(x:qj P w H h)(e:H a=Y o):a<h.objs.size:=(x a o e).lt
theorem qj.fresh(x:qj P w H h)(e:h.objs.size<=a):H a=Z:=by
 cases q:H a with
 |none=>rfl
 |some u=>exact absurd (aI (x.lt q) e) (aZ _)
theorem qj.kept(x:qj P w H h)(k:∀b u,h.get? b=Y u->h'.get? b=Y u):qj P w H h':=λa o e=>
 (x a o e).uq (λb u _ q=>k b u q) (λ_ q=>q) λ_ _ q=>q
theorem qj.laid(x:qj P w H h)(k:∀b u,h.get? b=Y u->h'.get? b=Y u)(i:h.objs.size<=a)(d:jh P w (upd H a o) h' a o):qj P w (upd H a o) h':=λb u e=>by
 have f:=x.fresh i;by_cases g:b=a
 ·subst g;rw[fX] at e;cases e;exact d
 ·rw[fK g] at e;exact(x b u e).uq (λc v _ q=>k c v q) (λc q=>by rw[fK (gC q f)];exact q) λc j q=>by rw[fK (gC q f)];exact q
end
def Rd(H:Hp)(a:Addr)(u:HO):Prop:=H a=Y u\/∃o,H a=Y (.Ja o u)
theorem Rd.ok{P:Program}{H:Hp}{u:HO}(r:Rd H a u)(x:qj P w H h):jh P w H h a u:=by
 rcases r with r | ⟨o,r⟩
 ·exact x a u r
 ·obtain⟨_,q⟩:=x a _ r;exact q
def Ti:Option HO->Prop
 |some (.lst _)=>True
 |some (.dK _)=>True
 |some (.dT _)=>True
 |some (.set _ _)=>True
 |some (.ins _ _ _)=>True
 |some (.ext _)=>True
 |_=>False
section
variable {P:Program}{H:Hp}{h':Heap}{x e:Addr}{o':HO}
theorem qj.write(p:qj P w H h) (i:Ti (H x)) (o:e=x\/H e=Y (.own x)) (k:∀b u,b≠e->h.get? b=Y u->h'.get? b=Y u) (m:∃u,h'.get? e=Y u)
  (l:jh P w (upd H x o') h' x o'):qj P w (upd H x o') h':=λb u q=>by
 have d:∀c y,H c=Y (.own y)->c≠x:=λc y r z=>by subst z;rw[r] at i;exact i
 have f:∀c g,H c=Y (.tup g)->c≠x:=λc g r z=>by subst z;rw[r] at i;exact i
 by_cases j:b=x
 ·subst j;rw[fX] at q;cases q;exact l
 ·rw[fK j] at q;by_cases a:b=e
  ·have n:H b=Y (.own x):=by
    rcases o with z|z
    ·exact absurd (a.trans z) j
    ·rw[a];exact z
   rw[q] at n;cases n;obtain⟨v,s⟩:=m;exact⟨v,by rw[a];exact s⟩
  ·refine(p b u q).uq (λc v hc r=>k c v ?_ r) (λc r=>by rw[fK (d c b r)];exact r) λc g r=>by rw[fK (f c g r)];exact r
   rcases hc with rfl|hc
   ·exact a
   ·rintro rfl;rcases o with z|z
    ·exact d c b hc z
    ·rw[hc] at z;cases z;exact j rfl
end
structure Un (fs ex:List Addr) (H H':Hp) (h h':Heap):Prop where
 keep:∀b o,h.get? b=Y o->H b=Z->b∉fs->b∉ex->h'.get? b=Y o
 slot:∀b o,h.get? b=Y o->H b=Z->b∈fs->b∉ex->∃sl,h'.get? b=Y { o with slots:=sl }
 free:∀b o,h.get? b=Y o->H b=Z->b∉ex->H' b=Z
 there:∀b o,h.get? b=Y o->b∉ex->∃o',h'.get? b=Y o'
 rR:∀b xs,H b=Y (.tup xs)->H' b=Y (.tup xs)
 qw:∀b o u,H b=Y (.Ja o u)->H' b=Y (.Ja o u)
 sk:∀b ps,H b=Y (.MJ ps)->∃more,H' b=Y (.MJ (ps++more))
section
variable {fs Zk ex ex':List Addr}{H H1 H2:Hp}{h1 h2 h':Heap}{x e:Addr}{o:HO}
theorem Un.any(u:Un fs ex H H1 h h1){b:Addr}{a:Obj}(q:h.get? b=Y a)(n:H b=Z)(c:b∉ex):∃e,h1.get? b=Y { a with slots:=e }:=by
 by_cases d:b∈fs
 ·exact u.slot b a q n d c
 ·exact⟨a.slots,u.keep b a q n d c⟩
theorem Un.kept(k:∀b u,h.get? b=Y u->h'.get? b=Y u):Un fs ex H H h h' :=
 ⟨λb a q _ _ _=>k b a q,λb a q _ _ _=>⟨a.slots,k b a q⟩,λ_ _ _ n _=>n,λb a q _=>⟨a,k b a q⟩,λ_ _ q=>q,λ_ _ _ q=>q,λ_ c q=>⟨#[],by rw[q];simp⟩⟩
theorem Un.refl:Un fs ex H H h h:=Un.kept λ_ _ q=>q
theorem Un.laid(k:∀b u,h.get? b=Y u->h'.get? b=Y u)(e:h.objs.size<=a)(c:H a=Z):Un fs ex H (upd H a o) h h' where
 keep:=λb u q _ _ _=>k b u q
 slot:=λb u q _ _ _=>⟨u.slots,k b u q⟩
 free:=λb u q n _=>by rw[fK (aN (aI (av q) e))];exact n
 there:=λb u q _=>⟨u,k b u q⟩
 rR:=λb d q=>by rw[fK (gC q c)];exact q
 qw:=λb u d q=>by rw[fK (gC q c)];exact q
 sk:=λb f q=>⟨#[],by rw[fK (gC q c),q];simp⟩
theorem Un.write(c:Ti (H x))(m:e=x\/H e=Y (.own x))(k:∀b u,b≠e->h.get? b=Y u->h'.get? b=Y u)(f:∃u,h'.get? e=Y u):Un fs ex H (upd H x o) h h':=by
 have g:∀b,H b=Z->b≠x:=λb n z=>by subst z;rw[n] at c;exact c
 have i:∀b,H b=Z->b≠e:=λb n z=>by
  subst z;rcases m with r|r
  ·exact g b n r
  ·rw[n] at r;cases r
 have d:∀b u,H b=Y u->¬ Ti (Y u)->b≠x:=λb u q l z=>by subst z;rw[q] at c;exact l c
 refine⟨λb u q n _ _=>k b u (i b n) q,λb u q n _ _=>⟨u.slots,k b u (i b n) q⟩,λb u q n _=>by rw[fK (g b n)];exact n,λb u q _=>?_,
  λb j q=>by rw[fK (d b _ q λz=>z)];exact q,λb u j q=>by rw[fK (d b _ q λz=>z)];exact q,λb p q=>⟨#[],by rw[fK (d b _ q λz=>z),q];simp⟩⟩
 by_cases a:b=e
 ·subst a;exact f
 ·exact⟨u,k b u a q⟩
end
noncomputable def Vv(h:Heap)(H:Hp):List Addr:=(List.range h.objs.size).filter λa=>(H a).isSome
def Ah(h:Heap)(H:Hp):Heap:=W.hideAll h (Vv h H)
theorem HB(h:Heap)(H:Hp):(Ah h H).objs.size=h.objs.size:=W.hideAll_size _ _
theorem Jh{H:Hp}{b:Addr}{o:Obj}(e:h.get? b=Y o)(n:H b=Z):(Ah h H).get? b=Y o :=
 W.hideAll_get _ e λa=>by have q:(H b).isSome=true:=(bU.mp a).2;rw[n] at q;simp at q
theorem MK{H:Hp}{b:Addr}{o:Obj}(e:(Ah h H).get? b=Y o):h.get? b=Y o/\H b=Z:=by
 have a:h.get? b=Y o:=W.of_hideAll (Vv h H) e;refine⟨a,?_⟩;cases q:H b with
 |none=>rfl
 |some x=>have c:b∈Vv h H:=bU.mpr ⟨List.mem_range.mpr (av a),by simp[q]⟩;have z:(Ah h H).get? b=Z:=W.hideAll_none (Vv h H) c;rw[z] at e;cases e
noncomputable def ML(g h:Heap)(L:Addr):Ax:=(List.range h.objs.size).filterMap λa=>if a=L\/(g.get? a).isSome=true then Z else (h.get? a).map λo=>(a,o)
noncomputable def rest(g h:Heap)(L d:Addr):Ax:=(ML g h L).filter λp=>decide (p.1≠d)
end L2
variable  {H G:L2.Hp}{v:L2.V}{vs:List L2.V}{B:List (PySem.Addr×L2.HO)}
namespace L2
open PySem PySem.Spec PyProof.Rows
structure Mod (K:Fg) (mg:Str->Ow) (base:Heap):Prop where
 QD:K.In base
 glob:base.Ns mainGlobals mg
 blt:∃mb,base.Ns builtinsNs mb/\∀x:Str,x≠"__name__"->mb x=bootBuiltins x
 nolimit:base.NoLimit
structure Cx where
 prog:Program
 w:World
 K:Fg
 mg:Str->Ow
 base:Heap
 A:Around
 N:Lr
 s₀:Shared
 H₀:Hp
 env:Env
 outer:List Env
 stack:List Env
 ex:List Addr
 fn:Str->Bool
 calm:Bool
 pn:Ax
 xe:Px
noncomputable def vb(l:List Env):List Addr:=l.filterMap (·.frame)
abbrev Cx.fs(X:Cx):List Addr:=vb X.outer
def BY(a:Scope)(x:Str):Prop:=a.names.lookup x=Y .local\/a.names.lookup x=Y .cell\/a.names.lookup x=Y .free
def Ei(a:Scope)(x:Str):Prop:=a.names.lookup x=Y .local\/a.names.lookup x=Y .cell
def Tj(a:Env)(h:Heap)(m:Str->Ow)(x:Str)(u:Value):Prop :=
 (a.kindOf x=Y .local/\m x=Y u)\/((a.kindOf x=Y .cell\/a.kindOf x=Y .free)/\∃c,a.cells.lookup x=Y c/\h.IsCell c (Y u))
structure Cx.Ok (X:Cx):Prop where
 mod:Mod X.K X.mg X.base
 kind:X.env.scope.kind=.function
 glob:X.env.globals=mainGlobals
 blt:X.env.builtins=builtinsNs
 above:(zB X.s₀)<=X.env.locals
 inj:∀x y c,X.env.cells.lookup x=Y c->X.env.cells.lookup y=Y c->x=y
 has:∀x,(X.env.kindOf x=Y .cell\/X.env.kindOf x=Y .free)->∃c,X.env.cells.lookup x=Y c
 S3:∀x c,X.fn x=true->X.env.cells.lookup x=Y c->(zB X.s₀)<=c
 hd:X.calm=true->X.A.handled=Z
 frames:X.A.frames=Y X.stack
 S4:X.stack=X.outer\/(X.stack=X.env::X.outer/\X.env.frame=Y X.env.locals)
 VX:∀b∈X.ex,b≠X.env.locals/\∀x c,X.env.cells.lookup x=Y c->c≠b
 bs:∀b o,X.base.get? b=Y o->X.s₀.heap.get? b=Y o/\X.H₀ b=Z
 MM:X.base.objs.size<=(zB X.s₀)
 HC:∀b o,X.base.get? b=Y o->b∉X.ex
 B4:∀b∈X.ex,b∉X.fs
 qx:X.s₀.heap.FunFrames X.base X.outer
 Jb:∀b∈X.fs,X.H₀ b=Z
structure fD (X:Cx) (pins:Ax) (σ:List (Option V)) (H:Hp) (s:Shared):Prop where
 ok:X.Ok
 os:s.os=X.s₀.os
 bare:AllBare s.gens
 base:Un X.fs X.ex X.H₀ H X.s₀.heap s.heap
 loc:∃m,s.heap.Ns X.env.locals m/\∀(i:Nat) (x:Str) (v:V),X.N[i]?=Y x->σ[i]?=Y (Y v)->BY X.env.scope x->∃u,gv v u/\Tj X.env s.heap m x u
 cell:∀x c,X.env.cells.lookup x=Y c->∃v,s.heap.IsCell c v
 free:H X.env.locals=Z
 mU:∀x c,X.env.cells.lookup x=Y c->H c=Z
 pin:∀p∈X.pn++pins,s.heap.get? p.1=Y p.2/\H p.1=Z/\p.1≠X.env.locals/\p.1∉X.fs/\∀v,p.2.data≠.cell v
 iY:qj X.prog X.w H s.heap
 len:σ.length=X.N.length
section
variable {X:Cx}{σ:List (Option V)}{H':Hp}{h':Heap}
theorem Cx.Ok.VY(a:X.Ok){b:Addr}{o:Obj}(e:X.base.get? b=Y o):b∉X.fs:=λc=>by have:=(a.qx.mem c).1;rw[e] at this;cases this
theorem fD.bs(I:fD X pins σ H s):∀b o,X.base.get? b=Y o->s.heap.get? b=Y o/\H b=Z:=λb o e=>
 ⟨I.base.keep b o (I.ok.bs b o e).1 (I.ok.bs b o e).2 (I.ok.VY e) (I.ok.HC b o e),I.base.free b o (I.ok.bs b o e).1 (I.ok.bs b o e).2 (I.ok.HC b o e)⟩
theorem fD.bk(I:fD X pins σ H s):∀b o,X.base.get? b=Y o->s.heap.get? b=Y o:=λb o e=>(I.bs b o e).1
theorem fD.mod(I:fD X pins σ H s):Mod X.K X.mg X.base:=I.ok.mod
theorem fD.sR(I:fD X pins σ H s):X.K.In s.heap:=I.ok.mod.QD.keeps I.bk
theorem fD.lt(I:fD X pins σ H s):X.env.locals<(zB s):=let ⟨_,a,_⟩:=I.loc;a.lt
theorem fD.sz(I:fD X pins σ H s):(zB X.s₀)<=(zB s):=bu I.ok.above (cX I.lt)
theorem fD.VZ(I:fD X pins σ H s)(h:(zB s)<=a):a∉X.fs:=λc=>by obtain⟨_,o,b,_⟩:=I.ok.qx.mem c;exact absurd (aI (av b) (bu I.sz h)) (aZ _)
theorem fD.Tn(I:fD X pins σ H s):∀x c,X.env.cells.lookup x=Y c->c≠X.env.locals:=λx c e z=>by obtain⟨v,o,d,f⟩:=I.cell x c e;obtain⟨m,⟨g,h,i,a,b,_⟩,_⟩:=I.loc;rw[z,a] at d;cases d;rw[b] at f;cases f
theorem fD.qx(I:fD X pins σ H s):s.heap.FunFrames X.base X.outer:=by
 have d:∀(l:List Env),(∀b∈vb l,b∈X.fs)->X.s₀.heap.FunFrames X.base l->s.heap.FunFrames X.base l:=by
  intro l;induction l with
  |nil=>intro _ _;trivial
  |cons p r g=>intro f k;obtain⟨m,⟨L,o,a,j,i,n⟩,h⟩:=k;have c:L∈X.fs:=f L (by unfold vb;rw[bT,a];exact bc);obtain⟨q,e⟩:=I.base.slot L o i (I.ok.Jb L c) c λz=>I.ok.B4 L z c;exact⟨m,⟨L,_,a,j,e,n⟩,g (λb hb=>f b (by unfold vb;rw[bT,a];exact aj _ hb)) h⟩
 exact d X.outer (λ_ hb=>hb) I.ok.qx
theorem fD.stack(I:fD X pins σ H s):s.heap.FunFrames X.base X.stack:=by
 rcases I.ok.S4 with e | ⟨e,b⟩
 ·rw[e];exact I.qx
 ·rw[e];obtain⟨m,a,_⟩:=I.loc;refine .cons (by rw[I.ok.kind];decide) b a ?_ I.qx;exact Heap.get?_none_of_le (bu I.ok.MM I.ok.above)
theorem fD.Ai(I:fD X pins σ H s):∀b∈vb X.stack,b∈X.env.locals::X.fs:=λb a=>by
 rcases I.ok.S4 with e | ⟨e,c⟩
 ·rw[e] at a;exact aj _ a
 ·rw[e] at a;unfold vb at a;rw[bT,c] at a;exact a
theorem fD.Aj(I:fD X pins σ H s):∀b∈vb X.stack,H b=Z:=λb hb=>by
 rcases ag.mp (I.Ai b hb) with e|hb
 ·rw[e];exact I.free
 ·obtain⟨_,o,a,_⟩:=I.ok.qx.mem hb;exact I.base.free b o a (I.ok.Jb b hb) λz=>I.ok.B4 b z hb
theorem fD.step{g':Array GenState}{t':Nat}{d':Drawn}{ch:List Addr} (I:fD X pins σ H s)
  (j:∀b∈ch,(b∈X.ex\/(zB X.s₀)<=b)/\b≠X.env.locals/\(∀x c,X.env.cells.lookup x=Y c->c≠b)/\∀p∈X.pn++pins,p.1≠b)
  (h:∀b o,b≠X.env.locals->b∉X.fs->b∉ch->s.heap.get? b=Y o->H b=Z->h'.get? b=Y o)
  (B:∀b o,b≠X.env.locals->b∈X.fs->b∉ch->s.heap.get? b=Y o->H b=Z->∃sl,h'.get? b=Y { o with slots:=sl }) (f:∀b o,b∉ch->s.heap.get? b=Y o->H b=Z->H' b=Z)
  (C:∀b o,b∉ch->s.heap.get? b=Y o->∃o',h'.get? b=Y o')
  (F:∀b xs,H b=Y (.tup xs)->H' b=Y (.tup xs)) (K:∀b o u,H b=Y (.Ja o u)->H' b=Y (.Ja o u)) (G:∀b ps,H b=Y (.MJ ps)->∃more,H' b=Y (.MJ (ps++more)))
  (T:∀m,s.heap.Ns X.env.locals m->h'.Ns X.env.locals m) (N:qj X.prog X.w H' h') (hg:AllBare g'):
  fD X pins σ H' { s with heap:=h',gens:=g',drawn:=d',toks:=t' }:=by
 have J:∀b o,X.s₀.heap.get? b=Y o->b≠X.env.locals:=λb o e=>aN (aI (av e) I.ok.above);have y:∀b o,X.s₀.heap.get? b=Y o->b∉X.ex->b∉ch:=λb o e a D=>by
  rcases(j b D).1 with z|z
  ·exact a z
  ·exact absurd (aI (av e) z) (aZ _)
 have t:∀x c,X.env.cells.lookup x=Y c->∀v,s.heap.IsCell c v->h'.IsCell c v:=λx c e v ⟨o,E,O⟩=>by
  have g:c∉ch:=λz=>(j c z).2.2.1 x c e rfl;by_cases S:c∈X.fs
  ·obtain⟨sl,q⟩:=B c o (I.Tn x c e) S g E (I.mU x c e);exact⟨_,q,O⟩
  ·exact⟨o,h c o (I.Tn x c e) S g E (I.mU x c e),O⟩
 refine⟨I.ok,I.os,hg,⟨λb o e n D a=>?_,λb o e n D a=>?_,λb o e n a=>?_,λb o e a=>?_,λb xs e=>F b xs (I.base.rR b xs e),λb o xs e=>K b o xs (I.base.qw b o xs e),λb ps e=>?_⟩,?_,λx c e=>?_,?_,λx c e=>?_,λp R=>?_,N,I.len⟩
 ·exact h b o (J b o e) D (y b o e a) (I.base.keep b o e n D a) (I.base.free b o e n a)
 ·obtain⟨sl,A⟩:=I.base.slot b o e n D a;obtain⟨M,L⟩:=B b _ (J b o e) D (y b o e a) A (I.base.free b o e n a);exact⟨M,L⟩
 ·obtain⟨o',A⟩:=I.base.there b o e a;exact f b o' (y b o e a) A (I.base.free b o e n a)
 ·obtain⟨o',A⟩:=I.base.there b o e a;exact C b o' (y b o e a) A
 ·obtain⟨V,A⟩:=I.base.sk b ps e;obtain⟨U,L⟩:=G b _ A;exact⟨V++U,by rw[L,Array.append_assoc]⟩
 ·obtain⟨m,W,hl⟩:=I.loc;refine⟨m,T m W,λi x v A L e3=>?_⟩;obtain⟨u,r,l⟩:=hl i x v A L e3;refine⟨u,r,?_⟩;rcases l with l | ⟨k,c,e,z⟩
  ·exact .inl l
  ·exact .inr ⟨k,c,e,t x c e _ z⟩
 ·obtain⟨v,z⟩:=I.cell x c e;exact⟨v,t x c e v z⟩
 ·obtain⟨m,⟨o,_,_,E,_⟩,_⟩:=I.loc;exact f _ o (λz=>(j _ z).2.1 rfl) E I.free
 ·obtain⟨v,o,E,O⟩:=I.cell x c e;exact f c o (λz=>(j c z).2.2.1 x c e rfl) E (I.mU x c e)
 ·obtain⟨e,n,Q,P,d⟩:=I.pin p R;have g:p.1∉ch:=λz=>(j p.1 z).2.2.2 p R rfl;exact⟨h p.1 p.2 Q P g e n,f p.1 p.2 g e n,Q,P,d⟩
theorem fD.un{t':Nat}(I:fD X pins σ H s)(u:Un X.fs [] H H' s.heap h')(c:qj X.prog X.w H' h'):fD X pins σ H' { s with heap:=h',toks:=t' }:=by obtain⟨m,⟨o,p,q,g,r⟩,_⟩:=id I.loc;obtain⟨j,i⟩:=u.any g I.free (by simp);exact I.step (g':=s.gens) (d':=s.drawn) (ch:=[]) (λ_ z=>nomatch z) (λb o _ hb _ e n=>u.keep b o e n hb (by simp)) (λb o _ hb _ e n=>u.slot b o e n hb (by simp)) (λb o _ e n=>u.free b o e n (by simp)) (λb o _ e=>u.there b o e (by simp)) u.rR u.qw u.sk (λl hm=>by obtain⟨k,d,f,a,h⟩:=hm;rw[g] at a;cases a;exact⟨_,d,f,i,h⟩) c I.bare
theorem fD.call{g':Array GenState}{t':Nat}{d':Drawn}{ch:List Addr} (I:fD X pins σ H s) (u:Un (vb X.stack) ch H H' s.heap h') (f:qj X.prog X.w H' h') (l:AllBare g')
  (d:∀b∈ch,(b∈X.ex\/(zB X.s₀)<=b)/\b≠X.env.locals/\(∀x c,X.env.cells.lookup x=Y c->c≠b)/\∀p∈X.pn++pins,p.1≠b):
  fD X pins σ H' { s with heap:=h',gens:=g',drawn:=d',toks:=t' }:=by
 obtain⟨m,⟨o,y,A,j,r⟩,_⟩:=id I.loc;obtain⟨q,g⟩:=u.any j I.free λz=>(d _ z).2.1 rfl;exact I.step (ch:=ch) d (λb o g hb hc e n=>u.keep b o e n (λz=>(ag.mp (I.Ai b z)).elim g hb) hc) (λb o _ _ hc e n=>u.any e n hc) (λb o hc e n=>u.free b o e n hc) (λb o hc e=>u.there b o e hc) u.rR u.qw u.sk (λv hm=>by obtain⟨t,h,i,a,k⟩:=hm;rw[j] at a;cases a;exact⟨_,h,i,g,k⟩) f l
theorem fD.turned{t':Nat}{it:Addr} (I:fD X pins σ H s) (k:∀b o,b≠it->s.heap.get? b=Y o->h'.get? b=Y o) (g:H it=Z) (d:it≠X.env.locals)
  (j:it∈X.ex\/(zB X.s₀)<=it) (i:∀x c,X.env.cells.lookup x=Y c->c≠it) (h:∀p∈X.pn++pins,p.1≠it):fD X pins σ H { s with heap:=h',toks:=t' }:=by
 have a:∀b u,H b=Y u->b≠it:=λb u e z=>by rw[z,g] at e;cases e
 refine I.step (g':=s.gens) (d':=s.drawn) (ch:=[it]) (λb hb=>?_) (λb o _ _ hc e _=>k b o (λz=>hc (by simp[z])) e) (λb o _ _ hc e _=>⟨o.slots,k b o (λz=>hc (by simp[z])) e⟩) (λ_ _ _ _ n=>n)
  (λb o hc e=>⟨o,k b o (λz=>hc (by simp[z])) e⟩) (λ_ _ e=>e) (λ_ _ _ e=>e) (λb ps e=>⟨#[],by rw[e];simp⟩) (λm hm=>?_) (λb u e=>?_) I.bare
 ·have e:b=it:=by simpa using hb
  subst e;exact⟨j,d,i,h⟩
 ·obtain⟨o,l,t,f,r⟩:=hm;exact⟨o,l,t,k _ o (Ne.symm d) f,r⟩
 ·refine(I.iY b u e).uq (λc v hc q=>k c v ?_ q) (λ_ q=>q) λ_ _ q=>q;rcases hc with z|z
  ·rw[z];exact a b u e
  ·exact a c _ z
theorem fD.tok(I:fD X pins σ H s)(t:Nat):fD X pins σ H { s with toks:=t }:=I.un (h':=s.heap) (t':=t) Un.refl I.iY
theorem fD.kept{t':Nat}(I:fD X pins σ H s)(k:∀b u,s.heap.get? b=Y u->h'.get? b=Y u):fD X pins σ H { s with heap:=h',toks:=t' }:=I.un (Un.kept k) (I.iY.kept k)
theorem fD.laid{a:Addr}{o:HO}{t':Nat}(I:fD X pins σ H s)(k:∀b u,s.heap.get? b=Y u->h'.get? b=Y u)(d:(zB s)<=a)(c:jh X.prog X.w (upd H a o) h' a o):
  fD X pins σ (upd H a o) { s with heap:=h',toks:=t' }:=I.un (Un.laid k d (I.iY.fresh d)) (I.iY.laid k d c)
theorem fD.write{x e:Addr}{o:HO}{g:Nat} (I:fD X pins σ H s) (d:Ti (H x)) (f:e=x\/H e=Y (.own x)) (k:∀b u,b≠e->s.heap.get? b=Y u->h'.get? b=Y u) (a:∃u,h'.get? e=Y u)
  (c:jh X.prog X.w (upd H x o) h' x o):fD X pins σ (upd H x o) { s with heap:=h',toks:=g }:=I.un (Un.write d f k a) (I.iY.write d f k a c)
theorem fD.mW{a:Ax}(I:fD X pins σ H s)(h:∀p∈a,s.heap.get? p.1=Y p.2/\H p.1=Z/\p.1≠X.env.locals/\p.1∉X.fs/\∀v,p.2.data≠.cell v):fD X a σ H s :=
 ⟨I.ok,I.os,I.bare,I.base,I.loc,I.cell,I.free,I.mU,λp b=>(aw.mp b).elim (λz=>I.pin p (aC _ z)) (h p),I.iY,I.len⟩
theorem wt{N:Lr}(c:N.Nodup){j:Nat}(a:N[i]?=Y x)(b:N[j]?=Y x):i=j:=by obtain⟨g,e⟩:=aM.mp a;obtain⟨f,d⟩:=aM.mp b;exact(List.getElem_inj c).mp (e.trans d.symm)
theorem ur{M:Model}{Q:Unit->Shared->Prop} (I:fD X pins σ H s) (hN:X.N.Nodup) (R:X.N[i]?=Y x) (l:Ei X.env.scope x) (r:gv v u)
  (h:∀s',fD X pins (σ.set i (Y v)) H s'->(∃a,Heap.SameBut a s.heap s'.heap/\(a=X.env.locals\/X.env.cells.lookup x=Y a))->Q () s') (hf:X.fn x=true\/X.env.scope.names.lookup x=Y .local:=by first|exact .inl rfl|exact .inr rfl|assumption):wpAny M A (storeName X.env x u) Q E s:=by
 obtain⟨m,hn,hl⟩:=id I.loc;have S:(X.env.scope.kind==.class||(X.env.scope.kind==.module&&X.env.locals != X.env.globals))=false:=by rw[I.ok.kind];rfl
 have D:i<σ.length:=by rw[I.len];exact(aM.mp R).1
 have K:=I.Tn;have f:∀{a:Addr}{L:Heap},(∃o,s.heap.get? a=Y o/\H a=Z)->Heap.SameBut a s.heap L->qj X.prog X.w H L:=λ{a L} ha hs b ob e=>by
  obtain⟨_,_,t⟩:=ha;refine(I.iY b ob e).uq (λc U hc q=>(hs.2 c ?_).trans q) (λ_ q=>q) λ_ _ q=>q;rintro rfl;rcases hc with rfl|hc
  ·rw[t] at e;cases e
  ·rw[t] at hc;cases hc
 rcases l with C|C
 ·refine wpAny_storeName_local C hn (λL Wa hs=>?_) S;obtain⟨oL,_,_,Wb,_⟩:=id hn;refine h _ ⟨I.ok,I.os,I.bare,⟨λb o e n J l=>?_,λb o e n J l=>?_,I.base.free,λb o e l=>?_,I.base.rR,I.base.qw,I.base.sk⟩,⟨_,Wa,λj y v' g B e3=>?_⟩,λy c e=>?_,I.free,I.mU,λp hp=>?_,f ⟨oL,Wb,I.free⟩ hs,by simpa using I.len⟩ ⟨_,hs,.inl rfl⟩
  ·exact(hs.2 b (aN (aI (av e) I.ok.above))).trans (I.base.keep b o e n J l)
  ·obtain⟨sl,g⟩:=I.base.slot b o e n J l;exact⟨sl,(hs.2 b (aN (aI (av e) I.ok.above))).trans g⟩
  ·obtain⟨o',g⟩:=I.base.there b o e l;exact⟨o',(hs.2 b (aN (aI (av e) I.ok.above))).trans g⟩
  ·by_cases F:j=i
   ·subst F;rw[R] at g;cases g;rw[aL D] at B;cases B;exact⟨u,r,.inl ⟨C,by simp⟩⟩
   ·rw[ax (Ne.symm F)] at B;obtain⟨u',r',q⟩:=hl j y v' g B e3;refine⟨u',r',?_⟩;rcases q with ⟨k,e⟩ | ⟨k,c,e,z⟩
    ·refine .inl ⟨k,?_⟩;have:y≠x:=λe=>F (wt hN g (e▸R));simp[this,e]
    ·exact .inr ⟨k,c,e,z.sameBut hs (K y c e)⟩
  ·obtain⟨U,z⟩:=I.cell y c e;exact⟨U,z.sameBut hs (K y c e)⟩
  ·obtain⟨e,n,V,nf,d⟩:=I.pin p hp;exact⟨(hs.2 p.1 V).trans e,n,V,nf,d⟩
 ·have G:X.fn x=true:=by
   rcases hf with z|z
   ·exact z
   ·rw[z] at C;cases C
  obtain⟨c,hc⟩:=I.ok.has x (.inl C);obtain⟨U,z⟩:=I.cell x c hc;refine wpAny_storeName_cell I.ok.kind C hc z (λL To hs=>?_);obtain⟨oc,P,O⟩:=id z;refine h { s with heap:=L } ⟨I.ok,I.os,I.bare,⟨λb o e n J l=>?_,λb o e n J l=>?_,I.base.free,λb o e l=>?_,I.base.rR,I.base.qw,I.base.sk⟩,⟨m,hn.sameBut hs (Ne.symm (K x c hc)),λj y v' g B e3=>?_⟩,λy W e=>?_,I.free,I.mU,λp hp=>?_,f ⟨oc,P,I.mU x c hc⟩ hs,by simpa using I.len⟩ ⟨c,hs,.inr hc⟩
  ·exact(hs.2 b (aN (aI (av e) (I.ok.S3 x c G hc)))).trans (I.base.keep b o e n J l)
  ·obtain⟨sl,g⟩:=I.base.slot b o e n J l;exact⟨sl,(hs.2 b (aN (aI (av e) (I.ok.S3 x c G hc)))).trans g⟩
  ·obtain⟨o',g⟩:=I.base.there b o e l;exact⟨o',(hs.2 b (aN (aI (av e) (I.ok.S3 x c G hc)))).trans g⟩
  ·by_cases F:j=i
   ·subst F;rw[R] at g;cases g;rw[aL D] at B;cases B;exact⟨u,r,.inr ⟨.inl C,c,hc,To⟩⟩
   ·rw[ax (Ne.symm F)] at B;obtain⟨u',r',q⟩:=hl j y v' g B e3;refine⟨u',r',?_⟩;rcases q with q | ⟨k,W,e,z'⟩
    ·exact .inl q
    ·refine .inr ⟨k,W,e,z'.sameBut hs ?_⟩;rintro rfl;exact F (wt hN g (I.ok.inj _ _ _ e hc▸R))
  ·by_cases T:W=c
   ·subst T;exact⟨_,To⟩
   ·obtain⟨w2,z2⟩:=I.cell y W e;exact⟨w2,z2.sameBut hs T⟩
  ·obtain⟨e,n,V,nf,d⟩:=I.pin p hp;refine⟨(hs.2 p.1 ?_).trans e,n,V,nf,d⟩;intro q;rw[q,P] at e;have q':oc=p.2:=bB e;exact d U (by rw[<-q'];exact O)
theorem wu{M:Model}{Q:Unit->Shared->Prop} (I:fD X pins σ H s) (d:X.N.Nodup) (b:X.N[i]?=Y x) (a:Ei X.env.scope x) (r:gv v u)
  (h:∀s',fD X pins (σ.set i (Y v)) H s'->Q () s') (c:X.fn x=true\/X.env.scope.names.lookup x=Y .local:=by first|exact .inl rfl|exact .inr rfl|assumption):wpAny M A (storeName X.env x u) Q E s :=
 ur I d b a r (λs' e _=>h s' e) c
theorem fD.Tp{s':Shared}{ch:List Addr} (I:fD X pins σ H s) (g:s'.os=s.os) (u:Un (vb X.stack) ch H H' s.heap s'.heap) (a:qj X.prog X.w H' s'.heap) (h:AllBare s'.gens)
  (d:∀b∈ch,(b∈X.ex\/(zB X.s₀)<=b)/\b≠X.env.locals/\(∀x c,X.env.cells.lookup x=Y c->c≠b)/\∀p∈X.pn++pins,p.1≠b):fD X pins σ H' s':=by
 obtain⟨h',g',d',t',f⟩:=s';have e:f=s.os:=g;subst e;exact I.call (g':=g') (t':=t') (d':=d') u a h d
end
abbrev XK:=Value->Option Addr->Hp->Prop
abbrev St:=List (Option V)
abbrev VK:=V->Hp->Prop
abbrev TE:=St->Hp->VK->Prop
abbrev TT:=St->Hp->(Bool->Hp->Prop)->Prop
abbrev TA:=St->Hp->(List V->Hp->Prop)->Prop
structure B5 where
 nx:St->Hp->Prop
 rt:VK
 bk:St->Hp->Prop:=λ_ _=>False
 ct:St->Hp->Prop:=λ_ _=>False
abbrev TS:=B5->St->Hp->Prop
def EP(X:Cx)(a:Ax)(σ:St)(Q:VK)(u:Value)(c:Shared):Prop:=∃v b,fD X a σ b c/\gv v u/\Q v b
def TP(X:Cx)(a:Ax)(σ:St)(Q:Bool->Hp->Prop)(b:Bool)(d:Shared):Prop:=∃c,fD X a σ c d/\Q b c
def AP(X:Cx)(a:Ax)(σ:St)(Q:List V->Hp->Prop)(d:Lw)(e:Shared):Prop:=∃b c,fD X a σ c e/\f7 b d/\Q b c
def SP(X:Cx)(a:Ax)(D:B5)(f:Flow)(b:Shared):Prop :=
 match f with
 |.next=>∃σ' H',fD X a σ' H' b/\D.nx σ' H'
 |.brk=>∃σ' H',fD X a σ' H' b/\D.bk σ' H'
 |.cont=>∃σ' H',fD X a σ' H' b/\D.ct σ' H'
 |.ret u=>∃v σ' H',fD X a σ' H' b/\gv v u/\D.rt v H'
def PE(X:Cx)(e:Expr)(t:TE):Prop :=
 ∀⦃a:Ax⦄ (s:Shared) (σ:St) (H:Hp) (Q:VK),fD X a σ H s->t σ H Q->(zw X) (eval e X.env) (EP X a σ Q) X.xe s
def PT(X:Cx)(e:Expr)(t:TT):Prop :=
 ∀⦃a:Ax⦄ (s:Shared) (σ:St) (H:Hp) (Q:Bool->Hp->Prop),fD X a σ H s->t σ H Q->(zw X) (isTrue e X.env (eval e X.env)) (TP X a σ Q) X.xe s
def PW(X:Cx)(e:Expr)(t:TT):Prop :=
 ∀⦃a:Sem Value⦄ (pins:Ax) (s:Shared) (σ:St) (H:Hp) (Q:Bool->Hp->Prop),fD X pins σ H s->t σ H Q->(zw X) (isTrue e X.env a) (TP X pins σ Q) X.xe s
theorem PW.pt{X:Cx}{t:TT}(h:PW X e t):PT X e t:=@h _
def PA(X:Cx)(b:Lx)(t:TA):Prop :=
 ∀⦃a:Pos⦄ (pins:Ax) (s:Shared) (σ:St) (H:Hp) (Q:List V->Hp->Prop),fD X pins σ H s->t σ H Q->(zw X) (spliced (backTo a (starEach b X.env))) (AP X pins σ Q) X.xe s
def PS(X:Cx)(b:Stmt)(t:TS):Prop :=
 ∀⦃a:Ax⦄ (s:Shared) (σ:St) (H:Hp) (D:B5),fD X a σ H s->t D σ H->(zw X) (exec b X.env) (SP X a D) X.xe s
def yj(X:Cx)(b:List Stmt)(t:TS):Prop :=
 ∀⦃a:Ax⦄ (s:Shared) (σ:St) (H:Hp) (D:B5),fD X a σ H s->t D σ H->(zw X) (execs b X.env) (SP X a D) X.xe s
theorem iP{t:Sem α}{Q b:α->Shared->Prop}{M:Model}(h:wpAny M A t Q E s)(c:∀a s,Q a s->b a s):wpAny M A t b E s:=bF h c λ_ _ x=>x
end L2
variable  {X:L2.Cx}{σ:L2.St}
namespace L2
open PySem PySem.Spec PyProof.Rows
section
def Tq(i:Nat):TE:=λσ H Q=>∃v,σ[i]?=Y (Y v)/\Q v H
def tC(v:V):TE:=λ_ H Q=>Q v H
theorem nK{i:Nat}{x:Str}{g:Pos}(w:X.N[i]?=Y x)(o:BY X.env.scope x)(j:zg x:=by decide)(k:(x==("__classdict__":Str))=false:=by decide):PE X (.Name x g) (Tq i):=by
 intro f s σ H Q I h;obtain⟨v,e,h⟩:=h;obtain⟨m,p,t⟩:=I.loc;obtain⟨u,r,l⟩:=t i x v w e o;have d:EP X f σ Q u s:=⟨v,H,I,r,h⟩
 rcases l with ⟨b,q⟩ | ⟨b,c,n,a⟩
 ·exact wpAny_Name (wpAny_loadName_local I.ok.kind b p q d) j
 ·rcases b with b|b
  ·exact wpAny_Name (wpAny_loadName_cell I.ok.kind b n a d) j
  ·exact wpAny_Name (wpAny_loadName_free I.ok.kind b n a d k) j
theorem QE{i j pos}:PE X (.Constant (.int i) j pos) (tC (.int i)):=λ_ _ _ H _ I h=>wpAny_Constant_int ⟨.int i,H,I.tok _,⟨_,rfl⟩,h⟩
theorem Tr{b j pos}:PE X (.Constant (.bool b) j pos) (tC (.bl b)):=λ_ _ _ H _ I h=>Constant_bool ⟨.bl b,H,I,rfl,h⟩
theorem QF{j pos}:PE X (.Constant .none j pos) (tC .lP):=λ_ _ _ H _ I h=>Constant_none ⟨.lP,H,I,rfl,h⟩
theorem Ji{x j pos}:PE X (.Constant (.str x) j pos) (tC (.str x)):=λ_ _ _ H _ I h=>Calls.Constant_str ⟨.str x,H,I.tok _,⟨_,rfl⟩,h⟩
def Gl(X:Cx)(x:Str):Prop:=X.env.kindOf x=Y .globalImplicit
theorem mX{Q:Px} (I:fD X pins σ H s) (b:Gl X x) (a:X.mg x=Y u) (h:Q u s)
  (c:zg x:=by decide):(zw X) (eval (.Name x pos) X.env) Q E s :=
 cO I.ok.kind b (Calls.loadGlobal_global (by rw[I.ok.glob];exact I.mod.glob.keeps I.bk) a h) c
theorem qy{Q:Px} (I:fD X pins σ H s) (d:Gl X x) (c:X.mg x=Z) (a:bootBuiltins x=Y u) (h:Q u s)
  (b:x≠"__name__":=by decide) (e:zg x:=by decide):(zw X) (eval (.Name x pos) X.env) Q E s:=by
 obtain⟨i,g,f⟩:=I.mod.blt;exact cO I.ok.kind d (Calls.loadGlobal_builtin (by rw[I.ok.glob];exact I.mod.glob.keeps I.bk) c (by rw[I.ok.blt];exact g.keeps I.bk) ((f x b).trans a) h) e
theorem Gd(b:Gl X x)(a:X.mg x=Y u)(r:gv v u)(c:zg x:=by decide):PE X (.Name x pos) (tC v) :=
 λ_ _ _ H _ I h=>mX I b a ⟨v,H,I,r,h⟩ c
variable {a b:Expr}{ta tb:TE}
variable {tA Vw:TT}{rest:Lx}
def Wc(t u:TT):TT:=λσ H Q=>t σ H λc a=>if c=true then u σ a Q else Q false a
def Zl(t u:TT):TT:=λσ H Q=>t σ H λc a=>if c=true then Q true a else u σ a Q
def Wd(t:TT):TT:=λσ H Q=>t σ H λc a=>Q (!c) a
theorem MN(d:PT X a tA):PW X (.BoolOp .And [a] pos) tA:=by
 intro f b s σ H Q I h;refine isTrue_and (iP (@d b s σ H Q I h) λc g e=>?_);cases c with
 |true=>exact isTrue_and_nil e
 |false=>exact e
theorem Jj(d:PT X a tA):PW X (.BoolOp .Or [a] pos) tA:=by
 intro f b s σ H Q I h;refine isTrue_or (iP (@d b s σ H Q I h) λc g e=>?_);cases c with
 |false=>exact isTrue_or_nil e
 |true=>exact e
theorem QG(l:PT X a tA)(k:PW X (.BoolOp .And (b::rest) pos) Vw):PW X (.BoolOp .And (a::b::rest) pos) (Wc tA Vw):=by
 intro i d s σ H Q I h;refine isTrue_and (iP (@l d s σ H _ I h) λc j ⟨g,f,e⟩=>?_);cases c with
 |true=>exact @k i d j σ g Q f e
 |false=>exact⟨g,f,e⟩
theorem Py(l:PT X a tA)(k:PW X (.BoolOp .Or (b::rest) pos) Vw):PW X (.BoolOp .Or (a::b::rest) pos) (Zl tA Vw):=by
 intro i d s σ H Q I h;refine isTrue_or (iP (@l d s σ H _ I h) λc j ⟨g,f,e⟩=>?_);cases c with
 |true=>exact⟨g,f,e⟩
 |false=>exact @k i d j σ g Q f e
theorem Jk(d:PT X a tA):PT X (.UnaryOp .Not a pos) (Wd tA):=by intro b s σ H Q I h;exact isTrue_not (@d b s σ H (λc H1=>Q (!c) H1) I h)
def Ts(d b:TE):TE:=λσ H Q=>d σ H λx a=>∃c,x=.bl c/\if c=true then b σ a Q else Q (.bl false) a
theorem QH{op}{t:TE}(h:PE X a t):PE X (.BoolOp op [a] pos) t:=λb s σ H Q I hw=>BoolOp_one (@h b s σ H Q I hw)
theorem QI(l:PE X a ta)(k:PE X (.BoolOp .And (b::rest) pos) tb):PE X (.BoolOp .And (a::b::rest) pos) (Ts ta tb):=by
 intro d s σ H Q I h;refine BoolOp_and (iP (@l d s σ H _ I h) λv i ⟨x,g,f,j,e⟩=>?_);obtain⟨c,rfl,e⟩:=e;cases j;refine cv ?_;cases c with
 |true=>exact @k d i σ g Q f e
 |false=>exact⟨.bl false,g,f,rfl,e⟩
end
def o8(K:Fg)(H:Hp)(a:Addr)(b:List V):Prop :=
 Rd H a (.lst b) \/
  ∃(o:Obj) (its:Array Value) (n:Nat),K.lookup a=Y o/\o.cls=.type "list"/\o.dict=Z/\o.data=.seq its n/\its.size<=sizeLine/\f7 b its.toList
def rS(K:Fg)(H:Hp)(a:Addr)(b:List V):Prop :=
 Rd H a (.tup b) \/
  ∃(o:Obj) (its:Array Value) (n:Nat),K.lookup a=Y o/\o.cls=.type "tuple"/\o.data=.seq its n/\its.size<=sizeLine/\f7 b its.toList
noncomputable def We:Value->Option V
 |.none=>Y .lP
 |.bool b=>Y (.bl b)
 |.int i _=>Y (.int i)
 |.str x _=>Y (.str x)
 |.bytes b _=>Y (.SY b)
 |.float b _=>Y (.Vu b)
 |.ref a=>Y (.ref a)
 |.type n=>Y (.ty n)
 |_=>Z
theorem gv.abs{x:V}(r:gv x u):We u=Y x:=by
 cases x with
 |lP=>cases r;rfl
 |bl _=>cases r;rfl
 |int _=>obtain⟨t,rfl⟩:=r;rfl
 |str _=>obtain⟨t,rfl⟩:=r;rfl
 |SY _=>obtain⟨t,rfl⟩:=r;rfl
 |Vu _=>obtain⟨t,rfl⟩:=r;rfl
 |ref _=>cases r;rfl
 |ty _=>cases r;rfl
theorem gv.inj{x y:V}(r:gv x u)(q:gv y u):x=y:=bB (r.abs.symm.trans q.abs)
theorem f7.inj:∀{b a:List V}{c:Lw},f7 b c->f7 a c->b=a
 |_,_,_,.nil,.nil=>rfl
 |_,_,_,.cons r t,.cons r' t'=>by rw[r.inj r',f7.inj t t']
section
variable {xs ys:List V}
theorem o8.of{K:Fg}(h:H a=Y (.lst xs)):o8 K H a xs:=.inl (.inl h)
theorem rS.of{K:Fg}(h:H a=Y (.tup xs)):rS K H a xs:=.inl (.inl h)
theorem fD.list(I:fD X pins σ H s)(h:o8 X.K H a xs):∃its:Lw,f7 xs its/\PlainL s.heap a its.toArray/\xs.length<=sizeLine:=by
 rcases h with h | ⟨o,its,n,c,f,d,b,hz,r⟩
 ·obtain⟨z,its,n,r,e⟩:=h.ok I.iY;exact⟨its,r,⟨_,n,e,rfl,rfl,rfl⟩,z⟩
 ·refine⟨its.toList,r,⟨o,n,I.sR a o c,f,d,by simpa using b⟩,?_⟩;have e:=r.length;simp only[cB] at e;omega
theorem fD.tuple(I:fD X pins σ H s)(h:rS X.K H a xs):∃b:Lw,f7 xs b/\IsTup s.heap a b.toArray/\xs.length<=sizeLine:=by
 rcases h with h | ⟨o,b,n,d,f,c,hz,r⟩
 ·obtain⟨z,b,r,p⟩:=h.ok I.iY;exact⟨b,r,p,z⟩
 ·refine⟨b.toList,r,⟨o,I.sR a o d,f,n,by simpa using c⟩,?_⟩;have e:=r.length;simp only[cB] at e;omega
theorem fD.B6(I:fD X pins σ H s)(h:o8 X.K H a xs)(h':o8 X.K H a ys):xs=ys:=by
 obtain⟨c,r,⟨o,n,e,_,_,d⟩,_⟩:=I.list h;obtain⟨b,i,⟨k,l,f,_,_,g⟩,_⟩:=I.list h';rw[e] at f;cases f;rw[d] at g;injection g with j _
 have:c=b:=by simpa using bK Array.toList j
 subst this;exact r.inj i
theorem fD.HD(I:fD X pins σ H s)(h:rS X.K H a xs)(j:rS X.K H a ys):xs=ys:=by
 obtain⟨c,r,⟨o,e,_,n,d⟩,_⟩:=I.tuple h;obtain⟨b,i,⟨l,f,_,m,g⟩,_⟩:=I.tuple j;rw[e] at f;cases f;rw[d] at g;injection g with k _
 have:c=b:=by simpa using bK Array.toList k
 subst this;exact r.inj i
end
abbrev Cx.vB(X:Cx)(E:Value->Shared->Prop):Cx:={ X with xe:=E }
abbrev Cx.Pz(X:Cx):Cx:=X.vB λ_ _=>False
theorem Cx.Ok.vB{X:Cx}(a:X.Ok)(E:Px):(X.vB E).Ok :=
 ⟨a.mod,a.kind,a.glob,a.blt,a.above,a.inj,a.has,a.S3,a.hd,a.frames,a.S4,a.VX,a.bs,a.MM,a.HC,a.B4,a.qx,a.Jb⟩
theorem Cx.Ok.qz(a:(X.vB E).Ok):X.Ok :=
 ⟨a.mod,a.kind,a.glob,a.blt,a.above,a.inj,a.has,a.S3,a.hd,a.frames,a.S4,a.VX,a.bs,a.MM,a.HC,a.B4,a.qx,a.Jb⟩
section
theorem fD.vB(I:fD X pins σ H s)(E:Px):fD (X.vB E) pins σ H s:=⟨I.ok.vB E,I.os,I.bare,I.base,I.loc,I.cell,I.free,I.mU,I.pin,I.iY,I.len⟩
theorem fD.qz(I:fD (X.vB E) pins σ H s):fD X pins σ H s:=⟨I.ok.qz,I.os,I.bare,I.base,I.loc,I.cell,I.free,I.mU,I.pin,I.iY,I.len⟩
theorem SP.qz{D:B5}{f:Flow}{b:Shared}(h:SP (X.vB E) pins D f b):SP X pins D f b:=by
 cases f with
 |next=>obtain⟨σ',a,I,q⟩:=h;exact⟨σ',a,I.qz,q⟩
 |brk=>obtain⟨σ',a,I,q⟩:=h;exact⟨σ',a,I.qz,q⟩
 |cont=>obtain⟨σ',a,I,q⟩:=h;exact⟨σ',a,I.qz,q⟩
 |ret u=>obtain⟨v,σ',a,I,r,q⟩:=h;exact⟨v,σ',a,I.qz,r,q⟩
theorem yj.Pz{b:List Stmt}{t:TS}(h:yj X.Pz b t):yj X b t:=λa s σ H D I hw=>
 bF (@h a s σ H D (I.vB _) hw) (λ_ _ q=>q.qz) λ_ _ z=>False.elim z
end
section
variable {rest:List Stmt}{t u:TS}{te:TE}
def Tt:TS:=λD σ H=>D.nx σ H
def Wf(t u:TS):TS:=λD σ H=>t { D with nx:=u D } σ H
theorem MO:yj X [] Tt:=λ_ _ σ H _ I h=>b8 ⟨σ,H,I,h⟩
theorem Jl(d:PS X st t)(c:yj X rest u):yj X (st::rest) (Wf t u):=by
 intro a s σ H D I h;refine wpAny_execs_cons (iP (@d a s σ H { D with nx:=u D } I h) λf b q=>?_);cases f with
 |next=>obtain⟨σ',g,e,q⟩:=q;exact @c a b σ' g D e q
 |ret v=>exact q
 |brk=>exact q
 |cont=>exact q
theorem MP(b:PS X st t):yj X [st] t:=by
 intro a s σ H D I h;refine wpAny_execs_cons (iP (@b a s σ H D I h) λf c q=>?_);cases f with
 |next=>exact b8 q
 |ret v=>exact q
 |brk=>exact q
 |cont=>exact q
theorem fD.quiet(I:fD X pins σ H s):interactive X.env=false:=by simp[interactive,I.ok.kind]
def Tu(a:TE):TS:=λD σ H=>a σ H λ_ b=>D.nx σ b
theorem sV(d:PE X e te)(c:swapsWith e Z pos.line X.env=pure false:=by rfl):PS X (.Expr e pos) (Tu te):=by intro a s σ H D I h;exact wpAny_Expr_any (iP (@d a s σ H _ I h) λv i ⟨x,g,f,j,b⟩=>⟨σ,g,f,b⟩) I.quiet c
def Wg(a:TE):TS:=λD σ H=>a σ H D.rt
theorem uu(d:PE X e te):PS X (.Return (Y e) pos) (Wg te):=by intro a s σ H D I h;exact wpAny_Return_some (iP (@d a s σ H _ I h) λv i ⟨x,g,f,b,c⟩=>⟨x,σ,g,f,b,c⟩)
def Tv:TS:=λD _ H=>D.rt .lP H
theorem MQ:PS X (.Return Z pos) Tv:=λ_ _ σ H _ I h=>wpAny_Return_none ⟨.lP,σ,H,I,rfl,h⟩
def Wh(c:TT)(t u:TS):TS:=λD σ H=>c σ H λb a=>if b=true then t D σ a else u D σ a
theorem PC{c:Expr}{a b:List Stmt}{f:TT}(l:PT X c f)(n:yj X a t)(m:yj X b u):PS X (.If c a b pos) (Wh f t u):=by
 intro e s σ H D I h;refine wpAny_If (iP (@l e s σ H _ I h) λd g ⟨k,j,i⟩=>?_);cases d with
 |true=>exact @n e g σ k D j i
 |false=>exact @m e g σ k D j i
end
abbrev TG:=V->St->Hp->(St->Hp->Prop)->Prop
abbrev MR:=List V->St->Hp->(St->Hp->Prop)->Prop
def PG(X:Cx)(a:Expr)(t:TG):Prop :=
 ∀⦃b:Ax⦄ (s:Shared) (σ:St) (H:Hp) (v:V) (u:Value) (Q:St->Hp->Prop),fD X b σ H s->gv v u->t v σ H Q ->
  (zw X) (assign a X.env u) (λ_ s'=>∃σ' c,fD X b σ' c s'/\Q σ' c) X.xe s
def Mx(X:Cx)(c:Lx)(t:MR):Prop :=
 ∀⦃a:Ax⦄ (s:Shared) (σ:St) (H:Hp) (vs:List V) (us:Lw) (Q:St->Hp->Prop),fD X a σ H s->f7 vs us->t vs σ H Q ->
  (zw X) (assignInOrder ((assignEach c X.env).map (·.2)) us) (λ_ s'=>∃σ' b,fD X a σ' b s'/\Q σ' b) X.xe s
abbrev MS:=V->V->V->Hp->(Hp->Prop)->Prop
def B7(X:Cx)(t:MS):Prop :=
 ∀(a:Ax) (s:Shared) (σ:St) (H:Hp) (o i v:V) (ov iv u:Value) (Q:Hp->Prop),fD X a σ H s->gv o ov->gv i iv->gv v u->t o i v H Q ->
  (zw X) (setItem ov iv u) (λ_ s'=>∃b,fD X a σ b s'/\Q b) X.xe s
abbrev Vx:=V->V->Hp->VK->Prop
def Vy(X:Cx)(b:Operator)(t:Vx):Prop :=
 ∀(a:Ax) (s:Shared) (σ:St) (H:Hp) (x y:V) (v u:Value) (Q:VK),fD X a σ H s->gv x v->gv y u->t x y H Q ->
  (zw X) (inplaceOp b v u) (EP X a σ Q) X.xe s
section
def Ge(i:Nat):TG:=λv σ H Q=>Q (σ.set i (Y v)) H
theorem oA(e:X.N.Nodup)(c:X.N[i]?=Y x)(b:Ei X.env.scope x)(d:X.fn x=true\/X.env.scope.names.lookup x=Y .local:=by first|exact .inl rfl|exact .inr rfl|assumption):PG X (.Name x pos) (Ge i):=by intro a s σ H v u Q I r h;exact wpAny_assign_Name (wu I e c b r (λs' f=>⟨_,H,f,h⟩) d)
def Wi:MR:=λa σ H Q=>a=[]/\Q σ H
def Tw(t:TG)(u:MR):MR:=λa σ H Q=>∃v r,a=v::r/\t v σ H λσ' b=>u r σ' b Q
theorem Ak:Mx X [] Wi:=by intro a s σ H b c Q I r h;obtain⟨e,h⟩:=h;subst e;cases r;exact assignInOrder_nil ⟨σ,H,I,h⟩
theorem o9{t:TG}{u:MR} (i:PG X e t) (g:Mx X es u)
  (f:(assignEach (e::es) X.env).map (·.2)=assign e X.env::(assignEach es X.env).map (·.2):=by rfl):Mx X (e::es) (Tw t u):=by
 intro a s σ H m o Q I r h;obtain⟨v,n,j,h⟩:=h;subst j;cases r with
 |cons r c=>rw[f];refine assignInOrder_cons (iP (@i a s σ H _ _ _ I r h) λ_ b ⟨σ1,l,k,d⟩=>?_);exact @g a b σ1 l _ _ Q k c d
def Wj(K:Fg)(n:Nat)(t:MR):TG:=λv σ H Q=>∃a b,v=.ref a/\rS K H a b/\b.length=n/\t b σ H Q
theorem Ej{k:Nat}{t:MR} (w:X.calm=true) (h:Mx X es t)
  (p:(assignEach es X.env).length=n:=by rfl) (d:(assignEach es X.env).findIdx? (·.1)=Z:=by rfl):PG X (.Tuple es k pos) (Wj X.K n t):=by
 intro c s σ H v u Q I r hw;obtain⟨a,g,y,m,q,hw⟩:=hw;subst y;cases r;obtain⟨i,f,l,A⟩:=I.tuple m;refine assign_Tuple_tuple (I.ok.hd w) l (by simp[p,<-q,f.length]) d λx j=>?_;have z:fD X c σ H { s with heap:=x }:=I.kept (t':=s.toks) λb o e=>j b o (aN (av e)) e;exact @h c _ σ H g _ Q z (by simpa using f) hw
def Wl(a b:TE)(t:MS):TG:=λv σ H Q=>a σ H λo e=>b σ e λi d=>t o i v d λc=>Q σ c
theorem QJ{o i:Expr}{b c:TE}{t:MS} (n:PE X o b) (p:PE X i c) (m:B7 X t)
  (q:∀v,assign (.Subscript o i pos) X.env v=(do
   let ov <-holding [v] (eval o X.env);let iv <-holding [v,ov] (eval i X.env)
   standAt pos
   holding [v,ov,iv] (setItem ov iv v)
   release [v,ov,iv] []):=by intro _;rfl):PG X (.Subscript o i pos) (Wl b c t):=by
 intro a s σ H v u Q I r h;rw[q];refine aa (bf (iP (@n a s σ H _ I h) λov e ⟨x,D,A,g,l⟩=>?_));refine aa (bf (iP (@p a e σ D _ A l) λiv d ⟨y,C,z,f,k⟩=>?_));refine aa (wpAny_standAt (aa (bf (iP (@m a d σ C x y v ov iv u _ z g f r k) λ_ E ⟨B,w,j⟩=>?_))));exact wpAny_release ⟨σ,B,w,j⟩
def QK(a:TE)(g:TG):TS:=λD σ H=>a σ H λx b=>g x σ b D.nx
theorem Jm{b:TE}{g:TG} (k:PE X e b) (j:PG X tg g) (i:swapsWithSole [tg] e pos.line X.env=pure false:=by rfl) (hw:swappedStores [tg] e X.env=pure Z:=by rfl)
  (l:(assignEach [tg] X.env).map (·.2)=[assign tg X.env]:=by rfl):PS X (.Assign [tg] e pos) (QK b g):=by
 intro a s σ H D I h;refine wpAny_Assign_stores (iP (@k a s σ H _ I h) λv c ⟨x,n,m,d,f⟩=>?_) i hw;rw[l];exact iP (@j a c σ n x v _ m d f) λ_ o q=>q
theorem Jn{c:TE}{a:Pos}(n:X.N.Nodup)(k:X.N[i]?=Y x)(g:Ei X.env.scope x)(m:PE X e c)(j:swapsWith e (Y (.Name x a)) pos.line X.env=pure false:=by rfl)(l:X.fn x=true\/X.env.scope.names.lookup x=Y .local:=by first|exact .inl rfl|exact .inr rfl|assumption):
  PS X (.Assign [.Name x a] e pos) (QK c (Ge i)):=by
 intro b s σ H D I h;refine wpAny_Assign_Name (iP (@m b s σ H _ I h) λv r ⟨y,q,p,d,f⟩=>?_) j;exact wu p n k g d (λs2 o=>⟨_,q,o,f⟩) l
def Wm(i:Nat)(b:TE)(a:Vx):TS:=λD σ H=>∃x,σ[i]?=Y (Y x)/\b σ H λy d=>a x y d λz c=>D.nx (σ.set i (Y z)) c
theorem QL{t:TE}{o:Operator}{q:Vx}{j:Pos}(S:X.N.Nodup)(A:X.N[i]?=Y x)(p:Ei X.env.scope x)(Q:PE X e t)(K:Vy X o q)(P:X.fn x=true\/X.env.scope.names.lookup x=Y .local:=by first|exact .inl rfl|exact .inr rfl|assumption):
  PS X (.AugAssign (.Name x j) o e pos) (Wm i t q):=by
 intro a s σ H D I h;obtain⟨v,T,h⟩:=h;obtain⟨m,L,O⟩:=I.loc;have n:BY X.env.scope x:=by rcases p with k|k;exact .inl k;exact .inr (.inl k)
 obtain⟨u,r,l⟩:=O i x v A T n;refine wpAny_AugAssign_Name ?_;have B:(zw X) (eval e X.env) (λw g=>(zw X) (inplaceOp o u w) (λr f=>(zw X) (storeName X.env x r) (λ_=>SP X a D .next) X.xe f) X.xe g) X.xe s:=by refine iP (@Q a s σ H _ I h) λw C ⟨y,H1,W,F,J⟩=>?_;refine iP (@K a C σ H1 v y u w _ W r F J) λz s2 ⟨zv,H2,V,E,G⟩=>?_;exact wu V S A p E (λs3 U=>⟨_,H2,U,G⟩) P
 rcases l with ⟨b,M⟩ | ⟨b,c,R,d⟩
 ·exact wpAny_loadName_local I.ok.kind b L M B
 ·rcases b with b|b
  ·exact wpAny_loadName_cell I.ok.kind b R d B
  ·rcases p with k|k
   ·have:X.env.scope.names.lookup x=Y .free:=b;rw[k] at this;cases this
   ·have:X.env.scope.names.lookup x=Y .free:=b;rw[k] at this;cases this
def Wn(f:Int->Int->Int):Vx:=λx y H Q=>∃i j,x=.int i/\y=.int j/\Q (.int (f i j)) H
theorem Jo:Vy X .Add (Wn λi j=>i+j):=by intro a s σ H x y v u Q I c b h;obtain⟨i,j,e,d,q⟩:=h;subst e;subst d;obtain⟨t,rfl⟩:=c;obtain⟨f,rfl⟩:=b;exact iadd_int ⟨.int _,H,I.tok _,⟨_,rfl⟩,q⟩
theorem Jp:Vy X .Sub (Wn λi j=>i - j):=by intro a s σ H x y v u Q I c b h;obtain⟨i,j,e,d,q⟩:=h;subst e;subst d;obtain⟨t,rfl⟩:=c;obtain⟨f,rfl⟩:=b;exact isub_int ⟨.int _,H,I.tok _,⟨_,rfl⟩,q⟩
end
section
def QM(c:TT)(f:TS):TS:=λD σ H=>∃W:Nat->St->Hp->Prop,(∃m,W m σ H)/\∀m σ H,W m σ H ->
 c σ H λb d=>if b=true then ∃N:St->Hp->Prop,(∀σ' e,N σ' e->∃a,a<m/\W a σ' e)/\f { D with nx:=N,ct:=N,bk:=D.nx } σ d else D.nx σ d
theorem Jq{c:Expr}{d:List Stmt}{q:TT}{r:TS}(t:PassesOwn (model X.prog X.w) X.A X.env X.xe)(K:PT X c q)(L:yj X d r):PS X (.While c d [] pos) (QM q r):=by
 intro a s σ H D I h;obtain⟨W,⟨J,E⟩,e⟩:=h;refine wpAny_While (codeAny_whileLoop (λn s'=>∃σ' B,fD X a σ' B s'/\W n σ' B) ?_ J ⟨σ,H,I,E⟩);rintro n G ⟨σ1,z,M,C⟩;refine cp t (iP (@K a G σ1 z _ M (e n σ1 z C)) λb F ⟨y,x,j⟩=>?_);cases b with
 |true=>
  obtain⟨N,u,j⟩:=j;rw[ai rfl];refine cp t (iP (@L a F σ1 y _ x j) λf O i=>?_);cases f with
  |next=>obtain⟨σ3,g,p,l⟩:=i;obtain⟨m,o,k⟩:=u σ3 g l;exact⟨m,o,σ3,g,p,k⟩
  |cont=>obtain⟨σ3,g,p,l⟩:=i;obtain⟨m,o,k⟩:=u σ3 g l;exact⟨m,o,σ3,g,p,k⟩
  |brk=>exact i
  |ret v=>exact i
 |false=>rw[ao aR];exact b8 ⟨σ1,y,x,j⟩
end
structure It where
 go:Nat->Hp->Prop
 S5:Nat->Hp->V->Hp->Prop
 stop:Nat->Hp->Prop
def qA(X:Cx)(a:Ax)(H:Hp)(b:Addr):Prop :=
 H b=Z/\b≠X.env.locals/\b∉X.fs/\(b∈X.ex\/(zB X.s₀)<=b)/\(∀x c,X.env.cells.lookup x=Y c->c≠b)/\∀p∈X.pn++a,p.1≠b
theorem fD.HE{d:Hp}{b:Addr}(I:fD X pins σ H s)(a:(zB s)<=b)(g:d b=Z):qA X pins d b:=by
 refine⟨g,cF (aI I.lt a),I.VZ a,.inr (bu I.sz a),λx c e z=>?_,λp f z=>?_⟩
 ·obtain⟨v,q⟩:=I.cell x c e;exact absurd (aI q.lt (by rw[z];exact a)) (aZ _)
 ·exact absurd (aI (av (I.pin p f).1) (by rw[z];exact a)) (aZ _)
structure HF (P:Program) (w:World) (K:Fg) (tg:Expr) (J:It) (fp:List Addr) (it:Addr) (tn:Nat->Heap->Prop):Prop where
 mem:it∈fp
 obj:∀i h,tn i h->∀b∈fp,∃o,h.get? b=Y o/\∀v,o.data≠.cell v
 keep:∀i h h',tn i h->(∀b∈fp,∀o,h.get? b=Y o->h'.get? b=Y o)->tn i h'
 item:∀(X:Cx),X.prog=P->X.w=w->X.K=K->X.calm=true->∀(i:Nat) (pins:Ax) (s:Shared) (σ:St) (H:Hp) (E:Px),fD X pins σ H s->(∀b∈fp,qA X pins H b)->tn i s.heap->J.go i H ->
  wpAny (model P w) X.A (pyNext (.ref it)) (λr s1=>∃u,r=Y u /\
   wpAny (model P w) X.A (letOwnedTupleGo tg (.ref it) u) (λ_ s2=>∃x H',fD X pins σ H' s2/\gv x u/\J.S5 i H x H'/\tn (i+1) s2.heap/\∀b∈fp,H' b=Z) E s1) E s
 done:∀(X:Cx),X.prog=P->X.w=w->X.K=K->X.calm=true->∀(i:Nat) (pins:Ax) (s:Shared) (σ:St) (H:Hp) (E:Px),fD X pins σ H s->(∀b∈fp,qA X pins H b)->tn i s.heap->J.stop i H ->
  wpAny (model P w) X.A (pyNext (.ref it)) (λr s1=>r=Z/\fD X pins σ H s1) E s
 self:∀(A:Around) (i:Nat) (s:Shared) (Q:Px) (E:Px),tn i s.heap->Q (.ref it) s->wpAny (model P w) A (pyIter (.ref it)) Q E s
abbrev TI:=St->Hp->(It->Hp->Prop)->Prop
def Yi(X:Cx)(a:Ax)(σ:St)(f:Expr)(R:It->Hp->Prop)(c:Value)(d:Shared):Prop :=
 ∃(e:Addr) (fp:List Addr) (tn:Nat->Heap->Prop) (J:It) (H':Hp),c=.ref e/\fD X a σ H' d/\HF X.prog X.w X.K f J fp e tn/\tn 0 d.heap/\(∀b∈fp,qA X a H' b)/\R J H'
def PI(X:Cx)(d b:Expr)(c:TI):Prop :=
 ∀⦃a:Ax⦄ (s:Shared) (σ:St) (H:Hp) (R:It->Hp->Prop),fD X a σ H s->c σ H R ->
  (zw X) (eval b X.env) (λv s1=>(zw X) (pyIter v) (Yi X a σ d R) X.xe s1) X.xe s
theorem B8{M:Model}{c:Addr}{o:Obj}{n:String}{b:Array Value}{Q:Unit->Shared->Prop} (d:s.heap.get? c=Y o) (g:o.cls=.type n) (f:o.data=.fields b)
    (e:["enumerate","zip","dict_itemiterator","dict_reverseitemiterator","odict_iterator","itertools.zip_longest","itertools.pairwise"].contains n=false) (a:Q () s):wpAny M A (letOwnedTupleGo tg (.ref c) u) Q E s:=by
  unfold letOwnedTupleGo;cases tg<;>first
    |exact ar a
    | (cases u<;>first
        |exact ar a
        | (refine aa (wpAny_load d ?_)
           rw[g,f];show wpAny M A (if (["enumerate","zip","dict_itemiterator","dict_reverseitemiterator","odict_iterator","itertools.zip_longest","itertools.pairwise"].contains n&&b[0]?==Y (rawInt _))=true then _ else _) Q E s;rw[ao (by intro h;rw[e,Bool.false_and] at h;cases h)];exact ar a))
def Yj(K:Fg)(a:Addr):It :=
 ⟨λi H=>∃b x,o8 K H a b/\b[i]?=Y x,λi H x c=>c=H/\∀b,o8 K H a b->b[i]?=Y x,λi H=>∃b,o8 K H a b/\b.length<=i⟩
def Yk(K:Fg)(a:Addr):It :=
 ⟨λi H=>∃b x,rS K H a b/\b[i]?=Y x,λi H x c=>c=H/\∀b,rS K H a b->b[i]?=Y x,λi H=>∃b,rS K H a b/\b.length<=i⟩
def Tz(a:Int)(n:Nat):It:=⟨λi _=>i<n,λi H x b=>b=H/\x=.int (a+i),λi _=>n<=i⟩
theorem HG{P:Program}{K:Fg}(a j:Addr):HF P w K tg (Yj K a) [j] j (λi h=>h.IsListIter j a i) where
 mem:=by simp
 obj:=λi h f b l=>by
  have e:b=j:=by simpa using l
  subst e;obtain⟨o,e,c,d⟩:=f;exact⟨o,e,λv z=>by rw[d] at z;cases z⟩
 keep:=λi h r f k=>f.at λo e=>k j (by simp) o e
 item:=by intro X C hw D N i g s σ H E I q f B;subst C hw D;obtain⟨O,x,n,A⟩:=B;obtain⟨y,t,p,S⟩:=I.list n;obtain⟨u,U,R⟩:=t.get A;obtain⟨M,L,V,J,G,F⟩:=q j (by simp);refine cY f p.isList (x:=u) (by simpa using U) λr m Q=>?_;have I1:fD X g σ H { s with heap:=r }:=I.turned (t':=s.toks) (λb o l e=>(Q.2 b l).trans e) M L J G F;obtain⟨o,e,c,d⟩:=id m;exact⟨u,rfl,B8 (s:={ s with heap:=r }) e c d (by decide) ⟨x,H,I1,R,⟨rfl,λys T=>by rw[I.B6 T n];exact A⟩,m,λb l=>(q b l).1⟩⟩
 done:=by intro X C hw D N i g s σ H E I q f B;subst C hw D;obtain⟨O,n,A⟩:=B;obtain⟨y,t,p,S⟩:=I.list n;obtain⟨M,L,V,J,G,F⟩:=q j (by simp);have hl:=t.length;exact du (I.ok.hd N) f p.isList (by simp;omega) λr W=>⟨rfl,I.turned (t':=s.toks) (λb o l e=>W b o l e) M L J G F⟩
 self:=λ_ _ _ _ _ f h=>wpAny_pyIter_listiter f h
theorem Ek{P:Program}{K:Fg}(a l:Addr):HF P w K tg (Yk K a) [l] l (λi h=>h.IsTupleIter l a i) where
 mem:=by simp
 obj:=λi h f b m=>by
  have e:b=l:=by simpa using m
  subst e;obtain⟨o,e,c,d⟩:=f;exact⟨o,e,λv z=>by rw[d] at z;cases z⟩
 keep:=λi h t f k=>f.at λo e=>k l (by simp) o e
 item:=by intro X C hw D N i g s σ H E I r f B;subst C hw D;obtain⟨O,x,q,A⟩:=B;obtain⟨j,y,p,S⟩:=I.tuple q;obtain⟨u,U,R⟩:=y.get A;obtain⟨M,L,V,J,G,F⟩:=r l (by simp);refine wpAny_pyNext_tuple_item f (show s.heap.IsTuple a j.toArray from p) (x:=u) (by simpa using U) λt n Q=>?_;have I1:fD X g σ H { s with heap:=t }:=I.turned (t':=s.toks) (λb o m e=>(Q.2 b m).trans e) M L J G F;obtain⟨o,e,c,d⟩:=id n;exact⟨u,rfl,B8 (s:={ s with heap:=t }) e c d (by decide) ⟨x,H,I1,R,⟨rfl,λys T=>by rw[I.HD T q];exact A⟩,n,λb m=>(r b m).1⟩⟩
 done:=by intro X C hw D N i g s σ H E I r f B;subst C hw D;obtain⟨O,q,A⟩:=B;obtain⟨j,y,p,S⟩:=I.tuple q;obtain⟨M,L,V,J,G,F⟩:=r l (by simp);have hl:=y.length;exact wpAny_pyNext_tuple_end (I.ok.hd N) f (show s.heap.IsTuple a j.toArray from p) (by simp;omega) λt W=>⟨rfl,I.turned (t':=s.toks) (λb o m e=>W b o m e) M L J G F⟩
 self:=λ_ _ _ _ _ f h=>wpAny_pyIter_tupleiter f h
theorem El{P:Program}{K:Fg}(d:Addr)(j:Int)(n:Nat):HF P w K tg (Tz j n) [d] d (λi h=>IsRangeIter h d (j+(i:Nat)*1) ((n:Int) - (i:Nat)) 1) where
 mem:=by simp
 obj:=λi h a b f=>by
  have e:b=d:=by simpa using f
  subst e;exact⟨_,a,λv z=>by have F:Data.fields _=Data.cell v:=z;cases F⟩
 keep:=λi h m a k=>k d (by simp) _ a
 item:=by intro X r hw u q i c s σ H E I l a p;subst r hw u;obtain⟨C,B,L,A,y,x⟩:=l d (by simp);have W:=Walks.range (prog:=X.prog) (w:=X.w) (I.ok.hd q) d j 1 n;refine W.item i s _ _ p a λv m D J g G=>?_;obtain⟨t,rfl⟩:=J;have N:fD X c σ H { s with heap:=m,toks:=D }:=I.turned (λb o f e=>G b o (by simpa using f) e) C B A y x;refine⟨_,rfl,B8 (s:={ s with heap:=m,toks:=D }) (n:="range_iterator") g rfl rfl (by decide) ⟨.int (j+i),H,N,⟨t,?_⟩,⟨rfl,rfl⟩,g,λb f=>(l b f).1⟩⟩;rw[Int.mul_one]
 done:=by intro X r hw u q i c s σ H E I l a p;subst r hw u;obtain⟨C,B,L,A,y,x⟩:=l d (by simp);exact wpAny_pyNext_range_end (I.ok.hd q) a (by have:n<=i:=p;omega) λm M=>⟨rfl,I.turned (t':=s.toks) (λb o f e=>M b o f e) C B A y x⟩
 self:=λ_ _ _ _ _ a h=>wpAny_pyIter_rangeiter a h
section
def TB(K:Fg)(d:TE):TI:=λσ H R=>d σ H λx b=>∃a,x=.ref a/\(∃c,o8 K b a c)/\R (Yj K a) b
def Wo(K:Fg)(d:TE):TI:=λσ H R=>d σ H λx b=>∃a,x=.ref a/\(∃c,rS K b a c)/\R (Yk K a) b
theorem Gf{l:Expr}{g:TE}(n:PE X l g):PI X tg l (TB X.K g):=by
 intro c s σ H R I h;refine iP (@n c s σ H _ I h) λv d ⟨x,t,f,i,j⟩=>?_;obtain⟨a,e,⟨u,m⟩,q⟩:=j;subst e;cases i;obtain⟨k,w,p,y⟩:=f.list m;refine cZ p.isList ?_;refine⟨(zB d),[(zB d)],_,_,t,rfl,f.kept (t':=d.toks) λb o e=>af _ e,HG a _,⟨_,aG _ rfl,rfl,rfl⟩,λb r=>?_,q⟩;have e:b=(zB d):=by simpa using r
 subst e;exact f.HE (aH _) (f.iY.fresh (aH _))
theorem Jr{l:Expr}{i:TE}(n:PE X l i):PI X tg l (Wo X.K i):=by
 intro d s σ H R I h;refine iP (@n d s σ H _ I h) λv c ⟨x,t,f,j,k⟩=>?_;obtain⟨a,e,⟨u,m⟩,q⟩:=k;subst e;cases j;obtain⟨g,w,p,y⟩:=f.tuple m;refine wpAny_pyIter_tuple (show c.heap.IsTuple a g.toArray from p) ?_;refine⟨(zB c),[(zB c)],_,_,t,rfl,f.kept (t':=c.toks) λb o e=>af _ e,Ek a _,⟨_,aG _ rfl,rfl,rfl⟩,λb r=>?_,q⟩;have e:b=(zB c):=by simpa using r
 subst e;exact f.HE (aH _) (f.iY.fresh (aH _))
theorem Js{R:It->Hp->Prop}{a c:Int}{t u v:Tok}{d:Nat} (I:fD X pins σ H s) (k:-(2 ^ 62)<=a) (j:a<2 ^ 62) (i:-(2 ^ 62)<=c) (h:c<2 ^ 62)
  (q:R (Tz a (c - a).toNat) H):(zw X) (pyIter (.ref (zB s))) (Yi X pins σ tg R) E { s with heap:=s.heap.push { cls:=.type "range",data:=.fields #[.int a t,.int c u,.int 1 v] },toks:=d }:=by
 refine wpAny_pyIter_range (IsRange.new ..) (small_one k j i h) ?_;have f:fD X pins σ H { s with heap:=s.heap.push { cls:=.type "range",data:=.fields #[.int a t,.int c u,.int 1 v] },toks:=d }:=I.kept λb o e=>af _ e;refine⟨(s.heap.push { cls:=.type "range",data:=.fields #[.int a t,.int c u,.int 1 v] }).objs.size,[(s.heap.push { cls:=.type "range",data:=.fields #[.int a t,.int c u,.int 1 v] }).objs.size],_,_,H,rfl,
  f.kept (t':=d) λb o e=>af _ e,El _ a (c - a).toNat,?_,λb g=>?_,q⟩
 ·have m:a+((0:Nat):Int)*1=a:=by simp
  have l:(((c - a).toNat:Nat):Int) - ((0:Nat):Int)=Builtin.Range.rangeSize a c 1:=by rw[rangeSize_one];split<;>omega
  show IsRangeIter _ _ (a+((0:Nat):Int)*1) ((((c - a).toNat:Nat):Int) - ((0:Nat):Int)) 1;rw[m,l];exact aG _ rfl
 ·have e:b=(s.heap.push { cls:=.type "range",data:=.fields #[.int a t,.int c u,.int 1 v] }).objs.size:=by simpa using g
  subst e;exact f.HE (aH _) (f.iY.fresh (aH _))
def TC(b:TA):TI:=λσ H R=>b σ H λa c=>∃j:Int,a=[.int j]/\-(2 ^ 62)<=j/\j<2 ^ 62/\R (Tz 0 j.toNat) c
theorem yU{a:Expr}{d:TA}{p:Pos}(m:Gl X "range")(l:X.mg "range"=Z)(n:PA X [a] d)(k:starEach [a] X.env=[(false,eval a X.env)]:=by rfl):PI X tg (.Call (.Name "range" p) [a] [] pos) (TC d):=by
 intro b s σ H R I h;refine Call_ (qy I m l boot_range (bG (iP (@n pos b s σ H _ I h) λv w ⟨u,x,o,g,c⟩=>?_) k rfl));obtain⟨j,e,c,i,q⟩:=c;subst e;cases g with
 |cons r f=>cases f;obtain⟨t,rfl⟩:=r;exact call_range_1 (Js o (by omega) (by omega) c i (by simpa using q))
def Wq(c:TI)(g:TG)(d:TS):TS:=λD σ H=>c σ H λJ f=>∃W:Nat->Nat->St->Hp->Prop,(∃m,W 0 m σ f)/\∀i m σ H,W i m σ H ->
 (J.stop i H/\D.nx σ H)\/(J.go i H/\∃N:St->Hp->Prop,(∀σ' a,N σ' a->∃b,b<m/\W (i+1) b σ' a)/\∀x a,J.S5 i H x a->g x σ a λσ2 e=>d { D with nx:=N,ct:=N,bk:=D.nx } σ2 e)
def wx(a:List Addr)(h:Heap):Ax:=a.filterMap λb=>(h.get? b).map λo=>(b,o)
theorem pF{a:List Addr}{b:Addr}{o:Obj}(c:b∈a)(e:h.get? b=Y o):(b,o)∈wx a h:=bw.mpr ⟨b,c,by rw[e];rfl⟩
theorem HH{a:List Addr}{p:Addr×Obj}(c:p∈wx a h):p.1∈a/\h.get? p.1=Y p.2:=by
 obtain⟨b,d,e⟩:=bw.mp c;cases q:h.get? b with
 |none=>rw[q] at e;cases e
 |some o=>rw[q] at e;have f:(b,o)=p:=bB e;subst f;exact⟨d,q⟩
theorem fD.pinned{a:List Addr}(I:fD X pins σ H s)(i:∀b∈a,qA X pins H b)(h:∀b∈a,∃o,s.heap.get? b=Y o/\∀v,o.data≠.cell v):fD X (pins++wx a s.heap) σ H s :=
 I.mW λp g=>(aw.mp g).elim (λz=>I.pin p (au _ z)) λz=>by obtain⟨c,e⟩:=HH z;obtain⟨l,k,j,_⟩:=i p.1 c;obtain⟨o,f,d⟩:=h p.1 c;rw[e] at f;cases f;exact⟨e,l,k,j,d⟩
theorem fD.qB{pl:Ax}(I:fD X (pins++pl) σ H s):fD X pins σ H s:=I.mW λp a=>I.pin p (au _ (aC _ a))
theorem QN{j:Expr}{z:List Stmt}{wi:TI}{g:TG}{tb:TS} (L:PassesOwn (model X.prog X.w) X.A X.env X.xe) (hc:X.calm=true) (hi:PI X tg j wi) (hg:PG X tg g) (k:yj X z tb)
  (hs:∀x,foldedSetIterable j X.env x=pure x:=by intro _;rfl):PS X (.For tg j z [] pos) (Wq wi g tb):=by
 intro a s σ H D I h;refine wpAny_For (iP (@hi a s σ H _ I h) λv s1 h1=>iP h1 λZm s2 h2=>?_) hs;obtain⟨it,O,tn,J,H2,e,I2,T,Q,f2,W,⟨m0,w0⟩,C⟩:=h2;subst e;have c:∀{t:Hp},(∀b∈O,t b=Z)->∀b∈O,qA X a t b:=λhn b k=>⟨hn b k,(f2 b k).2⟩
 refine codeAny_forLoop_any (λn s'=>∃i σ' t,fD X a σ' t s'/\tn i s'.heap/\(∀b∈O,t b=Z)/\W i n σ' t) ?_ m0 ⟨0,σ,H2,I2,Q,λb k=>(f2 b k).1,w0⟩;rintro n s3 ⟨i,σ3,P,I3,G,M,w3⟩;rcases C i n σ3 P w3 with ⟨E,qn⟩ | ⟨go,N,hN,F⟩
 ·refine cp L (iP (T.done X rfl rfl rfl @hc i a s3 σ3 P X.xe I3 (c M) G E) λr s4 ⟨S,I4⟩=>?_);subst S;exact b8 ⟨σ3,P,I4,qn⟩
 ·refine cp L (iP (T.item X rfl rfl rfl @hc i a s3 σ3 P X.xe I3 (c M) G go) λr s4 ⟨u,S,h4⟩=>?_);subst S;refine cp L (iP h4 λ_ s5 ⟨x,H5,I5,r5,y5,B,U⟩=>?_);have V:=I5.pinned (c U) (T.obj _ _ B);refine cp L (iP (@hg _ s5 σ3 H5 x u _ V r5 (F x H5 y5)) λ_ s6 ⟨σ6,H6,I6,q6⟩=>?_);refine cp L (iP (@k _ s6 σ6 H6 _ I6 q6) λf R y=>?_);have l:∀{σ7:St}{q:Hp},fD X (a++wx O s5.heap) σ7 q R->N σ7 q->∃m,m<n/\∃i σ' t,fD X a σ' t R/\tn i R.heap/\(∀b∈O,t b=Z)/\W i m σ' t:=λ{σ7 q} p K=>by
   obtain⟨m',hm,w7⟩:=hN σ7 q K;refine⟨m',hm,i+1,σ7,q,p.qB,T.keep _ _ _ B λb k o e=>(p.pin (b,o) (au _ (au _ (pF k e)))).1,λb k=>?_,w7⟩;obtain⟨o,e,d⟩:=T.obj _ _ B b k;exact(p.pin (b,o) (au _ (au _ (pF k e)))).2.1
  cases f with
  |next=>obtain⟨σ7,q,p,K⟩:=y;exact l p K
  |cont=>obtain⟨σ7,q,p,K⟩:=y;exact l p K
  |brk=>obtain⟨σ7,q,p,y⟩:=y;exact⟨σ7,q,p.qB,y⟩
  |ret v=>obtain⟨x7,σ7,q,p,r7,y⟩:=y;exact⟨x7,σ7,q,p.qB,r7,y⟩
end
abbrev R2:=V->V->Hp->VK->Prop
def lO(X:Cx)(f:Value->Value->Sem Value)(r:R2):Prop :=
 ∀(a:Ax) (s:Shared) (σ:St) (H:Hp) (x y:V) (v u:Value) (Q:VK),fD X a σ H s->gv x v->gv y u->r x y H Q ->
  (zw X) (f v u) (EP X a σ Q) X.xe s
def Wr(X:Cx)(f:Value->Sem Value)(r:V->Hp->VK->Prop):Prop :=
 ∀(a:Ax) (s:Shared) (σ:St) (H:Hp) (x:V) (v:Value) (Q:VK),fD X a σ H s->gv x v->r x H Q ->
  (zw X) (f v) (EP X a σ Q) X.xe s
def ji(X:Cx)(f:Value)(r:List V->Hp->VK->Prop):Prop :=
 ∀(a:Ax) (s:Shared) (σ:St) (H:Hp) (xs:List V) (us:Lw) (Q:VK),fD X a σ H s->f7 xs us->r xs H Q ->
  (zw X) (call f us) (EP X a σ Q) X.xe s
def Ws(X:Cx)(r:V->Hp->(Bool->Hp->Prop)->Prop):Prop :=
 ∀(a:Ax) (s:Shared) (σ:St) (H:Hp) (x:V) (v:Value) (Q:Bool->Hp->Prop),fD X a σ H s->gv x v->r x H Q ->
  (zw X) (truthy v) (TP X a σ Q) X.xe s
def TF(r:R2)(b a:TE):TE:=λσ H Q=>b σ H λx d=>a σ d λy c=>r x y c Q
def Zn(r:V->Hp->VK->Prop)(a:TE):TE:=λσ H Q=>a σ H λx b=>r x b Q
def rI(C:Int->Int->Prop)(g:Int->Int->V):R2:=λx y H Q=>∃i j,x=.int i/\y=.int j/\C i j/\Q (g i j) H
def My(g:Int->Int->V):R2:=λx y H Q=>∃i j,x=.int i/\y=.int j/\Q (g i j) H
def rU(g:Int->V):V->Hp->VK->Prop:=λx H Q=>∃i,x=.int i/\Q (g i) H
section
variable {a b c:Expr}{ta tb tc:TE}
theorem QO(l:PE X a ta) (k:PE X b tb) {R:V->V->Hp->Prop} (I:fD X pins σ H s)
  (h:ta σ H λx H1=>tb σ H1 λy H2=>R x y H2) {Q:Px}{f:Value->Value->Sem Value}
  (j:∀v u s2 x y H2,fD X pins σ H2 s2->gv x v->gv y u->R x y H2->(zw X) (f v u) Q X.xe s2):
  (zw X) (eval a X.env) (λv s₁=>(zw X) (eval b X.env) (λu s₂=>(zw X) (f v u) Q X.xe s₂) X.xe s₁) X.xe s:=by
 refine iP (@l pins s σ H _ I h) λv c ⟨x,H1,n,e,i⟩=>?_;refine iP (@k pins c σ H1 _ n i) λu s2 ⟨y,H2,m,d,g⟩=>?_;exact j v u s2 x y H2 m e d g
theorem Jt{d:Operator}{r:R2}(g:lO X (binaryOp d) r)(j:PE X a ta)(i:PE X b tb):PE X (.BinOp a d b pos) (TF r ta tb):=by intro c s σ H Q I h;exact wpAny_BinOp (QO j i I h λv u s2 x y l k f e q=>@g c s2 σ l x y v u Q k f e q)
theorem TH{c:UnaryOp}{r:V->Hp->VK->Prop}(g:Wr X (unaryOp c) r)(i:PE X a ta):PE X (.UnaryOp c a pos) (Zn r ta):=by intro b s σ H Q I h;exact UnaryOp_ (iP (@i b s σ H _ I h) λv d ⟨x,k,j,e,f⟩=>@g b d σ k x v Q j e f)
theorem Wt{f:Value->Value->Sem Value}{C:Int->Int->Prop}{g:Int->Int->Int}
  (a:∀(i j:Int) (t u:Tok) (s:Shared) (Q:Px) (E:Px),C i j->Q (.int (g i j) s.toks) { s with toks:=s.toks+1 }->(zw X) (f (.int i t) (.int j u)) Q E s):
  lO X f (rI C λi j=>.int (g i j)):=by
 intro b s σ H x y v u Q I e d h;obtain⟨i,j,rfl,rfl,k,q⟩:=h;obtain⟨t,rfl⟩:=e;obtain⟨c,rfl⟩:=d;exact a i j t c s _ _ k ⟨.int (g i j),H,I.tok _,⟨_,rfl⟩,q⟩
theorem TJ{f:Value->Value->Sem Value}{g:Int->Int->Int}
  (a:∀(i j:Int) (t u:Tok) (s:Shared) (Q:Px) (E:Px),Q (.int (g i j) s.toks) { s with toks:=s.toks+1 }->(zw X) (f (.int i t) (.int j u)) Q E s):
  lO X f (My λi j=>.int (g i j)):=by
 intro b s σ H x y v u Q I e d h;obtain⟨i,j,rfl,rfl,q⟩:=h;obtain⟨t,rfl⟩:=e;obtain⟨c,rfl⟩:=d;exact a i j t c s _ _ ⟨.int (g i j),H,I.tok _,⟨_,rfl⟩,q⟩
theorem MT{f:Value->Value->Sem Value}{g:Int->Int->Bool}
  (a:∀(i j:Int) (t u:Tok) (s:Shared) (Q:Px) (E:Px),Q (.bool (g i j)) s->(zw X) (f (.int i t) (.int j u)) Q E s):
  lO X f (My λi j=>.bl (g i j)):=by
 intro b s σ H x y v u Q I e d h;obtain⟨i,j,rfl,rfl,q⟩:=h;obtain⟨t,rfl⟩:=e;obtain⟨c,rfl⟩:=d;exact a i j t c s _ _ ⟨.bl (g i j),H,I,rfl,q⟩
def TK(i j:Int):Prop:=0<j/\j<1073741824
theorem QP:lO X (binaryOp .Add) (My λi j=>.int (i+j)):=TJ λ_ _ _ _ _ _ _ q=>add_int q
theorem QQ:lO X (binaryOp .Sub) (My λi j=>.int (i - j)):=TJ λ_ _ _ _ _ _ _ q=>sub_int q
theorem MU:lO X (binaryOp .FloorDiv) (rI TK λi j=>.int (i / j)):=Wt λi j _ _ _ _ _ a q=>by have c:(0:Int)<j:=a.1;have b:j<1073741824:=a.2;exact floordiv_int (by omega) (by rw[Int.fdiv_eq_ediv_of_nonneg i (by omega)];exact q) (.inl (PyProof.noPylong_small (by omega)))
theorem QR:lO X (binaryOp .Mod) (rI (λ_ j=>0<j) λi j=>.int (i % j)):=Wt λi j _ _ _ _ _ a q=>by have b:(0:Int)<j:=a;exact mod_int' (by omega) (by rw[Int.fmod_eq_emod_of_nonneg i (by omega)];exact q)
theorem Zo{f:Value->Sem Value}{g:Int->Int}
  (a:∀(i:Int) (t:Tok) (s:Shared) (Q:Px) (E:Px),Q (.int (g i) s.toks) { s with toks:=s.toks+1 }->(zw X) (f (.int i t)) Q E s):
  Wr X f (rU λi=>.int (g i)):=by
 intro b s σ H x v Q I c h;obtain⟨i,rfl,q⟩:=h;obtain⟨t,rfl⟩:=c;exact a i t s _ _ ⟨.int (g i),H,I.tok _,⟨_,rfl⟩,q⟩
theorem QS:Wr X (unaryOp .USub) (rU λi=>.int (-i)):=Zo λ_ _ _ _ _ q=>neg_int q
end
section
variable {a b c:Expr}{ta tb tc:TE}
theorem wy{Q:VK}{k a:Bool}(I:fD X pins σ H s)(q:Q (.bl k) H)(e:k=a):EP X pins σ Q (.bool a) s:=by subst e;exact⟨.bl k,H,I,rfl,q⟩
theorem TL:lO X (compareOp .Lt) (My λi j=>.bl (decide (i<j))):=MT λ_ _ _ _ _ _ _ q=>lt_int q
theorem TM:lO X (compareOp .LtE) (My λi j=>.bl (decide (i<=j))):=MT λ_ _ _ _ _ _ _ q=>le_int q
theorem TN:lO X (compareOp .Gt) (My λi j=>.bl (decide (j<i))):=MT λ_ _ _ _ _ _ _ q=>gt_int q
theorem TQ:lO X (compareOp .GtE) (My λi j=>.bl (decide (j<=i))):=MT λ_ _ _ _ _ _ _ q=>ge_int q
theorem HJ:lO X (compareOp .In) (λx y H Q=>∃i j,x=.str i/\y=.str j/\Q (.bl (!(Builtin.Str.occurrences j i 0 j.length 1).isEmpty)) H):=by intro a s σ H x y v u Q I c b h;obtain⟨i,j,rfl,rfl,q⟩:=h;obtain⟨t,rfl⟩:=c;obtain⟨d,rfl⟩:=b;exact in_str (wy I q rfl)
theorem QT:lO X (compareOp .Is) (λx y H Q=>y=.lP/\Q (.bl (decide (x=.lP))) H):=by
 intro b s σ H x y v u Q I a c h;obtain⟨rfl,q⟩:=h;cases c;refine is_none_gen (wy I q ?_);cases x<;>first
  | (cases a;rfl)
  | (obtain⟨t,rfl⟩:=a;rfl)
theorem MV:lO X (compareOp .IsNot) (λx y H Q=>y=.lP/\Q (.bl (!decide (x=.lP))) H):=by
 intro b s σ H x y v u Q I a c h;obtain⟨rfl,q⟩:=h;cases c;refine isnot_none_gen (wy I q ?_);cases x<;>first
  | (cases a;rfl)
  | (obtain⟨t,rfl⟩:=a;rfl)
theorem Al:lO X (compareOp .NotIn) (λx y H Q=>∃i j,x=.str i/\y=.str j/\Q (.bl (!(!(Builtin.Str.occurrences j i 0 j.length 1).isEmpty))) H):=by intro a s σ H x y v u Q I c b h;obtain⟨i,j,rfl,rfl,q⟩:=h;obtain⟨t,rfl⟩:=c;obtain⟨d,rfl⟩:=b;exact notIn_str (wy I q rfl)
theorem lO.or{f:Value->Value->Sem Value}{r d:R2}(h:lO X f r)(e:lO X f d):lO X f (λx y H Q=>r x y H Q\/d x y H Q):=by
 intro a s σ H x y v u Q I c b q;rcases q with q|q
 ·exact @h a s σ H x y v u Q I c b q
 ·exact @e a s σ H x y v u Q I c b q
theorem Ju(b:Expr){a:CmpOp}(h:a≠.In:=by decide)(c:a≠.NotIn:=by decide):behindInMarks a b=false:=by
 have e:(a==CmpOp.In)=false:=by cases a<;>first|rfl|exact absurd rfl h
 have d:(a==CmpOp.NotIn)=false:=by cases a<;>first|rfl|exact absurd rfl c
 cases b<;>simp[behindInMarks,e,d]
theorem MW{d:CmpOp}{r:R2}(g:lO X (compareOp d) r)(k:PE X a ta)(j:PE X b tb)(i:behindInMarks d b=false):PE X (.Compare a [d] [b] pos) (TF r ta tb):=by intro c s σ H Q I h;exact wpAny_Compare1 (QO k j I h λv u s2 x y m l f e q=>@g c s2 σ m x y v u Q l f e q) i
def PH(t:TE):TT:=λσ H Q=>t σ H λx a=>∃k,x=.bl k/\Q k a
theorem Gg{f:CmpOp}{r:R2}(q:lO X (compareOp f) r)(A:PE X a ta)(w:PE X b tb)(t:behindInMarks f b=false):PT X (.Compare a [f] [b] pos) (PH (TF r ta tb)):=by
 intro d s σ H Q I h;refine wpAny_isTrue_Compare1 (iP (@A d s σ H _ I h) λv i ⟨x,G,D,m,p⟩=>iP (@w d i σ G _ D p) λu g ⟨y,F,C,l,o⟩=>
  iP (@q d g σ F x y v u _ C m l o) λc J ⟨z,E,B,j,k,e,n⟩=>?_) t
 subst e;cases j;exact cv ⟨E,B,n⟩
def QU(r f:R2)(e d c:TE):TE:=λσ H Q=>e σ H λx i=>d σ i λy h=>r x y h λz a=>∃k,z=.bl k /\
 (if k=true then c σ a λb g=>f y b g Q else Q (.bl false) a)
theorem Jv{i g:CmpOp}{r m:R2} (O:lO X (compareOp i) r) (j:lO X (compareOp g) m) (T:PE X a ta) (S:PE X b tb) (R:PE X c tc)
  (P:lastMarks [i,g] [b,c]=false:=by with_unfolding_all rfl):PT X (.Compare a [i,g] [b,c] pos) (PH (QU r m ta tb tc)):=by
 intro f s σ H Q I h;refine isTrue_chain (iP (@T f s σ H _ I h) λv C ⟨x,H1,I1,G,M⟩=>test_link (iP (@S f C σ H1 _ I1 M) λu B ⟨y,H2,I2,l,L⟩=>
  iP (@O f B σ H2 x y v u _ I2 G l L) λd A ⟨z,p,o,F,k,e,n⟩=>?_)) P
 subst e;cases F;refine cv ?_;cases k with
 |false=>obtain⟨k',V,N⟩:=n;cases V;exact ite_ff ⟨p,o,N⟩
 |true=>refine ite_tt (test_last (iP (@R f A σ p _ o n) λt w ⟨q,H4,I4,E,K⟩=>iP (@j f w σ H4 y q u t _ I4 l E K) λd' s5 ⟨z2,H5,W,D,k2,U,J⟩=>?_));subst U;cases D;exact cv ⟨H5,W,J⟩
def QV(K:Fg)(x:V)(H:Hp)(k:Bool):Prop :=
 match x with
 |.lP=>k=false
 |.bl b=>k=b
 |.int i=>k=(i != 0)
 |.str y=>y.length<=sizeLine/\k=((y.length:Int) != 0)
 |.SY y=>y.size<=sizeLine/\k=((y.size:Int) != 0)
 |.ref p=>(∃a,o8 K H p a/\k=!a.isEmpty)\/(∃a,rS K H p a/\k=!a.isEmpty)\/∃c,H p=Y (.dK c)/\k=!c.isEmpty
 |_=>False
theorem Em{κ:Type}{a:List (κ×V)}{b:List (κ×Value)}(r:KV a b):(!b.isEmpty)=!a.isEmpty:=by cases r<;>rfl
theorem wz{b:List V}{a:Lw}(r:f7 b a):(!a.toArray.isEmpty)=!b.isEmpty:=by cases r<;>simp
theorem sm:(sizeLine:Nat)<2 ^ 63:=by rw[sizeLine_eq];decide
theorem QW:Ws X (λx H Q=>∃k,QV X.K x H k/\Q k H):=by
 intro u s σ H x v Q I g h;obtain⟨k,e,q⟩:=h;have D:=sm;have C:sizeLine=16777216:=sizeLine_eq;cases x with
 |lP=>cases g;have a:k=false:=e;subst a;exact truthy_none ⟨H,I,q⟩
 |bl b=>cases g;have a:k=b:=e;subst a;exact cv ⟨H,I,q⟩
 |int i=>obtain⟨t,rfl⟩:=g;have a:k=(i != 0):=e;subst a;exact PySem.P.truthy_int ⟨H,I,q⟩
 |str y=>obtain⟨t,rfl⟩:=g;obtain⟨A,a⟩:y.length<=sizeLine/\k=((y.length:Int) != 0):=e;subst a;exact PySem.P.truthy_str (by omega) ⟨H,I.tok _,q⟩
 |SY y=>obtain⟨t,rfl⟩:=g;obtain⟨A,a⟩:y.size<=sizeLine/\k=((y.size:Int) != 0):=e;subst a;exact W.truthy_bytes (by omega) ⟨H,I.tok _,q⟩
 |ref p=>
  cases g;have a:(∃f,o8 X.K H p f/\k=!f.isEmpty)\/(∃f,rS X.K H p f/\k=!f.isEmpty)\/∃c,H p=Y (.dK c)/\k=!c.isEmpty:=e;rcases a with ⟨f,j,a⟩ | ⟨f,j,a⟩ | ⟨c,j,a⟩
  ·subst a;obtain⟨o,r,n,z⟩:=I.list j;have d:=r.length;exact wpAny_truthy_list n.isList (by simp only[az];omega) ⟨H,I.tok _,by rw[wz r];exact q⟩
  ·subst a;obtain⟨o,r,n,z⟩:=I.tuple j;have d:=r.length;exact truthy_tuple n (by simp only[az];omega) ⟨H,I.tok _,by rw[wz r];exact q⟩
  ·subst a;obtain⟨z,B,l,r,m⟩:c.length<=sizeLine/\(p==sysModules)=false/\∃l,KV c l/\s.heap.DictOf (gL X.prog X.w) p l:=I.iY p _ j;have d:c.length=l.length:=eC r;exact wpAny_truthy_dict B m (by omega) ⟨H,I.tok _,by rw[Em r];exact q⟩
 |_=>exact(show False from e).elim
theorem B9(i:PE X a ta)(g:∀whole,isTrue a X.env whole=(do let v <-whole;standAt a.pos;holding [v] (truthy v))):
  PT X a (λσ H Q=>ta σ H λx c=>∃k,QV X.K x c k/\Q k c):=by
 intro b s σ H Q I h;exact isTrue_plain (iP (@i b s σ H _ I h) λv d ⟨x,l,j,e,f⟩=>QW b d σ l x v Q j e f) (g _)
theorem En:lO X (binaryOp .Add) (λx y H Q=>∃i j,x=.str i/\y=.str j/\i.length+j.length<=sizeLine/\Q (.str (i++j)) H):=by intro a s σ H x y v u Q I d c h;obtain⟨i,j,rfl,rfl,e,q⟩:=h;obtain⟨t,rfl⟩:=d;obtain⟨b,rfl⟩:=c;exact add_str (λb f=>⟨.str (i++j),H,I.tok _,⟨_,rfl⟩,q⟩) e
theorem wA{x:V}{a:Lw}(r:f7 [x] a):∃u,a=[u]/\gv x u:=by
 cases r with
 |cons c b=>cases b;exact⟨_,rfl,c⟩
theorem PK{x y:V}{b:Lw}(r:f7 [x,y] b):∃u a,b=[u,a]/\gv x u/\gv y a:=by
 cases r with
 |cons f e=>
  cases e with
  |cons d c=>cases c;exact⟨_,_,rfl,f,d⟩
theorem HK(c:X.calm=true):ji X (.builtin "max") (λxs H Q=>∃i j,xs=[.int i,.int j]/\Q (.int (if j > i then j else i)) H):=by
 intro b s σ H xs e Q I r h;obtain⟨i,j,rfl,q⟩:=h;obtain⟨u,d,rfl,⟨t,rfl⟩,⟨g,rfl⟩⟩:=PK r;refine max_two_ints (I.ok.hd c) λl f k=>⟨_,H,I.kept k,?_,q⟩
 by_cases a:j > i
 ·rw[ai a,ai a];exact⟨_,rfl⟩
 ·rw[ao a,ao a];exact⟨_,rfl⟩
theorem HL(c:X.calm=true):ji X (.builtin "min") (λxs H Q=>∃i j,xs=[.int i,.int j]/\Q (.int (if j<i then j else i)) H):=by
 intro b s σ H xs e Q I r h;obtain⟨i,j,rfl,q⟩:=h;obtain⟨u,d,rfl,⟨t,rfl⟩,⟨g,rfl⟩⟩:=PK r;refine min_two_ints (I.ok.hd c) λl f k=>⟨_,H,I.kept k,?_,q⟩
 by_cases a:j<i
 ·rw[ai a,ai a];exact⟨_,rfl⟩
 ·rw[ao a,ao a];exact⟨_,rfl⟩
end
structure Eo (h:Heap) (x dx C:Addr) (mA:Str->Ow):Prop where
 obj:h.get? x=Y (W.instObj C dx)
 ns:h.Ns1 dx mA
 ne:dx≠x
theorem HM{i:Addr}{f:Str->Ow}(n:h.Ns1 i f):∃d,h.get? i=Y d/\∀b,W.lookIn b d=Y (f b):=by
 obtain⟨o,g,s,k,p,m,_,l⟩:=n;refine⟨o,k,λb=>?_⟩;have e:=l b;unfold nsFind findBy at e;rw[<-Array.find?_toList] at e;unfold W.lookIn;rw[p];dsimp only;split
 ·rename_i y q;rw[q] at e;exact bK Y e
 ·rename_i q;rw[q] at e;have a:g.toList.any (·.refKey)=false:=by
   rw[List.any_eq_false];intro y j;obtain⟨z,t,c⟩:=m y (Array.mem_toList_iff.mp j);simp[DictEntry.refKey,c]
  have r:¬ g.toList.any (·.refKey)=true:=by rw[a];exact aR
  rw[ao r];exact bK Y e
theorem Eo.look{x d:Addr}{c:Str->Ow}(I:Eo h x d C c):∃b,W.InstAt h x (W.instObj C d) C (Y b)/\∀a,W.lookIn a b=Y (c a) :=
 let ⟨b,e,f⟩:=HM I.ns
 ⟨b,⟨I.obj,rfl,rfl,e⟩,f⟩
section
variable {prog:Program}{K:Fg}{x dx f:Addr}{mA:Str->Ow}{name:Str}{v:Value}
theorem MX{a:Bool}{Q:Px} (X:K.In s.heap) (I:Eo s.heap x dx C mA) (f:W.plainGet K C name=true) (e:W.hasDictIn K C=true)
  (g:W.findIn K (.ref C) name=Y Z) (c:mA name=Y v) (b:W.handedIn v=true) (h:Q v { s with toks:=s.toks+1 }):
  wpAny (model prog w) A (getAttr (.ref x) name a) Q E s:=by
 obtain⟨i,J,d⟩:=I.look;exact W.get_value X J (W.plainGet_of f).1 (W.findObj_own e g rfl (by rw[d,c])) b h
theorem Jw{b:Sem Bool}{Q:Value×Lw->Shared->Prop} (X:K.In s.heap) (I:Eo s.heap x dx C mA) (a:W.plainGet K C name=true)
  (i:W.findIn K (.ref C) name=Y (Y (.ref f))) (e:W.isFn K (.ref f)=true) (d:mA name=Z) (h:Q (.ref f,[.ref x]) s):
  wpAny (model prog w) A (getMethod (.ref x) name b) Q E s:=by
 obtain⟨c,J,g⟩:=I.look;exact W.method_fn X J (W.plainGet_of a).1 (W.plainGet_of a).2 i (bY.mp e) (by show (W.lookIn name c).map (·.isSome)=Y false;rw[g,d];rfl) h
theorem MY{j:Lr}{Q:Unit->Shared->Prop} (X:K.In s.heap) (I:Eo s.heap x dx C mA)
  (n:W.findIn K (.ref C) "__setattr__"=Y (Y (.builtin "object.__setattr__"))) (o:W.plainOver K C=true) (l:W.takerIn K C name=Y Z) (p:W.hasDictIn K C=true)
  (hw:PySem.Within mA j) (m:j.length<=sizeLine)
  (h:∀h',Eo h' x dx C (λy=>if y=name then Y v else mA y)->Heap.SameBut dx s.heap h'->Q () { s with heap:=h',toks:=s.toks+2 }):
  wpAny (model prog w) A (setAttr (.ref x) name v) Q E s:=by
 obtain⟨z,J,D⟩:=I.look;refine W.set_plain X J n (W.osa_open (s:={ s with toks:=s.toks+1 }) (r:=Z) X J o l λb=>?_);obtain⟨F,q,g⟩:=W.any_some p;have k:s.heap.get? x=Y ⟨.ref C,Y dx,.plain,#[]⟩:=I.obj;refine aa (ar (aa (aa (wpAny_loadPart k (aa (W.Looks.here (s:={ s with toks:=s.toks+1 }) (W.looks_clsIn X q) ?_))))));rw[g];refine ar (a:=Y dx) (aa (ar (aa ?_)));refine wpAny_nsSet1 (s:={ s with toks:=s.toks+1 }) I.ns λh' d c=>?_;obtain⟨B,t,u,e,f,i⟩:=d.count (PySem.Within.cons name v hw);refine aa (wpAny_lookBehind e (by rw[f];exact pastItsLine_dict (bu i (by rw[ay];omega))) ?_);exact ar (h _ ⟨(c.2 _ (Ne.symm I.ne)).trans I.obj,d,I.ne⟩ c)
theorem Jx{a:Lw}{b:List (Str×Value)} (X:K.In s.heap) (c:W.makesIn K C=true)
  (e:W.findIn K (.ref C) "__init__"=Y (Y (.ref f))) (i:W.typeIn K (.ref f)=Y (.type "function"))
  (h:codeAny (model prog w) (A.under (.builtin "type.__call__" ⟨.ref C::a,b⟩)) (.call (.ref f) ⟨.ref ((zB s)+1)::a,b⟩) (W.InitBack ((zB s)+1) R)
   { s with heap:=(s.heap.push W.emptyDict).push (W.instObj C (zB s)) }):
  codeAny (model prog w) A (.call (.ref C) ⟨a,b⟩) R s:=by
 obtain⟨k,g,d,t,j⟩:=s;exact W.make_core (W.makes_of X c) (W.looks_findIn X e) (λself=>W.bind_fn X self i) (.inl rfl) h
end
noncomputable def nL(f:Str)(v:V):List (Str×V)->List (Str×V)
 |[]=>[(f,v)]
 | (g,x)::r=>if g=f then (g,v)::r else (g,x)::nL f v r
theorem vc(f g:Str)(v:V):∀c:List (Str×V),(nL f v c).lookup g=if g=f then Y v else c.lookup g
 |[]=>by
  show List.lookup g [(f,v)]=_;by_cases h:g=f
  ·have a:(g==f)=true:=bY.mpr h;simp only[List.lookup,a,ai h]
  ·have a:(g==f)=false:=aY.mpr h;simp only[List.lookup,a,ao h]
 | (k,x)::r=>by
  have d:=vc f g v r;rw[show nL f v ((k,x)::r)=(if k=f then (k,v)::r else (k,x)::nL f v r) from rfl];by_cases b:k=f
  ·rw[ai b];by_cases h:g=k
   ·have a:(g==k)=true:=bY.mpr h;simp only[List.lookup,a,ai (h.trans b)]
   ·have a:(g==k)=false:=aY.mpr h;simp only[List.lookup,a,ao (λe:g=f=>h (e.trans b.symm))]
  ·rw[ao b];by_cases h:g=k
   ·have a:(g==k)=true:=bY.mpr h;simp only[List.lookup,a,ao (λe:g=f=>b (h.symm.trans e))]
   ·have a:(g==k)=false:=aY.mpr h;simp only[List.lookup,a];exact d
theorem uv(f:Str)(v:V):∀b:List (Str×V),f∈(nL f v b).map (·.1)/\∀g,g∈b.map (·.1)->g∈(nL f v b).map (·.1)
 |[]=>⟨by simp[nL],λg h=>by simp at h⟩
 | (k,x)::r=>by
  obtain⟨d,c⟩:=uv f v r;rw[show nL f v ((k,x)::r)=(if k=f then (k,v)::r else (k,x)::nL f v r) from rfl];by_cases a:k=f
  ·rw[ai a];subst a;exact⟨by simp,λg h=>by simpa using h⟩
  ·rw[ao a];refine⟨?_,λg h=>?_⟩
   ·rw[ae];exact aj _ d
   ·rw[ae] at h ⊢;rcases ag.mp h with e|e
    ·exact ag.mpr (.inl e)
    ·exact aj _ (c g e)
theorem vd(f:Str)(v:V):∀b:List (Str×V),(nL f v b).length<=b.length+1
 |[]=>by simp[nL]
 | (k,x)::r=>by
  have c:=vd f v r;rw[show nL f v ((k,x)::r)=(if k=f then (k,v)::r else (k,x)::nL f v r) from rfl];by_cases a:k=f
  ·rw[ai a,ay,ay];omega
  ·rw[ao a,ay,ay];omega
theorem qi.some_of{o:Ow}(r:qi (Y v) o):∃u,o=Y u/\gv v u:=by
 cases o with
 |none=>exact(show False from r).elim
 |some u=>exact⟨u,rfl,r⟩
theorem qi.none_of{o:Ow}(r:qi Z o):o=Z:=by
 cases o with
 |none=>rfl
 |some u=>exact(show False from r).elim
theorem HN(r:gv v u):W.handedIn u=true:=by
 cases v with
 |lP=>cases (show u=Value.none from r);rfl
 |bl b=>cases (show u=Value.bool b from r);rfl
 |int i=>obtain⟨t,e⟩:=(show ∃t,u=Value.int i t from r);cases e;rfl
 |str x=>obtain⟨t,e⟩:=(show ∃t,u=Value.str x t from r);cases e;rfl
 |SY b=>obtain⟨t,e⟩:=(show ∃t,u=Value.bytes b t from r);cases e;rfl
 |Vu b=>obtain⟨t,e⟩:=(show ∃t,u=Value.float b t from r);cases e;rfl
 |ref a=>cases (show u=Value.ref a from r);rfl
 |ty n=>cases (show u=Value.type n from r);rfl
section
variable {P:Program}{H':Hp}{h':Heap}{dx:Addr}{fs Zk:List (Str×V)}
theorem Am(c:qj P w H h)(e:H a=Y (.ins C dx fs)):∃b,Eo h a dx C b/\(∀f,qi (fs.lookup f) (b f))/\PySem.Within b (fs.map (·.1))/\fs.length<=1000/\H dx=Y (.own a):=by
 obtain⟨d,z,i,g,b,n,r,q⟩:=(show jh P w H h a (.ins C dx fs) from c a _ e)
 exact⟨b,⟨g,n,i⟩,r,q,z,d⟩
end
structure Jy (K:Fg) (C:Addr):Prop where
 pg:W.plainGet K C Str.empty=true
 hd:W.hasDictIn K C=true
 po:W.plainOver K C=true
 sa:W.findIn K (.ref C) "__setattr__"=Y (Y (.builtin "object.__setattr__"))
theorem Jy.get{K:Fg}(c:Jy K C)(f:Str):W.plainGet K C f=true:=c.pg
def so(K:Fg)(C:Addr)(f:Str):Prop:=W.findIn K (.ref C) f=Y Z
theorem so.TR{K:Fg}{f:Str}(n:so K C f):W.takerIn K C f=Y Z:=by unfold W.takerIn;rw[show W.findIn K (.ref C) f=Y Z from n];rfl
structure MZ (K:Fg) (C:Addr) (m:Str) (f:Addr):Prop where
 at_:W.findIn K (.ref C) m=Y (Y (.ref f))
 fn:W.isFn K (.ref f)=true
 kp:W.keepIn K (.ref f)=true
section
variable {dx:Addr}{fs:List (Str×V)}{f:Str}
theorem Ep{b:Bool}{Q:Px} (I:fD X pins σ H s) (e:H a=Y (.ins C dx fs)) (c:Jy X.K C) (n:so X.K C f) (l:fs.lookup f=Y v)
  (h:∀u s',fD X pins σ H s'->gv v u->Q u s'):wpAny (model X.prog X.w) A (getAttr (.ref a) f b) Q E s:=by
 obtain⟨g,O,r,_,_,_⟩:=Am I.iY e;obtain⟨u,i,d⟩:=qi.some_of (v:=v) (o:=g f) (by rw[<-l];exact r f);exact MX I.sR O (c.get f) c.hd n i (HN d) (h u _ (I.tok _) d)
theorem Er{m:Str}{g:Addr}{pl:Sem Bool}{Q:Value×Lw->Shared->Prop} (I:fD X pins σ H s) (e:H a=Y (.ins C dx fs)) (c:Jy X.K C) (k:MZ X.K C m g) (l:fs.lookup m=Z)
  (h:Q (.ref g,[.ref a]) s):wpAny (model X.prog X.w) A (getMethod (.ref a) m pl) Q E s:=by
 obtain⟨b,O,r,_,_,_⟩:=Am I.iY e;have d:b m=Z:=qi.none_of (by rw[<-l];exact r m);exact Jw I.sR O (c.get m) k.at_ k.fn d h
theorem Es{y:V}{Q:Unit->Shared->Prop} (I:fD X pins σ H s) (e:H a=Y (.ins C dx fs)) (c:Jy X.K C) (n:so X.K C f) (F:fs.length<1000) (m:gv y u)
  (h:∀s',fD X pins σ (upd H a (.ins C dx (nL f y fs))) s'->Q () s'):wpAny (model X.prog X.w) A (setAttr (.ref a) f u) Q E s:=by
 obtain⟨j,O,r,i,_,k⟩:=Am I.iY e;have p:(fs.map (·.1)).length<=sizeLine:=by rw[ah,sizeLine_eq];omega
 refine MY I.sR O c.sa c.po n.TR c.hd i p λB d l=>h _ ?_;have v:∃o,B.get? dx=Y o:=let ⟨o,_,_,D,_⟩:=d.ns;⟨o,D⟩;refine I.write (x:=a) (e:=dx) (by rw[e];exact a0) (.inr k) (λb q hb z=>(l.2 b hb).trans z) v ?_;refine⟨by rw[fK O.ne];exact k,?_,O.ne,d.obj,_,d.ns,λg=>?_,λg t=>?_⟩
 ·have:=vd f y fs;omega
 ·show qi ((nL f y fs).lookup g) (if g=f then Y u else j g);rw[vc];by_cases q:g=f
  ·rw[ai q,ai q];exact m
  ·rw[ao q,ao q];exact r g
 ·by_cases q:g=f
  ·rw[q];exact(uv f y fs).1
  ·refine(uv f y fs).2 g (i g λz=>t ?_);show (if g=f then Y u else j g)=Z;rw[ao q];exact z
theorem fD.made(I:fD X pins σ H s):fD X pins σ (upd (upd H (zB s) (.own ((zB s)+1))) ((zB s)+1) (.ins C (zB s) []))
  { s with heap:=(s.heap.push W.emptyDict).push (W.instObj C (zB s)) }:=by
 have d:(s.heap.push W.emptyDict).get? (zB s)=Y W.emptyDict:=aG s.heap rfl;have h:((s.heap.push W.emptyDict).push (W.instObj C (zB s))).get? ((zB s)+1)=Y (W.instObj C (zB s)):=by have:=aG (s.heap.push W.emptyDict) (o:=W.instObj C (zB s)) rfl;rwa[dY] at this
 have g:(s.heap.push W.emptyDict).Ns (zB s) (λ_=>Z):=⟨W.emptyDict,#[],_,d,rfl,(λe he=>absurd he (by simp)),λ_=>rfl⟩
 have i:=I.laid (a:=(zB s)) (o:=.own ((zB s)+1)) (h':=s.heap.push W.emptyDict) (t':=s.toks) (λb u q=>af _ q) (aH _) ⟨_,d⟩;refine i.laid (a:=(zB s)+1) (o:=.ins C (zB s) []) (t':=s.toks) (λb u q=>af _ q) (Nat.le_of_eq (dY _ _)) ?_;have c:(zB s)≠(zB s)+1:=aN (dy _);refine⟨by rw[fK c,fX],dH _,c,h,λ_=>Z,(Heap.Ns1.of_empty g).at λo q=>af _ q,λ_=>a0,λy f=>absurd rfl f⟩
theorem Gh{a:Program}{b:Env}{Q:Px} (c:attributeBase e f b (eval e b)=eval e b)
  (h:wpAny (model a w) A (eval e b) (λo s₁=>wpAny (model a w) A (getAttr o f true) Q E s₁) E s):wpAny (model a w) A (eval (.Attribute e f pos) b) Q E s :=
 Attribute_any_ h (by rw[arm_eval_Attribute,c])
end
def Wu(K:Fg)(d:TE)(f:Str):TE:=λσ H Q=>d σ H λx c=>∃a C e b v,x=.ref a/\c a=Y (.ins C e b)/\Jy K C/\so K C f/\b.lookup f=Y v/\Q v c
def Wv(K:Fg)(g e:TE)(f:Str):TS:=λD σ H=>e σ H λy h=>g σ h λx d=>∃a C c b,x=.ref a/\d a=Y (.ins C c b)/\Jy K C/\so K C f/\b.length<1000 /\
 D.nx σ (upd d a (.ins C c (nL f y b)))
section
variable {o value:Expr}{f:Str}{pos' Ww:Pos}{ta tv:TE}
theorem Jz(i:PE X e ta)(j:attributeBase e f X.env (eval e X.env)=eval e X.env):PE X (.Attribute e f pos) (Wu X.K ta f):=by intro b s σ H Q I h;refine Gh j (iP (@i b s σ H _ I h) λu y ⟨x,r,p,d,a,C,A,z,v,k,m,c,n,l,q⟩=>?_);subst k;obtain rfl:u=Value.ref a:=d;exact Ep p m c n l λt w o g=>⟨v,r,o,g,q⟩
theorem JA(p:PE X o ta)(k:PE X value tv)(m:swapsWith value (Y (.Attribute o f pos')) pos.line X.env=pure false):PS X (.Assign [.Attribute o f pos'] value pos) (Wv X.K ta tv f):=by intro b s σ H D I h;refine plainObj_wpAny_Assign_Attribute (iP (@k b s σ H _ I h) λu d ⟨y,A,z,e,q⟩=>iP (@p b d σ A _ z q) λj E ⟨x,J,w,g,a,C,G,F,r,t,c,n,l,i⟩=>?_) m;subst r;obtain rfl:j=Value.ref a:=g;exact Es w t c n l e λB v=>⟨σ,_,v,i⟩
end
section
variable {Q:Px}{c:Value}{b:Bool}
end
structure jf (k:Nat) (A:Around):Prop where
 hd:A.handled=Z
 dp:A.depth+3*k+5<recursionLimit
 un:A.units+16*k+200<cLine
theorem jf.mono{j k:Nat}(r:jf k A)(h:j<=k):jf j A:=⟨r.hd,by have:=r.dp;omega,by have:=r.un;omega⟩
theorem jf.deeper{k:Nat}{A:Around}(r:jf (k+1) A)(a:Env):jf k (A.deeper a) :=
 ⟨r.hd,by have:=r.dp;show A.depth+1+3*k+5<_;omega,by have:=r.un;show A.units+3+16*k+200<_;omega⟩
theorem Et{a:Lw}{b:List (Str×Value)}:(A.under (.builtin "type.__call__" ⟨.ref C::a,b⟩)).depth=A.depth+1:=by
 first|rfl|simp[Around.under,Code.weight,Code.isCreation,Code.isGuard,Code.isCaller,Code.frames,Code.isFrame,guardIds]
theorem Eu{a:Lw}{b:List (Str×Value)}:(A.under (.builtin "type.__call__" ⟨.ref C::a,b⟩)).units=A.units+1:=by
 first|rfl|simp[Around.under,Code.cUnits,Code.frames,Code.isFrame]
theorem jf.make{k:Nat}(r:jf (k+1) A)(C:Addr)(a:Lw)(b:List (Str×Value)):jf k (A.under (.builtin "type.__call__" ⟨.ref C::a,b⟩)) :=
 ⟨r.hd,by have:=r.dp;rw[Et];omega,by have:=r.un;rw[Eu];omega⟩
theorem jf.depth{k:Nat}{A:Around}(r:jf k A):A.depth<recursionLimit:=by have:=r.dp;omega
theorem jf.units{k:Nat}{A:Around}(r:jf k A):A.units+64<cLine:=by have:=r.un;omega
def JB:TA:=λ_ H Q=>Q [] H
def JC(c:TE)(b:TA):TA:=λσ H Q=>c σ H λx e=>b σ e λa d=>Q (x::a) d
section
variable {te:TE}{t:TA}
theorem qC:PA X [] JB:=λ_ _ _ _ H Q I h=>bQ ⟨[],H,I,.nil,h⟩
theorem md(m:PE X e te)(l:PA X es t)(k:zE e es X:=by rfl):PA X (e::es) (JC te t):=by intro b a s σ H Q I h;rw[k];show wpAny _ _ (spliced ((false,eval e X.env)::backTo b (starEach es X.env))) _ _ s;refine bL (iP (@m a s σ H _ I h) λu d ⟨x,q,o,g,j⟩=>?_);exact iP (@l b a d σ q _ o j) λr v ⟨c,p,n,f,i⟩=>⟨x::c,p,n,.cons g f,i⟩
def Wx(t:TA):TE:=λσ H Q=>t σ H λa b=>a.length<=sizeLine/\∀p,b p=Z->Q (.ref p) (upd b p (.tup a))
def Wy(t:TA):TE:=λσ H Q=>t σ H λa b=>a.length<=sizeLine/\∀p,b p=Z->Q (.ref p) (upd b p (.lst a))
theorem QX{x1}(h:PA X es t):PE X (.Tuple es x1 pos) (Wx t):=by intro a s σ H Q I j;refine wpAny_Tuple_spliced (iP (@h pos a s σ H _ I j) λi c ⟨g,f,d,r,z,q⟩=>⟨by rw[<-r.length];exact z,?_⟩);have k:f (zB c)=Z:=d.iY.fresh (aH _);refine⟨.ref (zB c),upd f (zB c) (.tup g),d.laid (t':=c.toks) (λb u e=>af _ e) (aH _) ?_,rfl,q _ k⟩;exact⟨z,i,r,⟨_,aG _ rfl,rfl,_,rfl⟩⟩
theorem JD(h:PA X es t):PE X (.List es pos) (Wy t):=by intro a s σ H Q I j;refine wpAny_List_spliced (iP (@h pos a s σ H _ I j) λi c ⟨g,f,d,r,z,q⟩=>⟨by rw[<-r.length];exact z,?_⟩);have k:f (zB c)=Z:=d.iY.fresh (aH _);refine⟨.ref (zB c),upd f (zB c) (.lst g),d.laid (t':=c.toks) (λb u e=>af _ e) (aH _) ?_,rfl,q _ k⟩;exact⟨z,i,0,r,aG _ rfl⟩
end
abbrev Sp:=List V->Hp->VK->XK->Prop
abbrev Jc:=List Env->Hp->Shared->XK->Value->Shared->Prop
structure An (P:Program) (w:World) (K:Fg) (mg:Str->Ow) (base:Heap) (A:Around) (outer:List Env) (s:Shared) (H:Hp):Prop where
 frames:A.frames=Y outer
 mod:Mod K mg base
 bs:∀b o,base.get? b=Y o->s.heap.get? b=Y o/\H b=Z
 MM:base.objs.size<=(zB s)
 qx:s.heap.FunFrames base outer
 Jb:∀b∈vb outer,H b=Z
 iY:qj P w H s.heap
 bare:AllBare s.gens
def CE(a:List Env)(P:Program)(w:World)(H:Hp)(s:Shared)(Q:VK)(u:Value)(b:Shared):Prop :=
 ∃v c,b.os=s.os/\AllBare b.gens/\Un (vb a) [] H c s.heap b.heap/\qj P w c b.heap/\gv v u/\Q v c
def CR(c:Jc)(a:List Env)(P:Program)(w:World)(H:Hp)(s:Shared)(Q:VK)(E:XK)(r:Result)(b:Shared):Prop :=
 match r with
 |.ok (.ret u)=>CE a P w H s Q u b
 |.ok _=>False
 |.error e=>c a H s E e b
structure lT (P:Program) (w:World) (K:Fg) (mg:Str->Ow) (base:Heap) (CX:Jc) (k:Nat) (f:Addr) (fd:FuncData) (ps:Lr) (sp:Sp):Prop where
 len:∀vs H Q E,sp vs H Q E->vs.length=ps.length
 run:∀(A:Around) (outer:List Env) (s:Shared) (H:Hp) (args:Args) (us:Lw) (vs:List V) (Q:VK) (E:XK),jf k A->An P w K mg base A outer s H->BindsTo s fd args (ps.zip us)->f7 vs us->sp vs H Q E ->
  codeAny (model P w) A (.call (.ref f) args) (CR CX outer P w H s Q E) s
theorem lT.mono{P:Program}{w:World}{K:Fg}{g:Str->Ow}{a:Heap}{l:Jc}{j k:Nat}{f:Addr}{i:FuncData}{e:Lr}{d:Sp}(F:lT P w K g a l j f i e d)(h:j<=k):
  lT P w K g a l k f i e d:=⟨F.len,λA b s H c n m Q E o=>F.run A b s H c n m Q E (o.mono h)⟩
theorem An.make{P:Program}{K:Fg}{b:Heap}{a:List Env}(e:An P w K mg b A a s H)(C:Addr)(c:Lw)(d:List (Str×Value)):
  An P w K mg b (A.under (.builtin "type.__call__" ⟨.ref C::c,d⟩)) a s H:=⟨by first|exact e.frames|(simpa [Around.under,Code.envs,Code.isFrame,pushEnvs] using e.frames),e.mod,e.bs,e.MM,e.qx,e.Jb,e.iY,e.bare⟩
section
variable {s':Shared}
theorem fD.JE(I:fD X pins σ H s):An X.prog X.w X.K X.mg X.base X.A X.stack s H :=
 ⟨I.ok.frames,I.ok.mod,I.bs,bu I.ok.MM I.sz,I.stack,I.Aj,I.iY,I.bare⟩
theorem fD.after{Q:VK}(I:fD X pins σ H s)(h:CE X.stack X.prog X.w H s Q u s'):EP X pins σ Q u s':=by obtain⟨v,k,i,a,f,e,r,q⟩:=h;obtain⟨j,g,d,t,c⟩:=s';obtain rfl:c=s.os:=i;exact⟨v,k,I.call (h':=j) (g':=g) (d':=d) (t':=t) (ch:=[]) f e a (λb z=>absurd z (by simp)),r,q⟩
end
def TU(c:Sp)(a:List V)(E:XK)(t:TA):TE:=λσ H Q=>t σ H λb d=>c (b++a) d Q E
def TV(C:Addr)(m:Str)(f:Sp)(b:List V)(E:XK)(e:TE)(t:TA):TE:=λσ H Q=>e σ H λx d=>∃a g c,x=.ref a/\d a=Y (.ins C g c)/\c.lookup m=Z /\
 t σ d λvs h=>f (x::(vs++b)) h Q E
def PL(C:Addr)(e:Sp)(b:List V)(E:XK)(t:TA):TE:=λσ H Q=>t σ H λd c=>∀x a,c x=Z->c a=Z->a≠x ->
 e (.ref x::(d++b)) (upd (upd c a (.own x)) x (.ins C a [])) (λv f=>v=.lP/\Q (.ref x) f) E
def kZ(K:Fg)(c:FuncData)(a:Lr)(b:Lw):Prop :=
 ∀(s:Shared) (us:Lw),K.In s.heap->(us++b).length=a.length->BindsTo s c ⟨us,[]⟩ (a.zip (us++b))
theorem kZ.all{K:Fg}{a:Lr}(h:∀us:Lw,us.length=a.length->bindArgs fd ⟨us,[]⟩=pure (a.zip us)):kZ K fd a []:=λs us _ b=>by rw[aF] at b ⊢;exact .of_eq (h us b)
def sr(b:Jc)(X:Cx)(E:XK):Prop:=∀(a:Ax) (σ:St) (H:Hp) (s:Shared) (e:Value) (s':Shared),fD X a σ H s->b X.stack H s E e s'->X.xe e s'
section
variable {CX:Jc}{k:Nat}{f:Addr}{ps:Lr}{sp:Sp}{Ew:List V}{ds:Lw}{E:XK}{m:Str}{p apos:Pos}{o:Expr}{ta:TE}{t:TA}
theorem JF{Q:VK}{us:Lw} (F:lT X.prog X.w X.K X.mg X.base CX k f fd ps sp) (g:jf k X.A) (l:kZ X.K fd ps ds) (j:f7 Ew ds) (d:sr CX X E)
  (I:fD X pins σ H s) (r:f7 vs us) (h:sp (vs++Ew) H Q E):(zw X) (call (.ref f) us) (EP X pins σ Q) X.xe s:=by
 have b:f7 (vs++Ew) (us++ds):=r.append j;have i:(us++ds).length=ps.length:=by rw[<-b.length];exact F.len _ _ _ _ h
 refine wpAny_call (cw (F.run X.A X.stack s H ⟨us,[]⟩ (us++ds) (vs++Ew) Q E g I.JE (l s us I.sR i) b h) λr c a=>?_);cases r with
 |error e=>exact d pins σ H s e c I a
 |ok m=>
  cases m with
  |ret u=>exact I.after a
  |next=>exact False.elim a
  |brk=>exact False.elim a
  |cont=>exact False.elim a
theorem Ao(F:lT X.prog X.w X.K X.mg X.base CX k f fd ps sp) (i:jf k X.A) (m:Gl X x) (j:X.mg x=Y (.ref f)) (l:W.keepIn X.K (.ref f)=true) (u:kZ X.K fd ps ds) (o:f7 Ew ds) (g:sr CX X E)
  (v:PA X (e::es) t) (c:zg x:=by decide) (n:zE e es X:=by rfl) (b:(backTo pos (starEach es X.env)).any (·.1)=false:=by rfl):
  PE X (.Call (.Name x p) (e::es) [] pos) (TU sp Ew E t):=by
 intro a s σ H Q I h;refine bx (mX I m j ?_ c);refine W.callWith_K (h₀:=X.base) I.ok.mod.QD l (iP (@v pos a s σ H _ I h) λz B ⟨y,C,d,r,q⟩=>⟨d.sR,?_⟩) n b;exact JF F i u o g d r q
theorem JG{pl:Sem Bool} (p:PE X o ta) (c:Jy X.K C) (e:MZ X.K C m f) (F:lT X.prog X.w X.K X.mg X.base CX k f fd ps sp) (n:jf k X.A) (t:kZ X.K fd ps ds) (r:f7 Ew ds) (i:sr CX X E)
  (j:eval (.Call (.Attribute o m apos) [] [] pos) X.env=(do
   let ov <-eval o X.env
   standAt apos.atName
   let (f,first) <-holding [ov] (getMethod ov m pl)
   callWith pos f first (backTo pos (starEach [] X.env)) (backToKw pos (keywordEach [] X.env))):=by rfl):
  PE X (.Call (.Attribute o m apos) [] [] pos) (TV C m sp Ew E ta JB):=by
 intro b s σ H Q I h;refine W.methodCall_KW (pl:=pl) (iP (@p b s σ H _ I h) λu z ⟨x,G,d,g,a,D,B,v,y,l,q⟩=>?_) j;subst v;obtain rfl:u=Value.ref a:=g;refine Er d y c e l ?_;exact W.callWith_K0 (first:=[.ref a]) d.sR e.kp (JF (us:=[.ref a]) (vs:=[.ref a]) F n t r i d (.cons rfl .nil) q)
structure Mk (K:Fg) (C f:Addr):Prop where
 makes:W.makesIn K C=true
 init:W.findIn K (.ref C) "__init__"=Y (Y (.ref f))
 fn:W.isFn K (.ref f)=true
 kp:W.keepIn K (.ref C)=true
theorem Ca{Q:VK}{us:Lw} (M:Mk X.K C f) (F:lT X.prog X.w X.K X.mg X.base CX k f fd ps sp) (m:jf (k+1) X.A) (p:kZ X.K fd ps ds) (o:f7 Ew ds)
  (l:sr CX X E) (I:fD X pins σ H s) (r:f7 vs us)
  (h:∀x dx,H x=Z->H dx=Z->dx≠x->sp (.ref x::(vs++Ew)) (upd (upd H dx (.own x)) x (.ins C dx [])) (λv H2=>v=.lP/\Q (.ref x) H2) E):
  (zw X) (call (.ref C) us) (EP X pins σ Q) X.xe s:=by
 have d:=h ((zB s)+1) (zB s) (I.iY.fresh (Nat.le_succ _)) (I.iY.fresh (aH _)) (aN (dy _));have b:=fD.made (C:=C) I;have c:f7 (V.ref ((zB s)+1)::(vs++Ew)) (Value.ref ((zB s)+1)::(us++ds)):=.cons rfl (r.append o);have n:(Value.ref ((zB s)+1)::us++ds).length=ps.length:=by have e:=c.length;rw[F.len _ _ _ _ d] at e;exact e.symm
 refine wpAny_call (Jx (f:=f) I.sR M.makes M.init (bY.mp M.fn) (cw (F.run _ X.stack _ _ ⟨Value.ref ((zB s)+1)::us,[]⟩ (Value.ref ((zB s)+1)::(us++ds)) _ _ E (m.make C us [])
  (b.JE.make C us []) (p _ (Value.ref ((zB s)+1)::us) b.sR n) c d) λr g a=>?_))
 cases r with
 |error e=>exact l pins σ _ _ e g b a
 |ok q=>
  cases q with
  |ret u=>obtain⟨v,z,y,i,t,j⟩:=b.after a;subst t;exact⟨i,⟨V.ref ((zB s)+1),z,y,rfl,j⟩⟩
  |next=>exact False.elim a
  |brk=>exact False.elim a
  |cont=>exact False.elim a
theorem M0(M:Mk X.K C f) (F:lT X.prog X.w X.K X.mg X.base CX k f fd ps sp) (i:jf (k+1) X.A) (l:Gl X x) (j:X.mg x=Y (.ref C)) (o:kZ X.K fd ps ds) (n:f7 Ew ds) (g:sr CX X E)
  (u:PA X (e::es) t) (c:zg x:=by decide) (m:zE e es X:=by rfl) (b:(backTo pos (starEach es X.env)).any (·.1)=false:=by rfl):
  PE X (.Call (.Name x p) (e::es) [] pos) (PL C sp Ew E t):=by
 intro a s σ H Q I h;refine bx (mX I l j ?_ c);refine W.callWith_K (h₀:=X.base) I.ok.mod.QD M.kp (iP (@u pos a s σ H _ I h) λy z ⟨v,B,d,r,q⟩=>⟨d.sR,?_⟩) m b;exact Ca M F i o n g d r q
theorem JH(M:Mk X.K C f) (F:lT X.prog X.w X.K X.mg X.base CX k f fd ps sp) (d:jf (k+1) X.A) (g:Gl X x) (e:X.mg x=Y (.ref C)) (j:kZ X.K fd ps ds) (i:f7 Ew ds) (c:sr CX X E)
  (a:zg x:=by decide):PE X (.Call (.Name x p) [] [] pos) (PL C sp Ew E JB):=by
 intro b s σ H Q I h;refine bx (mX I g e ?_ a);exact W.callWith_K0 I.sR M.kp (Ca (us:=[]) M F d j i c I .nil h)
end
section
variable {CX:Jc}{k:Nat}{f:Addr}{ps ks:Lr}{sp:Sp}{E:XK}{m:Str}{p apos Zp:Pos}{o:Expr}{kws:List Keyword}{te ta:TE}{t tk:TA}{nm:Option Str}
variable {g:Lw->Lw->Lw}{gV:List V->List V->List V}
end
structure i5 (N P:Lr) (sc:Scope):Prop where
 kind:sc.kind=.function
 co:sc.isCoroutine=false
 gen:sc.isGenerator=false
 nd:N.Nodup
 pre:N.take P.length=P
 par:∀x∈P,sc.names.lookup x=Y .local\/sc.names.lookup x=Y .cell
 QY:∀y∈sc.names,y.2≠.free
theorem yV{b:Str->Option NameKind}{x:Str}:∀{a:List (Str×Value)}{m:Str->Ow},(∀v,(x,v)∉a)->bindL b a m x=m x
 |[],_,_=>rfl
 | (n,v)::r,m,h=>by
  unfold bindL;rw[yV λw hw=>h w (aj _ hw)];split
  ·have:x≠n:=by rintro rfl;exact h v bc
   simp[this]
  ·rfl
theorem yW{b:Str->Option NameKind}{x:Str}:∀{a:List (Str×Value)}{m:Str->Ow},(∀v,(x,v)∉a)->bindC b a m x=m x
 |[],_,_=>rfl
 | (n,v)::r,m,h=>by
  unfold bindC;rw[yW λw hw=>h w (aj _ hw)];split
  ·rfl
  ·have:x≠n:=by rintro rfl;exact h v bc
   simp[this]
theorem yX{a:Str->Option NameKind}{x:Str}{v:Value}:∀{P:Lr}{b:Lw}{i:Nat}{m:Str->Ow},P.Nodup->P[i]?=Y x->b[i]?=Y v->a x=Y .local ->
  bindL a (P.zip b) m x=Y v
 |[],_,_,_,_,h,_,_=>by simp at h
 |_::_,[],_,_,_,_,h,_=>by simp at h
 |p::P,w::b,0,m,nd,h1,h2,hk=>by simp at h1 h2;subst h1;subst h2;show bindL a ((p,w)::P.zip b) m p=_;unfold bindL;rw[yV λv c=>(bj.mp nd).1 (eP c).1,ai hk];simp
 |p::P,w::b,i+1,m,nd,h1,h2,hk=>by show bindL a ((p,w)::P.zip b) m x=_;unfold bindL;exact yX (i:=i) (bj.mp nd).2 (by simpa using h1) (by simpa using h2) hk
theorem yY{a:Str->Option NameKind}{x:Str}{v:Value}:∀{P:Lr}{b:Lw}{i:Nat}{m:Str->Ow},P.Nodup->P[i]?=Y x->b[i]?=Y v->a x≠Y .local ->
  bindC a (P.zip b) m x=Y v
 |[],_,_,_,_,h,_,_=>by simp at h
 |_::_,[],_,_,_,_,h,_=>by simp at h
 |p::P,w::b,0,m,nd,h1,h2,hk=>by simp at h1 h2;subst h1;subst h2;show bindC a ((p,w)::P.zip b) m p=_;unfold bindC;rw[yW λv c=>(bj.mp nd).1 (eP c).1,ao hk];simp
 |p::P,w::b,i+1,m,nd,h1,h2,hk=>by show bindC a ((p,w)::P.zip b) m x=_;unfold bindC;exact yY (i:=i) (bj.mp nd).2 (by simpa using h1) (by simpa using h2) hk
noncomputable def my(N:Lr)(vs:List V):St:=vs.map Y++List.replicate (N.length - vs.length) Z
noncomputable def uw(CX:Jc)(P:Program)(w:World)(K:Fg)(i:Str->Ow)(d:Heap)(N:Lr)(c:Str)(a:Scope)(f:Addr)(h:Value)(A:Around)(b:List Env)(s:Shared)(H:Hp)(E:XK):Cx where
 prog:=P
 w:=w
 K:=K
 mg:=i
 base:=d
 A:=A.deeper (envOfC c a (zB s) f h)
 N:=N
 s₀:=s
 H₀:=H
 env:=envOfC c a (zB s) f h
 outer:=b
 stack:=envOfC c a (zB s) f h::b
 ex:=[]
 calm:=true
 fn:=λ_=>true
 pn:=[]
 xe:=λe j=>wpAny (model P w) (A.deeper (envOfC c a (zB s) f h)) (leaving (envOfC c a (zB s) f h) e) (λ_ g=>CX b H s E e g) (λk g=>CX b H s E k g) j
theorem Cb{a:Scope}(h:a.names.lookup x=Y .cell):∃c,(cellsFrom n a.names []).lookup x=Y c:=by have q:=W.cellsFrom_some a.names n [] (.inl h);exact Option.isSome_iff_exists.mp q
theorem yZ{CX:Jc}{P:Program}{K:Fg}{l:Heap}{N o:Lr}{g:Str}{f:Addr}{I:Value}{d:List Env}{L:Shared}{E:XK}{J:Lw}
  (S:i5 N o scope) (T:A.handled=Z) (m:An P w K mg l A d s H) (W:vs.length=o.length) (r:f7 vs J)
  (x:InCallC s (zB s) (bindL (envOfC g scope (zB s) f I).kindOf (o.zip J) λ_=>Z) (cellsFrom ((zB s)+1) scope.names []) (bindC (envOfC g scope (zB s) f I).kindOf (o.zip J) λ_=>Z) L):
  fD (uw CX P w K mg l N g scope f I A d s H E) [] (my N vs) H L:=by
 have R:o.length<=N.length:=by have:=bK List.length S.pre;rw[dz] at this;omega
 obtain⟨G,V,rfl,O⟩:=x.done;have t:∀b:Addr,b∉(uw CX P w K mg l N g scope f I A d s H E).ex:=λb z=>absurd (show b∈([]:List Addr) from z) (by simp);refine⟨⟨m.mod,S.kind,rfl,rfl,aH _,λy z c G j=>?_,λy B=>?_,λy c _ h=>?_,λ_=>T,Around.frames_deeper m.frames,.inr ⟨rfl,rfl⟩,λb z=>absurd z (t b),m.bs,m.MM,λb _ _=>t b,λb z=>absurd z (t b),m.qx,m.Jb⟩,
  rfl,m.bare,Un.kept O,⟨_,x.toInCall.ns,λi y v G j X=>?_⟩,λy c h=>⟨_,x.cell y c h⟩,m.iY.fresh (aH _),λy c h=>?_,λp D=>absurd (show p∈([]:Ax) from D) (by simp),m.iY.kept O,?_⟩
 ·exact name_of_addr x.apart (bE G) (bE j)
 ·have B:scope.names.lookup y=Y .cell\/scope.names.lookup y=Y .free:=B;rcases B with B|B
  ·exact Cb B
  ·exact absurd rfl (S.QY _ (bE B))
 ·exact cX (x.above y c (bE h))
 ·have F:i<vs.length:=by
   unfold my at j;by_cases F:i<vs.length
   ·exact F
   ·rw[aS (by simpa using F)] at j;rw[bH] at j;split at j<;>cases j
  have U:vs[i]?=Y v:=by
   unfold my at j;rw[bt (by simpa using F),aJ] at j;cases e:vs[i]? with
   |none=>rw[e] at j;cases j
   |some a=>rw[e] at j;cases j;rfl
  obtain⟨u,M,Q⟩:=r.get U;have D:o[i]?=Y y:=by rw[<-S.pre,List.getElem?_take_of_lt (by omega)];exact G
  have C:o.Nodup:=by rw[<-S.pre];exact S.nd.sublist (List.take_sublist _ _)
  refine⟨u,Q,?_⟩;rcases S.par y (cP D) with k|k
  ·exact .inl ⟨k,yX C D M k⟩
  ·obtain⟨c,e⟩:=Cb (n:=(zB s)+1) k;refine .inr ⟨.inl k,c,e,?_⟩;have q:=x.cell y c e;rw[yY C D M (by show scope.names.lookup y≠_;rw[k];decide)] at q;exact q
 ·exact m.iY.fresh (cX (x.above y c (bE h)))
 ·unfold my;show _=N.length;rw[aB,ah,List.length_replicate];omega
theorem PM{F:Jc}{P:Program}{K:Fg}{g:Heap}{k:Nat}{f:Addr}{i a:Str}{d:Arguments}{h:List Stmt}{dV X C U c ct oc:Value}{an od:Option Addr}
  {L:Array Ow}{N D:Lr}{G:Sp} (lk:K.lookup f=Y ⟨oc,od,.func (W.fnOf i a d h scope dV X C U an c ct),L⟩) (R:W.codeIn K c a=true) (S:i5 N D scope)
  (m:∀vs H Q E,G vs H Q E->vs.length=D.length)
  (l:∀(A:Around) (outer:List Env) (s:Shared) (H:Hp) (vs:List V) (Q:VK) (E:XK),jf k (A.deeper (envOfC a scope (zB s) f c))->G vs H Q E ->
   ∃t,yj (uw F P w K mg g N a scope f c A outer s H E) h t/\t { nx:=λ_ H'=>Q .lP H',rt:=Q } (my N vs) H):
  lT P w K mg g F (k+1) f (W.fnOf i a d h scope dV X C U an c ct) D G:=by
 refine⟨m,λA outer s H args us vs Q E O B hb r p=>?_⟩;have hl:=m _ _ _ _ p;have KX:K.In s.heap:=B.mod.QD.keeps λb o e=>(B.bs b o e).1;have M:s.heap.NoLimit:=B.mod.nolimit.keeps λb o e=>(B.bs b o e).1;have j:∀y∈D.zip us,scope.names.lookup y.1=Y .local\/(scope.names.lookup y.1=Y .cell/\((cellsFrom ((zB s)+1) scope.names []).lookup y.1).isSome=true):=λ⟨n,v⟩ hy=>by
  rcases S.par n (eP hy).1 with q|q
  ·exact .inl q
  ·exact .inr ⟨q,W.cellsFrom_some _ _ _ (.inl q)⟩
 refine codeAny_call_function O.depth (KX _ _ lk) rfl S.co S.gen rfl (W.codeRec_of KX R) (hb _ _ _ _ ?_);refine wpAny_newFunctionEnv_cells S.kind j λenv he T x=>?_;subst he;refine⟨M.keeps x.toInCall.keep,codeAny_func ?_⟩;obtain⟨t,ht,hq⟩:=l A outer s H vs Q E (O.deeper _) p;have I:fD (uw F P w K mg g N a scope f c A outer s H E) [] (my N vs) H T:=yZ S O.hd B hl r x;refine bF (@ht [] T (my N vs) H _ I hq) (λfl s' hs=>?_) λe s' hs=>hs;have z:∀{σ':St}{H':Hp}{v:V}{u:Value},fD (uw F P w K mg g N a scope f c A outer s H E) [] σ' H' s'->gv v u->Q v H'->CE outer P w H s Q u s' :=
  λ{σ' H' v u} J rv q=>⟨v,H',J.os,J.bare,J.base,J.iY,rv,q⟩
 cases fl with
 |ret u=>obtain⟨v,σ',H',J,rv,q⟩:=hs;exact z J rv q
 |next=>obtain⟨σ',H',J,q⟩:=hs;exact z (v:=V.lP) (u:=Value.none) J rfl q
 |brk=>obtain⟨_,_,_,q⟩:=hs;exact False.elim q
 |cont=>obtain⟨_,_,_,q⟩:=hs;exact False.elim q
section
variable {p:Pos}{t:TA}{id T:String}{r:List V->Hp->VK->Prop}
def Wz(r:List V->Hp->VK->Prop)(t:TA):TE:=λσ H Q=>t σ H λa b=>r a b Q
theorem JI(q:ji X (.builtin id) r) (n:Gl X x) (m:X.mg x=Z) (k:bootBuiltins x=Y (.builtin id)) (u:PA X (e::es) t) (l:x≠"__name__":=by decide) (c:zg x:=by decide)
  (o:zE e es X:=by rfl) (b:(backTo pos (starEach es X.env)).any (·.1)=false:=by rfl):PE X (.Call (.Name x p) (e::es) [] pos) (Wz r t):=by
 intro a s σ H Q I h;refine bx (qy I n m k ?_ l c);exact cC (iP (@u pos a s σ H _ I h) λf g ⟨d,w,v,i,j⟩=>@q a g σ w d f Q v i j) o b
theorem y0(q:ji X (.type T) r) (n:Gl X x) (m:X.mg x=Z) (k:bootBuiltins x=Y (.type T)) (u:PA X (e::es) t) (l:x≠"__name__":=by decide) (c:zg x:=by decide)
  (o:zE e es X:=by rfl) (b:(backTo pos (starEach es X.env)).any (·.1)=false:=by rfl):PE X (.Call (.Name x p) (e::es) [] pos) (Wz r t):=by
 intro a s σ H Q I h;refine bx (qy I n m k ?_ l c);exact bG (iP (@u pos a s σ H _ I h) λf g ⟨d,w,v,i,j⟩=>@q a g σ w d f Q v i j) o b
end
end L2
namespace HT
open PySem PyProof.Rows
section
open PySem.SeqAt
open PySem.AutoSeq1 (wpAny_loadPart')
open PySem.MeetsSeq PySem.MeetsSeq2 PySem.MeetsSeq3
end
section
variable {prog:Program}
theorem M3{t b:Addr}{d a:Lw}{Q:Px} (x:IsTup s.heap t d.toArray) (y:IsTup s.heap b a.toArray) (p:d≠[])
  (B:a=[]->Q (.ref t) s) (z:a≠[]->Q (.ref (zB s)) { s with heap:=s.heap.push { cls:=.type "tuple",data:=.seq (d++a).toArray } })
  (k:d.length+a.length<=sizeLine):wpAny (model prog w) A (binaryOp .Add (.ref t) (.ref b)) Q E s:=by
 obtain⟨⟨cls,u,data,m⟩,j,r,n,q⟩:=id x;obtain⟨⟨v,i,l,f⟩,c,h,o,g⟩:=id y;simp only at r q h g;subst r q h g;have e:d.toArray++a.toArray=(d++a).toArray:=by simp
 by_cases hw:a=[]
 ·exact eN ⟨_,j,rfl⟩ ⟨_,c,rfl⟩ eD seq_tuple_add c9 cV (cS _ _)
   (tuple_addW1 t b d.toArray a.toArray n o u i m f (by simpa using p) (by simp[hw])) ⟨j,c,B hw⟩
 ·refine eN ⟨_,j,rfl⟩ ⟨_,c,rfl⟩ eD seq_tuple_add c9 cV (cS _ _)
   (tuple_addW2 t b d.toArray a.toArray n o u i m f (by simpa using p) (by simpa using hw) (by rw[az,az];exact k)) ⟨j,c,?_⟩
  rw[e];exact z hw
def ke(n d:Nat):Option Int->Nat
 |none=>d
 |some v=>if v<0 then (v+(n:Int)).toNat else min v.toNat n
theorem QZ(n d:Nat)(b:d<=n)(o:Option Int):ke n d o<=n:=by
 cases o with
 |none=>exact b
 |some v=>
  show (if v<0 then (v+(n:Int)).toNat else min v.toNat n)<=n;by_cases a:v<0
  ·rw[ai a];omega
  ·rw[ao a];exact eE _ _
theorem Gi(v:Int)(n d:Nat):(if v<0 then max (v+(n:Int)) 0 else min v (n:Int))=((ke n d (Y v):Nat):Int):=by
 show (if v<0 then max (v+(n:Int)) 0 else min v (n:Int))=(((if v<0 then (v+(n:Int)).toNat else min v.toNat n):Nat):Int)
 by_cases a:v<0
 ·simp only[ai a];omega
 ·simp only[ao a];omega
theorem Ex(a b:Option Int)(n:Nat):Builtin.Slice.sliceAdjust a b 1 (n:Int)=(((ke n 0 a:Nat):Int),((ke n n b:Nat):Int)):=by
 have c:¬ ((1:Int)<0):=by omega
 unfold Builtin.Slice.sliceAdjust;simp only[c,dJ];refine Prod.ext ?_ ?_
 ·cases a with
  |none=>rfl
  |some v=>exact Gi v n 0
 ·cases b with
  |none=>rfl
  |some v=>exact Gi v n n
theorem Ey(i j:Nat):Builtin.Slice.slicePlaces (i:Int) (j:Int) 1=j - i:=by
 unfold Builtin.Slice.slicePlaces;have a:(1:Int) > 0:=by omega
 simp only[a,cQ,Int.ediv_one];split<;>omega
theorem wB{v:Value}{o:Option Int}{Q:Option Int->Shared->Prop}(p:IsPart v o)(h:Q o s):wpAny (model prog w) A (Builtin.Slice.slicePartIndex v) Q E s:=by
 cases p with
 |none=>exact slicePart_none h
 |int i t=>exact slicePart_int h
theorem pa{g:Addr}{f e:Value}{a c:Option Int}{Q:Int×Int×Nat->Shared->Prop} (k:s.heap.IsSliceOf g f e .none) (j:IsPart f a) (i:IsPart e c)
  (h:Q (((ke n 0 a:Nat):Int),1,ke n n c - ke n 0 a) s):wpAny (model prog w) A (Builtin.Slice.sliceApplied (.ref g) (pure (n:Int))) Q E s:=by
 obtain⟨m,b,l,d⟩:=id k;unfold Builtin.Slice.sliceApplied Builtin.Slice.sliceFields;refine aa (aa (bV b d (x:=f) rfl (aa (bV b d (x:=e) rfl (aa (bV b d (x:=.none) rfl (ar ?_)))))));refine aa (slicePart_none ?_);show wpAny _ _ (if ((1:Int)==0)=true then _ else _) _ _ s;rw[ao (by decide)];refine aa (wB j (aa (wB i (aa (ar ?_)))));show wpAny _ _ (match Builtin.Slice.sliceAdjust a c 1 (n:Int) with|(a,c)=>pure (a,(1:Int),Builtin.Slice.slicePlaces a c 1)) _ _ s;rw[Ex a c n];show wpAny _ _ (pure (((ke n 0 a:Nat):Int),(1:Int),Builtin.Slice.slicePlaces ((ke n 0 a:Nat):Int) ((ke n n c:Nat):Int) 1)) _ _ s;rw[Ey];exact ar h
theorem JK(a:Array Value)(i k:Nat):((List.range k).filterMap λ(m:Nat)=>a[((i:Int)+(m:Int)*1).toNat]?).toArray=((a.toList.drop i).take k).toArray:=by
 have e:(λ(m:Nat)=>a[((i:Int)+(m:Int)*1).toNat]?)=λm=>a[i+m]?:=by
  funext m
  have:((i:Int)+(m:Int)*1).toNat=i+m:=by omega
  rw[this]
 rw[e];have:=pick_run a i k;rw[dZ] at this;have b:((λx=>a[x]?)∘λx=>i+x)=λm=>a[i+m]?:=rfl;rw[b] at this;rw[this]
theorem sW{t f:Addr}{a:Array Value}{n l:Value}{c d:Option Int}{Q:Px} (e:IsTup s.heap t a) (o:s.heap.IsSliceOf f n l .none) (r:IsPart n c) (p:IsPart l d)
  (hw:¬ (ke a.size 0 c=0/\ke a.size a.size d=a.size))
  (h:Q (.ref (zB s)) { s with heap:=s.heap.push { cls:=.type "tuple",data:=.seq ((a.toList.drop (ke a.size 0 c)).take (ke a.size a.size d - ke a.size 0 c)).toArray } })
  (v:a.size<=sizeLine):wpAny (model prog w) A (getItem (.ref t) (.ref f)) Q E s:=by
 have b:sizeOk (.seq ((a.toList.drop (ke a.size 0 c)).take (ke a.size a.size d - ke a.size 0 c)).toArray):=by show ((a.toList.drop (ke a.size 0 c)).take (ke a.size a.size d - ke a.size 0 c)).toArray.size<=sizeLine;rw[az,dz,List.length_drop,cB];omega
 have B:ke a.size a.size d<=a.size:=QZ _ _ (aH _) d;obtain⟨u,g,j,x⟩:=id o;have k:s.TypeIs (.ref f) "slice":=⟨u,g,j⟩
 unfold getItem
 try with_reducible refine bf ?_
 first|refine aa (ar ?_)|skip
 refine aa (wpAny_sequenceKey e.typeIs (by decide) ?_);refine aa (cD (name:=zZ "__getitem__") e.typeIs bA
  (dA bA e.typeIs entry_tuple_getitem ?_ (args_tuple_getitem _ _)))
 show wpAny _ _ (Builtin.Tuple.tupleItemsOf (.ref t)>>=_) _ _ s;refine aa (tupleItemsOf_ e ?_);refine aa (cx k ?_);rw[ai (by decide)];refine aa (pa o r p ?_);have i:¬ ((((ke a.size 0 c:Nat):Int)==0&&(1:Int)==1&&(ke a.size a.size d - ke a.size 0 c)==a.size)=true):=by intro q;rw[bD,bD] at q;have z:((ke a.size 0 c:Nat):Int)=0:=eq_of_beq q.1.1;have y:ke a.size a.size d - ke a.size 0 c=a.size:=eq_of_beq q.2;exact hw ⟨by omega,by omega⟩
 show wpAny _ _ (if (((ke a.size 0 c:Nat):Int)==0&&(1:Int)==1&&(ke a.size a.size d - ke a.size 0 c)==a.size)=true then _ else _) _ _ s;rw[ao i,JK]
 first
  |exact aa (m:=Builtin.Tuple.tupleExact _) (cy (ar ⟨_,rfl,ar h⟩) b)
  |exact aa (m:=Builtin.Tuple.tupleExact _) (cy (aa (ar (ar ⟨_,rfl,ar h⟩))) b)
  |exact aa (aa (m:=Builtin.Tuple.tupleExact _) (cy (ar (ar ⟨_,rfl,ar h⟩)) b))
  |exact aa (aa (m:=Builtin.Tuple.tupleExact _) (cy (ar ⟨_,rfl,ar h⟩) b))
end
end HT
namespace L2
open PySem PySem.Spec PyProof.Rows
abbrev TO:=St->Hp->(Option Int->Hp->Prop)->Prop
def PO(X:Cx)(e:Option Expr)(t:TO):Prop :=
 ∀⦃a:Ax⦄ (s:Shared) (σ:St) (H:Hp) (Q:Option Int->Hp->Prop),fD X a σ H s->t σ H Q ->
  (zw X) (evalPart e X.env) (λu s'=>∃o b,fD X a σ b s'/\IsPart u o/\Q o b) X.xe s
def M4:TO:=λ_ H Q=>Q Z H
def TX(t:TE):TO:=λσ H Q=>t σ H λx a=>∃i,x=.int i/\Q (Y i) a
section
variable {te:TE}{lo hi:Option Expr}{tl th:TO}{p2:Pos}
theorem M5:PO X Z M4:=by intro a s σ H Q I h;rw[evalPart_none];exact ar ⟨Z,H,I,.none,h⟩
theorem M6(h:PE X e te):PO X (Y e) (TX te):=by intro a s σ H Q I hw;rw[evalPart_some];refine iP (@h a s σ H _ I hw) λu g ⟨x,f,d,b,c⟩=>?_;obtain⟨i,rfl,q⟩:=c;obtain⟨t,rfl⟩:=b;exact⟨Y i,f,d,.int i t,q⟩
def Gj(X:Cx)(r:V->Option Int->Option Int->Hp->VK->Prop):Prop :=
 ∀(a:Ax) (s:Shared) (σ:St) (H:Hp) (x:V) (v c b:Value) (lo hi:Option Int) (sl:Addr) (Q:VK),fD X a σ H s->gv x v->s.heap.IsSliceOf sl c b .none->IsPart c lo->IsPart b hi->r x lo hi H Q ->
  ∃T d,typeLookup (.type T) "__getitem__"=pure (Y (.builtin d))/\s.TypeIs v T/\(zw X) (getItem v (.ref sl)) (EP X a σ Q) X.xe s
theorem Gj.or{r f:V->Option Int->Option Int->Hp->VK->Prop}(h:Gj X r)(k:Gj X f):Gj X (λx lo hi H Q=>r x lo hi H Q\/f x lo hi H Q):=by
 intro a s σ H x v c b lo hi d Q I e j i g q;rcases q with q|q
 ·exact @h a s σ H x v c b lo hi d Q I e j i g q
 ·exact @k a s σ H x v c b lo hi d Q I e j i g q
def Zq(r:V->Option Int->Option Int->Hp->VK->Prop)(c:TE)(a b:TO):TE:=λσ H Q=>c σ H λx f=>a σ f λl e=>b σ e λu d=>r x l u d Q
theorem Cc{r:V->Option Int->Option Int->Hp->VK->Prop}(z:Gj X r)(C:PE X e te)(A:PO X lo tl)(w:PO X hi th):PE X (.Subscript e (.Slice lo hi Z p2) pos) (Zq r te tl th):=by intro a s σ H Q I h;refine Subscript_ (iP (@C a s σ H _ I h) λv j ⟨x,L,J,k,o⟩=>?_);refine wpAny_Slice (iP (@A a j σ L _ J o) λf i ⟨l,K,G,t,n⟩=>iP (@w a i σ K _ G n) λd c ⟨u,g,F,p,m⟩=>?_);rw[evalPart_none];refine ar ?_;have E:fD X a σ g { c with heap:=c.heap.push { cls:=.type "slice",data:=.fields #[f,d,.none] } }:=F.kept (t':=c.toks) λb M q=>af _ q;obtain⟨T,N,D,y,B⟩:=z a { c with heap:=c.heap.push { cls:=.type "slice",data:=.fields #[f,d,.none] } } σ g x v f d l u (zB c) Q E k (Heap.IsSliceOf.new ..) t p m;show (zw X) (subscriptTail e (.Slice lo hi Z p2) v (.ref (zB c))) (EP X a σ Q) X.xe { c with heap:=c.heap.push { cls:=.type "slice",data:=.fields #[f,d,.none] } };exact tail_any (ops:=[.ref (zB c),v]) y D B (by with_unfolding_all rfl)
def Cd(a:List V)(b c:Option Int):List V:=(a.drop (HT.ke a.length 0 b)).take (HT.ke a.length a.length c - HT.ke a.length 0 b)
theorem ve(a:List V)(b c:Option Int):(Cd a b c).length<=a.length:=by unfold Cd;rw[dz,List.length_drop];omega
def WA(K:Fg):V->Option Int->Option Int->Hp->VK->Prop:=λx c d H Q=>∃a b,x=.ref a/\rS K H a b /\
 ¬ (HT.ke b.length 0 c=0/\HT.ke b.length b.length d=b.length)/\∀p,H p=Z->Q (.ref p) (upd H p (.tup (Cd b c d)))
theorem Q0:Gj X (WA X.K):=by
 intro i s σ H x v w u e g y Q I l t n m h;obtain⟨a,d,rfl,p,hw,q⟩:=h;cases l;obtain⟨f,r,k,j⟩:=I.tuple p;have c:f.toArray.size=d.length:=by rw[az];exact r.length.symm
 refine⟨"tuple",_,bA.lookup,k.typeIs,?_⟩;refine HT.sW k t n m (by rw[c];exact hw) ?_ (by rw[c];exact j);rw[c];refine⟨.ref (zB s),_,I.laid (t':=s.toks) (o:=.tup (Cd d e g)) (λb ob q=>af _ q) (aH _) ?_,rfl,q _ (I.iY.fresh (aH _))⟩;exact⟨bu (ve d e g) j,_,(r.drop (HT.ke d.length 0 e)).take (HT.ke d.length d.length g - HT.ke d.length 0 e),IsTup.new _ _⟩
def TY(K:Fg):R2:=λx y H Q=>∃a b d c,x=.ref a/\y=.ref b/\rS K H a d/\rS K H b c/\d≠[]/\d.length+c.length<=sizeLine /\
 (c=[]->Q (.ref a) H)/\(c≠[]->∀p,H p=Z->Q (.ref p) (upd H p (.tup (d++c))))
theorem f7.fQ{a:List V}{b:Lw}(r:f7 a b):b=[]↔a=[]:=by
 cases r with
 |nil=>simp
 |cons _ _=>simp
theorem M7:lO X (binaryOp .Add) (TY X.K):=by intro e s σ H x y v u Q I l k h;obtain⟨a,b,j,i,rfl,rfl,C,B,A,g,n,m⟩:=h;cases l;cases k;obtain⟨t,d,r,_⟩:=I.tuple C;obtain⟨f,c,p,_⟩:=I.tuple B;refine HT.M3 r p (λz=>A (d.fQ.mp z)) (λz=>⟨.ref a,H,I,rfl,n (c.fQ.mp z)⟩) (λz=>?_) (by rw[<-d.length,<-c.length];exact g);refine⟨.ref (zB s),_,I.laid (t':=s.toks) (o:=.tup (j++i)) (λb ob q=>af _ q) (aH _) ?_,rfl,m (λw=>z (c.fQ.mpr w)) _ (I.iY.fresh (aH _))⟩;exact⟨by rw[aB];exact g,_,d.append c,IsTup.new _ _⟩
end
noncomputable def Ap(n:Nat)(i:Int):Option Nat:=if 0<=i then (if i<n then Y i.toNat else Z) else if -(n:Int)<=i then Y (i+n).toNat else Z
def rY(a:List α)(i:Int):Option α:=(Ap a.length i).bind λj=>a[j]?
theorem Gk{i:Int}{j:Nat}(h:Ap n i=Y j):seqIndex? i n=Y j/\j<n/\-(n:Int)<=i/\i<n:=by
 unfold Ap at h;by_cases b:0<=i
 ·rw[ai b] at h;by_cases a:i<n
  ·rw[ai a] at h;have e:i.toNat=j:=bB h;exact⟨by rw[seqIndex_of b a,e],by omega,by omega,a⟩
  ·rw[ao a] at h;cases h
 ·rw[ao b] at h;by_cases a:-(n:Int)<=i
  ·rw[ai a] at h;have e:(i+n).toNat=j:=bB h;exact⟨by rw[seqIndex_neg (by omega) a,e],by omega,a,by omega⟩
  ·rw[ao a] at h;cases h
theorem Ar{a:List α}{i:Int}{v:α}(h:rY a i=Y v):∃j,seqIndex? i a.length=Y j/\a[j]?=Y v/\j<a.length/\-(a.length:Int)<=i/\i<a.length:=by
 unfold rY at h;cases e:Ap a.length i with
 |none=>rw[e] at h;cases h
 |some j=>rw[e] at h;obtain⟨f,d,c,b⟩:=Gk e;exact⟨j,f,h,d,c,b⟩
def sX(b:Expr):Prop:=∀o i,subscripted b false o i=operate [o,i] (getItem o i)
def Gm(X:Cx)(r:R2):Prop :=
 ∀(b a:Expr) (pins:Ax) (s:Shared) (σ:St) (H:Hp) (x y:V) (v u:Value) (Q:VK),fD X pins σ H s->gv x v->gv y u->r x y H Q ->
  subscripted a false v u=operate [v,u] (getItem v u)->(zw X) (subscriptTail b a v u) (EP X pins σ Q) X.xe s
def PN(X:Cx)(b:String)(r:V->List V->Hp->VK->Prop):Prop :=
 ∀(a:Ax) (s:Shared) (σ:St) (H:Hp) (x:V) (xs:List V) (v:Value) (us:Lw) (Q:VK),fD X a σ H s->gv x v->f7 xs us->r x xs H Q ->
  (zw X) (call (.builtin b) (v::us)) (EP X a σ Q) X.xe s
section
variable {a b:Expr}{ta tb:TE}
theorem Gm.or{r f:R2}(h:Gm X r)(i:Gm X f):Gm X (λx y H Q=>r x y H Q\/f x y H Q):=by
 intro a b c s σ H x y v u Q I e d q g;rcases q with q|q
 ·exact h a b c s σ H x y v u Q I e d q g
 ·exact i a b c s σ H x y v u Q I e d q g
theorem PQ{r:R2}(g:Gm X r)(j:PE X a ta)(i:PE X b tb)(f:sX b):PE X (.Subscript a b pos) (TF r ta tb):=by intro c s σ H Q I h;exact Subscript_ (QO j i I h λv u s2 x y l k e d q=>g a b c s2 σ l x y v u Q k e d q (f _ _))
def TZ(K:Fg):R2:=λx y H Q=>∃p a i v,x=.ref p/\y=.int i/\o8 K H p a/\rY a i=Y v/\Q v H
def T1(K:Fg):R2:=λx y H Q=>∃p a i v,x=.ref p/\y=.int i/\rS K H p a/\rY a i=Y v/\Q v H
def T2:R2:=λx y H Q=>∃z i c,x=.str z/\y=.int i/\z.length<=sizeLine/\rY z.cps.toList i=Y c/\Q (.str ⟨#[c]⟩) H
theorem Gn:Gm X (TZ X.K):=by
 intro d e a s σ H x y v u Q I C B h m;obtain⟨p,M,i,z,rfl,rfl,D,F,q⟩:=h;cases C;obtain⟨t,rfl⟩:=B;obtain⟨k,r,g,N⟩:=I.list D;obtain⟨j,c,L,P,J,G⟩:=Ar F;obtain⟨w,o,f⟩:=r.get L;have E:=r.length;have O:=sm;have b:EP X a σ Q w s:=⟨z,H,I,f,q⟩
 by_cases n:0<=i
 ·have l:i.toNat=j:=by
   rw[seqIndex_of n G] at c;exact bB c
  exact item_listR g.isList n (by omega) (by rw[l];simpa using o) b m
 ·have l:(i+(k.toArray.size:Int)).toNat=j:=by
   rw[seqIndex_neg (by omega) J] at c;rw[az,<-E];exact bB c
  exact subscriptTail_builtinR (x:=w) g.isList.typeIs slot_list_getitem.lookup
   (wpAny_getItem_list_neg (Q:=λr A=>r=w/\EP X a σ Q r A) g.isList (by omega) (by rw[az]<;>omega) (by omega) (by rw[l];simpa using o) ⟨rfl,b⟩) m
theorem Q1:Gm X (T1 X.K):=by
 intro b c a s σ H x y v u Q I l k h n;obtain⟨p,F,i,z,rfl,rfl,o,B,q⟩:=h;cases l;obtain⟨t,rfl⟩:=k;obtain⟨m,r,f,G⟩:=I.tuple o;obtain⟨j,D,C,N,M,L⟩:=Ar B;obtain⟨w,E,d⟩:=r.get C;have A:=r.length;have J:=sm;have e:EP X a σ Q w s:=⟨z,H,I,d,q⟩
 exact subscriptTail_builtinR (x:=w) f.typeIs slot_tuple_getitem.lookup
  (getItem_tuple (j:=j) (Q:=λr g=>r=w/\EP X a σ Q r g) f (by omega) (by omega) (by rw[az,<-A];exact D) (by simpa using E) ⟨rfl,e⟩) n
theorem Q2:Gm X T2:=by
 intro a b d s σ H x y v u Q I g f h k;obtain⟨z,i,c,rfl,rfl,B,m,q⟩:=h;obtain⟨t,rfl⟩:=g;obtain⟨A,rfl⟩:=f;obtain⟨j,e,p,D,o,n⟩:=Ar m;have l:z.cps.toList.length=z.length:=by simp[Str.length]
 rw[l] at e o n;have C:=sm;exact tail_any (dB s z t) slot_str_getitem.lookup (getItem_str (c:=c) (by have w:decide (i < -(2 ^ 63:Int))=false:=aA (by omega);have r:decide (i >= 2 ^ 63)=false:=aA (by omega);rw[w,r,cT]) (by rw[e];simpa using p) ⟨.str ⟨#[c]⟩,H,I.tok _,⟨_,rfl⟩,q⟩) k
def Zr(K:Fg):R2:=λx y H Q=>TZ K x y H Q\/T1 K x y H Q\/T2 x y H Q
theorem Q3:Gm X (Zr X.K):=Gn.or (Q1.or Q2)
theorem Ez(a:Lw)(n j:Nat)(u:Value):Obj.mapSeq (·.setIfInBounds j u) (zl a.toArray n)={ cls:=.type "list",data:=.seq (a.set j u).toArray n }:=by simp[Obj.mapSeq]
theorem fD.lst{a:Ax}{σ:St}{H:Hp}{s:Shared}{p:Addr}{b:List V}(I:fD X a σ H s)(h:H p=Y (.lst b)):
  ∃(its:Lw) (n:Nat),f7 b its/\s.heap.get? p=Y (zl its.toArray n)/\b.length<=sizeLine:=by
 obtain⟨z,its,n,r,e⟩:=I.iY p _ h;exact⟨its,n,r,e,z⟩
theorem fD.Q4{p:Addr}{j d:List V}{c a:Lw}{g:Nat}{f:Obj->Obj} (I:fD X pins σ H s) (h:H p=Y (.lst j))
  (l:s.heap.get? p=Y (zl c.toArray n)) (i:f (zl c.toArray n)=(zl a.toArray g)) (r:f7 d a) (k:d.length<=sizeLine) (t:Nat):
  fD X pins σ (upd H p (.lst d)) { s with heap:=s.heap.update p f,toks:=t }:=by
 have e:(s.heap.update p f).get? p=Y (zl a.toArray g):=by rw[a6 f l (by rw[i]<;>rfl),i]
 refine I.write (x:=p) (e:=p) (by rw[h];trivial) (.inl rfl) (λb u hb q=>(aP _ _ (Ne.symm hb)).trans q) ⟨_,e⟩ ?_;exact⟨k,a,g,r,e⟩
def T3:V->V->V->Hp->(Hp->Prop)->Prop:=λo i v H Q=>∃p a k j,o=.ref p/\i=.int k/\H p=Y (.lst a)/\Ap a.length k=Y j/\Q (upd H p (.lst (a.set j v)))
theorem JL:B7 X T3:=by
 intro a s σ H o i v E F u Q I A B z h;obtain⟨p,y,k,j,rfl,rfl,g,D,q⟩:=h;cases A;obtain⟨t,rfl⟩:=B;obtain⟨b,n,r,d,C⟩:=I.lst g;obtain⟨c,J,m,l⟩:=Gk D;have e:=r.length;have G:=sm;have x:fD X a σ (upd H p (.lst (y.set j v))) { s with heap:=s.heap.update p (Obj.mapSeq (·.setIfInBounds j u)) } :=
  I.Q4 g d (Ez b n j u) (r.set z j) (by rw[eQ];exact C) s.toks
 by_cases w:0<=k
 ·have f:k.toNat=j:=by
   rw[seqIndex_of w l] at c;exact bB c
  exact W.ki_setAt d w (by omega) (by rw[az,<-e];exact l) (by rw[f];exact⟨_,x,q⟩)
 ·have f:(k+(b.toArray.size:Int)).toNat=j:=by
   rw[seqIndex_neg (by omega) m] at c;rw[az,<-e];exact bB c
  exact W.ki_setBack d (by omega) (by rw[az,<-e];exact m) (by omega) (by rw[f];exact⟨_,x,q⟩)
theorem As(a b:Option Int)(n:Nat):(sliceBounds a b Z n).1=((HT.ke n 0 a:Nat):Int)/\(sliceBounds a b Z n).2.1=((HT.ke n n b:Nat):Int)/\(sliceBounds a b Z n).2.2=1:=by
 refine⟨?_,?_,rfl⟩
 ·cases a with
  |none=>simp[sliceBounds,HT.ke]
  |some i=>
   simp only[sliceBounds,HT.ke,Option.getD_none,show (1:Int) > 0 by decide,cQ];by_cases h:i<0
   ·simp only[h,cQ]<;>omega
   ·simp only[h,dJ]<;>omega
 ·cases b with
  |none=>simp[sliceBounds,HT.ke]
  |some i=>
   simp only[sliceBounds,HT.ke,Option.getD_none,show (1:Int) > 0 by decide,cQ];by_cases h:i<0
   ·simp only[h,cQ]<;>omega
   ·simp only[h,dJ]<;>omega
theorem yk(a:Lw)(b c:Option Int):slicePick a.toArray b c Z=((a.drop (HT.ke a.length 0 b)).take (HT.ke a.length a.length c - HT.ke a.length 0 b)).toArray:=by obtain⟨f,e,d⟩:=As b c a.toArray.size;unfold slicePick;rw[f,e,d];simp only[sliceRange_one,pick_run,az]<;>rfl
def WB(K:Fg):V->Option Int->Option Int->Hp->VK->Prop:=λx c d H Q=>∃a b,x=.ref a/\o8 K H a b/\∀p,H p=Z->Q (.ref p) (upd H p (.lst (Cd b c d)))
theorem Gp:Gj X (WB X.K):=by intro g s σ H x v w u e f y Q I j t l k h;obtain⟨a,c,rfl,p,q⟩:=h;cases j;obtain⟨m,r,i,n⟩:=I.list p;have d:=r.length;refine⟨"list",_,slot_list_getitem.lookup,i.isList.typeIs,?_⟩;refine wpAny_getItem_list_slice i.isList t l k .none (by simp) ?_ (by rw[az]<;>omega);rw[yk,<-d];refine⟨.ref (zB s),_,I.laid (t':=s.toks) (o:=.lst (Cd c e f)) (λb ob q=>af _ q) (aH _) ?_,rfl,q _ (I.iY.fresh (aH _))⟩;exact⟨bu (ve c e f) n,_,0,(r.drop (HT.ke c.length 0 e)).take (HT.ke c.length c.length f - HT.ke c.length 0 e),aG _ rfl⟩
theorem Au:ji X (.builtin "len") (λxs H Q=>∃p b,xs=[.ref p]/\(o8 X.K H p b\/rS X.K H p b)/\Q (.int b.length) H):=by
 intro g s σ H xs k Q I r h;obtain⟨p,b,rfl,c,q⟩:=h;obtain⟨u,rfl,i⟩:=wA r;cases i;have l:=sm;rcases c with c|c
 ·obtain⟨f,d,e,j⟩:=I.list c;have a:=d.length;exact Calls.call_len_list e.isList (by simp only[az]<;>omega) ⟨.int b.length,H,I.tok _,⟨s.toks+1,by rw[az,a]⟩,q⟩
 ·obtain⟨f,d,e,j⟩:=I.tuple c;have a:=d.length;exact len_tuple e (by simp only[az]<;>omega) ⟨.int b.length,H,I.tok _,⟨s.toks+1,by rw[az,a]⟩,q⟩
theorem Av:ji X (.builtin "len") (λxs H Q=>∃z,xs=[.str z]/\z.length<=sizeLine/\Q (.int z.length) H):=by intro a s σ H xs b Q I r h;obtain⟨z,rfl,c,q⟩:=h;obtain⟨u,rfl,t,rfl⟩:=wA r;have d:=sm;exact len_str (by omega) ⟨.int z.length,H,I.tok _,⟨_,rfl⟩,q⟩
theorem ji.or{f:Value}{r d:List V->Hp->VK->Prop}(h:ji X f r)(e:ji X f d):ji X f (λxs H Q=>r xs H Q\/d xs H Q):=by
 intro a s σ H xs b Q I c q;rcases q with q|q
 ·exact @h a s σ H xs b Q I c q
 ·exact @e a s σ H xs b Q I c q
theorem Aw:ji X (.type "list") (λxs H Q=>∃p d,xs=[.ref p]/\(o8 X.K H p d\/rS X.K H p d)/\∀l,H l=Z->Q (.ref l) (upd H l (.lst d))):=by
 intro i s σ H xs D Q I r h;obtain⟨p,d,rfl,m,q⟩:=h;obtain⟨u,rfl,C⟩:=wA r;cases C;have v:∀(a:Lw),f7 d a->d.length<=sizeLine->∀(c:Heap) (g:Nat),(∀b B,s.heap.get? b=Y B->c.get? b=Y B) ->
   c.get? (zB s)=Y { cls:=.type "list",dict:=Z,data:=.seq a.toArray g,slots:=#[] }->EP X i σ Q (.ref (zB s)) { s with heap:=c }:=λa f k c g j e=>
  ⟨.ref (zB s),_,I.laid (t':=s.toks) j (aH _) (show jh X.prog X.w _ c _ (.lst d) from ⟨k,a,g,f,e⟩),rfl,q _ (I.iY.fresh (aH _))⟩
 rcases m with m|m
 ·obtain⟨a,f,x,k⟩:=I.list m;have t:=f.length;obtain⟨o,y,A,n,z⟩:=x.isList;exact call_list_seq p (.inl rfl) y A z (λc g j e=>v a f k c g j e) (by simp only[az]<;>omega)
 ·obtain⟨a,f,x,k⟩:=I.tuple m;have t:=f.length;obtain⟨o,y,A,n,z⟩:=x;exact call_list_seq p (.inr rfl) y A z (λc g j e=>v a f k c g j e) (by simp only[az]<;>omega)
def WC(K:Fg)(T:String)(x:V)(H:Hp):Prop:=match x with
 |.str _=>T="str"
 |.int _=>T="int"
 |.ref p=>(T="list"/\∃b,o8 K H p b)\/(T="tuple"/\∃o,K.lookup p=Y o/\o.cls=.type "tuple"/\o.dict=Z) \/
   (T="dict"/\((∃a,H p=Y (.dK a))\/∃a,H p=Y (.dT a)))\/(T="set"/\∃S n,H p=Y (.set S n))
 |_=>False
theorem JM{T:String}{x:V}{v:Value}(I:fD X pins σ H s)(r:gv x v)(f:WC X.K T x H):
  s.TypeIs v T/\∀a,v=.ref a->∃l,s.heap.get? a=Y l/\l.dict=Z:=by
 cases x with
 |str z=>obtain⟨t,rfl⟩:=r;cases (show T="str" from f);exact⟨dB s z t,λ_ e=>nomatch e⟩
 |int i=>obtain⟨t,rfl⟩:=r;cases (show T="int" from f);exact⟨typeIs_int s i t,λ_ e=>nomatch e⟩
 |ref p=>
  cases r;rcases f with ⟨rfl,w,q⟩ | ⟨rfl,o,b,u,h⟩ | ⟨rfl,b⟩ | ⟨rfl,S,n,b⟩
  ·obtain⟨m,_,k,_⟩:=I.list q;refine⟨k.isList.typeIs,λa e=>?_⟩;cases e;obtain⟨o,n,e,c,h,_⟩:=k;exact⟨o,e,h⟩
  ·refine⟨⟨o,I.sR p o b,u⟩,λa e=>?_⟩;cases e;exact⟨o,I.sR _ o b,h⟩
  ·have z:∃o,s.heap.get? p=Y o/\o.ExactDict:=by
    rcases b with ⟨g,b⟩ | ⟨g,b⟩
    ·obtain⟨_,_,_,_,o,_,_,e,d,_⟩:=I.iY p _ b;exact⟨o,e,d⟩
    ·obtain⟨_,_,_,_,o,_,_,e,d,_⟩:=I.iY p _ b;exact⟨o,e,d⟩
   obtain⟨o,e,d⟩:=z;refine⟨⟨o,e,d.1⟩,λa j=>?_⟩;cases j;exact⟨o,e,d.2.1⟩
  ·obtain⟨o,_,_,_,e,d,_⟩:=I.iY p _ b;refine⟨⟨o,e,d.1⟩,λa j=>?_⟩;cases j;exact⟨o,e,d.2.1⟩
 |_=>exact False.elim f
def WD(K:Fg)(T:String)(r:V->List V->Hp->VK->Prop)(b:TE):TE:=λσ H Q=>b σ H λx a=>WC K T x a/\r x [] a Q
def Zs(K:Fg)(T:String)(r:V->List V->Hp->VK->Prop)(c:TE)(t:TA):TE:=λσ H Q=>c σ H λx a=>WC K T x a/\t σ a λb d=>r x b d Q
variable {o:Expr}{to:TE}{t:TA}{name:Str}{apos gQ:Pos}{T id:String}{r:V->List V->Hp->VK->Prop}
theorem Q5(l:PlainAttrs T) (d:Slot T name id) (e:typeOf (.builtin id)=pure (.type "method_descriptor")) (n:PN X id r) (m:PE X o to)
  (c:attributeBase o name X.env (eval o X.env)=eval o X.env:=by rfl) (b:(apos.endLine==gQ.line)=true:=by rfl):PE X (.Call (.Attribute o name apos) [] [] gQ) (WD X.K T r to):=by
 intro a s σ H Q I h;refine wpAny_Call_method0_late c b (iP (@m a s σ H _ I h) λv j ⟨x,t,g,f,i,k⟩=>?_);obtain⟨q,p⟩:=JM g f i;exact⟨T,id,l,d,e,q,p,cG rfl (PySem.evalArgs_none (@n a j σ t x [] v [] Q g f .nil k))⟩
theorem Ce(A:PlainAttrs T) (f:Slot T name id) (i:typeOf (.builtin id)=pure (.type "method_descriptor")) (D:PN X id r) (C:PE X o to) (E:PA X (e::es) t)
  (d:attributeBase o name X.env (eval o X.env)=eval o X.env:=by rfl)
  (g:((backTo gQ (starEach (e::es) X.env)).all (λx=>!x.1)&&(backToKw gQ (keywordEach [] X.env)).all (λx=>x.1.isSome)
  &&decide ((e::es).length+([]:List Keyword).length+(if ([]:List Keyword).isEmpty then 0 else 1)<30))=true:=by rfl)
  (c:(apos.endLine==gQ.line)=true:=by rfl) (B:zE e es X:=by rfl) (b:(backTo gQ (starEach es X.env)).any (·.1)=false:=by rfl):
  PE X (.Call (.Attribute o name apos) (e::es) [] gQ) (Zs X.K T r to t):=by
 intro a s σ H Q I h;refine wpAny_Call_method_late d g c rfl (iP (@C a s σ H _ I h) λv u ⟨x,M,l,j,p,z⟩=>?_);obtain⟨G,F⟩:=JM l j p;refine⟨T,id,A,f,i,G,F,?_⟩;have k:=@E gQ a u σ M _ l z;rw[B] at k ⊢;refine cG (by show (false||(backTo gQ (starEach es X.env)).any (·.1))=false;rw[b]<;>rfl) (dM ?_);exact iP k λn q ⟨m,L,J,w,y⟩=>@D a q σ L x m v n Q J j w y
end
def WE(X:Cx)(b:String)(r:V->List V->Hp->VK->Prop):Prop :=
 ∀(a:Ax) (s:Shared) (σ:St) (H:Hp) (x:V) (xs:List V) (v:Value) (us:Lw) (Q:VK),fD X a σ H s->gv x v->f7 xs us->r x xs H Q ->
  (zw X) (call (.builtin b) (v::us)) (EP X a σ Q) X.xe s
theorem f7.one:∀{x:V}{a:Lw},f7 [x] a->∃u,a=[u]/\gv x u
 |_,_,.cons r .nil=>⟨_,rfl,r⟩
theorem f7.zero:∀{a:Lw},f7 [] a->a=[]
 |_,.nil=>rfl
theorem f7.dropLast{a:List V}{b:Lw}(h:f7 a b):f7 a.dropLast b.dropLast:=by
 induction h with
 |nil=>exact .nil
 |cons r t c=>
  cases t with
  |nil=>exact .nil
  |cons q d=>exact .cons r c
theorem f7.rep{a:List V}{b:Lw}(h:f7 a b):∀k:Nat,f7 (List.replicate k a).flatten (List.replicate k b).flatten
 |0=>.nil
 |k+1=>by rw[bN,bN,cz,cz];exact f7.append h (f7.rep h k)
theorem EA(l:List α):l.eraseIdx (l.length - 1)=l.dropLast:=by
 induction l with
 |nil=>rfl
 |cons a r c=>
  cases r with
  |nil=>rfl
  |cons b r=>
   have e:(a::b::r).length - 1=((b::r).length - 1)+1:=by have f:(a::b::r).length=r.length+2:=rfl;have d:(b::r).length=r.length+1:=rfl;omega
   rw[e,List.eraseIdx_cons_succ,c]
   all_goals rfl
theorem y1(a:Lw):∀(k:Nat) (acc:Lw),
  List.foldl (λx1 x2=>x1++x2) acc.toArray (List.replicate k a.toArray)=(acc++(List.replicate k a).flatten).toArray
 |0,acc=>by simp
 |k+1,acc=>by
  have e:acc.toArray++a.toArray=(acc++a).toArray:=by simp
  have b:(acc++a)++(List.replicate k a).flatten=acc++(List.replicate (k+1) a).flatten:=by rw[bN,cz,aQ]
  rw[<-b,<-y1 a k (acc++a),<-e,bN,List.foldl_cons]
section
variable {l b:Addr}{xs ys zs:List V}
theorem fD.Q6{a its':Lw}{f:Array Value->Array Value}{b:Nat} (I:fD X pins σ H s) (i:H l=Y (.lst xs))
  (e:s.heap.get? l=Y (zl a.toArray n)) (h:f a.toArray=its'.toArray) (d:f7 ys its') (c:ys.length<=sizeLine):
  fD X pins σ (upd H l (.lst ys)) { s with heap:=s.heap.update l (Obj.mapSeq f),toks:=b }:=by
 have q:=PySem.IsL.update e f;rw[h] at q;refine I.write (x:=l) (e:=l) (by rw[i];exact trivial) (.inl rfl) (λj u hb g=>(aP s.heap (Obj.mapSeq f) (Ne.symm hb)).trans g) ⟨_,q⟩ ?_;exact⟨c,its',_,d,q⟩
theorem fD.Q7{a:Lw}{t':Nat}(I:fD X pins σ H s)(c:f7 ys a)(b:ys.length<=sizeLine):
  fD X pins σ (upd H (zB s) (.lst ys)) { s with heap:=s.heap.push { cls:=.type "list",data:=.seq a.toArray },toks:=t' } :=
 I.laid (λ_ _ q=>af _ q) (aH _) ⟨b,a,0,c,aG _ rfl⟩
theorem fD.fresh(I:fD X pins σ H s):H (zB s)=Z:=I.iY.fresh (aH _)
theorem fD.JN(I:fD X pins σ H s)(b:H l=Y (.lst xs)):xs.length<=sizeLine/\∃(a:Lw) (n:Nat),f7 xs a/\xs.length=a.length/\s.heap.get? l=Y (zl a.toArray n):=by obtain⟨z,a,n,r,e⟩:=I.iY l _ b;exact⟨z,a,n,r,r.length,e⟩
theorem Cf(h:n<=sizeLine):Builtin.List.listTooLong n=false:=by unfold Builtin.List.listTooLong;exact aA (by omega)
end
section
def M8:V->List V->Hp->VK->Prop:=λx b H Q=>∃l a y,x=.ref l/\b=[y]/\H l=Y (.lst a)/\a.length<sizeLine/\Q .lP (upd H l (.lst (a++[y])))
theorem y2:WE X "list.append" M8:=by intro b s σ H x j v k Q I d f h;obtain⟨l,i,y,rfl,rfl,c,m,q⟩:=h;cases d;obtain⟨u,rfl,g⟩:=f.one;obtain⟨z,a,n,r,o,e⟩:=I.JN c;refine cA F.slot_list_append ⟨_,e,rfl⟩ F.entry_list_append (F.args_list_append_2 _ _) (PySem.list_append l a.toArray n u (by rw[az];omega)) ⟨e,?_⟩;refine⟨.lP,_,I.Q6 (its':=a++[u]) c e (by simp) (r.append (.cons g .nil)) ?_,rfl,q⟩;rw[aB,List.length_singleton];omega
def M9:V->List V->Hp->VK->Prop:=λx d H Q=>∃l b c a,x=.ref l/\d=[.ref b]/\H l=Y (.lst c)/\H b=Y (.lst a)/\c.length+a.length<=sizeLine/\Q .lP (upd H l (.lst (c++a)))
theorem HP:WE X "list.extend" M9:=by
 intro g s σ H x D v E Q I j k h;obtain⟨l,b,C,A,rfl,rfl,i,w,G,q⟩:=h;cases j;obtain⟨u,rfl,m⟩:=k.one;cases m;obtain⟨z,c,n,r,J,e⟩:=I.JN i;obtain⟨B,a,p,o,t,y⟩:=I.JN w;have f:c.toArray.size+a.toArray.size<=sizeLine:=by rw[az,az];omega
 have d:¬ (!c.toArray.isEmpty&&Builtin.List.listTooLong (c.toArray.size+a.toArray.size))=true:=by rw[Cf f,Bool.and_false];exact aR
 refine cA F.slot_list_extend ⟨_,e,rfl⟩ F.entry_list_extend (F.args_list_extend_2 _ _)
  (AutoSeq1.list_extend_list_list_0 l c.toArray n b a.toArray p d (by rw[az];omega) (by omega)) ⟨e,y,?_⟩
 refine⟨.lP,_,I.Q6 (its':=c++a) i e (by simp) (r.append o) ?_,rfl,q⟩;rw[aB];omega
def WG:V->List V->Hp->VK->Prop:=λx b H Q=>∃l a y,x=.ref l/\b=[]/\H l=Y (.lst a)/\a[a.length - 1]?=Y y/\Q y (upd H l (.lst a.dropLast))
theorem Q8:WE X "list.pop" WG:=by
 intro d s σ H x t v w Q I g i h;obtain⟨l,p,y,rfl,rfl,f,k,q⟩:=h;cases g;have c:=i.zero;subst c;obtain⟨z,a,n,r,o,e⟩:=I.JN f;obtain⟨u,m,j⟩:=r.get k;have b:a.toArray[a.toArray.size - 1]?=Y u:=by show a.toArray[a.length - 1]?=Y u;rw[<-Array.getElem?_toList,<-o];exact m
 refine cA F.slot_list_pop ⟨_,e,rfl⟩ F.entry_list_pop (F.args_list_pop_1 _) (MeetsSeq.list_pop_last l a.toArray n u b (by rw[az];omega)) ⟨e,?_⟩;refine⟨y,_,I.Q6 (its':=a.dropLast) f e ?_ r.dropLast ?_,j,q⟩
 ·show a.toArray.eraseIdxIfInBounds (a.toArray.size - 1)=a.dropLast.toArray;rw[az,List.eraseIdxIfInBounds_toArray,EA]
 ·rw[List.length_dropLast];omega
def WH:R2:=λx y H Q=>∃l k a,x=.ref l/\y=.int k/\H l=Y (.lst a)/\-(2 ^ 63)<=k/\k<2 ^ 63/\a.length*k.toNat<=sizeLine /\
 ∀p,H p=Z->Q (.ref p) (upd H p (.lst (List.replicate k.toNat a).flatten))
theorem Na(a:List α)(k:Nat):(List.replicate k a).flatten.length=k*a.length:=by
 induction k with
 |zero=>simp
 |succ k b=>rw[bN,cz,aB,b,Nat.succ_mul,Nat.add_comm]
theorem Q9:lO X (binaryOp .Mult) WH:=by
 intro p s σ H x y v u Q I B A h;obtain⟨l,k,K,rfl,rfl,D,G,E,w,q⟩:=h;cases B;obtain⟨t,rfl⟩:=A;obtain⟨z,b,n,r,C,e⟩:=I.JN D;have f:b.toArray.size*k.toNat<=sizeLine:=by rw[az,<-C];exact w
 have i:¬ b.toArray.size*k.toNat > (2 ^ 63 - 1) / 8:=by
  have:(sizeLine:Nat)<=(2 ^ 63 - 1) / 8:=by decide
  omega
 have g:¬ (!Builtin.List.listFitsIndex k)=true:=by rw[fitsIndex_both G E];exact aR
 have c:¬ Builtin.List.listTooLong (b.toArray.size*k.toNat)=true:=by rw[Cf f];exact aR
 have d:List.foldl (λo j=>o++j) #[] (List.replicate (if b.toArray.isEmpty=true then 0 else k.toNat) b.toArray)=(List.replicate k.toNat b).flatten.toArray:=by
  have J:∀m:Nat,List.foldl (λo j=>o++j) #[] (List.replicate m b.toArray)=(List.replicate m b).flatten.toArray:=λm=>by have:=y1 b m [];rw[bp] at this;exact this
  rw[J];cases b with
  |nil=>simp
  |cons a L=>rw[ao (by simp)]
 refine wpAny_binaryOp_repeat_ref (T:="list") (U:="int") (by decide) ⟨_,e,rfl⟩ (λs'=>typeIs_int s' k t) noFill_list_mul F.fills_int_mul F.slot_int_rmul repeat_list F.slot_int_index.lookup
  (cA F.slot_int_rmul (typeIs_int s k t) F.entry_int_rmul (F.args_int_rmul_2 _ _) (int___rmul___int_list k t l b.toArray n)
   ⟨e,rfl,⟨_,e,rfl⟩,cA F.slot_list_mul ⟨_,e,rfl⟩ F.entry_list_mul (F.args_list_mul_2 _ _) (AutoListH.list___mul___list_int_3 l b.toArray n k t g i c) ⟨e,?_⟩⟩)
 rw[d];exact⟨.ref _,_,I.Q7 (t':=s.toks) (r.rep k.toNat) (by rw[Na,Nat.mul_comm];exact w),rfl,q _ I.fresh⟩
end
section
variable {prog:Program}
end
end L2
namespace Vz
open PySem PySem.W PySem.Calls PyProof.Rows
theorem vC{P:Params}:∀(c:List Int) (vs:Lw),WellAll P h vs (c.map WData.int)->IntsAre vs c:=by
 intro c;induction c with
 |nil=>intro vs w;rw[a9] at w;cases w;exact .nil
 |cons n c d=>
  intro vs w;rw[ae] at w;cases w with
  |cons a b=>cases a;exact .cons _ _ (d _ b)
theorem HQ{l:OpenLaw} (x:l.most=Y n) {P:Params}{b:List WData}{e:Lw}
  (f:l.row.toRowW.claim.pre b=true) (m:WellAll P h e b):
  ∃a p c,e=[Value.ref a]/\b=[WData.list (c.map WData.int)]/\h.get? a=Y { cls:=.type "list",data:=.seq p.toArray }/\IntsAre p c/\c.length<=n:=by
 have o:WShape.hasAll [] b [.list .int]=true:=(pre_splitW f).1;have s:l.pre.holds [] { args:=b }=true:=(pre_splitW f).2;obtain⟨d,r,rfl,A,z⟩:=hasAllW_cons o;obtain rfl:=hasAllW_nil z;obtain⟨B,rfl,y⟩:=hasW_list A;obtain⟨c,rfl⟩:=items_int y;have g:c.length<=n:=by
  unfold OpenLaw.pre at s;have k:(WTm.not (.lt (.lit (.int (n:Int))) (.len (.arg 0)))).holds [] { args:=[.list (c.map .int)] }=true:=by have k:=(holds_andW s).1;rw[x] at k;exact k
  have j:=condW_of k (w_not (w_lt w_lit (w_len_list (w_arg rfl))));rw[ah] at j;refine dD λq=>?_;have v:(n:Int)<((c.length:Nat):Int):=by omega
  first
   | (rw[aX v] at j;exact absurd j (by decide))
   | (simp at j;omega)
 cases m with
 |cons u t=>
  cases t;cases u with
  |list w i=>exact⟨_,_,c,rfl,rfl,w,vC c _ i,g⟩
theorem HR(l:OpenLaw)(a:List WData):l.row.toRowW.claim.post a (.bool true) a=true :=
 postW_of (r:=l.row.toRowW) (X:=(true==true))
  (show WShape.has [] (.bool true) .bool=true by first|rfl|decide|simp[WShape.has,WShape.arms,WShape.armsAll])
  (show (WTm.eq .res (.lit (.bool true))).value [] { args:=a,res:=Y (.bool true),after:=a }=Y (.bool (true==true)) from w_eq_bool (w_res rfl) w_lit) rfl
section
variable {prog:Program}{K:Frag}
end
end Vz
namespace L2
open PySem PySem.Spec PyProof.Rows
theorem y3:∀{a:Lw}{b:List Int},IntsAre a b->f7 (b.map V.int) a
 |_,_,.nil=>.nil
 |_,_,.cons n t h=>.cons ⟨t,rfl⟩ (y3 h)
def T4(H:Hp):Prop:=∀b,H b=Z\/∃o a,H b=Y (.Ja o (.lst a))
theorem JO{P:Program}{K:Fg}{O:Str->Ow}{CX:Jc}{k:Nat}{U:Addr}{sp:Sp}{c:Shared}{l:Lw}{y:List Int}
  (KX:K.In c.heap) (D:c.heap.Ns mainGlobals mg) (g:c.heap.Ns builtinsNs O) (S:∀x:Str,x≠"__name__"->O x=bootBuiltins x) (E:c.heap.NoLimit) (hg:c.gens=#[])
  (M:c.heap.get? a=Y { cls:=.type "list",data:=.seq l.toArray }) (hi:IntsAre l y) (hl:y.length<=sizeLine) (hr:jf k callerA)
  (F:∀base:Heap,K.In base->base.Ns mainGlobals mg->lT P w K mg base CX k U fd [x] sp) (p:∀(s:Shared) (u:Value),BindsTo s fd ⟨[u],[]⟩ [(x,u)])
  (Q:∀H:Hp,T4 H->o8 K H a (y.map V.int)->sp [.ref a] H (λv _=>v=.bl true) λ_ _ _=>False)
  (T:∀H e s',CX [] H c (λ_ _ _=>False) e s'->False):
  codeAny (model P w) callerA (.call (.ref U) ⟨[.ref a],[]⟩) (λr s'=>r=.ok (.ret (.bool true))/\OldK c.heap s'.heap/\s'.os=c.os/\AllBare s'.gens) c:=by
 have rv:=y3 hi;have A:=hi.length;have j:∀H:Hp,T4 H->o8 K H a (y.map V.int)->qj P w H c.heap->(∀b,H b≠Z->b=a)->(H a≠Z->K.lookup a=Z) ->
   codeAny (model P w) callerA (.call (.ref U) ⟨[.ref a],[]⟩) (λr s'=>r=.ok (.ret (.bool true))/\OldK c.heap s'.heap/\s'.os=c.os/\AllBare s'.gens) c:=by
  intro H hO hS C hA hK;have f:∀{b:Addr}{o:Obj},c.heap.get? b=Y o->H b=Z->(Ah c.heap H).get? b=Y o:=λe n=>Jh e n;have N:∀{b:Addr}{o:Obj}{I:Array DictEntry}{J:Nat},c.heap.get? b=Y o->o.data=.dict I J->H b=Z:=λ{b o I J} e d=>by
   cases q:H b with
   |none=>rfl
   |some u=>have W:b=a:=hA b (by rw[q];simp);subst W;rw[M] at e;cases e;have d':Data.seq l.toArray _=Data.dict I J:=d;cases d'
  have i:∀{b:Addr}{m:Str->Ow},c.heap.Ns b m->(Ah c.heap H).Ns b m:=λ{b m} ⟨o,I,J,e,d,r⟩=>⟨o,I,J,f e (N e d),d,r⟩
  have G:K.In (Ah c.heap H):=λb o e=>f (KX b o e) (by
   cases q:H b with
   |none=>rfl
   |some u=>have W:b=a:=hA b (by rw[q];simp);subst W;rw[hK (by rw[q];simp)] at e;cases e)
  have hM:Mod K mg (Ah c.heap H):=⟨G,i D,⟨O,i g,S⟩,let ⟨mc,h1,h2⟩:=E;⟨mc,i h1,h2⟩⟩
  have e0:An P w K mg (Ah c.heap H) callerA [] c H:=⟨rfl,hM,λb o e=>MK e,Nat.le_of_eq (HB _ _),trivial,λb g=>absurd (show b∈([]:List Addr) from g) (by simp),C,.of_eq hg⟩
  refine cw ((F _ G (i D)).run callerA [] c H ⟨[.ref a],[]⟩ [.ref a] [.ref a] _ _ hr e0 (p c (.ref a)) (.cons rfl .nil) (Q H hO hS)) λr s' h=>?_;cases r with
  |error e=>exact(T H e s' h).elim
  |ok fl=>
   cases fl with
   |next=>exact False.elim h
   |brk=>exact False.elim h
   |cont=>exact False.elim h
   |ret u=>
    obtain⟨v,H',os,L,X,B,r',q⟩:=h;have q':v=.bl true:=q;subst q';obtain rfl:u=Value.bool true:=r';refine⟨rfl,OldK.of_keep λb o e=>?_,os,L⟩;cases q:H b with
    |none=>exact X.keep b o e q (by intro z;exact absurd (show b∈([]:List Addr) from z) (by simp)) (by simp)
    |some u=>
     rcases hO b with z | ⟨ob,xs,z⟩
     ·rw[q] at z;cases z
     ·have z2:=X.qw b ob _ z;obtain⟨e1,_⟩:=C b _ z;obtain⟨e2,_⟩:=B b _ z2;rw[e] at e1;cases e1;exact e2
 cases R:K.lookup a with
 |some o=>have e:=KX a o R;rw[M] at e;cases e;refine j (λ_=>Z) (λ_=>.inl rfl) (.inr ⟨_,l.toArray,_,R,rfl,rfl,rfl,by rw[az,A];exact hl,by simpa using rv⟩) (λb u z=>by have t:(Z:Option HO)=Y u:=z;cases t) (λb z=>absurd rfl z) λz=>absurd rfl z
 |none=>
  refine j (λb=>if b=a then Y (.Ja { cls:=.type "list",data:=.seq l.toArray } (.lst (y.map V.int))) else Z) (λb=>?_) (.inl (.inr ⟨{ cls:=.type "list",data:=.seq l.toArray },ai rfl⟩)) (λb u z=>?_) (λb z=>?_) λ_=>R
  ·by_cases g:b=a
   ·exact .inr ⟨_,_,ai g⟩
   ·exact .inl (ao g)
  ·by_cases g:b=a
   ·have t:=(ai g).symm.trans z;cases t;subst g;exact⟨M,by rw[ah];exact hl,l,_,rv,M⟩
   ·have t:=(ao g).symm.trans z;cases t
  ·by_cases g:b=a
   ·exact g
   ·exact absurd (ao g) z
def sY(s:Stmt)(j:Nat):Stmt:=match s with
 |.ClassDef _ _ _ body _ _ _ _ _ _ _=>body.getD j (.Pass ⟨0,0,0,0⟩)
 |_=>.Pass ⟨0,0,0,0⟩
def mY(s:Stmt):Arguments:=match s with
 |.FunctionDef _ a _ _ _ _ _ _ _ _=>a
 |_=>{ posonlyargs:=[],args:=[],vararg:=Z,kwonlyargs:=[],kw_defaults:=[],kwarg:=Z,defaults:=[] }
def iB(s:Stmt):List Stmt:=match s with
 |.FunctionDef _ _ b _ _ _ _ _ _ _=>b
 |_=>[]
def fo(s:Stmt):Scope:=match s with
 |.FunctionDef _ _ _ _ _ _ sc _ _ _=>sc
 |_=>{ kind:=.function,names:=[],isGenerator:=false,isCoroutine:=false }
abbrev yl:Jc:=λ_ _ _ _ _ _=>False
abbrev E0:XK:=λ_ _ _=>False
theorem y4:sr yl X E0:=λ_ _ _ _ _ _ _ h=>h.elim
structure D9 (K:Fg) (x qual:Str) (st:Stmt) (f:Addr) (fd:FuncData):Prop where
 ex:∃(oc:Value) (od:Option Addr) (kV doc pm:Value) (an:Option Addr) (rq ct:Value) (Yl:Array Ow),
  fd=W.fnOf x qual (mY st) (iB st) (fo st) .none kV doc pm an rq ct/\K.lookup f=Y ⟨oc,od,.func fd,Yl⟩/\W.codeIn K rq qual=true
 kp:W.keepIn K (.ref f)=true
section
variable {P:Program}{K:Fg}{base:Heap}
theorem D9.ok{a:Str}{f:Addr}{N d:Lr}{k:Nat}{c:Sp} (F:D9 K x a st f fd) (S:i5 N d (fo st)) (e:∀vs H Q E,c vs H Q E->vs.length=d.length)
  (b:∀(rq:Value) (A:Around) (outer:List Env) (s:Shared) (H:Hp) (vs:List V) (Q:VK) (E:XK),jf k (A.deeper (envOfC a (fo st) (zB s) f rq))->c vs H Q E ->
   ∃t,yj (uw yl P w K mg base N a (fo st) f rq A outer s H E).Pz (iB st) t/\t { nx:=λ_ H'=>Q .lP H',rt:=Q } (my N vs) H):lT P w K mg base yl (k+1) f fd d c:=by
 obtain⟨r,p,u,n,o,y,rq,v,j,rfl,l,i⟩:=F.ex;refine PM l i S e λA outer s H vs Q E m g=>?_;obtain⟨t,h,q⟩:=b rq A outer s H vs Q E m g;exact⟨t,h.Pz,q⟩
theorem D9.binds{a:Str}{f:Addr}{b:Lr} (F:D9 K x a st f fd)
  (h:∀(kV doc pm:Value) (an:Option Addr) (rq ct:Value) (us:Lw),us.length=b.length->bindArgs (W.fnOf x a (mY st) (iB st) (fo st) .none kV doc pm an rq ct) ⟨us,[]⟩=pure (b.zip us)):kZ K fd b []:=by
 obtain⟨g,e,kV,doc,pm,an,rq,ct,c,rfl,i,d⟩:=F.ex;exact .all (h kV doc pm an rq ct)
theorem Ay{a:Str}{f:Addr}{n:Value}{m j:Option Addr}{e:Array Ow}{h d g b i:Value} (l:K.lookup f=Y ⟨n,m,.func (W.fnOf x a (mY st) (iB st) (fo st) .none h d g j b i),e⟩)
  (c:W.codeIn K b a=true) (k:W.keepIn K (.ref f)=true):D9 K x a st f (W.fnOf x a (mY st) (iB st) (fo st) .none h d g j b i):=⟨⟨n,m,h,d,g,j,b,i,e,rfl,l,c⟩,k⟩
end
def fJ(H a:Hp):Prop:=∀b o,H b=Y o->a b=Y o
theorem fJ.refl(H:Hp):fJ H H:=λ_ _ h=>h
theorem fJ.trans{e d:Hp}(a:fJ H e)(b:fJ e d):fJ H d:=λc o h=>b c o (a c o h)
theorem fJ.seq{K:Fg}{c:Hp}{b:List V}(e:fJ H c)(h:o8 K H a b):o8 K c a b:=by
 rcases h with (h | ⟨o,h⟩)|h
 ·exact .inl (.inl (e _ _ h))
 ·exact .inl (.inr ⟨o,e _ _ h⟩)
 ·exact .inr h
section
variable {κ:Type} [DecidableEq κ]
noncomputable def pG(a:List (κ×V))(k:κ):Option V:=(a.find? λb=>decide (b.1=k)).map (·.2)
noncomputable def ql(a:List (κ×V))(k:κ)(v:V):List (κ×V) :=
 if (a.any λb=>decide (b.1=k))=true then a.map (λb=>if b.1=k then (b.1,v) else b) else a++[(k,v)]
theorem sZ{p:κ×V}{r:List (κ×V)}{k:κ}(e:p.1=k):pG (p::r) k=Y p.2:=by simp[pG,bO,e]
theorem qD{p:κ×V}{r:List (κ×V)}{k:κ}(e:¬ p.1=k):pG (p::r) k=pG r k:=by simp[pG,bO,e]
theorem Cg(k:κ):∀a:List (κ×V),(a.any λb=>decide (b.1=k))=(pG a k).isSome
 |[]=>rfl
 |p::r=>by
  rw[bM];by_cases e:p.1=k
  ·simp only[sZ e,aX e,Bool.true_or,Option.isSome_some]
  ·rw[qD e,aA e,Bool.false_or];exact Cg k r
theorem qE(a:List (κ×V))(k:κ)(v:V):(ql a k v).length<=a.length+1:=by
 unfold ql;split
 ·rw[ah];omega
 ·rw[aB,ay,eS];omega
theorem qi.pb{o:Option V}{u:Ow}(r:qi o u):o.isSome=u.isSome:=by
 cases o with
 |none=>cases u with
  |none=>rfl
  |some _=>exact(show False from r).elim
 |some _=>cases u with
  |none=>exact(show False from r).elim
  |some _=>rfl
theorem qi.getD{o:Option V}{u:Ow}{d:V}{a:Value}(r:qi o u)(b:gv d a):gv (o.getD d) (u.getD a):=by
 cases o with
 |none=>cases u with
  |none=>exact b
  |some _=>exact(show False from r).elim
 |some _=>cases u with
  |none=>exact(show False from r).elim
  |some _=>exact r
theorem KV.val{a:List (κ×V)}{f:List (κ×Value)}(r:KV a f)(k:κ):qi (pG a k) (valueAt f k):=by
 unfold KV at r;induction r with
 |nil=>exact a0
 |@cons p q l c h t i=>
  obtain⟨g,j⟩:=h;by_cases e:p.1=k
  ·have d:q.1=k:=g.symm.trans e;have b:valueAt (q::c) k=Y q.2:=by simp[valueAt,bO,d]
   rw[sZ e,b];exact j
  ·have d:¬ q.1=k:=λz=>e (g.trans z);have b:valueAt (q::c) k=valueAt c k:=by simp[valueAt,bO,d]
   rw[qD e,b];exact i
theorem KV.any{a:List (κ×V)}{c:List (κ×Value)}(r:KV a c)(k:κ):(a.any λb=>decide (b.1=k))=c.any λb=>decide (b.1=k):=by
 unfold KV at r;induction r with
 |nil=>rfl
 |cons h t d=>rw[bM,bM,d,h.1]
theorem KV.EB{b:List (κ×V)}{d:List (κ×Value)}(r:KV b d)(k:κ){y:V}(f:gv y u):
  KV (b.map λa=>if a.1=k then (a.1,y) else a) (d.map λa=>if a.1=k then (a.1,u) else a):=by
 unfold KV at r ⊢;induction r with
 |nil=>exact .nil
 |@cons p q l j h t g=>
  rw[ae,ae];refine .cons ?_ g;obtain⟨c,i⟩:=h;by_cases e:p.1=k
  ·rw[ai e,ai (c.symm.trans e)];exact⟨c,f⟩
  ·rw[ao e,ao (λz=>e (c.trans z))];exact⟨c,i⟩
theorem KV.put{a:List (κ×V)}{b:List (κ×Value)}(r:KV a b)(k:κ){y:V}(c:gv y u):KV (ql a k y) (stored b k u):=by
 unfold ql stored;rw[r.any k];by_cases e:(b.any λd=>decide (d.1=k))=true
 ·rw[ai e,ai e];exact r.EB k c
 ·rw[ao e,ao e];exact Paired.snoc r ⟨rfl,c⟩
theorem KV.length{a:List (κ×V)}{vs:List (κ×Value)}(r:KV a vs):a.length=vs.length:=eC r
end
theorem qF{P:Program}{k:Key}(r:gv (kV k) u):(gL P w).is k u=true:=by
 cases k with
 |inl i=>obtain⟨t,e⟩:=(show ∃t,u=Value.int i t from r);subst e;exact B0 P w i t
 |inr x=>obtain⟨t,e⟩:=(show ∃t,u=Value.str x t from r);subst e;exact qv P w x t
theorem y7{P:Program}{w:World}:∀{a:List Key}{b:Lw},f7 (a.map kV) b->ItemsAre (gL P w) a b
 |[],_,r=>by rw[a9] at r;cases r;exact .nil
 |k::a,_,r=>by
  rw[ae] at r;cases r with
  |cons h t=>exact .cons (qF h) (y7 t)
abbrev KT(H:Hp):List (List Key×V)->List (List Key×Addr×Value)->Prop:=Paired λp q=>p.1=q.1/\H q.2.1=Y (.tup (p.1.map kV))/\gv p.2 q.2.2
theorem KT.val{a:List (List Key×V)}(r:KT H a xs)(k:List Key):qi (pG a k) ((atKey xs k).map (·.2)):=by
 induction r with
 |nil=>exact a0
 |@cons p q j c h t g=>
  obtain⟨f,_,i⟩:=h;by_cases e:p.1=k
  ·have d:q.1=k:=f.symm.trans e;have b:atKey (q::c) k=Y q.2:=by simp[atKey,bO,d]
   rw[sZ e,b];exact i
  ·have d:¬ q.1=k:=λz=>e (f.trans z);have b:atKey (q::c) k=atKey c k:=by simp[atKey,bO,d]
   rw[qD e,b];exact g
theorem KT.EB{a:List (List Key×V)}(r:KT H a xs)(k:List Key){y:V}(f:gv y u):
  KT H (a.map λc=>if c.1=k then (c.1,y) else c) (xs.map (putAt k u)):=by
 induction r with
 |nil=>exact .nil
 |@cons p q l j h t g=>
  rw[ae,ae];refine .cons ?_ g;obtain⟨b,d,i⟩:=h;unfold putAt;by_cases e:p.1=k
  ·rw[ai e,ai (b.symm.trans e)];exact⟨b,d,f⟩
  ·rw[ao e,ao (λz=>e (b.trans z))];exact⟨b,d,i⟩
theorem KT.put{a:List (List Key×V)}(r:KT H a xs)(k:List Key){b:Addr}{y:V}(f:H b=Y (.tup (k.map kV)))(c:gv y u):
  KT H (ql a k y) (storedH xs k b u):=by
 have e:(a.any λd=>decide (d.1=k))=(atKey xs k).isSome:=by rw[Cg,(r.val k).pb,d9]
 unfold ql storedH;rw[e];by_cases q:(atKey xs k).isSome=true
 ·rw[ai q,ai q];exact r.EB k c
 ·rw[ao q,ao q];exact Paired.snoc r ⟨rfl,f,c⟩
theorem KT.keeps{H':Hp}{a:List (List Key×V)}(r:KT H a xs)(c:∀b ys,H b=Y (.tup ys)->H' b=Y (.tup ys)):KT H' a xs :=
 Paired.QC r λ_ _ z=>⟨z.1,c _ _ z.2.1,z.2.2⟩
section
variable {P:Program}
theorem PR{u:HO}(b:qj P w H h)(e:Rd H a u):jh P w H h a u:=e.ok b
theorem vf{b:List (Key×V)}(d:qj P w H h)(e:Rd H a (.dK b)):b.length<=sizeLine/\(a==sysModules)=false/\∃c,KV b c/\h.DictOf (gL P w) a c :=
 show jh P w H h a (.dK b) from PR d e
theorem rZ{b:List (Key×V)}(d:qj P w H h)(e:H a=Y (.dK b)):b.length<=sizeLine/\(a==sysModules)=false/\∃c,KV b c/\h.DictOf (gL P w) a c:=vf d (.inl e)
theorem ux{b:List Key}(d:qj P w H h)(e:H a=Y (.tup (b.map kV))):(tupleKind (gL P w)).is h b a:=by
 obtain⟨_,c,r,o,i,g,n,f⟩:=(show jh P w H h a (.tup (b.map kV)) from d a _ e)
 exact⟨o,c.toArray,n,i,g,f,by simpa using y7 r⟩
theorem wC{b:List (List Key×V)}(g:qj P w H h)(e:Rd H a (.dT b)):b.length<=sizeLine/\(a==sysModules)=false /\
  ∃d,KT H b d/\h.DictOfH (tupleKind (gL P w)) a d:=by
 obtain⟨z,y,d,r,o,A,B,v,u,s,n,k⟩:=(show jh P w H h a (.dT b) from PR g e)
 refine⟨z,y,d,r,o,A,B,v,u,s,n,λx c=>?_,k⟩;have f:∀{l:List (List Key×V)}{m:List (List Key×Addr×Value)},KT H l m->∀x∈m,(tupleKind (gL P w)).is h x.1 x.2.1:=by
  intro l m q;induction q with
  |nil=>intro x c;exact nomatch c
  |@cons p q D C i t j=>
   intro x c;rcases ag.mp c with e|c
   ·subst e;exact ux g (by rw[<-i.1];exact i.2.1)
   ·exact j x c
 exact f r x c
theorem T5{b:List (List Key×V)}(d:qj P w H h)(e:H a=Y (.dT b)):b.length<=sizeLine/\(a==sysModules)=false /\
  ∃c,KT H b c/\h.DictOfH (tupleKind (gL P w)) a c:=wC d (.inl e)
end
def tf(H:Hp)(a:Addr)(y:V)(r:Option V):Prop :=
 (∃c k,Rd H a (.dK c)/\y=kV k/\r=pG c k)\/∃c k b,Rd H a (.dT c)/\y=.ref b/\H b=Y (.tup (k.map kV))/\r=pG c k
def Nb(H:Hp)(a:Addr)(y v:V)(d:Hp):Prop :=
 (∃c k,H a=Y (.dK c)/\y=kV k/\c.length<sizeLine/\d=upd H a (.dK (ql c k v))) \/
 ∃c k b,H a=Y (.dT c)/\y=.ref b/\H b=Y (.tup (k.map kV))/\c.length<sizeLine/\d=upd H a (.dT (ql c k v))
theorem tf.k{H:Hp}{a:Addr}{b:List (Key×V)}{k:Key}(e:H a=Y (.dK b)):tf H a (kV k) (pG b k):=.inl ⟨b,k,.inl e,rfl,rfl⟩
theorem Nb.k{H:Hp}{a:Addr}{b:List (Key×V)}{k:Key}{v:V}(e:H a=Y (.dK b))(c:b.length<sizeLine):Nb H a (kV k) v (upd H a (.dK (ql b k v))):=.inl ⟨b,k,e,rfl,c,rfl⟩
section
variable {y:V}{r:Value}{o:Option V}
theorem fD.big(I:fD X pins σ H s):sysModules<(zB s):=by have h:mainGlobals<(zB s):=(I.mod.glob.keeps I.bk).lt;exact dX (by decide) h
theorem HS{Q:Px}(t:A.units+1<cLine)(I:fD X pins σ H s)(g:tf H a y (Y v))(n:gv y u)(h:∀w' s',fD X pins σ H s'->gv v w'->Q w' s'):
  wpAny (model X.prog X.w) A (getItem (.ref a) u) Q E s:=by
 rcases g with ⟨f,k,e,j,l⟩ | ⟨f,k,b,e,j,C,l⟩
 ·subst j;obtain⟨z,B,r,d,m⟩:=vf I.iY e;obtain⟨w',hw,c⟩:=qi.some_of (v:=v) (o:=valueAt r k) (by rw[l];exact d.val k);exact wpAny_getItem_of (qF n) m.mapOf hw (h w' _ (I.tok _) c)
 ·subst j;cases (show u=Value.ref b from n);obtain⟨z,B,q,d,m⟩:=wC I.iY e;obtain⟨w',hw,c⟩:=qi.some_of (v:=v) (o:=(atKey q k).map (·.2)) (by rw[l];exact d.val k);obtain⟨p,x,i⟩:=ak.mp hw;refine wpAny_getItem_heap (cH t) (ux I.iY C) m x ?_;rw[i];exact h w' _ (I.tok _) c
theorem WI{Q:Px}(n:A.units+1<cLine)(I:fD X pins σ H s)(g:tf H a y o)(m:gv y u)(h:∀s',fD X pins σ H s'->Q (.bool o.isSome) s'):
  wpAny (model X.prog X.w) A (compareOp .In u (.ref a)) Q E s:=by
 rcases g with ⟨d,k,e,i,l⟩ | ⟨d,k,b,e,i,p,l⟩
 ·subst i;obtain⟨z,f,t,c,j⟩:=vf I.iY e;refine wpAny_in_of (qF m) f j.mapOf ?_;rw[<-(c.val k).pb,<-l];exact h _ (I.tok _)
 ·subst i;cases (show u=Value.ref b from m);obtain⟨z,f,r,c,j⟩:=wC I.iY e;refine wpAny_in_heap (cH n) (ux I.iY p) f j ?_;have q:=(c.val k).pb;rw[d9] at q;rw[<-q,<-l];exact h _ (I.tok _)
theorem Nc{Q:Px}(n:A.units+1<cLine)(I:fD X pins σ H s)(g:tf H a y o)(m:gv y u)(h:∀s',fD X pins σ H s'->Q (.bool (!o.isSome)) s'):
  wpAny (model X.prog X.w) A (compareOp .NotIn u (.ref a)) Q E s:=by
 rcases g with ⟨d,k,e,i,l⟩ | ⟨d,k,b,e,i,p,l⟩
 ·subst i;obtain⟨z,f,t,c,j⟩:=vf I.iY e;refine wpAny_notIn_of (qF m) f j.mapOf ?_;rw[<-(c.val k).pb,<-l];exact h _ (I.tok _)
 ·subst i;cases (show u=Value.ref b from m);obtain⟨z,f,r,c,j⟩:=wC I.iY e;refine wpAny_notIn_heap (cH n) (ux I.iY p) f j ?_;have q:=(c.val k).pb;rw[d9] at q;rw[<-q,<-l];exact h _ (I.tok _)
theorem Gq{c:Heap}{g:Nat}{d:HO}(I:fD X pins σ H s)(h:Ti (H a))(i:Heap.SameBut a s.heap c)(j:∃q,c.get? a=Y q)(f:jh X.prog X.w (upd H a d) c a d):
  fD X pins σ (upd H a d) { s with heap:=c,toks:=g } :=
 I.write (x:=a) (e:=a) h (.inl rfl) (λb q hb z=>(i.2 b hb).trans z) j f
theorem JP{P:Program}{h:Hp}{e:Heap}{b:List (Key×V)}{c:List (Key×Value)}(z:b.length<=sizeLine)(f:(a==sysModules)=false)(d:KV b c)(g:e.DictOf (gL P w) a c):
  jh P w h e a (.dK b):=⟨z,f,c,d,g⟩
theorem HU{K:Hp}{Q:Unit->Shared->Prop}(N:A.units+1<cLine)(I:fD X pins σ H s)(g:Nb H a y v K)(C:gv y u)(D:gv v r)(h:∀s',fD X pins σ K s'->Q () s'):
  wpAny (model X.prog X.w) A (setItem (.ref a) u r) Q E s:=by
 rcases g with ⟨f,k,e,t,l,x⟩ | ⟨f,k,b,e,t,J,l,x⟩
 ·subst t x;obtain⟨z,p,M,d,B⟩:=rZ I.iY e;have m:M.length<=sizeLine:=by rw[<-d.length];exact z
  have o:(ql f k v).length<=sizeLine:=by have:=qE f k v;omega
  refine wpAny_setItem_pairs (hsz:=m) (qF C) B λF i n=>h _ ?_;have O:∃q,F.get? a=Y q:=let ⟨q,_,_,j,_⟩:=i;⟨q,j⟩;exact Gq I (by rw[e];exact a0) n O (JP o p (d.put k D) i)
 ·subst t x;cases (show u=Value.ref b from C);obtain⟨z,p,L,d,B⟩:=T5 I.iY e;have m:L.length<=sizeLine:=by rw[<-eC d];exact z
  have o:(ql f k v).length<=sizeLine:=by have:=qE f k v;omega
  refine wpAny_setItem_heap (hsz:=m) (cH N) (ux I.iY J) B λF i n=>h _ ?_;obtain⟨q,U,V,j,T,S,R,_,P⟩:=i;refine Gq I (by rw[e];exact a0) n ⟨q,j⟩ ⟨o,p,_,(d.put k J D).keeps λc W G=>?_,q,U,V,j,T,S,R,P⟩;rw[fK (Th G e (λz=>nomatch z))];exact G
end
section
variable {kF:List (Key×V)}{k:Key}
theorem T6{Q:Px}(I:fD X pins σ H s)(e:Rd H a (.dK kF))(h:∀t s',fD X pins σ H s'->Q (.int kF.length t) s'):wpAny (model X.prog X.w) A (call (.builtin "len") [.ref a]) Q E s:=by obtain⟨z,c,f,b,d⟩:=vf I.iY e;refine call_len_dict c d (by rw[<-b.length];rw[sizeLine_eq] at z;omega) ?_;rw[<-b.length];exact h _ _ (I.tok _)
end
def EC(i:Expr):Prop:=∀a b,subscripted i false a b=operate [a,b] (getItem a b)
theorem Gr{a:Program}{g:Env}{c b:Expr}{T m:String}{Q:Px}
  (p:typeLookup (.type T) "__getitem__"=pure (Y (.builtin m))) (n:EC b)
  (h:wpAny (model a w) A (eval c g) (λo s₁=>wpAny (model a w) A (eval b g) (λi s₂=>s₂.TypeIs o T/\wpAny (model a w) A (getItem o i) Q E s₂) E s₁) E s):
  wpAny (model a w) A (eval (.Subscript c b pos) g) Q E s:=by
 refine Subscript_ (bF h (λo s₁ k=>bF k (λi s₂ d=>?_) λ_ _ x=>x) λ_ _ x=>x);obtain⟨l,d⟩:=d;unfold subscriptTail;refine aa ?_;rw[getitemInPython_of_ne l.not_modules];refine aa (dN l p ?_);have f:wpAny (model a w) A (subscripted b false o i) (λr e=>wpAny (model a w) A (letTemporaryGo c o r>>=λ_=>pure r) Q E e) E s₂:=by rw[n o i];exact wpAny_operating (bF d (λr e j=>aa (wpAny_letTemporaryGo (ar j))) λ_ _ x=>x)
 first
  |exact ar (aa f)
  |exact aa (ar (aa f))
  |exact aa f
theorem Ci{y:V}{o:Option V}(I:fD X pins σ H s)(g:tf H a y o):s.TypeIs (.ref a) "dict":=by
 rcases g with ⟨c,k,e,_,_⟩ | ⟨c,k,b,e,_,_,_⟩
 ·obtain⟨_,_,h,_,d⟩:=vf I.iY e;exact d.typeIs
 ·obtain⟨_,_,f,_,d⟩:=wC I.iY e;exact d.typeIs
def T7(d c:TE):TE:=λσ H Q=>d σ H λx e=>c σ e λy b=>∃a v,x=.ref a/\tf b a y (Y v)/\Q v b
section
variable {o i value:Expr}{pos' Ww:Pos}{td ty tv:TE}
theorem Gs(m:X.A.units+1<cLine)(p:PE X o td)(q:PE X i ty)(n:EC i):PE X (.Subscript o i pos) (T7 td ty):=by intro b s σ H Q I h;refine Gr PySem.F.slot_dict_getitem.lookup n (iP (@p b s σ H _ I h) λu e ⟨x,B,w,j,l⟩=>iP (@q b e σ B _ w l) λG E ⟨y,z,d,f,a,v,r,g,k⟩=>?_);subst r;obtain rfl:u=Value.ref a:=j;exact⟨Ci d g,HS m d g f λC D t c=>⟨v,z,t,c,k⟩⟩
end
theorem JQ{P:Program}(h:Heap)(a:sysModules<h.objs.size):jh P w H (h.push { cls:=.type "dict",data:=.dict #[] }) h.objs.size (.dK []) :=
 ⟨dH _,aY.mpr (Ne.symm (aN a)),[],.nil,Heap.DictOf.new h⟩
def Ra:TE:=λ_ H Q=>∀p,H p=Z->Q (.ref p) (upd H p (.dK []))
section
theorem JR:PE X (.Dict [] [] pos) Ra:=λb s σ H Q I h=>
 wpAny_Dict_empty ⟨.ref (zB s),_,I.laid (a:=(zB s)) (o:=.dK []) (t':=s.toks) (λ_ _ q=>af _ q) (aH _) (JQ s.heap I.big),rfl,h _ (I.iY.fresh (aH _))⟩
end
structure M1 (X:Cx) (o:Expr) (m:Str) (apos:Pos) (e:Expr) (gQ:Pos):Prop where
 base:attributeBase o m X.env (eval o X.env)=eval o X.env
 WJ:((backTo gQ (starEach [e] X.env)).all (λx=>!x.1)&&(backToKw gQ (keywordEach [] X.env)).all (λx=>x.1.isSome)
 &&decide (([e]:Lx).length+([]:List Keyword).length+(if ([]:List Keyword).isEmpty then 0 else 1)<30))=true
 line:(apos.endLine==gQ.line)=true
 trees:backTo gQ (starEach [e] X.env)=[(false,eval e X.env)]
structure M2 (X:Cx) (o:Expr) (m:Str) (apos:Pos) (e f:Expr) (gQ:Pos):Prop where
 base:attributeBase o m X.env (eval o X.env)=eval o X.env
 WJ:((backTo gQ (starEach [e,f] X.env)).all (λx=>!x.1)&&(backToKw gQ (keywordEach [] X.env)).all (λx=>x.1.isSome)
 &&decide (([e,f]:Lx).length+([]:List Keyword).length+(if ([]:List Keyword).isEmpty then 0 else 1)<30))=true
 line:(apos.endLine==gQ.line)=true
 trees:backTo gQ (starEach [e,f] X.env)=[(false,eval e X.env),(false,eval f X.env)]
def PU(H:Hp)(a:Addr):Prop:=(∃b,Rd H a (.dK b))\/∃b,Rd H a (.dT b)
theorem JS(I:fD X pins σ H s)(d:PU H a):
  s.TypeIs (.ref a) "dict"/\(∀b,Value.ref a=.ref b->∃c,s.heap.get? b=Y c/\c.dict=Z)/\(a==sysModules)=false:=by
 rcases d with ⟨g,e⟩ | ⟨g,e⟩
 ·obtain⟨_,h,l,_,f⟩:=vf I.iY e;refine⟨f.typeIs,λb q=>?_,h⟩;cases q;obtain⟨c,_,_,j,i,_⟩:=f;exact⟨c,j,i.2.1⟩
 ·obtain⟨_,h,k,_,f⟩:=wC I.iY e;refine⟨f.typeIs,λb q=>?_,h⟩;cases q;obtain⟨c,_,_,j,i,_⟩:=f;exact⟨c,j,i.2.1⟩
section
variable {y d:V}{r:Value}{o:Option V}
theorem Rb{Q:Px}(p:A.units+1<cLine)(I:fD X pins σ H s)(g:tf H a y o)(m:gv y u)(h:∀w' s',fD X pins σ H s'->gv (o.getD .lP) w'->Q w' s'):
  wpAny (model X.prog X.w) A (call (.builtin "dict.get") [.ref a,u]) Q E s:=by
 rcases g with ⟨f,k,e,j,l⟩ | ⟨f,k,b,e,j,q,l⟩
 ·subst j;obtain⟨z,i,r,c,d⟩:=vf I.iY e;refine call_meetsIn cj d.typeIs de (cW _ _) (meets_dict_get (gL X.prog X.w) a (qF m) i) ⟨_,d.mapOf,h _ _ (I.tok _) ?_⟩;rw[l];exact(c.val k).getD rfl
 ·subst j;cases (show u=Value.ref b from m);obtain⟨z,i,n,c,d⟩:=wC I.iY e;refine call_meetsIn cj d.typeIs de (cW _ _) (meetsH_dict_get (tupleKind (gL X.prog X.w)) a b i) ⟨cH p,k,n,ux I.iY q,d,h _ _ (I.tok _) ?_⟩;rw[l];exact(c.val k).getD rfl
end
def Rc(e d:TE):TE:=λσ H Q=>e σ H λx c=>∃a,x=.ref a/\PU c a/\d σ c λy b=>∃o,tf b a y o/\Q (o.getD .lP) b
section
variable {o f:Expr}{apos gQ:Pos}{td ty tx:TE}
theorem JT(r:X.A.units+1<cLine)(t:PE X o td)(v:PE X e ty)(m:M1 X o "get" apos e gQ):PE X (.Call (.Attribute o "get" apos) [e] [] gQ) (Rc td ty):=by intro b s σ H Q I h;refine wpAny_Call_method m.base m.WJ m.line eG cj eW (iP (@t b s σ H _ I h) λu k ⟨x,D,f,n,a,w,d,q⟩=>?_);subst w;obtain rfl:u=Value.ref a:=n;obtain⟨j,i,_⟩:=JS f d;refine⟨j,i,?_⟩;rw[m.trees];refine cG rfl (dM (bL (iP (@v b k σ D _ f q) λK G ⟨y,C,B,l,J,g,p⟩=>bQ ?_)));exact Rb r B g l λE F z c=>⟨_,C,z,c,p⟩
end
section
variable {kF:List (Key×V)}
end
section
variable {y:V}
end
section
theorem HW:ji X (.builtin "len") (λxs H Q=>∃a b,xs=[V.ref a]/\H a=Y (.dK b)/\Q (.int b.length) H):=by intro c s σ H xs g Q I r h;obtain⟨a,b,rfl,e,q⟩:=h;obtain⟨u,rfl,d⟩:=wA r;cases d;exact T6 I (.inl e) λt i f=>⟨.int b.length,H,f,⟨t,rfl⟩,q⟩
end
section
variable {κ:Type} [DecidableEq κ]
end
noncomputable def jT:Key->fe
 |.inl i=>.int i
 |.inr x=>.str x
theorem JU{a b:Key}(h:jT a=jT b):a=b:=by cases a<;>cases b<;>simp[jT] at h<;>rw[h]
def mz(K:Fg)(c:Str)(C:Addr):Prop:=W.nsIn K mainGlobals c=Y (Y (.ref C))
theorem mz.uniq{K:Fg}{b:Addr}(h:mz K c C)(a:mz K c b):C=b:=by unfold mz at h a;rw[h] at a;cases a;rfl
mutual
def fv (K:Fg) (H:Hp):fe->V->Prop
  |.none,v=>v=.lP
  |.bool b,v=>v=.bl b
  |.int i,v=>v=.int i
  |.str x,v=>v=.str x
  |.list xs,v=>∃p vs,v=.ref p/\o8 K H p vs/\dt K H xs vs
  |.tuple xs,v=>∃p vs,v=.ref p/\rS K H p vs/\dt K H xs vs
  |.dict kF,v=>∃p,v=.ref p/\((∃kv,H p=Y (.dK kv)/\gA K H kF kv)\/∃c C dx fs,mz K c C/\H p=Y (.ins C dx fs)/\pH K H c kF fs)
def dt (K:Fg) (H:Hp):Lp->List V->Prop
  |[],vs=>vs=[]
  |d::ds,vs=>∃v r,vs=v::r/\fv K H d v/\dt K H ds r
def gA (K:Fg) (H:Hp):List (fe×fe)->List (Key×V)->Prop
  |[],kv=>kv=[]
  | (k,d)::r,kv=>∃y v r',kv=(y,v)::r'/\k=jT y/\fv K H d v/\gA K H r r'
def pH (K:Fg) (H:Hp) (c:Str):List (fe×fe)->List (Str×V)->Prop
  |[],_=>False
  | (k,d)::r,fs=>k=.none/\d=.str c/\kG K H r fs
def kG (K:Fg) (H:Hp):List (fe×fe)->List (Str×V)->Prop
  |[],fs=>fs=[]
  | (k,d)::r,fs=>∃y v r',fs=(y,v)::r'/\k=.str y/\fv K H d v/\kG K H r r'
end
theorem fJ.Cj{K:Fg}{c:Hp}{b:List V}(e:fJ H c)(h:rS K H a b):rS K c a b:=by
 rcases h with (h | ⟨o,h⟩)|h
 ·exact .inl (.inl (e _ _ h))
 ·exact .inl (.inr ⟨o,e _ _ h⟩)
 ·exact .inr h
mutual
theorem fv.same {K:Fg}{H H':Hp} (e:fJ H H'):∀{d:fe}{v:V},fv K H d v->fv K H' d v
  |.none,_,h=>by unfold fv at h ⊢;exact h
  |.bool _,_,h=>by unfold fv at h ⊢;exact h
  |.int _,_,h=>by unfold fv at h ⊢;exact h
  |.str _,_,h=>by unfold fv at h ⊢;exact h
  |.list _,_,h=>by
    unfold fv at h ⊢
    obtain⟨p,vs,e1,e2,e3⟩:=h
    exact⟨p,vs,e1,e.seq e2,dt.same e e3⟩
  |.tuple _,_,h=>by
    unfold fv at h ⊢
    obtain⟨p,vs,e1,e2,e3⟩:=h
    exact⟨p,vs,e1,e.Cj e2,dt.same e e3⟩
  |.dict _,_,h=>by
    unfold fv at h ⊢
    obtain⟨p,e1,⟨kv,e2,e3⟩ | ⟨c,C,dx,fs,e2,e3,e4⟩⟩:=h
    · exact⟨p,e1,.inl ⟨kv,e _ _ e2,gA.same e e3⟩⟩
    · exact⟨p,e1,.inr ⟨c,C,dx,fs,e2,e _ _ e3,pH.same e e4⟩⟩
theorem dt.same {K:Fg}{H H':Hp} (e:fJ H H'):∀{ds:Lp}{vs:List V},dt K H ds vs->dt K H' ds vs
  |[],_,h=>by unfold dt at h ⊢;exact h
  |_::_,_,h=>by
    unfold dt at h ⊢
    obtain⟨v,r,e1,e2,e3⟩:=h
    exact⟨v,r,e1,fv.same e e2,dt.same e e3⟩
theorem gA.same {K:Fg}{H H':Hp} (e:fJ H H'):∀{ds:List (fe×fe)}{kv:List (Key×V)},gA K H ds kv->gA K H' ds kv
  |[],_,h=>by unfold gA at h ⊢;exact h
  | (_,_)::_,_,h=>by
    unfold gA at h ⊢
    obtain⟨y,v,r,e1,e2,e3,e4⟩:=h
    exact⟨y,v,r,e1,e2,fv.same e e3,gA.same e e4⟩
theorem pH.same {K:Fg}{H H':Hp}{c:Str} (e:fJ H H'):∀{ds:List (fe×fe)}{fs:List (Str×V)},pH K H c ds fs->pH K H' c ds fs
  |[],_,h=>by unfold pH at h ⊢;exact h
  | (_,_)::_,_,h=>by
    unfold pH at h ⊢
    exact⟨h.1,h.2.1,kG.same e h.2.2⟩
theorem kG.same {K:Fg}{H H':Hp} (e:fJ H H'):∀{ds:List (fe×fe)}{fs:List (Str×V)},kG K H ds fs->kG K H' ds fs
  |[],_,h=>by unfold kG at h ⊢;exact h
  | (_,_)::_,_,h=>by
    unfold kG at h ⊢
    obtain⟨y,v,r,e1,e2,e3,e4⟩:=h
    exact⟨y,v,r,e1,e2,fv.same e e3,kG.same e e4⟩
end
section
variable {K:Fg}
theorem fv.jk:fv K H .none v↔v=.lP:=by unfold fv;exact dG
theorem fv.fT{b:Bool}:fv K H (.bool b) v↔v=.bl b:=by unfold fv;exact dG
theorem fv.fG{i:Int}:fv K H (.int i) v↔v=.int i:=by unfold fv;exact dG
theorem fv.f6:fv K H (.str x) v↔v=.str x:=by unfold fv;exact dG
theorem fv.fY{a:Lp}:fv K H (.list a) v↔∃p b,v=.ref p/\o8 K H p b/\dt K H a b:=by unfold fv;exact dG
theorem fv.nM{a:Lp}:fv K H (.tuple a) v↔∃p b,v=.ref p/\rS K H p b/\dt K H a b:=by unfold fv;exact dG
theorem fv.iF{a:Lp}(h:fv K H (.tuple a) v):∃p b,v=.ref p/\rS K H p b/\dt K H a b:=fv.nM.mp h
theorem fv.nN:fv K H (.dict kF) v↔∃p,v=.ref p/\((∃a,H p=Y (.dK a)/\gA K H kF a)\/∃c C d b,mz K c C/\H p=Y (.ins C d b)/\pH K H c kF b):=by unfold fv;exact dG
theorem gA.fQ{a:List (Key×V)}:gA K H [] a↔a=[]:=by unfold gA;exact dG
theorem gA.fH{k:fe}{b:List (Key×V)}:gA K H ((k,d)::r) b↔∃y v a,b=(y,v)::a/\k=jT y/\fv K H d v/\gA K H r a:=by
 constructor
 ·intro h;unfold gA at h;exact h
 ·intro h;unfold gA;exact h
theorem kG.fQ{a:List (Str×V)}:kG K H [] a↔a=[]:=by unfold kG;exact dG
theorem kG.fH{k:fe}{b:List (Str×V)}:kG K H ((k,d)::r) b↔∃y v a,b=(y,v)::a/\k=.str y/\fv K H d v/\kG K H r a:=by
 constructor
 ·intro h;unfold kG at h;exact h
 ·intro h;unfold kG;exact h
theorem pH.fH{k:fe}{a:List (Str×V)}:pH K H c ((k,d)::r) a↔k=.none/\d=.str c/\kG K H r a:=by
 constructor
 ·intro h;unfold pH at h;exact h
 ·intro h;unfold pH;exact h
theorem pH.fQ{a:List (Str×V)}:pH K H c [] a↔False:=by unfold pH;exact dG
theorem dt.fQ:dt K H [] vs↔vs=[]:=by unfold dt;exact dG
theorem dt.fH:dt K H (d::ds) vs↔∃v r,vs=v::r/\fv K H d v/\dt K H ds r:=by
 constructor
 ·intro h;unfold dt at h;exact h
 ·intro h;unfold dt;exact h
theorem dt.nil:dt K H [] []:=dt.fQ.mpr rfl
theorem dt.cons{d:fe}{ds:Lp}(h:fv K H d v)(t:dt K H ds vs):dt K H (d::ds) (v::vs):=dt.fH.mpr ⟨v,vs,rfl,h,t⟩
theorem dt.length{ds:Lp}(h:dt K H ds vs):ds.length=vs.length:=by
 induction ds generalizing vs with
 |nil=>rw[dt.fQ.mp h];rfl
 |cons d ds a=>obtain⟨v,r,rfl,_,t⟩:=dt.fH.mp h;simp[a t]
theorem dt.get(h:dt K H ds vs)(e:ds[i]?=Y d):∃v,vs[i]?=Y v/\fv K H d v:=by
 induction ds generalizing vs i with
 |nil=>simp at e
 |cons g ds a=>
  obtain⟨v,r,rfl,b,t⟩:=dt.fH.mp h;cases i with
  |zero=>simp at e;subst e;exact⟨v,rfl,b⟩
  |succ i=>obtain⟨u,f,c⟩:=a t (by simpa using e);exact⟨u,by simpa using f,c⟩
theorem dt.get'(h:dt K H ds vs)(e:vs[i]?=Y v):∃d,ds[i]?=Y d/\fv K H d v:=by have f:=h.length;have g:i<vs.length:=(aM.mp e).1;have a:ds[i]?=Y ds[i]:=aO (by omega);obtain⟨u,b,c⟩:=h.get a;rw[e] at b;cases b;exact⟨_,a,c⟩
theorem dt.append{b:Lp}{a:List V}(h:dt K H ds vs)(t:dt K H b a):dt K H (ds++b) (vs++a):=by
 induction ds generalizing vs with
 |nil=>rw[dt.fQ.mp h];exact t
 |cons d ds e=>obtain⟨v,r,rfl,f,c⟩:=dt.fH.mp h;exact dt.cons f (e c)
theorem dt.take{ds:Lp}(n:Nat)(h:dt K H ds vs):dt K H (ds.take n) (vs.take n):=by
 induction ds generalizing vs n with
 |nil=>rw[dt.fQ.mp h];simp;exact dt.nil
 |cons d ds b=>
  obtain⟨v,r,rfl,c,a⟩:=dt.fH.mp h;cases n with
  |zero=>simp;exact dt.nil
  |succ n=>simp only[List.take_succ_cons];exact dt.cons c (b n a)
theorem dt.drop{a:Lp}(n:Nat)(h:dt K H a vs):dt K H (a.drop n) (vs.drop n):=by
 induction a generalizing vs n with
 |nil=>rw[dt.fQ.mp h];simp;exact dt.nil
 |cons d a c=>
  obtain⟨v,r,rfl,e,b⟩:=dt.fH.mp h;cases n with
  |zero=>exact h
  |succ n=>simp only[List.drop_succ_cons];exact c n b
end
section
mutual
theorem fD.pI (I:fD X pins σ H s):∀{d:fe}{v:V}{u:Value},d.canLay0=true->fv X.K H d v->gv v u->∃as,Reads s.heap u d as
  |.none,_,_,_,h,r=>by rw[fv.jk.mp h] at r;cases r;exact⟨_,.none⟩
  |.bool b,_,_,_,h,r=>by rw[fv.fT.mp h] at r;cases r;exact⟨_,.bool b⟩
  |.int i,_,_,_,h,r=>by rw[fv.fG.mp h] at r;obtain⟨t,rfl⟩:=r;exact⟨_,.int i t⟩
  |.str x,_,_,_,h,r=>by rw[fv.f6.mp h] at r;obtain⟨t,rfl⟩:=r;exact⟨_,.str x t⟩
  |.list xs,_,_,hc,h,r=>by
    obtain⟨p,vs,rfl,e2,e3⟩:=fv.fY.mp h
    cases r
    obtain⟨its,rv,⟨o,n,e,c,_,dd⟩,_⟩:=I.list e2
    obtain⟨as,ra⟩:=fD.Az I (by simpa [fe.canLay0] using hc) e3 rv
    exact⟨_,.list e c dd (by simpa using ra)⟩
  |.tuple xs,_,_,hc,h,r=>by
    obtain⟨p,vs,rfl,e2,e3⟩:=h.iF
    cases r
    obtain⟨its,rv,⟨o,e,c,n,dd⟩,_⟩:=I.tuple e2
    obtain⟨as,ra⟩:=fD.Az I (by simpa [fe.canLay0] using hc) e3 rv
    exact⟨_,.tuple e c dd (by simpa using ra)⟩
  |.dict _,_,_,hc,_,_=>by simp[fe.canLay0] at hc
theorem fD.Az (I:fD X pins σ H s):∀{ds:Lp}{vs:List V}{us:Lw},fe.canLayAll0 ds=true->dt X.K H ds vs->f7 vs us->∃as,ReadsAll s.heap us ds as
  |[],_,_,_,h,r=>by rw[dt.fQ.mp h] at r;cases r;exact⟨_,.nil⟩
  |d::ds,_,_,hc,h,r=>by
    have To:d.canLay0=true/\fe.canLayAll0 ds=true:=by simpa [fe.canLayAll0] using hc
    obtain⟨v,rr,rfl,h1,t⟩:=dt.fH.mp h
    cases r with
    |cons r1 r2=>
      obtain⟨as,ra⟩:=fD.pI I To.1 h1 r1
      obtain⟨bs,rb⟩:=fD.Az I To.2 t r2
      exact⟨_,.cons ra rb⟩
end
end
abbrev c5:=List (Option fe)
def jE(K:Fg)(H:Hp)(σ:St)(ρ:c5):Prop:=σ.length=ρ.length/\∀(i:Nat) (d:fe),ρ[i]?=Y (Y d)->∃v,σ[i]?=Y (Y v)/\fv K H d v
theorem jE.same{K:Fg}{H c:Hp}{σ:St}{ρ:c5}(h:jE K H σ ρ)(e:fJ H c):jE K c σ ρ :=
 ⟨h.1,λi d q=>let ⟨v,a,b⟩:=h.2 i d q;⟨v,a,b.same e⟩⟩
theorem jE.set{K:Fg}{H:Hp}{σ:St}{ρ:c5}{i:Nat}{d:fe}{v:V}(h:jE K H σ ρ)(e:fv K H d v):jE K H (σ.set i (Y v)) (ρ.set i (Y d)):=by
 refine⟨by simpa using h.1,λj d' q=>?_⟩;by_cases c:j=i
 ·subst c;have f:j<ρ.length:=by
   have:=(aM.mp q).1;simpa using this
  rw[aL f] at q;cases q;exact⟨v,by rw[aL (by rw[h.1];exact f)],e⟩
 ·rw[ax (Ne.symm c)] at q;obtain⟨u,a,b⟩:=h.2 j d' q;exact⟨u,by rw[ax (Ne.symm c)];exact a,b⟩
def KD(K:Fg)(H:Hp)(d:fe)(Q:VK):Prop:=∀v a,fJ H a->fv K a d v->Q v a
theorem KD.here{K:Fg}{Q:VK}(k:KD K H d Q)(h:fv K H d v):Q v H:=k v H (.refl H) h
theorem KD.later{K:Fg}{a:Hp}{Q:VK}(k:KD K H d Q)(e:fJ H a):KD K a d Q:=λv c b i=>k v c (e.trans b) i
def tD(K:Fg)(f:c5->Od):TE:=λσ H Q=>∃ρ d,jE K H σ ρ/\f ρ=Y d/\KD K H d Q
def PD(X:Cx)(e:Expr)(f:c5->Od):Prop:=PE X e (tD X.K f)
def WK(K:Fg)(f:c5->Option Bool):TT:=λσ H Q=>∃ρ b,jE K H σ ρ/\f ρ=Y b/\∀a,fJ H a->Q b a
def Ea(X:Cx)(e:Expr)(f:c5->Option Bool):Prop:=PT X e (WK X.K f)
def Ym(K:Fg)(f:c5->Option Lp):TA:=λσ H Q=>∃ρ c,jE K H σ ρ/\f ρ=Y c/\∀b a,fJ H a->dt K a c b->Q b a
def BZ(X:Cx)(a:Lx)(f:c5->Option Lp):Prop:=PA X a (Ym X.K f)
inductive Out where
 |nx (ρ:c5)|rt (d:fe)|bk (ρ:c5)|ct (ρ:c5)
theorem PE.imp{t u:TE}(h:PE X e t)(k:∀σ H Q,u σ H Q->t σ H Q):PE X e u:=λa s σ H Q I q=>@h a s σ H Q I (k σ H Q q)
theorem PT.imp{t u:TT}(h:PT X e t)(k:∀σ H Q,u σ H Q->t σ H Q):PT X e u:=λa s σ H Q I q=>@h a s σ H Q I (k σ H Q q)
theorem PA.imp{e:Lx}{t u:TA}(h:PA X e t)(k:∀σ H Q,u σ H Q->t σ H Q):PA X e u:=λp a s σ H Q I q=>@h p a s σ H Q I (k σ H Q q)
theorem PS.imp{e:Stmt}{t u:TS}(h:PS X e t)(k:∀D σ H,u D σ H->t D σ H):PS X e u:=λa s σ H D I q=>@h a s σ H D I (k D σ H q)
theorem yj.imp{e:List Stmt}{t u:TS}(h:yj X e t)(k:∀D σ H,u D σ H->t D σ H):yj X e u:=λa s σ H D I q=>@h a s σ H D I (k D σ H q)
theorem lO.imp{f:Value->Value->Sem Value}{r b:R2}(h:lO X f r)(k:∀x y H Q,b x y H Q->r x y H Q):lO X f b:=λa s σ H x y v u Q I d c q=>@h a s σ H x y v u Q I d c (k _ _ _ _ q)
theorem Gm.imp{r d:R2}(h:Gm X r)(k:∀x y H Q,d x y H Q->r x y H Q):Gm X d:=λa b c s σ H x y v u Q I g f q e=>h a b c s σ H x y v u Q I g f (k _ _ _ _ q) e
theorem ji.imp{f:Value}{r b:List V->Hp->VK->Prop}(h:ji X f r)(k:∀xs H Q,b xs H Q->r xs H Q):ji X f b:=λa s σ H xs c Q I d q=>@h a s σ H xs c Q I d (k _ _ _ q)
end L2
variable  {o:Option L2.Out}{f:L2.c5->Od}{g:L2.c5->Option Bool}{ρ:L2.c5}{ff q:L2.c5->Option Lp}
namespace L2
open PySem PySem.Spec PyProof.Rows
section
variable {a b c:Expr}{fa fb fc:c5->Od}
noncomputable def bb(i:Nat):c5->Od:=λρ=>(ρ[i]?).join
theorem ba(i:Nat) (g:X.N[i]?=Y x:=by rfl) (b:BY X.env.scope x:=by first|exact cg rfl|exact bP (cg rfl)|exact bP (bP rfl)) (f:zg x:=by decide)
  (a:(x==("__classdict__":Str))=false:=by decide):PD X (.Name x pos) (bb i):=by
 refine PE.imp (nK g b f a) λσ H Q ⟨ρ,d,c,e,k⟩=>?_;have l:ρ[i]?=Y (Y d):=by
  unfold bb at e;cases q:ρ[i]? with
  |none=>rw[q] at e;cases e
  |some o=>rw[q] at e;cases o with
   |none=>cases e
   |some m=>cases e;rfl
 obtain⟨v,j,h⟩:=c.2 i d l;exact⟨v,j,k.here h⟩
noncomputable def dC(d:fe):c5->Od:=λ_=>Y d
theorem c0{i j}:PD X (.Constant (.int i) j pos) (dC (.int i)):=PE.imp QE λσ H Q ⟨_,d,_,e,k⟩=>by cases e;exact k.here (fv.fG.mpr rfl)
theorem kH{i j}:PD X (.Constant (.bool i) j pos) (dC (.bool i)):=PE.imp Tr λσ H Q ⟨_,d,_,e,k⟩=>by cases e;exact k.here (fv.fT.mpr rfl)
theorem nO{j}:PD X (.Constant .none j pos) (dC .none):=PE.imp QF λσ H Q ⟨_,d,_,e,k⟩=>by cases e;exact k.here (fv.jk.mpr rfl)
theorem c6{x j}:PD X (.Constant (.str x) j pos) (dC (.str x)):=PE.imp Ji λσ H Q ⟨_,d,_,e,k⟩=>by cases e;exact k.here (fv.f6.mpr rfl)
def WL(K:Fg)(g:fe->fe->Od):R2:=λx y H Q=>∃a b c,fv K H a x/\fv K H b y/\g a b=Y c/\KD K H c Q
def ti(X:Cx)(f:Value->Value->Sem Value)(g:fe->fe->Od):Prop:=lO X f (WL X.K g)
def d2(g:fe->fe->Od)(b a:c5->Od):c5->Od:=λρ=>(b ρ).bind λx=>(a ρ).bind λy=>g x y
theorem bind_some{β:Type}{o:Option α}{k:α->Option β}{b:β}(h:o.bind k=Y b):∃a,o=Y a/\k a=Y b:=by
 cases o with
 |none=>cases h
 |some a=>exact⟨a,rfl,h⟩
theorem VA{K:Fg}{g:fe->fe->Od}{Q:VK}(h:tD K (d2 g fa fb) σ H Q):TF (WL K g) (tD K fa) (tD K fb) σ H Q:=by obtain⟨ρ,d,c,e,k⟩:=h;obtain⟨x,l,e⟩:=bind_some e;obtain⟨y,j,e⟩:=bind_some e;exact⟨ρ,x,c,l,λv n b i=>⟨ρ,y,c.same b,j,λu m a f=>⟨x,y,d,i.same a,f,e,k.later (b.trans a)⟩⟩⟩
theorem fq{c:Operator}{g:fe->fe->Od}(d:ti X (binaryOp c) g)(f:PD X a fa)(e:PD X b fb):PD X (.BinOp a c b pos) (d2 g fa fb) :=
 PE.imp (Jt d f e) λ_ _ _ h=>VA h
theorem Rf{c:CmpOp}{g:fe->fe->Od}(d:ti X (compareOp c) g)(i:PD X a fa)(f:PD X b fb)(e:behindInMarks c b=false):PD X (.Compare a [c] [b] pos) (d2 g fa fb) :=
 PE.imp (MW d i f e) λ_ _ _ h=>VA h
def Yn(X:Cx)(g:fe->fe->Od):Prop:=Gm X (WL X.K g)
theorem T8{g:fe->fe->Od}(d:Yn X g)(f:PD X a fa)(e:PD X b fb)(c:sX b):PD X (.Subscript a b pos) (d2 g fa fb) :=
 PE.imp (PQ d f e c) λ_ _ _ h=>VA h
noncomputable def dI(C:Int->Int->Bool)(g:Int->Int->fe):fe->fe->Od
 |.int i,.int j=>if C i j then Y (g i j) else Z
 |_,_=>Z
theorem AA{C:Int->Int->Bool}{g:Int->Int->fe}{x y:fe}(h:dI C g x y=Y d):∃i j,x=.int i/\y=.int j/\C i j=true/\d=g i j:=by
 cases x<;>cases y<;>try (simp[dI] at h;done)
 rename_i i j;dsimp only[dI] at h;by_cases a:C i j=true
 ·rw[ai a] at h;cases h;exact⟨i,j,rfl,rfl,a,rfl⟩
 ·rw[ao a] at h;cases h
theorem JV{f:Value->Value->Sem Value}{P:Int->Int->Prop}{C:Int->Int->Bool}{g:Int->Int->Int}(h:lO X f (rI P λi j=>.int (g i j)))(n:∀i j,C i j=true->P i j):ti X f (dI C λi j=>.int (g i j)) :=
 lO.imp h λx y H Q ⟨a,b,d,m,l,e,k⟩=>by obtain⟨i,j,rfl,rfl,c,rfl⟩:=AA e;exact⟨i,j,fv.fG.mp m,fv.fG.mp l,n i j c,k.here (fv.fG.mpr rfl)⟩
theorem Rh{f:Value->Value->Sem Value}{g:Int->Int->Int}(h:lO X f (My λi j=>.int (g i j))):ti X f (dI (λ_ _=>true) λi j=>.int (g i j)) :=
 lO.imp h λx y H Q ⟨a,b,d,m,l,e,k⟩=>by obtain⟨i,j,rfl,rfl,c,rfl⟩:=AA e;exact⟨i,j,fv.fG.mp m,fv.fG.mp l,k.here (fv.fG.mpr rfl)⟩
theorem AB{f:Value->Value->Sem Value}{g:Int->Int->Bool}(h:lO X f (My λi j=>.bl (g i j))):ti X f (dI (λ_ _=>true) λi j=>.bool (g i j)) :=
 lO.imp h λx y H Q ⟨a,b,d,m,l,e,k⟩=>by obtain⟨i,j,rfl,rfl,c,rfl⟩:=AA e;exact⟨i,j,fv.fG.mp m,fv.fG.mp l,k.here (fv.fT.mpr rfl)⟩
def kP(i:Int):Bool:=decide (Builtin.Int.intBits i<=2 ^ 20)
theorem Nd:lO X (binaryOp .Mult) (rI (λi j=>kP i=true/\kP j=true) λi j=>.int (i*j)):=Wt λ_ _ _ _ _ _ _ a q=>mul_int q (.of_bits (of_decide_eq_true a.1) (of_decide_eq_true a.2))
noncomputable def rT:=dI (λ_ _=>true) λi j=>.int (i - j)
noncomputable def Ri:=dI (λi j=>kP i&&kP j) λi j=>.int (i*j)
noncomputable def ym:=dI (λ_ j=>decide (0<j)&&decide (j<1073741824)) λi j=>.int (i / j)
noncomputable def gq:=dI (λ_ j=>decide (0<j)) λi j=>.int (i % j)
theorem wD:ti X (binaryOp .Sub) rT:=Rh QQ
theorem Rj:ti X (binaryOp .Mult) Ri:=JV Nd λi j h=>by simpa using h
theorem ED:ti X (binaryOp .FloorDiv) ym:=JV MU λi j h=>by simpa [TK] using h
theorem gk:ti X (binaryOp .Mod) gq:=JV QR λi j h=>by simpa using h
def yg:=dI (λ_ _=>true) λi j=>.bool (decide (i<j))
def VB:=dI (λ_ _=>true) λi j=>.bool (decide (i<=j))
def wF:=dI (λ_ _=>true) λi j=>.bool (decide (j<i))
def WM:=dI (λ_ _=>true) λi j=>.bool (decide (j<=i))
theorem wG:ti X (compareOp .Lt) yg:=AB TL
theorem T9:ti X (compareOp .LtE) VB:=AB TM
theorem vg:ti X (compareOp .Gt) wF:=AB TN
theorem Ua:ti X (compareOp .GtE) WM:=AB TQ
def Ub(K:Fg):R2:=λx y H Q=>∃l b c a,x=.ref l/\y=.ref b/\o8 K H l c/\o8 K H b a/\c.length+a.length<=sizeLine/\∀p,H p=Z->Q (.ref p) (upd H p (.lst (c++a)))
theorem Gu:lO X (binaryOp .Add) (Ub X.K):=by
 intro p s σ H x y v u Q I E D h;obtain⟨l,b,R,P,rfl,rfl,L,M,S,q⟩:=h;cases E;cases D;obtain⟨c,r,G,_⟩:=I.list L;obtain⟨a,o,j,_⟩:=I.list M;have U:=r.length;have T:=o.length;obtain⟨⟨O,N,A,C⟩,n,t,z,_,w⟩:=G;obtain⟨⟨B,k,m,i⟩,J,d,g,_,f⟩:=j;simp only at z w g f;subst z w g f;have e:c.toArray++a.toArray=(c++a).toArray:=by simp
 refine eN ⟨_,t,rfl⟩ ⟨_,d,rfl⟩ noFill_list_add seq_list_add PySem.F.slot_list_add PySem.F.entry_list_add (PySem.F.args_list_add_2 _ _) (list_addW l b c.toArray a.toArray n J N k C i (by simp;omega)) ⟨t,d,?_⟩;rw[e];exact⟨.ref _,_,I.Q7 (t':=s.toks) (r.append o) (by rw[aB];omega),rfl,q _ I.fresh⟩
theorem Nf:lO X (binaryOp .Add) (λx y H Q=>∃l b o,x=.ref l/\y=.ref b/\rS X.K H l []/\rS X.K H b o/\Q (.ref b) H):=by
 intro p s σ H x y v u Q I E D h;obtain⟨l,b,o,rfl,rfl,J,L,q⟩:=h;cases E;cases D;obtain⟨d,r,F,_⟩:=I.tuple J;obtain⟨c,R,j,_⟩:=I.tuple L;have M:=r.length;obtain⟨⟨P,O,A,C⟩,t,z,n,w⟩:=F;obtain⟨⟨B,k,m,i⟩,e,g,G,f⟩:=j;simp only at z w g f;subst z w g f;have N:d=[]:=by cases d with
  |nil=>rfl
  |cons a r=>simp at M
 subst N;exact eN ⟨_,t,rfl⟩ ⟨_,e,rfl⟩ eD seq_tuple_add c9 cV (cS _ _) (tuple_addW0 l b #[] c.toArray n G O k C i rfl) ⟨t,e,⟨.ref b,H,I,rfl,q⟩⟩
theorem lg{p:Addr}{o:HO}(h:H p=Z):fJ H (upd H p o):=λb u e=>by rw[fK (gC e h)];exact e
theorem Cm{K:Fg}{p:Addr}(h:H p=Z)(e:dt K H ds vs):fv K (upd H p (.lst vs)) (.list ds) (.ref p) :=
 fv.fY.mpr ⟨p,vs,rfl,o8.of fX,e.same (lg h)⟩
theorem JW{K:Fg}{p:Addr}(h:H p=Z)(e:dt K H ds vs):fv K (upd H p (.tup vs)) (.tuple ds) (.ref p) :=
 fv.nM.mpr ⟨p,vs,rfl,rS.of fX,e.same (lg h)⟩
theorem KD.wH{K:Fg}{Q:VK}(k:KD K H (.list ds) Q)(e:dt K H ds vs):∀p,H p=Z->Q (.ref p) (upd H p (.lst vs)):=λp h=>k _ _ (lg h) (Cm h e)
theorem KD.Ng{K:Fg}{Q:VK}(k:KD K H (.tuple ds) Q)(e:dt K H ds vs):∀p,H p=Z->Q (.ref p) (upd H p (.tup vs)):=λp h=>k _ _ (lg h) (JW h e)
noncomputable def fC:fe->fe->Od
 |.int i,.int j=>Y (.int (i+j))
 |.str x,.str y=>if x.length+y.length<=sizeLine then Y (.str (x++y)) else Z
 |.list xs,.list ys=>if xs.length+ys.length<=sizeLine then Y (.list (xs++ys)) else Z
 |.tuple xs,.tuple ys=>if xs.length+ys.length<=sizeLine then Y (.tuple (xs++ys)) else Z
 |_,_=>Z
theorem fP:ti X (binaryOp .Add) fC:=by
 refine lO.imp (QP.or (En.or (Gu.or (M7.or Nf)))) λx y H Q ⟨a,b,d,l,h,e,k⟩=>?_;cases a<;>cases b<;>try (simp[fC] at e;done)
 ·rename_i i j;cases e;exact .inl ⟨i,j,fv.fG.mp l,fv.fG.mp h,k.here (fv.fG.mpr rfl)⟩
 ·rename_i i j;dsimp only[fC] at e;by_cases c:i.length+j.length<=sizeLine
  ·rw[ai c] at e;cases e;exact .inr (.inl ⟨i,j,fv.f6.mp l,fv.f6.mp h,c,k.here (fv.f6.mpr rfl)⟩)
  ·rw[ao c] at e;cases e
 ·rename_i i j;dsimp only[fC] at e;by_cases c:i.length+j.length<=sizeLine
  ·rw[ai c] at e;cases e;obtain⟨p,r,rfl,m,f⟩:=fv.fY.mp l;obtain⟨q,n,rfl,o,g⟩:=fv.fY.mp h;exact .inr (.inr (.inl ⟨p,q,r,n,rfl,rfl,m,o,by rw[<-f.length,<-g.length];exact c,k.wH (f.append g)⟩))
  ·rw[ao c] at e;cases e
 ·rename_i i j;dsimp only[fC] at e;by_cases c:i.length+j.length<=sizeLine
  ·rw[ai c] at e;cases e;obtain⟨p,r,rfl,m,f⟩:=l.iF;obtain⟨q,n,rfl,o,g⟩:=h.iF;cases i with
   |nil=>rw[dt.fQ.mp f] at m;exact .inr (.inr (.inr (.inr ⟨p,q,n,rfl,rfl,m,o,k.here h⟩)))
   |cons t s=>
    refine .inr (.inr (.inr (.inl ⟨p,q,r,n,rfl,rfl,m,o,?_,by rw[<-f.length,<-g.length];exact c,λz=>?_,λz=>k.Ng (f.append g)⟩)))
    ·intro z;subst z;have:=f.length;simp at this
    ·subst z;have:j=[]:=by have:=g.length;cases j with
      |nil=>rfl
      |cons _ _=>simp at this
     subst this;rw[aF] at k;exact k.here l
  ·rw[ao c] at e;cases e
def iS:fe->fe->Od:=λa b=>if SeqAt.shaped a=true/\SeqAt.shaped b=true then Y (.bool (fe.eqv a b)) else Z
noncomputable def mK:fe->fe->Od:=λa b=>if SeqAt.shaped a=true/\SeqAt.shaped b=true then Y (.bool (!fe.eqv a b)) else Z
theorem gW(n:X.A.units+64<cLine):ti X (compareOp .Eq) iS:=by
 intro f s σ H x y v u Q I h g ⟨a,b,d,m,l,e,k⟩;unfold iS at e;by_cases c:SeqAt.shaped a=true/\SeqAt.shaped b=true
 ·rw[ai c] at e;cases e;obtain⟨p,j⟩:=I.pI (aT c.1) m h;obtain⟨o,i⟩:=I.pI (aT c.2) l g;exact eq_dataH j i c.1 c.2 n ⟨.bl _,H,I,rfl,k.here (fv.fT.mpr rfl)⟩
 ·rw[ao c] at e;cases e
theorem lh(n:X.A.units+64<cLine):ti X (compareOp .NotEq) mK:=by
 intro f s σ H x y v u Q I h g ⟨a,b,d,m,l,e,k⟩;unfold mK at e;by_cases c:SeqAt.shaped a=true/\SeqAt.shaped b=true
 ·rw[ai c] at e;cases e;obtain⟨p,j⟩:=I.pI (aT c.1) m h;obtain⟨o,i⟩:=I.pI (aT c.2) l g;exact ne_dataH j i c.1 c.2 n ⟨.bl _,H,I,rfl,k.here (fv.fT.mpr rfl)⟩
 ·rw[ao c] at e;cases e
noncomputable def VC:fe->fe->Od
 |.list xs,.int i=>rY xs i
 |.tuple xs,.int i=>rY xs i
 |.str z,.int i=>if z.length<=sizeLine then (rY z.cps.toList i).map λc=>.str ⟨#[c]⟩ else Z
 |_,_=>Z
theorem PY{K:Fg}{i:Int}(h:dt K H ds vs)(e:rY ds i=Y d):∃v,rY vs i=Y v/\fv K H d v:=by
 unfold rY at e ⊢;rw[<-h.length];cases q:Ap ds.length i with
 |none=>rw[q] at e;cases e
 |some j=>rw[q] at e;exact h.get e
theorem Zt:Yn X VC:=by
 refine Gm.imp Q3 λx y H Q ⟨a,b,d,j,h,e,k⟩=>?_;cases a<;>cases b<;>try (simp[VC] at e;done)
 ·rename_i z i;dsimp only[VC] at e;by_cases l:z.length<=sizeLine
  ·rw[ai l] at e;obtain⟨c,r,f⟩:=ak.mp e;subst f;exact .inr (.inr ⟨z,i,c,fv.f6.mp j,fv.fG.mp h,l,r,k.here (fv.f6.mpr rfl)⟩)
  ·rw[ao l] at e;cases e
 ·rename_i q i;obtain⟨p,g,rfl,f,o⟩:=fv.fY.mp j;obtain⟨v,n,m⟩:=PY o e;exact .inl ⟨p,g,i,v,rfl,fv.fG.mp h,f,n,k.here m⟩
 ·rename_i q i;obtain⟨p,g,rfl,f,o⟩:=j.iF;obtain⟨v,n,m⟩:=PY o e;exact .inr (.inl ⟨p,g,i,v,rfl,fv.fG.mp h,f,n,k.here m⟩)
noncomputable def EE:fe->Option Bool
 |.none=>Y false
 |.bool b=>Y b
 |.int i=>Y (i != 0)
 |.str y=>if y.length<=sizeLine then Y ((y.length:Int) != 0) else Z
 |.list xs=>Y (!xs.isEmpty)
 |.tuple xs=>Y (!xs.isEmpty)
 |.dict _=>Z
theorem wI{K:Fg}(h:dt K H ds vs):ds.isEmpty=vs.isEmpty:=by have:=h.length;cases ds<;>cases vs<;>first|rfl|(simp at this)
theorem JX{K:Fg}{k:Bool}(h:fv K H d v)(e:EE d=Y k):QV K v H k:=by
 cases d with
 |none=>rw[fv.jk.mp h];cases e;rfl
 |bool b=>rw[fv.fT.mp h];cases e;rfl
 |int i=>rw[fv.fG.mp h];cases e;rfl
 |str y=>
  rw[fv.f6.mp h];dsimp only[EE] at e;by_cases c:y.length<=sizeLine
  ·rw[ai c] at e;cases e;exact⟨c,rfl⟩
  ·rw[ao c] at e;cases e
 |list j=>obtain⟨p,a,rfl,g,f⟩:=fv.fY.mp h;cases e;exact .inl ⟨a,g,by rw[wI f]⟩
 |tuple j=>obtain⟨p,a,rfl,g,f⟩:=h.iF;cases e;exact .inr (.inl ⟨a,g,by rw[wI f]⟩)
 |dict _=>cases e
noncomputable def fB(f:c5->Od):c5->Option Bool:=λρ=>(f ρ).bind λd=>match d with | .bool b=>Y b|_=>Z
theorem Gv{b:Bool}(h:fB f ρ=Y b):f ρ=Y (.bool b):=by obtain⟨d,c,a⟩:=bind_some h;cases d<;>first|(cases a;exact c)|cases a
theorem Nh{c:CmpOp}{g:fe->fe->Od}(i:ti X (compareOp c) g)(m:PD X a fa)(l:PD X b fb)(j:behindInMarks c b=false):Ea X (.Compare a [c] [b] pos) (fB (d2 g fa fb)) :=
 PT.imp (Gg i m l j) λσ H Q ⟨ρ,b,h,e,k⟩=>
  VA ⟨ρ,.bool b,h,Gv e,λv n d f=>⟨b,fv.fT.mp f,k n d⟩⟩
def iT(f g:c5->Option Bool):c5->Option Bool:=λρ=>(f ρ).bind λx=>if x then g ρ else Y false
def Eb(f g:c5->Option Bool):c5->Option Bool:=λρ=>(f ρ).bind λx=>if x then Y true else g ρ
def tj(f:c5->Option Bool):c5->Option Bool:=λρ=>(f ρ).map (!·)
variable {ga gb gc:c5->Option Bool}{rest:Lx}
def Rl(X:Cx)(e:Expr)(f:c5->Option Bool):Prop:=PW X e (WK X.K f)
theorem PW.imp{t u:TT}(h:PW X e t)(k:∀σ H Q,u σ H Q->t σ H Q):PW X e u:=λb a s σ H Q I q=>@h b a s σ H Q I (k σ H Q q)
theorem hF(h:Ea X a ga):Rl X (.BoolOp .And [a] pos) ga:=MN h
theorem mZ(h:Ea X a ga):Rl X (.BoolOp .Or [a] pos) ga:=Jj h
theorem ic(i:Ea X a ga)(h:Rl X (.BoolOp .And (b::rest) pos) gb):Rl X (.BoolOp .And (a::b::rest) pos) (iT ga gb) :=
 PW.imp (QG i h) λσ H Q ⟨ρ,x,d,e,k⟩=>by
  obtain⟨y,j,f⟩:=bind_some e;refine⟨ρ,y,d,j,λm c=>?_⟩;cases y with
  |true=>rw[ai rfl];exact⟨ρ,x,d.same c,f,λl g=>k l (c.trans g)⟩
  |false=>rw[ao aR];cases f;exact k m c
theorem oU(i:Ea X a ga)(h:Rl X (.BoolOp .Or (b::rest) pos) gb):Rl X (.BoolOp .Or (a::b::rest) pos) (Eb ga gb) :=
 PW.imp (Py i h) λσ H Q ⟨ρ,x,d,e,k⟩=>by
  obtain⟨y,j,f⟩:=bind_some e;refine⟨ρ,y,d,j,λm c=>?_⟩;cases y with
  |false=>rw[ao aR];exact⟨ρ,x,d.same c,f,λl g=>k l (c.trans g)⟩
  |true=>rw[ai rfl];cases f;exact k m c
theorem jd(h:Rl X e ga):Ea X e ga:=h.pt
theorem mf(f:Ea X a ga):Ea X (.UnaryOp .Not a pos) (tj ga) :=
 PT.imp (Jk f) λσ H Q ⟨ρ,x,d,e,k⟩=>by obtain⟨y,h,g⟩:=ak.mp e;exact⟨ρ,y,d,h,λb c=>by show Q (!y) b;rw[g];exact k b c⟩
def eB:c5->Option Lp:=λ_=>Y []
noncomputable def c4(f:c5->Od)(g:c5->Option Lp):c5->Option Lp:=λρ=>(f ρ).bind λx=>(g ρ).bind λa=>Y (x::a)
theorem gB:BZ X [] eB:=PA.imp qC λσ H Q ⟨ρ,b,a,e,k⟩=>by cases e;exact k [] H (.refl H) dt.nil
theorem bS(j:PD X e f)(i:BZ X es ff)(a:zE e es X:=by rfl):BZ X (e::es) (c4 f ff) :=
 PA.imp (md j i a) λσ H Q ⟨ρ,p,a,e,k⟩=>by obtain⟨x,m,e⟩:=bind_some e;obtain⟨d,l,e⟩:=bind_some e;cases e;exact⟨ρ,x,a,m,λv q c h=>⟨ρ,d,a.same c,l,λo n b g=>k _ n (c.trans b) (dt.cons (h.same b) g)⟩⟩
noncomputable def iQ(b:c5->Option Lp):c5->Od:=λρ=>(b ρ).bind λa=>if a.length<=sizeLine then Y (.tuple a) else Z
noncomputable def eT(b:c5->Option Lp):c5->Od:=λρ=>(b ρ).bind λa=>if a.length<=sizeLine then Y (.list a) else Z
theorem iH{x1}(h:BZ X es ff):PD X (.Tuple es x1 pos) (iQ ff) :=
 PE.imp (QX h) λσ H Q ⟨ρ,d,g,e,k⟩=>by
  obtain⟨b,i,e⟩:=bind_some e;by_cases a:b.length<=sizeLine
  ·rw[ai a] at e;cases e;exact⟨ρ,b,g,i,λj l f c=>⟨by rw[<-c.length];exact a,(k.later f).Ng c⟩⟩
  ·rw[ao a] at e;cases e
theorem fy(h:BZ X es ff):PD X (.List es pos) (eT ff) :=
 PE.imp (JD h) λσ H Q ⟨ρ,d,g,e,k⟩=>by
  obtain⟨b,i,e⟩:=bind_some e;by_cases a:b.length<=sizeLine
  ·rw[ai a] at e;cases e;exact⟨ρ,b,g,i,λj l f c=>⟨by rw[<-c.length];exact a,(k.later f).wH c⟩⟩
  ·rw[ao a] at e;cases e
abbrev FO:=c5->Option (Option Int)
def Zu(K:Fg)(g:FO):TO:=λσ H Q=>∃ρ o,jE K H σ ρ/\g ρ=Y o/\∀a,fJ H a->Q o a
def S6(X:Cx)(e:Option Expr)(g:FO):Prop:=PO X e (Zu X.K g)
theorem PO.imp{e:Option Expr}{t u:TO}(h:PO X e t)(k:∀σ H Q,u σ H Q->t σ H Q):PO X e u:=λa s σ H Q I q=>@h a s σ H Q I (k σ H Q q)
def iL:FO:=λ_=>Y Z
noncomputable def gM(f:c5->Od):FO:=λρ=>(f ρ).bind λd=>match d with | .int i=>Y (Y i)|_=>Z
theorem hG:S6 X Z iL:=PO.imp M5 λσ H Q ⟨ρ,o,a,e,k⟩=>by cases e;exact k H (.refl H)
theorem gE(h:PD X e f):S6 X (Y e) (gM f):=PO.imp (M6 h) λσ H Q ⟨ρ,o,g,e,k⟩=>by
 obtain⟨d,i,a⟩:=bind_some e;cases d<;>first
  | (cases a;exact⟨ρ,_,g,i,λv j b c=>⟨_,fv.fG.mp c,k j b⟩⟩)
  |cases a
noncomputable def nc(a:List α)(b c:Option Int):List α:=(a.drop (HT.ke a.length 0 b)).take (HT.ke a.length a.length c - HT.ke a.length 0 b)
theorem dt.cut{K:Fg}(h:dt K H ds vs)(a b:Option Int):dt K H (nc ds a b) (Cd vs a b):=by unfold nc Cd;rw[<-h.length];exact(h.drop _).take _
def Uc(K:Fg):V->Option Int->Option Int->Hp->VK->Prop:=λx c d H Q=>∃a b,x=.ref a/\rS K H a b/\(HT.ke b.length 0 c=0/\HT.ke b.length b.length d=b.length)/\Q (.ref a) H
end
end L2
local macro_rules
| `(zO $a) => `(L2.bS $a L2.gB)
| `(zC $s $a) => `(L2.c4 (L2.dC (.str $s)) $a)
| `(zQ $a) => `(L2.c4 $a L2.eB)
| `(zA $s) => `(L2.dC (.str $s))
| `(zI $n) => `(L2.dC (.int $n))
namespace HT
open PySem PyProof.Rows
section
variable {prog:Program}
theorem rV{t f:Addr}{a:Array Value}{l k:Value}{b e:Option Int}{Q:Px} (d:IsTup s.heap t a) (m:s.heap.IsSliceOf f l k .none) (o:IsPart l b) (n:IsPart k e)
  (hw:ke a.size 0 b=0/\ke a.size a.size e=a.size) (h:Q (.ref t) s):wpAny (model prog w) A (getItem (.ref t) (.ref f)) Q E s:=by
 obtain⟨p,g,i,q⟩:=id m;have j:s.TypeIs (.ref f) "slice":=⟨p,g,i⟩
 unfold getItem
 try with_reducible refine bf ?_
 first|refine aa (ar ?_)|skip
 refine aa (wpAny_sequenceKey d.typeIs (by decide) ?_);refine aa (cD (name:=zZ "__getitem__") d.typeIs bA
  (dA bA d.typeIs entry_tuple_getitem ?_ (args_tuple_getitem _ _)))
 show wpAny _ _ (Builtin.Tuple.tupleItemsOf (.ref t)>>=_) _ _ s;refine aa (tupleItemsOf_ d ?_);refine aa (cx j ?_);rw[ai (by decide)];refine aa (pa m o n ?_);have c:((((ke a.size 0 b:Nat):Int)==0&&(1:Int)==1&&(ke a.size a.size e - ke a.size 0 b)==a.size)=true):=by rw[hw.1,hw.2];simp
 show wpAny _ _ (if (((ke a.size 0 b:Nat):Int)==0&&(1:Int)==1&&(ke a.size a.size e - ke a.size 0 b)==a.size)=true then _ else _) _ _ s;rw[ai c];unfold Builtin.Tuple.tupleIsExact;refine aa (aa (cx d.typeIs (ar ?_)));rw[ai (by decide)];refine aa (eO ?_);exact ar ⟨_,rfl,ar h⟩
end
end HT
namespace L2
open PySem PySem.Spec PyProof.Rows
section
variable {a b c:Expr}{fa fb fc:c5->Od}{p2:Pos}
theorem Ni:Gj X (Uc X.K):=by
 intro d s σ H x v n m p u o Q I g l j i h;obtain⟨a,f,rfl,k,hw,q⟩:=h;cases g;obtain⟨c,r,e,t⟩:=I.tuple k;have b:c.toArray.size=f.length:=by rw[az];exact r.length.symm
 refine⟨"tuple",_,bA.lookup,e.typeIs,?_⟩;exact HT.rV e l j i (by rw[b];exact hw) ⟨.ref a,H,I,rfl,q⟩
def WN:V->Option Int->Option Int->Hp->VK->Prop:=λx a b H Q=>∃z,x=.str z/\z.length<=sizeLine/\Q (.str (Txt.slice z a b)) H
def rz:Value->Option (Int×Tok)
 |.int i t=>Y (i,t)
 |_=>Z
theorem vh{v:Value}{o:Option Int}(p:IsPart v o):partValue (rz v)=v/\(rz v).map (·.1)=o:=by cases p<;>exact⟨rfl,rfl⟩
theorem Rm:Gj X WN:=by
 intro f s σ H x v d c a b E Q I j y n m h;obtain⟨z,rfl,w,q⟩:=h;obtain⟨t,rfl⟩:=j;refine⟨"str",_,F.slot_str_getitem.lookup,dB _ _ _,?_⟩;obtain⟨r,p⟩:=vh n;obtain⟨i,g⟩:=vh m;obtain⟨o,A,C,B⟩:=y;refine wpAny_getItem_str_slice (l:=rz d) (u:=rz c) (st:=Z) ⟨o,A,C,by rw[r,i];exact B⟩ rfl ?_;have e:sliceMade z t (rz d) (rz c) Z=(if ((1:Int)==1&&(Builtin.Str.strSliceIndices a b 1 z.length).length==z.length)=true then .val (.str z t) else .str ⟨((Builtin.Str.strSliceIndices a b 1 z.length).filterMap (z.cps[·]?)).toArray⟩):=by unfold sliceMade slicePicked;rw[p,g];rfl
 rw[e];exact post_val_or_str ⟨bu (Txt.slice_le z a b) w,λD k=>⟨.str (Txt.slice z a b),H,I.tok _,⟨_,rfl⟩,q⟩⟩
noncomputable def Ec:fe->Option Int->Option Int->Od
 |.list xs,lo,hi=>Y (.list (nc xs lo hi))
 |.tuple xs,lo,hi=>Y (.tuple (nc xs lo hi))
 |.str z,lo,hi=>if z.length<=sizeLine then Y (.str (Txt.slice z lo hi)) else Z
 |_,_,_=>Z
noncomputable def gz(f:c5->Od)(l h:FO):c5->Od:=λρ=>(f ρ).bind λx=>(l ρ).bind λa=>(h ρ).bind λb=>Ec x a b
theorem Gj.imp{r b:V->Option Int->Option Int->Hp->VK->Prop}(h:Gj X r)(k:∀x lo hi H Q,b x lo hi H Q->r x lo hi H Q):Gj X b :=
 λa s σ H x v d c lo hi e Q I f i pl g q=>@h a s σ H x v d c lo hi e Q I f i pl g (k _ _ _ _ _ q)
theorem Zv:Gj X (λx lo hi H Q=>∃d c,fv X.K H d x/\Ec d lo hi=Y c/\KD X.K H c Q):=by
 refine Gj.imp (Gp.or (Rm.or (Q0.or Ni))) λx lo hi H Q ⟨d,c,i,e,k⟩=>?_;cases d<;>try (simp[Ec] at e;done)
 ·rename_i z;dsimp only[Ec] at e;by_cases h:z.length<=sizeLine
  ·rw[ai h] at e;cases e;exact .inr (.inl ⟨z,fv.f6.mp i,h,k.here (fv.f6.mpr rfl)⟩)
  ·rw[ao h] at e;cases e
 ·rename_i g;cases e;obtain⟨p,a,rfl,f,b⟩:=fv.fY.mp i;exact .inl ⟨p,a,rfl,f,k.wH (b.cut lo hi)⟩
 ·rename_i g;cases e;obtain⟨p,a,rfl,f,b⟩:=i.iF;by_cases hw:HT.ke a.length 0 lo=0/\HT.ke a.length a.length hi=a.length
  ·refine .inr (.inr (.inr ⟨p,a,rfl,f,hw,?_⟩));have:nc g lo hi=g:=by
    unfold nc;rw[b.length,hw.1,hw.2];simp only[List.drop_zero,Nat.sub_zero];rw[<-b.length];exact List.take_length
   rw[this] at k;exact k.here i
  ·exact .inr (.inr (.inl ⟨p,a,rfl,f,hw,k.Ng (b.cut lo hi)⟩))
theorem hV{m n:Option Expr}{l h:FO}(r:PD X e f)(q:S6 X m l)(p:S6 X n h):PD X (.Subscript e (.Slice m n Z p2) pos) (gz f l h) :=
 PE.imp (Cc Zv r q p) λσ H Q ⟨ρ,d,g,e,k⟩=>by obtain⟨x,u,e⟩:=bind_some e;obtain⟨c,t,e⟩:=bind_some e;obtain⟨i,s,e⟩:=bind_some e;exact⟨ρ,x,g,u,λv z b o=>⟨ρ,c,g.same b,t,λy a=>⟨ρ,i,g.same (b.trans a),s,λw j=>⟨x,d,o.same (a.trans j),e,k.later (b.trans (a.trans j))⟩⟩⟩⟩
def Yo(K:Fg)(g:Lp->Od):List V->Hp->VK->Prop:=λb H Q=>∃a c,dt K H a b/\g a=Y c/\KD K H c Q
def vi(X:Cx)(v:Value)(g:Lp->Od):Prop:=ji X v (Yo X.K g)
noncomputable def gF(g:Lp->Od)(a:c5->Option Lp):c5->Od:=λρ=>(a ρ).bind g
theorem Yp{K:Fg}{g:Lp->Od}{Q:VK}(h:tD K (gF g ff) σ H Q):Wz (Yo K g) (Ym K ff) σ H Q:=by obtain⟨ρ,d,f,e,k⟩:=h;obtain⟨a,j,i⟩:=bind_some e;exact⟨ρ,a,f,j,λl m b c=>⟨a,d,c,i,k.later b⟩⟩
theorem lj{p:Pos}{c:String}{g:Lp->Od} (l:vi X (.builtin c) g) (j:Gl X x) (i:X.mg x=Z) (d:bootBuiltins x=Y (.builtin c)) (m:BZ X (e::es) ff) (f:x≠"__name__":=by decide) (b:zg x:=by decide)
  (k:zE e es X:=by rfl) (a:(backTo pos (starEach es X.env)).any (·.1)=false:=by rfl):PD X (.Call (.Name x p) (e::es) [] pos) (gF g ff) :=
 PE.imp (JI l j i d m f b k a) λ_ _ _ h=>Yp h
theorem HX{p:Pos}{T:String}{g:Lp->Od} (k:vi X (.type T) g) (i:Gl X x) (f:X.mg x=Z) (c:bootBuiltins x=Y (.type T)) (l:BZ X (e::es) ff) (d:x≠"__name__":=by decide) (b:zg x:=by decide)
  (j:zE e es X:=by rfl) (a:(backTo pos (starEach es X.env)).any (·.1)=false:=by rfl):PD X (.Call (.Name x p) (e::es) [] pos) (gF g ff) :=
 PE.imp (y0 k i f c l d b j a) λ_ _ _ h=>Yp h
theorem i6{K:Fg}(h:dt K H [d] vs):∃v,vs=[v]/\fv K H d v:=by obtain⟨v,r,rfl,a,t⟩:=dt.fH.mp h;rw[dt.fQ.mp t];exact⟨v,rfl,a⟩
theorem wJ{K:Fg}{b:fe}(h:dt K H [d,b] vs):∃v a,vs=[v,a]/\fv K H d v/\fv K H b a:=by obtain⟨v,r,rfl,e,t⟩:=dt.fH.mp h;obtain⟨a,rfl,c⟩:=i6 t;exact⟨v,a,rfl,e,c⟩
noncomputable def Ud:Lp->Od
 |[.list xs]=>Y (.tuple xs)
 |[.tuple xs]=>Y (.tuple xs)
 |_=>Z
noncomputable def Gw:Lp->Od
 |[.list xs]=>Y (.list xs)
 |[.tuple xs]=>Y (.list xs)
 |_=>Z
noncomputable def Nj:Lp->Od
 |[.list xs]=>Y (.int xs.length)
 |[.tuple xs]=>Y (.int xs.length)
 |[.str z]=>if z.length<=sizeLine then Y (.int z.length) else Z
 |_=>Z
theorem Rn:vi X (.builtin "len") Nj:=by
 refine ji.imp (Au.or Av) λl H Q ⟨j,c,i,e,k⟩=>?_
 match j,e with
 |[.list h],e=>cases e;obtain⟨v,rfl,a⟩:=i6 i;obtain⟨p,b,rfl,g,f⟩:=fv.fY.mp a;exact .inl ⟨p,b,rfl,.inl g,k.here (by rw[f.length];exact fv.fG.mpr rfl)⟩
 |[.tuple h],e=>cases e;obtain⟨v,rfl,a⟩:=i6 i;obtain⟨p,b,rfl,g,f⟩:=a.iF;exact .inl ⟨p,b,rfl,.inr g,k.here (by rw[f.length];exact fv.fG.mpr rfl)⟩
 |[.str z],e=>
  dsimp only[Nj] at e;by_cases d:z.length<=sizeLine
  ·rw[ai d] at e;cases e;obtain⟨v,rfl,a⟩:=i6 i;exact .inr ⟨z,by rw[fv.f6.mp a],d,k.here (fv.fG.mpr rfl)⟩
  ·rw[ao d] at e;cases e
noncomputable def Cn:Lp->Od
 |[.int i,.int j]=>Y (.int (if j<i then j else i))
 |_=>Z
noncomputable def EF:Lp->Od
 |[.int i,.int j]=>Y (.int (if j > i then j else i))
 |_=>Z
theorem EG(a:X.calm=true):vi X (.builtin "min") Cn:=by
 refine ji.imp (HL a) λg H Q ⟨f,c,i,e,k⟩=>?_
 match f,e with
 |[.int x,.int y],e=>cases e;obtain⟨v,h,rfl,d,b⟩:=wJ i;exact⟨x,y,by rw[fv.fG.mp d,fv.fG.mp b],k.here (fv.fG.mpr rfl)⟩
theorem EH(a:X.calm=true):vi X (.builtin "max") EF:=by
 refine ji.imp (HK a) λg H Q ⟨f,c,i,e,k⟩=>?_
 match f,e with
 |[.int x,.int y],e=>cases e;obtain⟨v,h,rfl,d,b⟩:=wJ i;exact⟨x,y,by rw[fv.fG.mp d,fv.fG.mp b],k.here (fv.fG.mpr rfl)⟩
noncomputable def VD:fe->String
 |.none=>"NoneType"
 |.bool _=>"bool"
 |.int _=>"int"
 |.str _=>"str"
 |.list _=>"list"
 |.tuple _=>"tuple"
 |.dict _=>"dict"
def PZ:fe->Bool
 |.dict _=>true
 |_=>false
noncomputable def WO(T:String)(f:c5->Od):c5->Od:=λρ=>(f ρ).bind λd=>if PZ d then Z else Y (.bool (VD d==T||(VD d=="bool"&&T=="int")))
end
section
variable {a b c:Expr}{fa fb fc:c5->Od}{p2:Pos}{rest:List Stmt}{g h:c5->Option Out}{gc:c5->Option Bool}
def gi:c5->Option Out:=λρ=>Y (.nx ρ)
noncomputable def c7(g h:c5->Option Out):c5->Option Out:=λρ=>(g ρ).bind λo=>match o with
 |.nx ρ'=>h ρ'
 |o=>Y o
noncomputable def fZ(f:c5->Od):c5->Option Out:=λρ=>(f ρ).map .rt
noncomputable def iA(c:c5->Option Bool)(g h:c5->Option Out):c5->Option Out:=λρ=>(c ρ).bind λx=>if x then g ρ else h ρ
abbrev BD:=fe->c5->Option c5
def Zw(K:Fg)(b:BD):TG:=λv σ H Q=>∃ρ d ρ',jE K H σ ρ/\fv K H d v/\b d ρ=Y ρ'/\∀σ' a,fJ H a->jE K a σ' ρ'->Q σ' a
def VE(X:Cx)(a:Expr)(b:BD):Prop:=PG X a (Zw X.K b)
theorem PG.imp{t u:TG}(h:PG X tg t)(k:∀v σ H Q,u v σ H Q->t v σ H Q):PG X tg u:=λa s σ H v b Q I r q=>@h a s σ H v b Q I r (k _ _ _ _ q)
theorem Mx.imp{b:Lx}{t u:MR}(h:Mx X b t)(k:∀v σ H Q,u v σ H Q->t v σ H Q):Mx X b u:=λa s σ H v c Q I r q=>@h a s σ H v c Q I r (k _ _ _ _ q)
def Gx(i:Nat):BD:=λd ρ=>Y (ρ.set i (Y d))
theorem wK(i:Nat)(h:X.N.Nodup)(f:X.N[i]?=Y x:=by rfl)(b:Ei X.env.scope x:=by first|exact cg rfl|exact bP rfl)(g:X.fn x=true\/X.env.scope.names.lookup x=Y .local:=by first|exact .inl rfl|exact .inr rfl|assumption):VE X (.Name x pos) (Gx i) :=
 PG.imp (oA h f b g) λv σ H Q ⟨ρ,d,ρ',c,a,e,k⟩=>by cases e;exact k _ H (.refl H) (c.set a)
abbrev P0:=List fe->c5->Option c5
def WQ(K:Fg)(d:P0):MR:=λc σ H Q=>∃ρ b ρ',jE K H σ ρ/\dt K H b c/\d b ρ=Y ρ'/\∀σ' a,fJ H a->jE K a σ' ρ'->Q σ' a
def Nk(X:Cx)(a:Lx)(b:P0):Prop:=Mx X a (WQ X.K b)
def Ue:P0:=λa ρ=>match a with | []=>Y ρ|_=>Z
def JY(b:BD)(c:P0):P0:=λa ρ=>match a with | []=>Z|d::r=>(b d ρ).bind λρ'=>c r ρ'
theorem JZ:Nk X [] Ue:=Mx.imp Ak λd σ H Q ⟨ρ,c,ρ',b,a,e,k⟩=>by
 cases c with
 |nil=>cases e;exact⟨dt.fQ.mp a,k σ H (.refl H) b⟩
 |cons _ _=>cases e
theorem y8{bd:BD}{g:P0}(o:VE X e bd)(n:Nk X es g)(c:(assignEach (e::es) X.env).map (·.2)=assign e X.env::(assignEach es X.env).map (·.2):=by rfl):Nk X (e::es) (JY bd g) :=
 Mx.imp (o9 o n c) λu σ H Q ⟨ρ,s,ρ',c,m,e,k⟩=>by
  cases s with
  |nil=>cases e
  |cons d r=>obtain⟨ρ1,q,p⟩:=bind_some e;obtain⟨v,h,rfl,l,j⟩:=dt.fH.mp m;exact⟨v,h,rfl,ρ,d,ρ1,c,l,q,λσ1 w f b=>⟨ρ1,r,ρ',b,j.same f,p,λσ2 t i a=>k σ2 t (f.trans i) a⟩⟩
def Nl(n:Nat)(a:P0):BD:=λd ρ=>match d with | .tuple ds=>if ds.length=n then a ds ρ else Z|_=>Z
theorem Nm{k:Nat}{g:P0}(o:X.calm=true)(h:Nk X es g)(m:(assignEach es X.env).length=n:=by rfl)(a:(assignEach es X.env).findIdx? (·.1)=Z:=by rfl):VE X (.Tuple es k pos) (Nl n g) :=
 PG.imp (Ej o h m a) λv σ H Q ⟨ρ,d,ρ',l,j,e,k⟩=>by
  cases d<;>try (simp[Nl] at e;done)
  rename_i f;dsimp only[Nl] at e;by_cases b:f.length=n
  ·rw[ai b] at e;obtain⟨p,i,rfl,q,c⟩:=j.iF;exact⟨p,i,rfl,q,by rw[<-c.length];exact b,ρ,f,ρ',l,c,e,k⟩
  ·rw[ao b] at e;cases e
def EI(K:Fg)(J:It)(c:Lp)(H:Hp):Prop :=
 ∀a,fJ H a->(J.stop c.length a)/\∀(i:Nat) (d:fe),c[i]?=Y d->J.go i a/\∀x b,J.S5 i a x b->fJ a b/\fv K b d x
def Zx(K:Fg)(q:c5->Option Lp):TI:=λσ H R=>∃ρ b,jE K H σ ρ/\q ρ=Y b/\∀J a,fJ H a->EI K J b a->R J a
def Jd(X:Cx)(b a:Expr)(q:c5->Option Lp):Prop:=PI X b a (Zx X.K q)
theorem PI.imp{a:Expr}{t u:TI}(h:PI X tg a t)(k:∀σ H R,u σ H R->t σ H R):PI X tg a u:=λb s σ H R I q=>@h b s σ H R I (k _ _ _ q)
theorem PI.or{a:Expr}{t u:TI}(h:PI X tg a t)(c:PI X tg a u):PI X tg a (λσ H R=>t σ H R\/u σ H R):=λb s σ H R I q=>q.elim (@h b s σ H R I) (@c b s σ H R I)
noncomputable def lQ(f:c5->Od):c5->Option Lp:=λρ=>(f ρ).bind λd=>match d with | .list ds=>Y ds | .tuple ds=>Y ds|_=>Z
theorem jX(h:PD X e f):Jd X tg e (lQ f) :=
 PI.imp (PI.or (Gf h) (Jr h)) λσ H R ⟨ρ,A,t,e,k⟩=>by
  obtain⟨d,u,a⟩:=bind_some e;cases d<;>try (simp at a;done)
  ·cases a;refine .inl ⟨ρ,_,t,u,λv s l o=>?_⟩;obtain⟨p,b,rfl,a,j⟩:=fv.fY.mp o;refine⟨p,rfl,⟨b,a⟩,k _ s l λz c=>⟨⟨b,c.seq a,by rw[j.length];exact aH _⟩,λi d q=>?_⟩⟩;obtain⟨x,g,r⟩:=j.get q;refine⟨⟨b,x,c.seq a,g⟩,λy w ⟨n,m⟩=>?_⟩;subst n;have:=m b (c.seq a);rw[g] at this;cases this;exact⟨.refl _,r.same c⟩
  ·cases a;refine .inr ⟨ρ,_,t,u,λv s l o=>?_⟩;obtain⟨p,b,rfl,a,j⟩:=o.iF;refine⟨p,rfl,⟨b,a⟩,k _ s l λz c=>⟨⟨b,c.Cj a,by rw[j.length];exact aH _⟩,λi d q=>?_⟩⟩;obtain⟨x,g,r⟩:=j.get q;refine⟨⟨b,x,c.Cj a,g⟩,λy w ⟨n,m⟩=>?_⟩;subst n;have:=m b (c.Cj a);rw[g] at this;cases this;exact⟨.refl _,r.same c⟩
noncomputable def nP(a:Int)(n:Nat):Lp:=(List.range n).map λk=>.int (a+(k:Nat))
theorem Co{K:Fg}(a:Int)(n:Nat)(H:Hp):EI K (Tz a n) (nP a n) H:=λh f=>by
 refine⟨by show n<=(nP a n).length;simp[nP],λi d q=>?_⟩;have b:i<n:=by have:=(aM.mp q).1;simpa [nP] using this
 refine⟨b,λx g ⟨e,c⟩=>?_⟩;subst e c;have:d=.int (a+(i:Nat)):=by unfold nP at q;rw[aJ,List.getElem?_range b] at q;cases q;rfl
 subst this;exact⟨.refl _,fv.fG.mpr rfl⟩
noncomputable def jY(f:c5->Od):c5->Option Lp:=λρ=>(f ρ).bind λd=>match d with | .int j=>if -(2 ^ 62)<=j/\j<2 ^ 62 then Y (nP 0 j.toNat) else Z|_=>Z
theorem wL{p:Pos}(n:Gl X "range")(m:X.mg "range"=Z)(h:PD X e f)(b:starEach [e] X.env=[(false,eval e X.env)]:=by rfl):Jd X tg (.Call (.Name "range" p) [e] [] pos) (jY f) :=
 PI.imp (yU n m (md h qC (by rw[b];rfl)) b) λσ H R ⟨ρ,q,b,e,k⟩=>by
  obtain⟨d,o,a⟩:=bind_some e;cases d<;>try (simp at a;done)
  rename_i j;dsimp only at a;by_cases c:-(2 ^ 62)<=j/\j<2 ^ 62
  ·rw[ai c] at a;cases a;exact⟨ρ,_,b,o,λv g i l=>⟨j,by rw[fv.fG.mp l],c.1,c.2,k _ g i (Co 0 _ g)⟩⟩
  ·rw[ao c] at a;cases a
noncomputable def js(a:BD)(g:c5->Option Out):Lp->c5->Option Out
 |[],ρ=>Y (.nx ρ)
 |d::ds,ρ=>((a d ρ).bind g).bind λo=>match o with
  |.nx ρ'=>js a g ds ρ'
  |.ct ρ'=>js a g ds ρ'
  |.bk ρ'=>Y (.nx ρ')
  |.rt d=>Y (.rt d)
end
def Ro(K:Fg)(n:Nat)(f:Lp->Od):Sp:=λb H Q _=>∃a d,dt K H a b/\a.length=n/\f a=Y d/\KD K H d Q
section
variable {k:Nat}{fa:Addr}{ps:Lr}{f:Lp->Od}{p:Pos}
def hZ(n:Nat)(f:Lp->Od)(a:c5->Option Lp):c5->Od:=λρ=>(a ρ).bind λds=>if ds.length=n then f ds else Z
theorem Nn(F:lT X.prog X.w X.K X.mg X.base yl k fa fd ps (Ro X.K n f)) (m:jf k X.A) (r:Gl X x) (o:X.mg x=Y (.ref fa)) (q:W.keepIn X.K (.ref fa)=true) (t:kZ X.K fd ps [])
  (u:BZ X (e::es) ff) (g:zg x:=by decide) (s:zE e es X:=by rfl) (b:(backTo pos (starEach es X.env)).any (·.1)=false:=by rfl):
  PD X (.Call (.Name x p) (e::es) [] pos) (hZ n f ff) :=
 PE.imp (Ao F m r o q t .nil y4 u g s b) λσ H Q ⟨ρ,d,l,e,k⟩=>by
  obtain⟨h,v,a⟩:=bind_some e;by_cases c:h.length=n
  ·rw[ai c] at a;exact⟨ρ,h,l,v,λy z i j=>⟨h,d,by rw[aF];exact j,c,a,k.later i⟩⟩
  ·rw[ao c] at a;cases a
noncomputable def gK(N:Lr)(ds:Lp):c5:=ds.map Y++List.replicate (N.length - ds.length) Z
theorem nQ{K:Fg}{N:Lr}(h:dt K H ds vs):jE K H (my N vs) (gK N ds):=by
 have b:=h.length;refine⟨by simp[my,gK,b],λi d q=>?_⟩;unfold gK at q;by_cases a:i<ds.length
 ·rw[bt (by simpa using a),aJ] at q;obtain⟨j,g,f⟩:=ak.mp q;cases f;obtain⟨v,e,c⟩:=h.get g;refine⟨v,?_,c⟩;unfold my;rw[bt (by simpa using (by omega:i<vs.length)),aJ,e];rfl
 ·rw[aS (by simpa using a),bH] at q;split at q<;>cases q
noncomputable def iU(N:Lr)(g:c5->Option Out):Lp->Od:=λa=>(g (gK N a)).bind λo=>match o with
 |.rt d=>Y d
 |.nx _=>Y .none
 |_=>Z
end
end L2
namespace Vz
open PySem PySem.W PySem.Calls PyProof.Rows
theorem AE{l:OpenLaw}{q:Program}{b:Lr}{B:(Str->Ow)->Heap->Prop}{A:World->Heap->Prop}{d:DefRec}
  (I:l.most=Y n) (s:d.params.defaults=[])
  (k:∀(w:World) (s₀ s₁:Shared) (mg mb:Str->Ow) (fa:Addr) (o:Obj) (pm cd doc:Value) (a:Addr) (vs:Lw) (ns:List Int),
   Ground q b [] B w s₀ mg mb s₁.heap->A w s₁.heap ->
   s₁.heap.get? fa=Y o->o.data=.func (docDef d.name d.params d.body d.scope pm cd doc)->s₁.heap.CodeRec cd d.name->mg d.name=Y (.ref fa) ->
   s₁.heap.get? a=Y { cls:=.type "list",data:=.seq vs.toArray }->IntsAre vs ns->ns.length<=n->(∀x∈ns,L2.kP x=true)->s₁.gens=#[] ->
   codeAny (model l.prog w) callerA (.call (.ref fa) ⟨[.ref a],[]⟩) (λr s'=>r=.ok (.ret (.bool true))/\OldK s₁.heap s'.heap/\s'.os=s₁.os/\AllBare s'.gens) s₁):
  WalkO q b B A l.row.toRowW d [] (λf vs=>PySem.call f vs):=by
 intro w s₀ s₁ mg mb G Y fa o pm cd doc P C H M t y hmg L z v Q g j E p K;obtain rfl:P=.none:=Dflts.none y s;obtain rfl:C=.none:=Dflts.noKw y;obtain⟨a,vs,ns,rfl,rfl,h,c,i⟩:=HQ I g p;have e:∀x∈ns,L2.kP x=true:=λx D=>by
  have O:=layableW_arg j (WData.list (ns.map WData.int)) (by simp);have m:=layable_int (layableW_item O (.int x) (aq.mpr ⟨x,D,rfl⟩));have u:(fe.int x).layable=decide (Builtin.Int.intBits x<=1048576):=by simp[fe.layable,fe.canLay,fe.depth,fe.weight,Builtin.Int.intBits]
  rw[u] at m;exact m
 refine enter_call (cw (k w s₀ s₁ mg mb fa o pm cd doc a vs ns G Y H (fd_plain M) t hmg h c i e L) λr s' F=>?_);obtain⟨rfl,m,u,N⟩:=F;exact⟨.inl ⟨.bool true,.bool true,[],rfl,λ_=>rfl,.bool true,HR l _,λ_=>⟨List.Pairwise.nil,λ_ J=>(nomatch J)⟩⟩,m,u,N⟩
end Vz
namespace L2
open PySem PySem.Spec PyProof.Rows
theorem y9{K:Fg}{H:Hp}:∀a:List Int,dt K H (a.map fe.int) (a.map V.int)
 |[]=>dt.nil
 |n::a=>dt.cons (fv.fG.mpr rfl) (y9 a)
structure qm (P:Program) (w:World) (K:Fg) (mg:Str->Ow) (base:Heap) (x:Str) (k n:Nat) (f:Lp->Od):Prop where
 ex:∃a fd ps,lT P w K mg base yl k a fd ps (Ro K n f)/\mg x=Y (.ref a)/\W.keepIn K (.ref a)=true/\kZ K fd ps []
section
variable {f:Lp->Od}{p:Pos}{j k:Nat}
theorem fL(O:qm X.prog X.w X.K X.mg X.base x j n f) (h:jf k X.A) (l:Gl X x) (q:BZ X (e::es) ff) (i:j<=k:=by decide) (d:zg x:=by decide)
  (o:zE e es X:=by rfl) (c:(backTo pos (starEach es X.env)).any (·.1)=false:=by rfl):PD X (.Call (.Name x p) (e::es) [] pos) (hZ n f ff):=by
 obtain⟨a,s,r,F,m,g,b⟩:=O.ex;exact Nn (F.mono i) h l m g b q d o c
end
theorem HY{l:W.OpenLaw}{k:Nat}{q:Program}{j:Lr}{R:(Str->Ow)->Heap->Prop}{C:World->Heap->Prop}{d:DefRec}{K:Params->Fg}{f:Lp->Od}
  (E:l.most=Y n) (t:n<=sizeLine) (y:d.params.defaults=[]) (D:jf k callerA)
  (N:∀(w:World) (h:Heap),C w h->(K w.params).In h)
  (F:∀(w:World) (mg:Str->Ow) (fa:Addr) (h:Heap),(K w.params).In h->h.Ns mainGlobals mg->mg d.name=Y (.ref fa) ->
   ∃fd:FuncData,(∀(s:Shared) (u:Value),BindsTo s fd ⟨[u],[]⟩ [(x,u)]) /\
    ∀base:Heap,(K w.params).In base->base.Ns mainGlobals mg->lT l.prog w (K w.params) mg base yl k fa fd [x] (Ro (K w.params) 1 f))
  (J:∀ns:List Int,ns.length<=n->(∀x∈ns,kP x=true)->f [.list (ns.map .int)]=Y (.bool true)):
  W.WalkO q j R C l.row.toRowW d [] (λf vs=>PySem.call f vs):=by
 refine Vz.AE E y λw B A mg V fa o U cd Q a vs ns G Y X hd L hmg r m c p I=>?_;have KX:=N w _ Y;obtain⟨fd,M,P⟩:=F w mg fa _ KX G.T.g hmg;refine JO KX G.T.g G.T.b G.T.builtins G.T.nolimit I r m (bu c t) D P M (λH hO O=>?_) λH e S z=>z;exact⟨[.list (ns.map .int)],.bool true,dt.cons (fv.fY.mpr ⟨a,_,rfl,O,y9 ns⟩) dt.nil,rfl,J ns c p,λv H' _ i=>fv.fT.mp i⟩
end L2
namespace L2
open PySem
theorem toNat_inj{a b:Char}(h:a.toNat=b.toNat):a=b:=Char.toNat_inj.mp h
theorem r0:∀{a b:List Char},a.map Char.toNat=b.map Char.toNat->a=b
 |[],[],_=>rfl
 |[],_::_,h=>by simp at h
 |_::_,[],h=>by simp at h
 |a::as,b::bs,h=>by
  rw[ae,ae] at h;injection h with d c
  rw[toNat_inj d,r0 c]
theorem AF{a b:String}(h:zZ a=zZ b):a=b:=by
 rw[df,df] at h;injection h with h
 have c:=bK Array.toList h;simp only[List.toList_toArray] at c;exact String.toList_inj.mp (r0 c)
theorem ky(a b:String):(zZ a==zZ b)=(a==b):=by
 by_cases h:a=b
 ·subst h;simp
 ·have c:¬ zZ a=zZ b:=λz=>h (AF z);rw[aY.mpr c,aY.mpr h]
theorem dq(a:String):fe.strOk (zZ a)=true:=by
 rw[df];unfold fe.strOk;simp only[Array.all_eq_true',List.mem_toArray,aq];rintro x ⟨c,_,rfl⟩;have:=c.valid;simp only[bR];have b:c.toNat<1114112:=by
  rcases c.valid with h|h
  ·have:c.toNat<55296:=h;omega
  ·exact h.2
 exact b
end L2
namespace L2
open PySem PySem.Spec PyProof.Rows
def wM(c:Env)(b:Scope):List (Str×Addr):=(b.names.filterMap λp=>if p.2==NameKind.free then (c.cells.lookup p.1).map λa=>(p.1,a) else Z).reverse
theorem tm(d:Env):∀(b:List (Str×NameKind)) (acc:List (Str×Addr)),(∀p∈b,p.2=.free->∃c,d.cells.lookup p.1=Y c) ->
  (forIn b acc λp cs=>(if (p.2==NameKind.free)=true then do let c <-cellOf d p.1;pure (ForInStep.yield ((p.1,c)::cs)) else pure (ForInStep.yield cs):Sem (ForInStep (List (Str×Addr))))) =
   pure ((b.filterMap λp=>if p.2==NameKind.free then (d.cells.lookup p.1).map λa=>(p.1,a) else Z).reverse++acc)
 |[],acc,_=>rfl
 |p::r,acc,h=>by
  have g:=λacc=>tm d r acc λq j=>h q (aj _ j);rw[dO];by_cases f:p.2=.free
  ·obtain⟨c,i⟩:=h p bc f;have e:(p.2==NameKind.free)=true:=by rw[f];rfl
   rw[ai e];have k:cellOf d p.1=pure c:=by unfold cellOf;rw[i]
   rw[k];simp only[pure_bind];rw[g,bT,ai e,i];simp
  ·have e:(p.2==NameKind.free)=false:=by simpa using f
   rw[ao (by rw[e];exact aR)];simp only[pure_bind];rw[g,bT,ao (by rw[e];exact aR)]
theorem oV{a:Env}(h:∀p∈scope.names,p.2=.free->∃c,a.cells.lookup p.1=Y c):closureFor scope a=pure (wM a scope):=by
  have e:=tm a scope.names [] h;unfold closureFor wM;rw[aF] at e;have f:(forIn scope.names ([]:List (Str×Addr)) λx d=>(match x with|(name,b)=>do if (b==NameKind.free)=true then do let c <-cellOf a name;pure (ForInStep.yield ((name,c)::d)) else pure (ForInStep.yield d):Sem (ForInStep (List (Str×Addr)))))=_:=e
  first
    | (simp only[bind_pure] ;exact f)
    | (show (forIn scope.names ([]:List (Str×Addr)) _>>=λd=>pure d)=_
       rw[bind_pure];exact f)
theorem J0{b:Env}{c:Addr}(h:(x,c)∈wM b scope):b.cells.lookup x=Y c/\(x,NameKind.free)∈scope.names:=by
 unfold wM at h;rw[List.mem_reverse,bw] at h;obtain⟨⟨n,k⟩,f,e⟩:=h;by_cases d:(k==NameKind.free)=true
 ·rw[ai d] at e;obtain⟨a,i,g⟩:=ak.mp e;cases g;have:k=.free:=eq_of_beq d;subst this;exact⟨i,f⟩
 ·rw[ao d] at e;cases e
theorem kf{a:Env}{c:Addr}(h:(wM a scope).lookup x=Y c):a.cells.lookup x=Y c:=(J0 (bE h)).1
theorem sd{α:Type}{x:Str}{c:α}:∀{l:List (Str×α)},(x,c)∈l->∃d,l.lookup x=Y d
 |[],h=>by cases h
 | (n,a)::r,h=>by
  by_cases e:x=n
  ·subst e;exact⟨a,by simp⟩
  ·rcases ag.mp h with h|h
   ·cases h;exact absurd rfl e
   ·obtain⟨d,b⟩:=sd h;exact⟨d,by rw[bh,aY.mpr e];exact b⟩
theorem Cp{a:Env}{c:Addr}(g:(x,NameKind.free)∈scope.names)(f:a.cells.lookup x=Y c):(wM a scope).lookup x=Y c:=by
 have:(x,c)∈wM a scope:=by unfold wM;rw[List.mem_reverse,bw];exact⟨(x,.free),g,by rw[ai (by rfl),f];rfl⟩
 obtain⟨d,b⟩:=sd this;have e:=kf b;rw[f] at e;cases e;exact b
theorem vj{b:Env}{k:NameKind}(h:(relabel scope b).names.lookup x=Y k):(x,k)∈scope.names\/(k=.cell/\(x,NameKind.free)∈scope.names):=by
 have c:=bE h;unfold relabel at c;obtain⟨⟨n,f⟩,e,a⟩:=aq.mp c;dsimp only at a;split at a
 ·rename_i d;cases a;simp only[bD,bY] at d;obtain⟨⟨rfl,_⟩,_⟩:=d;exact .inr ⟨rfl,e⟩
 ·cases a;exact .inl e
theorem tq{b:Env}:∀{a:List (Str×NameKind)}{x:Str},a.lookup x=Y .free ->
  (a.map λ(n,k)=>if (k==NameKind.free&&b.scope.kind==.function&&b.kindOf n==Y .cell) then (n,NameKind.cell) else (n,k)).lookup x=Y .cell \/
  (a.map λ(n,k)=>if (k==NameKind.free&&b.scope.kind==.function&&b.kindOf n==Y .cell) then (n,NameKind.cell) else (n,k)).lookup x=Y .free
 |[],_,h=>by simp at h
 | (n,k)::r,x,h=>by
  have d:=@tq b r x;rw[ae];dsimp only;cases c:x==n with
  |true=>
   simp only[bh,c] at h;cases h;split
   ·exact .inl (by simp[bh,c])
   ·exact .inr (by simp[bh,c])
  |false=>
   simp only[bh,c] at h;split
   ·simp only[bh,c];exact d h
   ·simp only[bh,c];exact d h
noncomputable def k7(X:Cx)(a:Scope)(C:Addr)(N:Lr)(s:Shared)(H:Hp)(b:List Addr):Cx where
 prog:=X.prog
 w:=X.w
 K:=X.K
 mg:=X.mg
 base:=X.base
 A:=X.A
 N:=N
 s₀:=s
 H₀:=H
 env:=compEnvC a (wM X.env a) C X.env
 outer:=X.stack
 stack:=X.stack
 ex:=b
 fn:=λ_=>false
 calm:=true
 pn:=[]
 xe:=λ_ _=>False
def kQ(X:Cx)(a:Scope):List (Nat×Str)->Prop
 |[]=>True
 | (j,y)::r=>(X.N[j]?=Y y/\(X.env.kindOf y=Y .cell\/X.env.kindOf y=Y .free)/\a.names.lookup y=Y .free)/\kQ X a r
theorem kQ.at{X:Cx}{a:Scope}:∀{caps:List (Nat×Str)},kQ X a caps->∀{i:Nat}{j:Nat}{y:Str},caps[i]?=Y (j,y)->X.N[j]?=Y y/\(X.env.kindOf y=Y .cell\/X.env.kindOf y=Y .free)/\a.names.lookup y=Y .free
 |[],_,_,_,_,h=>by simp at h
 | (_,_)::_,hc,0,_,_,h=>by simp at h;obtain⟨rfl,rfl⟩:=h;exact hc.1
 | (_,_)::_,hc,i+1,_,_,h=>kQ.at hc.2 (i:=i) (by simpa using h)
noncomputable def yn(a:List (Nat×Str))(σ:St):St:=a.map λp=>(σ[p.1]?).join
noncomputable def pJ(a:List (Nat×Str))(ρ:c5):c5:=a.map λp=>(ρ[p.1]?).join
structure jZ (scope:Scope) (x:Str):Prop where
 kind:scope.kind=.function
 J4:∀y∈scope.names,y.2≠.cell
 loc:∀y∈scope.names,y.2=.local->scope.names.lookup y.1=Y .local
 var:scope.names.lookup x=Y .local
 has:True:=a0
section
theorem Rp(d:Lr) {G:List Addr}{s':Shared} (I:fD X pins σ H s) (D:X.calm=true) (S:jZ scope x) (P:∀p∈scope.names,p.2=.free->∃c,X.env.cells.lookup p.1=Y c) (B:kQ X scope caps)
  (N:∀b∈G,qA X pins H b) (M:∀b∈G,∃o,s.heap.get? b=Y o) (R:(zB s)<=C) (k:∀b o,s.heap.get? b=Y o->s'.heap.get? b=Y o) (L:s'.heap.Ns C λ_=>Z) (K:s'.os=s.os) (hg:AllBare s'.gens):
  fD (k7 X scope C (d++caps.map (·.2)) s H G) [] (d.map (λ_=>Z)++yn caps σ) H s':=by
 have t:∀b,b∈(k7 X scope C (d++caps.map (·.2)) s H G).fs->b∈X.env.locals::X.fs:=λb f=>I.Ai b f;refine⟨⟨I.ok.mod,S.kind,I.ok.glob,I.ok.blt,R,λy z c e1 a=>I.ok.inj y z c (kf e1) (kf a),λy hy=>?_,λy c h=>(by cases h),λ_=>I.ok.hd D,I.ok.frames,.inl rfl,λb f=>?_,I.bs,bu I.ok.MM I.sz,λb o e f=>?_,λb f Q=>?_,I.stack,I.Aj⟩,
  K,hg,Un.kept k,⟨_,L,λi y v e1 a e3=>?_⟩,λy c e=>?_,I.iY.fresh R,λy c e=>I.mU y c (kf e),λp hp=>?_,I.iY.kept k,?_⟩
 ·have J:(relabel scope X.env).names.lookup y=Y .cell\/(relabel scope X.env).names.lookup y=Y .free:=hy;have hm:(y,NameKind.free)∈scope.names:=by
   rcases J with h|h
   ·rcases vj h with h | ⟨_,h⟩
    ·exact absurd rfl (S.J4 _ h)
    ·exact h
   ·rcases vj h with h | ⟨h,_⟩
    ·exact h
    ·cases h
  obtain⟨c,D⟩:=P _ hm rfl;exact⟨c,Cp hm D⟩
 ·obtain⟨f0,W,V,U,T,f5⟩:=N b f;obtain⟨o,w⟩:=M b f;refine⟨?_,λy c e=>T y c (kf e)⟩;show b≠C;exact aN (aI (av w) R)
 ·obtain⟨f0,W,V,U,T,f5⟩:=N b f;have hb1:=I.bs b o e;rcases U with h|h
  ·exact I.ok.HC b o e h
  ·have:=(I.ok.bs b o e).1;exact absurd (aI (av this) h) (aZ _)
 ·obtain⟨f0,W,V,U,T,f5⟩:=N b f;rcases ag.mp (t b Q) with h|h
  ·exact W h
  ·exact V h
 ·by_cases A:i<d.length
  ·rw[bt (by simpa using A),aJ] at a;cases h:d[i]? with
   |none=>rw[h] at a;cases a
   |some z=>rw[h] at a;cases a
  have A:=dD A;have F:(caps.map (·.2))[i - d.length]?=Y y:=by rw[<-aS A];exact e1
  have n:(yn caps σ)[i - d.length]?=Y (Y v):=by rw[aS (by simpa using A)] at a;simpa using a
  rw[aJ] at F;obtain⟨⟨j,y'⟩,e4,e5⟩:=ak.mp F;dsimp only at e5;subst e5;unfold yn at n;rw[aJ,e4] at n;have E:(σ[j]?).join=Y v:=by simpa using n
  have e7:σ[j]?=Y (Y v):=by
   cases q:σ[j]? with
   |none=>rw[q] at E;cases E
   |some o=>rw[q] at E;cases o with
    |none=>cases E
    |some v'=>cases E;rfl
  obtain⟨c1,c2,c3⟩:=B.at e4;obtain⟨m,hn,hl⟩:=I.loc;have hv:BY X.env.scope y':=by
   rcases c2 with h|h
   ·exact .inr (.inl h)
   ·exact .inr (.inr h)
  obtain⟨u,r,l⟩:=hl j y' v c1 e7 hv;refine⟨u,r,.inr ⟨?_,?_⟩⟩
  ·exact tq c3
  ·rcases l with ⟨hk,_⟩ | ⟨_,c,D,g⟩
   ·rcases c2 with h|h
    ·rw[hk] at h;cases h
    ·rw[hk] at h;cases h
   ·refine⟨c,Cp (bE c3) D,?_⟩;obtain⟨o,w,O⟩:=g;exact⟨o,k _ _ w,O⟩
 ·obtain⟨v,o,w,O⟩:=I.cell y c (kf e);exact⟨v,o,k _ _ w,O⟩
 ·exact absurd (show p∈([]:Ax) from hp) (by simp)
 ·show (d.map (λ_=>Z)++yn caps σ).length=(d++caps.map (·.2)).length;simp[yn]
def Zy(X:Cx)(b:Lx)(t:TT):Prop :=
 ∀⦃a:Ax⦄ (s:Shared) (σ:St) (H:Hp) (Q:Bool->Hp->Prop),fD X a σ H s->t σ H Q ->
  (zw X) (forIn b true λc r=>if r=true then do let d <-isTrue c X.env (eval c X.env);pure (ForInStep.yield d) else pure (ForInStep.yield r)) (TP X a σ Q) X.xe s
def vD(X:Cx)(a:Lx)(g:c5->Option Bool):Prop:=Zy X a (WK X.K g)
theorem lu:vD X [] (λ_=>Y true):=λa s σ H Q I ⟨ρ,b,c,e,k⟩=>by cases e;rw[d3];exact ar ⟨H,I,k H (.refl H)⟩
theorem nR{c:Expr}(h:Ea X c g):vD X [c] g:=λa s σ H Q I q=>by rw[dO];rw[ai rfl];refine aa (aa (iP (@h a s σ H Q I q) λb d e=>ar ?_));show wpAny _ _ (forIn ([]:Lx) b _) _ _ d;rw[d3];exact ar e
noncomputable def gX(g:c5->Option Bool)(f:c5->Od)(ρc:c5):Lp->Option Lp
 |[]=>Y []
 |d::ds=>(g (Y d::ρc)).bind λb=>if b then (f (Y d::ρc)).bind λy=>(gX g f ρc ds).bind λa=>Y (y::a) else gX g f ρc ds
def iG(q:c5->Option Lp)(caps:List (Nat×Str))(g:c5->Option Bool)(f:c5->Od):c5->Od:=λρ=>
 (q ρ).bind λds=>if ds.length<=sizeLine then (gX g f (pJ caps ρ) ds).map .list else Z
theorem jE.Zz{K:Fg}(h:jE K H σ ρ)(e:Lr)(a:List (Nat×Str)):jE K H (e.map (λ_=>Z)++yn a σ) (e.map (λ_=>Z)++pJ a ρ):=by
 refine⟨by simp[yn,pJ],λi d q=>?_⟩;by_cases c:i<e.length
 ·rw[bt (by simpa using c),aJ] at q;cases h:e[i]? with
  |none=>rw[h] at q;cases q
  |some z=>rw[h] at q;cases q
 have c:=dD c;rw[aS (by simpa using c),ah] at q ⊢;unfold pJ at q;rw[aJ] at q;obtain⟨⟨j,y⟩,l,b⟩:=ak.mp q;dsimp only at b;have k:ρ[j]?=Y (Y d):=by
  cases q:ρ[j]? with
  |none=>rw[q] at b;cases b
  |some o=>rw[q] at b;cases o with
   |none=>cases b
   |some m=>cases b;rfl
 obtain⟨v,g,f⟩:=h.2 j d k;refine⟨v,?_,f⟩;unfold yn;rw[aJ,l];simp[g]
theorem jE.less{K:Fg}{p c:c5}{b:Lr}(h:jE K H σ (p++c))(e:p.length=b.length):jE K H σ (b.map (λ_=>Z)++c):=by
 refine⟨by rw[h.1];simp[e],λi d q=>?_⟩;by_cases a:i<b.length
 ·rw[bt (by simpa using a),aJ] at q;cases h:b[i]? with
  |none=>rw[h] at q;cases q
  |some z=>rw[h] at q;cases q
 have a:=dD a;rw[aS (by simpa using a),ah] at q;exact h.2 i d (by rw[aS (by omega),e];exact q)
theorem AG{b:Program}{j a f:Expr}{i:Lx}{it k:Value}{d:Env} (I:Nat->Shared->Prop)
  (l:∀n s,I n s->wpAny (model b w) A (pyNext it) (λr s₁=>match r with
   |none=>R (.ok .next) s₁
   |some v=>wpAny (model b w) A (letOwnedTupleGo a it v) (λ_ s₁=>wpAny (model b w) A (assign a d v) (λ_ s₂=>
     wpAny (model b w) A (forIn i true λc r=>if r=true then do let ok <-isTrue c d (eval c d);pure (ForInStep.yield ok) else pure (ForInStep.yield r)) (λok s₃=>
      if ok=true then wpAny (model b w) A (eval j d) (λx s₄=>
       wpAny (model b w) A (call (.builtin "list.append") [k,x]) (λ_ s₅=>∃m,m<n/\I m s₅) (λ_ _=>False) s₄) (λ_ _=>False) s₃
      else ∃m,m<n/\I m s₃) (λ_ _=>False) s₂) (λ_ _=>False) s₁) (λ_ _=>False) s₁) (λ_ _=>False) s)
  (n:Nat) (h:I n s):
  codeAny (model b w) A (.compLoop (.ListComp j [⟨a,f,i,0⟩] scope pos) 0 it k d) R s:=by
 refine codeAny_loop rfl I (λn s t=>?_) n h;show wpAny _ A ((compTurn (.ListComp j [⟨a,f,i,0⟩] scope pos) 0 it k d).onRaise (λx=>do noteFrame x d;theTreesLotGoes x)) _ _ s;refine wpAny_noted ?_;rw[compTurn_list];refine aa (wpAny_standAt (aa (bF (l n s t) (λr s₁ e=>?_) λ_ _ z=>False.elim z)));cases r with
 |none=>exact ar e
 |some v=>
  refine aa (bF e (λ_ s₁ e=>?_) λ_ _ z=>False.elim z);refine aa (bF e (λ_ s₂ q=>aa (bF q (λok s₃ g=>?_) λ_ _ z=>False.elim z)) λ_ _ z=>False.elim z);cases ok with
  |false=>exact ar ⟨rfl,g⟩
  |true=>exact aa (aa (bF g (λx s₄ p=>aa (bF p (λ_ s₅ o=>ar (ar ⟨rfl,o⟩)) λ_ _ z=>False.elim z)) λ_ _ z=>False.elim z))
def qG(a:Lw)(n:Nat):Obj:=(zl a.toArray n)
def HZ(X:Cx)(e:Expr)(a:Scope)(i:Expr)(t:TE):Prop :=
 ∀(b:Ax) (s:Shared) (σ:St) (H:Hp) (Q:VK) (R:Value->Addr->Result->Shared->Prop),fD X b σ H s->t σ H Q ->
  (∀(D C:Addr) (j:Shared) (k:Hp) (n:Obj) (m:Str->Ow),fD X ((C,n)::b) σ k j->j.heap.Ns C m->(∀p∈X.pn++b,p.1≠C)->(zB X.s₀)<=C->Q (.ref D) k->R (.ref D) C (.ok .next) j) ->
  (zw X) (eval i X.env) (λl h=>(zw X) (pyIter l) (λit g=>(zw X) (newList []) (λacc f=>
   (zw X) (newFunctionEnv a X.env.globals (wM X.env a) [] X.env.qual Z .none (Y X.env)) (λc d=>
    codeAny (model X.prog X.w) X.A (.compStart e 0 it acc { c with scope:=relabel a X.env }) (R acc c.locals) d) X.xe f) X.xe g) X.xe h) X.xe s
theorem fD.wN{d:Obj}{g:Heap}(I:fD X ((C,d)::pins) σ H s)(k:∀p∈X.pn++pins,p.1≠C)(h:(zB X.s₀)<=C)(i:Heap.SameBut C s.heap g):fD X pins σ H { s with heap:=g }:=by have a:=I.pin (C,d) (by simp);have J:fD X pins σ H s:=I.mW λp j=>I.pin p (au _ (aj _ j));refine J.turned (t':=s.toks) (it:=C) (λb o hb e=>(i.2 b hb).trans e) a.2.1 a.2.2.1 (.inr h) (λy c e z=>?_) k;obtain⟨v,o,f,l⟩:=J.cell y c e;rw[z,a.1] at f;cases f;exact a.2.2.2.2 v l
theorem za{r:c5->Lp->Option Lp}(ρ:c5)(d:fe)(h:((q ρ).bind λds=>if ds.length<=sizeLine then (r ρ ds).map fe.list else Z)=Y d):∃ds a,q ρ=Y ds/\ds.length<=sizeLine/\r ρ ds=Y a/\d=.list a:=by
 obtain⟨ds,g,b⟩:=bind_some h;by_cases c:ds.length<=sizeLine
 ·rw[ai c] at b;obtain⟨a,f,e⟩:=ak.mp b;exact⟨ds,a,g,c,f,e.symm⟩
 ·rw[ao c] at b;cases b
theorem Gy{b:Bool}{o:Od}{r:Option Lp}{a:Lp}(h:(if b then o.bind λy=>r.bind λa=>Y (y::a) else r)=Y a):if b=true then ∃y c,o=Y y/\r=Y c/\a=y::c else r=Y a:=by
 cases b with
 |false=>exact h
 |true=>obtain⟨y,g,f⟩:=bind_some h;obtain⟨c,e,d⟩:=bind_some f;cases d;exact⟨y,c,g,e,rfl⟩
theorem EJ(c:c5)(d:fe)(i a:Lp)(h:gX g f c (d::i)=Y a):∃p b,p.length=1/\Gx 0 d ([Z]++c)=Y (p++c)/\g (p++c)=Y b/\if b=true then ∃y j,f (p++c)=Y y/\gX g f c i=Y j/\a=y::j else gX g f c i=Y a:=by obtain⟨b,k,e⟩:=bind_some h;exact⟨[Y d],b,rfl,rfl,k,Gy e⟩
set_option maxHeartbeats 4000000 in
theorem Cq(A:Hp->Hp->Lp->List V->Prop) (Ug:∀{b G:Hp}{ds:Lp}{vs:List V},A b G ds vs->ds.length=vs.length) (AS:∀{b G G':Hp}{ds:Lp}{vs:List V},A b G ds vs->fJ G G'->A b G' ds vs) {elt iter:Expr}  (N0:Lr)  {ifs:Lx}     {dd:c5->Od}{bd:BD} (cmp:c5->Lp->Option Lp)
  (hc:X.calm=true) (S:jZ scope x) (ZA:∀p∈scope.names,p.2=.free->∃c,X.env.cells.lookup p.1=Y c) (WR:kQ X scope caps)
  (hi:Jd X tg iter q)
  (hg:∀C s H fp,VE (k7 X scope C (N0++caps.map (·.2)) s H fp) tg bd)
  (ht:∀C s H fp,vD (k7 X scope C (N0++caps.map (·.2)) s H fp) ifs g)
  (he:∀C s H fp,PE (k7 X scope C (N0++caps.map (·.2)) s H fp) elt (λσ G Q=>∃ρ yd,jE X.K G σ ρ/\f ρ=Y yd/\∀v G',fJ G G'->(∀b ds vs,A b G ds vs->A b G' (ds++[yd]) (vs++[v]))->Q v G'))
  (S7:∀ρ d,dd ρ=Y d->∃ds ys,q ρ=Y ds/\ds.length<=sizeLine/\cmp (pJ caps ρ) ds=Y ys/\d=.list ys) (h0:∀c ys,cmp c []=Y ys->ys=[])
  (h1:∀c d ds ys,cmp c (d::ds)=Y ys->∃p b,p.length=N0.length/\bd d (N0.map (λ_=>Z)++c)=Y (p++c)/\g (p++c)=Y b/\if b=true then ∃y zs,f (p++c)=Y y/\cmp c ds=Y zs/\ys=y::zs else cmp c ds=Y ys):
  HZ X (.ListComp elt [⟨tg,iter,ifs,0⟩] scope pos) scope iter (λσ H Q=>∃ρ d,jE X.K H σ ρ/\dd ρ=Y d/\A H H [] []/\∀ys G D vs,d=.list ys->fJ H G->G D=Z->A H G ys vs->Q (.ref D) (upd G D (.lst vs))):=by
 intro pins s σ H Q R I ⟨ρ,d,Yq,e,ZC,k⟩ fin;obtain⟨ds,ys,e1,hz,e3,rfl⟩:=S7 ρ d e;refine iP (@hi pins s σ H (λJ H'=>fJ H H'/\EI X.K J ds H') I ⟨ρ,ds,Yq,e1,λJ H' s' w=>⟨s',w⟩⟩) λv sA hA=>iP hA λZm L ⟨it,fp,tn,J,H2,ZD,I2,T,Yr,f2,U,wd⟩=>?_;subst ZD;have WS:=Yq.same U;refine cy (wpAny_newFunctionEnv S.J4 (by intro y hy;simp at hy) (λM F E=>?_) S.kind);dsimp only at F E ⊢;generalize WT:L.heap.push { cls:=.type "list",dict:=Z,data:=.seq ([]:Lw).toArray }=S8 at F E ⊢;have Ys:S8.objs.size=(zB L)+1:=by rw[<-WT,dY]
 generalize hC:S8.objs.size=C at F E Ys ⊢;generalize hD:(zB L)=D at Ys ⊢;have WU:D≠C:=by omega
 have P:(zB L)<=C:=by omega
 have old:∀b o,L.heap.get? b=Y o->M.get? b=Y o:=λb o e=>by have j:=av e;exact E.extBut b o (aN (aI j P)) (af _ (WT▸af _ e))
 have ZE:M.get? D=Y (qG [] 0):=by refine E.extBut _ _ WU (af _ (WT▸?_));rw[<-hD];exact aG _ rfl
 have Yt:∀b∈fp,∃o,L.heap.get? b=Y o:=λb j=>by obtain⟨o,ho,_⟩:=T.obj 0 _ Yr b j;exact⟨o,ho⟩
 have I3:fD (k7 X scope C (N0++caps.map (·.2)) L H2 fp) [] (N0.map (λ_=>Z)++yn caps σ) H2 { L with heap:=M,toks:=L.toks+([]:List (Str×Value)).length } :=
  Rp N0 I2 hc S ZA WR f2 Yt P old F rfl I2.bare
 have WV:∀b∈fp,b≠D/\b≠C:=λb j=>by obtain⟨o,ho⟩:=Yt b j;have:=av ho;exact⟨aN (hD▸this),aN (aI this P)⟩
 have WW:∀(W:Cx),W=k7 X scope C (N0++caps.map (·.2)) L H2 fp->∀{G:Hp}{σ':St}{s':Shared}{l:Lw}{n:Nat},fD W [(D,qG l n)] σ' G s' ->
   ∀{t':Nat}{h':Heap}{its':Lw}{n':Nat},(∀b o,b≠D->s'.heap.get? b=Y o->h'.get? b=Y o)->h'.get? D=Y (qG its' n')->fD W [(D,qG its' n')] σ' G { s' with heap:=h',toks:=t' }:=by
  intro W hX G σ' s' l n J1 t' h' its' n' kk ZF;have O:=J1.pin (D,qG l n) (by simp);have J2:fD W [] σ' G s':=J1.mW λp O=>by cases O
  have J3:fD W [] σ' G { s' with heap:=h',toks:=t' }:=by
   refine J2.turned (it:=D) (λb o j e=>kk b o j e) O.2.1 O.2.2.1 (.inr ?_) (λy c e z=>?_) (λp O=>?_)
   ·subst hX;show (zB L)<=D;omega
   ·obtain⟨v,o,ho,hd⟩:=J2.cell y c e;rw[z,O.1] at ho;cases ho;have ZG:(qG l n).data=.cell v:=hd;cases ZG
   ·subst hX;exact absurd (show p∈([]:Ax)++[] from O) (by simp)
  refine J3.mW λp S8=>?_;have:p=(D,qG its' n'):=by simpa using S8
  subst this;exact⟨ZF,O.2.1,O.2.2.1,O.2.2.2.1,λv z=>by have z':(qG its' n').data=.cell v:=z;cases z'⟩
 have WX:D∉vb X.stack:=λj=>by obtain⟨_,o,ho,_⟩:=I2.stack.mem j;have:=av ho;exact absurd this (by rw[hD];exact aZ _)
 have I4:fD (k7 X scope C (N0++caps.map (·.2)) L H2 fp) [(D,qG [] 0)] (N0.map (λ_=>Z)++yn caps σ) H2 { L with heap:=M,toks:=L.toks+([]:List (Str×Value)).length }:=by
  refine I3.mW λp O=>?_;have:p=(D,qG [] 0):=by simpa using O
  subst this;exact⟨ZE,I2.iY.fresh (by omega),WU,WX,λv z=>by have z':(qG [] 0).data=.cell v:=z;cases z'⟩
 have Yu:tn 0 M:=T.keep 0 _ _ Yr λb j o e=>old b o e;let W:=k7 X scope C (N0++caps.map (·.2)) L H2 fp;have stat:∀{G:Hp}{pl:Ax},(∀p∈pl,p.1=D)->(∀b∈fp,G b=Z)->∀b∈fp,qA W pl G b:=λ{G pl} ZH hn b j=>by
  obtain⟨f0,f1,Yv,f3,f4,f5⟩:=f2 b j;refine⟨hn b j,(WV b j).2,λz=>?_,.inl j,λy c e=>f4 y c (kf e),λp O z=>?_⟩
  ·rcases ag.mp (I2.Ai b z) with h|h
   ·exact f1 h
   ·exact Yv h
  ·have Uh:p∈pl:=by simpa [W,k7] using O
   exact(WV b j).1 (by rw[<-z];exact ZH p Uh)
 have loop:∀s₃:Shared,s₃={ L with heap:=M,toks:=L.toks+([]:List (Str×Value)).length } ->
   codeAny (model X.prog X.w) X.A (.compLoop (.ListComp elt [⟨tg,iter,ifs,0⟩] scope pos) 0 (.ref it) (.ref D) (compEnvC scope (wM X.env scope) C X.env))
    (R (.ref D) C) s₃:=by
  rintro s₃ rfl;refine AG (λn s'=>∃(i:Nat) (σ':St) (G:Hp) (l:Lw) (vs:List V) (m:Nat) (done:Lp) (VF:Lp),fD W [(D,qG l m)] σ' G s'/\tn i s'.heap/\(∀b∈fp,G b=Z)/\fJ H2 G/\jE X.K G σ' (N0.map (λ_=>Z)++pJ caps ρ) /\
    f7 vs l/\A H G done vs/\done.length<=i/\i<=ds.length/\cmp (pJ caps ρ) (ds.drop i)=Y VF/\ys=done++VF/\n=ds.length - i) ?_ ds.length
   ⟨0,_,H2,[],[],0,[],ys,I4,Yu,λb j=>(f2 b j).1,.refl _,WS.Zz N0 caps,.nil,AS ZC U,aH _,dH _,by simpa using e3,rfl,by simp⟩
  rintro n s' ⟨i,σ',G,l,vs,m,done,VF,JJ,st,fr,sG,WY,rv,Rq,hdi,hil,e5,e6,rfl⟩;obtain⟨w1,w2⟩:=wd G sG;by_cases yh:i<ds.length
  ·
   have hd:ds[i]?=Y ds[i]:=aO yh;obtain⟨w3,w4⟩:=w2 i _ hd;rw[cm yh] at e5;obtain⟨pr,b,Yw,ZI,eb,e7⟩:=h1 _ _ _ _ e5;refine iP (T.item W rfl rfl rfl rfl i _ s' σ' G (λ_ _=>False) JJ (stat (by simp) fr) st w3) λr s5 ⟨u,hr,h5⟩=>?_;subst hr;refine iP h5 λ_ s6 ⟨y,G6,J6,r6,y6,WZ,ZJ⟩=>?_;obtain⟨s7,i7⟩:=w4 y G6 y6;have W0:=stat (G:=G6) (pl:=[(D,qG l m)]) (by simp) ZJ;have ZK:=J6.pinned W0 (T.obj _ _ WZ);have Ui:jE X.K G6 σ' (N0.map (λ_=>Z)++pJ caps ρ):=WY.same s7;refine iP (hg C L H2 fp s6 σ' G6 y u (λσ8 H8=>fJ G6 H8/\jE X.K H8 σ8 (pr++pJ caps ρ)) ZK r6 ⟨_,ds[i],pr++pJ caps ρ,Ui,i7,ZI,λσ8 H8 s8 h8=>⟨s8,h8⟩⟩) λ_ s8 ⟨σ8,G8,J8,N,Np⟩=>?_;refine iP (ht C L H2 fp s8 σ8 G8 (λc H9=>c=b/\fJ G8 H9) J8 ⟨_,b,Np,eb,λH9 s9=>⟨rfl,s9⟩⟩) λok s9 ⟨G9,J9,⟨iY,t⟩⟩=>?_;subst iY;have P1:∀{σ7:St}{G7:Hp}{s7:Shared}{pl:Ax},fD W (pl++wx fp s6.heap) σ7 G7 s7->tn (i+1) s7.heap/\∀b∈fp,G7 b=Z:=λ{σ7 G7 s7 pl} J7=>by refine⟨T.keep _ _ _ WZ λb j o e=>(J7.pin (b,o) (au _ (au _ (pF j e)))).1,λb j=>?_⟩;obtain⟨o,e,d⟩:=T.obj _ _ WZ b j;exact(J7.pin (b,o) (au _ (au _ (pF j e)))).2.1
   cases ok with
   |false=>rw[ao aR] at e7 ⊢;obtain⟨k1,k2⟩:=P1 J9;exact⟨ds.length - (i+1),by omega,i+1,σ8,G9,l,vs,m,done,VF,J9.qB,k1,k2,sG.trans (s7.trans (N.trans t)),(Np.less Yw).same t,rv,AS Rq (s7.trans (N.trans t)),by omega,yh,e7,e6,rfl⟩
   |true=>
    rw[ai rfl] at e7 ⊢;obtain⟨yd,ZL,e8,ZM,rfl⟩:=e7;refine iP (he C L H2 fp s9 σ8 G9 (λv W2=>fJ G9 W2/\∀b ds vs,A b G9 ds vs->A b W2 (ds++[yd]) (vs++[v])) J9 ⟨_,yd,Np.same t,e8,λv W2 VG W3=>⟨VG,W3⟩⟩) λYx VG ⟨v10,Yy,Yz,ZN,J5,W3⟩=>?_;obtain⟨k1,k2⟩:=P1 Yz;have YA:fD W [(D,qG l m)] σ8 Yy VG:=Yz.qB;have VH:=YA.pin (D,qG l m) (by simp);have hlen:l.length<=sizeLine:=by have h1:=rv.length;have h2:=Ug Rq;omega
    refine wpAny_list_append_plain (hsz:=by rw[az];exact hlen) ⟨m,VH.1⟩ λZO ⟨YB,W4⟩ Uj=>?_;have ZP:=WW W rfl YA (t':=VG.toks) (h':=ZO) (its':=l++[Yx]) (n':=YB) (λb o j e=>(Uj.2 b j).trans e) (by rw[W4];simp[qG]);refine⟨ds.length - (i+1),by omega,i+1,σ8,Yy,l++[Yx],vs++[v10],YB,done++[yd],ZL,ZP,?_,k2,sG.trans (s7.trans (N.trans (t.trans J5))),(Np.less Yw).same (t.trans J5),rv.append (.cons ZN .nil),W3 _ _ _ (AS Rq (s7.trans (N.trans t))),by simp;omega,yh,ZM,by simp[e6],rfl⟩;exact T.keep _ _ _ k1 λb j o e=>(Uj.2 b (WV b j).1).trans e
  ·
   have ZQ:i=ds.length:=by omega
   subst ZQ;rw[List.drop_length] at e5;cases h0 _ _ e5;rw[aF] at e6;subst e6;refine iP (T.done W rfl rfl rfl rfl _ _ s' σ' G (λ_ _=>False) JJ (stat (by simp) fr) st w1) λr s9 ⟨hr,J9⟩=>?_;subst hr;have VH:=J9.pin (D,qG l m) (by simp);obtain⟨mC,ZR,_⟩:=J9.loc;have S9:G D=Z:=VH.2.1;have ZS:G C=Z:=J9.free;have W5:qj X.prog X.w (upd G D (.lst vs)) s9.heap:=λa o e=>by
    by_cases ha:a=D
    ·subst ha;rw[fX] at e;cases e;have h1:=rv.length;have h2:=Ug Rq;exact⟨by omega,l,m,rv,VH.1⟩
    ·rw[fK ha] at e;exact(J9.iY a o e).uq (λc w' hcc q=>q) (λc q=>by rw[fK (gC q S9)];exact q) λc xs q=>by rw[fK (gC q S9)];exact q
   have ne2:∀b o,L.heap.get? b=Y o->b≠C/\b≠D:=λb o e=>by have:=av e;exact⟨aN (aI this P),aN (hD▸this)⟩
   have un:Un (vb X.stack) fp H2 (upd G D (.lst vs)) L.heap s9.heap:=by
    have B:=J9.base;refine⟨λb o e n j hx=>B.keep b o e n j hx,λb o e n j hx=>B.slot b o e n j hx,λb o e n hx=>by rw[fK (ne2 b o e).2];exact B.free b o e n hx,λb o e hx=>B.there b o e hx,λb xs e=>by rw[fK (gC (B.rR b xs e) S9)];exact B.rR b xs e,
     λb o u e=>by rw[fK (gC (B.qw b o u e) S9)];exact B.qw b o u e,λb ps e=>?_⟩
    obtain⟨mm,e1⟩:=B.sk b ps e;exact⟨mm,by rw[fK (gC e1 S9)];exact e1⟩
   have I9:fD X pins σ (upd G D (.lst vs)) s9:=I2.Tp (s':=s9) (ch:=fp) J9.os un W5 J9.bare (λb j=>by obtain⟨f0,f1,Yv,f3,f4,f5⟩:=f2 b j;exact⟨f3,f1,f4,f5⟩);have ZT:∀p∈X.pn++pins,p.1≠C:=λp O=>(ne2 p.1 p.2 (I2.pin p O).1).1;have ZU:(zB X.s₀)<=C:=bu I2.sz P;obtain⟨oC,es,ep,YC,rC⟩:=ZR;have W6:C∉X.fs:=λj=>by
    have h1:=J9.ok.Jb;have:C∈vb X.stack:=by
     rcases I2.ok.S4 with z | ⟨z,_⟩
     ·rw[z];exact j
     ·rw[z];obtain⟨a,h1,h2⟩:=bw.mp j;exact bw.mpr ⟨a,aj _ h1,h2⟩
    obtain⟨_,o,ho,_⟩:=I2.stack.mem this;exact(ne2 C o ho).1 rfl
   have ZV:C≠X.env.locals:=λz=>by obtain⟨mL,ZW,_⟩:=I2.loc;obtain⟨oL,_,_,Wb,_⟩:=ZW;exact(ne2 _ oL Wb).1 z.symm
   refine fin D C s9 _ oC mC (I9.mW λp O=>?_) ⟨oC,es,ep,YC,rC⟩ ZT ZU (k _ _ D _ rfl (U.trans sG) S9 Rq);rcases ag.mp O with z|z
   ·subst z;refine⟨YC,by rw[fK (Ne.symm WU)];exact ZS,ZV,W6,λv z=>?_⟩;rw[rC.1] at z;cases z
   ·exact I9.pin p (au _ z)
 exact codeAny_compStart_list (loop _ rfl) (T.self X.A 0 _ _ _ Yu (loop _ rfl))
theorem wO(A:Hp->Hp->Lp->List V->Prop) (k:∀{b G:Hp}{ds:Lp}{vs:List V},A b G ds vs->ds.length=vs.length) (y:∀{b G G':Hp}{ds:Lp}{vs:List V},A b G ds vs->fJ G G'->A b G' ds vs) {j a:Expr}{o:Pos}{h:Lx}
  (w:X.calm=true) (S:jZ scope x) (m:∀p∈scope.names,p.2=.free->∃c,X.env.cells.lookup p.1=Y c) (i:kQ X scope caps) (l:(x::caps.map (·.2)).Nodup)
  (t:Jd X (.Name x o) a q)
  (r:∀C s H fp,vD (k7 X scope C (x::caps.map (·.2)) s H fp) h g)
  (u:∀C s H fp,PE (k7 X scope C (x::caps.map (·.2)) s H fp) j (λσ G Q=>∃ρ yd,jE X.K G σ ρ/\f ρ=Y yd/\∀v G',fJ G G'->(∀b ds vs,A b G ds vs->A b G' (ds++[yd]) (vs++[v]))->Q v G')):
  HZ X (.ListComp j [⟨.Name x o,a,h,0⟩] scope pos) scope a (λσ H Q=>∃ρ d,jE X.K H σ ρ/\iG q caps g f ρ=Y d/\A H H [] []/\∀n G D vs,d=.list n->fJ H G->G D=Z->A H G n vs->Q (.ref D) (upd G D (.lst vs))):=
 Cq A k y [x] (gX g f) w S m i t (λC s H fp=>wK 0 l rfl (.inl (b5 S.var)) (.inr (b5 S.var))) r u za (λ_ _ e=>by cases e;rfl) EJ
theorem Gz{a:Expr}{g:Cx}(h:PD g a f)(l:g.K=X.K):PE g a (λσ G Q=>∃ρ d,jE X.K G σ ρ/\f ρ=Y d/\∀v c,fJ G c->(∀(b:Hp) ds vs,dt X.K G ds vs->dt X.K c (ds++[d]) (vs++[v]))->Q v c) :=
 PE.imp h λσ G Q ⟨ρ,d,m,e,k⟩=>⟨ρ,d,by rw[l];exact m,e,λv c s i=>k v c s λ_ _ _ j=>(j.same s).append (dt.cons (by rw[l] at i;exact i) dt.nil)⟩
theorem HZ.data{a:Expr}{i:c5->Od}(h:HZ X e scope a (λσ H Q=>∃ρ d,jE X.K H σ ρ/\i ρ=Y d/\dt X.K H [] []/\∀ys G D vs,d=.list ys->fJ H G->G D=Z->dt X.K G ys vs->Q (.ref D) (upd G D (.lst vs)))):HZ X e scope a (tD X.K i) :=
 λb s σ H Q R I ⟨ρ,d,c,e,k⟩ f=>h b s σ H Q R I ⟨ρ,d,c,e,dt.nil,λys G D vs m j g l=>k _ _ (j.trans (lg g)) (by rw[m];exact Cm g l)⟩ f
theorem GA{e a:Expr}{k:Pos}{b:Lx}
  (o:X.calm=true) (S:jZ scope x) (j:∀p∈scope.names,p.2=.free->∃c,X.env.cells.lookup p.1=Y c) (d:kQ X scope caps) (i:(x::caps.map (·.2)).Nodup)
  (m:Jd X (.Name x k) a q)
  (l:∀C s H fp,vD (k7 X scope C (x::caps.map (·.2)) s H fp) b g)
  (n:∀C s H fp,PD (k7 X scope C (x::caps.map (·.2)) s H fp) e f):HZ X (.ListComp e [⟨.Name x k,a,b,0⟩] scope pos) scope a (tD X.K (iG q caps g f)):=
 (wO (λ_ G ds vs=>dt X.K G ds vs) dt.length (λh s=>h.same s) o S j d i m l λC s H fp=>Gz (n C s H fp) rfl).data
theorem HZ.pe{e a:Expr}{i:Pos}{d:Lx}{t:TE} (h:HZ X (.ListComp e [⟨.Name x i,a,d,0⟩] scope pos) scope a t) (S:jZ scope x) (g:∀p∈scope.names,p.2=.free->∃c,X.env.cells.lookup p.1=Y c)
  (k:∀x,foldedSetIterable a X.env x=pure x:=by intro _;rfl):PE X (.ListComp e [⟨.Name x i,a,d,0⟩] scope pos) t:=by
 intro b s σ H Q I o;rw[eval_ListComp];refine cU (use:=Z) rfl k (oV g) S.kind S.loc (@h b s σ H Q (compPost (model X.prog X.w) X.A X.xe Z (EP X b σ Q)) I o ?_);intro D C v u y m r n l j q;exact⟨m,n,λz f=>⟨.ref D,u,r.wN l j f,rfl,q⟩⟩
theorem Nq{h a:Expr}{j:Pos}{b:Lx}
  (o:X.calm=true) (S:jZ scope x) (d:∀p∈scope.names,p.2=.free->∃c,X.env.cells.lookup p.1=Y c) (e:kQ X scope caps) (i:(x::caps.map (·.2)).Nodup)
  (m:Jd X (.Name x j) a q)
  (k:∀C s H fp,vD (k7 X scope C (x::caps.map (·.2)) s H fp) b g)
  (n:∀C s H fp,PD (k7 X scope C (x::caps.map (·.2)) s H fp) h f)
  (l:∀x,foldedSetIterable a X.env x=pure x:=by intro _;rfl):PD X (.ListComp h [⟨.Name x j,a,b,0⟩] scope pos) (iG q caps g f) :=
 (GA o S d e i m k n).pe S d l
theorem AH{y:Str}{j g:Pos}{f a:Expr}{l:Pos}{d:Lx}{t:TE} (h:HZ X (.ListComp f [⟨.Name x l,a,d,0⟩] scope pos) scope a t) (S:jZ scope x) (u:∀p∈scope.names,p.2=.free->∃c,X.env.cells.lookup p.1=Y c)
  (W:X.N.Nodup) (U:X.N[i]?=Y y) (F:X.env.scope.names.lookup y=Y .local) (n:swapsWith (.ListComp f [⟨.Name x l,a,d,0⟩] scope pos) (Y (.Name y j)) g.line X.env=pure true)
  (O:∀x,foldedSetIterable a X.env x=pure x:=by intro _;rfl):PS X (.Assign [.Name y j] (.ListComp f [⟨.Name x l,a,d,0⟩] scope pos) g) (QK t (Ge i)):=by
 intro b s σ H D I V;rw[exec_Assign_Name_used _ _ _ _ n];refine aa (wpAny_standAt (aa ?_));show wpAny _ X.A (do let _ <-comprehension (.ListComp f [⟨.Name x l,a,d,0⟩] scope pos) scope X.env _ (newList []) false (eval a X.env) (Y (assign (.Name y j) X.env))) _ _ s;refine aa (bF (cU (use:=Y (assign (.Name y j) X.env)) (Q:=λ_ k=>SP X b D .next k) rfl O (oV u) S.kind S.loc
  (@h b s σ H _ (compPost (model X.prog X.w) X.A X.xe (Y (assign (.Name y j) X.env)) (λ_ k=>SP X b D .next k)) I V ?_)) (λ_ k P=>ar (ar P)) λ_ _ e=>e)
 intro B C K H9 E m G T R M q;show wpAny _ X.A (assign (.Name y j) X.env (.ref B)) _ _ _;refine bF (oA W U (.inl F) (.inr F) K σ H9 (.ref B) (.ref B) (λσ' H'=>D.nx σ' H') G rfl q) (λ_ k ⟨σ',H',J,L⟩=>?_) λ_ _ e=>e;have z:=J.pin (C,E) (by simp);have v:=G.pin (C,E) (by simp);refine⟨m,T.at' λo e=>?_,λh' r=>⟨σ',H',J.wN R M r,L⟩⟩;rw[v.1] at e;cases e;exact z.1
end
def Ka:HO->Prop
 |.lst _=>True
 |.dK _=>True
 |_=>False
def fx(G:Hp):List (Addr×HO)->Hp
 |[]=>G
 | (p,o)::r=>upd (fx G r) p o
inductive qr:List (Addr×HO)->Prop
 |nil:qr []
 |one {p:Addr}{o:HO}{r:List (Addr×HO)}:Ka o->qr r->qr ((p,o)::r)
 |ins {p C dx:Addr}{fs:List (Str×V)}{r:List (Addr×HO)}:qr r->qr ((p,.ins C dx fs)::(dx,.own p)::r)
theorem qr.append{A:List (Addr×HO)}(h:qr A)(h':qr B):qr (A++B):=by
 induction h with
 |nil=>exact h'
 |one f _ a=>exact .one f a
 |ins _ a=>exact .ins a
structure jF (G:Hp) (B:List (Addr×HO)):Prop where
 nd:(B.map (·.1)).Nodup
 free:∀x∈B,G x.1=Z
 ok:qr B
theorem jF.nil{G:Hp}:jF G []:=⟨eX,(λx a=>by cases a),.nil⟩
theorem gY{G:Hp}{a:Addr}:∀{B:List (Addr×HO)},(∀x∈B,x.1≠a)->fx G B a=G a
 |[],_=>rfl
 | (p,o)::r,h=>by show upd (fx G r) p o a=G a;rw[fK (Ne.symm (h (p,o) (by simp)))];exact gY λx b=>h x (aj _ b)
theorem gw{G:Hp}:∀{B:List (Addr×HO)},(B.map (·.1)).Nodup->∀x∈B,fx G B x.1=Y x.2
 |[],_,_,h=>by cases h
 | (p,o)::r,nd,x,hx=>by
  rw[ae,bj] at nd;rcases ag.mp hx with e|hx
  ·subst e;exact fX
  ·show upd (fx G r) p o x.1=Y x.2;have a:x.1≠p:=λe=>nd.1 (by rw[<-e];exact aq.mpr ⟨x,hx,rfl⟩);rw[fK a];exact gw nd.2 x hx
theorem vk(B:List (Addr×HO)):(∃x∈B,x.1=a)\/(∀x∈B,x.1≠a):=by
 by_cases h:∃x∈B,x.1=a
 ·exact .inl h
 ·exact .inr λx b e=>h ⟨x,b,e⟩
theorem rA(c:(B.map (·.1)).Nodup)(e:∀x∈B,H x.1=Y x.2)(d:∀a,(∀x∈B,x.1≠a)->H a=G a):H=fx G B:=by
 funext a
 rcases vk (a:=a) B with ⟨x,b,rfl⟩|h
 ·rw[e x b,gw c x b]
 ·rw[d a h,gY h]
theorem h9(G:Hp):∀(A B:List (Addr×HO)),fx G (A++B)=fx (fx G B) A
 |[],_=>rfl
 | (p,o)::r,B=>by show upd (fx G (r++B)) p o=upd (fx (fx G B) r) p o;rw[h9 G r B]
theorem iD{A:List (Addr×HO)}(d:(A.map (·.1)).Nodup)(h:A.Perm B):fx G A=fx G B:=by have b:(B.map (·.1)).Nodup:=(h.map (·.1)).nodup_iff.mp d;refine rA b (λx c=>gw d x (h.mem_iff.mpr c)) λa e=>gY λx c=>e x (h.mem_iff.mp c)
theorem jF.same(f:jF G B):fJ G (fx G B):=λa o e=>by
 rw[gY λx b z=>?_]
 ·exact e
 ·have:=f.free x b;rw[z,e] at this;cases this
theorem jF.Cr{A:List (Addr×HO)}(f:jF G (A++B))(d:qr A):jF (fx G B) A:=by have a:=f.nd;rw[aK,a7] at a;refine⟨a.1,λx b=>?_,d⟩;rw[gY λy c z=>a.2.2 _ (aq.mpr ⟨x,b,rfl⟩) _ (aq.mpr ⟨y,c,rfl⟩) z.symm];exact f.free x (aC _ b)
theorem jF.Cs{A:List (Addr×HO)}(f:jF G (A++B))(c:qr B):jF G B:=by have a:=f.nd;rw[aK,a7] at a;exact⟨a.2.1,λx b=>f.free x (au _ b),c⟩
theorem jF.join{A:List (Addr×HO)}(f:jF G B)(g:jF (fx G B) A):jF G (A++B):=by
 have d:∀x∈A,∀y∈B,x.1≠y.1:=λx e y c z=>by have i:=g.free x e;rw[z,gw f.nd y c] at i;cases i
 refine⟨?_,λx e=>?_,g.ok.append f.ok⟩
 ·rw[aK,a7];refine⟨g.nd,f.nd,λa k b j z=>?_⟩;obtain⟨x,e,rfl⟩:=aq.mp k;obtain⟨y,c,rfl⟩:=aq.mp j;exact d x e y c z
 ·rcases aw.mp e with h|h
  ·have i:=g.free x h;rw[gY λy c z=>d x h y c z.symm] at i;exact i
  ·exact f.free x h
theorem jF.perm{A:List (Addr×HO)}(f:jF G A)(h:A.Perm B)(a:qr B):jF G B :=
 ⟨(h.map (·.1)).nodup_iff.mp f.nd,λx b=>f.free x (h.mem_iff.mpr b),a⟩
section
variable {p:Addr}{o:HO}
theorem Nr(I:fD X pins σ (upd H p o) s)(g:Ka o):∃a,s.heap.get? p=Y a/\∀v,a.data≠.cell v:=by
 have h:=I.iY p o fX;cases o with
 |lst d=>obtain⟨_,b,n,_,e⟩:=h;exact⟨_,e,λv z=>by have c:Data.seq b.toArray n=.cell v:=z;cases c⟩
 |dK f=>obtain⟨_,_,d,_,a,j,k,e,_,i,_⟩:=h;exact⟨a,e,λv z=>by rw[i] at z;cases z⟩
 |_=>exact g.elim
theorem Kb{P:Program}{s:Hp}{f:Heap}{a:Obj}(k:Ka o)(x:jh P w H h p o)(e:h.get? p=Y a)(g:f.get? p=Y a):jh P w s f p o:=by
 cases o with
 |lst d=>obtain⟨z,b,n,r,q⟩:=x;rw[e] at q;cases q;exact⟨z,b,n,r,g⟩
 |dK j=>obtain⟨z,y,d,r,i,l,m,q,c⟩:=x;rw[e] at q;cases q;exact⟨z,y,d,r,a,l,m,g,c⟩
 |_=>exact k.elim
theorem Uk(I:fD X pins σ (upd H p o) s)(V:H p=Z)(j:Ka o):∃k,fD X (pins++[(p,k)]) σ H s /\
  ∀(G:Hp) (s':Shared) (σ':St),fD X (pins++[(p,k)]) σ' G s'->G p=Z/\fD X pins σ' (upd G p o) s':=by
 obtain⟨k,D,f⟩:=Nr I j;have nt:∀b u,H b=Y u->b≠p:=λb u e=>gC e V;have t:∀b,upd H p o b=Z->b≠p/\H b=Z:=λb e=>by
  have g:b≠p:=λz=>by rw[z,fX] at e;cases e
  rw[fK g] at e;exact⟨g,e⟩
 have F:∀b u,upd H p o b=Y u->u≠o->H b=Y u:=λb u e hu=>by
  by_cases g:b=p
  ·rw[g,fX] at e;cases e;exact absurd rfl hu
  ·rw[fK g] at e;exact e
 have l:∀i,(HO.tup i)≠o:=λi e=>by rw[<-e] at j;exact j
 have B:∀q u,(HO.Ja q u)≠o:=λq u e=>by rw[<-e] at j;exact j
 have y:∀w,(HO.MJ w)≠o:=λw e=>by rw[<-e] at j;exact j
 have A:∀a,(HO.own a)≠o:=λa e=>by rw[<-e] at j;exact j
 have W:p≠X.env.locals:=λz=>by have:=I.free;rw[<-z,fX] at this;cases this
 have T:p∉X.fs:=λg=>by obtain⟨_,q,d,_⟩:=I.ok.qx.mem g;have:=I.base.free p q d (I.ok.Jb p g) λz=>I.ok.B4 p z g;rw[fX] at this;cases this
 have P:∀q∈X.pn++pins,q.1≠p:=λq d=>(t q.1 (I.pin q d).2.1).1;have h0:∀q,X.s₀.heap.get? p=Y q->X.H₀ p=Z->p∈X.ex:=λq d S=>by
  by_cases r:p∈X.ex
  ·exact r
  ·have:=I.base.free p q d S r;rw[fX] at this;cases this
 refine⟨k,?_,?_⟩
 ·refine⟨I.ok,I.os,I.bare,⟨I.base.keep,I.base.slot,λb q e n r=>(t b (I.base.free b q e n r)).2,I.base.there,λb i e=>F b _ (I.base.rR b i e) (l i),λb q u e=>F b _ (I.base.qw b q u e) (B q u),λb w e=>?_⟩,I.loc,I.cell,(t _ I.free).2,λx c e=>(t c (I.mU x c e)).2,λq d=>?_,λa u e=>?_,I.len⟩
  ·obtain⟨m,U⟩:=I.base.sk b w e;exact⟨m,F b _ U (y _)⟩
  ·rcases aw.mp d with h|h
   ·obtain⟨M,L,K⟩:=I.pin q (aC _ h);exact⟨M,(t _ L).2,K⟩
   ·rcases aw.mp h with h|h
    ·obtain⟨M,L,K⟩:=I.pin q (au _ h);exact⟨M,(t _ L).2,K⟩
    ·have:q=(p,k):=by simpa using h
     subst this;exact⟨D,V,W,T,f⟩
  ·have N:=nt a u e;exact(I.iY a u (by rw[fK N];exact e)).uq (λ_ _ _ q=>q) (λb q=>F b _ q (A a)) λb i q=>F b _ q (l i)
 ·intro G s' σ' J;have R:=J.pin (p,k) (au _ (au _ (by simp)));have E:G p=Z:=R.2.1;have C:∀b u,G b=Y u->upd G p o b=Y u:=λb u e=>by rw[fK (gC e E)];exact e
  refine⟨E,⟨J.ok,J.os,J.bare,⟨J.base.keep,J.base.slot,λb q e n r=>?_,J.base.there,λb i e=>C b _ (J.base.rR b i e),λb q u e=>C b _ (J.base.qw b q u e),λb w e=>?_⟩,J.loc,J.cell,?_,λx c e=>?_,λq d=>?_,λa u e=>?_,J.len⟩⟩
  ·have g:b≠p:=λz=>by subst z;exact r (h0 q e n)
   rw[fK g];exact J.base.free b q e n r
  ·obtain⟨m,U⟩:=J.base.sk b w e;exact⟨m,C b _ U⟩
  ·rw[fK (Ne.symm W)];exact J.free
  ·have hc:c≠p:=λz=>by
    obtain⟨v,q,d,hd⟩:=J.cell x c e;rw[z] at d;have Q:s'.heap.get? p=Y k:=R.1;rw[Q] at d;cases d;exact f v hd
   rw[fK hc];exact J.mU x c e
  ·have O:q∈X.pn++(pins++[(p,k)]):=by
    rcases aw.mp d with h|h
    ·exact aC _ h
    ·exact au _ (aC _ h)
   obtain⟨M,L,K⟩:=J.pin q O;exact⟨M,by rw[fK (P q d)];exact L,K⟩
  ·by_cases N:a=p
   ·subst N;rw[fX] at e;cases e;exact Kb j (I.iY a o fX) D R.1
   ·rw[fK N] at e;exact(J.iY a u e).uq (λ_ _ _ q=>q) (λb q=>C b _ q) λb i q=>C b _ q
theorem Ul{d:Addr}{y:List (Str×V)}(I:fD X pins σ (upd (upd H d (.own p)) p (.ins C d y)) s)(hn:H p=Z)(Q:H d=Z)(ZX:d≠p):∃ob t,fD X (pins++[(p,ob),(d,t)]) σ H s /\
  ∀(G:Hp) (s':Shared) (σ':St),fD X (pins++[(p,ob),(d,t)]) σ' G s'->G p=Z/\G d=Z/\fD X pins σ' (upd (upd G d (.own p)) p (.ins C d y)) s':=by
 obtain⟨z1,z2,z3,ZY,mA,ns,rl,wi⟩:=(show jh X.prog X.w (upd (upd H d (.own p)) p (.ins C d y)) s.heap p (.ins C d y) from I.iY p _ fX)
 obtain⟨t,es,ep,P,S,D⟩:=id ns;have r:∀v,(W.instObj C d).data≠.cell v:=λv z=>by cases z
 have j:∀v,t.data≠.cell v:=λv z=>by
  first
  | (rw[S] at z;cases z)
  | (rw[S.2.2] at z;cases z)
  | (rw[D.1] at z;cases z)
 have A:∀(F:Hp),upd (upd F d (.own p)) p (.ins C d y) d=Y (.own p):=λF=>by rw[fK ZX,fX]
 have K:∀b,upd (upd H d (.own p)) p (.ins C d y) b=Z->b≠p/\b≠d/\H b=Z:=λb e=>by
  have i:b≠p:=λz=>by rw[z,fX] at e;cases e
  rw[fK i] at e;have g:b≠d:=λz=>by rw[z,fX] at e;cases e
  rw[fK g] at e;exact⟨i,g,e⟩
 have nG:∀(G:Hp),G p=Z->G d=Z->∀b u,G b=Y u->upd (upd G d (.own p)) p (.ins C d y) b=Y u:=λG g1 g2 b u e=>by rw[fK (gC e g1),fK (gC e g2)];exact e
 have bk:∀(G:Hp) b u,upd (upd G d (.own p)) p (.ins C d y) b=Y u->u≠.ins C d y->u≠.own p->G b=Y u:=λG b u e hu ZZ=>by
  by_cases i:b=p
  ·rw[i,fX] at e;cases e;exact absurd rfl hu
  ·rw[fK i] at e;by_cases g:b=d
   ·rw[g,fX] at e;cases e;exact absurd rfl ZZ
   ·rw[fK g] at e;exact e
 have hL:p≠X.env.locals:=λz=>by have:=I.free;rw[<-z,fX] at this;cases this
 have U:d≠X.env.locals:=λz=>by have:=I.free;rw[<-z,A] at this;cases this
 have W7:p∉X.fs:=λi=>by obtain⟨_,q,f,_⟩:=I.ok.qx.mem i;have:=I.base.free p q f (I.ok.Jb p i) λz=>I.ok.B4 p z i;rw[fX] at this;cases this
 have R:d∉X.fs:=λi=>by obtain⟨_,q,f,_⟩:=I.ok.qx.mem i;have:=I.base.free d q f (I.ok.Jb d i) λz=>I.ok.B4 d z i;rw[A] at this;cases this
 have N:∀q∈X.pn++pins,q.1≠p/\q.1≠d:=λq f=>let z:=K q.1 (I.pin q f).2.1;⟨z.1,z.2.1⟩;have h0:∀q,X.s₀.heap.get? p=Y q->X.H₀ p=Z->p∈X.ex:=λq f E=>by
  by_cases k:p∈X.ex
  ·exact k
  ·have:=I.base.free p q f E k;rw[fX] at this;cases this
 have Z0:∀q,X.s₀.heap.get? d=Y q->X.H₀ d=Z->d∈X.ex:=λq f E=>by
  by_cases k:d∈X.ex
  ·exact k
  ·have:=I.base.free d q f E k;rw[A] at this;cases this
 refine⟨W.instObj C d,t,?_,?_⟩
 ·refine⟨I.ok,I.os,I.bare,⟨I.base.keep,I.base.slot,λb q e n k=>(K b (I.base.free b q e n k)).2.2,I.base.there,λb L e=>bk H b _ (I.base.rR b L e) (λz=>nomatch z) (λz=>nomatch z),λb q u e=>bk H b _ (I.base.qw b q u e) (λz=>nomatch z) (λz=>nomatch z),λb ps e=>?_⟩,I.loc,I.cell,(K _ I.free).2.2,λx c e=>(K c (I.mU x c e)).2.2,λq f=>?_,λa u e=>?_,I.len⟩
  ·obtain⟨m,e1⟩:=I.base.sk b ps e;exact⟨m,bk H b _ e1 (λz=>nomatch z) (λz=>nomatch z)⟩
  ·rcases aw.mp f with h|h
   ·obtain⟨a1,a2,a3⟩:=I.pin q (aC _ h);exact⟨a1,(K _ a2).2.2,a3⟩
   ·rcases aw.mp h with h|h
    ·obtain⟨a1,a2,a3⟩:=I.pin q (au _ h);exact⟨a1,(K _ a2).2.2,a3⟩
    ·rcases ag.mp h with h|h
     ·subst h;exact⟨ZY,hn,hL,W7,r⟩
     ·have:q=(d,t):=by simpa using h
      subst this;exact⟨P,Q,U,R,j⟩
  ·have ha:a≠p:=gC e hn;refine(I.iY a u (nG H hn Q a u e)).uq (λ_ _ _ q=>q) (λb q=>bk H b _ q (λz=>nomatch z) (λz=>ha (by cases z;rfl))) λb L q=>bk H b _ q (λz=>nomatch z) (λz=>nomatch z)
 ·intro G s' σ' J;have hp:=J.pin (p,W.instObj C d) (au _ (au _ (by simp)));have O:=J.pin (d,t) (au _ (au _ (by simp)));have YD:G p=Z:=hp.2.1;have YE:G d=Z:=O.2.1;have l:s'.heap.get? d=Y t:=O.1;have B:s'.heap.get? p=Y (W.instObj C d):=hp.1;have M:=nG G YD YE;refine⟨YD,YE,⟨J.ok,J.os,J.bare,⟨J.base.keep,J.base.slot,λb q e n k=>?_,J.base.there,λb L e=>M b _ (J.base.rR b L e),λb q u e=>M b _ (J.base.qw b q u e),λb ps e=>?_⟩,J.loc,J.cell,?_,λx c e=>?_,λq f=>?_,λa u e=>?_,J.len⟩⟩
  ·have i:b≠p:=λz=>by subst z;exact k (h0 q e n)
   have g:b≠d:=λz=>by subst z;exact k (Z0 q e n)
   rw[fK i,fK g];exact J.base.free b q e n k
  ·obtain⟨m,e1⟩:=J.base.sk b ps e;exact⟨m,M b _ e1⟩
  ·rw[fK (Ne.symm hL),fK (Ne.symm U)];exact J.free
  ·have hc:c≠p:=λz=>by
    obtain⟨v,q,f,hd⟩:=J.cell x c e;rw[z,B] at f;cases f;exact r v hd
   have Z1:c≠d:=λz=>by obtain⟨v,q,f,hd⟩:=J.cell x c e;rw[z,l] at f;cases f;exact j v hd
   rw[fK hc,fK Z1];exact J.mU x c e
  ·have Z2:q∈X.pn++(pins++[(p,W.instObj C d),(d,t)]):=by
    rcases aw.mp f with h|h
    ·exact aC _ h
    ·exact au _ (aC _ h)
   obtain⟨a1,a2,a3⟩:=J.pin q Z2;exact⟨a1,by rw[fK (N q f).1,fK (N q f).2];exact a2,a3⟩
  ·by_cases ha:a=p
   ·subst ha;rw[fX] at e;cases e;exact⟨A G,z2,z3,B,mA,ns.at λo q=>by rw[P] at q;cases q;exact l,rl,wi⟩
   ·rw[fK ha] at e;by_cases T:a=d
    ·subst T;rw[fX] at e;cases e;exact⟨t,l⟩
    ·rw[fK T] at e;exact(J.iY a u e).uq (λ_ _ _ q=>q) (λb q=>M b _ q) λb L q=>M b _ q
theorem GB(ok:qr B):∀{a:Ax}{G:Hp}{σ:St}{s:Shared},fD X a σ (fx G B) s->jF G B->∃n,fD X (a++n) σ G s/\(∀q∈n,∃x∈B,q.1=x.1)/\(∀x∈B,∃q∈n,q.1=x.1) /\
  ∀(d:Hp) (s':Shared) (σ':St),fD X (a++n) σ' d s'->jF d B/\fD X a σ' (fx d B) s':=by
 induction ok with
 |nil=>exact λI f=>⟨[],by rw[aF];exact I,(λq m=>by cases m),(λx b=>by cases b),λd s' σ' J=>⟨jF.nil,by rw[aF] at J;exact J⟩⟩
 |@one p o r hf t M=>
  intro a G σ s I f;have v:=bj.mp (show (p::r.map (·.1)).Nodup from f.nd);have Q:jF G r:=⟨v.2,λy N=>f.free y (aj _ N),t⟩
  have g:∀x∈r,x.1≠p:=λx b e=>v.1 (aq.mpr ⟨x,b,e⟩);have u:fx G r p=Z:=by rw[gY g];exact f.free (p,o) (by simp)
  obtain⟨w,V,l⟩:=Uk (H:=fx G r) I u hf;obtain⟨n,U,L,K,c⟩:=M V Q;refine⟨(p,w)::n,by simpa using U,λq m=>?_,λx b=>?_,λd s' σ' J=>?_⟩
  ·rcases ag.mp m with e|h
   ·exact⟨(p,o),by simp,by rw[e]⟩
   ·obtain⟨x,b,e⟩:=L q h;exact⟨x,aj _ b,e⟩
  ·rcases ag.mp b with e|h
   ·exact⟨(p,w),by simp,by rw[e]⟩
   ·obtain⟨q,m,e⟩:=K x h;exact⟨q,aj _ m,e⟩
  ·obtain⟨R,T⟩:=c d s' σ' (by simpa using J);obtain⟨i,S⟩:=l (fx d r) s' σ' T;have j:d p=Z:=by rw[gY g] at i;exact i
   refine⟨⟨f.nd,λx b=>?_,f.ok⟩,S⟩;rcases ag.mp b with e|h
   ·rw[e];exact j
   ·exact R.free x h
 |@ins p C k fs r t M=>
  intro a G σ s I f;have v:=bj.mp (show (p::k::r.map (·.1)).Nodup from f.nd);have A:=bj.mp v.2;have Q:jF G r:=⟨A.2,λy N=>f.free y (aj _ (aj _ N)),t⟩
  have O:k≠p:=λz=>v.1 (by rw[<-z];simp);have g:∀x∈r,x.1≠p:=λx b e=>v.1 (aj _ (aq.mpr ⟨x,b,e⟩));have D:∀x∈r,x.1≠k:=λx b e=>A.1 (aq.mpr ⟨x,b,e⟩);have u:fx G r p=Z:=by rw[gY g];exact f.free (p,.ins C k fs) (by simp)
  have P:fx G r k=Z:=by rw[gY D];exact f.free (k,.own p) (by simp)
  obtain⟨w,W,V,l⟩:=Ul (H:=fx G r) I u P O;obtain⟨n,U,L,K,c⟩:=M V Q;refine⟨(p,w)::(k,W)::n,by simpa using U,λq m=>?_,λx b=>?_,λd s' σ' J=>?_⟩
  ·rcases ag.mp m with e|h
   ·exact⟨(p,.ins C k fs),by simp,by rw[e]⟩
   ·rcases ag.mp h with e|h
    ·exact⟨(k,.own p),by simp,by rw[e]⟩
    ·obtain⟨x,b,e⟩:=L q h;exact⟨x,aj _ (aj _ b),e⟩
  ·rcases ag.mp b with e|h
   ·exact⟨(p,w),by simp,by rw[e]⟩
   ·rcases ag.mp h with e|h
    ·exact⟨(k,W),by simp,by rw[e]⟩
    ·obtain⟨q,m,e⟩:=K x h;exact⟨q,aj _ (aj _ m),e⟩
  ·obtain⟨R,T⟩:=c d s' σ' (by simpa using J);obtain⟨i,E,S⟩:=l (fx d r) s' σ' T;have j:d p=Z:=by rw[gY g] at i;exact i
   have F:d k=Z:=by rw[gY D] at E;exact E
   refine⟨⟨f.nd,λx b=>?_,f.ok⟩,S⟩;rcases ag.mp b with e|h
   ·rw[e];exact j
   ·rcases ag.mp h with e|h
    ·rw[e];exact F
    ·exact R.free x h
theorem PE.frame{t:TE}(h:PE X e t):PE X e (λσ H Q=>∃G B,H=fx G B/\jF G B/\t σ G λv b=>jF b B->Q v (fx b B)):=by intro c s σ H Q I ⟨G,B,j,f,g⟩;subst j;obtain⟨m,l,_,_,a⟩:=GB f.ok I f;refine iP (@h _ s σ G _ l g) λv d ⟨x,b,J,r,q⟩=>?_;obtain⟨i,k⟩:=a b d σ J;exact⟨x,fx b B,k,r,q i⟩
theorem PI.frame{a:Expr}{t:TI}(h:PI X tg a t):PI X tg a (λσ H R=>∃G B,H=fx G B/\jF G B/\t σ G λJ d=>jF d B->R J (fx d B)):=by
 intro i s σ H R I ⟨G,B,Q,f,y⟩;subst Q;obtain⟨PB,W,m1,o,c⟩:=GB f.ok I f;refine iP (@h _ s σ G _ W y) λv s1 E=>iP E λr m ⟨u,F,k,J,d,e,V,T,l,C,q⟩=>?_;obtain⟨P,U⟩:=c d m σ V;refine⟨u,F,k,J,fx d B,e,U,T,l,λb D=>?_,q P⟩;obtain⟨O,N,M,L,K,j⟩:=C b D;refine⟨?_,N,M,L,K,λp A=>j p ?_⟩
 ·rw[gY λx w z=>?_]
  ·exact O
  ·obtain⟨n,g,S⟩:=o x w;exact j n (au _ (au _ g)) (S.trans z)
 ·rcases aw.mp A with h|h
  ·exact aC _ h
  ·exact au _ (aC _ h)
theorem PA.frame{t:TA}(h:PA X es t):PA X es (λσ H Q=>∃G B,H=fx G B/\jF G B/\t σ G λg b=>jF b B->Q g (fx b B)):=by intro c d s σ H Q I ⟨G,B,l,f,j⟩;subst l;obtain⟨p,n,_,_,a⟩:=GB f.ok I f;refine iP (@h c _ s σ G _ n j) λo i ⟨e,b,J,r,q⟩=>?_;obtain⟨k,m⟩:=a b i σ J;exact⟨e,fx b B,m,r,q k⟩
end
noncomputable def pf(f:Str):List (fe×fe)->Od
 |[]=>Z
 | (.str g,d)::r=>if g=f then Y d else pf f r
 |_::r=>pf f r
noncomputable def pK(f:Str)(y:fe):List (fe×fe)->List (fe×fe)
 |[]=>[(.str f,y)]
 | (.str g,d)::r=>if g=f then (.str g,y)::r else (.str g,d)::pK f y r
 |x::r=>x::pK f y r
section
variable {K:Fg}
theorem kG.get{f:Str}{d:fe}:∀{r:List (fe×fe)}{c:List (Str×V)},kG K H r c->pf f r=Y d->∃v,c.lookup f=Y v/\fv K H d v
 |[],_,_,e=>by cases e
 | (k,x)::r,_,h,e=>by
  obtain⟨y,v,g,rfl,rfl,i,t⟩:=kG.fH.mp h;by_cases q:y=f
  ·simp only[pf,ai q] at e;cases e;exact⟨v,by rw[bh,bY.mpr q.symm],i⟩
  ·simp only[pf,ao q] at e;obtain⟨u,a,b⟩:=kG.get t e;exact⟨u,by rw[bh,aY.mpr (λz=>q z.symm)];exact a,b⟩
theorem kG.none{f:Str}:∀{r:List (fe×fe)}{a:List (Str×V)},kG K H r a->pf f r=.none->a.lookup f=.none
 |[],_,h,e=>by rw[kG.fQ.mp h];rfl
 | (k,x)::r,_,h,e=>by
  obtain⟨y,v,b,rfl,rfl,i,t⟩:=kG.fH.mp h;by_cases q:y=f
  ·simp only[pf,ai q] at e;cases e
  ·simp only[pf,ao q] at e;rw[bh,aY.mpr (λz=>q z.symm)];exact kG.none t e
noncomputable def lU(c f:Str):Bool:=(c=="Reading"&&(f=="fields"||f=="heads"||f=="blocks"||f=="later"))||(c=="Outline"&&(f=="params"||f=="kept"||f=="own_rows"||f=="fields"))
noncomputable def pL(c f:Str):Bool:=c=="Outline"&&f=="own_rows"
def qo(K:Fg)(G:Hp)(d:fe)(q:Addr)(o:HO):Prop :=
 (∃e b,d=.list e/\o=.lst b/\dt K G e b)\/∃a c,d=.dict a/\o=.dK c/\gA K G a c
def Z3:fe->Bool
 |.list _=>true
 |_=>false
def Mz(K:Fg)(G:Hp)(d:fe)(v:V)(B:List (Addr×HO)):Prop:=(Z3 d=false/\fv K G d v/\B=[])\/∃b p a,d=.list b/\v=.ref p/\B=[(p,.lst a)]/\dt K G b a
def yo(K:Fg)(G:Hp):Lp->List V->List (Addr×HO)->Prop
 |[],vs,B=>vs=[]/\B=[]
 |d::ds,vs,B=>∃v a c b,vs=v::a/\B=c++b/\Mz K G d v c/\yo K G ds a b
def GC(K:Fg)(G:Hp):List (fe×fe)->List (Key×V)->List (Addr×HO)->Prop
 |[],kv,B=>kv=[]/\B=[]
 | (k,d)::r,kv,B=>∃y v a c b,kv=(y,v)::a/\k=jT y/\B=c++b/\Mz K G d v c/\GC K G r a b
def W8(K:Fg)(G:Hp)(d:fe)(o:HO)(B:List (Addr×HO)):Prop :=
 (∃e b,d=.list e/\o=.lst b/\yo K G e b B)\/∃a c,d=.dict a/\o=.dK c/\GC K G a c B
def qH(a:Bool)(K:Fg)(G:Hp)(d:fe)(q:Addr)(o:HO)(B:List (Addr×HO)):Prop:=match a with
 |false=>qo K G d q o/\B=[]
 |true=>W8 K G d o B
def kb(K:Fg)(G:Hp)(c:Str):List (fe×fe)->List (Str×V)->List (Addr×HO)->Prop
 |[],fs,B=>fs=[]/\B=[]
 | (k,d)::r,fs,B=>∃y v a,fs=(y,v)::a/\k=.str y/\((lU c y=false/\fv K G d v/\kb K G c r a B)\/(lU c y=true/\∃q o b e,v=.ref q/\B=(q,o)::(b++e)/\qH (pL c y) K G d q o b/\kb K G c r a e))
def jG(g:Bool)(K:Fg)(G:Hp)(d:fe)(v:V)(B:List (Addr×HO)):Prop :=
 (∃q o e,v=.ref q/\B=(q,o)::e/\qH g K G d q o e) \/
 ∃c C p b a r f,d=.dict ((.none,.str c)::r)/\v=.ref p/\B=(p,.ins C b a)::(b,.own p)::f/\mz K c C/\kb K G c r a f
theorem Mz.same{f:Hp}{d:fe}{v:V}{B:List (Addr×HO)}(e:fJ G f)(h:Mz K G d v B):Mz K f d v B:=by
 rcases h with ⟨a,b,c⟩ | ⟨g,p,vs,a,b,c,t⟩
 ·exact .inl ⟨a,b.same e,c⟩
 ·exact .inr ⟨g,p,vs,a,b,c,t.same e⟩
theorem Mz.nE(h:Mz K G d v B):qr B:=by
 rcases h with ⟨a,b,c⟩ | ⟨f,p,e,a,b,c,t⟩
 ·rw[c];exact .nil
 ·rw[c];exact .one a0 .nil
theorem Mz.Je(h:Mz K G d v B)(e:fJ G H)(f:∀x∈B,H x.1=Y x.2):fv K H d v:=by
 rcases h with ⟨a,b,c⟩ | ⟨g,p,vs,rfl,rfl,rfl,t⟩
 ·exact b.same e
 ·exact fv.fY.mpr ⟨p,vs,rfl,o8.of (f (p,.lst vs) (by simp)),t.same e⟩
theorem yo.same{d:Hp}(e:fJ G d):∀{ds:Lp}{vs:List V}{B:List (Addr×HO)},yo K G ds vs B->yo K d ds vs B
 |[],_,_,h=>h
 |_::_,_,_,⟨v,Kc,B1,B2,a,b,c,t⟩=>⟨v,Kc,B1,B2,a,b,c.same e,yo.same e t⟩
theorem yo.nE:∀{e:Lp}{d:List V}{B:List (Addr×HO)},yo K G e d B->qr B
 |[],_,_,h=>by rw[h.2];exact .nil
 |_::_,_,_,⟨v,Kc,B1,B2,a,b,c,t⟩=>by rw[b];exact c.nE.append t.nE
theorem yo.Um(e:fJ G H):∀{g:Lp}{f:List V}{B:List (Addr×HO)},yo K G g f B->(∀x∈B,H x.1=Y x.2)->dt K H g f
 |[],_,_,h,_=>by rw[h.1];exact dt.nil
 |_::_,_,_,⟨v,Kc,B1,B2,a,b,c,t⟩,hB=>by subst a b;exact dt.cons (c.Je e λx d=>hB x (aC _ d)) (t.Um e λx d=>hB x (au _ d))
theorem GC.same{d:Hp}(e:fJ G d):∀{ds:List (fe×fe)}{vs:List (Key×V)}{B:List (Addr×HO)},GC K G ds vs B->GC K d ds vs B
 |[],_,_,h=>h
 | (_,_)::_,_,_,⟨y,v,Kc,B1,B2,a,a2,b,c,t⟩=>⟨y,v,Kc,B1,B2,a,a2,b,c.same e,GC.same e t⟩
theorem GC.nE:∀{e:List (fe×fe)}{d:List (Key×V)}{B:List (Addr×HO)},GC K G e d B->qr B
 |[],_,_,h=>by rw[h.2];exact .nil
 | (_,_)::_,_,_,⟨y,v,Kc,B1,B2,a,a2,b,c,t⟩=>by rw[b];exact c.nE.append t.nE
theorem GC.Uo(e:fJ G H):∀{g:List (fe×fe)}{f:List (Key×V)}{B:List (Addr×HO)},GC K G g f B->(∀x∈B,H x.1=Y x.2)->gA K H g f
 |[],_,_,h,_=>by rw[h.1];exact gA.fQ.mpr rfl
 | (_,_)::_,_,_,⟨y,v,Kc,B1,B2,a,a2,b,c,t⟩,hB=>by subst a a2 b;exact gA.fH.mpr ⟨y,v,Kc,rfl,rfl,c.Je e λx d=>hB x (aC _ d),t.Uo e λx d=>hB x (au _ d)⟩
theorem qo.same{g:Hp}{d:fe}{q:Addr}{o:HO}(h:qo K G d q o)(e:fJ G g):qo K g d q o:=by
 rcases h with ⟨ds,vs,a,b,c⟩ | ⟨f,i,a,b,c⟩
 ·exact .inl ⟨ds,vs,a,b,c.same e⟩
 ·exact .inr ⟨f,i,a,b,c.same e⟩
theorem qo.W9{q:Addr}{o:HO}(h:qo K G d q o):Ka o:=by rcases h with ⟨i,f,a,b,c⟩ | ⟨e,g,a,b,c⟩<;>subst b<;>exact a0
theorem qo.Je{o:HO}{p:Addr}(h:qo K G d p o)(e:fJ G H)(a:H p=Y o):fv K H d (.ref p):=by
 rcases h with ⟨ds,vs,rfl,rfl,c⟩ | ⟨b,f,rfl,rfl,c⟩
 ·exact fv.fY.mpr ⟨p,vs,rfl,o8.of a,c.same e⟩
 ·exact fv.nN.mpr ⟨p,rfl,.inl ⟨f,a,c.same e⟩⟩
theorem qH.same{g:Bool}{i:Hp}{d:fe}{q:Addr}{o:HO}{B:List (Addr×HO)}(e:fJ G i)(h:qH g K G d q o B):qH g K i d q o B:=by
 cases g with
 |false=>exact⟨h.1.same e,h.2⟩
 |true=>
  rcases h with ⟨ds,vs,a,b,c⟩ | ⟨f,j,a,b,c⟩
  ·exact .inl ⟨ds,vs,a,b,c.same e⟩
  ·exact .inr ⟨f,j,a,b,c.same e⟩
theorem qH.nE{e:Bool}{d:fe}{q:Addr}{o:HO}{B:List (Addr×HO)}(h:qH e K G d q o B):qr ((q,o)::B):=by
 cases e with
 |false=>rw[h.2];exact .one h.1.W9 .nil
 |true=>
  rcases h with ⟨j,g,a,b,c⟩ | ⟨f,i,a,b,c⟩
  ·subst b;exact .one a0 c.nE
  ·subst b;exact .one a0 c.nE
theorem qH.Je{f:Bool}{d:fe}{o:HO}{p:Addr}{B:List (Addr×HO)}(h:qH f K G d p o B)(e:fJ G H)(a:H p=Y o)(b:∀x∈B,H x.1=Y x.2):fv K H d (.ref p):=by
 cases f with
 |false=>exact h.1.Je e a
 |true=>
  rcases h with ⟨ds,vs,rfl,rfl,c⟩ | ⟨g,i,rfl,rfl,c⟩
  ·exact fv.fY.mpr ⟨p,vs,rfl,o8.of a,c.Um e b⟩
  ·exact fv.nN.mpr ⟨p,rfl,.inl ⟨i,a,c.Uo e b⟩⟩
theorem kb.same{c:Str}{m:Hp}(e:fJ G m):∀{r:List (fe×fe)}{i:List (Str×V)}{B:List (Addr×HO)},kb K G c r i B->kb K m c r i B
 |[],_,_,h=>h
 | (k,d)::r,_,_,h=>by
  obtain⟨y,v,a,l,j,⟨g,f,b⟩ | ⟨g,q,o,s,t,f,b,p,n⟩⟩:=h
  ·exact⟨y,v,a,l,j,.inl ⟨g,f.same e,kb.same e b⟩⟩
  ·exact⟨y,v,a,l,j,.inr ⟨g,q,o,s,t,f,b,p.same e,kb.same e n⟩⟩
theorem kb.nE{c:Str}:∀{r:List (fe×fe)}{e:List (Str×V)}{B:List (Addr×HO)},kb K G c r e B->qr B
 |[],_,_,h=>by rw[h.2];exact .nil
 | (k,d)::r,_,_,h=>by
  obtain⟨y,v,b,m,l,⟨j,i,a⟩ | ⟨j,q,o,n,p,i,a,g,f⟩⟩:=h
  ·exact kb.nE a
  ·rw[a];exact qr.append g.nE (kb.nE f)
theorem kb.Ru{c:Str}(e:fJ G H):∀{r:List (fe×fe)}{i:List (Str×V)}{B:List (Addr×HO)},kb K G c r i B->(∀x∈B,H x.1=Y x.2)->kG K H r i
 |[],_,_,h,_=>by rw[h.1];exact kG.fQ.mpr rfl
 | (k,d)::r,_,_,h,hB=>by
  obtain⟨y,v,a,l,j,⟨p,g,f⟩ | ⟨p,q,o,s,t,g,f,n,m⟩⟩:=h
  ·exact kG.fH.mpr ⟨y,v,a,l,j,g.same e,kb.Ru e f hB⟩
  ·subst f g;exact kG.fH.mpr ⟨y,_,a,l,j,n.Je e (hB (q,o) (by simp)) (λx b=>hB x (by simp[b])),kb.Ru e m λx b=>hB x (by simp[b])⟩
theorem jG.same{f:Bool}{g:Hp}{d:fe}{v:V}{B:List (Addr×HO)}(h:jG f K G d v B)(e:fJ G g):jG f K g d v B:=by
 rcases h with ⟨q,o,t,a,b,c⟩ | ⟨c,C,p,j,i,r,u,s,n,m,l,k⟩
 ·exact .inl ⟨q,o,t,a,b,c.same e⟩
 ·exact .inr ⟨c,C,p,j,i,r,u,s,n,m,l,k.same e⟩
theorem jG.nE{e:Bool}{d:fe}{v:V}{B:List (Addr×HO)}(h:jG e K G d v B):qr B:=by
 rcases h with ⟨q,o,n,a,b,c⟩ | ⟨c,C,p,j,i,r,s,m,l,g,k,f⟩
 ·rw[b];exact c.nE
 ·rw[g];exact .ins f.nE
theorem jG.Je{i:Bool}{d:fe}{v:V}{B:List (Addr×HO)}(h:jG i K G d v B)(e:fJ G H)(a:∀x∈B,H x.1=Y x.2):fv K H d v:=by
 rcases h with ⟨q,o,l,rfl,rfl,c⟩ | ⟨c,C,p,g,f,r,m,rfl,rfl,rfl,k,j⟩
 ·exact c.Je e (a (q,o) (by simp)) λx b=>a x (by simp[b])
 ·exact fv.nN.mpr ⟨p,rfl,.inr ⟨c,C,g,f,k,a (p,.ins C g f) (by simp),pH.fH.mpr ⟨rfl,rfl,j.Ru e λx b=>a x (by simp[b])⟩⟩⟩
theorem kb.split{c y:Str}{d:fe}(E:lU c y=true):∀{r:List (fe×fe)}{F:List (Str×V)}{B:List (Addr×HO)},kb K G c r F B->pf y r=Y d ->
  ∃q o l j i,F.lookup y=Y (.ref q)/\B=j++((q,o)::(l++i))/\qr j/\qr i/\qH (pL c y) K G d q o l/\∀g s b a,fJ G g->qH (pL c y) K g s q b a->kb K g c (pK y s r) F (j++((q,b)::(a++i)))
 |[],_,_,_,e=>by cases e
 | (k,x)::r,_,B,h,e=>by
  obtain⟨z,v,n,R,Q,h⟩:=h;subst R Q;by_cases q:z=y
  ·subst q;simp only[pf,cQ] at e;cases e;rcases h with ⟨f,_⟩ | ⟨f,q,o,l,M,u,t,A,w⟩
   ·rw[E] at f;cases f
   ·subst u t;refine⟨q,o,l,[],M,by rw[bh,bY.mpr rfl],rfl,.nil,w.nE,A,λg s b a m h'=>?_⟩;simp only[pK,cQ];exact⟨z,_,n,rfl,rfl,.inr ⟨f,q,b,a,M,rfl,rfl,h',w.same m⟩⟩
  ·simp only[pf,ao q] at e;rcases h with ⟨f,u,t⟩ | ⟨f,N,o,O,M,u,t,A,w⟩
   ·obtain⟨p,o,l,j,i,L,J,D,C,I,H⟩:=kb.split E t e;refine⟨p,o,l,j,i,by rw[bh,aY.mpr (λz=>q z.symm)];exact L,J,D,C,I,λg s b a m h'=>?_⟩;simp only[pK,ao q];exact⟨z,v,n,rfl,rfl,.inl ⟨f,u.same m,H g s b a m h'⟩⟩
   ·subst u t;obtain⟨p,P,l,j,i,L,J,D,C,I,H⟩:=kb.split E w e;refine⟨p,P,l,(N,o)::(O++j),i,by rw[bh,aY.mpr (λz=>q z.symm)];exact L,by rw[J];simp,qr.append A.nE D,C,I,λg s b a m h'=>?_⟩;simp only[pK,ao q];exact⟨z,_,n,rfl,rfl,.inr ⟨f,N,o,O,j++((p,b)::(a++i)),rfl,by simp,A.same m,H g s b a m h'⟩⟩
theorem kb.put{c y:Str}{d:fe}{v:V}(b:lU c y=false)(i:fv K G d v):∀{r:List (fe×fe)}{j:List (Str×V)}{B:List (Addr×HO)},kb K G c r j B->kb K G c (pK y d r) (nL y v j) B
 |[],_,_,h=>by obtain⟨rfl,rfl⟩:=h;exact⟨y,v,[],rfl,rfl,.inl ⟨b,i,rfl,rfl⟩⟩
 | (k,x)::r,_,_,h=>by
  obtain⟨z,u,g,s,p,h⟩:=h;subst s p;by_cases q:z=y
  ·subst q;simp only[pK,nL,cQ];rcases h with ⟨a,f,e⟩ | ⟨a,_⟩
   ·exact⟨z,v,g,rfl,rfl,.inl ⟨b,i,e⟩⟩
   ·rw[b] at a;cases a
  ·simp only[pK,nL,ao q];rcases h with ⟨a,f,e⟩ | ⟨a,l,o,t,w,f,e,n,m⟩
   ·exact⟨z,u,_,rfl,rfl,.inl ⟨a,f,kb.put b i e⟩⟩
   ·exact⟨z,u,_,rfl,rfl,.inr ⟨a,l,o,t,w,f,e,n,kb.put b i m⟩⟩
theorem kb.add{c y:Str}{d:fe}{q:Addr}{o:HO}{a:List (Addr×HO)}(b:lU c y=true)(i:qH (pL c y) K G d q o a):∀{r:List (fe×fe)}{m:List (Str×V)}{B:List (Addr×HO)},kb K G c r m B->pf y r=Z ->
  kb K G c (pK y d r) (nL y (.ref q) m) (B++(q,o)::a)
 |[],_,_,h,_=>by obtain⟨rfl,rfl⟩:=h;exact⟨y,_,[],rfl,rfl,.inr ⟨b,q,o,a,[],rfl,by simp,i,rfl,rfl⟩⟩
 | (k,x)::r,_,_,h,e=>by
  obtain⟨z,u,s,A,w,h⟩:=h;subst A w;by_cases f:z=y
  ·simp only[pf,ai f] at e;cases e
  ·simp only[pf,ao f] at e;simp only[pK,nL,ao f];rcases h with ⟨l,j,g⟩ | ⟨l,n,p,C,D,j,g,v,t⟩
   ·exact⟨z,u,_,rfl,rfl,.inl ⟨l,j,kb.add b i g e⟩⟩
   ·subst g;exact⟨z,u,_,rfl,rfl,.inr ⟨l,n,p,C,D++(q,o)::a,j,by simp,v,kb.add b i t e⟩⟩
theorem kb.len{c:Str}:∀{r:List (fe×fe)}{a:List (Str×V)}{B:List (Addr×HO)},kb K G c r a B->a.length=r.length
 |[],_,_,h=>by rw[h.1];rfl
 | (k,d)::r,_,_,h=>by
  obtain⟨y,v,f,e,m,⟨j,i,b⟩ | ⟨j,q,o,n,p,i,b,l,g⟩⟩:=h
  ·rw[e,ay,ay,kb.len b]
  ·rw[e,ay,ay,kb.len g]
end
def jU(O:List Nat):Bool:=O.contains 99
def iV(a:Bool)(K:Fg)(σ:St)(ρ:c5)(G:Hp):List Nat->List (Addr×HO)->Prop
 |[],B=>B=[]
 |i::O,B=>((ρ[i]?).join=Z/\iV a K σ ρ G O B)\/∃d v c b,ρ[i]?=Y (Y d)/\σ[i]?=Y (Y v)/\B=c++b/\jG a K G d v c/\iV a K σ ρ G O b
structure hE (O:List Nat) (K:Fg) (σ:St) (ρ:c5) (H G:Hp):Prop where
 len:σ.length=ρ.length
 ex:∃B,H=fx G B/\jF G B/\iV (jU O) K σ ρ G O B
 lP:∀(i:Nat) (d:fe),ρ[i]?=Y (Y d)->i∉O->∃v,σ[i]?=Y (Y v)/\fv K G d v
theorem join_some{l:List (Option α)}{d:α}(h:(l[i]?).join=Y d):l[i]?=Y (Y d):=by
 cases q:l[i]? with
 |none=>rw[q] at h;cases h
 |some o=>rw[q] at h;cases o with
  |none=>cases h
  |some a=>cases h;rfl
section
variable {K:Fg}
theorem iV.same{f:Hp}(e:fJ G f):∀{O:List Nat}{B:List (Addr×HO)},iV dp K σ ρ G O B->iV dp K σ ρ f O B
 |[],_,h=>h
 |_::_,_,h=>by
  rcases h with ⟨a,b⟩ | ⟨d,v,i,g,a,b,c,q,t⟩
  ·exact .inl ⟨a,iV.same e b⟩
  ·exact .inr ⟨d,v,i,g,a,b,c,q.same e,iV.same e t⟩
theorem iV.nE:∀{O:List Nat}{B:List (Addr×HO)},iV dp K σ ρ G O B->qr B
 |[],_,h=>by rw[show _=[] from h];exact .nil
 |_::_,_,h=>by
  rcases h with ⟨a,b⟩ | ⟨d,v,e,c,a,b,rfl,q,t⟩
  ·exact iV.nE b
  ·exact q.nE.append (iV.nE t)
theorem iV.other{σ':St}{ρ':c5}:∀{O:List Nat}{B:List (Addr×HO)},iV dp K σ ρ G O B->(∀i∈O,ρ'[i]?=ρ[i]?/\σ'[i]?=σ[i]?)->iV dp K σ' ρ' G O B
 |[],_,h,_=>h
 |j::O,_,h,k=>by
  obtain⟨e,g⟩:=k j (by simp);have f:∀i∈O,ρ'[i]?=ρ[i]?/\σ'[i]?=σ[i]?:=λi l=>k i (aj _ l);rcases h with ⟨a,b⟩ | ⟨d,v,n,m,a,b,c,q,t⟩
  ·exact .inl ⟨by rw[e];exact a,b.other f⟩
  ·exact .inr ⟨d,v,n,m,by rw[e];exact a,by rw[g];exact b,c,q,t.other f⟩
theorem iV.split{i:Nat}{d:fe}:∀{O:List Nat}{B:List (Addr×HO)},O.Nodup->iV dp K σ ρ G O B->i∈O->ρ[i]?=Y (Y d) ->
  ∃v p l o,σ[i]?=Y (Y v)/\B=p++(l++o)/\jG dp K G d v l/\qr p/\qr o /\
   (∀n g e,fJ G n->jG dp K n g v e->iV dp K σ (ρ.set i (Y g)) n O (p++(e++o)))/\iV dp K σ (ρ.set i Z) G O (p++o)
 |[],_,_,_,hi,_=>by cases hi
 |j::O,B,Up,h,hi,hd=>by
  have f:=bj.mp Up;have L:i<ρ.length:=(aM.mp hd).1;by_cases r:j=i
  ·subst r;have u:∀x:Od,∀k∈O,(ρ.set j x)[k]?=ρ[k]?/\σ[k]?=σ[k]?:=λx k N=>by
    have:j≠k:=λz=>f.1 (z▸N);exact⟨ax this,rfl⟩
   rcases h with ⟨a,b⟩ | ⟨g,v,l,J,a,b,c,q,t⟩
   ·rw[hd] at a;cases a
   ·rw[hd] at a;cases a;refine⟨v,[],l,J,b,c,q,.nil,t.nE,λn g e s w=>.inr ⟨g,v,e,J,aL L,b,rfl,w,(t.same s).other (u _)⟩,.inl ⟨by rw[aL L];rfl,t.other (u _)⟩⟩
  ·have y:=(ag.mp hi).resolve_left (Ne.symm r);have m:∀x:Od,(ρ.set i x)[j]?=ρ[j]?:=λx=>ax (Ne.symm r);rcases h with ⟨a,b⟩ | ⟨g,v,l,J,a,b,c,q,t⟩
   ·obtain⟨v,p,l,o,I,H,F,E,D,C,A⟩:=iV.split f.2 b y hd;exact⟨v,p,l,o,I,H,F,E,D,λn g e s w=>.inl ⟨by rw[m];exact a,C n g e s w⟩,.inl ⟨by rw[m];exact a,A⟩⟩
   ·obtain⟨M,p,e,o,I,H,F,E,D,C,A⟩:=iV.split f.2 t y hd;refine⟨M,l++p,e,o,I,by rw[c,H];simp,F,q.nE.append E,D,λn g e s w=>.inr ⟨_,v,l,_,by rw[m];exact a,b,by simp,q.same s,C n g e s w⟩,.inr ⟨_,v,l,_,by rw[m];exact a,b,by simp,q,A⟩⟩
theorem hE.sub(h:hE O K σ ρ H G):fJ G H:=by obtain⟨B,rfl,f,a⟩:=h.ex;exact f.same
theorem iV.at:∀{O:List Nat}{B:List (Addr×HO)},iV dp K σ ρ G O B->∀{i:Nat}{d:fe},i∈O->ρ[i]?=Y (Y d)->∃v f,(∀x∈f,x∈B)/\σ[i]?=Y (Y v)/\jG dp K G d v f
 |[],_,_,_,_,hi,_=>by cases hi
 |j::O,_,h,i,d,hi,hd=>by
  rcases h with ⟨a,b⟩ | ⟨d',v,f,n,a,b,c,q,t⟩
  ·rcases ag.mp hi with e|hi
   ·subst e;rw[hd] at a;cases a
   ·exact iV.at b hi hd
  ·rcases ag.mp hi with e|hi
   ·subst e;rw[hd] at a;cases a;exact⟨v,f,λx g=>by rw[c];exact aC _ g,b,q⟩
   ·obtain⟨l,k,m,r⟩:=iV.at t hi hd;exact⟨l,k,λx g=>by rw[c];exact au _ (m x g),r⟩
theorem hE.full(h:hE O K σ ρ H G):jE K H σ ρ:=by
 obtain⟨B,rfl,f,a⟩:=h.ex;refine⟨h.len,λi d q=>?_⟩;by_cases b:i∈O
 ·obtain⟨v,l,m,e,c⟩:=a.at b q;exact⟨v,e,c.Je f.same λx g=>gw f.nd x (m x g)⟩
 ·obtain⟨v,k,j⟩:=h.lP i d q b;exact⟨v,k,j.same f.same⟩
def iI:List Nat->c5->c5
 |[],ρ=>ρ
 |i::O,ρ=>(iI O ρ).set i Z
theorem wQ:∀(O:List Nat) (ρ:c5),(iI O ρ).length=ρ.length
 |[],_=>rfl
 |i::O,ρ=>by rw[iI,eQ];exact wQ O ρ
theorem wR:∀{O:List Nat}{ρ:c5}{j:Nat}{d:fe},(iI O ρ)[j]?=Y (Y d)->j∉O/\ρ[j]?=Y (Y d)
 |[],_,_,_,h=>⟨by simp,h⟩
 |i::O,ρ,j,d,h=>by
  unfold iI at h;by_cases c:j=i
  ·subst c;by_cases e:j<(iI O ρ).length
   ·rw[aL e] at h;cases h
   ·rw[bX (by simpa using e)] at h;cases h
  ·rw[ax (Ne.symm c)] at h;obtain⟨a,b⟩:=wR h;exact⟨by simp[c,a],b⟩
theorem hE.rest(h:hE O K σ ρ H G):jE K G σ (iI O ρ):=by refine⟨by rw[wQ];exact h.len,λi d q=>?_⟩;obtain⟨a,b⟩:=wR q;exact h.lP i d b a
theorem hE.grow{j:Hp}(h:hE O K σ ρ H G)(e:fJ H j):∃g,fJ G g/\(∀a,H a=Z->g a=j a)/\hE O K σ ρ j g:=by
 obtain⟨B,rfl,f,l⟩:=h.ex;have p:∀x∈B,j x.1=Y x.2:=λx b=>e _ _ (gw f.nd x b);let g:Hp:=λa=>if (∃x∈B,x.1=a) then Z else j a
 have m:∀a,(∀x∈B,x.1≠a)->g a=j a:=λa c=>ao λ⟨x,b,z⟩=>c x b z;have r:∀x∈B,g x.1=Z:=λx b=>ai ⟨x,b,rfl⟩;have k:fJ G g:=λa o q=>by
  have c:∀x∈B,x.1≠a:=λx b z=>by have:=f.free x b;rw[z,q] at this;cases this
  rw[m a c];exact e _ _ (by rw[gY c];exact q)
 refine⟨g,k,λa c=>m a λx b z=>?_,h.len,⟨B,rA f.nd p λa c=>(m a c).symm,⟨f.nd,r,f.ok⟩,l.same k⟩,λi d q n=>?_⟩
 ·have:=gw (G:=G) f.nd x b;rw[z,c] at this;cases this
 obtain⟨v,t,s⟩:=h.lP i d q n;exact⟨v,t,s.same k⟩
theorem hE.uy{c:Hp} (j:σ.length=ρ.length) (e:iV (jU O) K σ ρ G O B) (g:∀(i:Nat) (d:fe),ρ[i]?=Y (Y d)->i∉O->∃v,σ[i]?=Y (Y v)/\fv K G d v)
  (h:fJ G c) (f:jF c B):hE O K σ ρ (fx c B) c :=
 ⟨j,⟨B,rfl,f,e.same h⟩,λi d q k=>let ⟨v,a,b⟩:=g i d q k;⟨v,a,b.same h⟩⟩
theorem hE.set{O:List Nat}{i:Nat}{d:fe}{v:V}(h:hE O K σ ρ H G)(m:i∉O)(e:fv K G d v):hE O K (σ.set i (Y v)) (ρ.set i (Y d)) H G:=by
 obtain⟨B,n,f,g⟩:=h.ex;refine⟨by simpa using h.len,⟨B,n,f,g.other λj k=>?_⟩,λj d' q k=>?_⟩
 ·have c:i≠j:=λz=>m (z▸k);exact⟨ax c,ax c⟩
 ·by_cases c:j=i
  ·subst c;have l:j<ρ.length:=by
    have:=(aM.mp q).1;simpa using this
   rw[aL l] at q;cases q;exact⟨v,by rw[aL (by rw[h.len];exact l)],e⟩
  ·rw[ax (Ne.symm c)] at q;obtain⟨u,a,b⟩:=h.lP j d' q k;exact⟨u,by rw[ax (Ne.symm c)];exact a,b⟩
theorem hE.own{O:List Nat}(p:O.Nodup)(h:hE O K σ ρ H G){i:Nat}{d:fe}(u:i∈O)(y:ρ[i]?=Y (Y d)):
  ∃v k n g,σ[i]?=Y (Y v)/\H=fx G (k++(n++g))/\jF G (k++(n++g))/\jG (jU O) K G d v n/\qr k/\qr g /\
   (∀c o e,fJ G c->jG (jU O) K c o v e->jF c (k++(e++g))->hE O K σ (ρ.set i (Y o)) (fx c (k++(e++g))) c) /\
   (∀c,fJ G c->jF c (k++g)->hE O K σ (ρ.set i Z) (fx c (k++g)) c):=by
 obtain⟨B,rfl,f,own⟩:=h.ex;obtain⟨v,k,n,g,I,rfl,F,E,D,C,A⟩:=own.split p u y;have m:∀(x:Od) (c:Hp),fJ G c->∀(j:Nat) (d2:fe),(ρ.set i x)[j]?=Y (Y d2)->j∉O->∃v,σ[j]?=Y (Y v)/\fv K c d2 v:=λx c l j d2 q t=>by have r:j≠i:=λz=>t (z▸u);rw[ax (Ne.symm r)] at q;obtain⟨v,a,b⟩:=h.lP j d2 q t;exact⟨v,a,b.same l⟩
 exact⟨v,k,n,g,I,rfl,f,F,E,D,λc o e l w s=>⟨by simpa using h.len,⟨_,rfl,s,C c o e l w⟩,m _ c l⟩,
  λc l s=>⟨by simpa using h.len,⟨_,rfl,s,A.same l⟩,m _ c l⟩⟩
theorem ph{q:Addr}{o d:HO}{i g:List (Addr×HO)}(k:((i++(q,o)::g).map (·.1)).Nodup):L2.upd (fx G (i++(q,o)::g)) q d=fx G (i++(q,d)::g):=by
 have c:((i++(q,d)::g).map (·.1)).Nodup:=by simpa using k
 refine rA c (λx f=>?_) λa j=>?_
 ·by_cases b:x.1=q
  ·have m:=gw (G:=G) c x f;have n:=gw (G:=G) c (q,d) (by simp);rw[b] at m;rw[b,fX,<-m,n]
  ·rw[fK b];refine gw k x ?_;rcases aw.mp f with h|h
   ·exact aC _ h
   ·rcases ag.mp h with e|h
    ·rw[e] at b;exact absurd rfl b
    ·exact au _ (aj _ h)
 ·have l:a≠q:=λz=>j (q,d) (by simp) z.symm;rw[fK l];refine gY λx f=>?_;rcases aw.mp f with h|h
  ·exact j x (aC _ h)
  ·rcases ag.mp h with e|h
   ·rw[e];exact Ne.symm l
   ·exact j x (au _ (aj _ h))
theorem jF.put{q:Addr}{o c:HO}{b a:List (Addr×HO)}(f:jF G (b++(q,o)::a))(d:qr (b++(q,c)::a)):jF G (b++(q,c)::a):=by
 refine⟨by simpa using f.nd,λx g=>?_,d⟩;rcases aw.mp g with h|h
 ·exact f.free x (aC _ h)
 ·rcases ag.mp h with e|h
  ·rw[e];exact f.free (q,o) (by simp)
  ·exact f.free x (au _ (aj _ h))
theorem hE.drop(r:O.Nodup)(h:hE O K σ ρ H G)(J:i∈O):∃F,fJ G F/\hE O K σ (ρ.set i Z) H F:=by
 cases hd:(ρ[i]?).join with
 |none=>
  refine⟨G,.refl G,?_⟩;obtain⟨B,u,f,p⟩:=h.ex;have l:∀(j:Nat) (d:fe),(ρ.set i Z)[j]?=Y (Y d)->ρ[j]?=Y (Y d):=λj d q=>by
   by_cases e:j=i
   ·subst e;by_cases D:j<ρ.length
    ·rw[aL D] at q;cases q
    ·rw[bX (by simpa using D)] at q;cases q
   ·rw[ax (Ne.symm e)] at q;exact q
  refine⟨by simpa using h.len,⟨B,u,f,?_⟩,λj d q I=>h.lP j d (l j d q) I⟩;have s:∀{m:List Nat}{B:List (Addr×HO)},iV (jU O) K σ ρ G m B->iV (jU O) K σ (ρ.set i Z) G m B:=by
   intro m;induction m with
   |nil=>exact λh=>h
   |cons j m C=>
    intro B h;rcases h with ⟨a,b⟩ | ⟨d,v,k,N,a,b,c,q,t⟩
    ·refine .inl ⟨?_,C b⟩;cases q:((ρ.set i Z)[j]?).join with
     |none=>rfl
     |some d=>rw[l j d (join_some q)] at a;cases a
    ·refine .inr ⟨d,v,k,N,?_,b,c,q,C t⟩;have e:j≠i:=λz=>by subst z;rw[a] at hd;cases hd
     rw[ax (Ne.symm e)];exact a
  exact s p
 |some d=>
  obtain⟨v,o,k,n,P,L,f,x,A,y,_,M⟩:=h.own r J (join_some hd);have g:(o++(k++n)).Perm ((o++n)++k):=by rw[aQ];exact cL _ aW
  have E:jF G ((o++n)++k):=f.perm g ((A.append y).append x.nE);have u:H=fx (fx G k) (o++n):=by rw[L,iD f.nd g,h9]
  have w:fJ G (fx G k):=(E.Cs x.nE).same;refine⟨fx G k,w,?_⟩;rw[u];exact M _ w (E.Cr (A.append y))
theorem iV.ins{i:Nat}{n:fe}{v:V}{o:List (Addr×HO)}:∀{O:List Nat}{B:List (Addr×HO)},O.Nodup->iV dp K σ ρ G O B->i∈O->i<ρ.length->i<σ.length->(ρ[i]?).join=Z->jG dp K G n v o ->
  ∃g,iV dp K (σ.set i (Y v)) (ρ.set i (Y n)) G O g/\g.Perm (o++B)
 |[],_,_,_,hi,_,_,_,_=>by cases hi
 |j::O,B,Up,h,hi,hl,Uq,hn,ob=>by
  have e:=bj.mp Up;by_cases f:j=i
  ·subst f;have p:∀k∈O,(ρ.set j (Y n))[k]?=ρ[k]?/\(σ.set j (Y v))[k]?=σ[k]?:=λk w=>by
    have:j≠k:=λz=>e.1 (z▸w);exact⟨ax this,ax this⟩
   rcases h with ⟨a,b⟩ | ⟨d,u,s,x,a,c,rfl,l,t⟩
   ·exact⟨o++B,.inr ⟨n,v,o,B,aL hl,aL Uq,rfl,ob,b.other p⟩,List.Perm.refl _⟩
   ·rw[a] at hn;cases hn
  ·have m:=(ag.mp hi).resolve_left (Ne.symm f);rcases h with ⟨a,b⟩ | ⟨d,u,s,x,a,c,rfl,l,t⟩
   ·obtain⟨g,r,q⟩:=iV.ins e.2 b m hl Uq hn ob;exact⟨g,.inl ⟨by rw[ax (Ne.symm f)];exact a,r⟩,q⟩
   ·obtain⟨g,r,q⟩:=iV.ins e.2 t m hl Uq hn ob;refine⟨s++g,.inr ⟨d,u,s,g,by rw[ax (Ne.symm f)];exact a,by rw[ax (Ne.symm f)];exact c,rfl,l,r⟩,(q.append_left _).trans ?_⟩;rw[<-aQ,<-aQ];exact dh _ aW
theorem hE.new(e:O.Nodup)(h:hE O K σ ρ H G){d':fe}{k:List (Addr×HO)}(m:i∈O)(s:i<ρ.length)(A:jG (jU O) K G d' v k)(D:jF H k):
  ∃x,fJ G x/\hE O K (σ.set i (Y v)) (ρ.set i (Y d')) (fx H k) x:=by
 obtain⟨p,r,n⟩:=h.drop e m;obtain⟨B,E,f,l⟩:=n.ex;have g:i<(ρ.set i Z).length:=by simpa using s
 obtain⟨y,o,w⟩:=l.ins e m g (by rw[n.len];exact g) (by rw[aL s];rfl) (A.same r);rw[List.set_set] at o;subst E;have C:jF p (k++B):=f.join D;have u:jF p y:=C.perm w.symm o.nE;refine⟨p,r,by simpa using h.len,⟨y,?_,u,o⟩,λj d q t=>?_⟩
 ·rw[iD u.nd w,h9]
 ·have c:j≠i:=λz=>t (z▸m);rw[ax (Ne.symm c)] at q;obtain⟨v,a,b⟩:=n.lP j d (by rw[ax (Ne.symm c)];exact q) t;exact⟨v,by rw[ax (Ne.symm c)];exact a,b⟩
end
noncomputable def lR:fe->fe->Bool
 |.int a,.int b=>decide (a=b)
 |.str a,.str b=>decide (a=b)
 |_,_=>false
theorem jz(a b:Key):lR (jT a) (jT b)=decide (a=b):=by cases a<;>cases b<;>simp[jT,lR]
noncomputable def tr:fe->Option Key
 |.int i=>Y (.inl i)
 |.str x=>Y (.inr x)
 |_=>Z
theorem jl{k:Key}(h:tr d=Y k):d=jT k:=by cases d<;>simp[tr] at h<;>subst h<;>rfl
theorem kh{K:Fg}{k:Key}(h:fv K H (jT k) v):v=kV k:=by
 cases k with
 |inl i=>exact fv.fG.mp h
 |inr x=>exact fv.f6.mp h
def lz(k:fe):List (fe×fe)->Od
 |[]=>Z
 | (y,d)::r=>if lR y k=true then Y d else lz k r
noncomputable def Ct(k v:fe)(a:List (fe×fe)):List (fe×fe) :=
 if (a.any λx=>lR x.1 k)=true then a.map (λx=>if lR x.1 k=true then (x.1,v) else x) else a++[(k,v)]
def hU:List (fe×fe)->Bool
 | (.none,_)::_=>true
 |_=>false
section
variable {K:Fg}
theorem fv.rZ(h:fv K H (.dict kF) v)(g:hU kF=false):∃p a,v=.ref p/\H p=Y (.dK a)/\gA K H kF a:=by
 obtain⟨p,i,⟨a,f,e⟩ | ⟨c,C,l,j,f,e,b⟩⟩:=fv.nN.mp h
 ·exact⟨p,a,i,f,e⟩
 ·cases kF with
  |nil=>exact(pH.fQ.mp b).elim
  |cons x r=>obtain⟨k,d⟩:=x;obtain⟨rfl,_,_⟩:=pH.fH.mp b;cases g
theorem fv.Kd(h:fv K H (.dict ((.none,.str c)::r)) v):∃p C d a,v=.ref p/\mz K c C/\H p=Y (.ins C d a)/\kG K H r a:=by
 obtain⟨p,k,⟨l,f,b⟩ | ⟨m,C,d,a,f,b,j⟩⟩:=fv.nN.mp h
 ·obtain⟨y,_,_,_,e,_⟩:=gA.fH.mp b;cases y<;>cases e
 ·obtain⟨_,i,g⟩:=pH.fH.mp j;cases i;exact⟨p,C,d,a,k,f,b,g⟩
theorem gA.val{y:Key}:∀{f:List (fe×fe)}{g:List (Key×V)},gA K H f g ->
  (lz (jT y) f=Z/\pG g y=Z)\/∃d v,lz (jT y) f=Y d/\pG g y=Y v/\fv K H d v
 |[],_,h=>by rw[gA.fQ.mp h];exact .inl ⟨rfl,rfl⟩
 | (k,d)::r,_,h=>by
  obtain⟨z,v,m,rfl,rfl,i,t⟩:=gA.fH.mp h;by_cases e:z=y
  ·right;exact⟨d,v,by simp[lz,jz,e],sZ e,i⟩
  ·rcases gA.val (y:=y) t with ⟨a,b⟩ | ⟨l,j,a,b,c⟩
   ·exact .inl ⟨by simp[lz,jz,e,a],by rw[qD (p:=(z,v)) e];exact b⟩
   ·exact .inr ⟨l,j,by simp[lz,jz,e,a],by rw[qD (p:=(z,v)) e];exact b,c⟩
theorem gA.any{y:Key}:∀{a:List (fe×fe)}{b:List (Key×V)},gA K H a b->(b.any λx=>decide (x.1=y))=a.any λx=>lR x.1 (jT y)
 |[],_,h=>by rw[gA.fQ.mp h];rfl
 | (k,d)::r,_,h=>by obtain⟨z,v,c,rfl,rfl,i,t⟩:=gA.fH.mp h;rw[bM,bM,gA.any t,jz]
theorem gA.EB{y:Key}{d:fe}{v:V}(i:fv K H d v):∀{a:List (fe×fe)}{b:List (Key×V)},gA K H a b ->
  gA K H (a.map λx=>if lR x.1 (jT y)=true then (x.1,d) else x) (b.map λx=>if x.1=y then (x.1,v) else x)
 |[],_,h=>by rw[gA.fQ.mp h];exact gA.fQ.mpr rfl
 | (k',j)::r,_,h=>by
  obtain⟨z,f,g,rfl,rfl,c,t⟩:=gA.fH.mp h;rw[ae,ae,jz];by_cases e:z=y
  ·rw[ai e,ai (aX e)];exact gA.fH.mpr ⟨_,_,_,rfl,rfl,i,gA.EB i t⟩
  ·rw[ao e,ao (by simp[e])];exact gA.fH.mpr ⟨_,_,_,rfl,rfl,c,gA.EB i t⟩
theorem gA.snoc{y:Key}{d:fe}{v:V}(i:fv K H d v):∀{a:List (fe×fe)}{b:List (Key×V)},gA K H a b->gA K H (a++[(jT y,d)]) (b++[(y,v)])
 |[],_,h=>by rw[gA.fQ.mp h];exact gA.fH.mpr ⟨_,_,_,rfl,rfl,i,gA.fQ.mpr rfl⟩
 | (k',g)::r,_,h=>by obtain⟨z,e,f,rfl,rfl,c,t⟩:=gA.fH.mp h;exact gA.fH.mpr ⟨_,_,_,rfl,rfl,c,gA.snoc i t⟩
theorem gA.put{a:List (Key×V)}{y:Key}(h:gA K H kF a)(i:fv K H d v):gA K H (Ct (jT y) d kF) (ql a y v):=by
 unfold Ct ql;rw[h.any];by_cases e:(kF.any λx=>lR x.1 (jT y))=true
 ·rw[ai e,ai e];exact h.EB i
 ·rw[ao e,ao e];exact h.snoc i
theorem gA.length:∀{a:List (fe×fe)}{b:List (Key×V)},gA K H a b->a.length=b.length
 |[],_,h=>by rw[gA.fQ.mp h];rfl
 | (k,d)::r,_,h=>by obtain⟨z,v,c,rfl,rfl,i,t⟩:=gA.fH.mp h;simp[gA.length t]
end
section
variable {a b o i:Expr}{fa fb:c5->Od}{apos gQ:Pos}
theorem PE.or{t u:TE}(h:PE X e t)(b:PE X e u):PE X e (λσ H Q=>t σ H Q\/u σ H Q):=λa s σ H Q I q=>q.elim (@h a s σ H Q I) (@b a s σ H Q I)
def GD(x k:fe):Od:=match x with
 |.dict kF=>if hU kF=true then Z else (tr k).bind λ_=>lz k kF
 |_=>Z
theorem Nt(I:X.A.units+64<cLine)(z:PD X a fa)(w:PD X b fb)(f:EC b):PD X (.Subscript a b pos) (d2 GD fa fb) :=
 PE.imp (Gs (by omega) z w f) λσ H Q h=>by
  obtain⟨ρ,d,f,e,k⟩:=h;obtain⟨x,F,e⟩:=bind_some e;obtain⟨y,E,e⟩:=bind_some e;refine⟨ρ,x,f,F,λv L m t=>⟨ρ,y,f.same m,E,λu K l s=>?_⟩⟩;obtain⟨c,rfl⟩:∃c,x=.dict c:=by cases x<;>first|exact⟨_,rfl⟩|(simp[GD] at e)
  unfold GD at e;by_cases j:hU c=true
  ·dsimp only at e;rw[ai j] at e;cases e
  ·dsimp only at e;rw[ao j] at e;obtain⟨r,D,g⟩:=bind_some e;obtain⟨p,G,rfl,C,B⟩:=(t.same l).rZ (by simpa using j);have:=jl D;subst this;rw[kh s];rcases B.val (y:=r) with ⟨i,_⟩ | ⟨J,n,i,q,o⟩
   ·rw[i] at g;cases g
   ·rw[i] at g;cases g;exact⟨p,n,rfl,by rw[<-q];exact tf.k C,k.later (m.trans l) |>.here o⟩
def gm(x k:fe):Od:=match x with
 |.dict kF=>GD (.dict kF) k
 |x=>VC x k
theorem Rv(o:X.A.units+64<cLine)(i:PD X a fa)(g:PD X b fb)(c:sX b)(f:EC b):PD X (.Subscript a b pos) (d2 gm fa fb) :=
 PE.imp (PE.or (T8 Zt i g c) (Nt o i g f)) λσ H Q h=>by
  obtain⟨ρ,d,c,e,k⟩:=h;obtain⟨x,m,p⟩:=bind_some e;obtain⟨y,l,j⟩:=bind_some p;cases x with
  |dict n=>exact .inr ⟨ρ,d,c,by show (fa ρ).bind _=_;rw[m];show (fb ρ).bind _=_;rw[l];exact j,k⟩
  |_=>exact .inl ⟨ρ,d,c,by show (fa ρ).bind _=_;rw[m];show (fb ρ).bind _=_;rw[l];exact j,k⟩
noncomputable def oW(x k:fe):Od:=match x with
 |.dict kF=>if hU kF=true then Z else (tr k).bind λ_=>Y ((lz k kF).getD .none)
 |_=>Z
theorem nS(K:X.A.units+64<cLine)(D:PD X o fa)(C:PD X e fb)(m:M1 X o "get" apos e gQ):PD X (.Call (.Attribute o "get" apos) [e] [] gQ) (d2 oW fa fb) :=
 PE.imp (JT (by omega) D C m) λσ H Q h=>by
  obtain⟨ρ,d,q,e,k⟩:=h;obtain⟨x,I,e⟩:=bind_some e;obtain⟨y,G,e⟩:=bind_some e;refine⟨ρ,x,q,I,λv N l B=>?_⟩;obtain⟨a,rfl⟩:∃a,x=.dict a:=by cases x<;>first|exact⟨_,rfl⟩|(simp[oW] at e)
  unfold oW at e;by_cases i:hU a=true
  ·dsimp only at e;rw[ai i] at e;cases e
  ·dsimp only at e;rw[ao i] at e;obtain⟨t,F,b⟩:=bind_some e;obtain⟨p,w,rfl,r,E⟩:=B.rZ (by simpa using i);refine⟨p,rfl,.inl ⟨w,.inl r⟩,ρ,y,q.same l,G,λu M c z=>?_⟩;have:=jl F;subst this;rw[kh z];refine⟨_,tf.k (c _ _ r),?_⟩;have j:=E.same c;have n:=k.later (l.trans c);rcases j.val (y:=t) with ⟨g,f⟩ | ⟨L,J,g,f,s⟩
   ·rw[g] at b;cases b;rw[f];exact n.here (fv.jk.mpr rfl)
   ·rw[g] at b;cases b;rw[f];exact n.here s
theorem Ke(i:X.A.units+64<cLine):lO X (compareOp .In) (λx y H Q=>∃p a k,x=kV k/\y=.ref p/\H p=Y (.dK a)/\Q (.bl (pG a k).isSome) H):=by intro b s σ H x y v u Q I d c h;obtain⟨p,a,k,rfl,rfl,e,q⟩:=h;cases c;exact WI (by omega) I (tf.k e) d λg f=>⟨.bl _,H,f,rfl,q⟩
theorem Cu(i:X.A.units+64<cLine):lO X (compareOp .NotIn) (λx y H Q=>∃p a k,x=kV k/\y=.ref p/\H p=Y (.dK a)/\Q (.bl (!(pG a k).isSome)) H):=by intro b s σ H x y v u Q I d c h;obtain⟨p,a,k,rfl,rfl,e,q⟩:=h;cases c;exact Nc (by omega) I (tf.k e) d λg f=>⟨.bl _,H,f,rfl,q⟩
theorem tu(I:fD X pins σ H s){x:fe}(n:SeqAt.shaped x=true)(C:fv X.K H x v)(w:gv v u)(U:A.units+x.depth<cLine):
  ∀{a:Lp}{c:List V}{b:Lw},(∀d∈a,SeqAt.shaped d=true)->dt X.K H a c->f7 c b->∃e:Value->Bool,(∀y∈b,SeqAt.EqAt A s y u (e y))/\b.any e=a.any λd=>fe.eqv d x:=by
 obtain⟨Q,t⟩:=I.pI (aT n) C w;let e:Value->Bool:=λy=>@decide (∃d g,Reads s.heap y d g/\SeqAt.shaped d=true/\fe.eqv d x=true) (Classical.propDecidable _);have G:∀(d:fe) (g:List Addr) (y:Value),Reads s.heap y d g->SeqAt.shaped d=true->e y=fe.eqv d x:=λd g y r f=>by
  cases q:fe.eqv d x with
  |true=>exact @decide_eq_true _ (Classical.propDecidable _) ⟨d,g,r,f,q⟩
  |false=>refine @decide_eq_false _ (Classical.propDecidable _) λ⟨O,P,l,J,m⟩=>?_;have:=SeqAt.Reads.unique d O y _ _ (aT f) r l;subst this;rw[q] at m;cases m
 intro a;have h:∀{a:Lp}{c:List V}{b:Lw},(∀d∈a,SeqAt.shaped d=true)->dt X.K H a c->f7 c b->(∀y∈b,SeqAt.EqAt A s y u (e y))/\b.any e=a.any λd=>fe.eqv d x:=by
  intro a;induction a with
  |nil=>intro c b _ i r;rw[dt.fQ.mp i] at r;cases r;exact⟨(λy j=>by cases j),rfl⟩
  |cons d a D=>
   intro c b o i r;obtain⟨T,l,rfl,F,E⟩:=dt.fH.mp i;cases r with
   |cons B z=>
    obtain⟨S,R⟩:=D (λd f=>o d (aj _ f)) E z;have f:=o d (by simp);obtain⟨g,k⟩:=I.pI (aT f) F B;have p:=G d g _ k f;refine⟨λy j=>?_,by rw[bM,bM,p,R]⟩;rcases ag.mp j with q|q
    ·subst q;rw[p];refine SeqAt.eqAt_reads d x A s _ _ g Q k t (aT f) (aT n) ?_;have:min d.depth x.depth<=x.depth:=eE _ _;omega
    ·exact S y q
 intro c b N M L;exact⟨e,h N M L⟩
noncomputable def kR:fe->fe->Option Bool
 |x,.list xs=>if SeqAt.shaped x=true/\xs.all SeqAt.shaped=true/\x.depth<=60 then Y (xs.any λy=>fe.eqv y x) else Z
 |x,.tuple xs=>if SeqAt.shaped x=true/\xs.all SeqAt.shaped=true/\x.depth<=60 then Y (xs.any λy=>fe.eqv y x) else Z
 |x,.dict kF=>if hU kF=true then Z else (tr x).map λ_=>(lz x kF).isSome
 |.str x,.str y=>Y (!(Builtin.Str.occurrences y x 0 y.length 1).isEmpty)
 |_,_=>Z
def mB(x y:fe):Od:=(kR x y).map .bool
def ki(x y:fe):Od:=(kR x y).map λb=>.bool (!b)
theorem Nu(E:X.A.units+64<cLine):lO X (compareOp .In) (λx y H Q=>∃p d g i,y=.ref p/\(o8 X.K H p i\/rS X.K H p i)/\fv X.K H d x/\dt X.K H g i/\SeqAt.shaped d=true/\g.all SeqAt.shaped=true/\d.depth<=60 /\
  Q (.bl (g.any λy=>fe.eqv y d)) H):=by
 intro t s σ H x y v u Q I o B h;obtain⟨p,d,g,i,rfl,f,w,is,z,l,D,q⟩:=h;cases B;have b:∀d∈g,SeqAt.shaped d=true:=aU.mp l;have c:X.A.in1.units+d.depth<cLine:=by show X.A.units+1+d.depth<cLine;omega
 rcases f with f|f
 ·obtain⟨a,r,j,C⟩:=I.list f;obtain⟨e,n,m⟩:=tu I (A:=X.A.in1) z w o c b is r;refine SeqAt.in_listAt e j.isList (λy k=>n y (by simpa using k)) ⟨.bl _,H,I,rfl,?_⟩;rw[show a.toArray.any e=a.any e by simp,m];exact q
 ·obtain⟨a,r,j,C⟩:=I.tuple f;obtain⟨e,n,m⟩:=tu I (A:=X.A.in1) z w o c b is r;refine SeqAt.in_tupleAt e j (λy k=>n y (by simpa using k)) ⟨.bl _,H,I,rfl,?_⟩;rw[show a.toArray.any e=a.any e by simp,m];exact q
theorem EK(E:X.A.units+64<cLine):lO X (compareOp .NotIn) (λx y H Q=>∃p d g i,y=.ref p/\(o8 X.K H p i\/rS X.K H p i)/\fv X.K H d x/\dt X.K H g i/\SeqAt.shaped d=true/\g.all SeqAt.shaped=true/\d.depth<=60 /\
  Q (.bl (!(g.any λy=>fe.eqv y d))) H):=by
 intro t s σ H x y v u Q I o B h;obtain⟨p,d,g,i,rfl,f,w,is,z,l,D,q⟩:=h;cases B;have b:∀d∈g,SeqAt.shaped d=true:=aU.mp l;have c:X.A.in1.units+d.depth<cLine:=by show X.A.units+1+d.depth<cLine;omega
 rcases f with f|f
 ·obtain⟨a,r,j,C⟩:=I.list f;obtain⟨e,n,m⟩:=tu I (A:=X.A.in1) z w o c b is r;refine SeqAt.notIn_listAt e j.isList (λy k=>n y (by simpa using k)) ⟨.bl _,H,I,rfl,?_⟩;rw[show a.toArray.any e=a.any e by simp,m];exact q
 ·obtain⟨a,r,j,C⟩:=I.tuple f;obtain⟨e,n,m⟩:=tu I (A:=X.A.in1) z w o c b is r;refine SeqAt.notIn_tupleAt e j (λy k=>n y (by simpa using k)) ⟨.bl _,H,I,rfl,?_⟩;rw[show a.toArray.any e=a.any e by simp,m];exact q
theorem jt(s:X.A.units+64<cLine):ti X (compareOp .In) mB:=by
 refine lO.imp ((Nu s).or ((Ke s).or HJ)) λx y H Q ⟨a,b,c,l,j,e,k⟩=>?_;obtain⟨t,d,i⟩:=ak.mp e;subst i;cases b with
 |list g=>
  dsimp only[kR] at d;by_cases f:SeqAt.shaped a=true/\g.all SeqAt.shaped=true/\a.depth<=60
  ·rw[ai f] at d;cases d;obtain⟨p,m,rfl,i,h⟩:=fv.fY.mp j;exact .inl ⟨p,a,g,m,rfl,.inl i,l,h,f.1,f.2.1,f.2.2,k.here (fv.fT.mpr rfl)⟩
  ·rw[ao f] at d;cases d
 |tuple g=>
  dsimp only[kR] at d;by_cases f:SeqAt.shaped a=true/\g.all SeqAt.shaped=true/\a.depth<=60
  ·rw[ai f] at d;cases d;obtain⟨p,m,rfl,i,h⟩:=j.iF;exact .inl ⟨p,a,g,m,rfl,.inr i,l,h,f.1,f.2.1,f.2.2,k.here (fv.fT.mpr rfl)⟩
  ·rw[ao f] at d;cases d
 |dict q=>
  dsimp only[kR] at d;by_cases f:hU q=true
  ·rw[ai f] at d;cases d
  ·rw[ao f] at d;obtain⟨r,h,C⟩:=ak.mp d;subst C;obtain⟨p,v,rfl,B,w⟩:=j.rZ (by simpa using f);have:=jl h;subst this;refine .inr (.inl ⟨p,v,r,kh l,rfl,B,?_⟩);rcases w.val (y:=r) with ⟨o,n⟩ | ⟨E,D,o,n,_⟩
   ·rw[n];rw[o] at k;exact k.here (fv.fT.mpr rfl)
   ·rw[n];rw[o] at k;exact k.here (fv.fT.mpr rfl)
 |str z=>
  cases a<;>try (simp[kR] at d;done)
  rename_i u;simp only[kR] at d;cases d;exact .inr (.inr ⟨u,z,fv.f6.mp l,fv.f6.mp j,k.here (fv.fT.mpr rfl)⟩)
 |none=>simp[kR] at d
 |bool _=>simp[kR] at d
 |int _=>simp[kR] at d
theorem lA(s:X.A.units+64<cLine):ti X (compareOp .NotIn) ki:=by
 refine lO.imp ((EK s).or ((Cu s).or Al)) λx y H Q ⟨a,b,c,l,j,e,k⟩=>?_;obtain⟨t,d,i⟩:=ak.mp e;subst i;cases b with
 |list g=>
  dsimp only[kR] at d;by_cases f:SeqAt.shaped a=true/\g.all SeqAt.shaped=true/\a.depth<=60
  ·rw[ai f] at d;cases d;obtain⟨p,m,rfl,i,h⟩:=fv.fY.mp j;exact .inl ⟨p,a,g,m,rfl,.inl i,l,h,f.1,f.2.1,f.2.2,k.here (fv.fT.mpr rfl)⟩
  ·rw[ao f] at d;cases d
 |tuple g=>
  dsimp only[kR] at d;by_cases f:SeqAt.shaped a=true/\g.all SeqAt.shaped=true/\a.depth<=60
  ·rw[ai f] at d;cases d;obtain⟨p,m,rfl,i,h⟩:=j.iF;exact .inl ⟨p,a,g,m,rfl,.inr i,l,h,f.1,f.2.1,f.2.2,k.here (fv.fT.mpr rfl)⟩
  ·rw[ao f] at d;cases d
 |dict q=>
  dsimp only[kR] at d;by_cases f:hU q=true
  ·rw[ai f] at d;cases d
  ·rw[ao f] at d;obtain⟨r,h,C⟩:=ak.mp d;subst C;obtain⟨p,v,rfl,B,w⟩:=j.rZ (by simpa using f);have:=jl h;subst this;refine .inr (.inl ⟨p,v,r,kh l,rfl,B,?_⟩);rcases w.val (y:=r) with ⟨o,n⟩ | ⟨E,D,o,n,_⟩
   ·rw[n];rw[o] at k;exact k.here (fv.fT.mpr rfl)
   ·rw[n];rw[o] at k;exact k.here (fv.fT.mpr rfl)
 |str z=>
  cases a<;>try (simp[kR] at d;done)
  rename_i u;simp only[kR] at d;cases d;exact .inr (.inr ⟨u,z,fv.f6.mp l,fv.f6.mp j,k.here (fv.fT.mpr rfl)⟩)
 |none=>simp[kR] at d
 |bool _=>simp[kR] at d
 |int _=>simp[kR] at d
def gR:Lp->Od
 |[.dict kF]=>if hU kF=true then Z else Y (.int kF.length)
 |ds=>Nj ds
theorem Nv:vi X (.builtin "len") gR:=by
 refine ji.imp (ji.or Rn HW) λl H Q ⟨j,c,i,e,k⟩=>?_;unfold gR at e;split at e
 ·rename_i a;by_cases b:hU a=true
  ·rw[ai b] at e;cases e
  ·rw[ao b] at e;cases e;obtain⟨v,rfl,f⟩:=i6 i;obtain⟨p,d,rfl,h,g⟩:=f.rZ (by simpa using b);refine .inr ⟨p,d,rfl,h,?_⟩;rw[<-g.length];exact k.here (fv.fG.mpr rfl)
 ·exact .inl ⟨j,c,i,e,k⟩
def j0(K:Fg)(c f:Str):Prop:=∃C,mz K c C/\Jy K C/\so K C f
noncomputable def gS(a:Lr)(f:Str)(d:fe):Od:=match d with
 |.dict ((.none,.str c)::r)=>if c∈a then pf f r else Z
 |_=>Z
def iR(a:Lr)(n:Str)(f:c5->Od):c5->Od:=λρ=>(f ρ).bind (gS a n)
theorem Rw{cs:Lr}{n:Str}(q:∀c∈cs,j0 X.K c n)(m:PD X e f)(o:attributeBase e n X.env (eval e X.env)=eval e X.env:=by rfl):PD X (.Attribute e n pos) (iR cs n f) :=
 PE.imp (Jz m o) λσ H Q ⟨ρ,d,j,e,k⟩=>by
  obtain⟨x,D,a⟩:=bind_some e;refine⟨ρ,x,j,D,λv F g i=>?_⟩;unfold gS at a;split at a
  ·rename_i c r;by_cases b:c∈cs
   ·rw[ai b] at a;obtain⟨p,C,E,B,rfl,w,t,s⟩:=i.Kd;obtain⟨G,A,z,y⟩:=q c b;have:=w.uniq A;subst this;obtain⟨u,l,h⟩:=s.get a;exact⟨p,C,E,B,u,rfl,t,z,y,l,(k.later g).here h⟩
   ·rw[ao b] at a;cases a
  ·cases a
end
end L2
local macro_rules
| `(zP $s $m $a) => `(L2.Rw (cs := [$s]) (fun c hc => (List.mem_singleton.mp hc) ▸ $m) $a)
| `(zL $m $a) => `(L2.lj L2.Nv rfl $m (by rfl) (L2.bS $a L2.gB))
| `(zN $a) => `(L2.gF L2.gR (L2.c4 $a L2.eB))
| `(zX $a $b) => `(L2.d2 L2.gm $a $b)
namespace L2
open PySem PySem.Spec PyProof.Rows
inductive Pl where
 |sl (i:Nat)
 |fl (i:Nat) (c f:Str)
def Pl.ix:Pl->Nat
 |.sl i=>i
 |.fl i _ _=>i
def Kf(c f:Str)(d:fe):Od:=match d with
 |.dict ((.none,.str a)::r)=>if a=c/\lU c f=true then pf f r else Z
 |_=>Z
def Kg(f:Str)(y d:fe):fe:=match d with
 |.dict ((.none,.str c)::r)=>.dict ((.none,.str c)::pK f y r)
 |d=>d
def oX:Pl->c5->Od
 |.sl i,ρ=>(ρ[i]?).join
 |.fl i c f,ρ=>(ρ[i]?).join.bind (Kf c f)
def rW:Pl->fe->c5->c5
 |.sl i,d,ρ=>ρ.set i (Y d)
 |.fl i _ f,d,ρ=>ρ.set i ((ρ[i]?).join.map (Kg f d))
def vE(K:Fg)(σ:St)(H:Hp):Pl->Addr->Prop
 |.sl i,q=>σ[i]?=Y (Y (.ref q))
 |.fl i c f,q=>∃C p b a,σ[i]?=Y (Y (.ref p))/\mz K c C/\H p=Y (.ins C b a)/\a.lookup f=Y (.ref q)
def uz:fe->Bool
 |.list _=>true
 |.dict kF=>!hU kF
 |_=>false
section
variable {K:Fg}
theorem jG.cont(h:jG false K G d v B)(e:uz d=true):∃q o,v=.ref q/\B=[(q,o)]/\qo K G d q o:=by
 rcases h with ⟨q,o,i,a,b,c⟩ | ⟨c,C,p,g,f,r,j,rfl,_⟩
 ·exact⟨q,o,a,by rw[b,c.2],c.1⟩
 ·cases e
theorem jG.Ta{q:Addr}{o:HO}(h:qo K G d q o):jG false K G d (.ref q) [(q,o)]:=.inl ⟨q,o,[],rfl,rfl,h,rfl⟩
def EL:fe->Bool
 |.list []=>true
 |.dict []=>true
 |_=>false
theorem qo.gen{q:Addr}{o:HO}(h:qo K G d q o)(b:dp=false\/EL d=true):qH dp K G d q o []:=by
 cases dp with
 |false=>exact⟨h,rfl⟩
 |true=>
  have b:=b.resolve_left (by simp);rcases h with ⟨i,f,rfl,rfl,c⟩ | ⟨e,g,rfl,rfl,c⟩
  ·cases i with
   |nil=>exact .inl ⟨[],f,rfl,rfl,dt.fQ.mp c,rfl⟩
   |cons a l=>cases b
  ·cases e with
   |nil=>exact .inr ⟨[],g,rfl,rfl,gA.fQ.mp c,rfl⟩
   |cons a l=>cases b
theorem qH.Rx{q:Addr}{o:HO}{g:List (Addr×HO)}(h:qH dp K G (.dict ((.none,.str c)::r)) q o g):False:=by
 cases dp with
 |false=>
  rcases h with ⟨⟨_,_,e,_⟩ | ⟨b,d,e,_,i⟩,_⟩
  ·cases e
  ·cases e;obtain⟨y,_,_,_,e,_⟩:=gA.fH.mp i;cases y<;>cases e
 |true=>
  rcases h with ⟨_,_,e,_⟩ | ⟨b,d,e,_,i⟩
  ·cases e
  ·cases e;obtain⟨y,v,j,l,k,a,f,_⟩:=i;cases y<;>cases f
theorem jG.inst(h:jG dp K G (.dict ((.none,.str c)::r)) v B):∃C p b a d,v=.ref p/\B=(p,.ins C b a)::(b,.own p)::d/\mz K c C/\kb K G c r a d:=by
 rcases h with ⟨q,o,k,rfl,rfl,h⟩ | ⟨j,C,p,b,a,i,d,e,rfl,rfl,g,f⟩
 ·exact h.Rx.elim
 ·cases e;exact⟨C,p,b,a,d,rfl,rfl,g,f⟩
theorem EM{f:Str}{x:fe}(h:Kf c f x=Y d):∃r,x=.dict ((.none,.str c)::r)/\lU c f=true/\pf f r=Y d:=by
 unfold Kf at h;split at h
 ·rename_i e r;by_cases a:e=c/\lU c f=true
  ·rw[ai a] at h;obtain⟨rfl,b⟩:=a;exact⟨r,rfl,b,h⟩
  ·rw[ao a] at h;cases h
 ·cases h
def tw(O:List Nat):Pl->Bool
 |.sl _=>jU O
 |.fl _ c f=>pL c f
theorem hE.EN(s:O.Nodup)(h:hE O K σ ρ H G){π:Pl}(S:π.ix∈O)(T:oX π ρ=Y d)(hc:uz d=true):
  ∃q o n l k,vE K σ H π q/\H=fx G (l++((q,o)::(n++k)))/\jF G (l++((q,o)::(n++k)))/\qr l/\qr k/\qH (tw O π) K G d q o n /\
   ∀e j b a,fJ G e->qH (tw O π) K e j q b a->jF e (l++((q,b)::(a++k)))->hE O K σ (rW π j ρ) (fx e (l++((q,b)::(a++k)))) e:=by
 cases π with
 |sl i=>
  obtain⟨v,l,B1,k,M,u,f,z,F,E,P,_⟩:=h.own s S (join_some T);rcases z with ⟨q,o,n,rfl,rfl,W⟩ | ⟨c,C,p,g,m,r,B',rfl,_⟩
  ·exact⟨q,o,n,l,k,M,u,f,F,E,W,λe j b a w A t=>P e j ((q,b)::a) w (.inl ⟨q,b,a,rfl,rfl,A⟩) t⟩
  ·cases hc
 |fl i c f=>
  obtain⟨x,U,e0⟩:=bind_some T;obtain⟨r,rfl,I,hg⟩:=EM e0;obtain⟨v,l,B1,k,M,u,t,z,F,E,P,_⟩:=h.own s S (join_some U);obtain⟨C,p,g,m,B',rfl,rfl,V,a5⟩:=z.inst;obtain⟨q,o,n,R,Q,l1,rfl,m1,m2,X,N⟩:=a5.split I hg;have L:∀(b:HO) (a:List (Addr×HO)),l++(((p,HO.ins C g m)::(g,HO.own p)::(R++((q,b)::(a++Q))))++k)=(l++(p,HO.ins C g m)::(g,HO.own p)::R)++((q,b)::(a++(Q++k))):=λb a=>by simp
  rw[L] at u t;refine⟨q,o,n,_,_,⟨C,p,g,m,M,V,?_,l1⟩,u,t,F.append (.ins m1),m2.append E,X,λe j b a w D J=>?_⟩
  ·rw[u];exact gw t.nd (p,.ins C g m) (by simp)
  ·have B:=N e j b a w D;have y:jG (jU O) K e (.dict ((.none,.str c)::pK f j r)) (.ref p) ((p,HO.ins C g m)::(g,HO.own p)::(R++((q,b)::(a++Q)))):=.inr ⟨c,C,p,g,m,_,_,rfl,rfl,rfl,V,B⟩;have:=P e _ _ w y (by rw[L];exact J);rw[L] at this;have es:rW (.fl i c f) j ρ=ρ.set i (Y (.dict ((.none,.str c)::pK f j r))):=by
    show ρ.set i ((ρ[i]?).join.map (Kg f j))=_;rw[U];rfl
   rw[es];exact this
theorem hE.place(f:O.Nodup)(h:hE O K σ ρ H G){π:Pl}(p:π.ix∈O)(s:oX π ρ=Y d)(t:uz d=true)(g:tw O π=false):
  ∃q o,vE K σ H π q/\H q=Y o/\qo K G d q o/\∀e b,qo K G e q b->hE O K σ (rW π e ρ) (upd H q b) G:=by
 obtain⟨q,o,w,v,u,r,i,c,n,m,j,k⟩:=h.EN f p s t;rw[g] at j k;obtain⟨l,rfl⟩:=j;refine⟨q,o,r,by rw[i];exact gw c.nd (q,o) (by simp),l,λe b a=>?_⟩;rw[bp] at i c;rw[i,ph c.nd];exact k G e b [] (.refl G) ⟨a,rfl⟩ (c.put (n.append (.one a.W9 m)))
end
inductive Md where
 |dat|own|io (dp:Bool) (v0:V)|exc (W:Int->Hp->Prop)
def KO(K:Fg)(H:Hp)(d:fe)(Q:VK):Prop:=∀v a b,fJ H a->jF a b->jG false K a d v b->Q v (fx a b)
theorem KO.later{K:Fg}{a:Hp}{Q:VK}(k:KO K H d Q)(e:fJ H a):KO K a d Q:=λv b c s f o=>k v b c (e.trans s) f o
structure kc (m:Md) (O:List Nat) (K:Fg) (σ:St) (ρ:c5) (H G:Hp):Prop where
 o:hE O K σ ρ H G
 z:∀dp v0,m=.io dp v0->0∈O/\σ[0]?=Y (Y v0)/\jU O=dp
def P2(m:Md)(K:Fg)(G:Hp)(d:fe)(Q:VK):Prop:=match m with
 |.dat=>KD K G d Q
 |.own=>KO K G d Q
 |.io dp v0=>∃x c,d=.tuple [x,c]/\∀v a b,fJ G a->jF a b->jG dp K a c v0 b->fv K a x v->Q v (fx a b)
 |.exc W=>(∃n,d=.int n/\∀a,fJ G a->W n a)\/((∀n,d≠.int n)/\KD K G d Q)
theorem P2.later{m:Md}{K:Fg}{G g:Hp}{d:fe}{Q:VK}(e:fJ G g)(h:P2 m K G d Q):P2 m K g d Q:=by
 cases m with
 |dat=>exact KD.later h e
 |own=>exact KO.later h e
 |io l k=>obtain⟨x,j,a,b⟩:=h;exact⟨x,j,a,λv c B s f o i=>b v c B (e.trans s) f o i⟩
 |exc W=>
  rcases h with ⟨n,a,b⟩ | ⟨a,b⟩
  ·exact .inl ⟨n,a,λc s=>b c (e.trans s)⟩
  ·exact .inr ⟨a,KD.later b e⟩
def Nx(m:Md)(O:List Nat)(K:Fg)(G:Hp)(D:B5):Out->Prop
 |.nx ρ=>∀σ a b,fJ G b->kc m O K σ ρ a b->D.nx σ a
 |.bk ρ=>∀σ a b,fJ G b->kc m O K σ ρ a b->D.bk σ a
 |.ct ρ=>∀σ a b,fJ G b->kc m O K σ ρ a b->D.ct σ a
 |.rt d=>P2 m K G d D.rt
theorem Nx.later{m:Md}{O:List Nat}{K:Fg}{G d:Hp}{D:B5}(e:fJ G d):∀{o:Out},Nx m O K G D o->Nx m O K d D o
 |.nx _,h=>λσ b c a q=>h σ b c (e.trans a) q
 |.bk _,h=>λσ b c a q=>h σ b c (e.trans a) q
 |.ct _,h=>λσ b c a q=>h σ b c (e.trans a) q
 |.rt _,h=>P2.later e h
def tO(m:Md)(O:List Nat)(K:Fg)(g:c5->Option Out):TS:=λD σ H=>∃ρ o G,kc m O K σ ρ H G/\g ρ=Y o/\Nx m O K G D o
def sS(X:Cx)(m:Md)(O:List Nat)(a:Stmt)(g:c5->Option Out):Prop:=PS X a (tO m O X.K g)
def qp(X:Cx)(m:Md)(O:List Nat)(a:List Stmt)(g:c5->Option Out):Prop:=yj X a (tO m O X.K g)
def nT:fe->Bool
 |.list _=>false
 |.tuple _=>false
 |.dict _=>false
 |_=>true
theorem fv.kz{K:Fg}{a:Hp}(h:nT d=true)(i:fv K H d v):fv K a d v:=by cases d<;>first|(cases h;done)|(unfold fv at i ⊢;exact i)
theorem dt.kz{K:Fg}{H f:Hp}:∀{c:Lp}{e:List V},c.all nT=true->dt K H c e->dt K f c e
 |[],_,_,i=>by rw[dt.fQ.mp i];exact dt.nil
 |d::c,_,h,i=>by obtain⟨v,r,rfl,a,b⟩:=dt.fH.mp i;simp only[List.all_cons,bD] at h;exact dt.cons (fv.kz h.1 a) (dt.kz h.2 b)
section
variable {m:Md}{a b c:Expr}{fa fb fc:c5->Od}{p2:Pos}{rest:List Stmt}{g h:c5->Option Out}{gc:c5->Option Bool}
def PV(X:Cx)(O:List Nat)(e:Expr)(h:c5->Od):Prop:=PE X e (λσ H Q=>∃ρ d G,hE O X.K σ ρ H G/\h ρ=Y d/\∀v a b,fJ H a->fJ G b->hE O X.K σ ρ a b->fv X.K b d v->Q v a)
def fO(O:List Nat)(f:c5->Od):c5->Od:=λρ=>f (iI O ρ)
def Kh(f:c5->Od):c5->Od:=λρ=>(f ρ).bind λd=>if nT d=true then Y d else Z
theorem su{b:Hp}(c:(B.map (·.1)).Nodup)(e:fJ G b):fJ (fx G B) (fx b B):=λa o h=>by
 rcases vk (a:=a) B with ⟨x,d,rfl⟩|h'
 ·rw[gw c x d] at h ⊢;exact h
 ·rw[gY h'] at h ⊢;exact e a o h
theorem fg(l:PD X e f):PV X O e (fO O f) :=
 PE.imp (PE.frame l) λσ H Q ⟨ρ,d,G,a,m,k⟩=>by obtain⟨B,j,h,c⟩:=a.ex;refine⟨G,B,j,h,iI O ρ,d,a.rest,m,λv n b i g=>?_⟩;subst j;exact k v _ n (su h.nd b) b (hE.uy a.len c a.lP b g) i
theorem Cv(h:Kh f ρ=Y d):f ρ=Y d/\nT d=true:=by
 obtain⟨x,c,a⟩:=bind_some h;by_cases b:nT x=true
 ·rw[ai b] at a;cases a;exact⟨c,b⟩
 ·rw[ao b] at a;cases a
theorem Ki(h:PD X e f):PV X O e (Kh f) :=
 PE.imp h λσ H Q ⟨ρ,d,G,c,m,k⟩=>by obtain⟨l,j⟩:=Cv m;refine⟨ρ,d,c.full,l,λv n b i=>?_⟩;obtain⟨o,g,_,a⟩:=c.grow b;exact k v n o b g a (i.kz j)
def PF(X:Cx)(e:Expr)(f:c5->Od):Prop:=PE X e (λσ H Q=>∃ρ d,jE X.K H σ ρ/\f ρ=Y d/\KO X.K H d Q)
def Ur(X:Cx)(O:List Nat)(e:Expr)(h:c5->Od):Prop:=PE X e (λσ H Q=>∃ρ d G,hE O X.K σ ρ H G/\h ρ=Y d/\∀v a b c,fJ H a->fJ G b->hE O X.K σ ρ a b->jF a c->jG false X.K b d v c->Q v (fx a c))
theorem jA(p:PF X e f):Ur X O e (fO O f) :=
 PE.imp (PE.frame p) λσ H Q ⟨ρ,d,G,c,s,k⟩=>by
  obtain⟨B,o,g,i⟩:=c.ex;refine⟨G,B,o,g,iI O ρ,d,c.rest,s,λv a b h q j l=>?_⟩;have n:jF a (B++b):=q.join l;have m:jF a (b++B):=n.perm aW (j.nE.append g.ok);have r:fx (fx a b) B=fx (fx a B) b:=by rw[<-h9,<-h9];exact iD n.nd aW
  rw[r];subst o;exact k v _ a b (su g.nd h) h (hE.uy c.len i c.lP h (m.Cs g.ok)) (m.Cr j.nE) j
def yp:fe->Bool
 |.list ds=>ds.all nT
 |_=>false
def Kj(f:c5->Od):c5->Od:=λρ=>(f ρ).bind λd=>if yp d=true then Y d else Z
theorem Kk(r:PF X e f):Ur X O e (Kj f) :=
 PE.imp r λσ H Q ⟨ρ,d,G,l,u,k⟩=>by
  obtain⟨x,t,b⟩:=bind_some u;by_cases a:yp x=true
  ·rw[ai a] at b;cases b;refine⟨ρ,d,l.full,t,λv z A j s n=>?_⟩;obtain⟨y,c,_,g⟩:=l.grow j;refine k v z y A j c g s ?_;cases d<;>try (simp[yp] at a;done)
   rename_i B;obtain⟨q,o,rfl,rfl,p⟩:=n.cont rfl;rcases p with ⟨w,m,h,rfl,i⟩ | ⟨_,_,h,_⟩
   ·cases h;exact jG.Ta (.inl ⟨_,m,rfl,rfl,i.kz a⟩)
   ·cases h
  ·rw[ao a] at b;cases b
theorem kS(m:BZ X es ff):PF X (.List es pos) (eT ff) :=
 PE.imp (JD m) λσ H Q ⟨ρ,d,j,e,k⟩=>by
  obtain⟨h,n,a⟩:=bind_some e;refine⟨ρ,h,j,n,λc o i f=>?_⟩;by_cases b:h.length<=sizeLine
  ·first
   | (rw[ai b] at a;cases a)
   | (cases a)
   refine⟨by rw[<-f.length];exact b,λp l=>?_⟩;exact k (.ref p) o [(p,.lst c)] i ⟨by simp,(λx g=>by simp at g;subst g;exact l),.one a0 .nil⟩ (jG.Ta (.inl ⟨_,c,rfl,rfl,f⟩))
  ·rw[ao b] at a;cases a
theorem AI:PF X (.Dict [] [] pos) (dC (.dict [])) :=
 PE.imp JR λσ H Q ⟨ρ,d,c,e,k⟩=>by cases e;intro p b;exact k (.ref p) H [(p,.dK [])] (.refl H) ⟨by simp,(λx a=>by simp at a;subst a;exact b),.one a0 .nil⟩ (jG.Ta (.inr ⟨[],[],rfl,rfl,gA.fQ.mpr rfl⟩))
theorem ez:qp X m O [] gi:=yj.imp MO λD σ H ⟨ρ,o,G,a,e,k⟩=>by cases e;exact k σ H G (.refl G) a
theorem bo(l:sS X m O st g)(j:qp X m O rest h):qp X m O (st::rest) (c7 g h) :=
 yj.imp (Jl l j) λD σ H ⟨ρ,o,G,i,e,k⟩=>by
  obtain⟨c,n,a⟩:=bind_some e;refine⟨ρ,c,G,i,n,?_⟩;cases c with
  |nx ρ'=>exact λσ' q p f b=>⟨ρ',o,p,b,a,k.later f⟩
  |rt d=>cases a;exact k
  |bk ρ'=>cases a;exact k
  |ct ρ'=>cases a;exact k
theorem bz(a:sS X m O st g):qp X m O [st] g:=yj.imp (MP a) λD σ H h=>h
theorem fi(h:PD X e f):sS X .dat O (.Return (Y e) pos) (fZ f) :=
 PS.imp (uu h) λD σ H ⟨ρ,o,G,a,e,k⟩=>by obtain⟨d,c,rfl⟩:=ak.mp e;exact⟨ρ,d,a.o.full,c,λv g b i=>KD.later k (a.o.sub.trans b) |>.here i⟩
theorem tB(h:PF X e f):sS X .own O (.Return (Y e) pos) (fZ f) :=
 PS.imp (uu h) λD σ H ⟨ρ,o,G,a,e,k⟩=>by obtain⟨d,b,rfl⟩:=ak.mp e;exact⟨ρ,d,a.o.full,b,KO.later k a.o.sub⟩
theorem Kl(i:Nat) {z:Pos} (g:O.Nodup) (w:i∈O:=by decide) (h:jU O=false:=by rfl) (y:X.N[i]?=Y x:=by rfl) (s:BY X.env.scope x:=by first|exact cg rfl|exact bP (cg rfl)|exact bP (bP rfl)) (u:zg x:=by decide)
  (j:(x==("__classdict__":Str))=false:=by decide):sS X .own O (.Return (Y (.Name x z)) pos) (fZ (bb i)) :=
 PS.imp (uu (nK y s u j)) λD σ H ⟨ρ,o,G,t,e,k⟩=>by
  obtain⟨d,C,rfl⟩:=ak.mp e;obtain⟨v,m,c,l,B,A,f,b,p,n,_,_⟩:=t.o.own g w (join_some C);rw[h] at b;refine⟨v,B,?_⟩;have a:(m++(c++l)).Perm (c++(m++l)):=by rw[<-aQ,<-aQ];exact dh _ aW
  have r:jF G (c++(m++l)):=f.perm a (b.nE.append (p.append n));rw[A,iD f.nd a,h9];have q:=r.Cs (p.append n);exact(show KO X.K G d D.rt from k) v _ c q.same (r.Cr b.nE) (b.same q.same)
theorem ft{f d:List Stmt}(p:Ea X c gc)(r:qp X m O f g)(q:qp X m O d h):sS X m O (.If c f d pos) (iA gc g h) :=
 PS.imp (PC p r q) λD σ H ⟨ρ,o,G,b,e,k⟩=>by
  obtain⟨y,s,j⟩:=bind_some e;refine⟨ρ,y,b.o.full,s,λt n=>?_⟩;obtain⟨l,i,_,a⟩:=b.o.grow n;cases y with
  |true=>rw[ai rfl];exact⟨ρ,o,l,⟨a,b.z⟩,j,k.later i⟩
  |false=>rw[ao aR];exact⟨ρ,o,l,⟨a,b.z⟩,j,k.later i⟩
def Ry:c5->Option Out:=λ_=>Z
theorem kc.set{K:Fg}{σ:St}{ρ:c5}{H G:Hp}{i:Nat}{d:fe}{v:V}(h:kc m O K σ ρ H G)(b:i∉O)(e:fv K G d v):kc m O K (σ.set i (Y v)) (ρ.set i (Y d)) H G :=
 ⟨h.o.set b e,λk g z=>by obtain⟨a,f,c⟩:=h.z k g z;have j:i≠0:=λq=>b (q▸a);exact⟨a,by rw[ax j];exact f,c⟩⟩
def fu(f:c5->Od)(i:Nat):c5->Option Out:=λρ=>(f ρ).map λd=>.nx (ρ.set i (Y d))
theorem fj(i:Nat) {a:Pos} (r:X.N.Nodup) (p:PV X O e f) (q:i∉O:=by decide) (l:X.N[i]?=Y x:=by rfl) (j:Ei X.env.scope x:=by first|exact cg rfl|exact bP rfl) (b:swapsWith e (Y (.Name x a)) pos.line X.env=pure false:=by rfl)
  (n:X.fn x=true\/X.env.scope.names.lookup x=Y .local:=by first|exact .inl rfl|exact .inr rfl|assumption):sS X m O (.Assign [.Name x a] e pos) (fu f i) :=
 PS.imp (Jn r l j p b n) λD σ H ⟨ρ,o,G,b,e,k⟩=>by obtain⟨d,s,rfl⟩:=ak.mp e;exact⟨ρ,d,G,b.o,s,λv t u _ g c h=>k _ t u g (kc.set ⟨c,b.z⟩ q h)⟩
noncomputable def jH(f:c5->Od)(i:Nat):c5->Option Out:=λρ=>(f ρ).bind λd=>if i<ρ.length then Y (.nx (ρ.set i (Y d))) else Z
theorem jg(i:Nat) {a:Pos} (A:X.N.Nodup) (g:O.Nodup) (w:Ur X O e f) (y:i∈O:=by decide) (l:jU O=false:=by rfl) (h0:i≠0\/m=.dat\/m=.own:=by first|exact .inl (by decide)|exact .inr (.inl rfl)|exact .inr (.inr rfl)) (t:X.N[i]?=Y x:=by rfl) (s:Ei X.env.scope x:=by first|exact cg rfl|exact bP rfl) (b:swapsWith e (Y (.Name x a)) pos.line X.env=pure false:=by rfl)
  (u:X.fn x=true\/X.env.scope.names.lookup x=Y .local:=by first|exact .inl rfl|exact .inr rfl|assumption):sS X m O (.Assign [.Name x a] e pos) (jH f i) :=
 PS.imp (Jn A t s w b u) λD σ H ⟨ρ,o,G,b,e,k⟩=>by
  obtain⟨d,E,c⟩:=bind_some e;by_cases h:i<ρ.length
  ·rw[ai h] at c;cases c;refine⟨ρ,d,G,b.o,E,λv J K L _ q j C n=>?_⟩;rw[<-l] at n;obtain⟨I,r,B⟩:=j.new g y h n C;refine k _ _ I (q.trans r) ⟨B,λF p z=>?_⟩;rcases h0 with h0|h0|h0
   ·rw[ax h0];exact b.z F p z
   ·rw[h0] at z;cases z
   ·rw[h0] at z;cases z
  ·rw[ao h] at c;cases c
def PP(X:Cx)(e:Expr)(π:Pl):Prop:=PE X e (λσ H Q=>∃q,vE X.K σ H π q/\Q (.ref q) H)
theorem j3(i:Nat) (d:X.N[i]?=Y x:=by rfl) (b:BY X.env.scope x:=by first|exact cg rfl|exact bP (cg rfl)|exact bP (bP rfl)) (c:zg x:=by decide)
  (a:(x==("__classdict__":Str))=false:=by decide):PP X (.Name x pos) (.sl i):=PE.imp (nK d b c a) λσ H Q ⟨q,r,k⟩=>⟨_,r,k⟩
theorem zb(i:Nat) {c n:Str}{a:Pos} (h:j0 X.K c n) (g:X.N[i]?=Y x:=by rfl) (d:BY X.env.scope x:=by first|exact cg rfl|exact bP (cg rfl)|exact bP (bP rfl)) (e:zg x:=by decide)
  (b:(x==("__classdict__":Str))=false:=by decide) (f:attributeBase (.Name x a) n X.env (eval (.Name x a) X.env)=eval (.Name x a) X.env:=by rfl):PP X (.Attribute (.Name x a) n pos) (.fl i c n) :=
 PE.imp (Jz (nK g d e b) f) λσ H Q ⟨q,⟨C,p,v,o,u,t,s,r⟩,k⟩=>by obtain⟨w,m,l,j⟩:=h;have:=t.uniq m;subst this;exact⟨_,u,p,C,v,o,_,rfl,s,l,j,r,k⟩
theorem qo.lst{K:Fg}{G:Hp}{b:Lp}{q:Addr}{o:HO}(h:qo K G (.list b) q o):∃a,o=.lst a/\dt K G b a:=by
 rcases h with ⟨d,a,e,c,i⟩ | ⟨_,_,e,_⟩
 ·cases e;exact⟨a,c,i⟩
 ·cases e
theorem qo.Z4{K:Fg}{q:Addr}{o:HO}(h:qo K G (.dict kF) q o):∃a,o=.dK a/\gA K G kF a:=by
 rcases h with ⟨c,d,e,b,i⟩ | ⟨_,a,e,b,i⟩
 ·cases e
 ·cases e;exact⟨a,b,i⟩
theorem vE.eq{K:Fg}{l:Hp}{π:Pl}{q a:Addr}(h:vE K σ H π q)(b:vE K σ l π a)(e:fJ H l):q=a:=by
 cases π with
 |sl i=>have n:σ[i]?=Y (Y (.ref q)):=h;have d:σ[i]?=Y (Y (.ref a)):=b;rw[n] at d;cases d;rfl
 |fl i c f=>obtain⟨C,p,w,v,t,y,s,r⟩:=h;obtain⟨z,u,o,m,k,x,j,g⟩:=b;rw[t] at k;cases k;rw[e _ _ s] at j;cases j;rw[r] at g;cases g;rfl
noncomputable def gd(π:Pl)(f:c5->Od):c5->Option Out:=λρ=>(oX π ρ).bind λl=>(f ρ).bind λd=>match l with
 |.list ds=>if ds.length<sizeLine then Y (.nx (rW π (.list (ds++[d])) ρ)) else Z
 |_=>Z
theorem gn{π:Pl}{o:Expr}{b a:Pos} (j:O.Nodup) (T:PP X o π) (U:PV X O e f) (I:π.ix∈O:=by decide) (u:tw O π=false:=by rfl) (p:starEach [e] X.env=(false,eval e X.env)::starEach [] X.env:=by rfl)
  (h:attributeBase o "append" X.env (eval o X.env)=eval o X.env:=by rfl)
  (t:((backTo a (starEach [e] X.env)).all (λx=>!x.1)&&(backToKw a (keywordEach [] X.env)).all (λx=>x.1.isSome)&&decide (([e]:Lx).length+([]:List Keyword).length+(if ([]:List Keyword).isEmpty then 0 else 1)<30))=true:=by rfl)
  (g:(b.endLine==a.line)=true:=by rfl) (c:(backTo a (starEach [] X.env)).any (·.1)=false:=by rfl)
  (s:swapsWith (.Call (.Attribute o "append" b) [e] [] a) Z pos.line X.env=pure false:=by rfl):
  sS X m O (.Expr (.Call (.Attribute o "append" b) [e] [] a) pos) (gd π f) :=
 PS.imp (sV (Ce b7 PySem.F.slot_list_append PySem.F.type_list_append y2 T (md U qC p) h t g p c) s) λD σ H ⟨ρ,o,G,s,e,k⟩=>by
  obtain⟨l,J,V⟩:=bind_some e;obtain⟨d,W,i⟩:=bind_some V;obtain⟨E,rfl⟩:∃E,l=.list E:=by cases l<;>first|exact⟨_,rfl⟩|cases i
  dsimp only at i;by_cases A:E.length<sizeLine
  ·rw[ai A] at i;cases i;obtain⟨q,ob,r,S,P,_⟩:=s.o.place j I J rfl u;obtain⟨K,rfl,i4⟩:=P.lst;refine⟨q,r,.inl ⟨rfl,K,o8.of S⟩,ρ,d,G,s.o,W,λv H' G' L M B R=>?_⟩;obtain⟨q',Q,N,C,y,cl⟩:=B.place j I J rfl u;have:=vE.eq r N L;subst this;obtain⟨w,rfl,n⟩:=y.lst;refine⟨q,w,v,rfl,rfl,C,by rw[<-n.length];exact A,?_⟩;exact k _ _ G' M ⟨cl _ _ (.inl ⟨_,_,rfl,rfl,n.append (dt.cons R dt.nil)⟩),s.z⟩
  ·rw[ao A] at i;cases i
end
section
variable {m:Md}{a b c:Expr}{fa fb fc:c5->Od}{p2:Pos}{rest:List Stmt}{g h:c5->Option Out}{gc:c5->Option Bool}
def H0(π:Pl):c5->Option Out:=λρ=>(oX π ρ).bind λl=>match l with
 |.list ds=>if ds.isEmpty=true then Z else Y (.nx (rW π (.list ds.dropLast) ρ))
 |_=>Z
theorem dt.dropLast{K:Fg}{H:Hp}{b:Lp}{a:List V}(h:dt K H b a):dt K H b.dropLast a.dropLast:=by rw[List.dropLast_eq_take,List.dropLast_eq_take,h.length];exact h.take _
theorem GF{π:Pl}{o:Expr}{b a:Pos} (j:O.Nodup) (v:PP X o π) (x:π.ix∈O:=by decide) (p:tw O π=false:=by rfl)
  (d:attributeBase o "pop" X.env (eval o X.env)=eval o X.env:=by rfl) (c:(b.endLine==a.line)=true:=by rfl)
  (h:swapsWith (.Call (.Attribute o "pop" b) [] [] a) Z pos.line X.env=pure false:=by rfl):
  sS X m O (.Expr (.Call (.Attribute o "pop" b) [] [] a) pos) (H0 π) :=
 PS.imp (sV (Q5 b7 PySem.F.slot_list_pop PySem.F.type_list_pop Q8 v d c) h) λD σ H ⟨ρ,o,G,h,e,k⟩=>by
  obtain⟨l,y,f⟩:=bind_some e;obtain⟨i,rfl⟩:∃i,l=.list i:=by cases l<;>first|exact⟨_,rfl⟩|cases f
  dsimp only at f;by_cases n:i.isEmpty=true
  ·rw[ai n] at f;cases f
  ·rw[ao n] at f;cases f;obtain⟨q,B,r,t,u,A⟩:=h.o.place j x y rfl p;obtain⟨g,rfl,s⟩:=u.lst;have w:g.length - 1<g.length:=by
    have:=s.length;have:i≠[]:=λz=>n (by rw[z];rfl);have:=br.mpr this;omega
   exact⟨q,r,.inl ⟨rfl,g,o8.of t⟩,q,g,_,rfl,rfl,t,aO w,k _ _ G (.refl G) ⟨A _ _ (.inl ⟨_,_,rfl,rfl,s.dropLast⟩),h.z⟩⟩
def Us:V->V->V->Hp->(Hp->Prop)->Prop:=λo i v H Q=>∃p a k,o=.ref p/\i=kV k/\H p=Y (.dK a)/\a.length<sizeLine/\Q (upd H p (.dK (ql a k v)))
theorem Rz(r:X.A.units+64<cLine):B7 X Us:=by intro a s σ H o i v l n u Q I c d b h;obtain⟨p,m,k,rfl,rfl,e,f,q⟩:=h;cases c;exact HU (by omega) I (Nb.k e f) d b λj g=>⟨_,g,q⟩
theorem B7.or{t u:MS}(h:B7 X t)(j:B7 X u):B7 X (λo i v H Q=>t o i v H Q\/u o i v H Q):=λa s σ H o i v f g b Q I e d c q=>q.elim (@h a s σ H o i v f g b Q I e d c) (@j a s σ H o i v f g b Q I e d c)
noncomputable def vF(k d l:fe):Od:=match l with
 |.list ds=>match k with
  |.int i=>(Ap ds.length i).map λj=>.list (ds.set j d)
  |_=>Z
 |.dict kF=>if kF.length<sizeLine/\hU kF=false then (tr k).map λ_=>.dict (Ct k d kF) else Z
 |_=>Z
def uA(π:Pl)(e c:c5->Od):c5->Option Out:=λρ=>(oX π ρ).bind λl=>(c ρ).bind λd=>(e ρ).bind λb=>(vF b d l).map λa=>.nx (rW π a ρ)
theorem dt.set{K:Fg}{H:Hp}{d:fe}{v:V}(i:fv K H d v):∀{c:Lp}{e:List V} (j:Nat),dt K H c e->dt K H (c.set j d) (e.set j v)
 |[],_,_,h=>by rw[dt.fQ.mp h];exact dt.nil
 |x::c,_,j,h=>by
  obtain⟨u,r,rfl,a,b⟩:=dt.fH.mp h;cases j with
  |zero=>exact dt.cons i b
  |succ j=>exact dt.cons a (dt.set i j b)
theorem rB(hu:X.A.units+64<cLine) {π:Pl}{o:Expr}{b:Pos} (n:O.Nodup) (ho:PP X o π) (hk:PV X O a fa) (he:PV X O e f) (M:π.ix∈O:=by decide) (x:tw O π=false:=by rfl)
  (ha:∀v,assign (.Subscript o a b) X.env v=(do
   let ov <-holding [v] (eval o X.env);let iv <-holding [v,ov] (eval a X.env)
   standAt b
   holding [v,ov,iv] (setItem ov iv v)
   release [v,ov,iv] []):=by intro _;rfl)
  (u:swapsWithSole [.Subscript o a b] e pos.line X.env=pure false:=by rfl) (hw:swappedStores [.Subscript o a b] e X.env=pure Z:=by rfl)
  (h1:(assignEach [.Subscript o a b] X.env).map (·.2)=[assign (.Subscript o a b) X.env]:=by rfl):
  sS X m O (.Assign [.Subscript o a b] e pos) (uA π fa f) :=
 PS.imp (Jm he (QJ ho hk (B7.or JL (Rz hu)) ha) u hw h1) λD σ H ⟨ρ,o,G,u,e,k⟩=>by
  obtain⟨l,N,ea⟩:=bind_some e;obtain⟨d,e2,eb⟩:=bind_some ea;obtain⟨J,e3,ec⟩:=bind_some eb;obtain⟨l',g,rfl⟩:=ak.mp ec;have E:uz l=true:=by
   cases l<;>try (simp[vF] at g;done)
   ·rfl
   ·rename_i c;simp only[vF] at g;by_cases h:c.length<sizeLine/\hU c=false
    ·show (!hU c)=true;rw[h.2];rfl
    ·rw[ao h] at g;cases g
  refine⟨ρ,d,G,u.o,e2,λv H1 G1 _ I t W=>?_⟩;obtain⟨q,ob,r,hq,oc,_⟩:=t.place n M N E x;refine⟨q,r,ρ,J,G1,t,e3,λkv H2 Q S y C L=>?_⟩;obtain⟨q',U,T,w,i,P⟩:=C.place n M N E x;have:=vE.eq r T S;subst this;have s:=W.same y;cases l with
  |list ds=>
   obtain⟨R,rfl,p⟩:=i.lst;cases J<;>try (simp[vF] at g;done)
   rename_i j;simp only[vF] at g;obtain⟨K,F,rfl⟩:=ak.mp g;refine .inl ⟨q,R,j,K,rfl,fv.fG.mp L,w,by rw[<-p.length];exact F,?_⟩;exact k _ _ Q (I.trans y) ⟨P _ _ (.inl ⟨_,_,rfl,rfl,p.set s K⟩),u.z⟩
  |dict c=>
   obtain⟨B,rfl,p⟩:=i.Z4;simp only[vF] at g;by_cases h:c.length<sizeLine/\hU c=false
   ·rw[ai h] at g;obtain⟨V,F,rfl⟩:=ak.mp g;have:=jl F;subst this;refine .inr ⟨q,B,V,rfl,kh L,w,by rw[<-p.length];exact h.1,?_⟩;exact k _ _ Q (I.trans y) ⟨P _ _ (.inr ⟨_,_,rfl,rfl,p.put s⟩),u.z⟩
   ·rw[ao h] at g;cases g
  |_=>cases E
noncomputable def AJ(π:Pl)(f:c5->Od):c5->Option Out:=λρ=>(oX π ρ).bind λl=>(f ρ).bind λd=>match l,d with
 |.list ds,.list a=>if ds.length+a.length<=sizeLine then Y (.nx (rW π (.list (ds++a)) ρ)) else Z
 |_,_=>Z
theorem EO{π:Pl}{o:Expr}{c a:Pos} (n:O.Nodup) (ho:PP X o π) (he:Ur X O e f) (R:π.ix∈O:=by decide) (w:tw O π=false:=by rfl) (s:starEach [e] X.env=(false,eval e X.env)::starEach [] X.env:=by rfl)
  (i:attributeBase o "extend" X.env (eval o X.env)=eval o X.env:=by rfl)
  (u:((backTo a (starEach [e] X.env)).all (λx=>!x.1)&&(backToKw a (keywordEach [] X.env)).all (λx=>x.1.isSome)&&decide (([e]:Lx).length+([]:List Keyword).length+(if ([]:List Keyword).isEmpty then 0 else 1)<30))=true:=by rfl)
  (h:(c.endLine==a.line)=true:=by rfl) (g:(backTo a (starEach [] X.env)).any (·.1)=false:=by rfl)
  (t:swapsWith (.Call (.Attribute o "extend" c) [e] [] a) Z pos.line X.env=pure false:=by rfl):
  sS X m O (.Expr (.Call (.Attribute o "extend" c) [e] [] a) pos) (AJ π f) :=
 PS.imp (sV (Ce b7 PySem.F.slot_list_extend PySem.F.type_list_extend HP ho (md he qC s) i u h s g) t) λD σ H ⟨ρ,o,G,t,e,k⟩=>by
  obtain⟨l,S,ea⟩:=bind_some e;obtain⟨d,e2,j⟩:=bind_some ea;obtain⟨M,rfl⟩:∃M,l=.list M:=by cases l<;>first|exact⟨_,rfl⟩|(cases d<;>cases j)
  obtain⟨L,rfl⟩:∃L,d=.list L:=by cases d<;>first|exact⟨_,rfl⟩|cases j
  dsimp only at j;by_cases C:M.length+L.length<=sizeLine
  ·rw[ai C] at j;cases j;obtain⟨q,ob,r,hq,oc,_⟩:=t.o.place n R S rfl w;obtain⟨T,rfl,i4⟩:=oc.lst;refine⟨q,r,.inl ⟨rfl,T,o8.of hq⟩,ρ,_,G,t.o,e2,λv H' G' B' U V I K ot=>?_⟩;obtain⟨b,ob,rfl,rfl,A⟩:=ot.cont rfl;obtain⟨N,rfl,Q⟩:=A.lst;obtain⟨G2,P,g2,E⟩:=I.grow K.same;obtain⟨q',ob',W,J,B,cl⟩:=E.place n R S rfl w;have:=vE.eq r W (U.trans K.same);subst this;obtain⟨y,rfl,p⟩:=B.lst;refine⟨q,b,y,N,rfl,rfl,J,gw K.nd (b,.lst N) (by simp),by rw[<-p.length,<-Q.length];exact C,?_⟩;exact k _ _ G2 (V.trans P) ⟨cl _ _ (.inl ⟨_,_,rfl,rfl,p.append (Q.same P)⟩),t.z⟩
  ·rw[ao C] at j;cases j
noncomputable def ju(i:Nat)(c n:Str)(f:c5->Od):c5->Option Out:=λρ=>(ρ[i]?).join.bind λx=>(f ρ).bind λd=>match x with
 |.dict ((.none,.str a)::r)=>if a=c/\lU c n=false/\r.length<1000 then Y (.nx (ρ.set i (Y (.dict ((.none,.str c)::pK n d r))))) else Z
 |_=>Z
theorem iX(i:Nat) {c n:Str}{a P:Pos} (w:O.Nodup) (hC:j0 X.K c n) (he:PV X O e f) (hO:i∈O:=by decide) (hN:X.N[i]?=Y x:=by rfl) (hv:BY X.env.scope x:=by first|exact cg rfl|exact bP (cg rfl)|exact bP (bP rfl)) (hd:zg x:=by decide)
  (I:(x==("__classdict__":Str))=false:=by decide) (j:swapsWith e (Y (.Attribute (.Name x P) n a)) pos.line X.env=pure false:=by rfl):
  sS X m O (.Assign [.Attribute (.Name x P) n a] e pos) (ju i c n f) :=
 PS.imp (JA (nK hN hv hd I) he j) λD σ H ⟨ρ,o,G,j,e,k⟩=>by
  obtain⟨y,e1,ea⟩:=bind_some e;obtain⟨d,e2,g⟩:=bind_some ea;obtain⟨C',g1,g2,g3⟩:=hC;split at g
  ·rename_i M r;by_cases E:M=c/\lU c n=false/\r.length<1000
   ·rw[ai E] at g;cases g;obtain⟨rfl,B,A⟩:=E;refine⟨ρ,d,G,j.o,e2,λv H' s _ U F i'=>?_⟩;obtain⟨v0,T,B1,S,e3,L,l,V,k1,W,cl,_⟩:=F.own w hO (join_some e1);obtain⟨C,p,b,J,t,rfl,rfl,R,Q⟩:=V.inst;have:=R.uniq g1;subst this;have q:∀u:HO,T++(((p,u)::(b,HO.own p)::t)++S)=T++(p,u)::((b,HO.own p)::t++S):=λu=>by simp
    rw[q] at L l;refine⟨_,e3,p,C,b,J,rfl,by rw[L];exact gw l.nd (p,.ins C b J) (by simp),g2,g3,by rw[Q.len];exact A,?_⟩;have h:jG (jU O) X.K s (.dict ((.none,.str M)::pK n d r)) (.ref p) ((p,.ins C b (nL n v J))::(b,.own p)::t):=.inr ⟨M,C,p,b,_,_,t,rfl,rfl,rfl,R,Q.put B i'⟩;rw[L,ph l.nd,<-q];exact k _ _ s U ⟨cl s _ _ (.refl s) h (by rw[q];exact l.put (by rw[<-q];exact k1.append (h.nE.append W))),j.z⟩
   ·rw[ao E] at g;cases g
  ·cases g
noncomputable def Cw(i:Nat)(c n:Str)(f:c5->Od):c5->Option Out:=λρ=>(ρ[i]?).join.bind λx=>(f ρ).bind λd=>match x with
 |.dict ((.none,.str a)::r)=>if a=c/\lU c n=true/\r.length<1000/\pf n r=Z/\uz d=true/\(pL c n=false\/EL d=true) then Y (.nx (ρ.set i (Y (.dict ((.none,.str c)::pK n d r))))) else Z
 |_=>Z
theorem tE(i:Nat) {c n:Str}{t ep:Pos} (R:O.Nodup) (hC:j0 X.K c n) (he:Ur X O e f) (hO:i∈O:=by decide) (hN:X.N[i]?=Y x:=by rfl) (hv:BY X.env.scope x:=by first|exact cg rfl|exact bP (cg rfl)|exact bP (bP rfl)) (hd:zg x:=by decide)
  (Z5:(x==("__classdict__":Str))=false:=by decide) (J:swapsWith e (Y (.Attribute (.Name x ep) n t)) pos.line X.env=pure false:=by rfl):
  sS X m O (.Assign [.Attribute (.Name x ep) n t] e pos) (Cw i c n f) :=
 PS.imp (JA (nK hN hv hd Z5) he J) λD σ H ⟨ρ,o,G,J,e,k⟩=>by
  obtain⟨y,e1,ea⟩:=bind_some e;obtain⟨d,e2,w⟩:=bind_some ea;obtain⟨C',g1,g2,g3⟩:=hC;split at w
  ·rename_i c' r;by_cases hz:c'=c/\lU c n=true/\r.length<1000/\pf n r=Z/\uz d=true/\(pL c n=false\/EL d=true)
   ·rw[ai hz] at w;cases w;obtain⟨rfl,W,V,U,T,S⟩:=hz;refine⟨ρ,d,G,J.o,e2,λv H' B B2 _ sG Ny fB M=>?_⟩;obtain⟨q,b,rfl,rfl,oc⟩:=M.cont T;obtain⟨v0,l,B1,j,e3,eH,fm,ot,k1,k2,cl,_⟩:=Ny.own R hO (join_some e1);obtain⟨C,p,a,g,h,rfl,rfl,a4,a5⟩:=ot.inst;have:=a4.uniq g1;subst this;have L:∀Q:HO,l++(((p,Q)::(a,HO.own p)::(h++[(q,b)]))++j)=l++(p,Q)::((a,HO.own p)::(h++[(q,b)])++j):=λQ=>by simp
    have u:((q,b)::(l++(((p,HO.ins C a g)::(a,HO.own p)::h)++j))).Perm (l++(((p,HO.ins C a g)::(a,HO.own p)::(h++[(q,b)]))++j)):=by
     have h1:l++(((p,HO.ins C a g)::(a,HO.own p)::(h++[(q,b)]))++j)=(l++((p,HO.ins C a g)::(a,HO.own p)::h))++((q,b)::j):=by simp
     have h2:(q,b)::(l++(((p,HO.ins C a g)::(a,HO.own p)::h)++j))=(q,b)::((l++((p,HO.ins C a g)::(a,HO.own p)::h))++j):=by simp
     rw[h1,h2];exact List.perm_middle.symm
    have P:qr (l++(((p,HO.ins C a g)::(a,HO.own p)::(h++[(q,b)]))++j)):=k1.append ((qr.ins (a5.nE.append (.one oc.W9 .nil))).append k2);have F:jF B ((q,b)::(l++(((p,HO.ins C a g)::(a,HO.own p)::h)++j))):=by have:=fm.join (A:=[(q,b)]) (by rw[<-eH];exact fB);exact this
    have s:=F.perm u P;have I:fx H' [(q,b)]=fx B (l++(((p,HO.ins C a g)::(a,HO.own p)::(h++[(q,b)]))++j)):=by rw[<-iD F.nd u,eH];rfl
    rw[L] at I s;rw[I];refine⟨_,e3,p,C,a,g,rfl,gw s.nd (p,.ins C a g) (by simp),g2,g3,by rw[a5.len];exact V,?_⟩;have E:jG (jU O) X.K B (.dict ((.none,.str c')::pK n d r)) (.ref p) ((p,.ins C a (nL n (.ref q) g))::(a,.own p)::(h++[(q,b)])):=.inr ⟨c',C,p,a,_,_,_,rfl,rfl,rfl,a4,a5.add W (oc.gen S) U⟩;rw[ph s.nd,<-L];exact k _ _ B sG ⟨cl B _ _ (.refl B) E (by rw[L];exact s.put (by rw[<-L];exact k1.append (E.nE.append k2))),J.z⟩
   ·rw[ao hz] at w;cases w
  ·cases w
noncomputable def H7(i:Nat)(c:Int->Int->Int)(f:c5->Od):c5->Option Out:=λρ=>(ρ[i]?).join.bind λx=>(f ρ).bind λd=>match x,d with
 |.int a,.int b=>Y (.nx (ρ.set i (Y (.int (c a b)))))
 |_,_=>Z
theorem v8(i:Nat) {a:Pos}{h:Operator}{o:Int->Int->Int} (B:X.N.Nodup) (s:Vy X h (Wn o)) (A:PV X O e f) (n:i∉O:=by decide) (t:X.N[i]?=Y x:=by rfl) (r:Ei X.env.scope x:=by first|exact cg rfl|exact bP rfl)
  (w:X.fn x=true\/X.env.scope.names.lookup x=Y .local:=by first|exact .inl rfl|exact .inr rfl|assumption):sS X m O (.AugAssign (.Name x a) h e pos) (H7 i o f) :=
 PS.imp (QL B t r A s w) λD σ H ⟨ρ,L,G,c,e,k⟩=>by
  obtain⟨y,J,C⟩:=bind_some e;obtain⟨d,I,g⟩:=bind_some C;obtain⟨j,rfl⟩:∃j,y=.int j:=by cases y<;>first|exact⟨_,rfl⟩|(cases d<;>cases g)
  obtain⟨l,rfl⟩:∃l,d=.int l:=by cases d<;>first|exact⟨_,rfl⟩|cases g
  cases g;obtain⟨v,F,E⟩:=c.o.lP i _ (join_some J) n;refine⟨v,F,ρ,_,G,c.o,I,λu M K _ p b q=>⟨j,l,fv.fG.mp E,fv.fG.mp q,?_⟩⟩;exact k _ _ K p (kc.set ⟨b,c.z⟩ n (fv.fG.mpr rfl))
inductive Tg where
 |one (i:Nat)|many (is:List Nat)
def Tg.free(O:List Nat):Tg->Prop
 |.one i=>i∉O
 |.many is=>∀i∈is,i∉O
instance {O:List Nat}:(t:Tg)->Decidable (t.free O)
 |.one i=>inferInstanceAs (Decidable (i∉O))
 |.many is=>inferInstanceAs (Decidable (∀i∈is,i∉O))
noncomputable def AK:c5->List Nat->Lp->c5
 |ρ,i::is,d::ds=>AK (ρ.set i (Y d)) is ds
 |ρ,_,_=>ρ
noncomputable def qt:Tg->fe->c5->Option c5
 |.one i,d,ρ=>Y (ρ.set i (Y d))
 |.many is,.tuple ds,ρ=>if ds.length=is.length then Y (AK ρ is ds) else Z
 |_,_,_=>Z
noncomputable def AL:St->List Nat->List V->St
 |σ,i::is,v::vs=>AL (σ.set i (Y v)) is vs
 |σ,_,_=>σ
def gT(K:Fg):Tg->TG
 |.one i=>Ge i
 |.many is=>λv σ H Q=>∃p a,v=.ref p/\rS K H p a/\a.length=is.length/\Q (AL σ is a) H
theorem kc.Km{K:Fg}{H G:Hp}:∀{is:List Nat}{σ:St}{ρ:c5}{b:Lp}{a:List V},kc m O K σ ρ H G->(∀i∈is,i∉O)->dt K G b a->kc m O K (AL σ is a) (AK ρ is b) H G
 |[],σ,ρ,b,a,h,_,_=>by cases b<;>cases a<;>exact h
 |i::is,σ,ρ,[],a,h,_,d=>by rw[dt.fQ.mp d];exact h
 |i::is,σ,ρ,d::b,a,h,hi,YF=>by obtain⟨v,r,rfl,e,c⟩:=dt.fH.mp YF;exact kc.Km (is:=is) (σ:=σ.set i (Y v)) (ρ:=ρ.set i (Y d)) (h.set (hi i (by simp)) e) (λj f=>hi j (aj _ f)) c
theorem kc.bind{K:Fg}{ρ':c5}{a:Tg}{Q:St->Hp->Prop}(h:kc m O K σ ρ H G)(c:a.free O)(i:fv K G d v)(e:qt a d ρ=Y ρ')(k:∀σ',kc m O K σ' ρ' H G->Q σ' H):gT K a v σ H Q:=by
 cases a with
 |one j=>cases e;exact k _ (h.set c i)
 |many is=>
  cases d<;>try (simp[qt] at e;done)
  rename_i ds;dsimp only[qt] at e;by_cases b:ds.length=is.length
  ·rw[ai b] at e;cases e;obtain⟨p,g,rfl,l,f⟩:=i.iF;exact⟨p,g,rfl,h.o.sub.Cj l,by rw[<-f.length];exact b,k _ (h.Km c f)⟩
  ·rw[ao b] at e;cases e
theorem mh(i:Nat)(d:X.N.Nodup)(b:X.N[i]?=Y x:=by rfl)(a:Ei X.env.scope x:=by first|exact cg rfl|exact bP rfl)(c:X.fn x=true\/X.env.scope.names.lookup x=Y .local:=by first|exact .inl rfl|exact .inr rfl|assumption):PG X (.Name x pos) (gT X.K (.one i)):=oA d b a c
theorem v9(i j:Nat) {y:Str}{b a:Pos}{h:Nat} (s:X.calm=true) (f:X.N.Nodup) (o:X.N[i]?=Y x:=by rfl) (n:X.N[j]?=Y y:=by rfl) (l:Ei X.env.scope x:=by first|exact cg rfl|exact bP rfl) (k:Ei X.env.scope y:=by first|exact cg rfl|exact bP rfl)
  (r:X.fn x=true\/X.env.scope.names.lookup x=Y .local:=by first|exact .inl rfl|exact .inr rfl|assumption) (d:X.fn y=true\/X.env.scope.names.lookup y=Y .local:=by first|exact .inl rfl|exact .inr rfl|assumption)
  (m:(assignEach [.Name x b,.Name y a] X.env).length=2:=by rfl) (c:(assignEach [.Name x b,.Name y a] X.env).findIdx? (·.1)=Z:=by rfl):PG X (.Tuple [.Name x b,.Name y a] h pos) (gT X.K (.many [i,j])) :=
 PG.imp (Ej s (o9 (oA f o l r) (o9 (oA f n k d) Ak)) m c) λv σ H Q ⟨p,e,u,t,g,q⟩=>by
  refine⟨p,e,u,t,g,?_⟩
  match e,g with
  |[v1,v2],_=>exact⟨v1,[v2],rfl,v2,[],rfl,rfl,q⟩
theorem uB(i j l:Nat) {y z:Str}{d c b:Pos}{n:Nat} (C:X.calm=true) (h:X.N.Nodup) (A:X.N[i]?=Y x:=by rfl) (w:X.N[j]?=Y y:=by rfl) (u:X.N[l]?=Y z:=by rfl) (s:Ei X.env.scope x:=by first|exact cg rfl|exact bP rfl) (r:Ei X.env.scope y:=by first|exact cg rfl|exact bP rfl) (o:Ei X.env.scope z:=by first|exact cg rfl|exact bP rfl)
  (B:X.fn x=true\/X.env.scope.names.lookup x=Y .local:=by first|exact .inl rfl|exact .inr rfl|assumption) (g:X.fn y=true\/X.env.scope.names.lookup y=Y .local:=by first|exact .inl rfl|exact .inr rfl|assumption) (f:X.fn z=true\/X.env.scope.names.lookup z=Y .local:=by first|exact .inl rfl|exact .inr rfl|assumption)
  (t:(assignEach [.Name x d,.Name y c,.Name z b] X.env).length=3:=by rfl) (e:(assignEach [.Name x d,.Name y c,.Name z b] X.env).findIdx? (·.1)=Z:=by rfl):PG X (.Tuple [.Name x d,.Name y c,.Name z b] n pos) (gT X.K (.many [i,j,l])) :=
 PG.imp (Ej C (o9 (oA h A s B) (o9 (oA h w r g) (o9 (oA h u o f) Ak))) t e) λv σ H Q ⟨p,k,E,D,m,q⟩=>by
  refine⟨p,k,E,D,m,?_⟩
  match k,m with
  |[v1,v2,a],_=>exact⟨v1,[v2,a],rfl,v2,[a],rfl,a,[],rfl,rfl,q⟩
noncomputable def Cy(f:c5->Od)(a:Tg):c5->Option Out:=λρ=>(f ρ).bind λd=>(qt a d ρ).map .nx
theorem AM{t:Tg} (i:PV X O e f) (h:PG X tg (gT X.K t)) (j:t.free O) (a:swapsWithSole [tg] e pos.line X.env=pure false:=by rfl) (hw:swappedStores [tg] e X.env=pure Z:=by rfl)
  (l:(assignEach [tg] X.env).map (·.2)=[assign tg X.env]:=by rfl):sS X m O (.Assign [tg] e pos) (Cy f t) :=
 PS.imp (Jm i h a hw l) λD σ H ⟨ρ,o,G,a,e,k⟩=>by obtain⟨d,r,q⟩:=bind_some e;obtain⟨ρ',p,rfl⟩:=ak.mp q;exact⟨ρ,d,G,a.o,r,λv s u _ c b g=>kc.bind ⟨b,a.z⟩ j g p λσ' n=>k _ s u c n⟩
end
section
variable {m:Md}{a b c:Expr}{fa fb fc:c5->Od}{p2:Pos}{rest:List Stmt}{g h:c5->Option Out}{gc:c5->Option Bool}
def wU(K:Fg)(J:It)(f:Lp)(G:Hp):Prop :=
 ∀b,fJ G b->(J.stop f.length b)/\∀(i:Nat) (d:fe),f[i]?=Y d->J.go i b/\∀x c,J.S5 i b x c->fJ b c/\∀e,fJ G e->(∀a,b a=Z->e a=c a)->fv K e d x
def Z6(K:Fg)(q:c5->Option Lp):TI:=λσ G R=>∃ρ b,jE K G σ ρ/\q ρ=Y b/\∀J a,fJ G a->wU K J b a->R J a
def Ut(X:Cx)(b a:Expr)(q:c5->Option Lp):Prop:=PI X b a (Z6 X.K q)
theorem Nz(h:PD X e f):Ut X tg e (lQ f) :=
 PI.imp (PI.or (Gf h) (Jr h)) λσ H R ⟨ρ,C,u,e,k⟩=>by
  obtain⟨d,w,a⟩:=bind_some e;cases d<;>try (simp at a;done)
  ·cases a;refine .inl ⟨ρ,_,u,w,λv t m r=>?_⟩;obtain⟨p,b,rfl,a,j⟩:=fv.fY.mp r;refine⟨p,rfl,⟨b,a⟩,k _ t m λA c=>⟨⟨b,c.seq a,by rw[j.length];exact aH _⟩,λi d q=>?_⟩⟩;obtain⟨x,g,s⟩:=j.get q;refine⟨⟨b,x,c.seq a,g⟩,λy z ⟨o,n⟩=>?_⟩;have:=n b (c.seq a);rw[g] at this;cases this;subst o;exact⟨.refl _,λB l _=>s.same l⟩
  ·cases a;refine .inr ⟨ρ,_,u,w,λv t m r=>?_⟩;obtain⟨p,b,rfl,a,j⟩:=r.iF;refine⟨p,rfl,⟨b,a⟩,k _ t m λA c=>⟨⟨b,c.Cj a,by rw[j.length];exact aH _⟩,λi d q=>?_⟩⟩;obtain⟨x,g,s⟩:=j.get q;refine⟨⟨b,x,c.Cj a,g⟩,λy z ⟨o,n⟩=>?_⟩;have:=n b (c.Cj a);rw[g] at this;cases this;subst o;exact⟨.refl _,λB l _=>s.same l⟩
theorem AN{K:Fg}(a:Int)(n:Nat)(G:Hp):wU K (Tz a n) (nP a n) G:=λh f=>by
 refine⟨by show n<=(nP a n).length;simp[nP],λi d q=>?_⟩;have b:i<n:=by have:=(aM.mp q).1;simpa [nP] using this
 refine⟨b,λx g ⟨e,c⟩=>?_⟩;have:d=.int (a+(i:Nat)):=by unfold nP at q;rw[aJ,List.getElem?_range b] at q;cases q;rfl
 subst this c e;exact⟨.refl _,λj _ _=>fv.fG.mpr rfl⟩
theorem nU{p:Pos}(n:Gl X "range")(m:X.mg "range"=Z)(h:PD X e f)(b:starEach [e] X.env=[(false,eval e X.env)]:=by rfl):Ut X tg (.Call (.Name "range" p) [e] [] pos) (jY f) :=
 PI.imp (yU n m (md h qC (by rw[b];rfl)) b) λσ H R ⟨ρ,q,b,e,k⟩=>by
  obtain⟨d,o,a⟩:=bind_some e;cases d<;>try (simp at a;done)
  rename_i j;dsimp only at a;by_cases c:-(2 ^ 62)<=j/\j<2 ^ 62
  ·rw[ai c] at a;cases a;exact⟨ρ,_,b,o,λv g i l=>⟨j,by rw[fv.fG.mp l],c.1,c.2,k _ g i (AN 0 _ g)⟩⟩
  ·rw[ao c] at a;cases a
def YG(X:Cx)(O:List Nat)(e a:Expr)(q:c5->Option Lp):Prop:=PI X e a (λσ H R=>∃ρ d G,hE O X.K σ ρ H G/\q ρ=Y d/\∀J b c,fJ H b->fJ G c->hE O X.K σ ρ b c->wU X.K J d c->R J b)
def wa(O:List Nat)(q:c5->Option Lp):c5->Option Lp:=λρ=>q (iI O ρ)
theorem lC{a:Expr}(h:Ut X tg a q):YG X O tg a (wa O q) :=
 PI.imp (PI.frame h) λσ H R ⟨ρ,j,G,b,i,k⟩=>by obtain⟨B,g,f,d⟩:=b.ex;refine⟨G,B,g,f,iI O ρ,j,b.rest,i,λJ l c w e=>?_⟩;subst g;exact k J _ l (su f.nd c) c (hE.uy b.len d b.lP c e) w
def j4(q:c5->Option Lp)(a:Tg)(g:c5->Option Out):c5->Option Out:=λρ=>(q ρ).bind λb=>js (qt a) g b ρ
theorem j5{a:Expr}{t:Tg}{h:List Stmt} (hp:PassesOwn (model X.prog X.w) X.A X.env X.xe) (hc:X.calm=true) (R:YG X O tg a q) (hg:PG X tg (gT X.K t)) (hO:t.free O) (hb:qp X m O h g)
  (u:∀x,foldedSetIterable a X.env x=pure x:=by intro _;rfl):sS X m O (.For tg a h [] pos) (j4 q t g) :=
 PS.imp (QN hp hc R hg hb u) λD σ H ⟨ρ,o,G0,u,e,k⟩=>by
  obtain⟨b,e1,e2⟩:=bind_some e;refine⟨ρ,b,G0,u.o,e1,λJ H1 M _ F h1 w=>?_⟩;refine⟨λi Q σ' B=>Q=b.length - i/\i<=b.length/\∃ρ' E,fJ M E/\kc m O X.K σ' ρ' B E/\js (qt t) g (b.drop i) ρ'=Y o,⟨b.length,by simp,dH _,ρ,M,.refl _,⟨h1,u.z⟩,by simpa using e2⟩,?_⟩;rintro i Q σ' B ⟨rfl,R,ρ',E,s,f,p⟩;obtain⟨w1,W⟩:=w B (s.trans f.o.sub);by_cases j:i<b.length
  ·right;have hd:b[i]?=Y b[i]:=aO j;obtain⟨V,U⟩:=W i _ hd;rw[cm j] at p;unfold js at p;obtain⟨P,e4,v⟩:=bind_some p;obtain⟨ρ1,e6,e7⟩:=bind_some e4;refine⟨V,λσ3 S=>∃ρ3 C,fJ M C/\kc m O X.K σ3 ρ3 S C/\js (qt t) g (b.drop (i+1)) ρ3=Y o,λσ3 S ⟨ρ3,C,s3,h3,I⟩=>⟨b.length - (i+1),by omega,rfl,j,ρ3,C,s3,h3,I⟩,λx H2 y=>?_⟩;obtain⟨r1,r2⟩:=U x H2 y;obtain⟨T,N,g2,G⟩:=f.o.grow r1;have i4:=r2 T (s.trans N) g2;refine kc.bind (m:=m) ⟨G,f.z⟩ hO i4 e6 λσ5 h5=>⟨ρ1,P,T,h5,e7,?_⟩
   have c:=s.trans N;cases P with
   |nx ρ3=>exact λσ6 L r l n=>⟨ρ3,r,c.trans l,n,v⟩
   |ct ρ3=>exact λσ6 L r l n=>⟨ρ3,r,c.trans l,n,v⟩
   |bk ρ3=>cases v;exact λσ6 L r l n=>k σ6 L r (F.trans (c.trans l)) n
   |rt d=>cases v;exact P2.later (F.trans c) k
  ·have I:i=b.length:=by omega
   subst I;rw[List.drop_length] at p;cases p;exact .inl ⟨w1,k σ' B E (F.trans s) f⟩
noncomputable def uC(c:c5->Option Bool)(g:c5->Option Out):Nat->c5->Option Out
 |0,_=>Z
 |n+1,ρ=>(c ρ).bind λb=>if b=true then (g ρ).bind λo=>match o with
  |.nx ρ'=>uC c g n ρ'
  |.ct ρ'=>uC c g n ρ'
  |.bk ρ'=>Y (.nx ρ')
  |.rt d=>Y (.rt d)
  else Y (.nx ρ)
def P4:Nat:=1000000
def Kn(c:c5->Option Bool)(g:c5->Option Out):c5->Option Out:=λρ=>uC c g P4 ρ
theorem Ia{h:List Stmt}(M:PassesOwn (model X.prog X.w) X.A X.env X.xe)(N:Ea X c gc)(P:qp X m O h g):sS X m O (.While c h [] pos) (Kn gc g) :=
 PS.imp (Jq M N P) λD σ H ⟨ρ,o,x,L,e,k⟩=>by
  refine⟨λn σ' F=>∃ρ' y,fJ x y/\kc m O X.K σ' ρ' F y/\uC gc g n ρ'=Y o,⟨P4,ρ,x,.refl _,L,e⟩,?_⟩;rintro n σ' F ⟨ρ',y,B,f,u⟩;cases n with
  |zero=>cases u
  |succ n=>
   unfold uC at u;obtain⟨b,R,t⟩:=bind_some u;refine⟨ρ',b,f.o.full,R,λS J=>?_⟩;obtain⟨I,i,_,l⟩:=f.o.grow J;cases b with
   |false=>rw[ao aR] at t ⊢;cases t;exact k σ' S I (B.trans i) ⟨l,f.z⟩
   |true=>
    rw[ai rfl] at t ⊢;obtain⟨C,Q,s⟩:=bind_some t;refine⟨λσ3 E=>∃ρ3 G,fJ x G/\kc m O X.K σ3 ρ3 E G/\uC gc g n ρ3=Y o,λσ3 E q=>⟨n,dy n,q⟩,ρ',C,I,⟨l,f.z⟩,Q,?_⟩;have a:=B.trans i;cases C with
    |nx ρ3=>exact λσ6 v r j p=>⟨ρ3,r,a.trans j,p,s⟩
    |ct ρ3=>exact λσ6 v r j p=>⟨ρ3,r,a.trans j,p,s⟩
    |bk ρ3=>cases s;exact λσ6 v r j p=>k σ6 v r (a.trans j) p
    |rt d=>cases s;exact P2.later a k
def Ko(h:Bool)(K:Fg)(n:Nat)(f:Lp->Option (fe×fe)):Sp:=λvs H Q _=>∃e a i ds d b G B,vs=e::a/\H=fx G B/\jF G B/\jG h K G i e B/\dt K G ds a/\ds.length+1=n/\f (i::ds)=Y (d,b) /\
 ∀v c g,fJ G c->jF c g->jG h K c b e g->fv K c d v->Q v (fx c g)
abbrev Uu(K:W.Frag)(n:Nat)(f:List fe->Option (fe×fe)):Sp:=Ko false K n f
noncomputable def pj(N:Lr)(g:c5->Option Out):Lp->Option (fe×fe):=λds=>(g (gK N ds)).bind λo=>match o with
 |.rt (.tuple [d,a])=>Y (d,a)
 |.nx ρ=>(ρ[0]?).join.map λa=>(.none,a)
 |_=>Z
noncomputable def mD(f:c5->Od):c5->Option Out:=λρ=>(Kh f ρ).bind λd=>(ρ[0]?).join.map λa=>.rt (.tuple [d,a])
theorem kc.out{i:V}{K:Fg}{r:fe}(j:O.Nodup)(m:kc (.io dp i) O K σ ρ H G)(e:(ρ[0]?).join=Y r):∃c B,fJ G c/\H=fx c B/\jF c B/\jG dp K c r i B:=by
 obtain⟨u,t,s⟩:=m.z dp i rfl;obtain⟨v,g,h,d,q,w,f,b,l,k,_,_⟩:=m.o.own j u (join_some e);rw[s] at b;rw[t] at q;cases q;have a:(g++(h++d)).Perm (h++(g++d)):=by rw[<-aQ,<-aQ];exact dh _ aW
 have p:jF G (h++(g++d)):=f.perm a (b.nE.append (l.append k));have n:=p.Cs (l.append k);exact⟨fx G (g++d),h,n.same,by rw[w,iD f.nd a,h9],p.Cr b.nE,b.same n.same⟩
theorem jm{g:V}(a:O.Nodup)(h:PD X e f):sS X (.io dp g) O (.Return (Y e) pos) (mD f) :=
 PS.imp (uu h) λD σ H ⟨ρ,o,G,c,e,k⟩=>by obtain⟨d,A,y⟩:=bind_some e;obtain⟨F,w,rfl⟩:=ak.mp y;obtain⟨u,t⟩:=Cv A;refine⟨ρ,d,c.o.full,u,λv I m i=>?_⟩;obtain⟨J,j,_,b⟩:=c.o.grow m;obtain⟨E,B,l,s,q,n⟩:=kc.out (σ:=σ) (ρ:=ρ) a ⟨b,c.z⟩ w;obtain⟨x,C,r,p⟩:=k;cases r;rw[s];exact p v E B (j.trans l) q n (i.kz t)
noncomputable def Kp:c5->Option Out:=λρ=>(ρ[0]?).join.map λa=>.rt (.tuple [.none,a])
theorem Ib{b:V}(a:O.Nodup):sS X (.io dp b) O (.Return Z pos) Kp :=
 PS.imp MQ λD σ H ⟨ρ,o,G,g,e,k⟩=>by obtain⟨p,l,rfl⟩:=ak.mp e;obtain⟨n,B,c,j,h,d⟩:=kc.out a g l;obtain⟨x,m,i,f⟩:=k;cases i;rw[j];exact f .lP n B c h d (fv.jk.mpr rfl)
theorem P5{P:Program}{K:Fg}{m:Heap}{b:Str}{R:Addr}{N T:Lr}{k:Nat} (F:D9 K x b st R fd) (S:i5 N T (fo st)) (hn:n=T.length) (h1:n≠0) (X:(0::O).Nodup) (hO:∀i∈O,n<=i)
  (r:∀(v0:V) (rq:Value) (A:Around) (outer:List Env) (s:Shared) (H:Hp) (E:XK),jf k (A.deeper (envOfC b (fo st) (zB s) R rq)) ->
   qp (uw yl P w K mg m N b (fo st) R rq A outer s H E).Pz (.io (jU (0::O)) v0) (0::O) (iB st) g):lT P w K mg m yl (k+1) R fd T (Ko (jU (0::O)) K n (pj N g)):=by
 refine F.ok S (λvs H Q E ⟨v0,a,f,ds,d,J,G,B,I,_,_,_,i,l,_⟩=>by rw[I,<-hn,<-l,ay,<-i.length]) λrq A outer s H vs Q E hr ⟨v0,a,f,ds,d,J,G,B,I,eH,M,ot,i,l,e,k⟩=>⟨_,r v0 rq A outer s H E hr,?_⟩
 subst I eH;obtain⟨o,I,t⟩:=bind_some e;have p:dt K (fx G B) (f::ds) (v0::a):=dt.cons (ot.Je M.same λx hx=>gw M.nd x hx) (i.same M.same);have hd:=nQ (N:=N) p;have D:(gK N (f::ds))[0]?=Y (Y f):=rfl;have c:∀j∈O,((gK N (f::ds))[j]?).join=Z:=λj hj=>by
  have:¬ j<(f::ds).length:=by have:=hO j hj;rw[ay];omega
  unfold gK;rw[aS (by simpa using this),bH];split<;>rfl
 have U:∀L:List Nat,(∀j∈L,j∈O)->iV (jU (0::O)) K (my N (v0::a)) (gK N (f::ds)) G L []:=by
  intro L;induction L with
  |nil=>intro _;rfl
  |cons j L ih=>exact λh=>.inl ⟨c j (h j (by simp)),ih λi hi=>h i (aj _ hi)⟩
 obtain⟨u0,hu0,Z7⟩:=hd.2 0 f D;have v:(my N (v0::a))[0]?=Y (Y v0):=rfl;refine⟨gK N (f::ds),o,G,⟨⟨hd.1,⟨B,rfl,M,.inr ⟨f,v0,B,[],D,v,by simp,ot,U O λ_ h=>h⟩⟩,λj dj q hj=>?_⟩,λdp1 v1 z=>⟨by simp,by cases z;exact v,by cases z;rfl⟩⟩,I,?_⟩
 ·
  have Z8:j≠0:=λz=>hj (by rw[z];simp);have hd2:=nQ (K:=K) (H:=G) (N:=N) (vs:=v0::a) (ds:=.none::ds);have hh:dt K G ds a:=i;cases j with
  |zero=>exact absurd rfl Z8
  |succ j=>
   by_cases C:j<ds.length
   ·have q':ds[j]?=Y dj:=by
     unfold gK at q;rw[ae,a8,bJ,bt (by simpa using C),aJ] at q;cases z:ds[j]? with
     |none=>rw[z] at q;cases q
     |some y=>rw[z] at q;cases q;rfl
    obtain⟨u,a1,a2⟩:=hh.get q';refine⟨u,?_,a2⟩;have Uq:j<a.length:=(aM.mp a1).1;unfold my;rw[ae,a8,bJ,bt (by simpa using Uq),aJ,a1];rfl
   ·unfold gK at q;rw[ae,a8,bJ,aS (by simpa using C),bH] at q;split at q<;>cases q
 ·cases o with
  |rt x=>
   split at t
   ·rename_i d1 d2 he;cases he;cases t;exact⟨d,J,rfl,k⟩
   ·rename_i ρ he;cases he
   ·cases t
  |nx ρ'=>obtain⟨d1,e3,e4⟩:=ak.mp t;cases e4;intro σ H' G' sG hs;obtain⟨G2,B2,s2,eH,Z9,W⟩:=kc.out X hs e3;rw[eH];exact k .lP G2 B2 (sG.trans s2) Z9 W (fv.jk.mpr rfl)
  |bk _=>cases t
  |ct _=>cases t
theorem ER{P:Program}{K:Fg}{c:Heap}{a:Str}{r:Addr}{N u:Lr}{k:Nat} (F:D9 K x a st r fd) (S:i5 N u (fo st)) (G:n=u.length) (L:∀i∈O,n<=i)
  (f:∀(rq:Value) (A:Around) (outer:List Env) (s:Shared) (H:Hp) (E:XK),jf k (A.deeper (envOfC a (fo st) (zB s) r rq)) ->
   qp (uw yl P w K mg c N a (fo st) r rq A outer s H E).Pz .dat O (iB st) g):lT P w K mg c yl (k+1) r fd u (Ro K n (iU N g)):=by
 refine F.ok S (λvs H Q E ⟨m,d,i,l,_⟩=>by rw[<-i.length,l,G]) λrq A outer s H vs Q E D ⟨m,d,i,l,e,k⟩=>⟨_,f rq A outer s H E D,?_⟩
 obtain⟨o,R,t⟩:=bind_some e;have y:=nQ (N:=N) i;have b:∀i∈O,((gK N m)[i]?).join=Z:=λj I=>by
  have:¬ j<m.length:=by have:=L j I;omega
  unfold gK;rw[aS (by simpa using this),bH];split<;>rfl
 have v:∀p:List Nat,(∀i∈p,i∈O)->iV (jU O) K (my N vs) (gK N m) H p []:=by
  intro p;induction p with
  |nil=>intro _;rfl
  |cons j p C=>exact λh=>.inl ⟨b j (h j (by simp)),C λi J=>h i (aj _ J)⟩
 refine⟨gK N m,o,H,⟨⟨y.1,⟨[],rfl,jF.nil,v O λ_ h=>h⟩,λi d q _=>y.2 i d q⟩,λU v0 z=>nomatch z⟩,R,?_⟩;cases o with
 |rt V=>cases t;exact k
 |nx ρ'=>cases t;exact λσ T W B M=>k .lP T (B.trans M.o.sub) (fv.jk.mpr rfl)
 |bk _=>cases t
 |ct _=>cases t
def YH(K:Fg)(n:Nat)(f:Lp->Od):Sp:=λb H Q _=>∃a d,dt K H a b/\a.length=n/\f a=Y d/\KO K H d Q
noncomputable def Ic(N:Lr)(g:c5->Option Out):Lp->Od:=λa=>(g (gK N a)).bind λo=>match o with
 |.rt d=>Y d
 |_=>Z
theorem RA{P:Program}{K:Fg}{c:Heap}{a:Str}{r:Addr}{N u:Lr}{k:Nat} (F:D9 K x a st r fd) (S:i5 N u (fo st)) (D:n=u.length) (J:∀i∈O,n<=i)
  (f:∀(rq:Value) (A:Around) (outer:List Env) (s:Shared) (H:Hp) (E:XK),jf k (A.deeper (envOfC a (fo st) (zB s) r rq)) ->
   qp (uw yl P w K mg c N a (fo st) r rq A outer s H E).Pz .own O (iB st) g):lT P w K mg c yl (k+1) r fd u (YH K n (Ic N g)):=by
 refine F.ok S (λvs H Q E ⟨m,d,i,l,_⟩=>by rw[<-i.length,l,D]) λrq A outer s H vs Q E C ⟨m,d,i,l,e,k⟩=>⟨_,f rq A outer s H E C,?_⟩
 obtain⟨o,L,t⟩:=bind_some e;have y:=nQ (N:=N) i;have b:∀i∈O,((gK N m)[i]?).join=Z:=λj G=>by
  have:¬ j<m.length:=by have:=J j G;omega
  unfold gK;rw[aS (by simpa using this),bH];split<;>rfl
 have v:∀p:List Nat,(∀i∈p,i∈O)->iV (jU O) K (my N vs) (gK N m) H p []:=by
  intro p;induction p with
  |nil=>intro _;rfl
  |cons j p B=>exact λh=>.inl ⟨b j (h j (by simp)),B λi I=>h i (aj _ I)⟩
 refine⟨gK N m,o,H,⟨⟨y.1,⟨[],rfl,jF.nil,v O λ_ h=>h⟩,λi d q _=>y.2 i d q⟩,λM v0 z=>nomatch z⟩,L,?_⟩;cases o with
 |rt R=>cases t;exact k
 |nx _=>cases t
 |bk _=>cases t
 |ct _=>cases t
end
structure AO (P:Program) (w:World) (K:Fg) (mg:Str->Ow) (base:Heap) (x:Str) (k n:Nat) (f:Lp->Od):Prop where
 ex:∃a fd ps,lT P w K mg base yl k a fd ps (YH K n f)/\mg x=Y (.ref a)/\W.keepIn K (.ref a)=true/\kZ K fd ps []
structure ES (dp:Bool) (P:Program) (w:World) (K:Fg) (mg:Str->Ow) (base:Heap) (x:Str) (k n:Nat) (f:Lp->Option (fe×fe)):Prop where
 ex:∃a fd ps,lT P w K mg base yl k a fd ps (Ko dp K n f)/\mg x=Y (.ref a)/\W.keepIn K (.ref a)=true/\kZ K fd ps []
abbrev Cz:=ES false
structure uD (P:Program) (w:World) (K:Fg) (mg:Str->Ow) (base:Heap) (c:Str) (k n:Nat) (f:Lp->Option (fe×fe)):Prop where
 ex:∃C a fd ps,mz K c C/\mg c=Y (.ref C)/\Mk K C a/\lT P w K mg base yl k a fd ps (Uu K n f)/\kZ K fd ps []
structure AQ (P:Program) (w:World) (K:Fg) (mg:Str->Ow) (base:Heap) (c m:Str) (k n:Nat) (f:Lp->Od):Prop where
 ex:∃C a fd ps,mz K c C/\Jy K C/\MZ K C m a/\lT P w K mg base yl k a fd ps (Ro K n f)/\kZ K fd ps []
section
variable {m:Md}{a b c o:Expr}{fa fb fc:c5->Od}{p2 p apos:Pos}{rest:List Stmt}{g h:c5->Option Out}{ga gc:c5->Option Bool}{j k:Nat}
theorem KO.kd{K:Fg}{Q:VK}(h:KD K H d Q):KO K H d Q:=λv e f s a b=>h v _ (s.trans a.same) (b.Je a.same λx c=>gw a.nd x c)
theorem PF.pd(h:PF X e f):PD X e f:=PE.imp h λσ H Q ⟨ρ,d,a,e,k⟩=>⟨ρ,d,a,e,KO.kd k⟩
theorem AR{F:Lp->Od} (N:AO X.prog X.w X.K X.mg X.base x j n F) (s:jf k X.A) (u:Gl X x) (y:BZ X (e::es) ff) (t:j<=k:=by decide) (h:zg x:=by decide)
  (v:zE e es X:=by rfl) (f:(backTo pos (starEach es X.env)).any (·.1)=false:=by rfl):PF X (.Call (.Name x p) (e::es) [] pos) (hZ n F ff):=by
 obtain⟨a,E,D,B,m,o,b⟩:=N.ex;refine PE.imp (Ao (B.mono t) s u m o b .nil y4 y h v f) λσ H Q ⟨ρ,d,r,e,k⟩=>?_;obtain⟨i,z,c⟩:=bind_some e;by_cases g:i.length=n
 ·rw[ai g] at c;exact⟨ρ,i,r,z,λC G l q=>⟨i,d,by rw[aF];exact q,g,c,k.later l⟩⟩
 ·rw[ao g] at c;cases c
theorem KO.wH{K:Fg}{Q:VK}(k:KO K H (.list ds) Q)(e:dt K H ds vs):∀p,H p=Z->Q (.ref p) (upd H p (.lst vs)):=λp h=>
 k (.ref p) H [(p,.lst vs)] (.refl H) ⟨by simp,(λx a=>by simp at a;subst a;exact h),.one a0 .nil⟩ (jG.Ta (.inl ⟨_,vs,rfl,rfl,e⟩))
noncomputable def tF(f:c5->Od)(l h:FO):c5->Od:=λρ=>(f ρ).bind λx=>(l ρ).bind λa=>(h ρ).bind λb=>match x with | .list xs=>Y (.list (nc xs a b))|_=>Z
theorem wV{n o:Option Expr}{l h:FO}(z:PD X e f)(y:S6 X n l)(w:S6 X o h):PF X (.Subscript e (.Slice n o Z p2) pos) (tF f l h) :=
 PE.imp (Cc Gp z y w) λσ H Q ⟨ρ,d,i,e,k⟩=>by
  obtain⟨x,E,D⟩:=bind_some e;obtain⟨a,C,B⟩:=bind_some D;obtain⟨b,A,q⟩:=bind_some B;obtain⟨j,rfl⟩:∃j,x=.list j:=by cases x<;>first|exact⟨_,rfl⟩|cases q
  cases q;refine⟨ρ,_,i,E,λv I g u=>⟨ρ,a,i.same g,C,λG c=>⟨ρ,b,i.same (g.trans c),A,λF m=>?_⟩⟩⟩;obtain⟨p,r,rfl,t,s⟩:=fv.fY.mp (u.same (c.trans m));exact⟨p,r,rfl,t,(k.later (g.trans (c.trans m))).wH (s.cut a b)⟩
theorem NA:ji X (.type "list") (λxs H Q=>∃a c,dt X.K H a xs/\Gw a=Y c/\KO X.K H c Q):=by
 refine ji.imp Aw λxs H Q ⟨a,c,i,e,k⟩=>?_
 match a,e with
 |[.list h],e=>cases e;obtain⟨v,rfl,d⟩:=i6 i;obtain⟨p,b,rfl,g,f⟩:=fv.fY.mp d;exact⟨p,b,rfl,.inl g,k.wH f⟩
 |[.tuple h],e=>cases e;obtain⟨v,rfl,d⟩:=i6 i;obtain⟨p,b,rfl,g,f⟩:=d.iF;exact⟨p,b,rfl,.inr g,k.wH f⟩
noncomputable def tG(c:Str)(n:Nat)(F:Lp->Option (fe×fe))(b:c5->Option Lp):c5->Od:=λρ=>(b ρ).bind λa=>if a.length+1=n then (F (.dict [(.none,.str c)]::a)).bind λr=>match r with|(.none,d)=>Y d|_=>Z else Z
theorem GG{K:Fg}{c:Str}(t:mz K c C){F:Lp->Option (fe×fe)}{Q:VK}{E:XK}(p:dt K H ds vs)(s:ds.length+1=n)(A:(F (.dict [(.none,.str c)]::ds)).bind (λr=>match r with|(.none,d)=>Y d|_=>Z)=Y d)(k:KO K H d Q):
  ∀x a,H x=Z->H a=Z->a≠x->Uu K n F (.ref x::(vs++[])) (upd (upd H a (.own x)) x (.ins C a [])) (λv H2=>v=.lP/\Q (.ref x) H2) E:=by
 intro x a q g f;obtain⟨r,z,j⟩:=bind_some A;obtain⟨i,h⟩:=r;have w:i=.none/\h=d:=by cases i<;>first|(cases j;exact⟨rfl,rfl⟩)|cases j
 obtain⟨rfl,rfl⟩:=w;refine⟨.ref x,vs++[],.dict [(.none,.str c)],ds,.none,h,H,[(x,.ins C a []),(a,.own x)],rfl,rfl,⟨?_,λy b=>?_,.ins .nil⟩,.inr ⟨c,C,x,a,[],[],[],rfl,rfl,rfl,t,rfl,rfl⟩,by rw[aF];exact p,s,z,λv B D l u m o=>⟨fv.jk.mp o,k _ B D l u m⟩⟩
 ·simp[Ne.symm f]
 ·rcases ag.mp b with e|b
  ·rw[e];exact q
  ·have:y=(a,HO.own x):=by simpa using b
   rw[this];exact g
theorem GH{c:Str}{F:Lp->Option (fe×fe)} (N:uD X.prog X.w X.K X.mg X.base c j n F) (s:jf (k+1) X.A) (u:Gl X c) (x:BZ X (e::es) ff) (t:j<=k:=by decide) (i:zg c:=by decide)
  (v:zE e es X:=by rfl) (g:(backTo pos (starEach es X.env)).any (·.1)=false:=by rfl):PF X (.Call (.Name c p) (e::es) [] pos) (tG c n F ff):=by
 obtain⟨C,a,G,E,y,o,M,B,b⟩:=N.ex;refine PE.imp (M0 M (B.mono t) s u o b .nil y4 x i v g) λσ H Q ⟨ρ,d,r,e,k⟩=>?_;obtain⟨l,z,f⟩:=bind_some e;by_cases h:l.length+1=n
 ·rw[ai h] at f;exact⟨ρ,l,r,z,λD I m q=>GG y q h f (k.later m)⟩
 ·rw[ao h] at f;cases f
theorem Kq{c:Str}{F:Lp->Option (fe×fe)}(N:uD X.prog X.w X.K X.mg X.base c j n F)(l:jf (k+1) X.A)(o:Gl X c)(m:j<=k:=by decide)(h:zg c:=by decide):PF X (.Call (.Name c p) [] [] pos) (tG c n F eB):=by
 obtain⟨C,a,v,t,q,i,M,s,b⟩:=N.ex;refine PE.imp (JH M (s.mono m) l o i b .nil y4 h) λσ H Q ⟨ρ,d,u,e,k⟩=>?_;obtain⟨x,r,f⟩:=bind_some e;cases r;by_cases g:([]:Lp).length+1=n
 ·rw[ai g] at f;exact GG q dt.nil g f k
 ·rw[ao g] at f;cases f
noncomputable def uE(c a:Str)(d:fe):Bool:=match d with
 |.dict ((.none,.str b)::r)=>decide (b=c)&&(pf a r).isNone
 |_=>false
noncomputable def CA(c b:Str)(n:Nat)(F:Lp->Od)(f:c5->Od)(e:c5->Option Lp):c5->Od:=λρ=>(f ρ).bind λd=>if uE c b d=true then (e ρ).bind λa=>if a.length+1=n then F (d::a) else Z else Z
theorem Kr{K:Fg}{c e:Str}(h:uE c e d=true)(i:fv K H d v):∃p C b a,v=.ref p/\mz K c C/\H p=Y (.ins C b a)/\a.lookup e=Z:=by
 unfold uE at h;split at h
 ·rename_i m r;simp only[bD,bR,Option.isNone_iff_eq_none] at h;obtain⟨rfl,f⟩:=h;obtain⟨p,C,b,a,l,k,j,g⟩:=i.Kd;exact⟨p,C,b,a,l,k,j,g.none f⟩
 ·cases h
theorem CB{q c:Str}{F:Lp->Od}{pl:Sem Bool} (N:AQ X.prog X.w X.K X.mg X.base q c j n F) (z:PD X o f) (y:jf k X.A) (D:j<=k:=by decide)
  (t:eval (.Call (.Attribute o c apos) [] [] pos) X.env=(do
   let ov <-eval o X.env
   standAt apos.atName
   let (f,first) <-holding [ov] (getMethod ov c pl)
   callWith pos f first (backTo pos (starEach [] X.env)) (backToKw pos (keywordEach [] X.env))):=by rfl):PD X (.Call (.Attribute o c apos) [] [] pos) (CA q c n F f eB):=by
 obtain⟨C,a,T,S,E,m,B,R,b⟩:=N.ex;refine PE.imp (JG (pl:=pl) z m B (R.mono D) y b .nil y4 t) λσ H Q ⟨ρ,d,u,e,k⟩=>?_;obtain⟨x,O,h⟩:=bind_some e;by_cases i:uE q c x=true
 ·rw[ai i] at h;obtain⟨U,M,g⟩:=bind_some h;cases M;by_cases l:([]:Lp).length+1=n
  ·rw[ai l] at g;refine⟨ρ,x,u,O,λv V s r=>?_⟩;obtain⟨p,W,P,L,rfl,J,I,G⟩:=Kr i r;have:=J.uniq E;subst this;exact⟨p,P,L,rfl,I,G,[x],d,dt.cons r dt.nil,by simpa using l,g,k.later s⟩
  ·rw[ao l] at g;cases g
 ·rw[ao i] at h;cases h
def PX(X:Cx)(O:List Nat)(e:Expr)(h:c5->Option (fe×c5)):Prop:=PE X e (λσ H Q=>∃ρ d ρ' G,hE O X.K σ ρ H G/\h ρ=Y (d,ρ')/\∀v a b,fJ G b->hE O X.K σ ρ' a b->(∀F,fv X.K F d v)->Q v a)
noncomputable def vl(O:List Nat)(i n:Nat)(F:Lp->Option (fe×fe))(b:c5->Option Lp):c5->Option (fe×c5):=λρ=>(ρ[i]?).join.bind λc=>(b (iI O ρ)).bind λa=>if a.length+1=n then (F (c::a)).bind λr=>if nT r.1=true then Y (r.1,ρ.set i (Y r.2)) else Z else Z
theorem tH(i:Nat) {y:Str}{T:Pos}{F:Lp->Option (fe×fe)} (N:ES dp X.prog X.w X.K X.mg X.base x j n F) (C:O.Nodup) (hr:jf k X.A) (hg:Gl X x) (ha:BZ X es ff) (hO:i∈O:=by decide) (hj:j<=k:=by decide) (L:jU O=dp:=by rfl)
  (hN:X.N[i]?=Y y:=by rfl) (hv:BY X.env.scope y:=by first|exact cg rfl|exact bP (cg rfl)|exact bP (bP rfl)) (hd:zg y:=by decide) (P:(y==("__classdict__":Str))=false:=by decide) (M:zg x:=by decide)
  (he:starEach (.Name y T::es) X.env=(false,eval (.Name y T) X.env)::starEach es X.env:=by rfl) (I:(backTo pos (starEach es X.env)).any (·.1)=false:=by rfl):PX X O (.Call (.Name x p) (.Name y T::es) [] pos) (vl O i n F ff):=by
 obtain⟨a,fd,ps,Fn,mm,kp,b⟩:=N.ex;refine PE.imp (PE.frame (Ao (Fn.mono hj) hr hg mm kp b .nil y4 (md (nK hN hv hd P) (PA.frame ha) he) M he I)) λσ H Q ⟨ρ,d,ρ',G,hs,e,k⟩=>?_;obtain⟨d0,e1,e2⟩:=bind_some e;obtain⟨V,e3,B⟩:=bind_some e2;by_cases J:V.length+1=n
 ·rw[ai J] at B;obtain⟨r,e5,z⟩:=bind_some B;obtain⟨r1,r2⟩:=r;by_cases l:nT r1=true
  ·rw[ai l] at z;cases z;obtain⟨W,g,q,f,e7,eH,fm,u,E,D,cl,_⟩:=hs.own C hO (join_some e1);rw[L] at u cl;have h:(g++(q++f)).Perm ((g++f)++q):=by
    rw[aQ];exact cL _ aW
   have f2:jF G ((g++f)++q):=fm.perm h ((E.append D).append u.nE);have S:=f2.Cs u.nE;refine⟨fx G q,g++f,by rw[eH,iD fm.nd h,h9],f2.Cr (E.append D),W,e7,G,q,rfl,S,iI O ρ,V,hs.rest,e3,λvs G1 s1 i1 t=>?_⟩;refine⟨W,vs++[],d0,V,r1,r2,G1,q,rfl,rfl,t,u.same s1,by rw[aF];exact i1,J,e5,λv m o s2 R s iv fR=>?_⟩;have sG:fJ G m:=s1.trans s2;have f3:jF m ((g++f)++o):=R.join fR;have c:((g++f)++o).Perm (g++(o++f)):=by rw[aQ];exact cL _ aW
   have f4:jF m (g++(o++f)):=f3.perm c (E.append (s.nE.append D));have U:fx (fx m o) (g++f)=fx m (g++(o++f)):=by rw[<-h9,iD f3.nd c]
   rw[U];exact k v _ m sG (cl m r2 o sG s f4) λF=>iv.kz l
  ·rw[ao l] at z;cases z
 ·rw[ao J] at B;cases B
def ET(h:c5->Option (fe×c5)):c5->Option Out:=λρ=>(h ρ).map λr=>.nx r.2
theorem Ie{h:c5->Option (fe×c5)}(d:PX X O e h)(a:swapsWith e Z pos.line X.env=pure false:=by rfl):sS X m O (.Expr e pos) (ET h) :=
 PS.imp (sV d a) λD σ H ⟨ρ,o,G,a,e,k⟩=>by obtain⟨r,f,rfl⟩:=ak.mp e;exact⟨ρ,r.1,r.2,G,a.o,f,λv g i c b _=>k σ g i c ⟨b,a.z⟩⟩
noncomputable def CC(h:c5->Option (fe×c5)):c5->Option Out:=λρ=>(h ρ).bind λr=>(r.2[0]?).join.map λa=>.rt (.tuple [r.1,a])
theorem wW{f:V}{h:c5->Option (fe×c5)}(a:O.Nodup)(n:PX X O e h):sS X (.io dp f) O (.Return (Y e) pos) (CC h) :=
 PS.imp (uu n) λD σ H ⟨ρ,o,G,c,e,k⟩=>by obtain⟨r,w,u⟩:=bind_some e;obtain⟨A,t,rfl⟩:=ak.mp u;refine⟨ρ,r.1,r.2,G,c.o,w,λv C E g b m=>?_⟩;obtain⟨d,B,i,s,p,j⟩:=kc.out (σ:=σ) (ρ:=r.2) a ⟨b,c.z⟩ t;obtain⟨x,y,q,l⟩:=k;cases q;rw[s];exact l v d B (g.trans i) p j (m d)
def YI(O:List Nat)(K:Fg)(h:c5->Option (Bool×c5)):TT:=λσ H Q=>∃ρ b ρ' G,hE O K σ ρ H G/\h ρ=Y (b,ρ')/\∀a c,fJ G c->hE O K σ ρ' a c->Q b a
def Tb(X:Cx)(O:List Nat)(e:Expr)(h:c5->Option (Bool×c5)):Prop:=PT X e (YI O X.K h)
def VI(X:Cx)(O:List Nat)(e:Expr)(h:c5->Option (Bool×c5)):Prop:=PW X e (YI O X.K h)
noncomputable def hT(h:c5->Option (fe×c5)):c5->Option (Bool×c5):=λρ=>(h ρ).bind λr=>match r with|(.bool b,ρ')=>Y (b,ρ')|_=>Z
theorem NB{h:c5->Option (fe×c5)}(m:PX X O e h)(j:∀whole,isTrue e X.env whole=(do let v <-whole;standAt e.pos;holding [v] (truthy v)):=by intro _;rfl):Tb X O e (hT h) :=
 PT.imp (B9 m j) λσ H Q ⟨ρ,b,ρ',G,l,e,k⟩=>by
  obtain⟨r,o,c⟩:=bind_some e;obtain⟨d,ρ2⟩:=r;have n:d=.bool b/\ρ2=ρ':=by cases d<;>first|(cases c;exact⟨rfl,rfl⟩)|cases c
  obtain⟨rfl,rfl⟩:=n;exact⟨ρ,_,_,G,l,o,λv f p g a i=>⟨b,JX (i f) rfl,k f p g a⟩⟩
noncomputable def NC(h:c5->Option (Bool×c5)):c5->Option (Bool×c5):=λρ=>(h ρ).map λr=>(!r.1,r.2)
theorem ND{h:c5->Option (Bool×c5)}(g:Tb X O a h):Tb X O (.UnaryOp .Not a pos) (NC h) :=
 PT.imp (Jk g) λσ H Q ⟨ρ,b,ρ',G,f,e,k⟩=>by obtain⟨r,j,i⟩:=ak.mp e;cases i;exact⟨ρ,r.1,r.2,G,f,j,λl m d c=>k l m d c⟩
noncomputable def Uv(g:c5->Option Bool)(h:c5->Option (Bool×c5)):c5->Option (Bool×c5):=λρ=>(g ρ).bind λb=>if b=true then Y (true,ρ) else h ρ
theorem NF{h:c5->Option (Bool×c5)}(b:Tb X O a h):VI X O (.BoolOp .Or [a] pos) h:=Jj b
theorem RB{i:Lx}{h:c5->Option (Bool×c5)}(p:Ea X a ga)(o:VI X O (.BoolOp .Or (b::i) pos) h):VI X O (.BoolOp .Or (a::b::i) pos) (Uv ga h) :=
 PW.imp (Py p o) λσ H Q ⟨ρ,b,ρ',G,j,e,k⟩=>by
  obtain⟨y,q,d⟩:=bind_some e;refine⟨ρ,y,j.full,q,λs n=>?_⟩;obtain⟨l,g,_,c⟩:=j.grow n;cases y with
  |false=>rw[ao aR] at d ⊢;exact⟨ρ,b,ρ',l,c,d,λr t m f=>k r t (g.trans m) f⟩
  |true=>rw[ai rfl] at d ⊢;cases d;exact k s l g c
theorem Uw{h:c5->Option (Bool×c5)}(a:VI X O e h):Tb X O e h:=a.pt
def NG(c:c5->Option (Bool×c5))(g h:c5->Option Out):c5->Option Out:=λρ=>(c ρ).bind λr=>if r.1=true then g r.2 else h r.2
theorem NH{j i:List Stmt}{n:c5->Option (Bool×c5)}(q:Tb X O c n)(t:qp X m O j g)(s:qp X m O i h):sS X m O (.If c j i pos) (NG n g h) :=
 PS.imp (PC q t s) λD σ H ⟨ρ,o,G,f,e,k⟩=>by
  obtain⟨r,u,d⟩:=bind_some e;obtain⟨b,ρ'⟩:=r;refine⟨ρ,b,ρ',G,f.o,u,λv p l a=>?_⟩;cases b with
  |true=>rw[ai rfl] at d ⊢;exact⟨ρ',o,p,⟨a,f.z⟩,d,k.later l⟩
  |false=>rw[ao aR] at d ⊢;exact⟨ρ',o,p,⟨a,f.z⟩,d,k.later l⟩
end
end L2
namespace L2
open PySem PySem.Spec PyProof.Rows PySem.Builtin PySem.Builtin.Str
theorem zc:∀(l:List (Str×Tok)),f7 ((l.map (·.1)).map V.str) (strValues l)
 |[]=>.nil
 | (x,t)::l=>.cons ⟨t,rfl⟩ (zc l)
theorem zd:∀{b:Lr}{a:Lw},f7 (b.map V.str) a->∃l:List (Str×Tok),a=strValues l/\l.map (·.1)=b
 |[],_,r=>by cases r;exact⟨[],rfl,rfl⟩
 |x::b,_,r=>by
  rw[ae] at r;cases r with
  |cons h t=>obtain⟨c,rfl⟩:=h;obtain⟨l,rfl,e⟩:=zd t;exact⟨(x,c)::l,rfl,by simp[e]⟩
noncomputable def oY:Lp->Option Lr
 |[]=>Y []
 |.str x::r=>(oY r).map (x::·)
 |_::_=>Z
theorem vm:∀{b:Lp}{a:Lr},oY b=Y a->b=a.map .str
 |[],_,h=>by cases h;rfl
 |d::r,a,h=>by
  cases d<;>try (simp[oY] at h;done)
  obtain⟨c,e,rfl⟩:=ak.mp (show (oY r).map _=Y a from h);rw[vm e];rfl
theorem pM:∀a:Lr,oY (a.map .str)=Y a
 |[]=>rfl
 |x::a=>by show (oY (a.map .str)).map _=_;rw[pM a];rfl
theorem ze{K:Fg}{H:Hp}:∀{c:Lr}{d:List V},dt K H (c.map .str) d->d=c.map .str
 |[],_,h=>dt.fQ.mp h
 |x::c,_,h=>by obtain⟨v,r,rfl,a,b⟩:=dt.fH.mp h;rw[fv.f6.mp a,ze b];rfl
theorem nh{K:Fg}{H:Hp}:∀(a:Lr),dt K H (a.map .str) (a.map .str)
 |[]=>dt.nil
 |x::a=>dt.cons (fv.f6.mpr rfl) (nh a)
section
variable {a b c o:Expr}{fa fb fc:c5->Od}{p2 p apos gQ:Pos}{ga gc:c5->Option Bool}
def pN(g:fe->Lp->Od)(f:c5->Od)(a:c5->Option Lp):c5->Od:=λρ=>(f ρ).bind λd=>(a ρ).bind λds=>match d with | .str z=>g (.str z) ds|_=>Z
theorem AU{a:Str}{n:String}{g:fe->Lp->Od} (j:Slot "str" a n) (p:typeOf (.builtin n)=pure (.type "method_descriptor")) (y:PN X n (λx vs H Q=>∃d ds c,fv X.K H d x/\dt X.K H ds vs/\g d ds=Y c/\KD X.K H c Q)) (w:PD X o f) (A:BZ X (e::es) ff)
  (i:attributeBase o a X.env (eval o X.env)=eval o X.env:=by rfl)
  (l:((backTo gQ (starEach (e::es) X.env)).all (λx=>!x.1)&&(backToKw gQ (keywordEach [] X.env)).all (λx=>x.1.isSome)
  &&decide ((e::es).length+([]:List Keyword).length+(if ([]:List Keyword).isEmpty then 0 else 1)<30))=true:=by rfl)
  (h:(apos.endLine==gQ.line)=true:=by rfl) (m:zE e es X:=by rfl) (b:(backTo gQ (starEach es X.env)).any (·.1)=false:=by rfl):
  PD X (.Call (.Attribute o a apos) (e::es) [] gQ) (pN g f ff) :=
 PE.imp (Ce PySem.F.plainAttrs_str j p y w A i l h m b) λσ H Q ⟨ρ,d,m,e,k⟩=>by
  obtain⟨x,D,C⟩:=bind_some e;obtain⟨ds,B,t⟩:=bind_some C;obtain⟨z,rfl⟩:∃z,x=.str z:=by cases x<;>first|exact⟨_,rfl⟩|cases t
  refine⟨ρ,_,m,D,λv G r s=>⟨?_,ρ,ds,m.same r,B,λvs E q u=>⟨_,ds,d,s.same q,u,t,k.later (r.trans q)⟩⟩⟩;rw[fv.f6.mp s];rfl
noncomputable def jn(d:fe)(a:Lp):Od:=match d,a with
 |.str x,[.str y]=>if (y.length==0)=false/\x.length<=sizeLine/\(partsBetween x (occurrences x y 0 x.length (x.length+1)) y.length).length<=sizeLine then Y (.list ((Txt.split x y).map .str)) else Z
 |_,_=>Z
theorem Ks:PN X "str.split" (λx vs H Q=>∃d n c,fv X.K H d x/\dt X.K H n vs/\jn d n=Y c/\KD X.K H c Q):=by
 intro a s σ H v vs u D Q I o p h;obtain⟨d,n,F,z,w,e,k⟩:=h;unfold jn at e;split at e
 ·rename_i x y;by_cases j:(y.length==0)=false/\x.length<=sizeLine/\(partsBetween x (occurrences x y 0 x.length (x.length+1)) y.length).length<=sizeLine
  ·rw[ai j] at e;cases e;obtain⟨q,m,b⟩:=j;rw[fv.f6.mp z] at o;obtain⟨t,rfl⟩:=o;obtain⟨C,rfl,r⟩:=i6 w;rw[fv.f6.mp r] at p;obtain⟨E,rfl,t',rfl⟩:=p.one;have f:∀(l:List (Str×Tok)) (i:Nat),l.map (·.1)=Txt.split x y->l.length<=sizeLine->EP X a σ Q (.ref (zB s)) { s with heap:=s.heap.push { cls:=.type "list",data:=.seq (strValues l).toArray },toks:=i }:=λl i A g=>by
    have B:=I.Q7 (t':=i) (ys:=(l.map (·.1)).map V.str) (zc l) (by simpa using g);refine⟨.ref (zB s),_,B,rfl,k.wH ?_ _ I.fresh⟩;rw[A];exact nh _
   cases h1:(decide (x.length<y.length)||decide (strKind x<strKind y))
   ·cases hf:(occurrences x y 0 x.length (x.length+1)).isEmpty
    ·refine cA eI (dB _ _ _) ej (d4 _ _) (meets_str_split_sep x y t t' h1 q hf m b) ?_;show EP X a σ Q _ { s with toks:=_,heap:=s.heap.push { cls:=.type "list",data:=.seq (strsFrom s.toks (partsBetween x (occurrences x y 0 x.length (x.length+1)) y.length)).toArray } };rw[strsFrom_eq];refine f _ _ ((numbered_texts _ _).trans ((ao (dS h1)).trans (ao (dS hf))).symm) ?_;have:=bK List.length (numbered_texts s.toks (partsBetween x (occurrences x y 0 x.length (x.length+1)) y.length));rw[ah] at this;rw[this];exact b
    ·exact cA eI (dB _ _ _) ej (d4 _ _) (meets_str_split_not_found x y t t' h1 q hf)
      (f [(x,t)] s.toks ((ao (dS h1)).trans (ai hf)).symm (by show 1<=sizeLine;decide))
   ·exact cA eI (dB _ _ _) ej (d4 _ _) (meets_str_split_cannot_occur x y t t' h1)
     (f [(x,t)] s.toks (ai h1).symm (by show 1<=sizeLine;decide))
  ·rw[ao j] at e;cases e
 ·cases e
noncomputable def je(d:fe)(b:Lp):Od:=match d,b with
 |.str x,[.list ts]=>(oY ts).bind λa=>if JoinOk x a=true then Y (.str (Txt.join x a)) else Z
 |_,_=>Z
theorem NI:PN X "str.join" (λx vs H Q=>∃d g c,fv X.K H d x/\dt X.K H g vs/\je d g=Y c/\KD X.K H c Q):=by
 intro m s σ H v vs u L Q I j q h;obtain⟨d,g,O,D,C,e,k⟩:=h;unfold je at e;split at e
 ·rename_i x N;obtain⟨a,F,b⟩:=bind_some e;by_cases f:JoinOk x a=true
  ·rw[ai f] at b;cases b;have:=vm F;subst this;rw[fv.f6.mp D] at j;obtain⟨t,rfl⟩:=j;obtain⟨J,rfl,B⟩:=i6 C;obtain⟨p,G,rfl,i,z⟩:=fv.fY.mp B;obtain⟨M,rfl,w⟩:=q.one;cases w;rw[ze z] at i;obtain⟨A,r,y,_⟩:=I.list i;obtain⟨l,rfl,E⟩:=zd r;exact SC.join y.isList E f λo n=>⟨.str _,H,I.tok n,⟨o,rfl⟩,k.here (fv.f6.mpr rfl)⟩
  ·rw[ao f] at b;cases b
 ·cases e
noncomputable def kT(d:fe)(ds:Lp):Od:=match d,ds with
 |.str x,[.str y]=>if (y.length==0)=false/\x.length<=sizeLine then Y (match occurrences x y 0 x.length 1 with
  |i::_=>.tuple [.str (strSub x 0 i),.str y,.str (strSub x (i+y.length) x.length)]
  |[]=>.tuple [.str x,.str Str.empty,.str Str.empty]) else Z
 |_,_=>Z
theorem tI:PN X "str.partition" (λx vs H Q=>∃d m c,fv X.K H d x/\dt X.K H m vs/\kT d m=Y c/\KD X.K H c Q):=by
 intro f s σ H v vs u J Q I n p h;obtain⟨d,m,M,B,A,e,k⟩:=h;unfold kT at e;split at e
 ·rename_i x y;by_cases j:(y.length==0)=false/\x.length<=sizeLine
  ·rw[ai j] at e;cases e;rw[fv.f6.mp B] at n;obtain⟨t,rfl⟩:=n;obtain⟨G,rfl,z⟩:=i6 A;rw[fv.f6.mp z] at p;obtain⟨L,rfl,t',rfl⟩:=p.one;refine cA F.slot_str_partition (dB _ _ _) F.entry_str_partition (F.args_str_partition_2 _ _) (meets_str_partition x y t t' j.1 j.2) ?_;have g:∀(b:Lw) (xs:Lr) (l:Nat),f7 (xs.map V.str) b->xs.length=3->KD X.K H (.tuple (xs.map .str)) Q->EP X f σ Q (.ref (zB s)) { s with heap:=s.heap.push { cls:=.type "tuple",data:=.seq b.toArray },toks:=l }:=λb xs l C D w=>by
    have E:=I.laid (a:=(zB s)) (o:=.tup (xs.map V.str)) (t':=l) (h':=s.heap.push { cls:=.type "tuple",data:=.seq b.toArray }) (λ_ _ q=>af _ q) (aH _) ⟨by rw[ah,D];decide,b,C,_,aG _ rfl,rfl,0,rfl⟩;exact⟨.ref (zB s),_,E,rfl,w.Ng (nh _) _ I.fresh⟩
   revert k
   cases occurrences x y 0 x.length 1 with
   |nil=>exact λk=>g _ [x,Str.empty,Str.empty] _ (.cons ⟨_,rfl⟩ (.cons ⟨_,rfl⟩ (.cons ⟨_,rfl⟩ .nil))) rfl k
   |cons i r=>exact λk=>g _ [strSub x 0 i,y,strSub x (i+y.length) x.length] _ (.cons ⟨_,rfl⟩ (.cons ⟨_,rfl⟩ (.cons ⟨_,rfl⟩ .nil))) rfl k
  ·rw[ao j] at e;cases e
 ·cases e
noncomputable def se(x y:fe):Od:=match x,y with
 |.str z,.int n=>if 0<=n/\n<=64/\z.length<=64 then Y (.str (Txt.mul z n)) else Z
 |x,y=>Ri x y
theorem CD{z:Str}{n:Int}(h:0<=n/\n<=64/\z.length<=64):MulOk z n:=mulOk_of 64 64 (by omega) (by omega) (by omega) (by decide) (by decide)
theorem NJ:lO X (binaryOp .Mult) (λx y H Q=>∃z n,x=.str z/\y=.int n/\(0<=n/\n<=64/\z.length<=64)/\Q (.str (Txt.mul z n)) H):=by intro a s σ H x y v u Q I d c h;obtain⟨z,n,rfl,rfl,e,q⟩:=h;obtain⟨t,rfl⟩:=d;obtain⟨f,rfl⟩:=c;exact SB.mul (CD e) λb k=>⟨.str _,H,I.tok _,⟨b,rfl⟩,q⟩
theorem wb:ti X (binaryOp .Mult) se:=by
 refine lO.imp (lO.or Rj NJ) λx y H Q ⟨a,b,d,g,f,e,k⟩=>?_;unfold se at e;split at e
 ·rename_i z n;by_cases c:0<=n/\n<=64/\z.length<=64
  ·rw[ai c] at e;cases e;exact .inr ⟨z,n,fv.f6.mp g,fv.fG.mp f,c,k.here (fv.f6.mpr rfl)⟩
  ·rw[ao c] at e;cases e
 ·exact .inl ⟨a,b,d,g,f,e,k⟩
noncomputable def tJ(x y:fe):Od:=match x,y with
 |.str a,.str b=>Y (.bool (!decide (b.cps.toList<a.cps.toList)))
 |x,y=>VB x y
theorem Ig:lO X (compareOp .LtE) (λx y H Q=>∃i j,x=.str i/\y=.str j/\Q (.bl (!decide (j.cps.toList<i.cps.toList))) H):=by intro a s σ H x y v u Q I c b h;obtain⟨i,j,rfl,rfl,q⟩:=h;obtain⟨t,rfl⟩:=c;obtain⟨d,rfl⟩:=b;exact PySem.P.le_str (wy I q rfl)
theorem AV:ti X (compareOp .LtE) tJ:=by
 refine lO.imp (lO.or T9 Ig) λx y H Q ⟨a,b,d,f,c,e,k⟩=>?_;unfold tJ at e;split at e
 ·rename_i z n;cases e;exact .inr ⟨z,n,fv.f6.mp f,fv.f6.mp c,k.here (fv.fT.mpr rfl)⟩
 ·exact .inl ⟨a,b,d,f,c,e,k⟩
noncomputable def wX(g a:fe->fe->Od)(e d c:c5->Od):c5->Option Bool:=λρ=>(e ρ).bind λx=>(d ρ).bind λy=>(g x y).bind λr=>(RC r).bind λk=>if k=true then (c ρ).bind λz=>(a y z).bind RC else Y false
where RC:fe->Option Bool | .bool b=>Y b|_=>Z
theorem zf{b:Bool}(h:wX.RC d=Y b):d=.bool b:=by cases d<;>first|(cases h;rfl)|cases h
theorem Ih{l d:CmpOp}{g B:fe->fe->Od} (J:ti X (compareOp l) g) (o:ti X (compareOp d) B) (N:PD X a fa) (M:PD X b fb) (L:PD X c fc)
  (K:lastMarks [l,d] [b,c]=false:=by with_unfolding_all rfl):Ea X (.Compare a [l,d] [b,c] pos) (wX g B fa fb fc) :=
 PT.imp (Jv J o N M L K) λσ H Q ⟨ρ,b,n,e,k⟩=>by
  obtain⟨x,V,t⟩:=bind_some e;obtain⟨y,U,s⟩:=bind_some t;obtain⟨r,T,q⟩:=bind_some s;obtain⟨m,S,j⟩:=bind_some q;have:=zf S;subst this;clear e t s q;refine⟨ρ,x,n,V,λv H1 i I=>⟨ρ,y,n.same i,U,λu H2 h A=>⟨x,y,.bool m,I.same h,A,T,λw H3 f G=>⟨m,fv.fT.mp G,?_⟩⟩⟩⟩;cases m with
  |false=>rw[ao aR] at j ⊢;cases j;exact⟨false,rfl,k H3 (i.trans (h.trans f))⟩
  |true=>rw[ai rfl] at j ⊢;obtain⟨z,R,D⟩:=bind_some j;obtain⟨r2,P,O⟩:=bind_some D;have:=zf O;subst this;exact⟨ρ,z,n.same (i.trans (h.trans f)),R,λw2 H4 p F=>⟨y,z,.bool b,A.same (f.trans p),F,P,λw3 W C E=>⟨b,fv.fT.mp E,k W (i.trans (h.trans (f.trans (p.trans C))))⟩⟩⟩
def Ux(f:c5->Od):c5->Od:=λρ=>(f ρ).bind λd=>match d with | .str x=>if x.length<=sizeLine then Y (.str x) else Z|_=>Z
theorem Kt(h:Ux f ρ=Y d):∃x,f ρ=Y (.str x)/\d=.str x/\x.length<=sizeLine:=by
 obtain⟨x,c,a⟩:=bind_some h;obtain⟨y,rfl⟩:∃y,x=.str y:=by cases x<;>first|exact⟨_,rfl⟩|cases a
 dsimp only at a;by_cases b:y.length<=sizeLine
 ·rw[ai b] at a;cases a;exact⟨y,c,rfl,b⟩
 ·rw[ao b] at a;cases a
theorem P6(q:PD X e f):PD X (.FormattedValue e (-1) Z pos) (Ux f):=by
 intro a s σ H Q I ⟨ρ,d,p,u,k⟩;obtain⟨x,r,rfl,o⟩:=Kt u;refine wpAny_FormattedValue_plain (iP (@q a s σ H (λv H'=>v=.str x/\fJ H H') I ⟨ρ,_,p,r,λv H' j i=>⟨fv.f6.mp i,j⟩⟩) λv h ⟨y,z,w,l,n,m⟩=>?_);subst n;obtain⟨t,rfl⟩:=l;have b:∀g c,EP X a σ Q (.str x g) { h with toks:=c }:=λg c=>⟨.str x,z,w.tok c,⟨g,rfl⟩,(k.later m).here (fv.f6.mpr rfl)⟩
 exact wpAny_formatField_str (b t h.toks) (b _ _) o
def PJ(X:Cx)(e:Lx)(d:c5->Option Str):Prop :=
 ∀(a:Str) (pins:Ax) (s:Shared) (σ:St) (H:Hp) (Q:Str->Shared->Prop),fD X pins σ H s->(∃ρ z,jE X.K H σ ρ/\d ρ=Y z/\(a++z).length<=sizeLine/\∀c b,fJ H c->fD X pins σ c b->Q (a++z) b) ->
  Joins (model X.prog X.w) X.A X.xe (evalEach e X.env) a Q s
theorem wY(a:Str):a++Str.empty=a:=by cases a with|mk c=>show Str.mk (c++#[])=Str.mk c;rw[Array.append_empty]
theorem pk(a b c:Str):a++b++c=a++(b++c):=by cases a with|mk x=>cases b with|mk y=>cases c with|mk z=>show Str.mk (x++y++z)=Str.mk (x++(y++z));rw[Array.append_assoc]
theorem j6(a b:Str):(a++b).length=a.length+b.length:=strLen_append ..
theorem RD:PJ X [] (λ_=>Y Str.empty):=by intro b a s σ H Q I ⟨ρ,z,d,e,c,k⟩;cases e;have:=k H s (.refl H) I;rw[wY] at this;exact this
noncomputable def CF(f:c5->Od)(g:c5->Option Str):c5->Option Str:=λρ=>(f ρ).bind λd=>(g ρ).bind λz=>match d with | .str y=>Y (y++z)|_=>Z
theorem AW(B:PD X e f){m:c5->Option Str}(w:PJ X es m)(h:evalEach (e::es) X.env=eval e X.env::evalEach es X.env:=by rfl):PJ X (e::es) (CF f m):=by
 intro b a s σ H Q I ⟨ρ,z,l,F,g,k⟩;obtain⟨d,E,D⟩:=bind_some F;obtain⟨o,C,n⟩:=bind_some D;obtain⟨y,rfl⟩:∃y,d=.str y:=by cases d<;>first|exact⟨_,rfl⟩|cases n
 cases n;rw[h];refine iP (@B a s σ H (λv H'=>v=.str y/\fJ H H') I ⟨ρ,_,l,E,λv H' c i=>⟨fv.f6.mp i,c⟩⟩) λv q ⟨x,K,G,r,u,j⟩=>?_;subst u;obtain⟨t,rfl⟩:=r;have A:(b++y).length<=sizeLine:=by rw[j6] at g ⊢;rw[j6] at g;omega
 refine⟨y,t,rfl,A,w (b++y) a q σ K Q G ⟨ρ,o,l.same j,C,by rw[pk];exact g,λH' c p J=>?_⟩⟩;rw[pk];exact k H' c (j.trans p) J
noncomputable def Xa(a:c5->Option Str):c5->Od:=λρ=>(a ρ).bind λz=>if z.length<=sizeLine then Y (.str z) else Z
theorem NK{h g:Expr}{a:Lx}{i:c5->Option Str}(n:PJ X (h::g::a) i):PD X (.JoinedStr (h::g::a) pos) (Xa i):=by
 intro b s σ H Q I ⟨ρ,d,m,p,k⟩;obtain⟨z,o,f⟩:=bind_some p;by_cases e:z.length<=sizeLine
 ·rw[ai e] at f;cases f;have j:Str.empty++z=z:=by cases z with|mk c=>show Str.mk (#[]++c)=Str.mk c;rw[Array.empty_append]
  refine wpAny_JoinedStr (n Str.empty b s σ H _ I ⟨ρ,z,m,o,by rw[j];exact e,λr t l q=>?_⟩);rw[j];exact⟨e,.str z,r,q.tok _,⟨_,rfl⟩,(k.later l).here (fv.f6.mpr rfl)⟩
 ·rw[ao e] at f;cases f
def pO(p:fe->Bool):Lp->Nat->Option Nat
 |[],_=>Z
 |d::ds,k=>if p d=true then Y k else pO p ds (k+1)
noncomputable def nV(l:fe)(a:Lp):Od:=match l,a with
 |.list xs,[x]=>if SeqAt.shaped x=true/\xs.all SeqAt.shaped=true/\x.depth<=60/\xs.length<=sizeLine then (pO (λy=>fe.eqv y x) xs 0).map λ(j:Nat)=>fe.int (j:Int) else Z
 |_,_=>Z
theorem tK{p:fe->Bool}:∀{a:Lp}{k j:Nat},pO p a k=Y j->k<=j/\j - k<a.length/\(∃d,a[j - k]?=Y d/\p d=true)/\∀i d,i<j - k->a[i]?=Y d->p d=false
 |[],_,_,h=>by cases h
 |x::a,k,j,h=>by
  unfold pO at h;by_cases b:p x=true
  ·rw[ai b] at h;cases h;refine⟨aH _,by simp,⟨x,by simp,b⟩,λi d f=>by omega⟩
  ·rw[ao b] at h;obtain⟨o,n,⟨d,m,l⟩,g⟩:=tK h;have e:j - k=(j - (k+1))+1:=by omega
   refine⟨by omega,by rw[e];simpa using n,⟨d,by rw[e];simpa using m,l⟩,λi y f c=>?_⟩;cases i with
   |zero=>simp at c;subst c;simpa using b
   |succ i=>exact g i y (by omega) (by simpa using c)
end
end L2
local macro_rules
| `(zT $a $b) => `(L2.AU PySem.F.slot_str_split PySem.F.type_str_split L2.Ks $a $b)
| `(zJ $a $b) => `(L2.AU PySem.F.slot_str_join PySem.F.type_str_join L2.NI $a $b)
namespace PySem
open Builtin
theorem uF:typeLookup (.type "list") "keys"=pure Z:=by rw[eU,dv];kernel_rfl
theorem AX{e:Program}{j:Heap}{o:Array GenState}{p:Drawn}{u:Nat}{m:OsState}{r:Array Ow}{h:Array Value}{f:Str}{Q:Ow->Shared->Prop}
    (s:j.get? a=Y { cls:=.type "list",dict:=Z,data:=.seq h n,slots:=r }) (d:typeLookup (.type "list") f=pure Z) (c:(["__module__","__name__","__qualname__","__doc__","__annotations__"]:Lr).contains f=false) (i:A.handled=Z) (b:f.length+100<=sizeLine)
    (k:∀Uh MA x,Heap.NewExcOf j Uh x "AttributeError"->Q Z ⟨Uh,o,p,MA,m⟩):wpAny (model e w) A (getAttr? (.ref a) f) Q E ⟨j,o,p,u,m⟩:=by
  have q:∀t,Shared.TypeIs ⟨j,o,p,t,m⟩ (.ref a) "list":=λt=>⟨_,s,rfl⟩
  have B:=sub_AttributeError;have z:=F.slot_list_getattribute.lookup;have y:=F.slot_list_getattribute.bind (.ref a);have v:=am_list_getattr_none;unfold getAttr? getAttrBy? getAttrBy
  repeat (any_goals (first
    |assumption
    |exact q _
    | ((with_reducible show wpAny _ _ (call (Value.builtin "list.__getattribute__") _ _) _ _ _)
       refine cA F.slot_list_getattribute (q _) am_entry_list_getattribute (F.args_list_getattribute_2 _ _) (meets_getattribute_miss_list a h n r f _ d c b) ⟨s,i,λUh MA x g=>?_⟩)
    |wp_step))
  obtain⟨_,_,l⟩:=g.there;show wpAny _ _ (getattributeRaised _ _ _ _ _ _ _) _ _ _;unfold getattributeRaised
  repeat (any_goals (first|assumption|wp_step))
  exact k _ _ _ g.of
namespace F
theorem kI:entryFor table "dict.update.loop"=Y Builtin.«dict.update.loop»:=entryFor_of_tree (zK 0)
theorem ie:plainId "dict.update.loop"=true:=by decide +kernel
end F
section
variable {prog:Program}{K:Type} [DecidableEq K] {knd:KeyKind prog w K}
inductive mi (knd:KeyKind prog w K) (h:Heap):Lw->List (K×Value)->Prop
 |nil:mi knd h [] []
 |cons {T:Addr}{key v:Value}{k:K}{vs:Lw}{ps:List (K×Value)}:h.IsTuple T #[key,v]->knd.is k key=true->mi knd h vs ps->mi knd h (.ref T::vs) ((k,v)::ps)
theorem mi.keep{h':Heap}{d:Lw}{e:List (K×Value)}(x:mi knd h d e)(k:∀b o xs n,h.get? b=Y o->o.data=.seq xs n->h'.get? b=Y o):mi knd h' d e:=by
 induction x with
 |nil=>exact .nil
 |cons a b c g=>obtain⟨o,j,i,n,f⟩:=a;exact .cons ⟨o,k _ _ _ _ j f,i,n,f⟩ b g
def CG(b c:List (K×Value)):List (K×Value):=c.foldl (λa p=>stored a p.1 p.2) b
theorem EU(a:List (K×Value))(k:K)(v:Value):(stored a k v).length<=a.length+1:=by unfold stored;split<;>simp
theorem Ku{D I l:Addr}{a:Array Value}{R:Result->Shared->Prop}(hh:A.in1.handled=Z)(j:D≠I)(c:Heap)(H:c.get? D=Z)(t:c.get? I=Z):
  ∀(B:Lw) (ps:List (K×Value)) (i:Nat) (s:Shared) (acc:List (K×Value)),a.toList.drop i=B->mi knd s.heap B ps->(∀b o,c.get? b=Y o->s.heap.get? b=Y o)->s.heap.IsListIter I l i->s.heap.IsList l a->s.heap.DictOf knd D acc->acc.length+ps.length<=sizeLine ->
  (∀p P,p.DictOf knd D (CG acc ps)->(∀b o,c.get? b=Y o->p.get? b=Y o)->R (.ok (.ret .none)) { s with heap:=p,toks:=P }) ->
  codeAny (model prog w) A (.builtin "dict.update.loop" ⟨[.ref D,.ref I,rawInt i,.none],[]⟩) R s
 |[],_,i,s,acc,hv,C,h0,G,M,hd,Q,hR=>by
  cases C;refine cq F.kI ?_;rw[b6 F.ie _];show wpAny _ A.in1 (pyNext (.ref I)>>=_) _ _ s;have hn:a[i]?=Z:=by have:=List.drop_eq_nil_iff.mp hv;simp at this ⊢;omega
  refine aa (du hh G M hn λp eb=>?_);show wpAny _ A.in1 (Builtin.Dict.addKeywords D []>>=_) _ _ _;refine aa (ar (ar ?_));obtain⟨o,N,O,x,r⟩:=hd;exact hR p s.toks ⟨o,N,O,eb _ _ j x,r⟩ λb o e=>eb b o (λz=>by rw[z,t] at e;cases e) (h0 b o e)
 |v::B,_,i,s,acc,hv,C,h0,G,M,hd,Q,hR=>by
  cases C with
  |@cons T q g k _ ps ht hk C=>
   refine cq F.kI ?_;rw[b6 F.ie _];show wpAny _ A.in1 (pyNext (.ref I)>>=_) _ _ s;have U:i<a.size:=by have:=bK List.length hv;simp at this;omega
   have hx:a[i]?=Y (.ref T):=by have:=bK (·[0]?) hv;simpa using this
   have S:a.toList.drop (i+1)=B:=by
    have e:=cm (l:=a.toList) (i:=i) (by simpa using U);rw[hv] at e;injection e with _ f
    exact f.symm
   refine aa (cY G M hx λp hI' sb=>?_);have Xb:p.IsTuple T #[q,g]:=by obtain⟨o,d,f,n,y⟩:=ht;refine⟨o,(sb.2 _ λz=>?_).trans d,f,n,y⟩;subst z;obtain⟨oi,u,ci,L⟩:=G;rw[d] at u;cases u;rw[y] at L;cases L
   obtain⟨ot,J,et2,nt,et3⟩:=id Xb;show wpAny _ A.in1 (holding [.ref T] _>>=_) _ _ _;refine aa (bf ?_);refine aa (wpAny_tryCatch ?_);unfold Builtin.Dict.pairItems;refine aa (cx (T:="tuple") ⟨ot,J,et2⟩ ?_);have hc1:((Value.type "tuple"==Value.type "list")||(Value.type "tuple"==Value.type "tuple"))=true:=by decide
   simp only[hc1,cQ];refine aa ?_;unfold seqItems?;refine aa (wpAny_load J ?_);rw[et3];refine ar (ar ?_);show wpAny _ _ (holding [q,g] (dictSet D q g)) _ _ _;have X:p.DictOf knd D acc:=by obtain⟨o,N,O,x,r⟩:=id hd;exact⟨o,N,O,(sb.2 _ j).trans x,r⟩
   have nI:∀b o m n,s.heap.get? b=Y o->o.data=.seq m n->b≠I:=λb o m n d f z=>by subst z;obtain⟨oi,u,ci,L⟩:=G;rw[d] at u;cases u;rw[f] at L;cases L
   have nD:∀b o m n,s.heap.get? b=Y o->o.data=.seq m n->b≠D:=λb o m n d f z=>by subst z;obtain⟨o',N,O,x,YJ,E,_⟩:=hd;rw[d] at x;cases x;rw[f] at E;cases E
   refine bf (wpAny_dictSet_pairs hk X (λh2 hd2 h=>?_) (hsz:=by simp at Q;omega));refine ar ⟨cJ F.ie _,?_⟩;have u:((i:Int)+1)=((i+1:Nat):Int):=by omega
   rw[u];have V:h2.IsList l a:=by obtain⟨o,d,f,n,y⟩:=M;exact⟨o,(h.2 _ (nD _ _ _ _ d y)).trans ((sb.2 _ (nI _ _ _ _ d y)).trans d),f,n,y⟩
   have hI2:h2.IsListIter I l (i+1):=hI'.at λo e=>(h.2 _ (Ne.symm j)).trans e;refine Ku hh j c H t B ps (i+1) { s with heap:=h2,toks:=s.toks+1 } (stored acc k g) S (C.keep λb o m n d f=>(h.2 _ (nD b o m n d f)).trans ((sb.2 _ (nI b o m n d f)).trans d)) (λb o e=>?_) hI2 V hd2 ?_ λh3 P W k3=>hR h3 P W k3
   ·have b1:b≠I:=λz=>by rw[z,t] at e;cases e
    have b2:b≠D:=λz=>by rw[z,H] at e;cases e
    exact(h.2 b b2).trans ((sb.2 b b1).trans (h0 b o e))
   ·have:=EU acc k g;simp at Q ⊢;omega
theorem vG{l:Addr}{o:Obj}{a:Array Value}{v:List (K×Value)}{Q:Px} (J:A.handled=Z) (R:s.heap.get? l=Y o) (L:o.cls=.type "list") (i:o.data=.seq a n) (u:o.dict=Z)
  (S:mi knd s.heap a.toList v) (B:v.length<=sizeLine)
  (h:∀h' tk,h'.DictOf knd (zB s) (CG [] v)->(∀b o,s.heap.get? b=Y o->h'.get? b=Y o)->Q (.ref (zB s)) { s with heap:=h',toks:=tk }):
  wpAny (model prog w) A (call (.type "dict") [.ref l]) Q E s:=by
 refine callType_codes (Q₁:=λk f=>k=.ref (zB s)/\f={ s with heap:=s.heap.push { cls:=.type "dict",data:=.dict #[] } }) F.kt_called_dict (F.kt_typeCall_dict_1 _) F.entry_dict_init (kt_code_dict_new _ ⟨rfl,rfl⟩) ?_;rintro k f ⟨rfl,rfl⟩;have c:(s.heap.push { cls:=.type "dict",data:=.dict #[] }).DictOf knd (zB s) []:=Heap.DictOf.new s.heap;obtain⟨oc,od,N,M⟩:=o;simp only at L i u;subst L i u;have d:=af { cls:=.type "dict",data:=.dict #[] } R;refine⟨c.typeIs,F.args_dict_init_2 _ _,?_⟩;unfold Builtin.«dict.__init__»;refine aa ?_;unfold Builtin.Dict.selfAndRest;refine aa (wpAny_notOrdered_dict c.typeIs ?_);show wpAny _ _ (pure ((zB s),[Value.ref l])) _ _ _;refine ar ?_;show wpAny _ _ (Builtin.Dict.updateFrom "dict.__init__" (zB s) (.ref l) [] .none) _ _ _;unfold Builtin.Dict.updateFrom;refine aa (cx (T:="list") ⟨_,d,rfl⟩ ?_);rw[ai (by decide)];refine aa (AX d uF (zD 0) (show A.in1.in1.handled=Z from J) (by decide) λj y e1 t=>?_);rw[ai (show (Z:Ow).isNone=true from rfl)];refine aa (eO ?_);have D:j.IsList l a:=⟨_,t.keeps _ _ d,rfl,n,rfl⟩
 refine aa (cZ D ?_);refine ar ⟨cJ F.ie _,?_⟩;have g:(zB s)<j.objs.size:=av (t.keeps _ _ (aG s.heap (o:={ cls:=.type "dict",data:=.dict #[] }) rfl));have I:∀b p,s.heap.get? b=Y p->(j.push { cls:=.type "list_iterator",data:=.fields #[.ref l,.int 0 0] }).get? b=Y p:=λb p e=>af _ (t.keeps _ _ (af _ e));have H:(j.push { cls:=.type "list_iterator",data:=.fields #[.ref l,.int 0 0] }).DictOf knd (zB s) []:=by obtain⟨O,W,X,U,r⟩:=c;exact⟨O,W,X,af _ (t.keeps _ _ U),r⟩
 have C:(j.push { cls:=.type "list_iterator",data:=.fields #[.ref l,.int 0 0] }).IsList l a:=⟨_,af _ (t.keeps _ _ d),rfl,n,rfl⟩
 exact Ku (knd:=knd) (s:={ s with heap:=j.push { cls:=.type "list_iterator",data:=.fields #[.ref l,.int 0 0] },toks:=y }) (show A.in1.in1.handled=Z from J) (aN g) s.heap (by
   cases q:s.heap.get? (zB s) with
   |none=>rfl
   |some z=>exact absurd (av q) (aZ _)) (by
   cases q:s.heap.get? j.objs.size with
   |none=>rfl
   |some z=>exact absurd (dX (av q) g) (aZ _)) a.toList v 0 [] rfl (S.keep λb p xs m e _=>I b p e) I ⟨_,aG _ rfl,rfl,rfl⟩ C H (by simpa using B)
  λV x G P=>⟨rfl,h V x G P⟩
end
end PySem
namespace L2
open PySem PySem.Spec PyProof.Rows
noncomputable def tL:Lp->Option (List (Key×fe))
 |[]=>Y []
 |.tuple [k,d]::r=>(tr k).bind λy=>(tL r).map ((y,d)::·)
 |_::_=>Z
def P7(b:List (Key×fe))(a:List (fe×fe)):List (fe×fe):=b.foldl (λa p=>Ct (jT p.1) p.2 a) a
noncomputable def sf(b:List (Key×V))(a:List (Key×V)):List (Key×V):=b.foldl (λa p=>ql a p.1 p.2) a
noncomputable def AY:Lp->Od
 |[.list ds]=>(tL ds).bind λa=>if a.length<=sizeLine then Y (.dict (P7 a [])) else Z
 |_=>Z
section
theorem CH(I:fD X pins σ H s):∀{j:Lp}{g:List (Key×fe)}{l:List V}{m:Lw},tL j=Y g->dt X.K H j l->f7 l m ->
  ∃(c:List (Key×V)) (ws:List (Key×Value)),mi (gL X.prog X.w) s.heap m ws/\KV c ws/\c.length=g.length/\∀a b,gA X.K H a b->gA X.K H (P7 g a) (sf c b)
 |[],_,_,_,e,i,r=>by cases e;rw[dt.fQ.mp i] at r;cases r;exact⟨[],[],.nil,.nil,rfl,λa b h=>h⟩
 |d::j,_,_,_,e,i,r=>by
  obtain⟨v,l,rfl,N,M⟩:=dt.fH.mp i;obtain⟨k,f,rfl⟩:∃k f,d=.tuple [k,f]:=by
   unfold tL at e;split at e
   ·rename_i z;cases z
   ·rename_i k f r z;injection z with o z2;exact⟨k,f,o⟩
   ·cases e
  obtain⟨y,Q,P⟩:=bind_some (show (tr k).bind (λy=>(tL j).map ((y,f)::·))=Y _ from e);obtain⟨g,O,rfl⟩:=ak.mp P;cases r with
  |cons B A=>
   obtain⟨c,ws,W,U,S,R⟩:=CH I O M A;obtain⟨T,ts,rfl,x,L⟩:=N.iF;cases B;obtain⟨v1,q,rfl,G,F⟩:=wJ L;obtain⟨J,n,E,_⟩:=I.tuple x;have:=jl Q;subst this;rw[kh G] at n;cases n with
   |@cons _ w1 _ _ D u=>
    cases u with
    |@cons _ p _ _ C t=>cases t;exact⟨(y,q)::c,(y,p)::ws,mi.cons E (qF D) W,Paired.cons ⟨rfl,C⟩ U,by rw[ay,ay,S],λa b h=>R _ _ (h.put F)⟩
theorem KV.Xc{c:List (Key×V)}{e:List (Key×Value)}(r:KV c e):∀{a:List (Key×V)}{b:List (Key×Value)},KV a b->KV (sf c a) (CG b e):=by
 induction r with
 |nil=>exact λh=>h
 |@cons p q c f h t g=>intro a b d;obtain⟨j,i⟩:=h;have:=d.put p.1 i;rw[show sf (p::c) a=sf c (ql a p.1 p.2) from rfl,show CG b (q::f)=CG (stored b q.1 q.2) f from rfl,<-j];exact g this
theorem zi:∀(b:List (Key×V)) (a:List (Key×V)),(sf b a).length<=a.length+b.length
 |[],a=>by simp[sf]
 |p::b,a=>by have d:=zi b (ql a p.1 p.2);have c:=qE a p.1 p.2;rw[show sf (p::b) a=sf b (ql a p.1 p.2) from rfl,ay];omega
theorem NL(K:X.calm=true):vi X (.type "dict") AY:=by
 intro q s σ H S U Q I r h;obtain⟨ds,c,i,e,k⟩:=h;unfold AY at e;split at e
 ·rename_i V;obtain⟨m,M,f⟩:=bind_some e;by_cases g:m.length<=sizeLine
  ·rw[ai g] at f;cases f;obtain⟨v,rfl,L⟩:=i6 i;obtain⟨u,rfl,B⟩:=wA r;obtain⟨p,T,rfl,z,D⟩:=fv.fY.mp L;cases B;obtain⟨E,A,⟨o,n,F,l,j,d⟩,_⟩:=I.list z;obtain⟨b,x,P,t,O,N⟩:=CH I M D A;have hw:x.length=m.length:=by rw[<-t.length,O]
   refine vG (knd:=gL X.prog X.w) (I.ok.hd K) F l d j (by simpa using P) (by rw[hw];exact g) λW y J C=>?_;have G:(sf b []).length<=sizeLine:=by have:=zi b [];simp at this;omega
   have R:=I.laid (a:=(zB s)) (o:=.dK (sf b [])) (t':=y) C (aH _) (JP G (aY.mpr (Ne.symm (aN I.big))) (KV.Xc t .nil) J);refine⟨.ref (zB s),_,R,rfl,k _ _ (lg I.fresh) (fv.nN.mpr ⟨_,rfl,.inl ⟨_,fX,?_⟩⟩)⟩;exact(N [] [] (gA.fQ.mpr rfl)).same (lg I.fresh)
  ·rw[ao g] at f;cases f
 ·cases e
end
end L2
namespace PySem
open Builtin
section
variable {prog:Program}
abbrev Xd(a:Program)(w:World)(A:Around)(R:Result->Shared->Prop):Fin->Shared->Prop:=λb c=>match b with
 |.done f=>R (.ok f) c
 |.again d=>d.quiet=true/\codeAny (model a w) A d R c
theorem vn{x:Value}{Q:Px}
  (j:∀h2 c,h2.get? (zB s)=Y (zl #[] c)->(∀b o,s.heap.get? b=Y o->h2.get? b=Y o) ->
   wpAny (model prog w) A.in1.in1 (Builtin.List.listExtendWith (.ref (zB s)) x .none) (Xd prog w A.in1 (wants (λr s₂=>r=.none/\Q (.ref (zB s)) s₂) E)) (λe s'=>wants (λr s₂=>r=.none/\Q (.ref (zB s)) s₂) E (.error e) s') { s with heap:=h2 }):
  wpAny (model prog w) A (call (.type "list") [x]) Q E s:=by
 refine callType_codes (Q₁:=λf d=>f=.ref (zB s)/\d={ s with heap:=s.heap.push { cls:=.type "list",data:=.seq #[] } }) F.called_list (F.typeCall_list_1 _) F.entry_list_init (code_list_new _ ⟨rfl,rfl⟩) λf d g=>?_;obtain⟨rfl,rfl⟩:=g;have a:(s.heap.push { cls:=.type "list",data:=.seq #[] }).get? (zB s)=Y { cls:=.type "list",data:=.seq #[] }:=aG _ rfl;refine⟨⟨_,a,rfl⟩,F.args_list_init_2 _ _,?_⟩;show wpAny _ A.in1.in1 (do
  let h <-Builtin.List.listItems (.ref (zB s))
  Builtin.List.listUpdate (.ref (zB s)) (λ_=>#[])
  letGo h.toList.reverse
  Builtin.List.listExtendWith (.ref (zB s)) x .none) _ _ _
 refine aa ?_;unfold Builtin.List.listItems;refine aa (eY a rfl (ar ?_));show wpAny _ A.in1.in1 (updateSeq (zB s) (λ_=>#[])>>=_) _ _ _;refine aa (cu a rfl (aa (wpAny_letGo ?_)));refine j _ _ (a6 (Obj.mapSeq λ_=>(#[]:Array Value)) a rfl) λb o e=>?_;have i:(zB s)≠b:=λz=>aZ _ (by have:=av e;rw[<-z] at this;exact this);exact(aP _ _ i).trans (af _ e)
variable {K:Type} [DecidableEq K] {knd:KeyKind prog w K}
theorem wZ{d:Addr}{a:List (K×Value)}{Q:Px} (X:A.handled=Z) (hS:(d==sysModules)=false) (hd:s.heap.DictOf knd d a) (W:a.length<=sizeLine)
  (h:∀h' tk its c,its.size=a.length->(∀(j:Nat) v,its[j]?=Y v->∃k x,a[j]?=Y (k,x)/\knd.is k v=true)->h'.get? (zB s)=Y (zl its c)->(∀b o,s.heap.get? b=Y o->h'.get? b=Y o)->Q (.ref (zB s)) { s with heap:=h',toks:=tk }):
  wpAny (model prog w) A (call (.type "list") [.ref d]) Q E s:=by
 obtain⟨r,t⟩:=hd.dictAt;have i:d<(zB s):=t.lt_size;refine vn λg c B M=>?_;have f:g.DictAt knd d a r:=t.at' λo e=>M _ _ e;have P:Shared.TypeIs { s with heap:=g } (.ref d) "dict":=f.dictOf.typeIs;have l:(zB s)<g.objs.size:=av B;unfold Builtin.List.listExtendWith;refine aa (cx P ?_);have V:Builtin.List.listSameRef (.ref (zB s)) (.ref d)=false:=by simp[Builtin.List.listSameRef,cF i]
 have U:(Value.type "dict"==Value.type "list")=false:=by decide
 have T:(Value.type "dict"==Value.type "tuple")=false:=by decide
 simp only[V,U,T,cT,bZ,dJ];refine aa (wpAny_pyIter_dict hS f ?_);refine aa (bf ?_);have p:Shared.TypeIs { s with heap:=g.push { cls:=.type "dict_keyiterator",data:=.fields #[.ref d,.int 0 0,.int a.length 0,.int r 0] } } (.ref d) "dict":=(f.push _).dictOf.typeIs;unfold Builtin.List.listLengthHint;refine aa (dN p F.slot_dict_len.lookup ?_);have R:splitId "dict.__len__"=Y ("dict","__len__"):=by kernel_rfl
 dsimp only;rw[R];dsimp only;refine aa (wpAny_isInstance p isSubtype_dict_dict ?_);rw[ao (by decide),ai (by decide)];refine aa (cx p ?_);show wpAny _ _ (pure false) _ _ _;refine ar ?_;rw[ai (by decide)];refine aa (eO (aa ?_));show wpAny _ _ (updateSeq (zB s) (·.push .none)>>=λ_=>updateSeq (zB s) (·.pop)) _ _ _;have y:(g.push { cls:=.type "dict_keyiterator",data:=.fields #[.ref d,.int 0 0,.int a.length 0,.int r 0] }).get? (zB s)=Y (zl #[] c):=af _ B;refine aa (cu y rfl ?_);have u:=a6 (Obj.mapSeq (·.push Value.none)) y rfl;refine cu (hz:=by seq_fits) u rfl ?_;have J:=a6 (Obj.mapSeq (·.pop)) u rfl;have q:∀b o,b≠(zB s)->(g.push { cls:=.type "dict_keyiterator",data:=.fields #[.ref d,.int 0 0,.int a.length 0,.int r 0] }).get? b=Y o->(((g.push { cls:=.type "dict_keyiterator",data:=.fields #[.ref d,.int 0 0,.int a.length 0,.int r 0] }).update (zB s) (Obj.mapSeq (·.push Value.none))).update (zB s) (Obj.mapSeq (·.pop))).get? b=Y o :=
  λb o N e=>(aP _ _ (Ne.symm N)).trans ((aP _ _ (Ne.symm N)).trans e)
 have H:(zB s)∉[g.objs.size,d]:=by
  intro m;rcases ag.mp m with e|m
  ·exact absurd e (aN l)
  ·exact absurd (by simpa using m) (cF i)
 have dI:d≠g.objs.size:=aN (dX i l);refine ar ⟨cJ b9 _,codeAny_extend_loopS (Walks.dictKeys (knd:=knd) (show A.in1.in1.handled=Z from X) g.objs.size d dI a r).toS W _ H _ a.length 0 _ _ _ rfl (dH _) ⟨?_,?_⟩ J (ItemsOf.nil _) λS L c' C I n=>?_⟩
 ·exact Heap.IsKeyIter.at ⟨_,aG _ rfl,rfl,rfl⟩ λo e=>q _ _ (Ne.symm (aN l)) e
 ·exact(f.push _).at' λo e=>q _ _ (aN i) e
 ·obtain⟨h',g',d',D,G⟩:=S;have eg:g'=s.gens:=C.gens;have ed:d'=s.drawn:=C.drawn;have eo:G=s.os:=C.os;subst eg ed eo;refine⟨rfl,h h' D L c' n.1 (λj v e=>n.2 j v e) I λb o e=>?_⟩;have O:b≠(zB s):=λz=>aZ _ (by have:=av e;rw[z] at this;exact this);have bI:b≠g.objs.size:=λz=>aZ g.objs.size (dX (by have:=av e;rw[z] at this;exact this) l);refine C.heap b o (by simp[O,bI]) (q b o O (af _ (M b o e)))
end
end PySem
namespace PySem
open Builtin
section
variable {prog:Program}
theorem NM{M:Model}{Q:Option Obj->Shared->Prop}(h:Q (s.heap.get? a) s):wpAny M A (loadIfAlive a) Q E s:=λΓ p b=>by show Sem.wp M Γ (Sem.loadIfAlive a _) _ _ p s;rw[Sem.wp_loadIfAlive];exact h
abbrev uG(h:Heap)(z c a T:Addr)(b:Bool):Prop:=h.get? z=Y { cls:=.type "zip",dict:=Z,data:=.fields #[rawInt T,.bool b,.bool false,.ref c,.ref a],slots:=#[] }
theorem vo{z e d T:Addr}{b:Bool}{g:Obj}{Q:Bool->Shared->Prop} (a:uG s.heap z e d T b) (h:s.heap.get? T=Y g)
  (k:∀h',uG h' z e d T true->Heap.SameBut z s.heap h'->Q false { s with heap:=h' }):wpAny (model prog w) A (Builtin.SmallTypes.ownedTupleIsFree (.ref z)) Q E s:=by
 unfold Builtin.SmallTypes.ownedTupleIsFree;refine aa (bV a rfl (x:=rawInt T) rfl ?_);show wpAny _ _ (loadIfAlive ((T:Int)).toNat>>=_) _ _ _;refine aa (NM ?_);rw[show ((T:Int)).toNat=T from dk T,h];rw[ao (by simp)];refine aa (bV a rfl (x:=.bool b) rfl ?_);cases b with
 |true=>rw[ao (by decide)];exact ar (k _ a (Heap.SameBut.refl _ _))
 |false=>rw[ai (by decide)];refine aa (wpAny_setField_rec a (by simp) λh' c f=>ar (k h' c f))
theorem EV{z j I T h g n m:Addr}{b:Bool}{M:Obj}{q p:Nat}{K J:Array Value}{x y:Value}{Q:Px} (D:ZipApart z j I h g n m) (B:uG s.heap z j I T b) (W:s.heap.get? T=Y M) (C:IsPair s.heap j (.ref h) (.ref g))
  (S:s.heap.IsListIter h n q) (R:s.heap.IsListIter g m p) (O:s.heap.IsList n K) (N:s.heap.IsList m J) (V:K[q]?=Y x) (U:J[p]?=Y y)
  (k:∀h',uG h' z j I T true->h'.IsListIter h n (q+1)->h'.IsListIter g m (p+1)->IsPair h' (zB s) x y->(∀c o,c≠z->c≠h->c≠g->s.heap.get? c=Y o->h'.get? c=Y o)->Q (.ref (zB s)) { s with heap:=h' }):
  wpAny (model prog w) A (Builtin.«zip.__next__» ⟨[.ref z],[]⟩) (λfin s'=>∃v,fin=.done (.ret v)/\Q v s') E s:=by
 show wpAny _ _ (field (.ref z) 2>>=_) _ _ _;refine aa (bV B rfl (x:=.bool false) rfl ?_);show wpAny _ _ (field (.ref z) 3>>=_) _ _ _;refine aa (bV B rfl (x:=.ref j) rfl (aa (eY C rfl ?_)));show wpAny _ _ (Builtin.SmallTypes.ownedTupleIsFree (.ref z)>>=_) _ _ _;refine aa (vo B W λh1 u a=>?_);rw[ao aR];refine aa ?_;rw[<-Array.forIn_toList];simp only[dO,d3];refine aa (aa (bf ?_));show wpAny _ _ (Builtin.SmallTypes.nextOf (.ref h)>>=_) _ _ _;refine aa (dm (S.extBut a.extBut D.i1z) (O.extBut a.extBut D.l1z) V λX t d=>ar (ar ?_));dsimp only;refine aa (aa (bf ?_));show wpAny _ _ (Builtin.SmallTypes.nextOf (.ref g)>>=_) _ _ _;refine aa (dm ((R.extBut a.extBut D.i2z).extBut d.extBut D.i12.symm) ((N.extBut a.extBut D.l2z).extBut d.extBut D.l2i1) U λi r f=>ar (ar (ar ?_)));have L:i.objs.size=(zB s):=by rw[f.1,d.1,a.1]
 have P:∀c o,c≠z->c≠h->c≠g->s.heap.get? c=Y o->i.get? c=Y o:=λc o H G F e=>f.extBut _ _ F (d.extBut _ _ G (a.extBut _ _ H e));refine aa (wpAny_newTuple (ar ⟨_,rfl,?_⟩) (by show 2<=sizeLine;decide));show Q (.ref i.objs.size) _;rw[L];have l:∀c o,i.get? c=Y o->(i.push { cls:=.type "tuple",data:=.seq #[x,y] }).get? c=Y o:=λc o e=>af _ e;refine k _ (l _ _ (f.extBut _ _ D.i2z.symm (d.extBut _ _ D.i1z.symm u))) ((t.extBut f.extBut D.i12).at λo e=>l _ _ e) (r.at λo e=>l _ _ e) (by rw[<-L];exact aG _ rfl) λc o H G F e=>l _ _ (P c o H G F e)
theorem EW{z i K T h g p n:Addr}{b:Bool}{L:Obj}{t r:Nat}{l j:Array Value}{Q:Fin->Shared->Prop} (I:A.handled=Z) (D:ZipApart z i K h g p n) (u:uG s.heap z i K T b) (S:s.heap.get? T=Y L) (B:IsPair s.heap i (.ref h) (.ref g))
  (H:s.heap.IsListIter h p t) (N:s.heap.IsListIter g n r) (G:s.heap.IsList p l) (M:s.heap.IsList n j) (f:l[t]?=Z\/j[r]?=Z)
  (k:∀h' e,(∀c o,c≠z->c≠h->c≠g->s.heap.get? c=Y o->h'.get? c=Y o)->(∃o,h'.get? e=Y o/\o.cls=.type "StopIteration")->E (.ref e) { s with heap:=h' }):
  wpAny (model prog w) A (Builtin.«zip.__next__» ⟨[.ref z],[]⟩) Q E s:=by
 show wpAny _ _ (field (.ref z) 2>>=_) _ _ _;refine aa (bV u rfl (x:=.bool false) rfl ?_);show wpAny _ _ (field (.ref z) 3>>=_) _ _ _;refine aa (bV u rfl (x:=.ref i) rfl (aa (eY B rfl ?_)));show wpAny _ _ (Builtin.SmallTypes.ownedTupleIsFree (.ref z)>>=_) _ _ _;refine aa (vo u S λh1 P a=>?_);rw[ao aR];refine aa ?_;rw[<-Array.forIn_toList];simp only[dO,d3];refine aa (aa (bf ?_));show wpAny _ _ (Builtin.SmallTypes.nextOf (.ref h)>>=_) _ _ _;cases v:l[t]? with
 |none=>exact aa (wpAny_nextOf_list_end I (H.extBut a.extBut D.i1z) (G.extBut a.extBut D.l1z) v λJ e d y=>k J e (λc o F C _ q=>d _ _ C (a.extBut _ _ F q)) y)
 |some x=>have R:j[r]?=Z:=f.resolve_left (by rw[v];exact λq=>nomatch q);refine aa (dm (H.extBut a.extBut D.i1z) (G.extBut a.extBut D.l1z) v λJ O d=>ar (ar ?_));dsimp only;refine aa (aa (bf ?_));show wpAny _ _ (Builtin.SmallTypes.nextOf (.ref g)>>=_) _ _ _;exact aa (wpAny_nextOf_list_end I ((N.extBut a.extBut D.i2z).extBut d.extBut D.i12.symm) ((M.extBut a.extBut D.l2z).extBut d.extBut D.l2i1) R λU e m y=>k U e (λc o F C V q=>m _ _ V (d.extBut _ _ C (a.extBut _ _ F q))) y)
def AZ(S:Addr)(h:Heap)(c b a:Array Value):Prop:=∀(j:Nat) v,a[j]?=Y v->∃T x y,v=.ref T/\c[j]?=Y x/\b[j]?=Y y/\IsPair h T x y/\S<T
theorem A0{S z TI TO T E C P O:Addr}{l r:Array Value}(g:Heap)(hh:A.in1.handled=Z)(D:ZipApart z TI TO E C P O)(B:g.get? S=Z/\g.get? z=Z/\g.get? E=Z/\g.get? C=Z)(X:(∃o,g.get? P=Y o)/\∃o,g.get? O=Y o)(hn:min l.size r.size<=sizeLine):
    ∀(m i:Nat) (s:Shared) (acc:Array Value) (c:Nat) (b:Bool),min l.size r.size - i=m->i<=min l.size r.size->acc.size=i->(∃K,s.heap.get? T=Y K/\∃v n,K.cls=.type "tuple"/\K.data=.seq v n)->uG s.heap z TI TO T b->IsPair s.heap TI (.ref E) (.ref C)->s.heap.IsListIter E P i->s.heap.IsListIter C O i->s.heap.IsList P l->s.heap.IsList O r ->
      s.heap.get? S=Y (zl acc c)->AZ S s.heap l r acc->(∀b o,g.get? b=Y o->s.heap.get? b=Y o) ->
      (∀u t c',t.size=min l.size r.size->AZ S u l r t->u.get? S=Y (zl t c')->(∀b o,g.get? b=Y o->u.get? b=Y o)->R (.ok (.ret .none)) { s with heap:=u }) ->
      codeAny (model prog w) A (.builtin "list.extend.loop" ⟨[.ref S,.ref z,.none],[]⟩) R s
:=by
  intro m;induction m using Nat.strongRecOn with
  |_ m ih=>
    rintro i s acc c b hm hi ha ⟨K,ht,tv,tn,tc,td⟩ V G j1 j2 m1 m2 hS W Q hR;have tz:s.TypeIs (.ref z) "zip":=⟨_,V,rfl⟩
    refine cq F.entry_extend_loop ?_;rw[b6 b9 _];show wpAny _ A.in1 (pyNext (.ref z)>>=_) _ _ s;refine aa ?_;unfold pyNext;have nz:∀a o v n,s.heap.get? a=Y o->o.data=.seq v n->a≠z:=λa o v n f h q=>by subst q;rw[V] at f;cases f;cases h
    have M:∀a o v n,s.heap.get? a=Y o->o.data=.seq v n->a≠E:=λa o v n f h q=>by subst q;obtain⟨o',p,_,e4⟩:=j1;rw[f] at p;cases p;rw[h] at e4;cases e4
    have L:∀a o v n,s.heap.get? a=Y o->o.data=.seq v n->a≠C:=λa o v n f h q=>by subst q;obtain⟨o',p,_,e4⟩:=j2;rw[f] at p;cases p;rw[h] at e4;cases e4
    by_cases yh:i<min l.size r.size
    · obtain⟨x,hx⟩:∃x,l[i]?=Y x:=⟨l[i]'(by omega),by simp⟩
      obtain⟨y,hy⟩:∃y,r[i]?=Y y:=⟨r[i]'(by omega),by simp⟩
      refine aa (wpAny_attempt (cD (name:=zZ "__next__") tz dP
        (dA dP tz F.entry_zip_next (EV D V ht G j1 j2 m1 m2 hx hy λu Xe Xf Xg Xb U=>ar ?_) (F.args_zip_next_1 _))))
      have d:∀a o v n,s.heap.get? a=Y o->o.data=.seq v n->u.get? a=Y o:=λa o v n f h=>U a o (nz a o v n f h) (M a o v n f h) (L a o v n f h) f;have YK:=d _ _ _ _ hS rfl;show wpAny _ A.in1 (updateSeq S (·.push (.ref (zB s)))>>=_) _ _ _;refine aa (cu YK rfl ?_ (by rw[ha];omega));have I:=a6 (Obj.mapSeq (·.push (Value.ref (zB s)))) YK rfl;have k:∀a o,a≠S->u.get? a=Y o->(u.update S (Obj.mapSeq (·.push (Value.ref (zB s))))).get? a=Y o:=λa o q e=>(aP _ _ (Ne.symm q)).trans e;refine ar ⟨cJ b9 _,?_⟩;have H:∀a o,s.heap.get? a=Y o->o.cls≠.type "list"->a≠S:=λa o f h q=>by subst q;rw[hS] at f;cases f;exact h rfl
      have Xh:P≠S:=λq=>by obtain⟨o,e⟩:=X.1;rw[q,B.1] at e;cases e
      have Xi:O≠S:=λq=>by obtain⟨o,e⟩:=X.2;rw[q,B.1] at e;cases e
      have zS:z≠S:=H z _ V (by intro q;injection q with q;revert q;decide);have TS:T≠S:=H T _ ht (by rw[tc];intro q;injection q with q;revert q;decide);have Xj:TI≠S:=H TI _ G (by intro q;injection q with q;revert q;decide);have i1S:E≠S:=by obtain⟨o,f,h,p⟩:=id j1;exact H E o f (by rw[h];intro q;injection q with q;revert q;decide)
      have i2S:C≠S:=by obtain⟨o,f,h,p⟩:=id j2;exact H C o f (by rw[h];intro q;injection q with q;revert q;decide)
      have N:(zB s)≠S:=λq=>by have:=av hS;rw[<-q] at this;exact aZ _ this
      refine ih (min l.size r.size - (i+1)) (by omega) (i+1) _ (acc.push (.ref (zB s))) _ true rfl yh (by rw[Array.size_push,ha]) ⟨K,k _ _ TS (d _ _ _ _ ht td),tv,tn,tc,td⟩ (k _ _ zS Xe) (k _ _ Xj (d _ _ _ _ G rfl)) (Xf.at λo e=>k _ _ i1S e) (Xg.at λo e=>k _ _ i2S e)
        ?_ ?_ I ?_ (λa o e=>?_) λh2 t c' q1 q2 q3 q4=>hR h2 t c' q1 q2 q3 q4
      · obtain⟨o,f,h,n,p⟩:=m1
        exact⟨o,k _ _ Xh (d _ _ _ _ f p),h,n,p⟩
      · obtain⟨o,f,h,n,p⟩:=m2
        exact⟨o,k _ _ Xi (d _ _ _ _ f p),h,n,p⟩
      · intro j v e
        by_cases hj:j<acc.size
        · have e':acc[j]?=Y v:=by rw[dU] at e;rw[ao (aN hj)] at e;exact e
          obtain⟨T',x',y',r1,r2,r3,r4,r5⟩:=W j v e';exact⟨T',x',y',r1,r2,r3,k _ _ (H _ _ r4 (by intro q;injection q with q;revert q;decide)) (d _ _ _ _ r4 rfl),r5⟩
        · have hj2:j=acc.size:=by
            by_cases q:j=acc.size
            · exact q
            · rw[dU,ao q] at e
              have:acc[j]?=Z:=by simp;omega
              rw[this] at e;cases e
          subst hj2;rw[dU,ai rfl] at e;cases e;rw[ha];exact⟨_,x,y,rfl,hx,hy,k _ _ N Xb,av hS⟩
      · have a1:a≠S:=λq=>by rw[q,B.1] at e;cases e
        have a2:a≠z:=λq=>by rw[q,B.2.1] at e;cases e
        have a3:a≠E:=λq=>by rw[q,B.2.2.1] at e;cases e
        have a4:a≠C:=λq=>by rw[q,B.2.2.2] at e;cases e
        exact k a o a1 (U a o a2 a3 a4 (Q a o e))
    · have J:l[i]?=Z\/r[i]?=Z:=by
        by_cases q:l.size<=i
        · exact .inl (by simp;omega)
        · exact .inr (by simp;omega)
      refine aa (wpAny_attempt (cD (name:=zZ "__next__") tz dP
        (dA dP tz F.entry_zip_next (EW hh D V ht G j1 j2 m1 m2 J λu e U he=>?_) (F.args_zip_next_1 _))))
      obtain⟨o,ho,hc⟩:=he;refine aa (wpAny_isInstance (T:="StopIteration") (b:=true) ⟨o,ho,hc⟩ isSubtype_stop (ar ?_));have d:∀a o v n,s.heap.get? a=Y o->o.data=.seq v n->u.get? a=Y o:=λa o v n f h=>U a o (nz a o v n f h) (M a o v n f h) (L a o v n f h) f;show wpAny _ A.in1 (ret Value.none) _ _ _;refine ar (hR u acc c (by omega) (λj v e=>?_) (d _ _ _ _ hS rfl) λa o e=>?_)
      · obtain⟨T',x',y',r1,r2,r3,r4,r5⟩:=W j v e
        exact⟨T',x',y',r1,r2,r3,d _ _ _ _ r4 rfl,r5⟩
      · have a2:a≠z:=λq=>by rw[q,B.2.1] at e;cases e
        have a3:a≠E:=λq=>by rw[q,B.2.2.1] at e;cases e
        have a4:a≠C:=λq=>by rw[q,B.2.2.2] at e;cases e
        exact U a o a2 a3 a4 (Q a o e)
theorem yq{S z J I E B O N:Addr}{g k:Array Value}{a b:Value}{c:Nat} (d:Heap) (hh:A.in1.handled=Z) (D:ZipApart z J I E B O N) (t:d.get? S=Z/\d.get? z=Z/\d.get? E=Z/\d.get? B=Z) (nTO:d.get? I=Z) (G:(∃o,d.get? O=Y o)/\∃o,d.get? N=Y o) (hn:min g.size k.size<=sizeLine)
  (hz:IsZip s.heap z J I .none) (l:IsPair s.heap J (.ref E) (.ref B)) (H:IsPair s.heap I a b) (j1:s.heap.IsListIter E O 0) (j2:s.heap.IsListIter B N 0) (m1:s.heap.IsList O g) (m2:s.heap.IsList N k)
  (U:s.heap.get? S=Y (zl #[] c)) (kp0:∀b o,d.get? b=Y o->s.heap.get? b=Y o)
  (hR:∀h' its c',its.size=min g.size k.size->AZ S h' g k its->h'.get? S=Y (zl its c')->(∀b o,d.get? b=Y o->h'.get? b=Y o)->R (.ok (.ret .none)) { s with heap:=h' }):
  codeAny (model prog w) A (.builtin "list.extend.loop" ⟨[.ref S,.ref z,.none],[]⟩) R s:=by
 refine cq F.entry_extend_loop ?_;rw[b6 b9 _];show wpAny _ A.in1 (pyNext (.ref z)>>=_) _ _ s;have M:∀a o,s.heap.get? a=Y o->o.cls≠.type "list"->a≠S:=λa o i m q=>by subst q;rw[U] at i;cases i;exact m rfl
 have Xh:O≠S:=λq=>by obtain⟨o,e⟩:=G.1;rw[q,t.1] at e;cases e
 have Xi:N≠S:=λq=>by obtain⟨o,e⟩:=G.2;rw[q,t.1] at e;cases e
 have X:z≠S:=M z _ hz (by intro q;injection q with q;revert q;decide);have Xj:J≠S:=M J _ l (by intro q;injection q with q;revert q;decide);have W:I≠S:=M I _ H (by intro q;injection q with q;revert q;decide);have C:E≠S:=by obtain⟨o,i,m,V⟩:=id j1;exact M E o i (by rw[m];intro q;injection q with q;revert q;decide)
 have u:B≠S:=by obtain⟨o,i,m,V⟩:=id j2;exact M B o i (by rw[m];intro q;injection q with q;revert q;decide)
 have r:∀h':Heap,(∀c o,c≠z->c≠I->c≠E->c≠B->s.heap.get? c=Y o->h'.get? c=Y o)->∀a o,d.get? a=Y o->h'.get? a=Y o:=λh' h a o e=>
  h a o (λq=>by rw[q,t.2.1] at e;cases e) (λq=>by rw[q,nTO] at e;cases e) (λq=>by rw[q,t.2.2.1] at e;cases e) (λq=>by rw[q,t.2.2.2] at e;cases e) (kp0 a o e)
 by_cases yh:0<min g.size k.size
 ·obtain⟨x,hx⟩:∃x,g[0]?=Y x:=⟨g[0]'(by omega),by simp⟩
  obtain⟨y,hy⟩:∃y,k[0]?=Y y:=⟨k[0]'(by omega),by simp⟩
  refine aa (wpAny_pyNext_zip_item D hz l H j1 j2 m1 m2 hx hy λh' Xe aaa Xf Xg P sz h=>?_);have Q:h'.get? S=Y (zl #[] c):=h S _ (Ne.symm X) (Ne.symm W) (Ne.symm C) (Ne.symm u) U;show wpAny _ A.in1 (updateSeq S (·.push (.ref (zB s)))>>=_) _ _ _;refine aa (cu Q rfl ?_);have K:=a6 (Obj.mapSeq (·.push (Value.ref (zB s)))) Q rfl;have f:∀a o,a≠S->h'.get? a=Y o->(h'.update S (Obj.mapSeq (·.push (Value.ref (zB s))))).get? a=Y o:=λa o q e=>(aP _ _ (Ne.symm q)).trans e;have p:(zB s)≠S:=λq=>by have:=av U;rw[<-q] at this;exact aZ _ this
  refine ar ⟨cJ b9 _,A0 (T:=(zB s)) d hh D t G hn (min g.size k.size - 1) 1 _ #[.ref (zB s)] _ false rfl yh rfl ⟨_,f _ _ p P,_,_,rfl,rfl⟩ (f _ _ X Xe) (f _ _ Xj (h J _ D.TIz D.TITO D.TIi1 D.TIi2 l)) (Xf.at λo e=>f _ _ C e) (Xg.at λo e=>f _ _ u e) ?_ ?_ K ?_ (λa o e=>?_) λh2 its c' q1 q2 q3 q4=>hR h2 its c' q1 q2 q3 q4⟩
  ·obtain⟨o,i,m,n,V⟩:=m1;exact⟨o,f _ _ Xh (h _ _ D.l1z D.l1TO D.l1i1 D.l1i2 i),m,n,V⟩
  ·obtain⟨o,i,m,n,V⟩:=m2;exact⟨o,f _ _ Xi (h _ _ D.l2z D.l2TO D.l2i1 D.l2i2 i),m,n,V⟩
  ·intro j v e;cases j with
   |zero=>cases e;exact⟨_,x,y,rfl,hx,hy,f _ _ p P,av U⟩
   |succ j=>simp at e
  ·exact f a o (λq=>by rw[q,t.1] at e;cases e) (r h' h a o e)
 ·have L:g[0]?=Z\/k[0]?=Z:=by
   by_cases q:g.size<=0
   ·exact .inl (cI (by omega))
   ·exact .inr (cI (by omega))
  refine aa (wpAny_pyNext_zip_end hh D hz l H j1 j2 m1 m2 L λh' h=>?_);show wpAny _ A.in1 (ret Value.none) _ _ _;exact ar (hR h' #[] c (by show 0=_;omega) (λj v e=>by simp at e) (h S _ (Ne.symm X) (Ne.symm W) (Ne.symm C) (Ne.symm u) U) (r h' h))
theorem A1:typeLookup (.type "zip") "__len__"=pure Z:=by rw[eU,dv];kernel_rfl
theorem yr:typeLookup (.type "zip") "__length_hint__"=pure Z:=by rw[eU,dv];kernel_rfl
theorem yt{z u k t r p n:Addr}{m l:Array Value}{a b:Value}{Q:Px} (d:Heap) (hh:A.handled=Z) (D:ZipApart z u k t r p n) (V:d.get? z=Z/\d.get? t=Z/\d.get? r=Z) (y:d.get? k=Z) (C:(∃o,d.get? p=Y o)/\∃o,d.get? n=Y o) (hn:min m.size l.size<=sizeLine) (I:d.objs.size<=(zB s))
  (hz:IsZip s.heap z u k .none) (G:IsPair s.heap u (.ref t) (.ref r)) (F:IsPair s.heap k a b) (j1:s.heap.IsListIter t p 0) (j2:s.heap.IsListIter r n 0) (X:s.heap.IsList p m) (W:s.heap.IsList n l) (B:∀b o,d.get? b=Y o->s.heap.get? b=Y o)
  (h:∀h' its c,its.size=min m.size l.size->AZ (zB s) h' m l its->h'.get? (zB s)=Y (zl its c)->(∀b o,d.get? b=Y o->h'.get? b=Y o)->Q (.ref (zB s)) { s with heap:=h' }):
  wpAny (model prog w) A (call (.type "list") [.ref z]) Q E s:=by
 have v:z<(zB s):=av hz;refine vn λH c j K=>?_;have g:IsZip H z u k .none:=K _ _ hz;have x:Shared.TypeIs { s with heap:=H } (.ref z) "zip":=⟨_,g,rfl⟩
 unfold Builtin.List.listExtendWith;refine aa (cx x ?_);have U:Builtin.List.listSameRef (.ref (zB s)) (.ref z)=false:=by simp[Builtin.List.listSameRef,cF v]
 have T:(Value.type "zip"==Value.type "list")=false:=by decide
 have S:(Value.type "zip"==Value.type "tuple")=false:=by decide
 simp only[U,T,S,cT,bZ,dJ];refine aa (wpAny_pyIter_zip g (aa (bf ?_)));unfold Builtin.List.listLengthHint;refine aa (dN x A1 ?_);dsimp only;rw[ao (by decide),ao (by decide)];refine aa (dN x yr ?_);show wpAny _ _ (pure true) _ _ _;refine ar ?_;rw[ai (by decide)];refine aa (eO (aa ?_));show wpAny _ _ (updateSeq (zB s) (·.push .none)>>=λ_=>updateSeq (zB s) (·.pop)) _ _ _;refine aa (cu j rfl ?_);have i:=a6 (Obj.mapSeq (·.push Value.none)) j rfl;refine cu (hz:=by seq_fits) i rfl ?_;have J:=a6 (Obj.mapSeq (·.pop)) i rfl;have f:∀b o,s.heap.get? b=Y o->((H.update (zB s) (Obj.mapSeq (·.push Value.none))).update (zB s) (Obj.mapSeq (·.pop))).get? b=Y o :=
  λb o e=>by
   have L:(zB s)≠b:=λq=>by have:=av e;rw[<-q] at this;exact aZ _ this
   exact(aP _ _ L).trans ((aP _ _ L).trans (K b o e))
 have R:d.get? (zB s)=Z:=by
  cases q:d.get? (zB s) with
  |none=>rfl
  |some o=>have:=av q;exact absurd (aI this I) (aZ _)
 refine ar ⟨cJ b9 _,yq d (show A.in1.in1.handled=Z from hh) D ⟨R,V⟩ y C hn (f _ _ hz) (f _ _ G) (f _ _ F) (j1.at λo e=>f _ _ e) (j2.at λo e=>f _ _ e) (X.at λo e=>f _ _ e) (W.at λo e=>f _ _ e) J (λb o e=>f b o (B b o e)) λh' its c' P O N M=>⟨rfl,h h' its c' P O N M⟩⟩
end
end PySem
namespace L2
open PySem PySem.Spec PyProof.Rows PySem.Builtin PySem.Builtin.Str
section
variable {h':Heap}
theorem fD.NN{t':Nat}{i1 i2:Addr}(I:fD X pins σ H s)(k:∀b o,b≠i1->b≠i2->s.heap.get? b=Y o->h'.get? b=Y o)(y:qA X pins H i1)(x:qA X pins H i2):fD X pins σ H { s with heap:=h',toks:=t' }:=by
 obtain⟨t,g,_,i,D,l⟩:=y;obtain⟨p,f,_,h,C,j⟩:=x;have d:∀b u,H b=Y u->b≠i1/\b≠i2:=λb u e=>⟨(λz=>by rw[z,t] at e;cases e),(λz=>by rw[z,p] at e;cases e)⟩
 have a:∀b,b∉[i1,i2]->b≠i1/\b≠i2:=λb hb=>⟨λz=>hb (by simp[z]),λz=>hb (by simp[z])⟩
 refine I.step (g':=s.gens) (d':=s.drawn) (ch:=[i1,i2]) ?_ (λb o _ _ hc e _=>k b o (a b hc).1 (a b hc).2 e) (λb o _ _ hc e _=>⟨o.slots,k b o (a b hc).1 (a b hc).2 e⟩) (λ_ _ _ _ n=>n)
  (λb o hc e=>⟨o,k b o (a b hc).1 (a b hc).2 e⟩) (λ_ _ e=>e) (λ_ _ _ e=>e) (λb ps e=>⟨#[],by rw[e];simp⟩) ?_ ?_ I.bare
 ·intro b hb;rcases ag.mp hb with e|hb
  ·subst e;exact⟨i,g,D,l⟩
  ·have e:b=i2:=by simpa using hb
   subst e;exact⟨h,f,C,j⟩
 ·rintro m ⟨o,A,B,w,r⟩;exact⟨o,A,B,k _ o (Ne.symm g) (Ne.symm f) w,r⟩
 ·intro b u e;refine(I.iY b u e).uq (λc v hc q=>?_) (λ_ q=>q) λ_ _ q=>q;rcases hc with z|z
  ·rw[z] at q ⊢;exact k _ _ (d b u e).1 (d b u e).2 q
  ·exact k _ _ (d c _ z).1 (d c _ z).2 q
end
def Xk(K:Fg)(l:Addr):It where
 go:=λi H=>∃a x,o8 K H l a/\a[i]?=Y x
 S5:=λi H y c=>∃T x,y=.ref T/\H T=Z/\(∀b,o8 K H l b->b[i]?=Y x)/\c=upd H T (.tup [.int (i:Nat),x])
 stop:=λi H=>∃a,o8 K H l a/\a.length<=i
theorem Ii{P:Program}{K:Fg}{G:Lx}{kt:Nat}{tp:Pos}(l n g:Addr)(C:n≠g):HF P w K (.Tuple G kt tp) (Xk K l) [n,g] n (λi h=>(∃f,IsEnum h n g (i:Nat) f)/\h.IsListIter g l i) where
 mem:=by simp
 obj:=λi h j b hb=>by
  obtain⟨⟨f,m⟩,y⟩:=j;rcases ag.mp hb with e|hb
  ·subst e;exact⟨_,m,λv z=>by cases z⟩
  ·have e:b=g:=by simpa using hb
   subst e;obtain⟨o,e,c,d⟩:=y;exact⟨o,e,λv z=>by rw[d] at z;cases z⟩
 keep:=λi h h' j k=>⟨let ⟨f,m⟩:=j.1;⟨f,k n (by simp) _ m⟩,j.2.at λo e=>k g (by simp) o e⟩
 item:=by
  intro X U hw V hc i r s σ H E I R j Q;subst U hw V;obtain⟨⟨f,m⟩,y⟩:=j;obtain⟨xs,x,J,N⟩:=Q;obtain⟨M,L,p,hz⟩:=I.list J;obtain⟨u,hu,ru⟩:=L.get N;refine wpAny_pyNext_enum_item m y p.isList (x:=u) (by simpa using hu) C λh1 S O B hsz kp=>⟨_,rfl,?_⟩
  refine wpAny_letOwnedTupleGo_enum S λh2 T W=>?_;have F:n<(zB s):=av m;have A:g<(zB s):=by obtain⟨o,e,_⟩:=y;exact av e
  have I1:=I.laid (a:=(zB s)) (o:=.tup [.int (i:Nat),x]) (t':=s.toks+1) (h':=s.heap.push { cls:=.type "tuple",data:=.seq #[.int i s.toks,u] }) (λ_ _ q=>af _ q) (aH _) ⟨by show 2<=sizeLine;decide,[.int i s.toks,u],.cons ⟨_,rfl⟩ (.cons ru .nil),_,aG _ rfl,rfl,0,rfl⟩;have t:∀b∈[n,g],qA X r (upd H (zB s) (.tup [.int (i:Nat),x])) b:=λb hb=>by
   obtain⟨g1,g2⟩:=R b hb;refine⟨?_,g2⟩;have:b≠(zB s):=by
    rcases ag.mp hb with e|hb
    ·rw[e];exact aN F
    ·rw[show b=g by simpa using hb];exact aN A
   rw[fK this];exact g1
  have I2:=I1.NN (h':=h2) (t':=s.toks+1) (i1:=n) (i2:=g) (λb o b1 b2 e=>(W.2 b b1).trans (by
   by_cases hb:b=(zB s)
   ·subst hb;have e':Y o=Y { cls:=.type "tuple",data:=.seq #[.int i s.toks,u] }:=e.symm.trans (aG _ rfl);cases e';exact B
   ·have D:=av e;rw[dY] at D;have aab:b<(zB s):=Nat.lt_of_le_of_ne (Nat.le_of_lt_succ D) hb;have q:s.heap.get? b=Y o:=(Heap.get?_push_ne _ _ _ hb).symm.trans e;exact kp b o b1 b2 q)) (t n (by simp)) (t g (by simp))
  exact⟨.ref (zB s),_,I2,rfl,⟨_,x,rfl,I.fresh,λys hy=>by rw[I.B6 hy J];exact N,rfl⟩,⟨⟨u,T⟩,O.at λo e=>(W.2 _ (Ne.symm C)).trans e⟩,λb hb=>(t b hb).1⟩
 done:=by intro X U hw V hc i r s σ H E I R j Q;subst U hw V;obtain⟨⟨f,m⟩,y⟩:=j;obtain⟨xs,J,N⟩:=Q;obtain⟨M,L,p,hz⟩:=I.list J;obtain⟨f0,f1,f2,f3,f4,f5⟩:=R g (by simp);have hl:=L.length;exact wpAny_pyNext_enum_end (I.ok.hd hc) m y p.isList (by simp;omega) λh' eb=>⟨rfl,I.turned (t':=s.toks) (λb o hb e=>eb b o hb e) f0 f1 f3 f4 f5⟩
 self:=λ_ _ _ _ _ j h=>let ⟨f,m⟩:=j.1;wpAny_pyIter_enum m h
section
variable {a b c o:Expr}{fa fb fc:c5->Od}{p2 p apos gQ:Pos}
def Uy(K:Fg)(c:TE):TI:=λσ H R=>c σ H λv a=>∃l b,v=.ref l/\o8 K a l b/\R (Xk K l) a
theorem NO{f:Lx}{t:Nat}{n:Pos}{k:TE}(B:Gl X "enumerate")(A:X.mg "enumerate"=Z)(C:PE X e k)(m:starEach [e] X.env=[(false,eval e X.env)]:=by rfl):PI X (.Tuple f t n) (.Call (.Name "enumerate" p) [e] [] pos) (Uy X.K k):=by
 intro a s σ H R I h;refine bx (qy I B A (by rfl) ?_);refine bG ?_ (by rw[m];rfl) (by rfl);rw[m];refine bL (iP (@C a s σ H _ I h) λv c ⟨x,j,g,o,l,J,F,y,q⟩=>bQ ?_);subst F;cases o;obtain⟨w,M,r,N⟩:=g.list y;refine call_enumerate_list r.isList λD d i L u=>?_;refine wpAny_pyIter_enum d ?_;have G:fD X a σ j { c with heap:=D }:=g.kept (t':=c.toks) u;have E:∀b,(zB c)<=b->qA X a j b:=λb hb=>g.HE hb (g.iY.fresh hb);exact⟨_,[(zB c)+1,(zB c)],_,_,j,rfl,G,Ii l _ _ (cF (dy _)),⟨⟨_,d⟩,i⟩,λb hb=>E b (by
  rcases ag.mp hb with z|hb
  ·rw[z];exact Nat.le_succ _
  ·rw[show b=(zB c) by simpa using hb];exact aH _),q⟩
noncomputable def qI(a:Lp):Lp:=a.zipIdx.map λx=>.tuple [.int x.2,x.1]
noncomputable def w8(f:c5->Od):c5->Option Lp:=λρ=>(f ρ).bind λd=>match d with | .list ds=>Y (qI ds)|_=>Z
theorem Ij(h:(qI ds)[i]?=Y d):∃x,ds[i]?=Y x/\d=.tuple [.int (i:Nat),x]:=by
 unfold qI at h;rw[aJ,List.getElem?_zipIdx] at h;cases q:ds[i]? with
 |none=>rw[q] at h;cases h
 |some x=>rw[q] at h;simp at h;exact⟨x,rfl,h.symm⟩
theorem CI{K:Fg}{c:Hp}{l:Addr}(b:o8 K c l vs)(j:dt K c ds vs):wU K (Xk K l) (qI ds) c:=λu a=>by
 have p:(qI ds).length=ds.length:=by simp[qI]
 refine⟨⟨vs,a.seq b,by rw[p,j.length];exact aH _⟩,λi d q=>?_⟩;obtain⟨x,r,rfl⟩:=Ij q;obtain⟨v,h,s⟩:=j.get r;refine⟨⟨vs,v,a.seq b,h⟩,λy t ⟨T,z,o,f,n,m⟩=>?_⟩;have e:=n vs (a.seq b);rw[h] at e;cases e;subst o m;refine⟨lg f,λw k g=>fv.nM.mpr ⟨T,_,rfl,rS.of (by rw[g T f];exact fX),dt.cons (fv.fG.mpr rfl) (dt.cons (s.same k) dt.nil)⟩⟩
end
end L2
namespace L2
open PySem PySem.Spec PyProof.Rows PySem.Builtin PySem.Builtin.Str
def Xl(x:Str):It where
 go:=λi _=>i<x.cps.size
 S5:=λi H y a=>a=H/\∃c,x.cps[i]?=Y c/\y=.str ⟨#[c]⟩
 stop:=λi _=>x.cps.size<=i
theorem CJ{P:Program}{K:Fg}{D:String}(p:D="str_ascii_iterator"\/D="str_iterator")(x:Str)(t:Tok)(m:Addr):HF P w K tg (Xl x) [m] m (λi h=>h.IsStrIter m D x t i) where
 mem:=by simp
 obj:=λi h f b a=>by
  have e:b=m:=by simpa using a
  subst e;obtain⟨o,e,c,d⟩:=f;exact⟨o,e,λv z=>by rw[d] at z;cases z⟩
 keep:=λi h l f k=>by obtain⟨o,e,r⟩:=f;exact⟨o,k m (by simp) o e,r⟩
 item:=by
  intro X J hw L G i j s σ H E I q f hg;subst J hw L;obtain⟨C,B,O,A,y,u⟩:=q m (by simp);have n:x.cps[i]?=Y (x.cps[i]'hg):=Array.getElem?_eq_getElem hg;rcases p with rfl|rfl
  ·refine wpAny_pyNext_ascii_item f n λl g F=>?_;have N:fD X j σ H { s with heap:=l,toks:=s.toks+1 }:=I.turned (t':=s.toks+1) (λb o a e=>(F.2 b a).trans e) C B A y u;obtain⟨o,e,c,d⟩:=id g;exact⟨_,rfl,B8 (s:={ s with heap:=l,toks:=s.toks+1 }) e c d (by decide) ⟨.str _,H,N,⟨_,rfl⟩,⟨rfl,_,n,rfl⟩,g,λb a=>(q b a).1⟩⟩
  ·refine wpAny_pyNext_wide_item f n λl g F=>?_;have N:fD X j σ H { s with heap:=l,toks:=s.toks+1 }:=I.turned (t':=s.toks+1) (λb o a e=>(F.2 b a).trans e) C B A y u;obtain⟨o,e,c,d⟩:=id g;exact⟨_,rfl,B8 (s:={ s with heap:=l,toks:=s.toks+1 }) e c d (by decide) ⟨.str _,H,N,⟨_,rfl⟩,⟨rfl,_,n,rfl⟩,g,λb a=>(q b a).1⟩⟩
 done:=by
  intro X J hw L G i j s σ H E I q f hg;subst J hw L;obtain⟨C,B,O,A,y,u⟩:=q m (by simp);have n:x.cps[i]?=Z:=cI hg;rcases p with rfl|rfl
  ·exact wpAny_pyNext_ascii_end (I.ok.hd G) f n λl M=>⟨rfl,I.turned (t':=s.toks) (λb o a e=>M b o a e) C B A y u⟩
  ·exact wpAny_pyNext_wide_end (I.ok.hd G) f n λl M=>⟨rfl,I.turned (t':=s.toks) (λb o a e=>M b o a e) C B A y u⟩
 self:=λ_ _ _ _ _ f h=>by
  rcases p with rfl|rfl
  ·exact wpAny_pyIter_striter_ascii f h
  ·exact wpAny_pyIter_striter_wide f h
section
variable {a b c o:Expr}{fa fb fc:c5->Od}{p2 p apos gQ:Pos}
theorem RE{g:TE}(l:PE X e g):PI X tg e (λσ H R=>g σ H λv d=>∃x,v=.str x/\R (Xl x) d):=by
 intro a s σ H R I h;refine iP (@l a s σ H _ I h) λv c ⟨y,d,f,k,x,n,q⟩=>?_;subst n;obtain⟨t,rfl⟩:=k;have j:∀b∈[(zB c)],qA X a d b:=λb m=>by rw[show b=(zB c) by simpa using m];exact f.HE (aH _) (f.iY.fresh (aH _))
 cases i:x.cps.all (·<128)
 ·exact wpAny_pyIter_wide i ⟨_,[(zB c)],_,_,d,rfl,f.kept (t':=c.toks) λb o e=>af _ e,CJ (.inr rfl) x t _,⟨_,aG _ rfl,rfl,rfl⟩,j,q⟩
 ·exact wpAny_pyIter_ascii i ⟨_,[(zB c)],_,_,d,rfl,f.kept (t':=c.toks) λb o e=>af _ e,CJ (.inl rfl) x t _,⟨_,aG _ rfl,rfl,rfl⟩,j,q⟩
def sv(x:Str):Lp:=x.cps.toList.map λc=>.str ⟨#[c]⟩
noncomputable def pq(f:c5->Od):c5->Option Lp:=λρ=>(f ρ).bind λd=>match d with | .list ds=>Y ds | .tuple ds=>Y ds | .str x=>Y (sv x)|_=>Z
theorem EX{K:Fg}(x:Str)(G:Hp):wU K (Xl x) (sv x) G:=λk h=>by
 have f:(sv x).length=x.cps.size:=by simp[sv]
 refine⟨by show x.cps.size<=_;rw[f];exact aH _,λi d q=>?_⟩;have g:i<x.cps.size:=by have:=(aM.mp q).1;omega
 refine⟨g,λy j ⟨e,c,b,a⟩=>?_⟩;subst e a;have:d=.str ⟨#[c]⟩:=by unfold sv at q;rw[aJ,Array.getElem?_toList,b] at q;cases q;rfl
 subst this;exact⟨.refl _,λl _ _=>fv.f6.mpr rfl⟩
theorem nW(h:PD X e f):Ut X tg e (pq f) :=
 PI.imp (PI.or (Nz h) (RE h)) λσ H R ⟨ρ,g,b,e,k⟩=>by
  obtain⟨d,c,a⟩:=bind_some e;cases d with
  |list j=>exact .inl ⟨ρ,g,b,by show (f ρ).bind _=_;rw[c];exact a,k⟩
  |tuple j=>exact .inl ⟨ρ,g,b,by show (f ρ).bind _=_;rw[c];exact a,k⟩
  |str x=>cases a;exact .inr ⟨ρ,_,b,c,λv i l m=>⟨x,fv.f6.mp m,k _ i l (EX x i)⟩⟩
  |_=>cases a
theorem CK{a:Lx}{o:Nat}{m:Pos}(s:Gl X "enumerate")(r:X.mg "enumerate"=Z)(h:PD X e f)(b:starEach [e] X.env=[(false,eval e X.env)]:=by rfl):Ut X (.Tuple a o m) (.Call (.Name "enumerate" p) [e] [] pos) (w8 f) :=
 PI.imp (NO s r h b) λσ H R ⟨ρ,x,b,e,k⟩=>by
  obtain⟨d,u,i⟩:=bind_some e;obtain⟨c,rfl⟩:∃c,d=.list c:=by cases d<;>first|exact⟨_,rfl⟩|cases i
  cases i;refine⟨ρ,_,b,u,λv w n q=>?_⟩;obtain⟨l,j,rfl,g,t⟩:=fv.fY.mp q;exact⟨l,j,rfl,g,k _ w n (CI g t)⟩
noncomputable def lV:Lp->Od
 |[.dict kF]=>if hU kF=true then Z else Y (.list (kF.map (·.1)))
 |ds=>Gw ds
theorem Ik{P:Program}{k:Key}{v:Value}(h:(gL P w).is k v=true):gv (kV k) v:=by
 rcases iK h with ⟨i,t,rfl,rfl⟩ | ⟨x,t,rfl,rfl⟩
 ·exact⟨t,rfl⟩
 ·exact⟨t,rfl⟩
theorem zj{K:Fg}{H c:Hp}:∀{a:List (fe×fe)}{b:List (Key×V)},gA K H a b->dt K c (a.map (·.1)) (b.map λx=>kV x.1)
 |[],_,h=>by rw[gA.fQ.mp h];exact dt.nil
 | (k,d)::r,_,h=>by
  obtain⟨y,v,e,rfl,rfl,i,t⟩:=gA.fH.mp h;refine dt.cons ?_ (zj t);cases y with
  |inl i=>exact fv.fG.mpr rfl
  |inr x=>exact fv.f6.mpr rfl
theorem zo{P:Program}{w:World}:∀{d:List (Key×V)}{c:List (Key×Value)}{its:Lw},KV d c->its.length=c.length->(∀(j:Nat) v,its[j]?=Y v->∃k x,c[j]?=Y (k,x)/\(gL P w).is k v=true)->f7 (d.map λx=>kV x.1) its
 |_,_,its,.nil,hl,_=>by
  cases its with
  |nil=>exact .nil
  |cons _ _=>simp at hl
 |_,_,its,.cons (a:=p) (b:=q) h t,hl,hi=>by
  cases its with
  |nil=>simp at hl
  |cons u l=>
   obtain⟨k,x,i,g⟩:=hi 0 u rfl;have f:q=(k,x):=by simpa using i
   refine .cons ?_ (zo t (by simpa using hl) λj v e=>hi (j+1) v (by simpa using e));show gv (kV p.1) u;rw[h.1,f];exact Ik g
theorem Kv(F:X.calm=true):ji X (.type "list") (λxs H Q=>∃l c,dt X.K H l xs/\lV l=Y c/\KO X.K H c Q):=by
 have E:ji X (.type "list") (λxs H Q=>∃b d p,xs=[V.ref p]/\H p=Y (.dK d)/\gA X.K H b d/\KO X.K H (.list (b.map (·.1))) Q):=by intro n s σ H xs T Q I r h;obtain⟨b,d,p,rfl,C,A,k⟩:=h;obtain⟨u,rfl,t⟩:=wA r;cases t;obtain⟨z,G,S,f,N⟩:=rZ I.iY C;refine wZ (knd:=gL X.prog X.w) (I.ok.hd F) G N (by rw[<-f.length];exact z) λU q its O D g m y=>?_;have B:=zo (P:=X.prog) (w:=X.w) (its:=its.toList) f (by simpa using D) (λj v e=>g j v (by simpa using e));have R:=I.laid (a:=(zB s)) (o:=.lst (d.map λx=>kV x.1)) (t':=q) y (aH _) ⟨by rw[ah];exact z,its.toList,O,B,by simpa using m⟩;exact⟨.ref (zB s),_,R,rfl,k.wH (zj A) _ I.fresh⟩
 refine ji.imp (ji.or NA E) λxs H Q ⟨l,c,i,e,k⟩=>?_;unfold lV at e;split at e
 ·rename_i b;by_cases g:hU b=true
  ·rw[ai g] at e;cases e
  ·rw[ao g] at e;cases e;obtain⟨v,rfl,J⟩:=i6 i;obtain⟨p,d,rfl,M,L⟩:=J.rZ (by simpa using g);exact .inr ⟨b,d,p,rfl,M,L,k⟩
 ·exact .inl ⟨l,c,i,e,k⟩
theorem rD(l:X.calm=true)(i:Gl X "list")(h:X.mg "list"=Z)(m:BZ X (e::es) ff)(j:zE e es X:=by rfl)(a:(backTo pos (starEach es X.env)).any (·.1)=false:=by rfl):
  PF X (.Call (.Name "list" p) (e::es) [] pos) (gF lV ff) :=
 PE.imp (y0 (Kv l) i h (by rfl) m (by decide) (by decide) j a) λσ H Q ⟨ρ,d,g,e,k⟩=>by obtain⟨b,o,n⟩:=bind_some e;exact⟨ρ,b,g,o,λq r c f=>⟨b,d,f,n,k.later c⟩⟩
noncomputable def Uz(b a:Lp):Lp:=(b.zip a).map λp=>.tuple [p.1,p.2]
noncomputable def UA(x y:fe):Od:=match x,y with
 |.list xs,.list a=>Y (.list (Uz xs a))
 |_,_=>Z
theorem fD.P8{a:Addr}{u:HO}(I:fD X pins σ H s)(f:qA X pins H a)(g:jh X.prog X.w (upd H a u) s.heap a u):fD X pins σ (upd H a u) s:=by
 obtain⟨j,k,_,h,l,i⟩:=f;have d:∀b v,H b=Y v->upd H a u b=Y v:=λb v e=>by rw[fK (gC e j)];exact e
 have:=I.step (g':=s.gens) (d':=s.drawn) (t':=s.toks) (h':=s.heap) (H':=upd H a u) (ch:=[a]) (λb hb=>by rw[show b=a by simpa using hb];exact⟨h,k,l,i⟩) (λb o _ _ _ e _=>e) (λb o _ _ _ e _=>⟨o.slots,e⟩) (λb o hc _ n=>by rw[fK (λz=>hc (by simp[z]))];exact n)
  (λb o _ e=>⟨o,e⟩) (λb xs e=>d b _ e) (λb o v e=>d b _ e) (λb ps e=>⟨#[],by rw[d b _ e];simp⟩) (λm hm=>hm) ?_ I.bare
 ·exact this
 ·intro b v e;by_cases hb:b=a
  ·subst hb;rw[fX] at e;cases e;exact g
  ·rw[fK hb] at e;exact(I.iY b v e).uq (λ_ _ _ q=>q) (λc q=>d c _ q) λc xs q=>d c _ q
theorem gv.uniq{x y:V}(a:gv x u)(b:gv y u):x=y:=by have c:=a.abs;rw[b.abs] at c;exact(bB c).symm
theorem GI{b:Ax}{σ:St}:∀(m:List (V×V)) (us:Lw) {H:Hp}{s:Shared},fD X b σ H s->us.length=m.length ->
  (∀(j:Nat) (v:Value) (p:V×V),us[j]?=Y v->m[j]?=Y p->∃T x y,v=.ref T/\IsPair s.heap T x y/\gv p.1 x/\gv p.2 y/\(qA X b H T\/∃d c l k,IsPair s.heap T d c/\gv l d/\gv k c/\H T=Y (.tup [l,k]))) ->
  ∃A z,fJ H A/\fD X b σ A s/\f7 z us/\(∀a,H a=Z->A a=Z\/.ref a∈us)/\∀(j:Nat) (p:V×V),m[j]?=Y p->∃T,z[j]?=Y (.ref T)/\A T=Y (.tup [p.1,p.2])
 |[],us,H,s,I,hl,_=>by
  cases us with
  |nil=>exact⟨H,[],.refl H,I,.nil,(λa h=>.inl h),λj p e=>by simp at e⟩
  |cons _ _=>simp at hl
 |p::m,us,H,s,I,hl,hi=>by
  cases us with
  |nil=>simp at hl
  |cons v us=>
   obtain⟨T,x,y,rfl,E,C,B,M⟩:=hi 0 v p rfl rfl;have first:∃i,fJ H i/\fD X b σ i s/\i T=Y (.tup [p.1,p.2])/\∀a,a≠T->i a=H a:=by
    rcases M with f | ⟨d,c,l,k,D,q1,q2,hT⟩
    ·refine⟨upd H T (.tup [p.1,p.2]),lg f.1,I.P8 f ⟨by show 2<=sizeLine;decide,[x,y],.cons C (.cons B .nil),_,E,rfl,0,rfl⟩,fX,λa F=>fK F⟩
    ·have e:(#[d,c]:Array Value)=#[x,y]:=by
      have S:s.heap.get? T=Y { cls:=.type "tuple",data:=.seq #[d,c] }:=D;have g:s.heap.get? T=Y { cls:=.type "tuple",data:=.seq #[x,y] }:=E;rw[S] at g;injection g with g
      injection g with _ _ g _;injection g
     have W:[d,c]=[x,y]:=by simpa using bK Array.toList e
     injection W with G t;injection t with t _;subst G t;rw[q1.uniq C,q2.uniq B] at hT;exact⟨H,.refl H,I,hT,λa _=>rfl⟩
   obtain⟨i,O,I1,hT,n⟩:=first
   obtain⟨H2,z,N,I2,R,U,L⟩:=GI m us (H:=i) I1 (by simpa using hl) λj v q G t=>by
    obtain⟨w,d,c,a1,a2,a3,a4,u⟩:=hi (j+1) v q (by simpa using G) (by simpa using t);refine⟨w,d,c,a1,a2,a3,a4,?_⟩;by_cases r:w=T
    ·subst r;exact .inr ⟨x,y,p.1,p.2,E,C,B,hT⟩
    ·rcases u with f | ⟨Q,P,l,k,K,J,b3,b4⟩
     ·exact .inl ⟨by rw[n w r];exact f.1,f.2⟩
     ·exact .inr ⟨Q,P,l,k,K,J,b3,O _ _ b4⟩
   refine⟨H2,.ref T::z,O.trans N,I2,.cons rfl R,λa F=>?_,λj q e=>?_⟩
   ·by_cases o:a=T
    ·exact .inr (by simp[o])
    ·rcases U a (by rw[n a o];exact F) with h|h
     ·exact .inl h
     ·exact .inr (aj _ h)
   ·cases j with
    |zero=>simp at e;subst e;exact⟨T,rfl,N _ _ hT⟩
    |succ j=>obtain⟨w,K,J⟩:=L j q (by simpa using e);exact⟨w,by simpa using K,J⟩
theorem EY{m pz:Pos} (hc:X.calm=true) (hgl:Gl X "list") (hml:X.mg "list"=Z) (hgz:Gl X "zip") (hmz:X.mg "zip"=Z) (ha:PD X a fa) (hb:PD X b fb)
  (s1:starEach [.Call (.Name "zip" pz) [a,b] [] m] X.env=[(false,eval (.Call (.Name "zip" pz) [a,b] [] m) X.env)]:=by rfl) (s2:starEach [a,b] X.env=[(false,eval a X.env),(false,eval b X.env)]:=by rfl) (s3:starEach [b] X.env=[(false,eval b X.env)]:=by rfl):
  PF X (.Call (.Name "list" p) [.Call (.Name "zip" pz) [a,b] [] m] [] pos) (d2 UA fa fb):=by
 intro c s σ H Q I ⟨ρ,d,hs,e,k⟩;obtain⟨x,e1,q1⟩:=bind_some e;obtain⟨y,e2,q2⟩:=bind_some q1;obtain⟨xs,rfl⟩:∃xs,x=.list xs:=by cases x<;>first|exact⟨_,rfl⟩|(cases y<;>cases q2)
 obtain⟨ys,rfl⟩:∃ys,y=.list ys:=by cases y<;>first|exact⟨_,rfl⟩|cases q2
 cases q2;refine bx (qy I hgl hml (by rfl) ?_);refine bG ?_ (by rw[s1];rfl) (by rfl);rw[s1];refine bL ?_;refine bx (qy I hgz hmz (by rfl) ?_);refine bG ?_ (by rw[s2,s3]) (by rw[s3];rfl);rw[s2];refine bL (iP (@ha c s σ H (λv H1=>fJ H H1/\fv X.K H1 (.list xs) v) I ⟨ρ,_,hs,e1,λv H1 sH i=>⟨sH,i⟩⟩) λu1 t1 ⟨v1,H1,I1,r1,YL,i1⟩=>?_);refine bL (iP (@hb c t1 σ H1 (λv J=>fJ H1 J/\fv X.K J (.list ys) v) I1 ⟨ρ,_,hs.same YL,e2,λv J sH i=>⟨sH,i⟩⟩) λu2 l ⟨v2,J,W,r2,YM,i2⟩=>bQ ?_);obtain⟨l1,M,rfl,sq1,Rq⟩:=fv.fY.mp (i1.same YM);obtain⟨l2,L,rfl,sq2,id2⟩:=fv.fY.mp i2;cases r1;cases r2;obtain⟨G,S,B,z1⟩:=W.list sq1;obtain⟨F,YN,A,z2⟩:=W.list sq2;have b1:l1<(zB l):=by obtain⟨o,n,e,_⟩:=B;exact av e
 have b2:l2<(zB l):=by obtain⟨o,n,e,_⟩:=A;exact av e
 have fr:∀j,(zB l)<=j->l.heap.get? j=Z:=λj hj=>by
  cases q:l.heap.get? j with
  |none=>rfl
  |some o=>exact absurd (aI (av q) hj) (aZ _)
 have hn:min G.toArray.size F.toArray.size<=sizeLine:=by rw[az,az,<-S.length];omega
 refine call_zip_2 B.isList A.isList λh' hz hTI hTO j1 j2 sz kp=>bQ ?_;refine yt l.heap (W.ok.hd hc) (zipApart_new b1 b2) ⟨fr _ (cf _ _),fr _ (aH _),fr _ (cf _ _)⟩ (fr _ (cf _ _)) ⟨let ⟨o,_,e,_⟩:=B;⟨o,e⟩,let ⟨o,_,e,_⟩:=A;⟨o,e⟩⟩ hn (by show _<=h'.objs.size;rw[sz];exact cf _ _) hz hTI hTO j1 j2 (Heap.IsList.at B.isList λo e=>kp _ _ e) (Heap.IsList.at A.isList λo e=>kp _ _ e) kp λh2 U cc z D C kp2=>?_;have I3:fD X c σ J { l with heap:=h2 }:=W.kept (t':=l.toks) kp2;have E:U.toList.length=(M.zip L).length:=by rw[List.length_zip,S.length,YN.length,cB,z,az,az]
 have h:∀b,(zB l)<=b->qA X c J b:=λb hb=>W.HE hb (W.iY.fresh hb);obtain⟨H3,rs,P,I4,R,vb,at3⟩:=GI (M.zip L) U.toList I3 E λj v q g1 g2=>by
  obtain⟨T,x,y,O,t2',t3',t4',N⟩:=D j v (by simpa using g1);obtain⟨w1,w2⟩:=q;obtain⟨g3,g4⟩:=List.getElem?_zip_eq_some.mp g2;obtain⟨x',gx,rx⟩:=S.get g3;obtain⟨y',gy,ry⟩:=YN.get g4;have ex:x'=x:=by have:G.toArray[j]?=Y x:=t2';rw[List.getElem?_toArray,gx] at this;cases this;rfl
  have ey:y'=y:=by have:F.toArray[j]?=Y y:=t3';rw[List.getElem?_toArray,gy] at this;cases this;rfl
  subst ex ey;exact⟨T,x',y',O,t4',rx,ry,.inl (h T (by have:h'.objs.size<T:=N;rw[sz] at this;exact bu (cf _ _) (cX this)))⟩
 have w:H3 h'.objs.size=Z:=by
  rcases vb h'.objs.size (W.iY.fresh (by rw[sz];exact cf _ _)) with g|g
  ·exact g
  ·obtain⟨j,gj⟩:=List.mem_iff_getElem?.mp g;obtain⟨T,x,y,O,_,_,_,N⟩:=D j _ (by simpa using gj);cases O;exact absurd N (aZ _)
 have fS:qA X c H3 h'.objs.size:=⟨w,(h _ (by rw[sz];exact cf _ _)).2⟩
 have rl:rs.length<=sizeLine:=by rw[R.length,cB,z];exact hn
 have I5:=I4.P8 fS (u:=.lst rs) ⟨rl,U.toList,cc,R,by simpa using C⟩;refine⟨.ref h'.objs.size,_,I5,rfl,?_⟩;refine(k.later (YL.trans (YM.trans P))).wH ?_ _ w;have go:∀(t f:Lp) (a1 a2:List V) (rr:List V),dt X.K J t a1->dt X.K J f a2->rr.length=(a1.zip a2).length->(∀(j:Nat) (q:V×V),(a1.zip a2)[j]?=Y q->∃T,rr[j]?=Y (.ref T)/\H3 T=Y (.tup [q.1,q.2]))->dt X.K H3 (Uz t f) rr:=by
  intro t;induction t with
  |nil=>
   intro f a1 a2 rr h1 h2 z _;rw[dt.fQ.mp h1] at z;have:rr=[]:=by simpa using z
   subst this;exact dt.nil
  |cons d1 t ih=>
   intro f a1 a2 rr h1 h2 z C;obtain⟨w1,a1',rfl,g1,g2⟩:=dt.fH.mp h1;cases f with
   |nil=>
    rw[dt.fQ.mp h2] at z;have:rr=[]:=by simpa using z
    subst this;exact dt.nil
   |cons d2 f=>
    obtain⟨w2,a2',rfl,g3,g4⟩:=dt.fH.mp h2;cases rr with
    |nil=>simp at z
    |cons r rr=>
     obtain⟨T,t1,l⟩:=C 0 (w1,w2) rfl;have er:r=.ref T:=by simpa using t1
     subst er;refine dt.cons (fv.nM.mpr ⟨T,_,rfl,rS.of l,dt.cons (g1.same P) (dt.cons (g3.same P) dt.nil)⟩) (ih f a1' a2' rr g2 g4 (by simpa using z) λj q e=>?_);obtain⟨T',u1,u2⟩:=C (j+1) q (by simpa using e);exact⟨T',by simpa using u1,u2⟩
 exact go xs ys M L rs Rq id2 (by rw[R.length];exact E) at3
end
end L2
namespace PySem
open Builtin
theorem pv:entryFor table "set.update.loop"=Y Builtin.«set.update.loop»:=entryFor_of_tree (zK 0)
theorem lW:plainId "set.update.loop"=true:=by decide +kernel
section
variable {prog:Program}{K:Type} [DecidableEq K] {knd:KeyKind prog w K}
def sx(a:List K)(k:K):List K:=if k∈a then a else a++[k]
def mV(a b:List K):List K:=b.foldl sx a
theorem CL(a:List K)(k:K):(sx a k).length<=a.length+1:=by unfold sx;split<;>simp
inductive uH (knd:KeyKind prog w K):Lw->List K->Prop
 |nil:uH knd [] []
 |cons {v:Value}{k:K}{vs:Lw}{ks:List K}:knd.is k v=true->v.scannable=true->uH knd vs ks->uH knd (v::vs) (k::ks)
theorem w9{D I l:Addr}{a:Array Value}{R:Result->Shared->Prop}(hh:A.in1.handled=Z)(d:D≠I)(c:Heap)(F:c.get? D=Z)(u:c.get? I=Z):
  ∀(B:Lw) (ks:List K) (i:Nat) (s:Shared) (acc:List K),a.toList.drop i=B->uH knd B ks->(∀b o,c.get? b=Y o->s.heap.get? b=Y o)->s.heap.IsListIter I l i->s.heap.IsList l a->s.heap.SetOf knd D (λk=>decide (k∈acc)) acc.length->acc.length+ks.length+1<scanBound ->
  (∀j N,j.SetOf knd D (λk=>decide (k∈mV acc ks)) (mV acc ks).length->(∀b o,c.get? b=Y o->j.get? b=Y o)->R (.ok (.ret .none)) { s with heap:=j,toks:=N }) ->
  codeAny (model prog w) A (.builtin "set.update.loop" ⟨[.ref D,.ref I],[]⟩) R s
 |[],_,i,s,acc,hv,C,h0,H,G,hd,hz,V=>by
  cases C;refine cq pv ?_;rw[b6 lW _];show wpAny _ A.in1 (pyNext (.ref I)>>=_) _ _ s;have hn:a[i]?=Z:=by have:=List.drop_eq_nil_iff.mp hv;exact cI (by simpa using this)
  refine aa (du hh H G hn λj eb=>?_);show wpAny _ A.in1 (ret Value.none) _ _ _;refine ar ?_;obtain⟨o,L,M,t,x,r⟩:=hd;exact V j s.toks ⟨o,L,M,t,eb _ _ d x,r⟩ λb o e=>eb b o (λz=>by rw[z,u] at e;cases e) (h0 b o e)
 |v::B,_,i,s,acc,hv,C,h0,H,G,hd,hz,V=>by
  cases C with
  |@cons _ k _ ks hk P C=>
   refine cq pv ?_;rw[b6 lW _];show wpAny _ A.in1 (pyNext (.ref I)>>=_) _ _ s;have Q:i<a.size:=by have:=bK List.length hv;simp at this;omega
   have hx:a[i]?=Y v:=by have:=bK (·[0]?) hv;simpa using this
   have O:a.toList.drop (i+1)=B:=by
    have e:=cm (l:=a.toList) (i:=i) (by simpa using Q);rw[hv] at e;injection e with _ f
    exact f.symm
   refine aa (cY H G hx λj X sb=>?_);have U:j.SetOf knd D (λk=>decide (k∈acc)) acc.length:=by obtain⟨o,L,M,t,x,r⟩:=id hd;exact⟨o,L,M,t,(sb.2 _ d).trans x,r⟩
   have nI:∀b o y n,s.heap.get? b=Y o->o.data=.seq y n->b≠I:=λb o y n g f z=>by subst z;obtain⟨oi,ei,ci,di⟩:=H;rw[g] at ei;cases ei;rw[f] at di;cases di
   have nD:∀b o y n,s.heap.get? b=Y o->o.data=.seq y n->b≠D:=λb o y n g f z=>by subst z;obtain⟨o',L,M,t,x,_,E,_⟩:=hd;rw[g] at x;cases x;rw[f] at E;cases E
   show wpAny _ A.in1 (holding [v] (setAdd D v)>>=_) _ _ _;refine aa (bf ?_);unfold setAdd;refine bf (aa (knd.pyHash hk ?_));simp only[ay] at hz;refine wpAny_setAddHashed_of (knd:=knd) (s:={ s with heap:=j,toks:=s.toks+1 }) hk P U (by omega) λJ m T=>?_;have p:J.SetOf knd D (λh=>decide (h∈sx acc k)) (sx acc k).length:=by
    have g:(λh=>decide (h∈acc)||decide (h=k))=λh=>decide (h∈sx acc k):=by
     funext h
     unfold sx;by_cases q:k∈acc
     ·rw[ai q];by_cases q2:h=k
      ·subst q2;simp[q]
      ·simp[q2]
     ·rw[ao q];simp
    have f:(if decide (k∈acc)=true then acc.length else acc.length+1)=(sx acc k).length:=by
     unfold sx;by_cases q:k∈acc
     ·simp[q]
     ·simp[q]
    rw[<-g,<-f];exact T
   refine ar ⟨cJ lW _,?_⟩;have S:J.IsList l a:=by obtain⟨o,g,f,n,e3⟩:=G;exact⟨o,(m.2 _ (nD _ _ _ _ g e3)).trans ((sb.2 _ (nI _ _ _ _ g e3)).trans g),f,n,e3⟩
   have W:J.IsListIter I l (i+1):=X.at λo e=>(m.2 _ (Ne.symm d)).trans e;refine w9 hh d c F u B ks (i+1) { s with heap:=J,toks:=s.toks+1 } (sx acc k) O C (λb o e=>?_) W S p ?_ λh3 N p k3=>V h3 N p k3
   ·have b1:b≠I:=λz=>by rw[z,u] at e;cases e
    have b2:b≠D:=λz=>by rw[z,F] at e;cases e
    exact(m.2 b b2).trans ((sb.2 b b1).trans (h0 b o e))
   ·have:=CL acc k;omega
theorem yu{l:Addr}{o:Obj}{c:Array Value}{u:List K}{Q:Px} (W:A.handled=Z) (T:s.heap.get? l=Y o) (J:o.cls=.type "list") (i:o.data=.seq c n)
  (U:uH knd c.toList u) (D:u.length+1<scanBound)
  (h:∀h' tk,h'.SetOf knd (zB s) (λk=>decide (k∈mV [] u)) (mV [] u).length->(∀b o,s.heap.get? b=Y o->h'.get? b=Y o)->Q (.ref (zB s)) { s with heap:=h',toks:=tk }):
  wpAny (model prog w) A (call (.type "set") [.ref l]) Q E s:=by
 obtain⟨oc,P,O,B⟩:=o;simp only at J i;subst J i;have w1:=F.called_set.made;have w2:=F.called_set.sub;have w3:=F.called_set.notType;have w4:=F.called_set.canCreate;have w5:=F.typeCall_set_1 (.ref l);obtain⟨mc,mt,w6⟩:=F.called_set.mro;refine wpAny_call (codeAny_of_tree ?_);show wpAny _ _ (callAny (.type "set") _) _ _ _;refine ar ⟨Code.quiet_builtin _ (zD 0),cq F.entry_type_call ?_⟩;rw[Around.under_plain (weight_type_call_type "set" [.ref l] []) rfl]
 repeat (any_goals (first|assumption|wp_step))
 refine cw (code_set_new_1 (.ref l) (E:=E) (Q₁:=λv t=>∃a:Bool,v=.ref (zB s)/\t={ s with heap:=s.heap.push { cls:=.type "set",dict:=Z,data:=.set #[] 0 (.fresh 0 0 a) } }) λa=>⟨a,rfl,rfl⟩) λN t1 f=>?_
 match N,f with
 |.error e,f=>exact f
 |.ok .next,f=>exact f.elim
 |.ok .brk,f=>exact f.elim
 |.ok .cont,f=>exact f.elim
 |.ok (.ret v),⟨a,e1,e2⟩=>
  subst e1 e2;have x:(s.heap.push { cls:=.type "set",dict:=Z,data:=.set #[] 0 (.fresh 0 0 a) }).get? (zB s)=Y { cls:=.type "set",dict:=Z,data:=.set #[] 0 (.fresh 0 0 a) }:=aG _ rfl;have H:(s.heap.push { cls:=.type "set",dict:=Z,data:=.set #[] 0 (.fresh 0 0 a) }).get? l=Y { cls:=.type "list",dict:=P,data:=.seq c n,slots:=B }:=af _ T;have L:Shared.TypeIs { s with heap:=s.heap.push { cls:=.type "set",dict:=Z,data:=.set #[] 0 (.fresh 0 0 a) } } (.ref (zB s)) "set":=⟨_,x,rfl⟩
  have w7:=F.called_set.init.lookup;have X:=F.called_set.init.bind (.ref (zB s))
  repeat (any_goals (first|assumption|wp_step))
  refine cw (codeAny_call_builtin (R:=wants (λr t=>r=.none/\∃h' tk,t={ s with heap:=h',toks:=tk }/\h'.SetOf knd (zB s) (λk=>decide (k∈mV [] u)) (mV [] u).length/\∀b o,s.heap.get? b=Y o->h'.get? b=Y o) E) F.called_set.init.plain F.entry_set_init (check_set_init_1 L ?_)) λM t2 d=>?_
  ·have v1:=F.sub_list_set;have v2:=F.sub_list_frozenset;have v3:(Value.type "list"==Value.type "dict")=false:=by decide
   have I:(s.heap.push { cls:=.type "set",dict:=Z,data:=.set #[] 0 (.fresh 0 0 a) }).IsList l c:=⟨_,H,rfl,n,rfl⟩
   unfold Builtin.«set.__init__» noKeywords Builtin.Frozenset.updateFrom;generalize p:pyIter=walk
   wp_walk
   subst p;refine cZ I (aa (wpAny_runValue ?_));have y:(zB s)<(s.heap.push { cls:=.type "set",dict:=Z,data:=.set #[] 0 (.fresh 0 0 a) }).objs.size:=av x;have m:∀j,(zB s)<=j->s.heap.get? j=Z:=λj V=>by
    cases q:s.heap.get? j with
    |none=>rfl
    |some z=>exact absurd (aI (av q) V) (aZ _)
   have C:∀b o,s.heap.get? b=Y o->((s.heap.push { cls:=.type "set",dict:=Z,data:=.set #[] 0 (.fresh 0 0 a) }).push { cls:=.type "list_iterator",data:=.fields #[.ref l,.int 0 0] }).get? b=Y o:=λb o e=>af _ (af _ e);have g:((s.heap.push { cls:=.type "set",dict:=Z,data:=.set #[] 0 (.fresh 0 0 a) }).push { cls:=.type "list_iterator",data:=.fields #[.ref l,.int 0 0] }).SetOf knd (zB s) (λk=>decide (k∈([]:List K))) ([]:List K).length :=
    (funext λk=>by simp:(λ_:K=>false)=λk=>decide (k∈([]:List K)))▸(PyProof.Rows.setObjOf_fresh (knd:=knd) a).setOf (af _ x) (by unfold scanBound;omega)
   refine w9 (knd:=knd) (show A.in1.in1.in1.handled=Z from W) (aN y) s.heap (m _ (aH _)) (m _ (cX y)) c.toList u 0 _ [] rfl U C ⟨_,aG _ rfl,rfl,rfl⟩ (I.push _) g (by simpa using D) λh' tk G S=>?_;show wpAny _ _ _ _ _ _;refine ar ?_;show wpAny _ _ (ret Value.none) _ _ _;exact ar ⟨rfl,h',tk,rfl,G,S⟩
  ·match M,d with
   |.error e,d=>exact d
   |.ok .next,d=>exact d.elim
   |.ok .brk,d=>exact d.elim
   |.ok .cont,d=>exact d.elim
   |.ok (.ret v),⟨e3,h',tk,e4,G,C⟩=>
    subst e3 e4
    repeat (any_goals (first|assumption|wp_step))
    exact h _ _ G C
end
end PySem
namespace L2
open PySem PySem.Spec PyProof.Rows PySem.Builtin PySem.Builtin.Str
noncomputable def sy:Lp->Option (List Key)
 |[]=>Y []
 |d::r=>(tr d).bind λk=>(sy r).map (k::·)
theorem GJ{P:Program}{w:World}{K:Fg}{H:Hp}:∀{f:Lp}{c:List Key}{b:List V}{g:Lw},sy f=Y c->dt K H f b->f7 b g->uH (gL P w) g c
 |[],_,_,_,e,i,r=>by cases e;rw[dt.fQ.mp i] at r;cases r;exact .nil
 |d::f,_,_,_,e,i,r=>by
  obtain⟨k,o,n⟩:=bind_some e;obtain⟨c,m,rfl⟩:=ak.mp n;obtain⟨v,b,rfl,l,j⟩:=dt.fH.mp i;cases r with
  |cons a h=>
   have:=jl o;subst this;rw[kh l] at a;refine .cons (qF a) ?_ (GJ m j h);cases k with
   |inl i=>obtain⟨t,rfl⟩:=a;rfl
   |inr x=>obtain⟨t,rfl⟩:=a;rfl
section
variable {a b c o:Expr}{fa fb fc:c5->Od}{p2 p apos gQ:Pos}
noncomputable def A2(f:c5->Od):c5->Od:=λρ=>(f ρ).bind λd=>match d with
 |.list ds=>(sy ds).bind λa=>if a.length+1<4096 then Y (.int (mV [] a).length) else Z
 |_=>Z
theorem zp{K:Type}[DecidableEq K]:∀(b a:List K),(mV a b).length<=a.length+b.length
 |[],a=>by simp[mV]
 |k::b,a=>by have d:=zp b (sx a k);have c:=CL a k;rw[show mV a (k::b)=mV (sx a k) b from rfl,ay];omega
theorem Il{a r:Pos} (hc:X.calm=true) (D:Gl X "len") (A:X.mg "len"=Z) (C:Gl X "set") (z:X.mg "set"=Z) (ha:PD X e f)
  (L:starEach [.Call (.Name "set" r) [e] [] a] X.env=[(false,eval (.Call (.Name "set" r) [e] [] a) X.env)]:=by rfl) (J:starEach [e] X.env=[(false,eval e X.env)]:=by rfl):
  PD X (.Call (.Name "len" p) [.Call (.Name "set" r) [e] [] a] [] pos) (A2 f):=by
 intro g s σ H Q I ⟨ρ,d,W,e,k⟩;obtain⟨x,e1,M⟩:=bind_some e;obtain⟨j,rfl⟩:∃j,x=.list j:=by cases x<;>first|exact⟨_,rfl⟩|cases M
 obtain⟨c,e2,m⟩:=bind_some (show (sy j).bind (λc=>if c.length+1<4096 then Y (fe.int (mV [] c).length) else Z)=Y d from M);by_cases y:c.length+1<4096
 ·rw[ai y] at m;cases m;refine bx (qy I D A PySem.boot_len ?_);refine cC ?_ (by rw[L];rfl) (by rfl);rw[L];refine bL ?_;refine bx (qy I C z (by rfl) ?_);refine bG ?_ (by rw[J];rfl) (by rfl);rw[J];refine bL (iP (@ha g s σ H (λv H1=>fJ H H1/\fv X.K H1 (.list j) v) I ⟨ρ,_,W,e1,λv H1 P i=>⟨P,i⟩⟩) λu1 t1 ⟨v1,H1,G,S,q,V⟩=>bQ ?_);obtain⟨l,ws,rfl,O,u⟩:=fv.fY.mp V;cases S;obtain⟨U,R,⟨o,n,ho,E,_,h⟩,z1⟩:=G.list O;refine yu (knd:=gL X.prog X.w) (G.ok.hd hc) ho E h (by simpa using GJ e2 u R) (by unfold scanBound;exact y) λh' N hd T=>bQ ?_;obtain⟨o',F,ep,t,g1,g2,g3,g4,g5,g6,g7,g8⟩:=hd;have b:F.size=(mV [] c).length:=g8;have B:=zp c ([]:List Key);refine call_len_set g1 g2 g3 g7 (by rw[b];simp at B;omega) ?_;rw[b];exact⟨.int _,H1,(G.kept (t':=N) T).tok _,⟨_,rfl⟩,(k.later q).here (fv.fG.mpr rfl)⟩
 ·rw[ao y] at m;cases m
theorem Kw(I:fD X pins σ H s){x:fe}(h:SeqAt.shaped x=true)(m:fv X.K H x v)(k:gv v u)(z:A.units+x.depth<cLine):
  ∃e:Value->Bool,∀(d:fe) (w:V) (y:Value),SeqAt.shaped d=true->fv X.K H d w->gv w y->SeqAt.EqAt A s y u (e y)/\e y=fe.eqv d x:=by
 obtain⟨t,j⟩:=I.pI (aT h) m k;refine⟨λy=>@decide (∃d a,Reads s.heap y d a/\SeqAt.shaped d=true/\fe.eqv d x=true) (Classical.propDecidable _),λd w y b n c=>?_⟩;obtain⟨a,f⟩:=I.pI (aT b) n c;have i:@decide (∃d a,Reads s.heap y d a/\SeqAt.shaped d=true/\fe.eqv d x=true) (Classical.propDecidable _)=fe.eqv d x:=by
  cases q:fe.eqv d x with
  |true=>exact @decide_eq_true _ (Classical.propDecidable _) ⟨d,a,f,b,q⟩
  |false=>refine @decide_eq_false _ (Classical.propDecidable _) λ⟨p,r,l,o,g⟩=>?_;have:=SeqAt.Reads.unique d p y _ _ (aT b) f l;subst this;rw[q] at g;cases g
 refine⟨?_,i⟩;show SeqAt.EqAt A s y u (@decide _ (Classical.propDecidable _));rw[i];refine SeqAt.eqAt_reads d x A s _ _ a t f j (aT b) (aT h) ?_;have:min d.depth x.depth<=x.depth:=eE _ _;omega
theorem xa(hu:X.A.units+64<cLine):PN X "list.index" (λx vs H Q=>∃d J c,fv X.K H d x/\dt X.K H J vs/\nV d J=Y c/\KD X.K H c Q):=by
 intro O s σ H v vs u us Q I rx rv h;obtain⟨d,J,cc,i1,i2,e,k⟩:=h;unfold nV at e;split at e
 ·rename_i r x;by_cases l:SeqAt.shaped x=true/\r.all SeqAt.shaped=true/\x.depth<=60/\r.length<=sizeLine
  ·rw[ai l] at e;obtain⟨j,e1,rfl⟩:=ak.mp e;obtain⟨h1,V,⟨dj,U,h4⟩,T⟩:=tK e1;simp only[Nat.sub_zero] at V U T;obtain⟨p,w,rfl,sq,P⟩:=fv.fY.mp i1;cases rx;obtain⟨v2,rfl,i3⟩:=i6 i2;obtain⟨N,rfl,B⟩:=rv.one;obtain⟨a,f,⟨⟨cls,dd,W,sl⟩,n,R,S,S7,q⟩,z1⟩:=I.list sq;simp only at S q;subst S q;obtain⟨G,he⟩:=Kw I (A:=X.A.in1) l.1 i3 B (by show X.A.units+1+x.depth<cLine;omega);have sh:∀d∈r,SeqAt.shaped d=true:=aU.mp l.2.1;have b:∀(i:Nat) (y:Value),a[i]?=Y y->∃d,r[i]?=Y d/\SeqAt.EqAt X.A.in1 s y N (G y)/\G y=fe.eqv d x:=λi y t=>by
    have E:i<w.length:=by rw[f.length];exact(aM.mp t).1
    have hw:w[i]?=Y w[i]:=aO E;obtain⟨y',o,z⟩:=f.get hw;rw[t] at o;cases o;obtain⟨d,q,C⟩:=P.get' hw;obtain⟨g,M⟩:=he d _ y (sh d (cP q)) C z;exact⟨d,q,g,M⟩
   have hj:j<a.toArray.size:=by rw[az,<-f.length,<-P.length];exact V
   refine cA F.slot_list_index ⟨_,R,rfl⟩ F.entry_list_index (F.args_list_index_2 _ _) (SeqAt.list_indexAt p a.toArray n dd sl N G j hj ?_ ?_ ?_) ⟨R,λy t=>?_,?_⟩
   ·have h6:=l.2.2.2;have h7:sizeLine<2 ^ 62:=by decide
    omega
   ·obtain⟨d,g,_,L⟩:=b j (a.toArray[j]) (by simp);rw[U] at g;cases g;rw[L];exact h4
   ·intro m hm D;obtain⟨d,g,_,L⟩:=b m (a.toArray[m]) (by simp);rw[L];exact T m d D g
   ·obtain⟨i,hi⟩:=List.mem_iff_getElem?.mp (show y∈a by simpa using t);obtain⟨d,_,M,_⟩:=b i y hi;exact M
   ·exact⟨.int _,H,I.tok _,⟨_,rfl⟩,k.here (fv.fG.mpr rfl)⟩
  ·rw[ao l] at e;cases e
 ·cases e
def A3(g:fe->Lp->Od)(f:c5->Od)(a:c5->Option Lp):c5->Od:=λρ=>(f ρ).bind λd=>(a ρ).bind λb=>match d with | .list z=>g (.list z) b|_=>Z
theorem EZ{a:Str}{n:String}{g:fe->Lp->Od} (j:Slot "list" a n) (q:typeOf (.builtin n)=pure (.type "method_descriptor")) (C:PN X n (λx vs H Q=>∃d ds c,fv X.K H d x/\dt X.K H ds vs/\g d ds=Y c/\KD X.K H c Q)) (B:PD X o f) (D:BZ X (e::es) ff)
  (i:attributeBase o a X.env (eval o X.env)=eval o X.env:=by rfl)
  (l:((backTo gQ (starEach (e::es) X.env)).all (λx=>!x.1)&&(backToKw gQ (keywordEach [] X.env)).all (λx=>x.1.isSome)
  &&decide ((e::es).length+([]:List Keyword).length+(if ([]:List Keyword).isEmpty then 0 else 1)<30))=true:=by rfl)
  (h:(apos.endLine==gQ.line)=true:=by rfl) (m:zE e es X:=by rfl) (b:(backTo gQ (starEach es X.env)).any (·.1)=false:=by rfl):
  PD X (.Call (.Attribute o a apos) (e::es) [] gQ) (A3 g f ff) :=
 PE.imp (Ce b7 j q C B D i l h m b) λσ H Q ⟨ρ,d,m,e,k⟩=>by
  obtain⟨x,G,F⟩:=bind_some e;obtain⟨ds,E,u⟩:=bind_some F;obtain⟨z,rfl⟩:∃z,x=.list z:=by cases x<;>first|exact⟨_,rfl⟩|cases u
  refine⟨ρ,_,m,G,λv L s t=>?_⟩;obtain⟨p,vs,rfl,y,I⟩:=fv.fY.mp t;exact⟨.inl ⟨rfl,vs,y⟩,ρ,ds,m.same s,E,λw J r A=>⟨_,ds,d,t.same r,A,u,k.later (s.trans r)⟩⟩
end
end L2
namespace L2
open PySem PySem.Spec PyProof.Rows
section
noncomputable def xb(g:c5->Option Bool)(f:c5->Od)(ρc:c5):Lp->Option Lp
 |[]=>Y []
 |d::ds=>match d with
  |.tuple [a,b]=>(g (Y a::Y b::ρc)).bind λc=>if c then (f (Y a::Y b::ρc)).bind λy=>(xb g f ρc ds).bind λe=>Y (y::e) else xb g f ρc ds
  |_=>Z
def A4(q:c5->Option Lp)(a:List (Nat×Str))(g:c5->Option Bool)(f:c5->Od):c5->Od:=λρ=>
 (q ρ).bind λb=>if b.length<=sizeLine then (xb g f (pJ a ρ) b).map .list else Z
theorem Kx{m a:Expr}{b:Str}{o i r:Pos}{t:Nat}{j:Lx}
  (A:X.calm=true) (S:jZ scope x) (u:scope.names.lookup b=Y .local) (n:∀p∈scope.names,p.2=.free->∃c,X.env.cells.lookup p.1=Y c) (l:kQ X scope caps) (k:(x::b::caps.map (·.2)).Nodup)
  (w:Jd X (.Tuple [.Name x o,.Name b i] t r) a q)
  (v:∀C s H fp,vD (k7 X scope C (x::b::caps.map (·.2)) s H fp) j g)
  (y:∀C s H fp,PD (k7 X scope C (x::b::caps.map (·.2)) s H fp) m f):HZ X (.ListComp m [⟨.Tuple [.Name x o,.Name b i] t r,a,j,0⟩] scope pos) scope a (tD X.K (A4 q caps g f)):=
 (Cq (bd:=Nl 2 (JY (Gx 0) (JY (Gx 1) Ue))) (λ_ G ds vs=>dt X.K G ds vs) dt.length (λh s=>h.same s) [x,b] (xb g f) A S n l w (λC s H fp=>Nm rfl (y8 (wK 0 k rfl (.inl (b5 S.var)) (.inr (b5 S.var))) (y8 (wK 1 k rfl (.inl (b5 u)) (.inr (b5 u))) JZ))) v (λC s H fp=>Gz (y C s H fp) rfl) za (λ_ _ e=>by cases e;rfl) λc d ds D h=>by
  unfold xb at h;split at h
  ·obtain⟨z,B,e⟩:=bind_some h;exact⟨[Y _,Y _],z,rfl,rfl,B,Gy e⟩
  ·cases h).data
theorem HZ.pe2{f a:Expr}{j:Str}{k d l:Pos}{n:Nat}{e:Lx}{t:TE} (h:HZ X (.ListComp f [⟨.Tuple [.Name x k,.Name j d] n l,a,e,0⟩] scope pos) scope a t) (S:jZ scope x) (i:∀p∈scope.names,p.2=.free->∃c,X.env.cells.lookup p.1=Y c)
  (r:∀x,foldedSetIterable a X.env x=pure x:=by intro _;rfl):PE X (.ListComp f [⟨.Tuple [.Name x k,.Name j d] n l,a,e,0⟩] scope pos) t:=by
 intro b s σ H Q I y;rw[eval_ListComp];refine cU (use:=Z) rfl r (oV i) S.kind S.loc (@h b s σ H Q (compPost (model X.prog X.w) X.A X.xe Z (EP X b σ Q)) I y ?_);intro D C E B F m z v u o q;exact⟨m,v,λG g=>⟨.ref D,B,z.wN u o g,rfl,q⟩⟩
end
section
variable {a b c:Expr}{rest:Lx}{fa fb fc:c5->Od}{p2:Pos}
def UB(d:fe):Option Bool:=match d with | .bool b=>Y b|_=>Z
noncomputable def sg(f g:c5->Od):c5->Od:=λρ=>(f ρ).bind λd=>(UB d).bind λb=>if b then g ρ else Y (.bool false)
theorem Ky{b:Bool}(h:UB d=Y b):d=.bool b:=by cases d<;>first|(cases h;rfl)|cases h
theorem wc{b:BoolOp}(h:PD X a f):PD X (.BoolOp b [a] pos) f:=QH h
theorem rE(j:PD X a fa)(i:PD X (.BoolOp .And (b::rest) pos) fb):PD X (.BoolOp .And (a::b::rest) pos) (sg fa fb) :=
 PE.imp (QI j i) λσ H Q ⟨ρ,d,g,e,k⟩=>by
  obtain⟨x,n,m⟩:=bind_some e;obtain⟨y,l,c⟩:=bind_some m;cases Ky l;refine⟨ρ,_,g,n,λv o f h=>⟨y,fv.fT.mp h,?_⟩⟩;cases y with
  |true=>rw[ai rfl] at c ⊢;exact⟨ρ,d,g.same f,c,k.later f⟩
  |false=>rw[ao aR] at c ⊢;cases c;exact k _ o f (fv.fT.mpr rfl)
noncomputable def Xm(x y:fe):Od:=match x,y with | .bool a,.bool b=>Y (.bool (a==b))|_,_=>Z
noncomputable def E1(x y:fe):Od:=match x,y with | .bool a,.bool b=>Y (.bool (a != b))|_,_=>Z
theorem UC:ti X (compareOp .Is) Xm:=by
 intro f s σ H x y v u Q I b a ⟨d,i,c,h,g,e,k⟩;cases d<;>cases i<;>try (simp[Xm] at e;done)
 cases e;rw[fv.fT.mp h] at b;rw[fv.fT.mp g] at a;cases b;cases a;exact is_bool ⟨.bl _,H,I,rfl,k.here (fv.fT.mpr rfl)⟩
theorem Kz:ti X (compareOp .IsNot) E1:=by
 intro f s σ H x y v u Q I b a ⟨d,i,c,h,g,e,k⟩;cases d<;>cases i<;>try (simp[E1] at e;done)
 cases e;rw[fv.fT.mp h] at b;rw[fv.fT.mp g] at a;cases b;cases a;exact isnot_bool ⟨.bl _,H,I,rfl,k.here (fv.fT.mpr rfl)⟩
noncomputable def oB:Lp->Option (List Bool)
 |[]=>Y []
 |.bool b::r=>(oB r).map (b::·)
 |_::_=>Z
theorem tM:∀{b:Lp}{a:List Bool},oB b=Y a->b=a.map .bool
 |[],a,h=>by cases h;rfl
 |d::r,a,h=>by
  cases d<;>try (simp[oB] at h;done)
  obtain⟨c,e,rfl⟩:=ak.mp h;rw[tM e];rfl
noncomputable def aac:Lp->Od | [.list ds]=>(oB ds).map λa=>.bool (a.any id)|_=>Z
noncomputable def KA:Lp->Od | [.list ds]=>(oB ds).map λa=>.bool (a.all id)|_=>Z
theorem E2{K:Fg}{c:List Bool}{a:Lw}(i:dt K H (c.map .bool) vs)(r:f7 vs a){j:Nat}{v:Value}(e:a[j]?=Y v):∃b,c[j]?=Y b/\v=.bool b:=by
 have n:j<a.length:=(aM.mp e).1;have k:=r.length;have d:=i.length;have f:j<c.length:=by simpa [k,d] using (by rw[ah] at d;omega:j<c.length)
 have q:(c.map fe.bool)[j]?=Y (.bool c[j]):=by rw[aJ,aO f];rfl
 obtain⟨x,m,l⟩:=i.get q;obtain⟨u,h,g⟩:=r.get m;rw[e] at h;cases h;rw[fv.fT.mp l] at g;exact⟨_,aO f,g⟩
theorem KC(w:X.calm=true):vi X (.builtin "all") KA:=by
 intro j s σ H F J Q I r ⟨D,c,i,e,k⟩
 match D,e with
 |[.list E],e=>
  obtain⟨d,C,rfl⟩:=ak.mp e;cases tM C;obtain⟨v,rfl,z⟩:=i6 i;obtain⟨p,G,rfl,B,m⟩:=fv.fY.mp z;obtain⟨u,rfl,n⟩:=wA r;cases n;obtain⟨a,h,o,N⟩:=I.list B;have g:=o.isList;have f:p<(zB s):=by obtain⟨_,e,_⟩:=g;exact av e
  refine call_all_walk (cZ g ?_);refine⟨(zB s),[(zB s),p],[(zB s)],a.toArray.size,_,_,λi=>(d[i]?).getD true,rfl,Walks.list (A:=X.A.in1) (I.ok.hd w) _ p (aN f) a.toArray,
   ⟨⟨_,aG _ rfl,rfl,rfl⟩,g.push _⟩,λi v L P R y l=>?_,λO K t=>?_⟩
  ·obtain⟨b,e,rfl⟩:=E2 m h (by simpa using y);simp only[e,Option.getD_some] at l;exact cv l
  ·have e:((List.range a.toArray.size).all λi=>(d[i]?).getD true)=d.all id:=by
    have M:=h.length;have q:=m.length;rw[ah] at q;rw[az,show a.length=d.length by omega];exact LSm.range_all d
   rw[e];refine⟨.bl _,H,I.kept λb x e=>?_,rfl,k.here (fv.fT.mpr rfl)⟩;exact t b x (λhm=>by rw[List.mem_singleton.mp hm] at e;exact aZ _ (av e)) (af _ e)
def uI(X:Cx)(a:Scope):Bool:=a.names.all λp=>p.2 != .free||(X.env.kindOf p.1==Y .cell||X.env.kindOf p.1==Y .free)
theorem pw{i b:Expr}{l:Pos}{c:Lx} (a:List (Nat×Str))
  (t:Jd X (.Name x l) b q)
  (n:∀C s H fp,vD (k7 X scope C (x::a.map (·.2)) s H fp) c g)
  (u:∀C s H fp,PD (k7 X scope C (x::a.map (·.2)) s H fp) i f)
  (v:X.calm=true:=by rfl) (S:jZ scope x:=by exact⟨rfl,by decide +kernel,by decide +kernel,rfl,a0⟩) (k:uI X scope=true:=by rfl) (d:kQ X scope a:=by repeat' (first|exact a0|refine⟨⟨rfl,.inl rfl,rfl⟩,?_⟩|refine⟨⟨rfl,.inr rfl,rfl⟩,?_⟩)) (j:(x::a.map (·.2)).Nodup:=by decide +kernel)
  (o:∀x,foldedSetIterable b X.env x=pure x:=by intro _;rfl):PD X (.ListComp i [⟨.Name x l,b,c,0⟩] scope pos) (iG q a g f):=by
 intro m s σ H Q I w;refine Nq v S (λp r e=>I.ok.has p.1 ?_) d j t n u o s σ H Q I w;have:=aU.mp k p r;simp only[eV,bne_iff_ne,ne_eq,bY] at this;rcases this with h|h
 ·exact absurd e h
 ·exact h
theorem kj(I:fD X pins σ H s)(a:uI X scope=true):∀p∈scope.names,p.2=.free->∃c,X.env.cells.lookup p.1=Y c:=λp b e=>I.ok.has p.1 (by
 have:=aU.mp a p b;simp only[eV,bne_iff_ne,ne_eq,bY] at this;rcases this with h|h
 ·exact absurd e h
 ·exact h)
end
section
variable {m:Md}{a b c o i:Expr}{fa fb fc:c5->Od}{p2 p apos gQ:Pos}
def kA(d:fe):Option Bool:=match d with
 |.dict kF=>if hU kF=true then Z else Y (!kF.isEmpty)
 |d=>EE d
def we(f:c5->Od):c5->Option Bool:=λρ=>(f ρ).bind kA
theorem ik(h:PD X e f)(q:∀whole,isTrue e X.env whole=(do let v <-whole;standAt e.pos;holding [v] (truthy v)):=by intro _;rfl):Ea X e (we f) :=
 PT.imp (B9 h q) λσ H Q ⟨ρ,b,o,e,k⟩=>by
  obtain⟨d,r,a⟩:=bind_some e;refine⟨ρ,d,o,r,λv s l j=>⟨b,?_,k s l⟩⟩;cases d with
  |dict c=>
   unfold kA at a;by_cases g:hU c=true
   ·dsimp only at a;rw[ai g] at a;cases a
   ·dsimp only at a;rw[ao g] at a;cases a;obtain⟨p,i,rfl,n,m⟩:=j.rZ (by simpa using g);refine .inr (.inr ⟨i,n,?_⟩);have:=m.length;cases c<;>cases i<;>first|rfl|(simp at this)
  |_=>exact JX j a
def A5:fe->Bool
 |.none=>true
 |_=>false
def NP(x y:fe):Od:=match y with
 |.none=>Y (.bool (A5 x))
 |y=>Xm x y
def oD(x y:fe):Od:=match y with
 |.none=>Y (.bool (!A5 x))
 |y=>E1 x y
theorem P9{K:Fg}(i:fv K H d v):decide (v=.lP)=A5 d:=by
 cases d with
 |none=>rw[fv.jk.mp i];rfl
 |bool b=>rw[fv.fT.mp i];rfl
 |int j=>rw[fv.fG.mp i];rfl
 |str x=>rw[fv.f6.mp i];rfl
 |list a=>obtain⟨p,c,rfl,_⟩:=fv.fY.mp i;rfl
 |tuple a=>obtain⟨p,c,rfl,_⟩:=i.iF;rfl
 |dict e=>obtain⟨p,rfl,_⟩:=fv.nN.mp i;rfl
theorem KG:ti X (compareOp .Is) NP:=by
 refine lO.imp (lO.or UC QT) λx y H Q ⟨a,b,d,f,c,e,k⟩=>?_;cases b with
 |none=>cases e;exact .inr ⟨fv.jk.mp c,k.here (fv.fT.mpr (by rw[P9 f]))⟩
 |_=>exact .inl ⟨a,_,d,f,c,e,k⟩
theorem uJ:ti X (compareOp .IsNot) oD:=by
 refine lO.imp (lO.or Kz MV) λx y H Q ⟨a,b,d,f,c,e,k⟩=>?_;cases b with
 |none=>cases e;exact .inr ⟨fv.jk.mp c,k.here (fv.fT.mpr (by rw[P9 f]))⟩
 |_=>exact .inl ⟨a,_,d,f,c,e,k⟩
structure Im (K:Fg) (mg:Str->Ow) (x:Str) (d:fe):Prop where
 ex:∃u v,mg x=Y u/\gv v u/\∀H:Hp,fv K H d v
theorem A6(c:Im X.K X.mg x d)(a:Gl X x)(b:zg x:=by decide):PD X (.Name x pos) (dC d):=by obtain⟨u,v,h,g,f⟩:=c.ex;exact PE.imp (Gd a h g b) λσ H Q ⟨ρ,j,i,e,k⟩=>by cases e;exact k.here (f H)
structure oE (P:Program) (w:World) (K:Fg) (mg:Str->Ow) (x:Str) (kF:List (fe×fe)):Prop where
 ex:∃(a:Addr) (vs:List (Key×Value)),mg x=Y (.ref a)/\(a==sysModules)=false/\(∀h:Heap,K.In h->h.DictOf (gL P w) a vs) /\
  ∀k:Key,(lz (jT k) kF=Z/\valueAt vs k=Z)\/∃d v u,lz (jT k) kF=Y d/\valueAt vs k=Y u/\gv v u/\∀H:Hp,fv K H d v
def Qa(a:List (fe×fe))(k:fe):Od:=(tr k).map λ_=>(lz k a).getD .none
theorem NQ(L:oE X.prog X.w X.K X.mg x kF)(G:Gl X x)(J:PD X e fb)(j:M1 X (.Name x p) "get" apos e gQ)(o:zg x:=by decide):PD X (.Call (.Attribute (.Name x p) "get" apos) [e] [] gQ) (λρ=>(fb ρ).bind (Qa kF)):=by
 obtain⟨a,W,O,N,B,M⟩:=L.ex;intro c s σ H Q I ⟨ρ,d,F,V,k⟩;obtain⟨y,U,T⟩:=bind_some V;obtain⟨z,S,l⟩:=ak.mp T;have:=jl S;subst this;have C:=B s.heap I.sR;refine wpAny_Call_method j.base j.WJ j.line eG cj eW (mX I G O ?_ o);refine⟨C.typeIs,λb q=>?_,?_⟩
 ·cases q;obtain⟨E,_,_,g,f,_⟩:=C;exact⟨E,g,f.2.1⟩
 rw[j.trees];refine cG rfl (dM (bL (iP (@J c s σ H (λv H1=>fJ H H1/\fv X.K H1 (jT z) v) I ⟨ρ,_,F,U,λv H1 m i=>⟨m,i⟩⟩) λiv t ⟨v,H1,r,u,m,n⟩=>bQ ?_)));rw[kh n] at u;have h:=B t.heap r.sR;refine call_meetsIn cj h.typeIs de (cW _ _) (meets_dict_get (gL X.prog X.w) a (qF u) N) ⟨_,h.mapOf,?_⟩;have A:=k.later m;rcases M z with ⟨g,f⟩ | ⟨d',D,u',g,f,R,P⟩
 ·rw[g] at l;subst l;rw[f];exact⟨.lP,H1,r.tok _,rfl,A.here (fv.jk.mpr rfl)⟩
 ·rw[g] at l;subst l;rw[f];exact⟨D,H1,r.tok _,R,A.here (P H1)⟩
noncomputable def KH(a:List (fe×fe))(k:fe):Od:=(tr k).map λ_=>.bool (lz k a).isSome
def KI(a:List (fe×fe))(k:fe):Od:=(tr k).bind λ_=>lz k a
theorem RF(z:oE X.prog X.w X.K X.mg x kF)(r:Gl X x)(u:PD X i fb)(g:EC i)(h:zg x:=by decide):PD X (.Subscript (.Name x p) i pos) (λρ=>(fb ρ).bind (KI kF)):=by
 obtain⟨U,O,C,S,B,A⟩:=z.ex;intro a s σ H Q I ⟨ρ,d,q,N,k⟩;obtain⟨y,M,L⟩:=bind_some N;obtain⟨m,J,c⟩:=bind_some L;have:=jl J;subst this;refine Gr PySem.F.slot_dict_getitem.lookup g (mX I r C (iP (@u a s σ H (λv H1=>fJ H H1/\fv X.K H1 (jT m) v) I ⟨ρ,_,q,M,λv H1 e i=>⟨e,i⟩⟩) λR t ⟨v,H1,n,l,e,f⟩=>?_) h);rw[kh f] at l;have b:=B t.heap n.sR;refine⟨b.typeIs,?_⟩;rcases A m with ⟨j,_⟩ | ⟨T,o,P,j,G,E,D⟩
 ·rw[j] at c;cases c
 ·rw[j] at c;cases c;exact wpAny_getItem_of (qF l) b.mapOf G ⟨o,H1,n.tok _,E,(k.later e).here (D H1)⟩
end
theorem Xn{K:Fg}{n:Int}{t:Tok}(h:mg x=Y (.int n t)):Im K mg x (.int n):=⟨_,.int n,h,⟨t,rfl⟩,λH=>fv.fG.mpr rfl⟩
theorem UD{K:Fg}{b:Array Value}{c:List V}(h:K.lookup a=Y (zy b n))(d:b.size<=sizeLine)(e:f7 c b.toList)(H:Hp):rS K H a c:=.inr ⟨_,b,n,h,rfl,rfl,d,e⟩
theorem oz{K:Fg}{b:Array Value}{xs:Lr}(h:K.lookup a=Y (zy b n))(c:b.size<=sizeLine)(d:f7 (xs.map V.str) b.toList)(H:Hp):fv K H (.tuple (xs.map .str)) (.ref a) :=
 fv.nM.mpr ⟨a,_,rfl,UD h c d H,nh xs⟩
def RG(P:Params)(x:Str)(t:Tok)(v:Value):DictEntry:={ hash:=fe.keyHash P x,key:=.str x t,val:=v }
theorem CM(w:World)(x:Str):fe.keyHash w.params x=Qx w (.inr x):=by
 first
 |rfl
 | (unfold fe.keyHash Qx hashStr;rfl)
theorem zq{P:Program}{w:World}:∀(l:List (Str×Tok×Value×fe)),Pairs (gL P w) (l.map λq=>RG w.params q.1 q.2.1 q.2.2.1) (l.map λq=>((.inr q.1:Key),q.2.2.1))
 |[]=>.nil
 |q::l=>.cons (qv P w q.1 q.2.1) rfl (zq l)
theorem CN{K:Fg}(k:Key):∀(l:List (Str×Tok×Value×fe)),(∀q∈l,∃v,gv v q.2.2.1/\∀H:Hp,fv K H q.2.2.2 v) ->
  (lz (jT k) (l.map λq=>(.str q.1,q.2.2.2))=Z/\valueAt (l.map λq=>((.inr q.1:Key),q.2.2.1)) k=Z)\/∃d v u,lz (jT k) (l.map λq=>(.str q.1,q.2.2.2))=Y d/\valueAt (l.map λq=>((.inr q.1:Key),q.2.2.1)) k=Y u/\gv v u/\∀H:Hp,fv K H d v
 |[],_=>.inl ⟨rfl,rfl⟩
 |q::l,hv=>by
  by_cases e:(.inr q.1:Key)=k
  ·right;obtain⟨v,g,f⟩:=hv q (by simp);have a:lR (.str q.1) (jT k)=true:=by rw[show fe.str q.1=jT (.inr q.1) from rfl,jz];exact aX e
   exact⟨q.2.2.2,v,q.2.2.1,by simp[lz,a],by simp[valueAt,bO,e],g,f⟩
  ·have a:¬ lR (.str q.1) (jT k)=true:=by rw[show fe.str q.1=jT (.inr q.1) from rfl,jz];simp[e]
   rcases CN k l (λz h=>hv z (aj _ h)) with ⟨c,b⟩ | ⟨d,v,u,c,b,i⟩
   ·exact .inl ⟨by rw[ae];unfold lz;rw[ao a];exact c,by simp only[valueAt,ae,bO,aA e];exact b⟩
   ·exact .inr ⟨d,v,u,by rw[ae];unfold lz;rw[ao a];exact c,by simp only[valueAt,ae,bO,aA e];exact b,i⟩
theorem GK{P:Program}{K:Fg}{l:List (Str×Tok×Value×fe)} (g:mg x=Y (.ref a)) (m:(a==sysModules)=false)
  (i:K.lookup a=Y { cls:=.type "dict",data:=.dict (l.map λq=>RG w.params q.1 q.2.1 q.2.2.1).toArray n }) (d:(l.map (·.1)).Nodup) (f:∀q∈l,∃v,gv v q.2.2.1/\∀H:Hp,fv K H q.2.2.2 v):
  oE P w K mg x (l.map λq=>(.str q.1,q.2.2.2)):=by
 refine⟨a,l.map λq=>(.inr q.1,q.2.2.1),g,m,λh o=>?_,λk=>CN k l f⟩;refine⟨_,_,n,o a _ i,⟨rfl,rfl,rfl⟩,rfl,λe j=>?_,by simpa using zq l,?_⟩
 ·have c:e∈l.map λq=>RG w.params q.1 q.2.1 q.2.2.1:=by simpa using j
  obtain⟨q,_,rfl⟩:=aq.mp c;exact⟨.inr q.1,qv P w q.1 q.2.1,CM w q.1⟩
 ·rw[cR];have:((λx:Key×Value=>x.1)∘λq:Str×Tok×Value×fe=>((.inr q.1:Key),q.2.2.1))=(λz:Str=>(.inr z:Key))∘(·.1):=rfl;rw[this,<-cR];exact List.Pairwise.map _ (λa b h z=>h (by injection z)) d
section
variable {m:Md}{a b c o i:Expr}{fa fb fc:c5->Od}{p2 p apos gQ:Pos}{rest:List Stmt}{g h:c5->Option Out}
theorem PS.frame{t:TS}(h:PS X st t):PS X st (λD σ H=>∃G B,H=fx G B/\jF G B/\t { nx:=λσ' a=>jF a B->D.nx σ' (fx a B),rt:=λv a=>jF a B->D.rt v (fx a B),bk:=λσ' a=>jF a B->D.bk σ' (fx a B),ct:=λσ' a=>jF a B->D.ct σ' (fx a B) } σ G):=by
 intro g s σ H D I ⟨G,B,j,f,i⟩;subst j;obtain⟨l,k,_,_,b⟩:=GB f.ok I f;refine iP (@h _ s σ G _ k i) λfl e q=>?_;cases fl with
 |next=>obtain⟨σ',a,J,q⟩:=q;obtain⟨c,d⟩:=b a e σ' J;exact⟨σ',_,d,q c⟩
 |brk=>obtain⟨σ',a,J,q⟩:=q;obtain⟨c,d⟩:=b a e σ' J;exact⟨σ',_,d,q c⟩
 |cont=>obtain⟨σ',a,J,q⟩:=q;obtain⟨c,d⟩:=b a e σ' J;exact⟨σ',_,d,q c⟩
 |ret u=>obtain⟨v,σ',a,J,r,q⟩:=q;obtain⟨c,d⟩:=b a e σ' J;exact⟨v,σ',_,d,r,q c⟩
theorem pA(i:Nat) {y:Str}{J c:Pos}{l b:Expr}{r:Pos}{h:Lx} (a:List (Nat×Str)) {g:c5->Option Bool} (W:X.N.Nodup)
  (Q:Jd X (.Name x r) b q)
  (P:∀C s H fp,vD (k7 X scope C (x::a.map (·.2)) s H fp) h g)
  (R:∀C s H fp,PD (k7 X scope C (x::a.map (·.2)) s H fp) l f) (V:i∉O:=by decide)
  (T:X.calm=true:=by rfl) (S:jZ scope x:=by exact⟨rfl,by decide +kernel,by decide +kernel,rfl,a0⟩) (n:uI X scope=true:=by rfl) (p:kQ X scope a:=by repeat' (first|exact a0|refine⟨⟨rfl,.inl rfl,rfl⟩,?_⟩|refine⟨⟨rfl,.inr rfl,rfl⟩,?_⟩)) (w:(x::a.map (·.2)).Nodup:=by decide +kernel)
  (A:X.N[i]?=Y y:=by rfl) (M:X.env.scope.names.lookup y=Y .local:=by rfl) (u:swapsWith (.ListComp l [⟨.Name x r,b,h,0⟩] scope pos) (Y (.Name y J)) c.line X.env=pure true:=by rfl)
  (j:∀x,foldedSetIterable b X.env x=pure x:=by intro _;rfl):sS X m O (.Assign [.Name y J] (.ListComp l [⟨.Name x r,b,h,0⟩] scope pos) c) (fu (fO O (iG q a g f)) i):=by
 intro K s σ H D I U;refine PS.imp (PS.frame (AH (GA T S (kj I n) p w Q P R) S (kj I n) W A M u j)) (λD σ H ⟨ρ,o,G,j,e,k⟩=>?_) s σ H D I U;obtain⟨d,e1,rfl⟩:=ak.mp e;obtain⟨B,eH,fm,t⟩:=j.o.ex;refine⟨G,B,eH,fm,iI O ρ,d,j.o.rest,e1,λv G' F L E=>?_⟩;exact k _ _ G' F (kc.set ⟨hE.uy j.o.len t j.o.lP F E,j.z⟩ V L)
theorem zr{j b:Expr}{c:Str}{l d m:Pos}{o:Nat}{e:Lx} (a:List (Nat×Str)) {g:c5->Option Bool}
  (t:Jd X (.Tuple [.Name x l,.Name c d] o m) b q)
  (p:∀C s H fp,vD (k7 X scope C (x::c::a.map (·.2)) s H fp) e g)
  (u:∀C s H fp,PD (k7 X scope C (x::c::a.map (·.2)) s H fp) j f)
  (v:X.calm=true:=by rfl) (S:jZ scope x:=by exact⟨rfl,by decide +kernel,by decide +kernel,rfl,a0⟩) (y:scope.names.lookup c=Y .local:=by rfl) (h:uI X scope=true:=by rfl) (i:kQ X scope a:=by repeat' (first|exact a0|refine⟨⟨rfl,.inl rfl,rfl⟩,?_⟩|refine⟨⟨rfl,.inr rfl,rfl⟩,?_⟩)) (k:(x::c::a.map (·.2)).Nodup:=by decide +kernel)
  (r:∀x,foldedSetIterable b X.env x=pure x:=by intro _;rfl):PD X (.ListComp j [⟨.Tuple [.Name x l,.Name c d] o m,b,e,0⟩] scope pos) (A4 q a g f):=by
 intro n s σ H Q I w;exact HZ.pe2 (Kx v S y (kj I h) i k t p u) S (kj I h) r s σ H Q I w
section
variable {K:Fg}{O':List Nat}{j:Nat}
theorem iV.snoc{l:Bool}(e:(ρ[j]?).join=Z):∀{k:List Nat}{B:List (Addr×HO)},iV l K σ ρ G k B↔iV l K σ ρ G (k++[j]) B
 |[],B=>⟨λh=>.inl ⟨e,h⟩,λh=>by
   rcases h with ⟨_,h⟩ | ⟨d,v,g,f,a,_⟩
   ·exact h
   ·rw[a] at e;cases e⟩
 |i::k,B=>by
  constructor
  ·rintro(⟨a,b⟩ | ⟨d,v,g,f,a,b,c,q,t⟩)
   ·exact .inl ⟨a,(iV.snoc e).mp b⟩
   ·exact .inr ⟨d,v,g,f,a,b,c,q,(iV.snoc e).mp t⟩
  ·rintro(⟨a,b⟩ | ⟨d,v,g,f,a,b,c,q,t⟩)
   ·exact .inl ⟨a,(iV.snoc e).mpr b⟩
   ·exact .inr ⟨d,v,g,f,a,b,c,q,(iV.snoc e).mpr t⟩
theorem hE.freeze(r:(O'++[j]).Nodup)(l:jU (O'++[j])=jU O')(h:hE (O'++[j]) K σ ρ H G):∃D,fJ G D/\hE O' K σ ρ H D:=by
 have I:j∉O':=by rw[a7] at r;exact λz=>r.2.2 j z j (by simp) rfl
 cases hd:(ρ[j]?).join with
 |none=>
  obtain⟨B,w,f,b⟩:=h.ex;rw[l] at b;refine⟨G,.refl G,h.len,⟨B,w,f,(iV.snoc hd).mpr b⟩,λi d q k=>?_⟩;by_cases a:i=j
  ·subst a;rw[q] at hd;cases hd
  ·exact h.lP i d q (by simp[k,a])
 |some d=>
  have e:=join_some hd;obtain⟨v,o,g,n,M,L,f,p,A,y,_,O⟩:=h.own r (by simp) e;have c:(o++(g++n)).Perm ((o++n)++g):=by rw[aQ];exact cL _ aW
  have C:jF G ((o++n)++g):=f.perm c ((A.append y).append p.nE);have m:=C.Cs p.nE;have t:=O (fx G g) m.same (C.Cr (A.append y));have w:H=fx (fx G g) (o++n):=by rw[L,iD f.nd c,h9]
  rw[<-w] at t;have F:j<ρ.length:=(aM.mp e).1;obtain⟨B,J,u,b⟩:=t.ex;rw[l] at b;have s:((ρ.set j Z)[j]?).join=Z:=by rw[aL F];rfl
  refine⟨fx G g,m.same,h.len,⟨B,J,u,((iV.snoc s).mpr b).other λi k=>?_⟩,λi N q k=>?_⟩
  ·have:j≠i:=λz=>I (z▸k);exact⟨(ax this).symm,rfl⟩
  ·by_cases a:i=j
   ·subst a;rw[e] at q;cases q;exact⟨v,M,p.Je m.same λx E=>gw m.nd x E⟩
   ·exact t.lP i N (by rw[ax (Ne.symm a)];exact q) (by simp[k,a])
theorem hE.KJ(m:j∉O')(k:jU (O'++[j])=jU O')(h:hE O' K σ ρ H G):hE (O'++[j]) K σ (ρ.set j Z) H G:=by
 obtain⟨B,n,f,a⟩:=h.ex;rw[<-k] at a;have c:((ρ.set j Z)[j]?).join=Z:=by
  by_cases l:j<ρ.length
  ·rw[aL l];rfl
  ·rw[bX (by simpa using l)];rfl
 refine⟨by simpa using h.len,⟨B,n,f,(iV.snoc c).mp (a.other λi b=>?_)⟩,λi d q b=>?_⟩
 ·have:j≠i:=λz=>m (z▸b);exact⟨ax this,rfl⟩
 ·have g:i∉O':=λz=>b (by simp[z]);have e:j≠i:=λz=>b (by simp[z]);rw[ax e] at q;exact h.lP i d q g
end
noncomputable def KL(j:Nat):Out->Out
 |.nx ρ=>.nx (ρ.set j Z)
 |.bk ρ=>.bk (ρ.set j Z)
 |.ct ρ=>.ct (ρ.set j Z)
 |.rt d=>.rt d
def KN(j:Nat)(g:c5->Option Out):c5->Option Out:=λρ=>(g ρ).map (KL j)
theorem vp{O':List Nat}(j:Nat){i:List Stmt}(r:(O'++[j]).Nodup)(y:j≠0)(h:qp X m O' i g)(c:jU (O'++[j])=jU O':=by rfl):qp X m (O'++[j]) i (KN j g) :=
 yj.imp h λD σ H ⟨ρ,o,G,u,e,k⟩=>by
  have x:j∉O':=by rw[a7] at r;exact λz=>r.2.2 j z j (by simp) rfl
  obtain⟨t,A,rfl⟩:=ak.mp e;obtain⟨F,n,s⟩:=u.o.freeze r c;have v:∀(σ':St),(∀b a,m=.io b a->0∈O'++[j]/\σ'[0]?=Y (Y a)/\jU (O'++[j])=b)->∀b a,m=.io b a->0∈O'/\σ'[0]?=Y (Y a)/\jU O'=b:=λσ' w b a q=>by
   obtain⟨E,C,B⟩:=w b a q;refine⟨?_,C,c▸B⟩;rcases aw.mp E with z|z
   ·exact z
   ·exact absurd (by simpa using z:0=j).symm y
  have p:∀(σ':St) (ρ':c5) (H' f:Hp),kc m O' X.K σ' ρ' H' f->kc m (O'++[j]) X.K σ' (ρ'.set j Z) H' f:=λσ' ρ' H' f q=>⟨q.o.KJ x c,λb a z=>⟨by simp[(q.z b a z).1],(q.z b a z).2.1,c▸(q.z b a z).2.2⟩⟩
  refine⟨ρ,t,F,⟨s,v σ u.z⟩,A,?_⟩;cases t with
  |nx ρ'=>exact λσ' H' f l q=>k σ' H' f (n.trans l) (p _ _ _ _ q)
  |bk ρ'=>exact λσ' H' f l q=>k σ' H' f (n.trans l) (p _ _ _ _ q)
  |ct ρ'=>exact λσ' H' f l q=>k σ' H' f (n.trans l) (p _ _ _ _ q)
  |rt d=>exact P2.later n k
end
section
variable {m:Md}{a b c o i:Expr}{fa fb fc:c5->Od}{p2 p apos gQ:Pos}
theorem pP{n:Int}{j:Nat}{q:Pos}:PD X (.UnaryOp .USub (.Constant (.int n) j q) pos) (zI (-n)) :=
 PE.imp (TH QS c0) λσ H Q ⟨ρ,d,c,e,k⟩=>by cases e;exact⟨ρ,_,c,rfl,λv f a b=>⟨_,fv.fG.mp b,k _ f a (fv.fG.mpr rfl)⟩⟩
theorem NR(F:oE X.prog X.w X.K X.mg x kF)(D:Gl X x)(E:PD X a fa)(C:behindInMarks .In (.Name x p)=false:=by with_unfolding_all rfl)(c:zg x:=by decide):Ea X (.Compare a [.In] [.Name x p] pos) (fB (λρ=>(fa ρ).bind (KH kF))):=by
 obtain⟨m,n,M,L,J,G⟩:=F.ex;have A:lO X (compareOp .In) (λy z H Q=>∃k:Key,y=kV k/\z=.ref m/\Q (.bl (valueAt n k).isSome) H):=by intro j s σ H y z v u Q I t r ⟨k,h,g,q⟩;subst h g;cases r;exact wpAny_in_of (qF t) L (J s.heap I.sR).mapOf ⟨.bl _,H,I.tok _,rfl,q⟩
 refine PT.imp (Gg A E (Gd (v:=.ref m) D M rfl c) C) λσ H Q ⟨ρ,d,B,h,k⟩=>?_;obtain⟨y,g,P⟩:=bind_some (Gv h);obtain⟨l,O,N⟩:=ak.mp P;have:=jl O;subst this;refine⟨ρ,_,B,g,λv R o i=>⟨l,kh i,rfl,?_⟩⟩;have b:=k R o;cases N;rcases G l with ⟨f,e⟩ | ⟨W,S,T,f,e,V,U⟩
 ·rw[f] at b;rw[e];exact⟨_,rfl,b⟩
 ·rw[f] at b;rw[e];exact⟨_,rfl,b⟩
theorem UE(w:PF X e f):PV X O e (Kj f) :=
 PE.imp w λσ H Q ⟨ρ,d,G,p,B,k⟩=>by
  obtain⟨x,A,b⟩:=bind_some B;by_cases a:yp x=true
  ·rw[ai a] at b;cases b;refine⟨ρ,d,p.full,A,λv E F n j r=>?_⟩;have m:fJ H (fx E F):=n.trans j.same;obtain⟨D,g,y,h⟩:=p.grow m;refine k v _ D m g h ?_;cases d<;>try (simp[yp] at a;done)
   rename_i I;obtain⟨q,o,rfl,rfl,s⟩:=r.cont rfl;rcases s with ⟨C,c,l,rfl,i⟩ | ⟨_,_,l,_⟩
   ·cases l;have t:H q=Z:=by
     cases u:H q with
     |none=>rfl
     |some z=>have:=n _ _ u;rw[j.free (q,.lst c) (by simp)] at this;cases this
    exact fv.fY.mpr ⟨q,c,rfl,.inl (.inl (by rw[y q t];exact gw j.nd (q,.lst c) (by simp))),i.kz a⟩
   ·cases l
  ·rw[ao a] at b;cases b
end
section
open PySem.AutoSeq1 Builtin
end
section
variable {m:Md}{a b c o i:Expr}{fa fb fc:c5->Od}{p2 p apos gQ:Pos}
noncomputable def CO(x y:fe):Od:=match x,y with
 |.list xs,.list a=>if xs.length+a.length<=sizeLine then Y (.list (xs++a)) else Z
 |_,_=>Z
theorem RH(z:PD X a fa)(y:PD X b fb):PF X (.BinOp a .Add b pos) (d2 CO fa fb) :=
 PE.imp (Jt Gu z y) λσ H Q ⟨ρ,d,m,e,k⟩=>by
  obtain⟨u,D,C⟩:=bind_some e;obtain⟨v,B,c⟩:=bind_some C;obtain⟨g,rfl⟩:∃g,u=.list g:=by cases u<;>first|exact⟨_,rfl⟩|(cases v<;>cases c)
  obtain⟨f,rfl⟩:∃f,v=.list f:=by cases v<;>first|exact⟨_,rfl⟩|cases c
  dsimp only[CO] at c;by_cases h:g.length+f.length<=sizeLine
  ·rw[ai h] at c;cases c;refine⟨ρ,_,m,D,λv F j x=>⟨ρ,_,m.same j,B,λw E i t=>?_⟩⟩;obtain⟨p,r,rfl,s,l⟩:=fv.fY.mp (x.same i);obtain⟨q,o,rfl,A,n⟩:=fv.fY.mp t;exact⟨p,q,r,o,rfl,rfl,s,A,by rw[<-l.length,<-n.length];exact h,(k.later (j.trans i)).wH (l.append n)⟩
  ·rw[ao h] at c;cases c
def RI(π:Pl):c5->Option Out:=λρ=>(oX π ρ).bind λl=>match l with
 |.list _=>Y (.nx (rW π (.list []) ρ))
 |_=>Z
end
section
variable {m:Md}{a b c o:Expr}{fa fb fc:c5->Od}{p2 p apos gQ:Pos}
noncomputable def Xo(f:c5->Od):c5->Option Lp:=λρ=>(f ρ).bind λd=>match d with | .list ds=>Y ds.reverse|_=>Z
end
end L2
namespace L2
open PySem PySem.Spec PyProof.Rows PySem.Builtin PySem.Builtin.Str
section
variable {m:Md}{a:Expr}{p2:Pos}{sts:List Stmt}
noncomputable def Xp(f:c5->Od):c5->Od:=λρ=>(f ρ).bind λd=>match d with | .list xs=>Y (.list xs.reverse)|_=>Z
end
end L2
namespace L2
open PySem PySem.Spec PyProof.Rows
noncomputable def KP(k v:fe):List (fe×fe)->List (fe×fe)
 |[]=>[]
 | (y,d)::r=>if lR y k=true then (y,v)::r else (y,d)::KP k v r
section
variable {K:Fg}
theorem yo.split{o:Lp}:∀{ds:Lp}{vs:List V}{B:List (Addr×HO)}{j:Nat},yo K G ds vs B->ds[j]?=Y (.list o) ->
  ∃p h l k,vs[j]?=Y (.ref p)/\B=l++(p,.lst h)::k/\dt K G o h/\∀g f,dt K G g f->yo K G (ds.set j (.list g)) vs (l++(p,.lst f)::k)
 |[],_,_,_,_,e=>by simp at e
 |d::ds,_,_,0,⟨v,Kc,l,k,a,b,c,t⟩,e=>by
  rw[bq] at e;cases e;subst a b;rcases c with ⟨c,_⟩ | ⟨g,p,h,n,rfl,rfl,i⟩
  ·cases c
  ·cases n;exact⟨p,h,[],k,rfl,rfl,i,λg f m=>⟨_,_,[(p,.lst f)],k,rfl,rfl,.inr ⟨g,p,f,rfl,rfl,rfl,m⟩,t⟩⟩
 |d::ds,_,_,j+1,⟨v,Kc,l,k,a,b,c,t⟩,e=>by rw[bJ] at e;subst a b;obtain⟨p,h,r,q,n,rfl,i,s⟩:=yo.split t e;exact⟨p,h,l++r,q,n,by simp,i,λg f m=>⟨_,_,l,r++(p,.lst f)::q,rfl,by simp,c,s g f m⟩⟩
theorem yo.length:∀{ds:Lp}{vs:List V}{B:List (Addr×HO)},yo K G ds vs B->ds.length=vs.length
 |[],_,_,h=>by rw[h.1];rfl
 |_::_,_,_,⟨v,Kc,B1,B2,a,b,c,t⟩=>by rw[a,ay,ay,t.length]
theorem GC.split{w:Lp}{y:Key}:∀{h:List (fe×fe)}{s:List (Key×V)}{B:List (Addr×HO)},GC K G h s B->lz (jT y) h=Y (.list w) ->
  ∃p j n m,pG s y=Y (.ref p)/\B=n++(p,.lst j)::m/\dt K G w j/\∀g f,dt K G g f->GC K G (KP (jT y) (.list g) h) s (n++(p,.lst f)::m)
 |[],_,_,_,e=>by cases e
 | (k,d)::r,_,_,⟨z,v,r',n,m,a,a2,b,c,t⟩,e=>by
  subst a a2 b;rw[lz] at e;by_cases q:z=y
  ·subst q;have l:lR (jT z) (jT z)=true:=by rw[jz];simp
   rw[ai l] at e;cases e;rcases c with ⟨c,_⟩ | ⟨g,p,j,o,rfl,rfl,i⟩
   ·cases c
   ·cases o;refine⟨p,j,[],m,by simp[pG],rfl,i,λg f u=>?_⟩;rw[KP,ai l];exact⟨z,_,r',[(p,.lst f)],m,rfl,rfl,rfl,.inr ⟨g,p,f,rfl,rfl,rfl,u⟩,t⟩
  ·have l:¬ lR (jT z) (jT y)=true:=by rw[jz];simpa using q
   rw[ao l] at e;obtain⟨p,j,A,x,o,rfl,i,C⟩:=GC.split t e;refine⟨p,j,n++A,x,?_,by simp,i,λg f u=>?_⟩
   ·unfold pG at o ⊢;rw[bO,aA q];exact o
   ·rw[KP,ao l];exact⟨z,v,r',n,A++(p,.lst f)::x,rfl,rfl,by simp,c,C g f u⟩
end
noncomputable def UG:Od->Option Lp
 |some (.list us)=>Y us
 |_=>Z
theorem CP{o:Od}{a:Lp}(h:UG o=Y a):o=Y (.list a):=by
 cases o with
 |none=>cases h
 |some d=>cases d<;>first|(cases h;rfl)|cases h
noncomputable def E3(l a:fe):Option Lp:=match l with
 |.list ds=>match a with | .int i=>UG (rY ds i)|_=>Z
 |.dict kF=>if hU kF=true then Z else (tr a).bind λ_=>UG (lz a kF)
 |_=>Z
noncomputable def zu(l a:fe)(b:Lp):fe:=match l,a with
 |.list ds,.int i=>match Ap ds.length i with|some j=>.list (ds.set j (.list b))|none=>l
 |.dict kF,a=>.dict (KP a (.list b) kF)
 |l,_=>l
section
variable {m:Md}{a b c o:Expr}{fa fb fc fk:c5->Od}{p2 p apos gQ:Pos}
def UH(K:Fg)(σ:St)(H:Hp)(c:fe)(q p:Addr):Prop:=(∃a i,H q=Y (.lst a)/\c=.int i/\rY a i=Y (.ref p))\/∃b y,H q=Y (.dK b)/\c=jT y/\pG b y=Y (.ref p)
theorem UH.eq{K:Fg}{n:Hp}{l:fe}{q p k:Addr}(s:UH K σ H l q p)(m:UH K σ n l q k)(e:fJ H n):p=k:=by
 rcases s with ⟨t,i,d,j,h⟩ | ⟨u,y,d,j,h⟩
 ·rcases m with ⟨f,r,a,c,b⟩ | ⟨g,o,a,c,b⟩
  ·rw[e _ _ d] at a;cases a;rw[j] at c;cases c;rw[h] at b;cases b;rfl
  ·rw[e _ _ d] at a;cases a
 ·rcases m with ⟨f,r,a,c,b⟩ | ⟨g,o,a,c,b⟩
  ·rw[e _ _ d] at a;cases a
  ·rw[e _ _ d] at a;cases a;have:=JU (j.symm.trans c);subst this;rw[h] at b;cases b;rfl
theorem hE.inner{K:Fg}(B:O.Nodup)(h:hE O K σ ρ H G){π:Pl}{l J:fe}{M:Lp}(hi:π.ix∈O)(D:tw O π=true)(hd:oX π ρ=Y l)(e:E3 l J=Y M):
  ∃q p u,vE K σ H π q/\H p=Y (.lst u)/\dt K G M u/\UH K σ H J q p /\
   ∀b a,dt K G b a->hE O K σ (rW π (zu l J b) ρ) (upd H p (.lst a)) G:=by
 cases l<;>try (simp[E3] at e;done)
 ·rename_i E;cases J<;>try (simp[E3] at e;done)
  rename_i i;have f:=CP (show UG (rY E i)=Y M from e);obtain⟨q,ob,Bi,o,n,r,g,c,Q,P,A,I⟩:=h.EN B hi hd rfl;rw[D] at A I;rcases A with ⟨YF,d,x,rfl,m⟩ | ⟨_,_,x,_⟩
  ·cases x;have hl:=m.length;unfold rY at f;cases L:Ap E.length i with
   |none=>rw[L] at f;cases f
   |some j=>
    rw[L] at f;obtain⟨p,u,t,s,X,rfl,R,z⟩:=m.split (show E[j]?=_ from f);have k:∀a:List V,o++((q,HO.lst d)::((t++(p,HO.lst a)::s)++n))=(o++(q,HO.lst d)::t)++(p,HO.lst a)::(s++n):=λa=>by simp
    have W:rY d i=Y (.ref p):=by unfold rY;rw[<-hl,L];exact X
    have T:H q=Y (.lst d):=by rw[g];exact gw c.nd (q,.lst d) (by simp)
    rw[k] at g c;refine⟨q,p,u,r,by rw[g];exact gw c.nd (p,.lst u) (by simp),R,.inl ⟨d,i,T,rfl,W⟩,λb a S=>?_⟩;have F:=z b a S;have ep:zu (.list E) (.int i) b=.list (E.set j (.list b)):=by simp only[zu,L]
    have N:qr (o++((q,HO.lst d)::((t++(p,HO.lst a)::s)++n))):=Q.append (.one a0 (F.nE.append P));have w:jF G ((o++(q,HO.lst d)::t)++(p,HO.lst a)::(s++n)):=c.put (by rw[<-k];exact N);rw[g,ph c.nd,ep,<-k];exact I G _ _ _ (.refl G) (.inl ⟨_,d,rfl,rfl,F⟩) (by rw[k];exact w)
  ·cases x
 ·rename_i C;unfold E3 at e;dsimp only at e;by_cases U:hU C=true
  ·rw[ai U] at e;cases e
  rw[ao U] at e;obtain⟨y,e0,f⟩:=bind_some e;have f:=CP f;have:=jl e0;subst this;obtain⟨q,ob,Bi,o,n,r,g,c,Q,P,A,I⟩:=h.EN B hi hd (by show (!hU C)=true;simpa using U);rw[D] at A I;rcases A with ⟨_,_,x,_⟩ | ⟨aad,v,x,rfl,m⟩
  ·cases x
  ·cases x;obtain⟨p,u,t,s,X,rfl,R,z⟩:=m.split f;have k:∀a:List V,o++((q,HO.dK v)::((t++(p,HO.lst a)::s)++n))=(o++(q,HO.dK v)::t)++(p,HO.lst a)::(s++n):=λa=>by simp
   have T:H q=Y (.dK v):=by rw[g];exact gw c.nd (q,.dK v) (by simp)
   rw[k] at g c;refine⟨q,p,u,r,by rw[g];exact gw c.nd (p,.lst u) (by simp),R,.inr ⟨v,y,T,rfl,X⟩,λb a S=>?_⟩;have F:=z b a S;have N:qr (o++((q,HO.dK v)::((t++(p,HO.lst a)::s)++n))):=Q.append (.one a0 (F.nE.append P));have w:jF G ((o++(q,HO.dK v)::t)++(p,HO.lst a)::(s++n)):=c.put (by rw[<-k];exact N);rw[g,ph c.nd,<-k];exact I G _ _ _ (.refl G) (.inr ⟨_,v,rfl,rfl,F⟩) (by rw[k];exact w)
noncomputable def E4(π:Pl)(c f:c5->Od):c5->Option Out:=λρ=>(oX π ρ).bind λl=>(c ρ).bind λb=>(E3 l b).bind λa=>(f ρ).bind λd=>if a.length<sizeLine then Y (.nx (rW π (zu l b (a++[d])) ρ)) else Z
theorem Io(hu:X.A.units+64<cLine) {π:Pl}{k:Expr}{b:Pos} (C:O.Nodup) (ho:PP X o π) (hk:PV X O k fk) (he:PV X O e f) (VJ:sX k) (W:EC k) (hO:π.ix∈O:=by decide) (I:tw O π=true:=by rfl)
  (U:starEach [e] X.env=(false,eval e X.env)::starEach [] X.env:=by rfl)
  (J:attributeBase (.Subscript o k b) "append" X.env (eval (.Subscript o k b) X.env)=eval (.Subscript o k b) X.env:=by rfl)
  (Xq:((backTo gQ (starEach [e] X.env)).all (λx=>!x.1)&&(backToKw gQ (keywordEach [] X.env)).all (λx=>x.1.isSome)&&decide (([e]:Lx).length+([]:List Keyword).length+(if ([]:List Keyword).isEmpty then 0 else 1)<30))=true:=by rfl)
  (E:(apos.endLine==gQ.line)=true:=by rfl) (s:(backTo gQ (starEach [] X.env)).any (·.1)=false:=by rfl)
  (P:swapsWith (.Call (.Attribute (.Subscript o k b) "append" apos) [e] [] gQ) Z pos.line X.env=pure false:=by rfl):
  sS X m O (.Expr (.Call (.Attribute (.Subscript o k b) "append" apos) [e] [] gQ) pos) (E4 π fk f) :=
 PS.imp (sV (Ce b7 PySem.F.slot_list_append PySem.F.type_list_append y2 (PE.or (PQ Gn ho hk VJ) (Gs (by omega) ho hk W)) (md he qC U) J Xq E U s) P) λD σ H ⟨ρ,o,G,P,e,kk⟩=>by
  obtain⟨l,e1,ea⟩:=bind_some e;obtain⟨kd,e2,eb⟩:=bind_some ea;obtain⟨us,e3,ec⟩:=bind_some eb;obtain⟨d,e4,ed⟩:=bind_some ec;by_cases hz:us.length<sizeLine
  ·rw[ai hz] at ed;cases ed;obtain⟨q,p,ws,r,hp,iw,al,_⟩:=P.o.inner C hO I e1 e3;have B:∀(R:Addr) (H1 j:Hp),fJ H H1->fJ G j->hE O X.K σ ρ H1 j->UH X.K σ H1 kd q R->(∃c,H1 R=Y (.lst c))/\∀(u:V) (t w:Hp),fJ H1 t->fJ j w->hE O X.K σ ρ t w->fv X.K w d u ->
     ∃a,t R=Y (.lst a)/\a.length<sizeLine/\D.nx σ (upd t R (.lst (a++[u]))):=λR H1 j n Q L a1=>by
    obtain⟨q1,p2,c,r1,h,iw1,M,_⟩:=L.inner C hO I e1 e3;have:=vE.eq r r1 n;subst this;have:=a1.eq M (.refl H1);subst this;refine⟨⟨c,h⟩,λu t w N g h2 T=>?_⟩;obtain⟨q2,p3,a,r2,S8,S,b2,cl⟩:=h2.inner C hO I e1 e3;have:=vE.eq r1 r2 N;subst this;have:=a1.eq b2 N;subst this;exact⟨a,S8,by rw[<-S.length];exact hz,kk _ _ w (Q.trans g) ⟨cl _ _ (S.append (dt.cons T dt.nil)),P.z⟩⟩
   rcases al with ⟨xs,i,M,b2,b3⟩ | ⟨kv,y,M,b2,b3⟩
   ·subst b2;refine .inl ⟨q,r,ρ,.int i,G,P.o,e2,λv H1 j n Q L i1=>⟨q,xs,i,.ref p,rfl,fv.fG.mp i1,o8.of (n _ _ M),b3,?_⟩⟩;obtain⟨⟨c,h⟩,tl⟩:=B p H1 j n Q L (.inl ⟨xs,i,n _ _ M,rfl,b3⟩);refine⟨.inl ⟨rfl,c,o8.of h⟩,ρ,d,j,L,e4,λu t w N g h2 T=>?_⟩;obtain⟨a,c1,c2,c3⟩:=tl u t w N g h2 T;exact⟨p,a,u,rfl,rfl,c1,c2,c3⟩
   ·subst b2;refine .inr ⟨q,r,ρ,jT y,G,P.o,e2,λv H1 j n Q L i1=>⟨q,.ref p,rfl,by rw[kh i1,<-b3];exact tf.k (n _ _ M),?_⟩⟩;obtain⟨⟨c,h⟩,tl⟩:=B p H1 j n Q L (.inr ⟨kv,y,n _ _ M,rfl,b3⟩);refine⟨.inl ⟨rfl,c,o8.of h⟩,ρ,d,j,L,e4,λu t w N g h2 T=>?_⟩;obtain⟨a,c1,c2,c3⟩:=tl u t w N g h2 T;exact⟨p,a,u,rfl,rfl,c1,c2,c3⟩
  ·rw[ao hz] at ed;cases ed
theorem UI(e:(B.map (·.1)).Nodup)(f:∀x∈B,H x.1=Y x.2):∃G,H=fx G B/\(∀x∈B,G x.1=Z)/\∀a,(∀x∈B,x.1≠a)->G a=H a:=by
 let G:Hp:=λa=>if (∃x∈B,x.1=a) then Z else H a
 have d:∀a,(∀x∈B,x.1≠a)->G a=H a:=λa c=>ao λ⟨x,b,z⟩=>c x b z;have g:∀x∈B,G x.1=Z:=λx b=>ai ⟨x,b,rfl⟩;exact⟨G,rA e f λa c=>(d a c).symm,g,d⟩
end
section
variable {m:Md}{a b c o:Expr}{fa fb fc:c5->Od}{p2 p apos gQ:Pos}
end
section
variable {m:Md}{a b c o:Expr}{fa fb fc:c5->Od}{p2 p apos gQ:Pos}
def AD(K:Fg)(b G:Hp)(d:Lp)(c:List V):Prop:=∃a B,G=fx a B/\jF a B/\fJ b a/\yo K a d c B
theorem yo.snoc{K:Fg}{G:Hp}{d:fe}{v:V}{e:List (Addr×HO)}(i:Mz K G d v e):∀{f:Lp}{g:List V}{B:List (Addr×HO)},yo K G f g B->yo K G (f++[d]) (g++[v]) (B++e)
 |[],_,_,h=>by obtain⟨rfl,rfl⟩:=h;exact⟨v,[],e,[],rfl,by simp,i,rfl,rfl⟩
 |x::f,_,_,⟨u,j,l,k,a,b,c,t⟩=>by subst a b;exact⟨u,_,l,k++e,rfl,by simp,c,yo.snoc i t⟩
theorem AD.len{K:Fg}{b:Hp}(h:AD K b G ds vs):ds.length=vs.length:=by obtain⟨a,B,_,_,_,d⟩:=h;exact d.length
theorem AD.same{K:Fg}{b G g:Hp}{ds:Lp}{vs:List V}(h:AD K b G ds vs)(e:fJ G g):AD K b g ds vs:=by
 obtain⟨q,B,rfl,f,s,d⟩:=h;have m:∀x∈B,g x.1=Y x.2:=λx c=>e _ _ (gw f.nd x c);obtain⟨l,p,o,n⟩:=UI f.nd m;have i:fJ q l:=λa r k=>by
  have j:∀x∈B,x.1≠a:=λx c z=>by have:=f.free x c;rw[z,k] at this;cases this
  rw[n a j];exact e _ _ (by rw[gY j];exact k)
 exact⟨l,B,p,⟨f.nd,o,f.ok⟩,s.trans i,d.same i⟩
theorem Ip(i:Nat) {y:Str}{py w:Pos}{t h:Expr}{px:Pos}{A:Lx} (a:List (Nat×Str)) (hN:X.N.Nodup) (Up:O.Nodup)
  (hi:Jd X (.Name x px) h q)
  (ht:∀C s H fp,vD (k7 X scope C (x::a.map (·.2)) s H fp) A g)
  (he:∀C s H fp,PF (k7 X scope C (x::a.map (·.2)) s H fp) t f) (hO:i∈O:=by decide) (Xr:jU O=true:=by rfl) (h0:i≠0\/m=.dat\/m=.own:=by first|exact .inl (by decide)|exact .inr (.inl rfl)|exact .inr (.inr rfl))
  (hc:X.calm=true:=by rfl) (S:jZ scope x:=by exact⟨rfl,by decide +kernel,by decide +kernel,rfl,a0⟩) (M:uI X scope=true:=by rfl) (P:kQ X scope a:=by repeat' (first|exact a0|refine⟨⟨rfl,.inl rfl,rfl⟩,?_⟩|refine⟨⟨rfl,.inr rfl,rfl⟩,?_⟩)) (hnd:(x::a.map (·.2)).Nodup:=by decide +kernel)
  (hiy:X.N[i]?=Y y:=by rfl) (hy:X.env.scope.names.lookup y=Y .local:=by rfl) (hsw:swapsWith (.ListComp t [⟨.Name x px,h,A,0⟩] scope pos) (Y (.Name y py)) w.line X.env=pure true:=by rfl)
  (r:∀x,foldedSetIterable h X.env x=pure x:=by intro _;rfl):sS X m O (.Assign [.Name y py] (.ListComp t [⟨.Name x px,h,A,0⟩] scope pos) w) (jH (fO O (iG q a g (Kj f))) i):=by
 intro pins s σ H D I hQ;have he':∀C s H fp,PE (k7 X scope C (x::a.map (·.2)) s H fp) t (λσ G Q=>∃ρ F,jE X.K G σ ρ/\Kj f ρ=Y F/\∀v W,fJ G W->(∀b ds c,AD X.K b G ds c->AD X.K b W (ds++[F]) (c++[v]))->Q v W):=λC s H fp=>
  PE.imp (he C s H fp) λσ G Q ⟨ρ,F,r,e,k⟩=>by
   obtain⟨d,e1,u⟩:=bind_some e;by_cases E:yp d=true
   ·rw[ai E] at u;cases u;refine⟨ρ,F,r,e1,λv G1 n sG fB L=>?_⟩;cases F<;>try (simp[yp] at E;done)
    rename_i us;obtain⟨p,ob,rfl,rfl,oc⟩:=L.cont rfl;obtain⟨J,rfl,iw⟩:=oc.lst;refine k _ _ (sG.trans fB.same) λb ds c ad=>?_;obtain⟨j,B,rfl,f0,T,V⟩:=AD.same ad sG;have U:jF j ([(p,HO.lst J)]++B):=f0.join fB;have pm:([(p,HO.lst J)]++B).Perm (B++[(p,HO.lst J)]):=aW;refine⟨j,B++[(p,HO.lst J)],?_,U.perm pm (V.nE.append (.one a0 .nil)),T,V.snoc (.inr ⟨us,p,J,rfl,rfl,rfl,iw.kz E⟩)⟩;rw[<-h9];exact iD U.nd pm
   ·rw[ao E] at u;cases u
 refine PS.imp (PS.frame (AH (wO (AD X.K) AD.len AD.same hc S (kj I M) P hnd hi ht he') S (kj I M) hN hiy hy hsw r)) (λD σ H ⟨ρ,o,G,r,e,k⟩=>?_) s σ H D I hQ;obtain⟨d,e1,u⟩:=bind_some e;by_cases hl:i<ρ.length
 ·rw[ai hl] at u;cases u;obtain⟨B,eH,fm,own⟩:=r.o.ex;refine⟨G,B,eH,fm,iI O ρ,d,r.o.rest,e1,⟨G,[],rfl,jF.nil,.refl G,rfl,rfl⟩,λys W l c ed sG hD hA R=>?_⟩;subst ed;obtain⟨j,n,rfl,f0,T,V⟩:=hA;have hDf:jF (fx j n) [(l,HO.lst c)]:=⟨by simp,(λx E=>by simp at E;subst E;exact hD),.one a0 .nil⟩
  have U:jF j ((l,HO.lst c)::n):=f0.join hDf;have eu:upd (fx j n) l (.lst c)=fx j ((l,HO.lst c)::n):=rfl;rw[eu] at R ⊢;have f2:jF j (B++((l,HO.lst c)::n)):=U.join R;have L:jG (jU O) X.K j (.list ys) (.ref l) ((l,HO.lst c)::n):=by rw[Xr];exact .inl ⟨l,_,n,rfl,rfl,.inl ⟨ys,c,rfl,rfl,V⟩⟩
  have f3:jF j (((l,HO.lst c)::n)++B):=f2.perm aW (L.nE.append fm.ok);have e3:fx (fx j ((l,HO.lst c)::n)) B=fx (fx j B) ((l,HO.lst c)::n):=by rw[<-h9,<-h9];exact iD f2.nd aW
  have h1:hE O X.K σ ρ (fx j B) j:=hE.uy r.o.len own r.o.lP T (f3.Cs fm.ok);obtain⟨G2,s2,h2⟩:=h1.new Up hO hl L (f3.Cr L.nE);rw[e3];refine k _ _ G2 (T.trans s2) ⟨h2,λdp v0 z=>?_⟩;rcases h0 with h0|h0|h0
  ·rw[ax h0];exact r.z dp v0 z
  ·rw[h0] at z;cases z
  ·rw[h0] at z;cases z
 ·rw[ao hl] at u;cases u
end
section
variable {m:Md}{a b c o:Expr}{fa fb fc:c5->Od}{p2 p apos gQ:Pos}{j k:Nat}
noncomputable def vH(x y:fe):Od:=match x,y with
 |.list xs,.int k=>if 0<=k/\k<=1000/\xs.length<=1000 then Y (.list (List.replicate k.toNat xs).flatten) else Z
 |_,_=>Z
theorem dt.rep{K:Fg}{H:Hp}{b:Lp}{a:List V}(h:dt K H b a):∀k:Nat,dt K H (List.replicate k b).flatten (List.replicate k a).flatten
 |0=>dt.nil
 |k+1=>by rw[bN,bN,cz,cz];exact h.append (dt.rep h k)
theorem KQ(G:PF X a fa)(F:PD X b fb):PF X (.BinOp a .Mult b pos) (d2 vH fa fb) :=
 PE.imp (Jt Q9 G F) λσ H Q ⟨ρ,d,w,e,k⟩=>by
  obtain⟨x,L,e⟩:=bind_some e;obtain⟨y,K,c⟩:=bind_some e;obtain⟨i,rfl⟩:∃i,x=.list i:=by cases x<;>first|exact⟨_,rfl⟩|(cases y<;>cases c)
  obtain⟨n,rfl⟩:∃n,y=.int n:=by cases y<;>first|exact⟨_,rfl⟩|cases c
  dsimp only[vH] at c;by_cases s:0<=n/\n<=1000/\i.length<=1000
  ·rw[ai s] at c;cases c;refine⟨ρ,_,w,L,λv O P o h A=>?_⟩;obtain⟨q,M,rfl,rfl,B⟩:=A.cont rfl;obtain⟨f,rfl,r⟩:=B.lst;refine⟨ρ,_,w.same (o.trans h.same),K,λu z j C=>?_⟩;have D:z q=Y (.lst f):=j _ _ (gw h.nd (q,.lst f) (by simp));have N:=r.length;have g:(2:Int) ^ 63=9223372036854775808:=by decide
   have m:f.length*n.toNat<=sizeLine:=by
    have J:f.length<=1000:=by omega
    have I:n.toNat<=1000:=by omega
    exact bu (Nat.mul_le_mul J I) (by decide)
   have l:=(r.same (h.same.trans j)).rep n.toNat;refine⟨q,n,f,rfl,fv.fG.mp C,D,by rw[g];omega,by rw[g];omega,m,λp E=>?_⟩;exact k (.ref p) z [(p,.lst (List.replicate n.toNat f).flatten)] (o.trans (h.same.trans j)) ⟨by simp,(λx t=>by simp at t;subst t;exact E),.one a0 .nil⟩ (jG.Ta (.inl ⟨_,_,rfl,rfl,l⟩))
  ·rw[ao s] at c;cases c
theorem Iq(i:Nat) {y:Str}{py r:Pos}{n c:Expr}{J:Pos}{t:Lx} (a:List (Nat×Str)) (hN:X.N.Nodup) (P:O.Nodup)
  (hi:Jd X (.Name x J) c q)
  (ht:∀C s H fp,vD (k7 X scope C (x::a.map (·.2)) s H fp) t g)
  (he:∀C s H fp,PD (k7 X scope C (x::a.map (·.2)) s H fp) n f) (hO:i∈O:=by decide) (Xr:jU O=false:=by rfl) (h0:i≠0\/m=.dat\/m=.own:=by first|exact .inl (by decide)|exact .inr (.inl rfl)|exact .inr (.inr rfl))
  (hc:X.calm=true:=by rfl) (S:jZ scope x:=by exact⟨rfl,by decide +kernel,by decide +kernel,rfl,a0⟩) (u:uI X scope=true:=by rfl) (w:kQ X scope a:=by repeat' (first|exact a0|refine⟨⟨rfl,.inl rfl,rfl⟩,?_⟩|refine⟨⟨rfl,.inr rfl,rfl⟩,?_⟩)) (T:(x::a.map (·.2)).Nodup:=by decide +kernel)
  (V:X.N[i]?=Y y:=by rfl) (hy:X.env.scope.names.lookup y=Y .local:=by rfl) (R:swapsWith (.ListComp n [⟨.Name x J,c,t,0⟩] scope pos) (Y (.Name y py)) r.line X.env=pure true:=by rfl)
  (l:∀x,foldedSetIterable c X.env x=pure x:=by intro _;rfl):sS X m O (.Assign [.Name y py] (.ListComp n [⟨.Name x J,c,t,0⟩] scope pos) r) (jH (fO O (iG q a g f)) i):=by
 intro pins s σ H D I hQ;have W:∀C s H fp,PE (k7 X scope C (x::a.map (·.2)) s H fp) n (λσ G Q=>∃ρ E,jE X.K G σ ρ/\f ρ=Y E/\∀v G',fJ G G'->(∀(b:Hp) ds vs,dt X.K G ds vs->dt X.K G' (ds++[E]) (vs++[v]))->Q v G'):=λC s H fp=>
  PE.imp (he C s H fp) λσ G Q ⟨ρ,E,l,e,k⟩=>⟨ρ,E,l,e,λv G1 sG iv=>k v G1 sG λb ds vs iw=>(iw.same sG).append (dt.cons iv dt.nil)⟩
 refine PS.imp (PS.frame (AH (wO (λ_ G ds vs=>dt X.K G ds vs) (λh=>h.length) (λh e=>h.same e) hc S (kj I u) w T hi ht W) S (kj I u) hN V hy R l)) (λD σ H ⟨ρ,o,G,l,e,k⟩=>?_) s σ H D I hQ;obtain⟨d,e1,F⟩:=bind_some e;by_cases U:i<ρ.length
 ·rw[ai U] at F;cases F;obtain⟨B,eH,fm,L⟩:=l.o.ex;refine⟨G,B,eH,fm,iI O ρ,d,l.o.rest,e1,dt.nil,λys j p vs ed s0 hD hA A=>?_⟩;subst ed;have f1:jF j [(p,HO.lst vs)]:=⟨by simp,(λx hx=>by simp at hx;subst hx;exact hD),.one a0 .nil⟩
  have eu:upd j p (.lst vs)=fx j [(p,HO.lst vs)]:=rfl;rw[eu] at A ⊢;have f2:jF j (B++[(p,HO.lst vs)]):=f1.join A;have M:jG (jU O) X.K j (.list ys) (.ref p) [(p,HO.lst vs)]:=by rw[Xr];exact jG.Ta (.inl ⟨ys,vs,rfl,rfl,hA⟩)
  have f3:jF j ([(p,HO.lst vs)]++B):=f2.perm aW (M.nE.append fm.ok);have e3:fx (fx j [(p,HO.lst vs)]) B=fx (fx j B) [(p,HO.lst vs)]:=by rw[<-h9,<-h9];exact iD f2.nd aW
  have h1:hE O X.K σ ρ (fx j B) j:=hE.uy l.o.len L l.o.lP s0 (f3.Cs fm.ok);obtain⟨G2,s2,h2⟩:=h1.new P hO U M (f3.Cr M.nE);rw[e3];refine k _ _ G2 (s0.trans s2) ⟨h2,λdp v0 z=>?_⟩;rcases h0 with h0|h0|h0
  ·rw[ax h0];exact l.z dp v0 z
  ·rw[h0] at z;cases z
  ·rw[h0] at z;cases z
 ·rw[ao U] at F;cases F
end
section
variable {a b:Expr}{fa fb:c5->Od}
end
def NS:Nat->(Lw->Prop)->Prop
 |0,p=>p []
 |n+1,p=>∀v,NS n λa=>p (v::a)
theorem NS.all:∀{n:Nat}{p:Lw->Prop},NS n p->∀a:Lw,a.length=n->p a
 |0,_,h,[],_=>h
 |_+1,_,h,v::a,e=>(h v).all a (Nat.succ.inj e)
def MB(x q:Str)(a:Stmt)(d:Lr):Prop:=∀(f b e:Value) (an:Option Addr) (rq ct:Value),NS d.length λc=>bindArgs (W.fnOf x q (mY a) (iB a) (fo a) .none f b e an rq ct) ⟨c,[]⟩=pure (d.zip c)
theorem MB.to{K:Fg}{q:Str}{d:Lr}(h:MB x q st d)(F:D9 K x q st a fd):kZ K fd d []:=F.binds λi b g k c j f e=>(h i b g k c j).all f e
def iJ(K:Fg)(c:Str->Ow)(x:Str)(b:Stmt):Prop:=∃a d,c x=Y (.ref a)/\D9 K x x b a d
def RJ(K:Fg)(c m q:Str)(b:Stmt):Prop:=∃C a d,mz K c C/\Jy K C/\MZ K C m a/\D9 K m q b a d
def KS(K:Fg)(d:Str->Ow)(c q:Str)(b:Stmt):Prop:=∃C a e,mz K c C/\d c=Y (.ref C)/\Mk K C a/\D9 K "__init__" q b a e
section
variable {K:Fg}{m q:Str}{f:Addr}{od an:Option Addr}{sl:Array Ow}{oc kV dc pm cd ct:Value}
theorem fnAt(X:K.In h)(G:h.Ns mainGlobals mg)(a:W.nsIn K mainGlobals x=Y (Y (.ref f)))(l:K.lookup f=Y ⟨oc,od,.func (W.fnOf x x (mY st) (iB st) (fo st) .none kV dc pm an cd ct),sl⟩)(c:W.codeIn K cd x=true)(k:W.keepIn K (.ref f)=true):iJ K mg x st :=
 ⟨f,_,W.mg_of X G a,Ay l c k⟩
theorem intAt{n:Int}{t:Tok}(X:K.In h)(G:h.Ns mainGlobals mg)(a:W.nsIn K mainGlobals x=Y (Y (.int n t))):Im K mg x (.int n):=Xn (W.mg_of X G a)
theorem UJ(a:W.nsIn K mainGlobals c=Y (Y (.ref C))) (p:W.plainGet K C Str.empty=true) (d:W.hasDictIn K C=true) (o:W.plainOver K C=true) (s:W.findIn K (.ref C) "__setattr__"=Y (Y (.builtin "object.__setattr__")))
  (n:W.findIn K (.ref C) x=Y Z):j0 K c x:=⟨C,a,⟨p,d,o,s⟩,n⟩
theorem Xs(a:W.nsIn K mainGlobals c=Y (Y (.ref C))) (p:W.plainGet K C Str.empty=true) (d:W.hasDictIn K C=true) (o:W.plainOver K C=true) (s:W.findIn K (.ref C) "__setattr__"=Y (Y (.builtin "object.__setattr__")))
  (n:W.findIn K (.ref C) m=Y (Y (.ref f))) (i:W.isFn K (.ref f)=true) (l:K.lookup f=Y ⟨oc,od,.func (W.fnOf m q (mY st) (iB st) (fo st) .none kV dc pm an cd ct),sl⟩) (e:W.codeIn K cd q=true) (k:W.keepIn K (.ref f)=true):RJ K c m q st :=
 ⟨C,f,_,a,⟨p,d,o,s⟩,⟨n,i,k⟩,Ay l e k⟩
theorem RK(X:K.In h) (G:h.Ns mainGlobals mg) (a:W.nsIn K mainGlobals c=Y (Y (.ref C))) (m:W.makesIn K C=true) (b:W.keepIn K (.ref C)=true)
  (n:W.findIn K (.ref C) "__init__"=Y (Y (.ref f))) (i:W.isFn K (.ref f)=true) (l:K.lookup f=Y ⟨oc,od,.func (W.fnOf "__init__" q (mY st) (iB st) (fo st) .none kV dc pm an cd ct),sl⟩) (e:W.codeIn K cd q=true) (k:W.keepIn K (.ref f)=true):KS K mg c q st :=
 ⟨C,f,_,a,W.mg_of X G a,⟨m,n,i,b⟩,Ay l e k⟩
end
section
variable {P:Program}{K:Fg}{base:Heap}{m q:Str}{N:Lr}{k:Nat}{g:c5->Option Out}{fa:Addr}
abbrev zx(P:Program)(w:World)(K:W.Frag)(f:Str->Option Value)(c:Heap)(q:Str)(d:Stmt)(N:List Str)(k:Nat)(h:V->Md)(O:List Nat)(g:c5->Option Out):Prop :=
 ∀{v0:V}{e:Addr}{b:Value}{A:Around}{a:List Env}{s:Shared}{H:Hp}{E:XK},jf k (A.deeper (envOfC q (fo d) (zB s) e b))->(A.deeper (envOfC q (fo d) (zB s) e b)).units+64<cLine->N.Nodup->O.Nodup ->
  qp (uw yl P w K f c N q (fo d) e b A a s H E).Pz (h v0) O (iB d) g
theorem gI(O:List Nat) (F:iJ K mg x st) (f:zx P w K mg base x st N k (λ_=>.dat) O g) (S:i5 N (N.take n) (fo st):=by exact⟨rfl,rfl,rfl,by decide +kernel,rfl,by decide +kernel,by decide +kernel⟩) (e:n=(N.take n).length:=by rfl) (h:∀i∈O,n<=i:=by decide) (c:O.Nodup:=by decide)
  (o:MB x x st (N.take n):=by intro _ _ _ _ _ _;(repeat' intro _);exact rfl):qm P w K mg base x (k+1) n (iU N g):=by
 obtain⟨a,l,j,F⟩:=F;exact⟨a,l,N.take n,ER F S e h λm A b s H E d=>f (v0:=.lP) d d.units S.nd c,j,F.kp,o.to F⟩
theorem KU(O:List Nat) (F:iJ K mg x st) (f:zx P w K mg base x st N k (λ_=>.own) O g) (S:i5 N (N.take n) (fo st):=by exact⟨rfl,rfl,rfl,by decide +kernel,rfl,by decide +kernel,by decide +kernel⟩) (e:n=(N.take n).length:=by rfl) (h:∀i∈O,n<=i:=by decide) (c:O.Nodup:=by decide)
  (o:MB x x st (N.take n):=by intro _ _ _ _ _ _;(repeat' intro _);exact rfl):AO P w K mg base x (k+1) n (Ic N g):=by
 obtain⟨a,l,j,F⟩:=F;exact⟨a,l,N.take n,RA F S e h λm A b s H E d=>f (v0:=.lP) d d.units S.nd c,j,F.kp,o.to F⟩
theorem CQ(O:List Nat) (F:iJ K mg x st) (f:zx P w K mg base x st N k (.io (jU (0::O))) (0::O) g) (S:i5 N (N.take n) (fo st):=by exact⟨rfl,rfl,rfl,by decide +kernel,rfl,by decide +kernel,by decide +kernel⟩) (e:n=(N.take n).length:=by rfl) (h:∀i∈O,n<=i:=by decide) (b:(0::O).Nodup:=by decide) (j:n≠0:=by decide)
  (p:MB x x st (N.take n):=by intro _ _ _ _ _ _;(repeat' intro _);exact rfl):ES (jU (0::O)) P w K mg base x (k+1) n (pj N g):=by
 obtain⟨a,l,m,F⟩:=F;exact⟨a,l,N.take n,P5 F S e j b h λq o A c s H E d=>f d d.units S.nd b,m,F.kp,p.to F⟩
theorem A7(O:List Nat) (F:KS K mg c q st) (l:zx P w K mg base q st N k (.io (jU (0::O))) (0::O) g) (S:i5 N (N.take n) (fo st):=by exact⟨rfl,rfl,rfl,by decide +kernel,rfl,by decide +kernel,by decide +kernel⟩) (h:n=(N.take n).length:=by rfl) (m:∀i∈O,n<=i:=by decide) (b:(0::O).Nodup:=by decide) (o:n≠0:=by decide) (j:jU (0::O)=false:=by rfl)
  (v:MB "__init__" q st (N.take n):=by intro _ _ _ _ _ _;(repeat' intro _);exact rfl):uD P w K mg base c (k+1) n (pj N g):=by
 obtain⟨C,a,p,t,r,M,F⟩:=F;have f:=P5 F S h o b m λx u A d s H E e=>l e e.units S.nd b;rw[j] at f;exact⟨C,a,p,N.take n,t,r,M,f,v.to F⟩
theorem UK(O:List Nat) (F:RJ K c m q st) (h:zx P w K mg base q st N k (λ_=>.dat) O g) (S:i5 N (N.take n) (fo st):=by exact⟨rfl,rfl,rfl,by decide +kernel,rfl,by decide +kernel,by decide +kernel⟩) (f:n=(N.take n).length:=by rfl) (j:∀i∈O,n<=i:=by decide) (d:O.Nodup:=by decide)
  (t:MB m q st (N.take n):=by intro _ _ _ _ _ _;(repeat' intro _);exact rfl):AQ P w K mg base c m (k+1) n (iU N g):=by
 obtain⟨C,a,l,p,o,M,F⟩:=F;exact⟨C,a,l,N.take n,p,o,M,ER F S f j λr A b s H E e=>h (v0:=.lP) e e.units S.nd d,t.to F⟩
theorem RL{b:Str} (O:List Nat) (h:mg x=Y (.ref fa)) (F:iJ K mg x st) (q:∀base:Heap,zx P w K mg base x st (b::N) k (λ_=>.dat) O g) (S:i5 (b::N) [b] (fo st):=by exact⟨rfl,rfl,rfl,by decide +kernel,rfl,by decide +kernel,by decide +kernel⟩) (r:∀i∈O,1<=i:=by decide) (f:O.Nodup:=by decide)
  (y:MB x x st [b]:=by intro _ _ _ _ _ _;(repeat' intro _);exact rfl):∃d:FuncData,(∀(s:Shared) (u:Value),BindsTo s d ⟨[u],[]⟩ [(b,u)])/\∀base:Heap,K.In base->base.Ns mainGlobals mg->lT P w K mg base yl (k+1) fa d [b] (Ro K 1 (iU (b::N) g)):=by
 obtain⟨a,d,t,F⟩:=F;cases h.symm.trans t;refine⟨d,λs u=>?_,λbase _ _=>ER F S rfl r λc A e s H E l=>q base (v0:=.lP) l l.units S.nd f⟩;obtain⟨C,B,o,j,m,z,c,v,n,rfl,D,p⟩:=F.ex;exact .of_eq (y o j m z c v u)
variable {a b:Expr}{fa fb:c5->Od}
theorem gJ(d:X.A.units+64<cLine)(g:PD X a fa)(f:PD X b fb)(e:sX b:=by exact λ_ _=>rfl)(c:EC b:=by exact λ_ _=>rfl):PD X (.Subscript a b pos) (zX fa fb):=Rv d g f e c
theorem fU{c:CmpOp}{g:fe->fe->Od}(d:ti X (compareOp c) g)(h:PD X a fa)(f:PD X b fb)(e:behindInMarks c b=false:=by first|exact Ju _|with_unfolding_all rfl):Ea X (.Compare a [c] [b] pos) (fB (d2 g fa fb)):=Nh d h f e
theorem qJ{c:CmpOp}{g:fe->fe->Od}(d:ti X (compareOp c) g)(h:PD X a fa)(f:PD X b fb)(e:behindInMarks c b=false:=by first|exact Ju _|with_unfolding_all rfl):PD X (.Compare a [c] [b] pos) (d2 g fa fb):=Rf d h f e
noncomputable def KW:Lx->Option Lr
 |[]=>Y []
 |.Constant (.str x) _ _::es=>(KW es).map (x::·)
 |_=>Z
def Qb:Lr->c5->Option Lp
 |[]=>eB
 |x::xs=>c4 (zA x) (Qb xs)
theorem kU(a:Lr)(h:KW es=Y a):BZ X es (Qb a):=by
 induction es generalizing a with
 |nil=>cases h;exact gB
 |cons e es c=>
  unfold KW at h;split at h
  ·rename_i z;cases z
  ·rename_i z;cases z;obtain⟨b,e,rfl⟩:=ak.mp h;exact bS c6 (c b e)
  ·cases h
end
section
variable {prog:Program}{g:Array GenState}{d:Drawn}{t:Nat}{os:OsState}
variable {nm q:Str}{N:Addr}{bs bm RM:Lw}{KY:Bool}{sn:Lr}{sub:Lw}{ab:Bool}{col:Option Bool}{dd:Option Addr}{k0 k1 k2 k3 k5:Ow}{B newId xf:String}
theorem rX(F:ExcBaseFacts B newId xf RM) (T:OwnTail h RM bm) {m:Str->Ow}{a:Lw}{u:Addr}{v:Obj}{Q:Fin->Shared->Prop}
  (k:h.get? C=Y (excClassObj nm q C N bs bm KY sn sub ab col dd k0 k1 k2 k3 k5 newId)) (D:h.Ns N m) (G:m "__init__"=Y (.ref u))
  (p:h.get? u=Y v) (n:v.cls=.type "function")
  (z:∀h' e,Heap.MadeExcOf h h' e (.ref C) a->h.objs.size<=e ->
   wpAny (model prog w) A (call (.ref u) (.ref e::a)) (λr s'=>r=.none/\Q (.done (.ret (.ref e))) s') E ⟨h',g,d,t,os⟩) (hrest:a.length<=sizeLine:=by size_fits):
  wpAny (model prog w) A (Builtin.«type.__call__» ⟨.ref C::a,[]⟩) Q E ⟨h,g,d,t,os⟩:=by
 repeat (first|with_reducible refine wpAny_loadPart_at k ?_|with_reducible refine wpAny_madeBy_exc k ?_|wp_step)
 refine codeAny_call_builtin_code (Code.quiet_builtin _ F.quiet) (wpAny_check_new_subT F T k ?_);refine codeAny_exc_new_subT F T k ?_ hrest;show wpAny _ _ _ _ _ _;have c:=af { cls:=.ref C,data:=.fields #[.ref h.objs.size,.none,.none,.none,.bool false,.none] }
  (af { cls:=.type "tuple",data:=.seq a.toArray } k)
 have f:=af { cls:=.ref C,data:=.fields #[.ref h.objs.size,.none,.none,.none,.bool false,.none] }
  (af { cls:=.type "tuple",data:=.seq a.toArray } p)
 have j:((h.push { cls:=.type "tuple",data:=.seq a.toArray }).push { cls:=.ref C,data:=.fields #[.ref h.objs.size,.none,.none,.none,.bool false,.none] }).Ns N m :=
  let ⟨o,J,K,e,r⟩:=D;⟨o,J,K,af _ (af _ e),r⟩
 have i:((h.push { cls:=.type "tuple",data:=.seq a.toArray }).push
   { cls:=.ref C,data:=.fields #[.ref h.objs.size,.none,.none,.none,.bool false,.none] }).get? (h.objs.size+1)=Y
   { cls:=.ref C,data:=.fields #[.ref h.objs.size,.none,.none,.none,.bool false,.none] }:=by heap_get
 have s:(Value.ref C::bm).contains (.ref C)=true:=by simp
 have l:=T.keeps (h':=(h.push { cls:=.type "tuple",data:=.seq a.toArray }).push { cls:=.ref C,data:=.fields #[.ref h.objs.size,.none,.none,.none,.bool false,.none] })
  λb o e=>af _ (af _ e)
 unfold isInstance
 repeat (first|with_reducible refine wpAny_loadPart_at i ?_|(with_reducible refine wpAny_isSubtype_exc c ?_;rw[s])|wp_step)
 show wpAny _ _ (typeLookup (.ref C) _) _ _ _;refine wpAny_typeLookup_tail c j l F.mroIs F.init.lookup ?_;rw[G];refine bf (aa ?_);unfold bindSpecial;refine aa (cx (T:="function") ⟨_,f,n⟩ ?_);rw[ai (by decide)];refine ar (aa (bF (z _ (h.objs.size+1) ⟨λb o H=>af _ (af _ H),Heap.get?_none_of_le (Nat.le_succ _),h.objs.size,i,Heap.get?_none_of_le (aH _),?_⟩ (Nat.le_succ _)) (λr s' y=>?_) λ_ _ x=>x))
 ·exact af _ (Heap.get?_push_at rfl rfl)
 ·obtain⟨rfl,I⟩:=y
  wp_walk
  exact I
theorem xh(F:ExcBaseFacts B newId xf RM) (T:OwnTail h RM bm) {j:Str->Ow}{a:Lw}{fI:Addr}{i:Obj}{Q:Px}
  (b:h.get? C=Y (excClassObj nm q C N bs bm KY sn sub ab col dd k0 k1 k2 k3 k5 newId)) (m:h.Ns N j) (o:j "__init__"=Y (.ref fI))
  (f:h.get? fI=Y i) (c:i.cls=.type "function")
  (l:∀h' e,Heap.MadeExcOf h h' e (.ref C) a->h.objs.size<=e ->
   wpAny (model prog w) (A.under (.builtin "type.__call__" ⟨.ref C::a,[]⟩)) (call (.ref fI) (.ref e::a)) (λr s'=>r=.none/\Q (.ref e) s') E ⟨h',g,d,t,os⟩) (hrest:a.length<=sizeLine:=by size_fits):
  wpAny (model prog w) A (call (.ref C) a) Q E ⟨h,g,d,t,os⟩:=by
 have u:=tc_lookup;have s:=tc_bind (.ref C);have p:(⟨h,g,d,t,os⟩:Shared).TypeIs (.ref C) "type":=⟨_,b,rfl⟩
 refine wpAny_call (codeAny_of_tree ?_);show wpAny _ _ (callAny (.ref C) _) _ _ _
 repeat (any_goals (first|assumption|with_reducible refine wpAny_loadPart_at b ?_|wp_step))
 refine⟨rfl,?_⟩;refine codeAny_call_builtin_at (Code.quiet_builtin _ (zD 0)) entry_typeCall (wpAny_check_type_call_sub b (rX (hrest:=hrest) F T b m o f c λh' e n k=>?_));exact l h' e n k
end
section
variable {M:Model}{env:Env}
variable {nm q:Str}{N:Addr}{bs bm:Lw}{KY:Bool}{sn:Lr}{sub:Lw}{ab:Bool}{col:Option Bool}{dd:Option Addr}{k0 k1 k2 k3 k5:Ow}{newId:String}
end
section
variable {prog:Program}{g:Array GenState}{d:Drawn}{t:Nat}{os:OsState}
variable {nm q:Str}{N:Addr}{bs bm RM:Lw}{KY:Bool}{sn:Lr}{sub:Lw}{ab:Bool}{col:Option Bool}{dd:Option Addr}{k0 k1 k2 k3 k5:Ow}{B newId xf:String}
theorem xi(F:ExcBaseFacts B newId xf RM) (T:OwnTail h RM bm) {e l:Addr}{a:Lw}{Q:Px}
  (n:h.get? C=Y (excClassObj nm q C N bs bm KY sn sub ab col dd k0 k1 k2 k3 k5 newId)) (j:h.get? e=Y { cls:=.ref C,data:=.fields #[.ref l,.none,.none,.none,.bool false,.none] })
  (m:∀h',(∀b o,b≠e->h.get? b=Y o->h'.get? b=Y o)->h'.get? e=Y { cls:=.ref C,data:=.fields #[.ref h.objs.size,.none,.none,.none,.bool false,.none] } ->
   h'.get? h.objs.size=Y { cls:=.type "tuple",data:=.seq a.toArray }->Q .none ⟨h',g,d,t,os⟩) (c:a.length<=sizeLine:=by size_fits):
  wpAny (model prog w) A (call (.builtin xf) (.ref e::a)) Q E ⟨h,g,d,t,os⟩:=by
 refine wpAny_call (codeAny_call_builtin F.init.plain F.initEntry (wpAny_check_init_subT F T n j rfl ?_));have i:=af { cls:=.type "tuple",data:=.seq a.toArray } j;have f:h.objs.size≠e:=cF (av j)
 wp_walk
 refine m _ (λb o hb k=>?_) ?_ ?_
 ·rw[aP _ _ (Ne.symm hb)];exact af _ k
 ·rw[a6 _ i rfl];rfl
 ·rw[aP _ _ (Ne.symm f)];exact aG _ rfl
end
end L2
namespace L2
open PySem PySem.Spec PyProof.Rows PySem.W
open PySem.Builtin PySem.Builtin.ObjectAttr
structure NT (K:Frag) (C:Addr):Prop where
 sa:findIn K (.ref C) "__setattr__"=Y (Y (.builtin "object.__setattr__"))
 cd:∃cd,clsIn K C=Y cd/\cd.hasDict=true/\cd.mro.contains (.type "object")=true/\∀self:Value,refuseLoop self "__setattr__" cd.mro=pure ()
section
variable {prog:Program}{K:Frag}{e:Addr}{vs:Array Value}{name:Str}{v:Value}
theorem KZ{b:Bool}{u:Tok}{Q:Fin->Shared->Prop} (X:K.In s.heap) (c:NT K C) (j:s.heap.get? e=Y { cls:=.ref C,data:=.fields vs })
  (B:∀h' MA dx,h'.get? e=Y { cls:=.ref C,dict:=Y dx,data:=.fields vs }->s.heap.get? dx=Z->h'.Ns dx (λy=>if y=name then Y v else Z) ->
   (∀b o,b≠e->s.heap.get? b=Y o->h'.get? b=Y o)->Q (.done (.ret .none)) { s with heap:=h',toks:=MA }):
  wpAny (model prog w) A (storeInOwnDict (.ref e) (.ref C) (.str name u) name v b) Q E s:=by
 obtain⟨h,g,d,t,I⟩:=s;obtain⟨M,F,p,-,-⟩:=c.cd;have a:(h.push { cls:=.type "dict",data:=.dict #[] }).get? e=Y { cls:=.ref C,data:=.fields vs }:=af _ j;have f:e≠h.objs.size:=aN (av j);refine aa (ar (aa (aa (wpAny_loadPart j (aa ((looks_clsIn X F).here ?_))))));rw[p];show wpAny _ _ _ _ _ _;refine aa (wpAny_alloc' ?_);refine aa (wpAny_update' a ?_);refine ar ?_;have m:((h.push { cls:=.type "dict",data:=.dict #[] }).update e λo=>{ cls:=o.cls,dict:=Y h.objs.size,data:=o.data,slots:=o.slots }).get? h.objs.size
  =Y { cls:=.type "dict",data:=.dict #[] } :=
  (Heap.get?_update_ne _ _ _ _ f.symm).trans (Heap.get?_push_at rfl rfl)
 have l:((h.push { cls:=.type "dict",data:=.dict #[] }).update e λo=>{ cls:=o.cls,dict:=Y h.objs.size,data:=o.data,slots:=o.slots }).Ns h.objs.size (λ_=>Z) :=
  ⟨_,#[],_,m,rfl,λe D=>absurd D (by simp),λ_=>rfl⟩
 show wpAny _ _ (storeInDict h.objs.size (.str name u) name v) _ _ _;unfold storeInDict newKeyGuard;refine aa (ar (aa (wpAny_nsSet1 (Heap.Ns1.of_empty l) λh' i x=>?_)));obtain⟨L,G,H,k,n,q⟩:=i.count (Within.cons name v Within.nil);refine aa (wpAny_lookBehind k (by rw[n];exact pastItsLine_dict (bu q (by rw[ay,eS,sizeLine_eq];omega))) ?_)
 wp_walk
 refine B h' _ h.objs.size ?_ (Heap.get?_none_of_le (aH _)) i.ns λb J r z=>?_
 ·exact(x.2 e f).trans (a6 _ a rfl)
 ·exact(x.2 b (aN (av z))).trans ((Heap.get?_update_ne _ _ _ _ r).trans (af _ z))
theorem RN{d:Tok} (X:K.In s.heap) (c:NT K C) (n:findIn K (.ref C) name=Y Z) (i:s.heap.get? e=Y { cls:=.ref C,data:=.fields vs })
  (m:∀h' MA dx,h'.get? e=Y { cls:=.ref C,dict:=Y dx,data:=.fields vs }->s.heap.get? dx=Z->h'.Ns dx (λy=>if y=name then Y v else Z) ->
   (∀b o,b≠e->s.heap.get? b=Y o->h'.get? b=Y o)->R (.ok (.ret .none)) { s with heap:=h',toks:=MA }):
  codeAny (model prog w) A (.call (.builtin "object.__setattr__") ⟨[.ref e,.str name d,v],[]⟩) R s:=by
 have I:InstAt s.heap e { cls:=.ref C,data:=.fields vs } C Z:=⟨i,rfl,rfl,trivial⟩
 obtain⟨h,j,r,g,l⟩:=id c.cd;have a:=PySem.F.store_object;have k:h.mro.isEmpty=false:=by cases q:h.mro with|nil=>rw[q] at g;cases g|cons _ _=>rfl
 have f:Looks (model prog w) s.heap (isInstance (.ref e) (.type "object")) true:=I.type.andThen (looks_mroIn X (by unfold mroIn;rw[j,aD,ao (by rw[k];decide),g]));have p:Looks (model prog w) s.heap (mroOf (.ref C)) h.mro:=(looks_clsIn X j).andThen .now;refine codeAny_call_builtin a.slot.plain a.entry (@check_slot (model prog w) _ _ s "object.__setattr__" "object" "__setattr__" (.ref e) [.str name d,v] [] _ a.kind a.split f (a.args (.ref e) (.str name d) v) ?_);rw[osa_eq,refuse_eq];refine aa (aa (I.type.here (aa (p.here ?_))));rw[l];refine ar (aa (I.type.here (aa ((looks_findIn X n).here (aa (ar ?_))))));exact KZ X c i λh' MA dx z x u t=>m h' MA dx z x u t
theorem RO{Q:Unit->Shared->Prop} (X:K.In s.heap) (c:NT K C) (f:findIn K (.ref C) name=Y Z) (a:s.heap.get? e=Y { cls:=.ref C,data:=.fields vs })
  (d:∀h' MA dx,h'.get? e=Y { cls:=.ref C,dict:=Y dx,data:=.fields vs }->s.heap.get? dx=Z->h'.Ns dx (λy=>if y=name then Y v else Z) ->
   (∀b o,b≠e->s.heap.get? b=Y o->h'.get? b=Y o)->Q () { s with heap:=h',toks:=MA }):
  wpAny (model prog w) A (setAttr (.ref e) name v) Q E s :=
 set_plain X (ox:={ cls:=.ref C,data:=.fields vs }) (od:=Z) ⟨a,rfl,rfl,trivial⟩ c.sa (RN (s:={ s with toks:=s.toks+1 }) X c f a d)
end
end L2
namespace L2
open PySem PySem.Spec PyProof.Rows PySem.W
open PySem.Builtin PySem.Builtin.ObjectAttr
structure RP (K:Frag) (C:Addr):Prop where
 ga:findIn K (.ref C) "__getattribute__"=Y (Y (.builtin "BaseException.__getattribute__"))
 hook:findIn K (.ref C) "__getattr__"=Y Z
 sub:subIn K (.ref C) (.type "BaseException")=Y true
 cd:∃cd,clsIn K C=Y cd/\cd.hasDict=true
section
variable {prog:Program}{K:Frag}{e dx:Addr}{o:Obj}{name:Str}{v:Value}{m:Str->Ow}
theorem RQ(c:Value)(name:Str)(e:Tok):Builtin.«object.__getattribute__» ⟨[c,.str name e],[]⟩=(typeOf c>>=λd=>ObjectAttr.find c d name>>=λr=>match r with
 |.value v=>ret v
 |.bind g a=>bindTo g a c d
 |.missing=>do
  if d==.type "module" then
   if <-isOpaqueModuleObj c then
    let b:=match (<-stack).drop 1 with
     | (.builtin "module.__getattribute__" ⟨m::_,_⟩,_)::_=>m==c
     |_=>false
    if !b then unsupported "thirdparty:object.__getattribute__:a-miss-on-an-opaque-module"
  if d==.type "type" then
   if let Y key <-opaqueClassAbove c then unsupported s!"thirdparty:{key.toString}.{name.toString}:object.__getattribute__-misses-on-an-opaque-class"
  noSuchAttribute c name):=by kernel_rfl
theorem RR{a:Tok} (X:K.In s.heap) (c:RP K C) (t:findIn K (.ref C) name=Y Z) (d:s.heap.get? e=Y o) (j:o.cls=.ref C) (i:o.dict=Y dx) {g:Array Value} (h:o.data=.fields g)
  (k:s.heap.Ns dx m) (u:m name=Y v) (n:R (.ok (.ret v)) s):
  codeAny (model prog w) A (.call (.builtin "BaseException.__getattribute__") ⟨[.ref e,.str name a],[]⟩) R s:=by
 obtain⟨y,od,l,b⟩:=o;dsimp only at j i h;subst j i h;obtain⟨od,z,B,q,p,r⟩:=id k;have I:InstAt s.heap e ⟨.ref C,Y dx,.fields g,b⟩ C (Y od):=⟨d,rfl,rfl,q⟩
 obtain⟨D,f,x⟩:=c.cd;refine codeAny_call_builtin (zD 0) F.entry_bexc_ga (@check_slot (model prog w) _ _ s "BaseException.__getattribute__" "BaseException" "__getattribute__" (.ref e) [.str name a] [] _ (zD 0) (zD 0) (I.type.andThen (looks_subIn X c.sub)) (F.args_bexc_ga (.ref e) (.str name a)) ?_);rw[RQ];refine aa (I.type.here (aa ?_));unfold ObjectAttr.find;refine aa ((looks_findIn X t).here (aa (ar (aa (ar ?_)))));unfold ownThenClass inOwnDict ObjectAttr.ownDict;refine aa (aa (aa ?_));unfold loadHead;refine wpAny_loadPart d ?_;show wpAny _ _ (instanceDict e false) _ _ _;unfold instanceDict;refine aa (wpAny_loadPart d (aa ((looks_clsIn X f).here ?_)));rw[x];refine ar ?_;show wpAny _ _ (nsGet dx name) _ _ _;refine wpAny_nsGet k ?_;rw[u];exact aa (eO (ar (ar n)))
theorem RS{a:Bool}{Q:Px} (X:K.In s.heap) (c:RP K C) (u:findIn K (.ref C) name=Y Z) (g:s.heap.get? e=Y o) (f:o.cls=.ref C) (d:o.dict=Y dx) {i:Array Value} (b:o.data=.fields i)
  (h:s.heap.Ns dx m) (x:m name=Y v) (y:handedIn v=true) (p:Q v { s with toks:=s.toks+1 }):wpAny (model prog w) A (getAttr (.ref e) name a) Q E s:=by
 have n:Looks (model prog w) s.heap (typeOf (.ref e)) (.ref C):=by obtain⟨od,F,G,t,q,r⟩:=id h;obtain⟨D,k,l,j⟩:=o;dsimp only at f d b;subst f d b;exact InstAt.type (od:=Y od) ⟨g,rfl,rfl,t⟩
 have z:Looks (model prog w) s.heap (hookBefore (.ref C)) Z:=looks_hook X (by rw[ai (show onTheHeap (.ref C)=true from rfl)];exact c.hook);refine aa (wpAny_mkText (bf (aa (n _ _ _ _ (λ_ _ e=>e) (aa (looks_findIn X c.ga _ _ _ _ (λ_ _ e=>e) ?_))))));dsimp only;rw[show (onTheHeap (.ref C)&&Value.builtin "BaseException.__getattribute__"==Value.builtin "object.__getattribute__")=false from by rw[show (Value.builtin "BaseException.__getattribute__"==Value.builtin "object.__getattribute__")=false from by decide +kernel,Bool.and_false],ao (by decide)];refine aa (z _ _ _ _ (λ_ _ e=>e) (aa (wpAny_attempt (bf ?_))));unfold callGetattribute;rw[show (a&&onTheHeap (Value.builtin "BaseException.__getattribute__"))=false from Bool.and_false _,ao (by decide)];unfold boundAndCalled;have B:bindSpecial (.builtin "BaseException.__getattribute__") (.ref e)=pure (.builtin "BaseException.__getattribute__",[.ref e]):=by kernel_rfl
 rw[B];refine aa (ar ?_);show wpAny _ _ (call (.builtin "BaseException.__getattribute__") [.ref e,.str name s.toks]) _ _ _;refine wpAny_call (RR (s:={ s with toks:=s.toks+1 }) X c u g f d b h x ?_);show wpAny _ _ (handedOut v) _ _ _;rw[handedOut_of y];exact ar p
end
end L2
namespace L2
open PySem PySem.Spec PyProof.Rows
structure GL (h₀:Heap) (fs:List Addr) (C e dx:Addr) (m:Str->Ow) (fl:Value) (h:Heap):Prop where
 keep:∀b o,h₀.get? b=Y o->b∉fs->h.get? b=Y o
 slot:∀b o,h₀.get? b=Y o->∃sl,h.get? b=Y { o with slots:=sl }
 new:h₀.get? e=Z
 RT:h₀.get? dx=Z
 ns:h.Ns dx m
 ob:∃oe vs T oT ts,h.get? e=Y oe/\(oe.cls=.ref C/\oe.dict=Y dx/\oe.data=.fields vs)/\vs[1]?=Y (.ref T)/\(h₀.get? T=Z/\T≠e)/\h.get? T=Y oT/\oT.data=.fields ts/\ts[3]?=Y fl
section
variable {M:Model}{base h₀:Heap}{env:Env}{outer:List Env}{fs:List Addr}{L e dx:Addr}{oe:Obj}{vs:Array Value}{head fl:Value}{m:Str->Ow}{NU:Bool}{Q:Unit->Shared->Prop}
theorem qK{o:Obj}{f:Array Value->Array Value}:(o.mapFields f).dict=o.dict:=by obtain⟨_,_,d,_⟩:=o;cases d<;>rfl
theorem K0{c:Heap}(k:∀b o,h.get? b=Y o->(∀vs,o.data≠.fields vs)->∃sl,c.get? b=Y { o with slots:=sl })(d:h.Ns a m):c.Ns a m:=Heap.UpToSlots.ns k d
theorem Qc(f:A.frames=Y (env::outer)) (n:s.heap.FunFrames base (env::outer)) (x:env.frame=Y L) (p:s.heap.get? e=Y oe) (g:oe.data=.fields vs) (w:1<vs.size)
  (h:∀h' T oT ts,(∀b o,b≠e->s.heap.get? b=Y o->b∉vb (env::outer)->h'.get? b=Y o)->(∀b o,b≠e->s.heap.get? b=Y o->∃sl,h'.get? b=Y { o with slots:=sl }) ->
   h'.get? e=Y (oe.mapFields (·.setIfInBounds 1 (.ref T)))->s.heap.get? T=Z->T≠e->h'.get? T=Y oT->oT.data=.fields ts->ts[3]?=Y (rawInt L)->Q () { s with heap:=h' }):
  wpAny M A (do let a <-frameOf env;let i <-entryPlaceOf L NU;let b <-EntryCells.newEntry head a .none (rawInt L) .none i;setField (.ref e) 1 b) Q E s:=by
 have v:e∉(env::outer).filterMap (·.frame):=λz=>by obtain⟨_,o,m,k⟩:=n.mem z;rw[p] at m;cases m;exact k vs g
 refine aa (wpAny_frameOf_fun f n x λc sl=>?_);refine aa (wpAny_entryPlaceOf λi l=>?_);unfold EntryCells.newEntry newFields;refine aa (cy ?_ (l.sizeOk5 _ _ _ _ _));have t:c.get? e=Y oe:=(sl.2.1 e v).trans p;have r:=λo=>af (h:=c) o t;have j:c.objs.size≠e:=cF (av t);refine wpAny_setField (r _) g w (h _ c.objs.size _ _ (λb o nb q u=>?_) (λb o nb q=>?_) (a6 _ (r _) (Obj.isFreed_of_fields (Obj.data_mapFields g _))) ?_ j ((aP _ _ (Ne.symm j)).trans (aG c rfl)) rfl ?_)
 ·rw[aP _ _ (Ne.symm nb)];exact af _ ((sl.2.1 b u).trans q)
 ·obtain⟨z,d⟩:=sl.2.2 b o q;refine⟨z,?_⟩;rw[aP _ _ (Ne.symm nb)];exact af _ d
 ·cases q:s.heap.get? c.objs.size with
  |none=>rfl
  |some o=>obtain⟨z,d⟩:=sl.2.2 _ o q;exact absurd (av d) (aZ _)
 ·first|(simp;done)|(rcases l with rfl | ⟨_,_,_,_,_,_,_,rfl⟩<;>simp)
theorem GL.lands(F:GL h₀ fs C e dx m fl s.heap)(h:∀h',GL h₀ fs C e dx m .none h'->Q () { s with heap:=h' }):wpAny M A (setFlight (.ref e) Z) Q E s:=by
 obtain⟨w,u,T,G,j,p,⟨D,B,t⟩,r,⟨n,l⟩,g,c,y⟩:=F.ob;have i:3<j.size:=(Array.getElem?_eq_some_iff.mp y).1;have a:∀b,b≠T->(s.heap.update T (Obj.mapFields (·.setIfInBounds 3 ((Z:Option Addr).elim Value.none λf=>rawInt f)))).get? b=s.heap.get? b:=λb x=>aP _ _ (Ne.symm x);have k:∀b o,h₀.get? b=Y o->b≠T:=λb o q z=>by rw[z,n] at q;cases q
 unfold setFlight;refine aa (bV p t r ?_);rw[ai (show (Value.ref T != Value.none)=true from by simp)];refine wpAny_setField g c i (h _ ⟨λb o q d=>(a b (k b o q)).trans (F.keep b o q d),λb o q=>?_,F.new,F.RT,?_,w,u,T,_,_,(a e (Ne.symm l)).trans p,⟨D,B,t⟩,r,⟨n,l⟩,a6 _ g (Obj.isFreed_of_fields (Obj.data_mapFields c _)),Obj.data_mapFields c _,by simp[i]⟩)
 ·obtain⟨v,e⟩:=F.slot b o q;exact⟨v,(a b (k b o q)).trans e⟩
 ·refine K0 (λb o q d=>⟨o.slots,(a b λz=>?_).trans q⟩) F.ns;rw[z,g] at q;cases q;exact d j c
theorem NV(i:A.frames=Y (env::outer)) (B:s.heap.FunFrames base (env::outer)) (r:env.frame=Y L) (a:∀b o,h₀.get? b=Y o->s.heap.get? b=Y o) (d:h₀.get? e=Z) (c:h₀.get? dx=Z) (x:s.heap.Ns dx m)
  (j:s.heap.get? e=Y oe) (I:oe.cls=.ref C) (H:oe.dict=Y dx) (f:oe.data=.fields vs) (t:vs[1]?=Y .none) (h:∀h',GL h₀ (vb (env::outer)) C e dx m .none h'->Q () { s with heap:=h' }):wpAny M A (leaving env (.ref e)) Q E s:=by
 have p:=(Array.getElem?_eq_some_iff.mp t).1;unfold leaving noteFrame;simp only[r];refine aa (aa (bV j f t ?_));rw[ao (by decide)];have k:∀b o,h₀.get? b=Y o->b≠e:=λb o q z=>by rw[z,d] at q;cases q
 refine Qc i B r j f p λh' T w u y n F l J D G v=>?_;refine GL.lands (s:={ s with heap:=h' }) (fl:=rawInt L) ⟨λb o q g=>y b o (k b o q) (a b o q) g,λb o q=>n b o (k b o q) (a b o q),d,c,?_,_,_,T,w,u,F,⟨(Obj.cls_mapFields _ _).trans I,qK.trans H,Obj.data_mapFields f _⟩,by simp[p],⟨?_,J⟩,D,G,v⟩ h
 ·refine K0 (λb o q g=>n b o (λz=>?_) q) x;rw[z,j] at q;cases q;exact g vs f
 ·cases q:h₀.get? T with
  |none=>rfl
  |some o=>rw[a T o q] at l;cases l
theorem GL.note(F:GL h₀ fs C e dx m .none s.heap)(r:A.frames=Y (env::outer))(X:s.heap.FunFrames base (env::outer))(K:env.frame=Y L)(V:∀b∈vb (env::outer),b∈fs)(h:∀h',GL h₀ fs C e dx m (rawInt L) h'->Q () { s with heap:=h' }):
  wpAny M A (noteFrame (.ref e) env) Q E s:=by
 obtain⟨oe,g,T,oT,P,t,⟨c1,c2,f⟩,O,⟨W,S⟩,v,u,N⟩:=F.ob;have J:=(Array.getElem?_eq_some_iff.mp O).1;unfold noteFrame;simp only[K];refine aa (bV t f O ?_);rw[ai (show (Value.ref T != Value.none)=true from by simp)];refine aa (bV v u N ?_);rw[ao (show ¬ ((Value.none==rawInt L)=true) from by simp[rawInt])];refine aa (wpAny_setField v u (Array.getElem?_eq_some_iff.mp N).1 ?_);have a:∀b,b≠T->(s.heap.update T (Obj.mapFields (·.setIfInBounds 3 Value.none))).get? b=s.heap.get? b:=λb hb=>aP _ _ (Ne.symm hb);have G:∀b o,s.heap.get? b=Y o->(∀g,o.data≠.fields g)->b≠T:=λb o q c z=>by rw[z,v] at q;cases q;exact c P u
 have H:∀b o,h₀.get? b=Y o->b≠e:=λb o q z=>by rw[z,F.new] at q;cases q
 have n:∀b o,h₀.get? b=Y o->b≠T:=λb o q z=>by rw[z,W] at q;cases q
 refine Qc (s:={ s with heap:=_ }) r (X.of_keeps λb o q c=>⟨o,(a b (G b o q c)).trans q,rfl⟩) K ((a e (Ne.symm S)).trans t) f J λh' d l i U I e1 p D w B j=>?_;refine h h' ⟨λb o q c=>U b o (H b o q) ((a b (n b o q)).trans (F.keep b o q c)) λz=>c (V b z),λb o q=>?_,F.new,F.RT,?_,_,_,d,l,i,e1,⟨(Obj.cls_mapFields _ _).trans c1,qK.trans c2,Obj.data_mapFields f _⟩,by simp[J],⟨?_,D⟩,w,B,j⟩
 ·obtain⟨R,y⟩:=F.slot b o q;obtain⟨k,x⟩:=I b _ (H b o q) ((a b (n b o q)).trans y);exact⟨k,x⟩
 ·refine K0 (λb o q c=>I b o (λz=>?_) ((a b (G b o q c)).trans q)) F.ns;rw[z,t] at q;cases q;exact c g f
 ·cases q:h₀.get? d with
  |none=>rfl
  |some o=>obtain⟨R,y⟩:=F.slot d o q;have:=(a d (n d o q)).trans y;rw[p] at this;cases this
end
end L2
namespace L2
open PySem PySem.Spec PyProof.Rows PySem.W
theorem jh.there{P:Program}{o:HO}(x:jh P w H h a o):∃c,h.get? a=Y c:=by
 cases o with
 |lst d=>obtain⟨_,_,_,_,e⟩:=x;exact⟨_,e⟩
 |tup d=>obtain⟨_,_,_,_,e,_⟩:=x;exact⟨_,e⟩
 |dK b=>obtain⟨_,_,_,_,_,_,_,e,_⟩:=x;exact⟨_,e⟩
 |dT b=>obtain⟨_,_,_,_,_,_,_,e,_⟩:=x;exact⟨_,e⟩
 |set S n=>obtain⟨_,_,_,_,e,_⟩:=x;exact⟨_,e⟩
 |ins C l g=>obtain⟨_,_,_,e,_⟩:=x;exact⟨_,e⟩
 |own y=>exact x
 |xd g=>obtain⟨_,⟨_,_,_,e,_⟩,_⟩:=x;exact⟨_,e⟩
 |S0 j k=>obtain⟨_,_,_,e⟩:=x;exact⟨_,e⟩
 |Ja c u=>exact⟨_,x.1⟩
 |MJ i=>exact⟨_,x⟩
 |met f y=>exact⟨_,x⟩
 |ext φ=>exact x.2.1
section
variable {p1 p2 p3 p4 p5 p6 p7 p8 p9:Pos}
def tFs(i:Nat):TE:=λσ H Q=>∃n:Int,σ[i]?=Y (Y (.int n))/\(0<=n/\n<10000)/\∀x,Q (.str x) H
theorem UL{a:Str}{x:Expr}{j:Nat}(K:a.length<=1000)(A:PE X x (Tq i))(d:evalEach [.Constant (.str a) j p1,.FormattedValue x (-1) Z p2] X.env=[eval (.Constant (.str a) j p1) X.env,eval (.FormattedValue x (-1) Z p2) X.env]:=by rfl):
  PE X (.JoinedStr [.Constant (.str a) j p1,.FormattedValue x (-1) Z p2] pos) (tFs i):=by
 rintro c s σ H Q I ⟨n,e,⟨M,L⟩,q⟩;have B:n.natAbs<10 ^ 4:=by omega
 have J:=int_text_length_le10 (k:=4) (by decide) B;have C:n.natAbs.log2<1920:=by
  by_cases z:n.natAbs=0
  ·rw[z];decide
  ·exact aI ((Nat.log2_lt (k:=14) z).mpr (by omega)) (by decide)
 refine wpAny_JoinedStr ?_;rw[d];have g:∀b:Str,(Str.empty++b).length=b.length:=λb=>by rw[j6];show 0+_=_;omega
 refine iP (@Ji X a j p1 c s σ H (λv H'=>v=.str a/\H'=H) I ⟨rfl,rfl⟩) λv l ⟨y,h,E,o,w,u⟩=>?_;subst w u;obtain⟨t,rfl⟩:=o;refine⟨a,t,rfl,by rw[g,sizeLine_eq];omega,wpAny_FormattedValue_plain (iP (@A c l σ h (λv H'=>v=.int n/\H'=h) E ⟨_,e,rfl,rfl⟩) λv G ⟨y,F,D,m,r,p⟩=>?_)⟩;subst r p;obtain⟨t',rfl⟩:=m;have f:(Str.empty++a++zZ (toString n)).length<=sizeLine:=by rw[j6,g,PySem.ofString_length,sizeLine_eq];omega
 exact wpAny_formatField_int C ⟨_,_,rfl,f,f,.str _,F,D.tok _,⟨_,rfl⟩,q _⟩
end
noncomputable def A8(K:Frag)(C:Addr)(b:Lw)(a:String)(c:Addr):Bool:=match K.lookup C with
 |some ⟨.type "type",_,.cls cd,sl⟩=>(match cd.mro,sl.toList with
  |.ref d::bm,[_,_,_,_,Y (.builtin n),_]=>d==C&&n==a&&!cd.hasDel&&tailIn K b bm&&nsOkIn K cd.ns&&nsIn K cd.ns "__init__"==Y (Y (.ref c))
  |_,_=>false)
 |_=>false
noncomputable def RU:Lw:=[.type "ValueError",.type "Exception",.type "BaseException",.type "object"]
structure K1 (h:Heap) (C fI:Addr):Prop where
 ex:∃(nm qn:Str) (N:Addr) (bs bm:Lw) (hd:Bool) (sn:Lr) (sub:Lw) (ab:Bool) (col:Option Bool) (dd:Option Addr) (k0 k1 k2 k3 k5:Ow) (mN:Str->Ow),
  h.get? C=Y (excClassObj nm qn C N bs bm hd sn sub ab col dd k0 k1 k2 k3 k5 "ValueError.__new__")/\h.Ns N mN/\mN "__init__"=Y (.ref fI)/\OwnTail h RU bm
theorem E5{K:Frag}{N:Addr}{n:Str}{v:Value}(X:K.In h)(G:h.Ns N mg)(e:nsIn K N n=Y (Y v)):mg n=Y v:=by
 obtain⟨o,j,k,a,f,_,c⟩:=G;unfold nsIn at e;split at e
 ·rename_i g i _ b;rw[X _ _ b] at a;cases a;cases f;split at e
  ·rename_i l d;cases e;rw[<-c];unfold nsFind findBy;rw[<-Array.find?_toList,d];rfl
  ·split at e<;>cases e
 ·cases e
theorem rF{K:Frag}{fI:Addr}(X:K.In h)(q:A8 K C RU "ValueError.__new__" fI=true):K1 h C fI:=by
 unfold A8 at q;split at q
 ·rename_i A B f x;split at q
  ·rename_i G E m k j i n g p o;simp only[bD,bY,Bool.not_eq_true'] at q;obtain⟨⟨⟨⟨⟨rfl,rfl⟩,a⟩,w⟩,b⟩,c⟩:=q;obtain⟨u,D,v,t,s,y,r,d,F,e,z⟩:=B;dsimp only at p a b c;subst p a;obtain rfl:f=#[m,k,j,i,Y (.builtin "ValueError.__new__"),g]:=by
    obtain⟨l⟩:=f;simp only at o;rw[o]
   exact⟨u,s,t,D,E,y,r,d,F,e,A,m,k,j,i,g,_,X _ _ x,.of_isNs (isNs_of_in X b),E5 X (.of_isNs (isNs_of_in X b)) c,tail_of_in X w⟩
  ·cases q
 ·cases q
structure CS (K:Frag) (C P fI:Addr):Prop where
 ex:A8 K C RU "ValueError.__new__" fI=true
 fn:isFn K (.ref fI)=true
 kp:keepIn K (.ref C)=true
 xc:NT K C
 xg:RP K C
 ln:findIn K (.ref C) "line"=Y Z
 pr:readsIn K P (.type "type")=true
 pc:findCls K (.ref P) (.type "type") "__init__"=Y (.val (.builtin "ValueError.__init__"))
 ps:specialIn K (.ref P) "__getattribute__"=Y (Y (.builtin "type.__getattribute__"))
section
variable {p1 p2 p3 p4 p5 p6 p7 p8 p9:Pos}{P fI e t0:Addr}{n:Int}{a:Str}{j:Nat}{pl:Sem Bool}
def NW(a:Addr):Array Value:=#[.ref a,.none,.none,.none,.bool false,.none]
structure CT (X:Cx) (H:Hp) (e:Addr):Prop where
 h:H e=Z
 l:e≠X.env.locals
 f:e∉X.fs
 c:∀x c,X.env.cells.lookup x=Y c->c≠e
 s:(zB X.s₀)<=e
 p:∀p∈X.pn,p.1≠e
theorem CT.pin{o:Obj}(M:CT X H e)(I:fD X [] σ H s)(b:s.heap.get? e=Y o)(c:∀v,o.data≠.cell v):fD X [(e,o)] σ H s:=by
 refine I.mW λp a=>?_;rcases List.mem_singleton.mp a with rfl
 exact⟨b,M.h,M.l,M.f,c⟩
theorem CT.K2{o:Obj}{b:Hp}{a:Shared}(M:CT X H e)(I:fD X [(e,o)] σ b a):CT X b e/\a.heap.get? e=Y o/\fD X [] σ b a:=by have z:=I.pin (e,o) (au _ (List.mem_singleton.mpr rfl));exact⟨⟨z.2.1,M.l,M.f,M.c,M.s,M.p⟩,z.1,I.mW λp d=>by cases d⟩
theorem E6(k:CS X.K C P fI) (U:Gl X "PointError") (S:X.mg "PointError"=Y (.ref P)) (h0:X.N[0]?=Y ("self":Str)) (h1:X.N[1]?=Y ("line":Str)) (u:BY X.env.scope "self") (t:BY X.env.scope "line")
  (I:fD X [] σ H s) (M:CT X H e) (g0:σ[0]?=Y (Y (.ref e))) (g1:σ[1]?=Y (Y (.int n))) (R:0<=n/\n<10000) (ha:a.length<=1000) (V:s.heap.get? e=Y { cls:=.ref C,data:=.fields (NW t0) })
  (i:swapsWith (.Call (.Attribute (.Name "PointError" p1) "__init__" p2) [.Name "self" p3,.JoinedStr [.Constant (.str a) j p4,.FormattedValue (.Name "line" p5) (-1) Z p6] p7] [] p8) Z p9.line X.env=pure false) (O:eval (.Call (.Attribute (.Name "PointError" p1) "__init__" p2) [.Name "self" p3,.JoinedStr [.Constant (.str a) j p4,.FormattedValue (.Name "line" p5) (-1) Z p6] p7] [] p8) X.env=(do
   let ov <-eval (.Name "PointError" p1) X.env
   standAt p2.atName
   let (f,first) <-holding [ov] (getMethod ov "__init__" pl)
   callWith p8 f first (backTo p8 (starEach [.Name "self" p3,.JoinedStr [.Constant (.str a) j p4,.FormattedValue (.Name "line" p5) (-1) Z p6] p7] X.env)) (backToKw p8 (keywordEach [] X.env)))):
  (zw X) (exec (.Expr (.Call (.Attribute (.Name "PointError" p1) "__init__" p2) [.Name "self" p3,.JoinedStr [.Constant (.str a) j p4,.FormattedValue (.Name "line" p5) (-1) Z p6] p7] [] p8) p9) X.env)
   (λf s'=>f=.next/\∃t',fD X [] σ H s'/\s'.heap.get? e=Y { cls:=.ref C,data:=.fields (NW t') }) X.xe s:=by
 refine wpAny_Expr_any ?_ I.quiet i;refine W.methodCall_KW (mX I U S (method_cls I.sR k.ps (cls_value I.sR k.pr k.pc rfl ?_))) O;have I1:=(M.pin I V (λv z=>by cases z)).tok (s.toks+1);refine cC (iP ((show PA X _ _ from md (nK h0 u) (md (UL ha (nK h1 t)) qC)) _ _ σ H (λvs H'=>∃x,vs=[.ref e,.str x]/\H'=H) I1 ⟨_,g0,n,g1,R,λx=>⟨x,rfl,rfl⟩⟩) λw A ⟨vs,H2,I2,r,x,q,J⟩=>?_);subst q J;obtain⟨d,rfl⟩:∃d,w=[.ref e,.str x d]:=by
  cases r with
  |cons G B=>
   cases B with
   |cons E D=>cases D;obtain⟨d,rfl⟩:=E;exact⟨d,by rw[show _=Value.ref e from G]⟩
 obtain⟨b,m,o⟩:=M.K2 I2;obtain⟨nm,qn,N,bs,bm,hd,sn,y,ab,col,dd,k0,k1,k2,k3,k5,mN,hC,hN,hi,T⟩:=(rF o.sR k.ex).ex;obtain⟨h2,g2,d2,g,L⟩:=A;refine xi F.excBase_ValueError T hC m (λh' kp e' et=>?_) (by show 1<=sizeLine;decide);have I4:=o.turned (t':=g) (it:=e) kp b.h b.l (.inr b.s) b.c λp Q=>b.p p (by simpa using Q);exact⟨rfl,_,I4,e'⟩
theorem Ir(k:CS X.K C P fI) (T:X.N[0]?=Y ("self":Str)) (S:X.N[1]?=Y ("line":Str)) (G:BY X.env.scope "self") (F:BY X.env.scope "line")
  (I:fD X [] σ H s) (M:CT X H e) (V:σ[0]?=Y (Y (.ref e))) (U:σ[1]?=Y (Y (.int n))) (R:s.heap.get? e=Y { cls:=.ref C,data:=.fields (NW t0) })
  (r:X.ex=[]) (m:swapsWith (.Name "line" p3) (Y (.Attribute (.Name "self" p1) "line" p2)) p4.line X.env=pure false):
  (zw X) (exec (.Assign [.Attribute (.Name "self" p1) "line" p2] (.Name "line" p3) p4) X.env)
   (λf s'=>f=.next/\∃a t,fD X [] σ H s'/\(H a=Z/\X.s₀.heap.get? a=Z)/\s'.heap.Ns a (λy=>if y="line" then Y (.int n t) else Z)/\s'.heap.get? e=Y { cls:=.ref C,dict:=Y a,data:=.fields (NW t0) }) X.xe s:=by
 refine plainObj_wpAny_Assign_Attribute (iP (@nK X 1 _ p3 S F rfl rfl _ s σ H (λv H'=>v=.int n/\H'=H) (M.pin I R λv z=>by cases z) ⟨_,U,rfl,rfl⟩) λu L ⟨y,E,I1,i,q,j⟩=>?_) m;subst q j;obtain⟨t,rfl⟩:=i;obtain⟨D,x,A⟩:=M.K2 I1;refine iP (@nK X 0 _ p1 T G rfl rfl _ L σ E (λv H'=>v=.ref e/\H'=E) (D.pin A x λv z=>by cases z) ⟨_,V,rfl,rfl⟩) λu s2 ⟨y,H2,I2,i,q,j⟩=>?_;subst q j;obtain rfl:=show u=Value.ref e from i;obtain⟨d,w,g⟩:=D.K2 I2;refine RO g.sR k.xc k.ln w λh' J a a1 B a3 W=>?_;refine⟨rfl,a,t,g.turned (t':=J) (it:=e) W d.h d.l (.inr d.s) d.c λp Q=>d.p p (by simpa using Q),⟨?_,?_⟩,a3,a1⟩
 ·cases z:H2 a with
  |none=>rfl
  |some o=>obtain⟨O,b⟩:=(g.iY a o z).there;rw[B] at b;cases b
 cases z:X.s₀.heap.get? a with
 |none=>rfl
 |some o=>obtain⟨O,b⟩:=g.base.there a o z (by rw[r];exact aV);rw[B] at b;cases b
theorem fD.since{s₁:Shared} (I:fD X pins σ H s) (f:s₁.os=X.s₀.os) (a:∀b o,s₁.heap.get? b=Y o->X.s₀.heap.get? b=Y o) (d:(zB s₁)<=(zB X.s₀))
  (h:∀b o,X.base.get? b=Y o->s₁.heap.get? b=Y o) (k:X.base.objs.size<=(zB s₁)) (g:s₁.heap.FunFrames X.base X.outer):fD { X with s₀:=s₁ } pins σ H s :=
 ⟨⟨I.ok.mod,I.ok.kind,I.ok.glob,I.ok.blt,bu d I.ok.above,I.ok.inj,I.ok.has,λx c j i=>bu d (I.ok.S3 x c j i),I.ok.hd,I.ok.frames,I.ok.S4,I.ok.VX,λb o e=>⟨h b o e,(I.ok.bs b o e).2⟩,k,I.ok.HC,I.ok.B4,g,I.ok.Jb⟩,
  I.os.trans f.symm,I.bare,⟨λb o e=>I.base.keep b o (a b o e),λb o e=>I.base.slot b o (a b o e),λb o e=>I.base.free b o (a b o e),λb o e=>I.base.there b o (a b o e),I.base.rR,I.base.qw,I.base.sk⟩,
  I.loc,I.cell,I.free,I.mU,I.pin,I.iY,I.len⟩
end
structure UM (outer:List Env) (P:Program) (w:World) (H:Hp) (sb:Shared) (C e:Addr) (n:Int) (s':Shared):Prop where
 os:s'.os=sb.os
 bare:AllBare s'.gens
 un:Un (vb outer) [] H H sb.heap s'.heap
 iY:qj P w H s'.heap
 ob:∃dx t0 t,(H dx=Z/\sb.heap.get? dx=Z)/\s'.heap.Ns dx (λy=>if y="line" then Y (.int n t) else Z)/\s'.heap.get? e=Y { cls:=.ref C,dict:=Y dx,data:=.fields (NW t0) }
noncomputable def GN(a:Str)(j:Nat)(o n m l k i h g f e d c b:Pos):List Stmt :=
 [.Expr (.Call (.Attribute (.Name "PointError" o) "__init__" n) [.Name "self" m,.JoinedStr [.Constant (.str a) j l,.FormattedValue (.Name "line" k) (-1) Z i] h] [] g) f,.Assign [.Attribute (.Name "self" e) "line" d] (.Name "line" c) b]
def NX(a:Str)(j:Nat)(l k i h g e d c:Pos):Prop:=∀b,∃n,eval (.Call (.Attribute (.Name "PointError" l) "__init__" k) [.Name "self" i,.JoinedStr [.Constant (.str a) j h,.FormattedValue (.Name "line" g) (-1) Z e] d] [] c) b=(do
   let m <-eval (.Name "PointError" l) b
   standAt k.atName
   let (f,first) <-holding [m] (getMethod m "__init__" n)
   callWith c f first (backTo c (starEach [.Name "self" i,.JoinedStr [.Constant (.str a) j h,.FormattedValue (.Name "line" g) (-1) Z e] d] b)) (backToKw c (keywordEach [] b)))
section
variable {p1 p2 p3 p4 p5 p6 p7 p8 p9 q1 q2 q3 q4:Pos}{P fI e t0:Addr}{n:Int}{a:Str}{j:Nat}{pl:Sem Bool}
theorem E7(k:CS X.K C P fI) (w:Gl X "PointError") (v:X.mg "PointError"=Y (.ref P)) (l:X.N[0]?=Y ("self":Str)) (i:X.N[1]?=Y ("line":Str)) (h:BY X.env.scope "self") (g:BY X.env.scope "line")
  (I:fD X [] σ H s) (M:CT X H e) (o:σ[0]?=Y (Y (.ref e))) (m:σ[1]?=Y (Y (.int n))) (u:0<=n/\n<10000) (A:a.length<=1000) (x:s.heap.get? e=Y { cls:=.ref C,data:=.fields (NW t0) }) (d:X.ex=[]) (c:NX a j p1 p2 p3 p4 p5 p6 p7 p8):
  (zw X) (execs (GN a j p1 p2 p3 p4 p5 p6 p7 p8 p9 q1 q2 q3 q4) X.env)
   (λf s'=>f=.next/\∃b t t0,fD X [] σ H s'/\(H b=Z/\X.s₀.heap.get? b=Z)/\s'.heap.Ns b (λy=>if y="line" then Y (.int n t) else Z)/\s'.heap.get? e=Y { cls:=.ref C,dict:=Y b,data:=.fields (NW t0) }) X.xe s:=by
 obtain⟨L,c⟩:=c X.env;refine wpAny_execs_cons (iP (E6 k w v l i h g I M o m u A x rfl c) λf J ⟨z,p,F,D⟩=>?_);subst z;refine wpAny_execs_cons (iP (Ir k l i h g F M o m D d rfl) λf G ⟨z,b,t,E,r,q,B⟩=>?_);subst z;exact b8 ⟨rfl,b,t,p,E,r,q,B⟩
end
section
variable {P:Program}{K:Frag}{base:Heap}{outer:List Env}{sb:Shared}{PE fI e t0:Addr}{q:Str}{k:Nat}{n:Int}{t:Tok}{a:Str}{j:Nat}{p1 p2 p3 p4 p5 p6 p7 p8 p9 q1 q2 q3 q4:Pos}
theorem Iu(F:D9 K "__init__" q st fI fd) (S:i5 ["self","line"] ["self","line"] (fo st)) (hb:iB st=GN a j p1 p2 p3 p4 p5 p6 p7 p8 p9 q1 q2 q3 q4) (bd:kZ K fd ["self","line"] []) (kE:CS K C PE fI) (hm:mg "PointError"=Y (.ref PE))
  (hg:(fo st).names.lookup ("PointError":Str)=Y .globalImplicit) (N:(fo st).names.lookup ("self":Str)=Y .local) (M:(fo st).names.lookup ("line":Str)=Y .local) (ha:a.length<=1000) (hn:0<=n/\n<10000)
  (O:jf (k+1) A) (h:An P w K mg base A outer s H) (g:An P w K mg base A outer sb H) (U:sb.os=s.os) (hk:∀b o,sb.heap.get? b=Y o->s.heap.get? b=Y o) (i:(zB sb)<=e) (l:s.heap.get? e=Y { cls:=.ref C,data:=.fields (NW t0) }) (ht:NX a j p1 p2 p3 p4 p5 p6 p7 p8):
  codeAny (model P w) A (.call (.ref fI) ⟨[.ref e,.int n t],[]⟩) (λr s'=>match r with | .ok (.ret u)=>u=.none/\UM outer P w H sb C e n s' | _=>False) s:=by
 obtain⟨oc,od,kV,doc,pm,an,L,ct,T,rfl,lk,D⟩:=F.ex;have KX:K.In s.heap:=h.mod.QD.keeps λb o e=>(h.bs b o e).1;have m:s.heap.NoLimit:=h.mod.nolimit.keeps λb o e=>(h.bs b o e).1;have d:∀y∈(["self","line"]:Lr).zip [Value.ref e,.int n t],(fo st).names.lookup y.1=Y .local\/((fo st).names.lookup y.1=Y .cell/\((cellsFrom ((zB s)+1) (fo st).names []).lookup y.1).isSome=true):=λy v=>by
  rcases ag.mp v with rfl|v
  ·exact .inl N
  ·rcases List.mem_singleton.mp v with rfl;exact .inl M
 have G:=bd s [Value.ref e,.int n t] KX rfl;refine codeAny_call_function O.depth (KX _ _ lk) rfl S.co S.gen rfl (codeRec_of KX D) (G _ _ _ _ ?_);refine wpAny_newFunctionEnv_cells S.kind d λenv B s1 x=>?_;subst B;refine⟨m.keeps x.toInCall.keep,codeAny_func ?_⟩;have R:f7 [V.ref e,V.int n] [Value.ref e,.int n t]:=.cons rfl (.cons ⟨t,rfl⟩ .nil);have I:=(yZ (CX:=yl) (E:=λ_ _ _=>False) S O.hd h rfl R x).since (s₁:=sb) U hk (cX (Nat.lt_of_le_of_lt i (av l))) (λb o z=>(g.bs b o z).1) g.MM g.qx;have I:=I.vB (λ_ _=>False);show wpAny _ _ (execs (iB st) _) _ _ _;rw[hb];refine bF (E7 (X:=Cx.vB { uw yl P w K mg base ["self","line"] q (fo st) fI L A outer s H (λ_ _ _=>False) with s₀:=sb } λ_ _=>False) kE hg hm rfl rfl (.inl N) (.inl M) I ⟨?_,?_,?_,?_,i,λp hp=>by cases hp⟩ rfl rfl hn ha (x.toInCall.keep e _ l) rfl ht) (λf s' ⟨z,dx,t',Q,J,nd,W,e2⟩=>?_) λ_ _ z=>z.elim
 ·exact g.iY.fresh i
 ·exact aN (av l)
 ·intro z;obtain⟨_,o,ho,_⟩:=g.qx.mem z;exact absurd (aI (av ho) i) (aZ _)
 ·intro y c hc;exact cF (dX (av l) (x.above y c (bE hc)))
 ·subst z;exact⟨rfl,J.os,J.bare,J.base,J.iY,dx,Q,t',nd,W,e2⟩
end
end L2
namespace L2
open PySem PySem.Spec PyProof.Rows PySem.W
theorem qj.K3{P:Program}{c:Heap}(x:qj P w H h)(k:∀b u o,H b=Y o->h.get? b=Y u->c.get? b=Y u):qj P w H c:=λa o e=>
 (x a o e).uq (λb u hb q=>hb.elim (λz=>k b u o (by rw[z];exact e) q) λz=>k b u _ z q) (λ_ q=>q) λ_ _ q=>q
abbrev K4(n:Int)(t:Tok):Str->Option Value:=λy=>if y="line" then Y (.int n t) else Z
structure K5 (P:Program) (w:World) (C:Addr) (outer:List Env) (H:Hp) (s:Shared) (n:Int) (H':Hp) (e dx:Addr) (fl:Value) (h:Heap):Prop where
 ex:∃h₀ fs t,Un (vb outer) [] H H' s.heap h₀/\qj P w H' h₀/\(∀b∈fs,H' b=Z/\(b∈vb outer\/s.heap.get? b=Z))/\(∀b∈vb outer,b∈fs)/\GL h₀ fs C e dx (K4 n t) fl h
section
variable {P:Program}{e dx:Addr}{outer:List Env}{H':Hp}{n:Int}{fl:Value}
theorem K5.un(F:K5 P w C outer H s n H' e dx fl h):Un (vb outer) [] H H' s.heap h/\qj P w H' h:=by
 obtain⟨h₀,v,t,u,i,k,r,F⟩:=F.ex;refine⟨⟨λb o q z j c=>?_,λb o q z d c=>?_,u.free,λb o q c=>?_,u.rR,u.qw,u.sk⟩,i.K3 λb o l z q=>?_⟩
 ·refine F.keep b o (u.keep b o q z j c) λd=>?_;rcases(k b d).2 with y|y
  ·exact j y
  ·rw[q] at y;cases y
 ·obtain⟨m,g⟩:=u.slot b o q z d c;obtain⟨a,f⟩:=F.slot b _ g;exact⟨a,f⟩
 ·obtain⟨p,g⟩:=u.there b o q c;obtain⟨a,f⟩:=F.slot b _ g;exact⟨_,f⟩
 ·refine F.keep b o q λd=>?_;rw[(k b d).1] at z;cases z
end
def K6(P:Program)(w:World)(C:Addr):Jc:=λa H s E v b=>∃e d n c,v=.ref e/\b.os=s.os/\AllBare b.gens/\K5 P w C a H s n c e d .none b.heap/\E (.int n 0) Z c
structure VL (K:Frag) (mg:Str->Ow) (c:Str) (C:Addr):Prop where
 at_:mg c=Y (.ref C)
 ex:∃(PE fI:Addr) (fd:FuncData) (q:Str) (st:Stmt) (a:Str) (j:Nat) (p1 p2 p3 p4 p5 p6 p7 p8 p9 q1 q2 q3 q4:Pos),mg "PointError"=Y (.ref PE)/\CS K C PE fI/\D9 K "__init__" q st fI fd/\i5 ["self","line"] ["self","line"] (fo st) /\
  iB st=GN a j p1 p2 p3 p4 p5 p6 p7 p8 p9 q1 q2 q3 q4/\kZ K fd ["self","line"] []/\(fo st).names.lookup ("PointError":Str)=Y .globalImplicit/\(fo st).names.lookup ("self":Str)=Y .local/\(fo st).names.lookup ("line":Str)=Y .local /\
  a.length<=1000/\NX a j p1 p2 p3 p4 p5 p6 p7 p8
section
variable {E:XK}{arg:Expr}{te:TE}{np gQ:Pos}{k:Nat}
theorem RV{l:Shared}{e:Addr}{n:Int} (I:fD X pins σ H s) (L:s.heap.get? e=Z) (K:H e=Z) (j:X.stack=X.env::X.outer) (k:X.env.frame=Y X.env.locals) (c:X.ex=[])
  (p:X.xe=λe s'=>(zw X) (leaving X.env e) (λ_ K7=>K6 X.prog X.w C X.outer X.H₀ X.s₀ E e K7) (λe' K7=>K6 X.prog X.w C X.outer X.H₀ X.s₀ E e' K7) s') (M:UM X.stack X.prog X.w H s C e n l) (P:E (.int n 0) Z H):X.xe (.ref e) l:=by
 obtain⟨r,Q,t,⟨O,J⟩,D,N⟩:=M.ob;have a:fD X pins σ H l:=by obtain⟨R,g,d,t,B⟩:=l;obtain rfl:B=s.os:=M.os;exact I.call (ch:=[]) M.un M.iY M.bare λb z=>by cases z
 have h:∀b o,X.s₀.heap.get? b=Y o->b∉[e,r]:=λb o q z=>by
  obtain⟨v,f⟩:=I.base.there b o q (by rw[c];exact aV);rcases ag.mp z with rfl|z
  ·rw[L] at f;cases f
  ·rcases List.mem_singleton.mp z with rfl;rw[J] at f;cases f
 rw[p];have m:=a.ok.frames;rw[j] at m;have x:=a.stack;rw[j] at x;refine NV (h₀:=hideAll l.heap [e,r]) m x k (λb o q=>of_hideAll _ q) (hideAll_none _ (by simp)) (hideAll_none _ (by simp)) D N rfl rfl rfl rfl λS F=>?_;refine⟨e,r,n,H,rfl,a.os,a.bare,⟨_,_,t,⟨λb o q z G i=>?_,λb o q z hb i=>?_,λb o q z i=>a.base.free b o q z (by rw[c];exact i),λb o q i=>?_,a.base.rR,a.base.qw,a.base.sk⟩,a.iY.K3 λb o u z q=>hideAll_get _ q λy=>?_,λb hb=>⟨?_,?_⟩,λb hb=>?_,F⟩,P⟩
 ·exact hideAll_get _ (a.base.keep b o q z G (by rw[c];exact i)) (h b o q)
 ·obtain⟨A,f⟩:=a.base.slot b o q z hb (by rw[c];exact i);exact⟨A,hideAll_get _ f (h b o q)⟩
 ·obtain⟨v,f⟩:=a.base.there b o q (by rw[c];exact i);exact⟨v,hideAll_get _ f (h b o q)⟩
 ·rcases ag.mp y with rfl|y
  ·rw[K] at z;cases z
  ·rcases List.mem_singleton.mp y with rfl;rw[O] at z;cases z
 ·exact a.Aj b (by rw[j];exact hb)
 ·unfold vb at hb;rw[bT,k] at hb;rcases ag.mp hb with rfl|hb
  ·exact .inr (Heap.get?_none_of_le a.ok.above)
  ·exact .inl hb
 ·unfold vb;rw[bT,k];exact aj _ hb
theorem CU{M:Model}{E:Px}{i:Env}{fI:Addr}{x:Sem Value}{Q:Flow->Shared->Prop} (k:A.handled=Z)
  (h:wpAny M A x (λv s₁=>∃e t dx,v=.ref e/\K1 s₁.heap C fI/\s₁.heap.get? e=Y { cls:=.ref C,dict:=dx,data:=.fields (NW t) }/\E (.ref e) s₁) E s):wpAny M A (raiseStmt i (Y x) Z) Q E s:=by
 unfold raiseStmt;refine aa (bF h (λv s₁ a=>?_) λ_ _ x=>x);obtain⟨e,t,dx,rfl,c,l,m⟩:=a;obtain⟨w,r,N,O,o,J,q,j,P,n,L,G,F,D,B,z,y,c,K,I,T⟩:=c.ex;have f:(Value.ref C::o).contains (.type "BaseException")=true:=by rw[List.contains_cons,T.hasType (b:=true) (zD 0),Bool.or_true]
 obtain⟨H,g,d,p,u⟩:=s₁
 repeat (first|with_reducible refine wpAny_loadPart_at l ?_|with_reducible refine wpAny_loadPart_at c ?_|(with_reducible refine wpAny_isSubtype_exc c ?_;rw[f])|wp_step)
 exact wpAny_raiseNew_none k m
def RW(E:XK)(b:TE):TS:=λ_ σ H=>JC b JB σ H λa c=>∃n,a=[.int n]/\(0<=n/\n<10000)/\E (.int n 0) Z c
theorem K8(Aq:VL X.K X.mg c C) (hg:Gl X c) (ha:PE X arg te) (hr:jf (k+2) X.A) (hc:X.calm=true) (B:X.stack=X.env::X.outer) (G:X.env.frame=Y X.env.locals) (L:X.ex=[])
  (y:X.xe=λe s'=>(zw X) (leaving X.env e) (λ_ K7=>K6 X.prog X.w C X.outer X.H₀ X.s₀ E e K7) (λe' K7=>K6 X.prog X.w C X.outer X.H₀ X.s₀ E e' K7) s')
  (hs:starEach [arg] X.env=[(false,eval arg X.env)]:=by rfl) (P:zg c:=by decide):PS X (.Raise (Y (.Call (.Name c np) [arg] [] gQ)) Z pos) (RW E te):=by
 intro f s σ H D I h;obtain⟨PE,fI,fd,q,st,a,j,p1,p2,p3,p4,p5,p6,p7,p8,p9,q1,q2,V,q4,hP,m,F,S,hb,bd,l2,l0,l1,Q,ht⟩:=Aq.ex;rw[arm_exec_Raise];refine aa (wpAny_standAt (CU (C:=C) (fI:=fI) (I.ok.hd hc) ?_));refine aa (bF (wpAny_Call_ofName (mX I hg Aq.at_ ?_ P)) (λv R o=>aa (wpAny_standAt (ar o))) λ_ _ x=>x);refine W.callWith_K (first:=[]) (h₀:=X.base) I.ok.mod.QD m.kp (iP ((show PA X [arg] (JC te JB) from md ha qC hs) f s σ H (λvs H'=>∃n,vs=[.int n]/\(0<=n/\n<10000)/\E (.int n 0) Z H') I h) λus U ⟨vs,H2,i,r,n,q1,q2,V⟩=>⟨i.sR,?_⟩) hs rfl;subst q1;obtain⟨t,rfl⟩:∃t,us=[.int n t]:=by obtain⟨u,rfl,t,rfl⟩:=f7.one r;exact⟨t,rfl⟩
 have eo:=rF i.sR m.ex;obtain⟨nm,qn,N,bs,bm,hd,sn,sub,ab,col,dd,k0,k1,k2,k3,k5,mN,hC,hN,hi,T⟩:=eo.ex;obtain⟨dI,sI,J⟩:∃oI,U.heap.get? fI=Y oI/\oI.cls=.type "function":=by obtain⟨oc,od,kV,doc,pm,an,rq,ct,Yl,_,lk,_⟩:=F.ex;refine⟨_,i.sR _ _ lk,?_⟩;have z:((X.K.lookup fI).map (·.cls)==Y (.type "function"))=true:=m.fn;rw[lk] at z;simpa using z
 obtain⟨h2,g2,d2,p,l⟩:=U;show wpAny _ _ (call (.ref C) [.int n t]) _ _ _;refine xh PySem.F.excBase_ValueError T hC hN hi sI J (λh' e hm hz=>?_) (by show 1<=sizeLine;decide);obtain⟨t0,he,-,-⟩:=hm.there;have I3:fD X f σ H2 ⟨h',g2,d2,p,l⟩:=i.kept (t':=p) hm.keeps;have eb:=i.JE.make C [.int n t] [];have e3:=I3.JE.make C [.int n t] [];refine wpAny_call (cw (Iu (sb:=⟨h2,g2,d2,p,l⟩) F S hb bd m hP l2 l0 l1 Q q2 (hr.make C [.int n t] []) e3 eb rfl hm.keeps hz he ht) λr s' M=>?_);rcases r with z|(u|_|_|_)<;>first|exact M.elim|skip
 obtain⟨rfl,M⟩:=M;have I4:fD X f σ H2 s':=by obtain⟨hh,g,d,t,os⟩:=s';obtain rfl:os=l:=M.os;exact i.call (ch:=[]) M.un M.iY M.bare λb z=>by cases z
 obtain⟨dx,t1,tt,-,-,O⟩:=M.ob;exact⟨rfl,e,t1,Y dx,rfl,rF I4.sR m.ex,O,RV i hm.new (i.iY.fresh hz) B G L y M V⟩
end
end L2
namespace L2
open PySem PySem.Spec PyProof.Rows PySem.W
section
theorem fD.Xt{j:Nat}{m:Str->Ow}{v:Ow}{w:Heap}{t':Nat} (I:fD X pins σ H s) (M:X.N.Nodup) (L:X.N[j]?=Y x)
  (K:∀(i:Nat) (y:Str) (v:V),X.N[i]?=Y y->σ[i]?=Y (Y v)->BY X.env.scope y->∃u,gv v u/\Tj X.env s.heap m y u) (J:w.Ns X.env.locals (λy=>if y=x then v else m y)) (d:Heap.SameBut X.env.locals s.heap w):fD X pins (σ.set j Z) H { s with heap:=w,toks:=t' }:=by
 obtain⟨Q,⟨P,R,S,G,_⟩,_⟩:=id I.loc;have a:∀b o,X.s₀.heap.get? b=Y o->b≠X.env.locals:=λb o e=>aN (aI (av e) I.ok.above);refine⟨I.ok,I.os,I.bare,⟨λb o e n t h=>?_,λb o e n t h=>?_,I.base.free,λb o e h=>?_,I.base.rR,I.base.qw,I.base.sk⟩,⟨_,J,λi y C g f O=>?_⟩,λy c e=>?_,I.free,I.mU,λp F=>?_,I.iY.K3 λb u o z q=>?_,by simpa using I.len⟩
 ·exact(d.2 b (a b o e)).trans (I.base.keep b o e n t h)
 ·obtain⟨D,g⟩:=I.base.slot b o e n t h;exact⟨D,(d.2 b (a b o e)).trans g⟩
 ·obtain⟨E,g⟩:=I.base.there b o e h;exact⟨E,(d.2 b (a b o e)).trans g⟩
 ·by_cases l:i=j
  ·subst l;by_cases B:i<σ.length
   ·rw[aL B] at f;cases f
   ·rw[bX (by simpa using B)] at f;cases f
  ·rw[ax (Ne.symm l)] at f;obtain⟨u,r,q⟩:=K i y C g f O;refine⟨u,r,?_⟩;rcases q with ⟨k,e⟩ | ⟨k,c,e,z⟩
   ·refine .inl ⟨k,?_⟩;have:y≠x:=λz=>l (wt M g (z▸L));simp[this,e]
   ·exact .inr ⟨k,c,e,z.sameBut d (I.Tn y c e)⟩
 ·obtain⟨v,z⟩:=I.cell y c e;exact⟨v,z.sameBut d (I.Tn y c e)⟩
 ·obtain⟨e,n,A,r⟩:=I.pin p F;exact⟨(d.2 _ A).trans e,n,A,r⟩
 ·refine(d.2 b ?_).trans q;rintro rfl;rw[I.free] at z;cases z
theorem GL.apart{b:Heap}{d:List Addr}{e c:Addr}{m:Str->Ow}{f:Value}{o:Obj}(F:GL b d C e c m f h)(q:b.get? a=Y o):a≠e/\a≠c :=
 ⟨λz=>by (rw[z,F.new] at q;cases q),λz=>by (rw[z,F.RT] at q;cases q)⟩
variable {PE fI:Addr}{j:Nat}{p1 p2 p3 p4 np:Pos}{D:B5}
noncomputable def RX(x y c:Str)(g f e d b a:Pos):ExceptHandler:=.ExceptHandler (Y (.Name c g)) (Y y) [.Assign [.Name x f] (.Attribute (.Name y e) "line" d) b] a
theorem NY{y:Str}{H1 H2:Hp}{Q d:Shared}{e U:Addr}{n:Int} (k:CS X.K C PE fI) (hg:Gl X c) (hm:X.mg c=Y (.ref C)) (hN:X.N.Nodup) (hi:X.N[i]?=Y x) (hj:X.N[j]?=Y y) (lx:X.env.scope.names.lookup x=Y .local) (O:X.env.scope.names.lookup y=Y .local)
  (B:X.stack=X.env::X.outer) (Qd:X.env.frame=Y X.env.locals) (R:i≠j)
  (I:fD X pins σ H1 Q) (os:d.os=Q.os) (V:AllBare d.gens) (F:K5 X.prog X.w C X.stack H1 Q n H2 e U .none d.heap) (hD:D.nx ((σ.set j Z).set i (Y (.int n))) H2)
  (hs:swapsWith (.Attribute (.Name y p2) "line" p3) (Y (.Name x p1)) p4.line X.env=pure false) (Xu:attributeBase (.Name y p2) "line" X.env (eval (.Name y p2) X.env)=eval (.Name y p2) X.env) (hdy:zg y) (hdc:zg c):
  (zw X) (noteFrame (.ref e) X.env) (λ_ s₂=>(zw X) (setFlight (.ref e) Z) (λ_ s₃=>(zw X) (handleBy (.ref e) X.env [RX x y c np p1 p2 p3 p4 pos]) (SP X pins D) E s₃) E s₂) E d:=by
 obtain⟨h₀,fs,t,un,iY,W7,g,F⟩:=F.ex;have A:∀(h:Heap) (fl:Value) (tk:Nat),GL h₀ fs C e U (K4 n t) fl h->fD X pins σ H2 { d with heap:=h,toks:=tk }:=λh fl tk G=>by
  obtain⟨a,b⟩:=K5.un (P:=X.prog) (w:=X.w) (C:=C) (outer:=X.stack) (H:=H1) (s:=Q) (n:=n) (H':=H2) ⟨h₀,fs,t,un,iY,W7,g,G⟩;have J:=I.call (g':=d.gens) (d':=d.drawn) (t':=tk) (ch:=[]) a b V λb z=>by cases z
  rw[<-os] at J;exact J
 have I0:=A d.heap _ d.toks F;have S:=I0.ok.frames;rw[B] at S;have hl:=I0.stack;rw[B] at hl;refine F.note S hl Qd (λb z=>g b (by rw[B];exact z)) λh1 F1=>?_;refine GL.lands (s:={ d with heap:=h1 }) F1 λh2 F2=>?_;have W:=A h2 _ d.toks F2;have eo:=rF W.sR k.ex;obtain⟨nm,qn,N,bs,bm,hd,sn,sub,ab,col,dd,k0,k1,k2,k3,k5,mN,hC,hNN,hi',T⟩:=eo.ex;obtain⟨oe,vs,TT,oT,ts,he,⟨c1,c2,c3⟩,-,-,-,-,-⟩:=F2.ob;refine wpAny_handleBy_cons (codeAny_handlers_test (cO W.ok.kind hg (Calls.loadGlobal_global (by rw[W.ok.glob];exact W.mod.glob.keeps W.bk) hm ?_) hdc)) (by intro q;cases q);refine wpAny_excMatches_sub_self hC he c1 (T.hasType (b:=true) (zD 0)) (codeAny_handlers_suite_as ?_);refine GL.lands (s:={ d with heap:=h2 }) F2 λh3 F3=>?_;have I3:=A h3 _ d.toks F3;refine ur (v:=.ref e) I3 hN hj (.inl O) rfl (λs4 I4 ⟨a,sb,ha⟩=>?_) (.inr O);have hp:(X.env.scope.kind==.class||(X.env.scope.kind==.module&&X.env.locals != X.env.globals))=false:=by rw[I.ok.kind];rfl
 obtain⟨ne,nd⟩:a≠e/\a≠U:=by
  have p:∃o,Q.heap.get? a=Y o:=by
   rcases ha with rfl|ha
   ·obtain⟨m,⟨o,_,_,M,_⟩,_⟩:=I.loc;exact⟨o,M⟩
   ·obtain⟨v,o,M,_⟩:=I.cell y a ha;exact⟨o,M⟩
  obtain⟨o,M⟩:=p;obtain⟨o',ho'⟩:=un.there a o M aV;exact F.apart ho'
 obtain⟨oe,vs,TT,oT,ts,he,⟨c1,c2,c3⟩,-,-,-,-,-⟩:=F3.ob;have he4:s4.heap.get? e=Y oe:=(sb.2 e (Ne.symm ne)).trans he;have ns4:s4.heap.Ns U (K4 n t):=by obtain⟨o,es,ep,M,r⟩:=F3.ns;exact⟨o,es,ep,(sb.2 U (Ne.symm nd)).trans M,r⟩
 have hjl:j<σ.length:=by rw[I.len];exact(aM.mp hj).1
 obtain⟨m4,hn4,hl4⟩:=id I4.loc;obtain⟨u,r,l⟩:=hl4 j y (.ref e) hj (aL hjl) (.inl O);obtain rfl:=show u=Value.ref e from r;refine wpAny_execs_cons (wpAny_Assign_Name (Gh Xu ?_) hs);rcases l with ⟨f,hm4⟩ | ⟨f,-⟩
 ·refine wpAny_Name (wpAny_loadName_local I4.ok.kind f hn4 hm4 ?_) hdy;refine RS I4.sR k.xg k.ln he4 c1 c2 c3 ns4 (v:=.int n t) (ai rfl) rfl ?_;refine ur (v:=.int n) (I4.tok _) hN hi (.inl lx) ⟨t,rfl⟩ (λs6 I6 _=>?_) (.inr lx);refine b8 ?_;obtain⟨m6,hn6,hl6⟩:=id I6.loc;refine wpAny_nameGoes_keeps O hn6 hp λh' v Wa L=>⟨_,H2,I6.Xt hN hj hl6 Wa L,?_⟩
  rw[List.set_comm _ _ (Ne.symm R),List.set_set,List.set_comm _ _ R];exact hD
 ·rcases f with f|f
  ·rw[show X.env.kindOf y=Y .local from O] at f;cases f
  ·rw[show X.env.kindOf y=Y .local from O] at f;cases f
def Xv(c:Sp)(t:TA)(i j:Nat):TS:=λD σ H=>t σ H λb d=>c b d (λ_ a=>D.nx σ a) λv _ a=>∃n,v=.int n 0/\D.nx ((σ.set j Z).set i (Y (.int n))) a
theorem RY{y o:Str}{f:Addr}{G:Lr}{sp:Sp}{kk:Nat}{t:TA}{p b d m:Pos} (F:lT X.prog X.w X.K X.mg X.base (K6 X.prog X.w C) kk f fd G sp) (hr:jf kk X.A) (R:Gl X o) (P:X.mg o=Y (.ref f)) (hk:keepIn X.K (.ref f)=true) (hb:kZ X.K fd G [])
  (ha:PA X (e::es) t) (O:X.xe=λ_ _=>False) (k:CS X.K C PE fI) (hg:Gl X c) (hm:X.mg c=Y (.ref C)) (hN:X.N.Nodup) (hi:X.N[i]?=Y x) (hj:X.N[j]?=Y y) (lx:X.env.scope.names.lookup x=Y .local) (ly:X.env.scope.names.lookup y=Y .local)
  (J:X.stack=X.env::X.outer) (S:X.env.frame=Y X.env.locals) (Q:i≠j) (L:swapsWith (.Call (.Name o p) (e::es) [] b) Z d.line X.env=pure false:=by rfl)
  (hs:swapsWith (.Attribute (.Name y p2) "line" p3) (Y (.Name x p1)) p4.line X.env=pure false:=by rfl) (Xu:attributeBase (.Name y p2) "line" X.env (eval (.Name y p2) X.env)=eval (.Name y p2) X.env:=by rfl) (T:zg y:=by decide) (U:zg c:=by decide) (V:zg o:=by decide)
  (he:zE e es X:=by rfl) (M:(backTo b (starEach es X.env)).any (·.1)=false:=by rfl):
  PS X (.Try [.Expr (.Call (.Name o p) (e::es) [] b) d] [RX x y c np p1 p2 p3 p4 m] [] [] pos) (Xv sp t i j):=by
 intro g s σ H D I h;have hA:=@ha b g s σ H _ I h;rw[O] at hA;refine wpAny_Try_except (wpAny_execs_cons (wpAny_Expr_any ?_ I.quiet L));refine bx (mX I R P ?_ V);refine W.callWith_K (h₀:=X.base) I.ok.mod.QD hk (bF hA (λus s1 ⟨vs,H1,E,r,q⟩=>⟨E.sR,?_⟩) λ_ _ z=>z.elim) he M;have hl:us.length=G.length:=by rw[<-r.length];exact F.len _ _ _ _ q
 refine wpAny_call (cw (F.run X.A X.stack s1 H1 ⟨us,[]⟩ us vs _ _ hr E.JE (by have:=hb s1 us E.sR (by rw[aF];exact hl);rw[aF] at this;exact this) r q) λr s' l=>?_);cases r with
 |error v=>obtain⟨a,dx,n,H2,rfl,os,B,FL,n',en,hD⟩:=l;cases en;exact NY k hg hm hN hi hj lx ly J S Q E os B FL hD hs Xu T U
 |ok fl=>
  cases fl with
  |ret u=>obtain⟨v,H2,I2,rv,q2⟩:=E.after l;exact b8 (b8 ⟨σ,H2,I2,q2⟩)
  |next=>exact False.elim l
  |brk=>exact False.elim l
  |cont=>exact False.elim l
end
end L2
namespace L2
open PySem PySem.Spec PyProof.Rows PySem.W
section
variable {E:XK}{m:Md}{arg:Expr}{np gQ:Pos}{k:Nat}
noncomputable def pQ(f:c5->Od):c5->Option Out:=λρ=>(f ρ).bind λd=>match d with
 |.int n=>if 0<=n/\n<10000 then Y (.rt (.int n)) else Z
 |_=>Z
theorem uK(y:VL X.K X.mg c C) (s:Gl X c) (u:PD X arg f) (r:jf (k+2) X.A) (t:X.calm=true:=by rfl) (h:X.stack=X.env::X.outer:=by rfl) (l:X.env.frame=Y X.env.locals:=by rfl) (m:X.ex=[]:=by rfl)
  (g:X.xe=λe s'=>(zw X) (leaving X.env e) (λ_ K7=>K6 X.prog X.w C X.outer X.H₀ X.s₀ E e K7) (λe' K7=>K6 X.prog X.w C X.outer X.H₀ X.s₀ E e' K7) s':=by rfl)
  (b:starEach [arg] X.env=[(false,eval arg X.env)]:=by rfl) (p:zg c:=by decide):sS X (.exc λn q=>E (.int n 0) Z q) O (.Raise (Y (.Call (.Name c np) [arg] [] gQ)) Z pos) (pQ f) :=
 PS.imp (K8 y s u r t h l m g b p) λD σ H ⟨ρ,o,G,b,e,k⟩=>by
  obtain⟨d,x,a⟩:=bind_some e;obtain⟨n,rfl⟩:∃n,d=.int n:=by cases d<;>first|exact⟨_,rfl⟩|cases a
  dsimp only at a;by_cases j:0<=n/\n<10000
  ·rw[ai j] at a;cases a;rcases k with ⟨B,z,w⟩ | ⟨z,_⟩
   ·cases z;exact⟨ρ,.int n,b.o.full,x,λv q s' i=>⟨n,by rw[fv.fG.mp i],j,w q (b.o.sub.trans s')⟩⟩
   ·exact absurd rfl (z n)
  ·rw[ao j] at a;cases a
noncomputable def CV(f:c5->Od):c5->Option Out:=λρ=>(f ρ).bind λd=>match d with
 |.int _=>Z
 |d=>Y (.rt d)
theorem K9{W:Int->Hp->Prop}(h:PD X e f):sS X (.exc W) O (.Return (Y e) pos) (CV f) :=
 PS.imp (uu h) λD σ H ⟨ρ,o,G,b,e,k⟩=>by
  obtain⟨d,l,c⟩:=bind_some e;have a:∀n,d≠.int n:=λn z=>by subst z;cases c
  obtain rfl:o=.rt d:=by cases d<;>first|(cases c;rfl)|exact absurd rfl (a _)
  rcases k with ⟨j,z,w⟩ | ⟨_,k⟩
  ·exact absurd z (a j)
  ·exact⟨ρ,d,b.o.full,l,λv m g i=>KD.later k (b.o.sub.trans g) |>.here i⟩
end
def YO(K:Frag)(n:Nat)(f:Lp->Od):Sp:=λc H Q E=>∃a d,dt K H a c/\a.length=n/\f a=Y d/\((∃m,d=.int m/\∀b,fJ H b->E (.int m 0) Z b)\/((∀m,d≠.int m)/\KD K H d Q))
structure Iv (P:Program) (w:World) (K:Frag) (mg:Str->Ow) (base:Heap) (C:Addr) (x:Str) (k n:Nat) (f:Lp->Od):Prop where
 ex:∃a fd ps,lT P w K mg base (K6 P w C) k a fd ps (YO K n f)/\mg x=Y (.ref a)/\keepIn K (.ref a)=true/\kZ K fd ps []
section
variable {P:Program}{K:Frag}{base:Heap}{qual:Str}{fa:Addr}{N ps:Lr}{k:Nat}{g:c5->Option Out}{f:Lp->Od}
theorem NZ(F:D9 K x qual st fa fd) (S:i5 N ps (fo st)) (I:n=ps.length) (M:∀i∈O,n<=i)
  (b:∀(rq:Value) (A:Around) (outer:List Env) (s:Shared) (H:Hp) (E:XK),jf k (A.deeper (envOfC qual (fo st) (zB s) fa rq)) ->
   qp (uw (K6 P w C) P w K mg base N qual (fo st) fa rq A outer s H E) (.exc λn H'=>E (.int n 0) Z H') O (iB st) g):lT P w K mg base (K6 P w C) (k+1) fa fd ps (YO K n (iU N g)):=by
 obtain⟨oc,X,kV,U,W,an,rq,ct,y,rfl,B,t⟩:=F.ex;refine PM B t S (λvs H Q E ⟨c,d,i,l,_⟩=>by rw[<-i.length,l,I]) λA outer s H vs Q E G ⟨c,d,i,l,e,k⟩=>⟨_,b rq A outer s H E G,?_⟩
 obtain⟨o,T,p⟩:=bind_some e;have u:=nQ (N:=N) i;have a:∀i∈O,((gK N c)[i]?).join=Z:=λj J=>by
  have:¬ j<c.length:=by have:=M j J;omega
  unfold gK;rw[aS (by simpa using this),bH];split<;>rfl
 have r:∀f:List Nat,(∀i∈f,i∈O)->iV (jU O) K (my N vs) (gK N c) H f []:=by
  intro f;induction f with
  |nil=>intro _;rfl
  |cons j f D=>exact λh=>.inl ⟨a j (h j (by simp)),D λi L=>h i (aj _ L)⟩
 refine⟨gK N c,o,H,⟨⟨u.1,⟨[],rfl,jF.nil,r O λ_ h=>h⟩,λi d q _=>u.2 i d q⟩,λdp V z=>nomatch z⟩,T,?_⟩;cases o with
 |rt d'=>cases p;exact k
 |nx ρ'=>
  cases p;rcases k with ⟨m,z,_⟩ | ⟨_,k⟩
  ·cases z
  ·exact λσ H' G' v R=>k .lP H' (v.trans R.o.sub) (fv.jk.mpr rfl)
 |bk _=>cases p
 |ct _=>cases p
def zz(f:Lp->Od):Lp->Od:=λa=>(f a).bind λd=>match d with
 |.int _=>Z
 |d=>Y d
theorem Iv.own(h:Iv P w K mg base C x k n f):qm P w K mg base x k n (zz f):=by
 obtain⟨a,M,y,F,J,I,G⟩:=h.ex;have b:∀{ds d},zz f ds=Y d->f ds=Y d/\∀m,d≠.int m:=λ{ds d} e=>by
  obtain⟨j,N,t⟩:=bind_some e;have o:∀n,j≠.int n:=λn z=>by subst z;cases t
  obtain rfl:j=d:=by cases j<;>first|(cases t;rfl)|exact absurd rfl (o _)
  exact⟨N,o⟩
 refine⟨a,M,y,⟨λvs H Q E ⟨ds,d,i,l,e,q⟩=>F.len vs H Q (λ_ _ _=>False) ⟨ds,d,i,l,(b e).1,.inr ⟨(b e).2,q⟩⟩,λA c s H g u vs Q E B O D r ⟨ds,d,i,l,e,q⟩=>?_⟩,J,I,G⟩;refine cw (F.run A c s H g u vs Q (λ_ _ _=>False) B O D r ⟨ds,d,i,l,(b e).1,.inr ⟨(b e).2,q⟩⟩) λr R p=>?_;cases r with
 |ok L=>cases L<;>exact p
 |error v=>obtain⟨e,S,n,T,_,_,_,_,z⟩:=p;exact z.elim
end
theorem kc.unset{m:Md}{K:Frag}(h:kc m O K σ ρ H G)(l:i∉O):kc m O K (σ.set i Z) (ρ.set i Z) H G:=by
 obtain⟨B,t,f,d⟩:=h.o.ex;refine⟨⟨by simpa using h.o.len,⟨B,t,f,d.other λj e=>?_⟩,λj w q e=>?_⟩,λv r z=>?_⟩
 ·have c:i≠j:=λz=>l (z▸e);exact⟨ax c,ax c⟩
 ·by_cases c:j=i
  ·subst c;by_cases k:j<ρ.length
   ·rw[aL k] at q;cases q
   ·rw[bX (by simpa using k)] at q;cases q
  ·rw[ax (Ne.symm c)] at q;obtain⟨u,a,b⟩:=h.o.lP j w q e;exact⟨u,by rw[ax (Ne.symm c)];exact a,b⟩
 ·obtain⟨g,p,n⟩:=h.z v r z;have s:i≠0:=λq=>l (q▸g);exact⟨g,by rw[ax s];exact p,n⟩
noncomputable def RZ(n:Nat)(f:Lp->Od)(b:c5->Option Lp)(i j:Nat):c5->Option Out:=λρ=>(b ρ).bind λa=>if a.length=n then (f a).bind λd=>match d with
 |.int v=>Y (.nx ((ρ.set j Z).set i (Y (.int v))))
 |_=>Y (.nx ρ) else Z
section
variable {y fn:Str}{m:Md}{f:Lp->Od}{p np gQ UN Xw p1 p2 p3 p4:Pos}{k jj:Nat}
theorem N1(i j:Nat) (F:Iv X.prog X.w X.K X.mg X.base C fn jj n f) (Aq:VL X.K X.mg c C) (hr:jf k X.A) (hN:X.N.Nodup) (M:Gl X fn) (hg:Gl X c) (ha:BZ X (e::es) ff) (hj:jj<=k:=by decide) (iO:i∉O:=by decide) (jO:j∉O:=by decide) (B:X.xe=λ_ _=>False:=by rfl) (J:X.N[i]?=Y x:=by rfl) (I:X.N[j]?=Y y:=by rfl) (lx:X.env.scope.names.lookup x=Y .local:=by rfl) (ly:X.env.scope.names.lookup y=Y .local:=by rfl)
  (s:X.stack=X.env::X.outer:=by rfl) (P:X.env.frame=Y X.env.locals:=by rfl) (L:i≠j:=by decide) (t:swapsWith (.Call (.Name fn p) (e::es) [] gQ) Z UN.line X.env=pure false:=by rfl)
  (g:swapsWith (.Attribute (.Name y p2) "line" p3) (Y (.Name x p1)) p4.line X.env=pure false:=by rfl) (T:attributeBase (.Name y p2) "line" X.env (eval (.Name y p2) X.env)=eval (.Name y p2) X.env:=by rfl) (Q:zg y:=by decide) (R:zg c:=by decide) (S:zg fn:=by decide)
  (he:zE e es X:=by rfl) (u:(backTo gQ (starEach es X.env)).any (·.1)=false:=by rfl):
  sS X m O (.Try [.Expr (.Call (.Name fn p) (e::es) [] gQ) UN] [RX x y c np p1 p2 p3 p4 Xw] [] [] pos) (RZ n f ff i j):=by
 obtain⟨a,fd,ps,F,h1,h2,h3⟩:=F.ex;obtain⟨PE,fI,fd',q,st,a',j',r1,r2,r3,r4,r5,r6,r7,r8,r9,q1,q2,q3,q4,hP,kE,-⟩:=Aq.ex;refine PS.imp (RY (F.mono hj) hr M h1 h2 h3 ha B kE hg Aq.at_ hN J I lx ly s P L t g T Q R S he u) λD σ H ⟨ρ,o,G,g,e,k⟩=>?_;obtain⟨U,e1,h⟩:=bind_some e;by_cases E:U.length=n
 ·rw[ai E] at h;obtain⟨d,e3,e4⟩:=bind_some h;refine⟨ρ,U,g.o.full,e1,λvs H' s' i'=>⟨U,d,i',E,e3,?_⟩⟩;by_cases hd:∃v,d=.int v
  ·obtain⟨v,rfl⟩:=hd;cases e4;refine .inl ⟨v,rfl,λV r=>⟨v,rfl,?_⟩⟩;obtain⟨W,l,_,b⟩:=g.o.grow (s'.trans r);exact k _ V W l (kc.set (kc.unset ⟨b,g.z⟩ jO) iO (fv.fG.mpr rfl))
  ·have ni:∀v,d≠.int v:=λv z=>hd ⟨v,z⟩;obtain rfl:o=.nx ρ:=by cases d<;>first|(cases e4;rfl)|exact absurd rfl (ni _)
   refine .inr ⟨ni,λv V r _=>?_⟩;obtain⟨W,l,_,b⟩:=g.o.grow (s'.trans r);exact k σ V W l ⟨b,g.z⟩
 ·rw[ao E] at h;cases h
end
end L2
namespace L2
open PySem PySem.Spec PyProof.Rows PySem.W
def GO:Lw->Bool
 |.ref _::r=>GO r
 |l=>l==RU
theorem tN(b:Value):∀{l:Lw},GO l=true->refuseLoop b "__setattr__" l=pure ()
 |[],h=>by cases h
 |.ref a::r,h=>by rw[refuseLoop_ref];exact tN b (l:=r) h
 |.none::r,h=>by cases h
 |.bool _::r,h=>by cases h
 |.int _ _::r,h=>by cases h
 |.float _ _::r,h=>by cases h
 |.str _ _::r,h=>by cases h
 |.builtin _::r,h=>by cases h
 |.type a::r,h=>by rw[bY.mp (show ((.type a::r:Lw)==RU)=true from h)];exact PySem.F.store_ValueError.passes b
 |.bytes _ _::r,h=>by cases h
 |.notImplemented::r,h=>by cases h
 |.ellipsis::r,h=>by cases h
theorem zG:∀{l:Lw},GO l=true->l.contains (.type "object")=true
 |[],h=>by cases h
 |.ref a::r,h=>by rw[List.contains_cons,zG (l:=r) h,Bool.or_true]
 |.none::r,h=>by cases h
 |.bool _::r,h=>by cases h
 |.int _ _::r,h=>by cases h
 |.float _ _::r,h=>by cases h
 |.str _ _::r,h=>by cases h
 |.builtin _::r,h=>by cases h
 |.type a::r,h=>by rw[bY.mp (show ((.type a::r:Lw)==RU)=true from h)];decide +kernel
 |.bytes _ _::r,h=>by cases h
 |.notImplemented::r,h=>by cases h
 |.ellipsis::r,h=>by cases h
def xcd(K:Frag)(C:Addr):Bool:=(clsIn K C).any λa=>a.hasDict&&GO a.mro
def YP(q:Str)(b:Stmt):Prop:=∃(a:Str) (j:Nat) (p1 p2 p3 p4 p5 p6 p7 p8 p9 q1 q2 q3 q4:Pos),i5 ["self","line"] ["self","line"] (fo b)/\iB b=GN a j p1 p2 p3 p4 p5 p6 p7 p8 p9 q1 q2 q3 q4/\MB "__init__" q b ["self","line"] /\
 (fo b).names.lookup ("PointError":Str)=Y .globalImplicit/\(fo b).names.lookup ("self":Str)=Y .local/\(fo b).names.lookup ("line":Str)=Y .local/\a.length<=1000/\NX a j p1 p2 p3 p4 p5 p6 p7 p8
def GP(K:Frag)(a:Str->Ow)(c q:Str)(e:Stmt):Prop:=∃C,a c=Y (.ref C)/\∃d b f,a "PointError"=Y (.ref d)/\CS K C d b/\D9 K "__init__" q e b f
section
variable {K:Frag}{q:Str}{PE f:Addr}{od an:Option Addr}{sl:Array Ow}{oc kV dc pm cd ct:Value}
theorem excAt(X:K.In h) (G:h.Ns mainGlobals mg) (a:nsIn K mainGlobals c=Y (Y (.ref C))) (p:nsIn K mainGlobals "PointError"=Y (Y (.ref PE))) (n:findIn K (.ref C) "__init__"=Y (Y (.ref f))) (z:A8 K C RU "ValueError.__new__" f=true) (y:isFn K (.ref f)=true) (v:keepIn K (.ref C)=true)
  (o:findIn K (.ref C) "__setattr__"=Y (Y (.builtin "object.__setattr__"))) (m:xcd K C=true) (x:findIn K (.ref C) "__getattribute__"=Y (Y (.builtin "BaseException.__getattribute__"))) (w:findIn K (.ref C) "__getattr__"=Y Z) (i:subIn K (.ref C) (.type "BaseException")=Y true)
  (u:findIn K (.ref C) "line"=Y Z) (s:readsIn K PE (.type "type")=true) (t:findCls K (.ref PE) (.type "type") "__init__"=Y (.val (.builtin "ValueError.__init__"))) (r:specialIn K (.ref PE) "__getattribute__"=Y (Y (.builtin "type.__getattribute__")))
  (l:K.lookup f=Y ⟨oc,od,.func (fnOf "__init__" q (mY st) (iB st) (fo st) .none kV dc pm an cd ct),sl⟩) (e:codeIn K cd q=true) (k:keepIn K (.ref f)=true):GP K mg c q st:=by
 obtain⟨g,j,b⟩:=any_some m;have b:=Bool.and_eq_true_iff.mp b;exact⟨C,mg_of X G a,PE,f,_,mg_of X G p,⟨z,y,v,⟨o,g,j,b.1,zG b.2,λd=>tN d b.2⟩,⟨x,w,i,g,j,b.1⟩,u,s,t,r⟩,Ay l e k⟩
noncomputable def YQ(E:GP K mg c q st):Addr:=Classical.choose E
theorem VM(E:GP K mg c q st)(S:YP q st):VL K mg c (YQ E):=by obtain⟨a,A,y,x,p,k,F⟩:=Classical.choose_spec E;obtain⟨z,j,w,v,u,t,s,r,o,n,m,l,i,h,g,f,e,d,b⟩:=S;exact⟨a,A,y,x,q,st,z,j,w,v,u,t,s,r,o,n,m,l,i,h,g,p,k,F,f,e,d.to F,b⟩
end
section
variable {P:Program}{K:Frag}{base:Heap}{N:Lr}{k:Nat}{g:c5->Option Out}
abbrev UO(P:Program)(w:World)(K:Frag)(f:Str->Option Value)(c:Heap)(C:Addr)(q:Str)(d:Stmt)(N:List Str)(k:Nat)(O:List Nat)(g:c5->Option Out):Prop :=
 ∀{e:Addr}{b:Value}{A:Around}{a:List Env}{s:Shared}{H:Hp}{E:XK},jf k (A.deeper (envOfC q (fo d) (zB s) e b))->(A.deeper (envOfC q (fo d) (zB s) e b)).units+64<cLine->N.Nodup->O.Nodup ->
  qp (uw (K6 P w C) P w K f c N q (fo d) e b A a s H E) (.exc λn h=>E (.int n 0) Z h) O (iB d) g
theorem R3(O:List Nat) (F:iJ K mg x st) (f:UO P w K mg base C x st N k O g) (S:i5 N (N.take n) (fo st):=by exact⟨rfl,rfl,rfl,by decide +kernel,rfl,by decide +kernel,by decide +kernel⟩) (e:n=(N.take n).length:=by rfl) (h:∀i∈O,n<=i:=by decide) (c:O.Nodup:=by decide)
  (o:MB x x st (N.take n):=by intro _ _ _ _ _ _;(repeat' intro _);exact rfl):Iv P w K mg base C x (k+1) n (iU N g):=by
 obtain⟨a,l,j,F⟩:=F;exact⟨a,l,N.take n,NZ F S e h λm A b s H E d=>f d d.units S.nd c,j,F.kp,o.to F⟩
end
end L2
namespace K03
open PySem L2
def nF(i:Nat):Stmt:=PySem.Challenge.pw_pointsure_k03_told_nowhere.main.body.getD i (.Pass ⟨0,0,0,0⟩)
noncomputable def A9:List (fe×fe):=[((.str "new"),(.tuple [(.str "X"),(.str "KIND")])),((.str "row"),(.tuple [(.str "X")])),((.str "func"),(.tuple [(.str "X"),(.str "FUNCTION"),(.str "A")])),((.str "copy"),(.tuple [(.str "X"),(.str "Y")])),((.str "take"),(.tuple [(.str "X"),(.str "Y"),(.str "FIELD")])),((.str "put"),(.tuple [(.str "Y"),(.str "FIELD"),(.str "X")])),((.str "push"),(.tuple [(.str "Y"),(.str "X")])),((.str "pull"),(.tuple [(.str "X"),(.str "Y")])),((.str "do"),(.tuple [(.str "X"),(.str "Y"),(.str "A")])),((.str "ask"),(.tuple [(.str "X"),(.str "Y"),(.str "METHOD"),(.str "A")])),((.str "straight"),(.tuple [(.str "X"),(.str "Y"),(.str "KIND"),(.str "METHOD"),(.str "A")])),((.str "give"),(.tuple [(.str "X")])),((.str "tell"),(.tuple [(.str "X")])),((.str "rest"),(.tuple [])),((.str "check"),(.tuple [(.str "Y"),(.str "FIELD")])),((.str "fresh"),(.tuple [(.str "X"),(.str "KIND")])),((.str "own"),(.tuple [(.str "X"),(.str "Y"),(.str "FIELD")])),((.str "place"),(.tuple [(.str "Y"),(.str "FIELD"),(.str "X")]))]
noncomputable def nj:List (fe×fe):=[((.str "choose"),(.tuple [])),((.str "some"),(.tuple [(.str "X")])),((.str "same"),(.tuple [(.str "X"),(.str "Y")]))]
abbrev E8:Stmt:=nF 39
def iM:c5->Option Out :=
(c7 (fu (fO [2] (d2 gq (d2 fC (d2 se (bb 3) (zI 48271)) (bb 4)) (zI 2147483647))) 3)
(iA (iT (we (bb 1)) (fB (d2 ki (bb 0) (iQ (c4 (zI 0) (zQ (zI (-1))))))))
(c7 (gd (.sl 2) (fO [2] (d2 gq (bb 0) (zI 5040))))
(fu (fO [2] (d2 ym (bb 0) (zI 5040))) 0))
(gd (.sl 2) (fO [2] (d2 gq (d2 se (d2 gq (d2 se (bb 3) (zI 69621)) (zI 99991)) (zI 16807)) (zI 99989))))))
def E9:c5->Option Out :=
(c7 (jH (fO [2] (eT eB)) 2)
(c7 (fu (fO [2] (d2 fC (d2 gq (bb 0) (zI 1000000007)) (zI 1))) 3)
(c7 (j4 (wa [2] (jY (zI 14))) (.one 4) iM)
(fZ (bb 2)))))
def jb:Lp->Od:=iU ["_law_cell","_law_digits","_law_found","_law_number","_law_k"] E9
abbrev CW:Stmt:=nF 40
def il:c5->Option Bool:=(Eb (fB (d2 NP (bb 1) (dC .none))) (fB (d2 mB (bb 0) (iQ (zC "g" (zC "h" eB))))))
def iq:c5->Od:=(bb 0)
def ir:c5->Option Out :=
(c7 (fu (fO [1] (dC .none)) 3)
(c7 (iA (iT (fB (d2 wF (bb 2) (zI 0))) (fB (d2 wF (d2 gq (zX (bb 0) (bb 2)) (zI 3)) (zI 0))))
(fu (fO [1] (zX (eT (zC "ka" (zC "kb" eB))) (d2 gq (zX (bb 0) (d2 fC (zI 2) (bb 2))) (bb 2)))) 3)
gi)
(c7 (fu (fO [1] (gz (zX (eT (c4 (eT (zC "f" (zC "u" eB))) (c4 (eT (zC "g" (zC "f" eB))) (zQ (eT (zC "h" (zC "u" eB))))))) (bb 2)) iL (gM (d2 gq (zX (bb 0) (d2 fC (zI 5) (bb 2))) (zI 3))))) 4)
(c7 (fu (fO [1] (iG (lQ (bb 4)) [(3,"_law_elder")] il iq)) 4)
(gd (.sl 1) (fO [1] (iQ (c4 (zX (eT (zC "ka" (zC "kb" (zC "kc" eB)))) (bb 2)) (c4 (bb 3) (zQ (bb 4)))))))))))
def qL:c5->Option Out :=
(c7 (jH (fO [1] (eT eB)) 1)
(c7 (j4 (wa [1] (jY (d2 fC (zI 1) (d2 gq (zX (bb 0) (zI 0)) (zI 3))))) (.one 2) ir)
(fZ (bb 1))))
def mE:Lp->Od:=iU ["_law_draw_here","_law_kinds_here","_law_k","_law_elder","_law_own"] qL
abbrev CY:Stmt:=nF 41
def lD:c5->Option Bool:=(λ_=>Y true)
def lE:c5->Od:=(zX (bb 0) (zI 0))
def nX:c5->Option Out :=
(c7 (fu (fO [2] (gz (eT (zC "p" (zC "q" eB))) iL (gM (d2 gq (zX (bb 0) (d2 fC (zI 1) (bb 3))) (zI 3))))) 4)
(c7 (fu (fO [2] (d2 fC (d2 fC (zX (zX (bb 1) (d2 gq (zX (bb 0) (d2 fC (zI 4) (bb 3))) (zN (bb 1)))) (zI 0)) (zA ".")) (zX (eT (zC "m" (zC "n" eB))) (d2 gq (zX (bb 0) (d2 fC (zI 7) (bb 3))) (zI 2))))) 5)
(iA (iT (fB (d2 iS (d2 gq (zX (bb 0) (d2 fC (zI 10) (bb 3))) (zI 2)) (zI 0))) (fB (d2 ki (bb 5) (iG (lQ (bb 2)) [] lD lE))))
(gd (.sl 2) (fO [2] (iQ (c4 (bb 5) (c4 (bb 4) (zQ (eT eB)))))))
(gd (.sl 2) (fO [2] (iQ (c4 (zX (eT (zC "fa" (zC "fb" (zC "fc" eB)))) (bb 3)) (c4 (bb 4) (zQ (gz (eT (zC "k" (zC "l" eB))) iL (gM (d2 gq (zX (bb 0) (d2 fC (zI 7) (bb 3))) (zI 3)))))))))))))
def qM:c5->Option Out :=
(c7 (jH (fO [2] (eT eB)) 2)
(c7 (j4 (wa [2] (jY (d2 gq (zX (bb 0) (zI 0)) (zI 4)))) (.one 3) nX)
(fZ (bb 2))))
def oF:Lp->Od:=iU ["_law_draw_here","_law_kinds_here","_law_heads_here","_law_k","_law_params","_law_method"] qM
abbrev CZ:Stmt:=nF 51
def lF:c5->Option Bool:=(λ_=>Y true)
def lG:c5->Od:=(Kj (eT eB))
def nY:c5->Option Out :=
(c7 (iA (iT (fB (d2 iS (d2 gq (zX (bb 4) (zI 13)) (zI 6)) (zI 5))) (fB (d2 yg (bb 3) (bb 1))))
(fu (fO [2,99] (d2 fC (bb 3) (zI 1))) 3)
gi)
(E4 (.sl 2) (fO [2,99] (bb 3)) (fO [2,99] (bb 4))))
def qN:c5->Option Out :=
(c7 (jH (fO [2,99] (iG (jY (d2 fC (bb 1) (zI 1))) [] lF lG)) 2)
(c7 (fu (fO [2,99] (zI 0)) 3)
(c7 (j4 (wa [2,99] (pq (bb 0))) (.one 4) nY)
(fZ (bb 2)))))
def oG:Lp->Od:=iU ["_law_draws","_law_many","_law_parts_here","_law_at","_law_draw_here"] qN
abbrev C0:Stmt:=nF 49
def nZ:c5->Option Bool:=(fB (d2 ki (zA ".") (zX (bb 0) (zI 0))))
def n4:c5->Od:=(bb 0)
def qO:c5->Option Out :=
(c7 (iA (fB (d2 mK (zX (bb 0) (zI 0)) (zA "main")))
(fZ (eT eB))
gi)
(c7 (jH (fO [4] (eT (zQ (eT (zC "new" (zC "x" (zQ (zX (zX (bb 2) (d2 gq (zX (bb 1) (zI 0)) (zN (bb 2)))) (zI 0))))))))) 4)
(c7 (fu (fO [4] (iG (lQ (bb 3)) [] nZ n4)) 5)
(c7 (iA (fB (d2 mK (bb 5) (eT eB)))
(c7 (fu (fO [4] (zX (bb 5) (d2 gq (zX (bb 1) (zI 1)) (zN (bb 5))))) 6)
(gd (.sl 4) (fO [4] (d2 fC (eT (zC "func" (zC "y" (zQ (zX (bb 6) (zI 0)))))) (gz (eT (zC "x" (zC "z" eB))) iL (gM (zN (zX (bb 6) (zI 2)))))))))
gi)
(fZ (bb 4))))))
def k6:Lp->Od:=iU ["_law_head","_law_draw_here","_law_kinds_here","_law_heads_here","_law_rows","_law_funcs","_law_one"] qO
abbrev yv:Stmt:=nF 38
def oZ:c5->Option Out :=
(c7 (iA (fB (d2 yg (bb 1) (zN (bb 0))))
(fZ (zX (bb 0) (bb 1)))
gi)
(fZ (zI 0)))
def gH:Lp->Od:=iU ["_law_script","_law_k"] oZ
abbrev xj:Stmt:=nF 42
def n5:c5->Option Out :=
(c7 (iA (fB (d2 mB (zA ".") (zX (bb 0) (zI 0))))
(c7 (Cy (fO [] (pN kT (zX (bb 0) (zI 0)) (zC "." eB))) (.many [1,2,3]))
(fZ (pN je (zA " ") (zQ (d2 fC (eT (zC "method" (c4 (bb 1) (zQ (bb 3))))) (zX (bb 0) (zI 1)))))))
gi)
(c7 (fu (fO [] (d2 fC (eT (zC "func" (zQ (zX (bb 0) (zI 0))))) (zX (bb 0) (zI 1)))) 4)
(c7 (iA (fB (d2 mK (zX (bb 0) (zI 2)) (eT eB)))
(fu (fO [] (d2 fC (d2 fC (bb 4) (eT (zC "keeps" eB))) (zX (bb 0) (zI 2)))) 4)
gi)
(fZ (pN je (zA " ") (zQ (bb 4)))))))
def iu:Lp->Od:=iU ["_law_head","_law_kind","_law_dot","_law_method","_law_row"] n5
abbrev C1:Stmt:=nF 43
def qP:c5->Option Out :=
(c7 (fu (fO [] (d2 fC (d2 fC (zX (bb 0) (zI 1)) (zX (bb 0) (zI 2))) (eT (zC "x" (zC "y" (zC "z" eB)))))) 1)
(c7 (iA (fB (d2 mB (zA ".") (zX (bb 0) (zI 0))))
(fu (fO [] (d2 fC (bb 1) (eT (zC "self" eB)))) 1)
gi)
(fZ (bb 1))))
def jv:Lp->Od:=iU ["_law_head","_law_names_here"] qP
abbrev Fb:Stmt:=nF 48
def sC:c5->Option Out :=
(c7 (fu (fO [] (eT (zC "new" (zC "copy" (zC "take" (zC "put" (zC "ask" (zC "do" (zC "new" (zC "func" (zC "tell" (zC "if" (zC "while" (zC "end" (zC "else" (zC "push" eB)))))))))))))))) 2)
(c7 (fu (fO [] (d2 fC (bb 2) (eT (zC "pull" (zC "row" (zC "give" (zC "take" (zC "put" (zC "ask" (zC "do" (zC "end" (zC "rest" (zC "copy" eB))))))))))))) 2)
(c7 (iA (we (bb 1))
(fu (fO [] (d2 fC (bb 2) (eT (zC "straight" (zC "check" (zC "fresh" (zC "own" (zC "place" eB)))))))) 2)
gi)
(fZ (zX (bb 2) (d2 gq (zX (bb 0) (zI 0)) (zN (bb 2))))))))
def kW:Lp->Od:=iU ["_law_draw_here","_law_wide","_law_some"] sC
abbrev vI:Stmt:=nF 47
def mM:c5->Option Out :=
(c7 (fu (fO [] (zX (bb 1) (d2 gq (zX (bb 0) (zI 1)) (zN (bb 1))))) 2)
(c7 (iA (fB (d2 iS (d2 gq (zX (bb 0) (zI 3)) (zI 3)) (zI 0)))
(fZ (eT (zC "choose" eB)))
gi)
(c7 (iA (fB (d2 iS (d2 gq (zX (bb 0) (zI 3)) (zI 3)) (zI 1)))
(fZ (eT (zC "some" (zQ (bb 2)))))
gi)
(fZ (eT (zC "same" (c4 (bb 2) (zQ (zX (bb 1) (d2 gq (zX (bb 0) (zI 2)) (zN (bb 1))))))))))))
def hI:Lp->Od:=iU ["_law_draw_here","_law_names_here","_law_x"] mM
abbrev Ba:Stmt:=nF 44
def mO:c5->Option Bool:=(λ_=>Y true)
def kL:c5->Od:=(zX (bb 1) (d2 gq (d2 fC (zX (bb 2) (d2 fC (zI 8) (bb 0))) (d2 se (zI 5) (bb 0))) (zN (bb 1))))
def nq:c5->Option Out :=
(fZ (iG (jY (bb 2)) [(1,"_law_names_here"),(0,"_law_draw_here")] mO kL))
def ig:Lp->Od:=iU ["_law_draw_here","_law_names_here","_law_many"] nq
abbrev Bb:Stmt:=nF 45
def jI:c5->Option Bool:=(fB (d2 mB (zA ".") (zX (bb 0) (zI 0))))
def jJ:c5->Od:=(zX (bb 0) (zI 0))
def pR:c5->Option Out :=
(c7 (fu (fO [] (zX (bb 2) (d2 gq (zX (bb 1) (zI 1)) (zN (bb 2))))) 4)
(c7 (fu (fO [] (zX (bb 2) (d2 gq (zX (bb 1) (zI 2)) (zN (bb 2))))) 5)
(c7 (fu (fO [] (zX (eT (c4 (zI 0) (c4 (zI 1) (c4 (zI 1) (zQ (zI 2)))))) (d2 gq (zX (bb 1) (zI 7)) (zI 4)))) 6)
(c7 (fu (fO [] (iG (lQ (bb 3)) [] jI jJ)) 7)
(c7 (iA (fB (d2 iS (bb 0) (zA "ask")))
(fZ (d2 fC (eT (zC "ask" (c4 (bb 4) (c4 (bb 5) (zQ (zX (eT (zC "m" (zC "n" eB))) (d2 gq (zX (bb 1) (zI 5)) (zI 2)))))))) (hZ 3 ig (c4 (bb 1) (c4 (bb 2) (zQ (bb 6)))))))
gi)
(c7 (iA (iT (fB (d2 iS (bb 0) (zA "straight"))) (fB (d2 mK (bb 7) (eT eB))))
(c7 (Cy (fO [] (pN kT (zX (bb 7) (d2 gq (zX (bb 1) (zI 5)) (zN (bb 7)))) (zC "." eB))) (.many [8,9,10]))
(fZ (d2 fC (eT (zC "straight" (c4 (bb 4) (c4 (bb 5) (c4 (bb 8) (zQ (bb 10))))))) (hZ 3 ig (c4 (bb 1) (c4 (bb 2) (zQ (bb 6))))))))
gi)
(fZ (d2 fC (eT (zC "do" (c4 (bb 4) (zQ (bb 5))))) (hZ 3 ig (c4 (bb 1) (c4 (bb 2) (zQ (bb 6)))))))))))))
def jB:Lp->Od:=iU ["_law_word_here","_law_draw_here","_law_names_here","_law_heads_here","_law_x","_law_y","_law_many","_law_methods","_law_kind","_law_dot","_law_method"] pR
abbrev C2:Stmt:=nF 46
def lH:c5->Option Bool:=(fB (d2 ki (zA ".") (zX (bb 0) (zI 0))))
def n6:c5->Od:=(bb 0)
def oH:c5->Option Out :=
(c7 (fu (fO [] (zX (bb 2) (d2 gq (zX (bb 1) (zI 1)) (zN (bb 2))))) 5)
(c7 (fu (fO [] (zX (bb 2) (d2 gq (zX (bb 1) (zI 2)) (zN (bb 2))))) 6)
(c7 (fu (fO [] (zX (eT (zC "f" (zC "g" (zC "h" (zC "u" (zC "v" eB)))))) (d2 gq (zX (bb 1) (zI 4)) (zI 5)))) 7)
(c7 (fu (fO [] (iG (lQ (bb 4)) [] lH n6)) 8)
(c7 (iA (fB (d2 mB (bb 0) (iQ (zC "new" (zC "fresh" eB)))))
(fZ (eT (c4 (bb 0) (c4 (bb 5) (zQ (zX (zX (bb 3) (d2 gq (zX (bb 1) (zI 5)) (zN (bb 3)))) (zI 0)))))))
gi)
(c7 (iA (iT (fB (d2 iS (bb 0) (zA "func"))) (fB (d2 mK (bb 8) (eT eB))))
(c7 (fu (fO [] (zX (bb 8) (d2 gq (zX (bb 1) (zI 5)) (zN (bb 8))))) 9)
(fZ (d2 fC (eT (zC "func" (c4 (bb 5) (zQ (zX (bb 9) (zI 0)))))) (hZ 3 ig (c4 (bb 1) (c4 (bb 2) (zQ (zN (zX (bb 9) (zI 2))))))))))
gi)
(c7 (iA (fB (d2 mB (bb 0) (iQ (zC "row" (zC "give" (zC "tell" eB))))))
(fZ (eT (c4 (bb 0) (zQ (bb 5)))))
gi)
(c7 (iA (fB (d2 mB (bb 0) (iQ (zC "take" (zC "own" eB)))))
(fZ (eT (c4 (bb 0) (c4 (bb 5) (c4 (bb 6) (zQ (bb 7)))))))
gi)
(c7 (iA (fB (d2 mB (bb 0) (iQ (zC "put" (zC "place" eB)))))
(fZ (eT (c4 (bb 0) (c4 (bb 6) (c4 (bb 7) (zQ (bb 5)))))))
gi)
(c7 (iA (fB (d2 iS (bb 0) (zA "check")))
(fZ (eT (zC "check" (c4 (bb 6) (zQ (bb 7))))))
gi)
(c7 (iA (fB (d2 mB (bb 0) (iQ (zC "push" (zC "pull" eB)))))
(fZ (eT (c4 (bb 0) (c4 (bb 5) (zQ (bb 6))))))
gi)
(c7 (iA (fB (d2 iS (bb 0) (zA "rest")))
(fZ (eT (zC "rest" eB)))
gi)
(fZ (eT (zC "copy" (c4 (bb 5) (zQ (bb 6))))))))))))))))))
def kl:Lp->Od:=iU ["_law_word_here","_law_draw_here","_law_names_here","_law_kinds_here","_law_heads_here","_law_x","_law_y","_law_field","_law_funcs","_law_head"] oH
abbrev Fc:Stmt:=nF 50
def mj:c5->Option Bool:=(λ_=>Y true)
def ml:c5->Od:=(pN je (zA " ") (zQ (bb 0)))
def mq:c5->Option Out :=
(c7 (fu (fO [7,8] (hZ 2 kW (c4 (bb 9) (zQ (bb 4))))) 10)
(iA (iT (fB (d2 mB (bb 10) (iQ (zC "if" (zC "while" eB))))) (fB (d2 yg (zN (bb 8)) (zI 8))))
(c7 (gd (.sl 7) (fO [7,8] (pN je (zA " ") (zQ (d2 fC (eT (zQ (bb 10))) (hZ 2 hI (c4 (bb 9) (zQ (bb 6)))))))))
(gd (.sl 8) (fO [7,8] (bb 10))))
(iA (iT (fB (d2 iS (bb 10) (zA "end"))) (fB (d2 mK (bb 8) (eT eB))))
(c7 (H0 (.sl 8))
(gd (.sl 7) (fO [7,8] (zA "end"))))
(iA (iT (fB (d2 iS (bb 10) (zA "else"))) (iT (fB (d2 mK (bb 8) (eT eB))) (fB (d2 iS (zX (bb 8) (zI (-1))) (zA "if")))))
(c7 (uA (.sl 8) (fO [7,8] (zI (-1))) (fO [7,8] (zA "else")))
(gd (.sl 7) (fO [7,8] (zA "else"))))
(iA (fB (d2 mB (bb 10) (iQ (zC "ask" (zC "do" (zC "straight" eB))))))
(gd (.sl 7) (fO [7,8] (pN je (zA " ") (zQ (hZ 4 jB (c4 (bb 10) (c4 (bb 9) (c4 (bb 6) (zQ (bb 3))))))))))
(gd (.sl 7) (fO [7,8] (pN je (zA " ") (zQ (hZ 5 kl (c4 (bb 10) (c4 (bb 9) (c4 (bb 6) (c4 (bb 2) (zQ (bb 3))))))))))))))))
def sD:c5->Option Out :=
(c7 (fu (fO [7,8] (hZ 1 jv (zQ (bb 0)))) 6)
(c7 (jH (fO [7,8] (iG (lQ (bb 5)) [] mj ml)) 7)
(c7 (jH (fO [7,8] (eT eB)) 8)
(c7 (j4 (wa [7,8] (pq (bb 1))) (.one 9) mq)
(fZ (d2 fC (bb 7) (d2 vH (eT (zC "end" eB)) (zN (bb 8)))))))))
def kX:Lp->Od:=iU ["_law_head","_law_draws","_law_kinds_here","_law_heads_here","_law_wide","_law_begun_here","_law_names_here","_law_rows","_law_nest","_law_draw_here","_law_word_here"] sD
abbrev C3:Stmt:=nF 52
def lI:c5->Option Bool:=(λ_=>Y true)
def km:c5->Od:=(hZ 2 jb (c4 (bb 0) (zQ (bb 1))))
def n7:c5->Option Out :=
(c7 (fu (fO [9] (eT (zC "kind" (zQ (bb 10))))) 13)
(c7 (iA (fB (d2 oD (bb 11) (dC .none)))
(fu (fO [9] (d2 fC (bb 13) (eT (zC "of" (zQ (bb 11)))))) 13)
gi)
(gd (.sl 9) (fO [9] (pN je (zA " ") (zQ (d2 fC (d2 fC (bb 13) (gz (eT (zC "fields" eB)) iL (gM (zN (bb 12))))) (bb 12))))))))
def n8:c5->Option Out :=
(c7 (gd (.sl 9) (fO [9] (hZ 1 iu (zQ (zX (bb 7) (bb 15))))))
(jH (Kj (d2 CO (d2 fC (bb 9) (hZ 6 kX (c4 (zX (bb 7) (bb 15)) (c4 (zX (bb 8) (d2 fC (bb 15) (zI 1))) (c4 (bb 6) (c4 (bb 7) (c4 (bb 3) (zQ (eT eB))))))))) (eT (zC "end" eB)))) 9))
def qQ:c5->Option Out :=
(c7 (fu (fO [9] (d2 iS (d2 gq (hZ 2 gH (c4 (bb 0) (zQ (zI 0)))) (zI 2)) (zI 0))) 4)
(c7 (fu (fO [9] (hZ 2 jb (c4 (d2 ym (hZ 2 gH (c4 (bb 0) (zQ (zI 0)))) (zI 2)) (zQ (bb 4))))) 5)
(c7 (fu (fO [9] (hZ 1 mE (zQ (bb 5)))) 6)
(c7 (fu (fO [9] (hZ 2 oF (c4 (hZ 2 jb (c4 (hZ 2 gH (c4 (bb 0) (zQ (zI 1)))) (zQ (bb 4)))) (zQ (bb 6))))) 7)
(c7 (fu (fO [9] (hZ 2 oG (c4 (iG (lQ (gz (bb 0) (gM (bb 1)) (gM (bb 2)))) [(4,"_law_digits")] lI km) (zQ (zN (bb 7)))))) 8)
(c7 (jH (fO [9] (eT eB)) 9)
(c7 (j4 (wa [9] (pq (bb 6))) (.many [10,11,12]) n7)
(c7 (fu (fO [9] (iQ (zC "main" (c4 (eT eB) (zQ (eT eB)))))) 14)
(c7 (j4 (wa [9] (jY (zN (bb 7)))) (.one 15) n8)
(c7 (fu (fO [9] (hZ 4 k6 (c4 (bb 14) (c4 (bb 5) (c4 (bb 6) (zQ (bb 7))))))) 16)
(fZ (d2 fC (d2 fC (d2 fC (bb 9) (eT (zC "main" eB))) (hZ 6 kX (c4 (bb 14) (c4 (zX (bb 8) (zI 0)) (c4 (bb 6) (c4 (bb 7) (c4 (bb 3) (zQ (bb 16))))))))) (eT (zC "end" eB))))))))))))))
def oJ:Lp->Od:=iU ["_law_script","_law_start","_law_stop","_law_wide","_law_digits","_law_first","_law_kinds_here","_law_heads_here","_law_parts_here","_law_lines_here","_law_name","_law_elder","_law_own","_law_row","_law_main","_law_k","_law_begun_here"] qQ
abbrev vJ:Stmt:=sY (nF 22) 1
def qd:c5->Option Out :=
(fZ (iR ["Program"] "text" (bb 0)))
def iZ:Lp->Od:=iU ["self"] qd
abbrev vK:Stmt:=nF 53
def jC:c5->Option Out :=
(c7 (fu (fO [1] (pN jn (zX (bb 0) (bb 3)) (zC " " eB))) 4)
(c7 (iA (iT (fB (d2 iS (bb 2) (zI 0))) (fB (d2 mK (zX (bb 4) (zI 0)) (zA "kind"))))
(fu (fO [1] (zI 1)) 2)
(iA (fB (d2 iS (bb 4) (eT (zC "end" eB))))
(fu (fO [1] (d2 rT (bb 2) (zI 1))) 2)
(iA (iT (fB (d2 mB (zX (bb 4) (zI 0)) (iQ (zC "if" (zC "while" eB))))) (fB (d2 wF (bb 2) (zI 0))))
(fu (fO [1] (d2 fC (bb 2) (zI 1))) 2)
gi)))
(iA (fB (d2 wF (bb 2) (zI 0)))
(gd (.sl 1) (fO [1] (d2 fC (bb 3) (zI 1))))
gi)))
def mP:c5->Option Out :=
(c7 (jH (fO [1] (eT eB)) 1)
(c7 (fu (fO [1] (zI 0)) 2)
(c7 (j4 (wa [1] (jY (zN (bb 0)))) (.one 3) jC)
(fZ (bb 1)))))
def jK:Lp->Od:=iU ["_law_lines_here","_law_places","_law_depth","_law_k","_law_words"] mP
abbrev yw:Stmt:=nF 54
def kC:c5->Option Bool:=(fB (d2 mB (zX (pN jn (bb 0) (zC " " eB)) (zI 0)) (iQ (zC "func" (zC "method" eB)))))
def kD:c5->Od:=(pN jn (bb 0) (zC " " eB))
def o1:c5->Option Out :=
(c7 (fu (fO [3] (iG (lQ (bb 0)) [] kC kD)) 2)
(c7 (jH (fO [3] (eT (c4 (eT (zC "func" (zC "x" (zC "fz" eB)))) (c4 (eT (zC "straight" (zC "x" (zC "y" (zC "ka" (zC "o" eB)))))) (zQ (eT (zC "func" (zC "x" (zC "main" eB))))))))) 3)
(c7 (gd (.sl 3) (fO [3] (eT (zC "straight" (zC "x" (zC "x" (zC "ka" (zC "ka" eB))))))))
(c7 (iA (iT (fB (d2 mK (bb 2) (eT eB))) (fB (d2 iS (zX (zX (bb 2) (zI 0)) (zI 0)) (zA "func"))))
(c7 (fu (fO [3] (zI 0)) 4)
(c7 (iA (fB (d2 mB (zA "keeps") (zX (bb 2) (zI 0))))
(fu (fO [3] (d2 rT (d2 rT (zN (zX (bb 2) (zI 0))) (A3 nV (zX (bb 2) (zI 0)) (zC "keeps" eB))) (zI 1))) 4)
gi)
(gd (.sl 3) (fO [3] (d2 fC (eT (zC "func" (zC "x" (zQ (zX (zX (bb 2) (zI 0)) (zI 1)))))) (d2 vH (eT (zC "y" eB)) (d2 fC (bb 4) (zI 1))))))))
gi)
(fZ (pN je (zA " ") (zQ (zX (bb 3) (d2 gq (zX (bb 1) (zI 3)) (zN (bb 3)))))))))))
def kJ:Lp->Od:=iU ["_law_lines_here","_law_draw_here","_law_heads_here","_law_rows","_law_kept"] o1
abbrev Bc:Stmt:=nF 55
def pS:c5->Option Out :=
(fZ (d2 fC (d2 fC (gz (bb 0) iL (gM (bb 2))) (eT (zQ (bb 1)))) (gz (bb 0) (gM (bb 2)) iL)))
def ij:Lp->Od:=iU ["_law_lines_here","_law_row","_law_at"] pS
abbrev Fd:Stmt:=nF 56
def sE:c5->Option Out :=
(c7 (fu (fO [] (hZ 1 jK (zQ (bb 0)))) 2)
(c7 (fu (fO [] (zX (bb 2) (d2 gq (zX (bb 1) (zI 1)) (zN (bb 2))))) 3)
(c7 (fu (fO [] (zX (bb 2) (d2 gq (zX (bb 1) (zI 2)) (zN (bb 2))))) 4)
(c7 (fu (fO [] (hZ 2 kJ (c4 (bb 0) (zQ (bb 1))))) 5)
(c7 (iA (fB (d2 iS (d2 gq (zX (bb 1) (zI 4)) (zI 3)) (zI 0)))
(c7 (fu (fO [] (hZ 3 ij (c4 (bb 0) (c4 (zX (eT (zC "copy x" (zC "new x kz" (zC "" eB)))) (d2 gq (zX (bb 1) (zI 5)) (zI 3))) (zQ (gF EF (c4 (bb 3) (zQ (bb 4))))))))) 6)
(fZ (iQ (c4 (hZ 3 ij (c4 (bb 6) (c4 (bb 5) (zQ (gF Cn (c4 (bb 3) (zQ (bb 4)))))))) (zQ (d2 fC (gF EF (c4 (bb 3) (zQ (bb 4)))) (zI 1)))))))
gi)
(c7 (iA (fB (d2 iS (d2 gq (zX (bb 1) (zI 4)) (zI 3)) (zI 1)))
(c7 (fu (fO [] (hZ 3 ij (c4 (bb 0) (c4 (bb 5) (zQ (bb 3)))))) 6)
(fZ (iQ (c4 (gz (bb 6) iL (gM (zI (-1)))) (zQ (d2 rT (zN (bb 6)) (zI 1)))))))
gi)
(c7 (fu (fO [] (hZ 3 ij (c4 (bb 0) (c4 (bb 5) (zQ (gF EF (c4 (bb 3) (zQ (bb 4))))))))) 6)
(fZ (iQ (c4 (hZ 3 ij (c4 (bb 6) (c4 (bb 5) (zQ (gF Cn (c4 (bb 3) (zQ (bb 4)))))))) (zQ (gF Cn (c4 (bb 3) (zQ (bb 4)))))))))))))))
def kY:Lp->Od:=iU ["_law_lines_here","_law_draw_here","_law_places","_law_at","_law_other","_law_row","_law_spoiled"] sE
abbrev xk:Stmt:=sY (nF 26) 0
def xl:c5->Option Out :=
(c7 (Cw 0 "Reading" "fields" (fO [0] (dC (.dict []))))
(c7 (Cw 0 "Reading" "heads" (fO [0] (dC (.dict []))))
(c7 (ju 0 "Reading" "body" (fO [0] (dC .none)))
(c7 (Cw 0 "Reading" "blocks" (fO [0] (eT eB)))
(c7 (ju 0 "Reading" "over" (fO [0] (dC (.bool false))))
(Cw 0 "Reading" "later" (fO [0] (eT eB))))))))
def n9:Lp->Option (fe×fe):=pj ["self"] xl
abbrev yx:Stmt:=nF 7
def o2:c5->Option Out :=
(fZ (Xa (CF (Ux (bb 0)) (CF (zA ".") (CF (Ux (bb 1)) (λ_=>Y Str.empty))))))
def jR:Lp->Od:=iU ["kind","method"] o2
abbrev C4:Stmt:=nF 8
def qR:c5->Option Out :=
(c7 (iA (fB (d2 iS (zX (bb 0) (zI 0)) (zA "method")))
(fZ (hZ 2 jR (c4 (zX (bb 0) (zI 1)) (zQ (zX (bb 0) (zI 2))))))
gi)
(c7 (iA (fB (d2 iS (zX (bb 0) (zI 0)) (zA "func")))
(fZ (zX (bb 0) (zI 1)))
gi)
(fZ (zA "main"))))
def gZ:Lp->Od:=iU ["head"] qR
abbrev vL:Stmt:=nF 23
def fM:c5->Option Out :=
(c7 (fu (fO [1] (pN jn (bb 5) (zC " " eB))) 6)
(iA (fB (d2 iS (zX (bb 6) (zI 0)) (zA "end")))
(H7 3 (λi j=>i - j) (fO [1] (zI 1)))
(iA (fB (d2 wF (bb 3) (zI 0)))
(c7 (iA (fB (d2 mK (zX (bb 6) (zI 0)) (zA "else")))
(uA (.sl 1) (Kh (zN (bb 1))) (fO [1] (iQ (c4 (bb 4) (c4 (bb 6) (zQ (bb 2)))))))
gi)
(iA (fB (d2 mB (zX (bb 6) (zI 0)) (dC (.tuple [(.str "if"),(.str "while")]))))
(H7 3 (λi j=>i+j) (fO [1] (zI 1)))
gi))
(iA (fB (d2 mK (zX (bb 6) (zI 0)) (zA "kind")))
(c7 (fu (fO [1] (hZ 1 gZ (zQ (bb 6)))) 2)
(fu (fO [1] (zI 1)) 3))
gi))))
def qe:c5->Option Out :=
(c7 (jH (fO [1] (dC (.dict []))) 1)
(c7 (fu (fO [1] (dC .none)) 2)
(c7 (fu (fO [1] (zI 0)) 3)
(c7 (j4 (wa [1] (w8 (pN jn (bb 0) (zC "\n" eB)))) (.many [4,5]) fM)
(fZ (bb 1))))))
def jL:Lp->Od:=iU ["text","rows","body","depth","line","row","words"] qe
abbrev vM:Stmt:=nF 9
def oa:c5->Option Bool:=(λ_=>Y true)
def og:c5->Od:=(pN jn (bb 0) (zC " " eB))
def qf:c5->Option Out :=
(fZ (iG (lQ (pN jn (CA "Program" "shown" 1 iZ (bb 0) eB) (zC "\n" eB))) [] oa og))
def kM:Lp->Od:=iU ["program"] qf
abbrev Bd:Stmt:=nF 10
def f9:c5->Option Out :=
(iA (fB (d2 iS (zX (bb 3) (zI 0)) (zA "end")))
(H7 2 (λi j=>i - j) (fO [1] (zI 1)))
(iA (iT (fB (d2 iS (bb 2) (zI 0))) (fB (d2 mK (zX (bb 3) (zI 0)) (zA "kind"))))
(c7 (uA (.sl 1) (fO [1] (hZ 1 gZ (zQ (bb 3)))) (fO [1] (bb 3)))
(fu (fO [1] (zI 1)) 2))
(iA (fB (d2 mB (zX (bb 3) (zI 0)) (iQ (zC "if" (zC "while" eB)))))
(H7 2 (λi j=>i+j) (fO [1] (zI 1)))
gi)))
def tP:c5->Option Out :=
(c7 (jH (fO [1] (dC (.dict []))) 1)
(c7 (fu (fO [1] (zI 0)) 2)
(c7 (j4 (wa [1] (pq (hZ 1 kM (zQ (bb 0))))) (.one 3) f9)
(fZ (bb 1)))))
def lJ:Lp->Od:=iU ["program","heads","depth","words"] tP
abbrev xm:Stmt:=sY (nF 22) 0
def qS:c5->Option Out :=
(c7 (ju 0 "Program" "text" (fO [0] (bb 1)))
(c7 (ju 0 "Program" "numbered" (fO [0] (hZ 1 jL (zQ (bb 1)))))
(ju 0 "Program" "body_texts" (Kj (gF lV (zQ (hZ 1 lJ (zQ (bb 0)))))))))
def iy:Lp->Option (fe×fe):=pj ["self","text"] qS
abbrev C5:Stmt:=nF 6
def oK:c5->Option Out :=
(c7 (iA (Eb (fB (d2 mK (zX (bb 0) (zI 0)) (zA "func"))) (fB (d2 ki (zA "keeps") (gz (bb 0) (gM (zI 2)) iL))))
(fZ (eT eB))
gi)
(c7 (fu (fO [] (gF lV (zQ (gz (bb 0) (gM (zI 2)) iL)))) 1)
(fZ (tF (bb 1) (gM (d2 fC (A3 nV (bb 1) (zC "keeps" eB)) (zI 1))) iL))))
def hJ:Lp->Od:=Ic ["head","names"] oK
abbrev qT:Stmt:=nF 36
def gG:c5->Option Out :=
(c7 (iA (fB (d2 iS (iR ["Row"] "word" (bb 1)) (zA "straight")))
(fZ (d2 mB (hZ 2 jR (c4 (iR ["Row"] "kind" (bb 1)) (zQ (iR ["Row"] "method" (bb 1))))) (iR ["Reading"] "heads" (bb 0))))
gi)
(c7 (iA (Eb (fB (d2 iS (iR ["Row"] "function" (bb 1)) (zA "main"))) (fB (d2 ki (iR ["Row"] "function" (bb 1)) (iR ["Reading"] "heads" (bb 0)))))
(fZ (dC (.bool false)))
gi)
(fZ (d2 iS (zN (hZ 1 hJ (zQ (zX (iR ["Reading"] "heads" (bb 0)) (iR ["Row"] "function" (bb 1)))))) (zN (iR ["Row"] "handed" (bb 1)))))))
def fh:Lp->Od:=iU ["reading","row"] gG
abbrev Iw:Stmt:=nF 19
def Iy:c5->Option Out :=
(c7 (iA (fB (d2 mB (zX (bb 0) (zI 0)) (dC (.tuple [(.str "if"),(.str "while")]))))
(c7 (iA (iT (fB (d2 wF (zN (bb 0)) (zI 1))) (fB (λρ=>((zX (bb 0) (zI 1)) ρ).bind (KH nj))))
(fZ (d2 fC (iQ (zC "CONDITION" eB)) (λρ=>((zX (bb 0) (zI 1)) ρ).bind (KI nj))))
gi)
(fZ (dC .none)))
gi)
(fZ (λρ=>((zX (bb 0) (zI 0)) ρ).bind (Qa A9))))
def rG:Lp->Od:=iU ["words"] Iy
abbrev Fe:Stmt:=nF 20
def yy:c5->Option Out :=
(gd (.sl 1) (fO [1] (zA "A")))
def Ff:c5->Option Out :=
(c7 (jH (fO [1] (gF lV (zQ (hZ 1 rG (zQ (bb 0)))))) 1)
(c7 (Kn (fB (d2 yg (zN (bb 1)) (d2 rT (zN (bb 0)) (zI 1)))) yy)
(fZ (d2 UA (bb 1) (gz (bb 0) (gM (zI 1)) iL)))))
def pT:Lp->Od:=iU ["words","form"] Ff
abbrev Fi:Stmt:=sY (nF 15) 0
def yz:c5->Option Bool:=(fB (d2 iS (bb 0) (zA "A")))
def yA:c5->Od:=(bb 1)
def yB:c5->Option Bool:=(fB (d2 mB (bb 0) (iQ (zC "X" (zC "Y" (zC "A" eB))))))
def yC:c5->Od:=(bb 1)
def Fj:c5->Option Out :=
(c7 (fu (fO [0] (gF AY (zQ (hZ 1 pT (zQ (bb 1)))))) 2)
(c7 (ju 0 "Row" "word" (fO [0] (zX (bb 1) (zI 0))))
(c7 (ju 0 "Row" "condition" (fO [0] (d2 oW (bb 2) (zA "CONDITION"))))
(c7 (ju 0 "Row" "x" (fO [0] (d2 oW (bb 2) (zA "X"))))
(c7 (ju 0 "Row" "y" (fO [0] (d2 oW (bb 2) (zA "Y"))))
(c7 (ju 0 "Row" "kind" (fO [0] (d2 oW (bb 2) (zA "KIND"))))
(c7 (ju 0 "Row" "field" (fO [0] (d2 oW (bb 2) (zA "FIELD"))))
(c7 (ju 0 "Row" "method" (fO [0] (d2 oW (bb 2) (zA "METHOD"))))
(c7 (ju 0 "Row" "function" (fO [0] (d2 oW (bb 2) (zA "FUNCTION"))))
(c7 (ju 0 "Row" "handed" (fO [0] (A4 (lQ (hZ 1 pT (zQ (bb 1)))) [] yz yA)))
(ju 0 "Row" "names" (fO [0] (A4 (lQ (hZ 1 pT (zQ (bb 1)))) [] yB yC)))))))))))))
def sF:Lp->Option (fe×fe):=pj ["self","words","parts"] Fj
abbrev yD:Stmt:=nF 34
def mu:c5->Option Out :=
(c7 (iA (we (iR ["Reading"] "blocks" (bb 0)))
(c7 (H0 (.fl 0 "Reading" "blocks"))
Kp)
gi)
(c7 (ju 0 "Reading" "over" (Kh (d2 iS (iR ["Reading"] "body" (bb 0)) (zA "main"))))
(ju 0 "Reading" "body" (fO [0] (dC .none)))))
def jS:Lp->Option (fe×fe):=pj ["reading"] mu
abbrev vN:Stmt:=nF 35
def mQ:c5->Option Out :=
(c7 (iA (Eb (tj (we (iR ["Reading"] "blocks" (bb 0)))) (fB (d2 mK (zX (iR ["Reading"] "blocks" (bb 0)) (zI (-1))) (zA "if"))))
(mD (dC (.bool false)))
gi)
(c7 (uA (.fl 0 "Reading" "blocks") (fO [0] (zI (-1))) (fO [0] (zA "else")))
(mD (dC (.bool true)))))
def kO:Lp->Option (fe×fe):=pj ["reading"] mQ
abbrev Be:Stmt:=nF 16
def jM:c5->Option Out :=
(iA (tj (wX tJ tJ (zA "a") (bb 1) (zA "z")))
(fZ (dC (.bool false)))
gi)
def tQ:c5->Option Out :=
(c7 (j4 (wa [] (pq (bb 0))) (.one 1) jM)
(fZ (d2 mK (bb 0) (zA ""))))
def nu:Lp->Od:=iU ["word","sign"] tQ
abbrev Iz:Stmt:=nF 17
def zH:c5->Option Out :=
(fZ (sg (d2 tJ (zN (bb 0)) (zI 8)) (hZ 1 nu (zQ (bb 0)))))
def nH:Lp->Od:=iU ["word"] zH
abbrev La:Stmt:=nF 18
def vq:c5->Option Bool:=(λ_=>Y true)
def vr:c5->Od:=(hZ 1 nH (zQ (bb 0)))
def Lb:c5->Option Out :=
(c7 (iA (Eb (tj (we (bb 0))) (tj (we (gF KA (zQ (iG (lQ (bb 0)) [] vq vr))))))
(fZ (dC (.bool false)))
gi)
(c7 (fu (fO [] (hZ 1 rG (zQ (bb 0)))) 1)
(c7 (iA (fB (d2 NP (bb 1) (dC .none)))
(fZ (dC (.bool false)))
gi)
(c7 (iA (iT (we (bb 1)) (fB (d2 iS (zX (bb 1) (zI (-1))) (zA "A"))))
(fZ (d2 WM (zN (bb 0)) (zN (bb 1))))
gi)
(fZ (d2 iS (zN (bb 0)) (d2 fC (zN (bb 1)) (zI 1))))))))
def qU:Lp->Od:=iU ["words","form"] Lb
abbrev xn:Stmt:=nF 33
def gP:c5->Option Out :=
(c7 (iA (fB (d2 iS (bb 2) (eT (zC "end" eB))))
(c7 (ET (vl [0] 0 1 jS eB))
(mD (dC (.bool true))))
gi)
(c7 (iA (fB (d2 iS (bb 2) (eT (zC "else" eB))))
(CC (vl [0] 0 1 kO eB))
gi)
(c7 (iA (tj (we (hZ 1 qU (zQ (bb 2)))))
(mD (dC (.bool false)))
gi)
(c7 (fu (fO [0] (tG "Row" 2 sF (zQ (bb 2)))) 3)
(c7 (iA (iT (fB (d2 oD (iR ["Row"] "kind" (bb 3)) (dC .none))) (fB (d2 ki (iR ["Row"] "kind" (bb 3)) (iR ["Reading"] "fields" (bb 0)))))
(mD (dC (.bool false)))
gi)
(c7 (iA (fB (d2 mB (iR ["Row"] "word" (bb 3)) (dC (.tuple [(.str "if"),(.str "while")]))))
(gd (.fl 0 "Reading" "blocks") (fO [0] (iR ["Row"] "word" (bb 3))))
gi)
(c7 (iA (fB (d2 mB (iR ["Row"] "word" (bb 3)) (iQ (zC "func" (zC "straight" eB)))))
(gd (.fl 0 "Reading" "later") (fO [0] (iQ (c4 (bb 1) (zQ (bb 3))))))
gi)
(mD (d2 tJ (zN (iR ["Reading"] "blocks" (bb 0))) (zI 8))))))))))
def gf:Lp->Option (fe×fe):=pj ["reading","line","words","row"] gP
abbrev Fm:Stmt:=nF 32
def xo:c5->Option Out :=
(fZ (d2 iS (A2 (bb 0)) (zN (bb 0))))
def lX:Lp->Od:=iU ["names"] xo
abbrev Bf:Stmt:=nF 29
def pU:c5->Option Out :=
(c7 (iA (Eb (we (iR ["Reading"] "heads" (bb 0))) (Eb (fB (d2 yg (zN (bb 1)) (zI 2))) (fB (d2 mB (zX (bb 1) (zI 1)) (iR ["Reading"] "fields" (bb 0))))))
(mD (dC (.bool false)))
gi)
(c7 (fu (fO [0,3] (gz (bb 1) (gM (zI 2)) iL)) 2)
(c7 (jH (fO [0,3] (eT eB)) 3)
(c7 (iA (iT (we (bb 2)) (fB (d2 iS (zX (bb 2) (zI 0)) (zA "of"))))
(c7 (iA (Eb (fB (d2 yg (zN (bb 2)) (zI 2))) (fB (d2 ki (zX (bb 2) (zI 1)) (iR ["Reading"] "fields" (bb 0)))))
(mD (dC (.bool false)))
gi)
(c7 (jH (Kj (gF lV (zQ (zX (iR ["Reading"] "fields" (bb 0)) (zX (bb 2) (zI 1)))))) 3)
(fu (fO [0,3] (gz (bb 2) (gM (zI 2)) iL)) 2)))
gi)
(c7 (iA (iT (we (bb 2)) (Eb (fB (d2 mK (zX (bb 2) (zI 0)) (zA "fields"))) (fB (d2 yg (zN (bb 2)) (zI 2)))))
(mD (dC (.bool false)))
gi)
(c7 (AJ (.sl 3) (fO [0,3] (tF (bb 2) (gM (zI 1)) iL)))
(KN 3 (c7 (uA (.fl 0 "Reading" "fields") (fO [0] (zX (bb 1) (zI 1))) (fO [0] (bb 3)))
(mD (hZ 1 lX (zQ (bb 3))))))))))))
def nv:Lp->Option (fe×fe):=pj ["reading","words","behind","fields"] pU
abbrev yE:Stmt:=nF 5
def mv:c5->Option Out :=
(c7 (iA (fB (d2 iS (zX (bb 0) (zI 0)) (zA "method")))
(fZ (gF lV (zQ (gz (bb 0) (gM (zI 3)) iL))))
gi)
(c7 (jH (fO [1] (gF lV (zQ (gz (bb 0) (gM (zI 2)) iL)))) 1)
(c7 (iA (fB (d2 mB (zA "keeps") (bb 1)))
(fZ (tF (bb 1) iL (gM (A3 nV (bb 1) (zC "keeps" eB)))))
gi)
(fZ (bb 1)))))
def jc:Lp->Od:=Ic ["head","names"] mv
abbrev tR:Stmt:=nF 31
def j7:c5->Option Out :=
(c7 (iA (iT (fB (d2 iS (zX (bb 0) (zI 0)) (zA "func"))) (iT (fB (d2 mB (zA "keeps") (gz (bb 0) (gM (zI 2)) iL))) (tj (we (hZ 1 hJ (zQ (bb 0)))))))
(fZ (dC (.bool false)))
gi)
(c7 (fu (fO [] (d2 fC (hZ 1 jc (zQ (bb 0))) (hZ 1 hJ (zQ (bb 0))))) 1)
(fZ (sg (d2 ki (zA "self") (bb 1)) (hZ 1 lX (zQ (bb 1)))))))
def gu:Lp->Od:=iU ["words","names"] j7
abbrev IA:Stmt:=nF 30
def uL:c5->Option Out :=
(c7 (iA (fB (d2 iS (zX (bb 1) (zI 0)) (zA "func")))
(fZ (sg (d2 wF (zN (bb 1)) (zI 1)) (sg (d2 mK (zX (bb 1) (zI 1)) (zA "main")) (hZ 1 gu (zQ (bb 1))))))
gi)
(c7 (iA (fB (d2 iS (zX (bb 1) (zI 0)) (zA "method")))
(fZ (sg (d2 wF (zN (bb 1)) (zI 2)) (sg (d2 mB (zX (bb 1) (zI 1)) (iR ["Reading"] "fields" (bb 0))) (hZ 1 gu (zQ (bb 1))))))
gi)
(fZ (d2 iS (bb 1) (eT (zC "main" eB))))))
def lY:Lp->Od:=iU ["reading","words"] uL
abbrev C6:Stmt:=nF 28
def kn:c5->Option Out :=
(c7 (iA (we (iR ["Reading"] "over" (bb 0)))
(mD (dC (.bool false)))
gi)
(c7 (iA (fB (d2 oD (iR ["Reading"] "body" (bb 0)) (dC .none)))
(CC (vl [0] 0 3 gf (c4 (bb 1) (zQ (bb 2)))))
gi)
(c7 (iA (fB (d2 iS (zX (bb 2) (zI 0)) (zA "kind")))
(CC (vl [0] 0 2 nv (zQ (bb 2))))
gi)
(c7 (iA (Eb (tj (we (hZ 2 lY (c4 (bb 0) (zQ (bb 2)))))) (fB (d2 mB (hZ 1 gZ (zQ (bb 2))) (iR ["Reading"] "heads" (bb 0)))))
(mD (dC (.bool false)))
gi)
(c7 (ju 0 "Reading" "body" (fO [0] (hZ 1 gZ (zQ (bb 2)))))
(c7 (uA (.fl 0 "Reading" "heads") (Kh (iR ["Reading"] "body" (bb 0))) (fO [0] (bb 2)))
(mD (dC (.bool true)))))))))
def fV:Lp->Option (fe×fe):=pj ["reading","line","words"] kn
abbrev xp:Stmt:=nF 27
def oM:c5->Option Bool:=(λ_=>Y true)
def oN:c5->Od:=(pN jn (bb 0) (zC " " eB))
def j8:c5->Option Bool:=(λ_=>Y true)
def j9:c5->Od:=(hZ 1 nH (zQ (bb 0)))
def fE:c5->Option Out :=
(NG (Uv (tj (we (gF KA (zQ (iG (lQ (bb 4)) [] j8 j9))))) (NC (hT (vl [1] 1 3 fV (c4 (bb 3) (zQ (bb 4)))))))
(pQ (bb 3))
gi)
def gg:c5->Option Out :=
(iA (tj (we (hZ 2 fh (c4 (bb 1) (zQ (bb 5))))))
(pQ (bb 3))
gi)
def oh:c5->Option Out :=
(c7 (jH (fO [1] (tG "Reading" 1 n9 eB)) 1)
(c7 (fu (fO [1] (iG (lQ (pN jn (bb 0) (zC "\n" eB))) [] oM oN)) 2)
(c7 (j4 (wa [1] (w8 (bb 2))) (.many [3,4]) fE)
(c7 (iA (tj (we (iR ["Reading"] "over" (bb 1))))
(pQ (zN (bb 2)))
gi)
(KN 1 (c7 (j4 (wa [] (pq (iR ["Reading"] "later" (bb 1)))) (.many [3,5]) gg)
(CV (tG "Program" 2 iy (zQ (bb 0))))))))))
def gp:Lp->Od:=iU ["text","reading","rows","line","words","row"] oh
abbrev Fo:Stmt:=nF 57
def sJ:c5->Option Out :=
(c7 (fu (fO [] (dC .none)) 1)
(c7 (RZ 1 gp (zQ (pN je (zA "\n") (zQ (bb 0)))) 1 2)
(fZ (bb 1))))
def pV:Lp->Od:=iU ["_law_lines_here","_law_line_here","e"] sJ
abbrev UP:Stmt:=nF 58
def xq:c5->Option Out :=
(c7 (Cy (fO [] (hZ 2 kY (c4 (bb 1) (zQ (hZ 2 jb (c4 (d2 fC (d2 ym (bb 3) (zI 3)) (zI 7)) (zQ (bb 2)))))))) (.many [4,5]))
(iA (fB (d2 mK (hZ 1 pV (zQ (bb 4))) (bb 5)))
(fZ (dC (.bool false)))
gi))
def Lc:c5->Option Out :=
(c7 (fu (fO [] (hZ 4 oJ (c4 (bb 0) (c4 (zI 2) (c4 (zI 63) (zQ (dC (.bool true)))))))) 1)
(c7 (fu (fO [] (d2 iS (d2 gq (hZ 2 gH (c4 (bb 0) (zQ (zI 0)))) (zI 2)) (zI 0))) 2)
(c7 (iA (fB (d2 mK (CA "Program" "shown" 1 iZ (hZ 1 (zz gp) (zQ (pN je (zA "\n") (zQ (bb 1))))) eB) (pN je (zA "\n") (zQ (bb 1)))))
(fZ (dC (.bool false)))
gi)
(c7 (j4 (wa [] (pq (d2 fC (eT (c4 (zI 0) (zQ (zI 1)))) (gz (bb 0) (gM (zI 2)) (gM (zI 18)))))) (.one 3) xq)
(fZ (dC (.bool true)))))))
def GQ:Lp->Od:=iU ["_law_script","_law_lines_here","_law_digits","_law_cell","_law_wrong","_law_line_here"] Lc
abbrev pB:Stmt:=sY (nF 3) 0
theorem mw:YP "NoProgram.__init__" pB:=⟨_,_,_,_,_,_,_,_,_,_,_,_,_,_,_,⟨rfl,rfl,rfl,by decide +kernel,rfl,by decide +kernel,by decide +kernel⟩,rfl,(by intro _ _ _ _ _ _;(repeat' intro _);exact rfl),rfl,rfl,rfl,by decide,λa=>⟨_,rfl⟩⟩
structure Md (P:Program) (w:World) (K:Fg) (mg:Str->Ow):Prop where
 all:mg "all"=Z
 dict:mg "dict"=Z
 enumerate:mg "enumerate"=Z
 len:mg "len"=Z
 list:mg "list"=Z
 max:mg "max"=Z
 min:mg "min"=Z
 range:mg "range"=Z
 set:mg "set"=Z
 zip:mg "zip"=Z
 qV:j0 K "Program" "body_texts"
 sL:j0 K "Program" "numbered"
 qW:j0 K "Program" "text"
 g9:j0 K "Reading" "blocks"
 jo:j0 K "Reading" "body"
 ia:j0 K "Reading" "fields"
 iE:j0 K "Reading" "heads"
 mR:j0 K "Reading" "later"
 lK:j0 K "Reading" "over"
 vO:j0 K "Row" "condition"
 C7:j0 K "Row" "field"
 lL:j0 K "Row" "function"
 tS:j0 K "Row" "handed"
 pW:j0 K "Row" "kind"
 tU:j0 K "Row" "method"
 C8:j0 K "Row" "names"
 oj:j0 K "Row" "word"
 N2:j0 K "Row" "x"
 N3:j0 K "Row" "y"
 o3:Im K mg "BLOCK_WORDS" (.tuple [(.str "if"),(.str "while")])
 tV:oE P w K mg "CONDITIONS" nj
 N4:oE P w K mg "FORMS" A9
 yF:Im K mg "MOST_BLOCKS" (.int 8)
 mF:GP K mg "NoProgram" "NoProgram.__init__" pB
 Fp:iJ K mg "_law_draw" E8
 C9:iJ K mg "_law_kinds" CW
 Dc:iJ K mg "_law_heads" CY
 Dd:iJ K mg "_law_parts" CZ
 De:iJ K mg "_law_begun" C0
 yG:iJ K mg "_law_cell_at" yv
 xr:iJ K mg "_law_head_row" xj
 Df:iJ K mg "_law_names" C1
 Fq:iJ K mg "_law_word" Fb
 vP:iJ K mg "_law_condition" vI
 Bg:iJ K mg "_law_handed" Ba
 Bh:iJ K mg "_law_caller" Bb
 Dg:iJ K mg "_law_plain" C2
 Fs:iJ K mg "_law_body" Fc
 Dh:iJ K mg "_law_lines" C3
 vQ:RJ K "Program" "shown" "Program.shown" vJ
 vR:iJ K mg "_law_body_rows" vK
 yH:iJ K mg "_law_nowhere" yw
 Bj:iJ K mg "_law_put_in" Bc
 Ft:iJ K mg "_law_case" Fd
 xt:KS K mg "Reading" "Reading.__init__" xk
 yI:iJ K mg "method_body" yx
 Di:iJ K mg "head_body" C4
 vS:iJ K mg "numbered_rows" vL
 vT:iJ K mg "rows_of_words" vM
 Bl:iJ K mg "body_heads" Bd
 xu:KS K mg "Program" "Program.__init__" xm
 Dj:iJ K mg "head_kept" C5
 qX:iJ K mg "names_what_is_told" qT
 IB:iJ K mg "form_of" Iw
 Fv:iJ K mg "parts_of" Fe
 Fw:KS K mg "Row" "Row.__init__" Fi
 yJ:iJ K mg "close_block" yD
 vU:iJ K mg "turns_to_else" vN
 Bm:iJ K mg "is_letters" Be
 IC:iJ K mg "is_name" Iz
 Ld:iJ K mg "is_row" La
 xv:iJ K mg "reads_within" xn
 Fx:iJ K mg "are_once" Fm
 Bn:iJ K mg "reads_kind" Bf
 yK:iJ K mg "head_params" yE
 tW:iJ K mg "are_heads_names" tR
 ID:iJ K mg "is_head" IA
 Dk:iJ K mg "reads_row" C6
 xw:iJ K mg "read_program" xp
 Fy:iJ K mg "_law_line" Fo
 UQ:iJ K mg "law" UP
section
variable {P:Program}{K:Fg}{base:Heap} (M:Md P w K mg)
include M
theorem oO:qm P w K mg base "_law_draw" 1 2 jb :=
 gI [2] M.Fp λd c b a=>(bo (jg 2 b a (jA (kS gB)))
  (bo (fj 3 b (fg (fq fP (fq gk (ba 0) c0) c0)))
  (bo (j5 bC rfl (lC (nU rfl M.range c0)) (mh 4 b) (by decide)
  (bo (fj 3 b (fg (fq gk (fq fP (fq wb (ba 3) c0) (ba 4)) c0)))
  (bz (ft (jd (ic (ik (ba 1)) (hF (fU (lA c) (ba 0) (iH (bS c0 (zO pP)))))))
  (bo (gn a (j3 2) (fg (fq gk (ba 0) c0)))
  (bz (fj 0 b (fg (fq ED (ba 0) c0)))))
  (bz (gn a (j3 2) (fg (fq gk (fq wb (fq gk (fq wb (ba 3) c0) c0) c0) c0))))))))
  (bz (fi (ba 2))))))
theorem Bp:qm P w K mg base "_law_kinds" 1 1 mE :=
 gI [1] M.C9 λd a b c=>(bo (jg 1 b c (jA (kS gB)))
  (bo (j5 bC rfl (lC (nU rfl M.range (fq fP c0 (fq gk (gJ a (ba 0) c0) c0)))) (mh 2 b) (by decide)
  (bo (fj 3 b (fg nO))
  (bo (ft (jd (ic (fU vg (ba 2) c0) (hF (fU vg (fq gk (gJ a (ba 0) (ba 2)) c0) c0))))
  (bz (fj 3 b (fg (gJ a (fy (bS c6 (zO c6))) (fq gk (gJ a (ba 0) (fq fP c0 (ba 2))) (ba 2))))))
  ez)
  (bo (fj 4 b (fg (hV (gJ a (fy (bS (fy (bS c6 (zO c6))) (bS (fy (bS c6 (zO c6))) (zO (fy (bS c6 (zO c6))))))) (ba 2)) hG (gE (fq gk (gJ a (ba 0) (fq fP c0 (ba 2))) c0)))))
  (bo (pA 4 [(3,"_law_elder")] b (jX (ba 4)) (λ_ _ _ _=>(nR (jd (oU (fU KG (ba 1) nO) (mZ (fU (jt a) (ba 0) (iH (bS c6 (zO c6))))))))) (λ_ _ _ _=>(ba 0)))
  (bz (gn c (j3 1) (fg (iH (bS (gJ a (fy (kU ["ka","kb","kc"] rfl)) (ba 2)) (bS (ba 3) (zO (ba 4)))))))))))))
  (bz (fi (ba 1)))))
theorem Bq:qm P w K mg base "_law_heads" 1 2 oF :=
 gI [2] M.Dc λd a c b=>(bo (jg 2 c b (jA (kS gB)))
  (bo (j5 bC rfl (lC (nU rfl M.range (fq gk (gJ a (ba 0) c0) c0))) (mh 3 c) (by decide)
  (bo (fj 4 c (fg (hV (fy (bS c6 (zO c6))) hG (gE (fq gk (gJ a (ba 0) (fq fP c0 (ba 3))) c0)))))
  (bo (fj 5 c (fg (fq fP (fq fP (gJ a (gJ a (ba 1) (fq gk (gJ a (ba 0) (fq fP c0 (ba 3))) (zL M.len (ba 1)))) c0) c6) (gJ a (fy (bS c6 (zO c6))) (fq gk (gJ a (ba 0) (fq fP c0 (ba 3))) c0)))))
  (bz (ft (jd (ic (fU (gW a) (fq gk (gJ a (ba 0) (fq fP c0 (ba 3))) c0) c0) (hF (fU (lA a) (ba 5) (pw [] (jX (ba 2)) (λ_ _ _ _=>lu) (λ_ _ _ _=>(gJ a (ba 0) c0)))))))
  (bz (gn b (j3 2) (fg (iH (bS (ba 5) (bS (ba 4) (zO (fy gB))))))))
  (bz (gn b (j3 2) (fg (iH (bS (gJ a (fy (kU ["fa","fb","fc"] rfl)) (ba 3)) (bS (ba 4) (zO (hV (fy (bS c6 (zO c6))) hG (gE (fq gk (gJ a (ba 0) (fq fP c0 (ba 3))) c0)))))))))))))))
  (bz (fi (ba 2)))))
theorem Br:qm P w K mg base "_law_parts" 1 2 oG :=
 gI [2,99] M.Dd λd c b a=>(bo (Ip 2 [] b a (wL rfl M.range (fq fP (ba 1) c0)) (λ_ _ _ _=>lu) (λ_ _ _ _=>(kS gB)))
  (bo (fj 3 b (fg c0))
  (bo (j5 bC rfl (lC (nW (ba 0))) (mh 4 b) (by decide)
  (bo (ft (jd (ic (fU (gW c) (fq gk (gJ c (ba 4) c0) c0) c0) (hF (fU wG (ba 3) (ba 1)))))
  (bz (fj 3 b (fg (fq fP (ba 3) c0))))
  ez)
  (bz (Io c a (j3 2) (fg (ba 3)) (fg (ba 4)) (λ_ _=>rfl) (λ_ _=>rfl)))))
  (bz (fi (ba 2))))))
theorem Bs:qm P w K mg base "_law_begun" 1 4 k6 :=
 gI [4] M.De λd a c b=>(bo (ft (fU (lh a) (gJ a (ba 0) c0) c6)
  (bz (fi (fy gB)))
  ez)
  (bo (jg 4 c b (jA (kS (zO (fy (bS c6 (bS c6 (zO (gJ a (gJ a (ba 2) (fq gk (gJ a (ba 1) c0) (zL M.len (ba 2)))) c0)))))))))
  (bo (pA 5 [] c (jX (ba 3)) (λ_ _ _ _=>(nR (fU (lA a) c6 (gJ a (ba 0) c0)))) (λ_ _ _ _=>(ba 0)))
  (bo (ft (fU (lh a) (ba 5) (fy gB))
  (bo (fj 6 c (fg (gJ a (ba 5) (fq gk (gJ a (ba 1) c0) (zL M.len (ba 5))))))
  (bz (gn b (j3 4) (fg (fq fP (fy (bS c6 (bS c6 (zO (gJ a (ba 6) c0))))) (hV (fy (bS c6 (zO c6))) hG (gE (zL M.len (gJ a (ba 6) c0)))))))))
  ez)
  (bz (fi (ba 4)))))))
theorem lM:qm P w K mg base "_law_cell_at" 1 2 gH :=
 gI [] M.yG λd b c a=>(bo (ft (fU wG (ba 1) (zL M.len (ba 0)))
  (bz (fi (gJ b (ba 0) (ba 1))))
  ez)
  (bz (fi c0)))
theorem vV:qm P w K mg base "_law_head_row" 1 1 iu :=
 gI [] M.xr λd a b c=>(bo (ft (fU (jt a) c6 (gJ a (ba 0) c0))
  (bo (AM (fg (AU d5 d6 tI (gJ a (ba 0) c0) (zO c6))) (uB 1 2 3 rfl b) (by decide))
  (bz (fi (zJ c6 (zO (fq fP (fy (bS c6 (bS (ba 1) (zO (ba 3))))) (gJ a (ba 0) c0)))))))
  ez)
  (bo (fj 4 b (fg (fq fP (fy (bS c6 (zO (gJ a (ba 0) c0)))) (gJ a (ba 0) c0))))
  (bo (ft (fU (lh a) (gJ a (ba 0) c0) (fy gB))
  (bz (fj 4 b (fg (fq fP (fq fP (ba 4) (fy (zO c6))) (gJ a (ba 0) c0)))))
  ez)
  (bz (fi (zJ c6 (zO (ba 4))))))))
theorem Bt:qm P w K mg base "_law_names" 1 1 jv :=
 gI [] M.Df λd a b c=>(bo (fj 1 b (fg (fq fP (fq fP (gJ a (ba 0) c0) (gJ a (ba 0) c0)) (fy (kU ["x","y","z"] rfl)))))
  (bo (ft (fU (jt a) c6 (gJ a (ba 0) c0))
  (bz (fj 1 b (fg (fq fP (ba 1) (fy (zO c6))))))
  ez)
  (bz (fi (ba 1)))))
theorem Dl:qm P w K mg base "_law_word" 1 2 kW :=
 gI [] M.Fq λd b a c=>(bo (fj 2 a (fg (fy (kU ["new","copy","take","put","ask","do","new","func","tell","if","while","end","else","push"] rfl))))
  (bo (fj 2 a (fg (fq fP (ba 2) (fy (kU ["pull","row","give","take","put","ask","do","end","rest","copy"] rfl)))))
  (bo (ft (ik (ba 1))
  (bz (fj 2 a (fg (fq fP (ba 2) (fy (kU ["straight","check","fresh","own","place"] rfl))))))
  ez)
  (bz (fi (gJ b (ba 2) (fq gk (gJ b (ba 0) c0) (zL M.len (ba 2)))))))))
theorem uM:qm P w K mg base "_law_condition" 1 2 hI :=
 gI [] M.vP λd a c b=>(bo (fj 2 c (fg (gJ a (ba 1) (fq gk (gJ a (ba 0) c0) (zL M.len (ba 1))))))
  (bo (ft (fU (gW a) (fq gk (gJ a (ba 0) c0) c0) c0)
  (bz (fi (fy (zO c6))))
  ez)
  (bo (ft (fU (gW a) (fq gk (gJ a (ba 0) c0) c0) c0)
  (bz (fi (fy (bS c6 (zO (ba 2))))))
  ez)
  (bz (fi (fy (bS c6 (bS (ba 2) (zO (gJ a (ba 1) (fq gk (gJ a (ba 0) c0) (zL M.len (ba 1)))))))))))))
theorem mx:qm P w K mg base "_law_handed" 1 3 ig :=
 gI [] M.Bg λd a c b=>(bz (fi (pw [(1,"_law_names_here"),(0,"_law_draw_here")] (wL rfl M.range (ba 2)) (λ_ _ _ _=>lu) (λ_ _ _ _=>(gJ a (ba 1) (fq gk (fq fP (gJ a (ba 2) (fq fP c0 (ba 0))) (fq wb c0 (ba 0))) (zL M.len (ba 1))))))))
theorem yL:qm P w K mg base "_law_caller" 2 4 jB :=
 gI [] M.Bh λc a b d=>(bo (fj 4 b (fg (gJ a (ba 2) (fq gk (gJ a (ba 1) c0) (zL M.len (ba 2))))))
  (bo (fj 5 b (fg (gJ a (ba 2) (fq gk (gJ a (ba 1) c0) (zL M.len (ba 2))))))
  (bo (fj 6 b (fg (gJ a (fy (bS c0 (bS c0 (bS c0 (zO c0))))) (fq gk (gJ a (ba 1) c0) c0))))
  (bo (pA 7 [] b (jX (ba 3)) (λ_ _ _ _=>(nR (fU (jt a) c6 (gJ a (ba 0) c0)))) (λ_ _ _ _=>(gJ a (ba 0) c0)))
  (bo (ft (fU (gW a) (ba 0) c6)
  (bz (fi (fq fP (fy (bS c6 (bS (ba 4) (bS (ba 5) (zO (gJ a (fy (bS c6 (zO c6))) (fq gk (gJ a (ba 1) c0) c0))))))) (fL (mx M) c rfl (bS (ba 1) (bS (ba 2) (zO (ba 6))))))))
  ez)
  (bo (ft (jd (ic (fU (gW a) (ba 0) c6) (hF (fU (lh a) (ba 7) (fy gB)))))
  (bo (AM (fg (AU d5 d6 tI (gJ a (ba 7) (fq gk (gJ a (ba 1) c0) (zL M.len (ba 7)))) (zO c6))) (uB 8 9 10 rfl b) (by decide))
  (bz (fi (fq fP (fy (bS c6 (bS (ba 4) (bS (ba 5) (bS (ba 8) (zO (ba 10))))))) (fL (mx M) c rfl (bS (ba 1) (bS (ba 2) (zO (ba 6)))))))))
  ez)
  (bz (fi (fq fP (fy (bS c6 (bS (ba 4) (zO (ba 5))))) (fL (mx M) c rfl (bS (ba 1) (bS (ba 2) (zO (ba 6))))))))))))))
theorem Bu:qm P w K mg base "_law_plain" 2 5 kl :=
 gI [] M.Dg λd a b c=>(bo (fj 5 b (fg (gJ a (ba 2) (fq gk (gJ a (ba 1) c0) (zL M.len (ba 2))))))
  (bo (fj 6 b (fg (gJ a (ba 2) (fq gk (gJ a (ba 1) c0) (zL M.len (ba 2))))))
  (bo (fj 7 b (fg (gJ a (fy (kU ["f","g","h","u","v"] rfl)) (fq gk (gJ a (ba 1) c0) c0))))
  (bo (pA 8 [] b (jX (ba 4)) (λ_ _ _ _=>(nR (fU (lA a) c6 (gJ a (ba 0) c0)))) (λ_ _ _ _=>(ba 0)))
  (bo (ft (fU (jt a) (ba 0) (iH (bS c6 (zO c6))))
  (bz (fi (fy (bS (ba 0) (bS (ba 5) (zO (gJ a (gJ a (ba 3) (fq gk (gJ a (ba 1) c0) (zL M.len (ba 3)))) c0)))))))
  ez)
  (bo (ft (jd (ic (fU (gW a) (ba 0) c6) (hF (fU (lh a) (ba 8) (fy gB)))))
  (bo (fj 9 b (fg (gJ a (ba 8) (fq gk (gJ a (ba 1) c0) (zL M.len (ba 8))))))
  (bz (fi (fq fP (fy (bS c6 (bS (ba 5) (zO (gJ a (ba 9) c0))))) (fL (mx M) d rfl (bS (ba 1) (bS (ba 2) (zO (zL M.len (gJ a (ba 9) c0))))))))))
  ez)
  (bo (ft (fU (jt a) (ba 0) (iH (kU ["row","give","tell"] rfl)))
  (bz (fi (fy (bS (ba 0) (zO (ba 5))))))
  ez)
  (bo (ft (fU (jt a) (ba 0) (iH (bS c6 (zO c6))))
  (bz (fi (fy (bS (ba 0) (bS (ba 5) (bS (ba 6) (zO (ba 7))))))))
  ez)
  (bo (ft (fU (jt a) (ba 0) (iH (bS c6 (zO c6))))
  (bz (fi (fy (bS (ba 0) (bS (ba 6) (bS (ba 7) (zO (ba 5))))))))
  ez)
  (bo (ft (fU (gW a) (ba 0) c6)
  (bz (fi (fy (bS c6 (bS (ba 6) (zO (ba 7)))))))
  ez)
  (bo (ft (fU (jt a) (ba 0) (iH (bS c6 (zO c6))))
  (bz (fi (fy (bS (ba 0) (bS (ba 5) (zO (ba 6)))))))
  ez)
  (bo (ft (fU (gW a) (ba 0) c6)
  (bz (fi (fy (zO c6))))
  ez)
  (bz (fi (fy (bS c6 (bS (ba 5) (zO (ba 6)))))))))))))))))))
theorem vt:qm P w K mg base "_law_body" 3 6 kX :=
 gI [7,8] M.Fs λd b c a=>(bo (fj 6 c (fg (fL (Bt M) d rfl (zO (ba 0)))))
  (bo (Iq 7 [] c a (jX (ba 5)) (λ_ _ _ _=>lu) (λ_ _ _ _=>(zJ c6 (zO (ba 0)))))
  (bo (jg 8 c a (jA (kS gB)))
  (bo (j5 bC rfl (lC (nW (ba 1))) (mh 9 c) (by decide)
  (bo (fj 10 c (fg (fL (Dl M) d rfl (bS (ba 9) (zO (ba 4))))))
  (bz (ft (jd (ic (fU (jt b) (ba 10) (iH (bS c6 (zO c6)))) (hF (fU wG (zL M.len (ba 8)) c0))))
  (bo (gn a (j3 7) (fg (zJ c6 (zO (fq fP (fy (zO (ba 10))) (fL (uM M) d rfl (bS (ba 9) (zO (ba 6)))))))))
  (bz (gn a (j3 8) (fg (ba 10)))))
  (bz (ft (jd (ic (fU (gW b) (ba 10) c6) (hF (fU (lh b) (ba 8) (fy gB)))))
  (bo (GF a (j3 8))
  (bz (gn a (j3 7) (fg c6))))
  (bz (ft (jd (ic (fU (gW b) (ba 10) c6) (ic (fU (lh b) (ba 8) (fy gB)) (hF (fU (gW b) (gJ b (ba 8) pP) c6)))))
  (bo (rB b a (j3 8) (fg pP) (fg c6))
  (bz (gn a (j3 7) (fg c6))))
  (bz (ft (fU (jt b) (ba 10) (iH (kU ["ask","do","straight"] rfl)))
  (bz (gn a (j3 7) (fg (zJ c6 (zO (fL (yL M) d rfl (bS (ba 10) (bS (ba 9) (bS (ba 6) (zO (ba 3)))))))))))
  (bz (gn a (j3 7) (fg (zJ c6 (zO (fL (Bu M) d rfl (bS (ba 10) (bS (ba 9) (bS (ba 6) (bS (ba 2) (zO (ba 3))))))))))))))))))))))
  (bz (fi (fq fP (ba 7) (PF.pd (KQ (kS (zO c6)) (zL M.len (ba 8)))))))))))
theorem Bv:qm P w K mg base "_law_lines" 4 4 oJ :=
 gI [9] M.Dh λb d a c=>(bo (fj 4 a (fg (qJ (gW d) (fq gk (fL (lM M) b rfl (bS (ba 0) (zO c0))) c0) c0)))
  (bo (fj 5 a (fg (fL (oO M) b rfl (bS (fq ED (fL (lM M) b rfl (bS (ba 0) (zO c0))) c0) (zO (ba 4))))))
  (bo (fj 6 a (fg (fL (Bp M) b rfl (zO (ba 5)))))
  (bo (fj 7 a (fg (fL (Bq M) b rfl (bS (fL (oO M) b rfl (bS (fL (lM M) b rfl (bS (ba 0) (zO c0))) (zO (ba 4)))) (zO (ba 6))))))
  (bo (fj 8 a (fg (fL (Br M) b rfl (bS (pw [(4,"_law_digits")] (jX (hV (ba 0) (gE (ba 1)) (gE (ba 2)))) (λ_ _ _ _=>lu) (λ_ _ _ _=>(fL (oO M) b rfl (bS (ba 0) (zO (ba 1)))))) (zO (zL M.len (ba 7)))))))
  (bo (jg 9 a c (jA (kS gB)))
  (bo (j5 bC rfl (lC (nW (ba 6))) (uB 10 11 12 rfl a) (by decide)
  (bo (fj 13 a (fg (fy (bS c6 (zO (ba 10))))))
  (bo (ft (fU uJ (ba 11) nO)
  (bz (fj 13 a (fg (fq fP (ba 13) (fy (bS c6 (zO (ba 11))))))))
  ez)
  (bz (gn c (j3 9) (fg (zJ c6 (zO (fq fP (fq fP (ba 13) (hV (fy (zO c6)) hG (gE (zL M.len (ba 12))))) (ba 12))))))))))
  (bo (fj 14 a (fg (iH (bS c6 (bS (fy gB) (zO (fy gB)))))))
  (bo (j5 bC rfl (lC (nU rfl M.range (zL M.len (ba 7)))) (mh 15 a) (by decide)
  (bo (gn c (j3 9) (fg (fL (vV M) b rfl (zO (gJ d (ba 7) (ba 15))))))
  (bz (jg 9 a c (Kk (RH (fq fP (ba 9) (fL (vt M) b rfl (bS (gJ d (ba 7) (ba 15)) (bS (gJ d (ba 8) (fq fP (ba 15) c0)) (bS (ba 6) (bS (ba 7) (bS (ba 3) (zO (fy gB))))))))) (fy (zO c6))))))))
  (bo (fj 16 a (fg (fL (Bs M) b rfl (bS (ba 14) (bS (ba 5) (bS (ba 6) (zO (ba 7))))))))
  (bz (fi (fq fP (fq fP (fq fP (ba 9) (fy (zO c6))) (fL (vt M) b rfl (bS (ba 14) (bS (gJ d (ba 8) c0) (bS (ba 6) (bS (ba 7) (bS (ba 3) (zO (ba 16))))))))) (fy (zO c6)))))))))))))))
theorem pC:AQ P w K mg base "Program" "shown" 1 1 iZ :=
 UK [] M.vQ λd c b a=>(bz (fi (zP "Program" M.qW (ba 0))))
theorem uN:qm P w K mg base "_law_body_rows" 1 1 jK :=
 gI [1] M.vR λd b a c=>(bo (jg 1 a c (jA (kS gB)))
  (bo (fj 2 a (fg c0))
  (bo (j5 bC rfl (lC (nU rfl M.range (zL M.len (ba 0)))) (mh 3 a) (by decide)
  (bo (fj 4 a (fg (zT (gJ b (ba 0) (ba 3)) (zO c6))))
  (bo (ft (jd (ic (fU (gW b) (ba 2) c0) (hF (fU (lh b) (gJ b (ba 4) c0) c6))))
  (bz (fj 2 a (fg c0)))
  (bz (ft (fU (gW b) (ba 4) (fy (zO c6)))
  (bz (fj 2 a (fg (fq wD (ba 2) c0))))
  (bz (ft (jd (ic (fU (jt b) (gJ b (ba 4) c0) (iH (bS c6 (zO c6)))) (hF (fU vg (ba 2) c0))))
  (bz (fj 2 a (fg (fq fP (ba 2) c0))))
  ez)))))
  (bz (ft (fU vg (ba 2) c0)
  (bz (gn c (j3 1) (fg (fq fP (ba 3) c0))))
  ez)))))
  (bz (fi (ba 1))))))
theorem xx:qm P w K mg base "_law_nowhere" 1 2 kJ :=
 gI [3] M.yH λd a c b=>(bo (pA 2 [] c (jX (ba 0)) (λ_ _ _ _=>(nR (fU (jt a) (gJ a (zT (ba 0) (zO c6)) c0) (iH (bS c6 (zO c6)))))) (λ_ _ _ _=>(zT (ba 0) (zO c6))))
  (bo (jg 3 c b (jA (kS (bS (fy (kU ["func","x","fz"] rfl)) (bS (fy (kU ["straight","x","y","ka","o"] rfl)) (zO (fy (kU ["func","x","main"] rfl))))))))
  (bo (gn b (j3 3) (fg (fy (kU ["straight","x","x","ka","ka"] rfl))))
  (bo (ft (jd (ic (fU (lh a) (ba 2) (fy gB)) (hF (fU (gW a) (gJ a (gJ a (ba 2) c0) c0) c6))))
  (bo (fj 4 c (fg c0))
  (bo (ft (fU (jt a) c6 (gJ a (ba 2) c0))
  (bz (fj 4 c (fg (fq wD (fq wD (zL M.len (gJ a (ba 2) c0)) (EZ PySem.F.slot_list_index PySem.F.type_list_index (xa a) (gJ a (ba 2) c0) (zO c6))) c0))))
  ez)
  (bz (gn b (j3 3) (fg (fq fP (fy (bS c6 (bS c6 (zO (gJ a (gJ a (ba 2) c0) c0))))) (PF.pd (KQ (kS (zO c6)) (fq fP (ba 4) c0)))))))))
  ez)
  (bz (fi (zJ c6 (zO (gJ a (ba 3) (fq gk (gJ a (ba 1) c0) (zL M.len (ba 3))))))))))))
theorem kK:qm P w K mg base "_law_put_in" 1 3 ij :=
 gI [] M.Bj λd c b a=>(bz (fi (fq fP (fq fP (hV (ba 0) hG (gE (ba 2))) (fy (zO (ba 1)))) (hV (ba 0) (gE (ba 2)) hG))))
theorem Dm:qm P w K mg base "_law_case" 2 2 kY :=
 gI [] M.Ft λc a b d=>(bo (fj 2 b (fg (fL (uN M) c rfl (zO (ba 0)))))
  (bo (fj 3 b (fg (gJ a (ba 2) (fq gk (gJ a (ba 1) c0) (zL M.len (ba 2))))))
  (bo (fj 4 b (fg (gJ a (ba 2) (fq gk (gJ a (ba 1) c0) (zL M.len (ba 2))))))
  (bo (fj 5 b (fg (fL (xx M) c rfl (bS (ba 0) (zO (ba 1))))))
  (bo (ft (fU (gW a) (fq gk (gJ a (ba 1) c0) c0) c0)
  (bo (fj 6 b (fg (fL (kK M) c rfl (bS (ba 0) (bS (gJ a (fy (kU ["copy x","new x kz",""] rfl)) (fq gk (gJ a (ba 1) c0) c0)) (zO (lj (EH rfl) rfl M.max (by rfl) (bS (ba 3) (zO (ba 4))))))))))
  (bz (fi (iH (bS (fL (kK M) c rfl (bS (ba 6) (bS (ba 5) (zO (lj (EG rfl) rfl M.min (by rfl) (bS (ba 3) (zO (ba 4)))))))) (zO (fq fP (lj (EH rfl) rfl M.max (by rfl) (bS (ba 3) (zO (ba 4)))) c0)))))))
  ez)
  (bo (ft (fU (gW a) (fq gk (gJ a (ba 1) c0) c0) c0)
  (bo (fj 6 b (fg (fL (kK M) c rfl (bS (ba 0) (bS (ba 5) (zO (ba 3)))))))
  (bz (fi (iH (bS (hV (ba 6) hG (gE pP)) (zO (fq wD (zL M.len (ba 6)) c0)))))))
  ez)
  (bo (fj 6 b (fg (fL (kK M) c rfl (bS (ba 0) (bS (ba 5) (zO (lj (EH rfl) rfl M.max (by rfl) (bS (ba 3) (zO (ba 4))))))))))
  (bz (fi (iH (bS (fL (kK M) c rfl (bS (ba 6) (bS (ba 5) (zO (lj (EG rfl) rfl M.min (by rfl) (bS (ba 3) (zO (ba 4)))))))) (zO (lj (EG rfl) rfl M.min (by rfl) (bS (ba 3) (zO (ba 4))))))))))))))))
theorem vW:uD P w K mg base "Reading" 1 1 n9 :=
 A7 [] M.xt λe d b a=>(bo (tE 0 (c:="Reading") a M.ia (jA AI))
  (bo (tE 0 (c:="Reading") a M.iE (jA AI))
  (bo (iX 0 (c:="Reading") a M.jo (fg nO))
  (bo (tE 0 (c:="Reading") a M.g9 (jA (kS gB)))
  (bo (iX 0 (c:="Reading") a M.lK (fg kH))
  (bz (tE 0 (c:="Reading") a M.mR (jA (kS gB)))))))))
theorem qY:qm P w K mg base "method_body" 1 2 jR :=
 gI [] M.yI λd c b a=>(bz (fi (NK (AW (P6 (ba 0)) (AW c6 (AW (P6 (ba 1)) RD))))))
theorem nA:qm P w K mg base "head_body" 2 1 gZ :=
 gI [] M.Di λc a d b=>(bo (ft (fU (gW a) (gJ a (ba 0) c0) c6)
  (bz (fi (fL (qY M) c rfl (bS (gJ a (ba 0) c0) (zO (gJ a (ba 0) c0))))))
  ez)
  (bo (ft (fU (gW a) (gJ a (ba 0) c0) c6)
  (bz (fi (gJ a (ba 0) c0)))
  ez)
  (bz (fi c6))))
theorem uO:qm P w K mg base "numbered_rows" 3 1 jL :=
 gI [1] M.vS λd b a c=>(bo (jg 1 a c (jA AI))
  (bo (fj 2 a (fg nO))
  (bo (fj 3 a (fg c0))
  (bo (j5 bC rfl (lC (CK rfl M.enumerate (zT (ba 0) (zO c6)))) (v9 4 5 rfl a) (by decide)
  (bo (fj 6 a (fg (zT (ba 5) (zO c6))))
  (bz (ft (fU (gW b) (gJ b (ba 6) c0) c6)
  (bz (v8 3 a Jp (fg c0)))
  (bz (ft (fU vg (ba 3) c0)
  (bo (ft (fU (lh b) (gJ b (ba 6) c0) c6)
  (bz (rB b c (j3 1) (Ki (zL M.len (ba 1))) (fg (iH (bS (ba 4) (bS (ba 6) (zO (ba 2))))))))
  ez)
  (bz (ft (fU (jt b) (gJ b (ba 6) c0) (A6 M.o3 rfl))
  (bz (v8 3 a Jo (fg c0)))
  ez)))
  (bz (ft (fU (lh b) (gJ b (ba 6) c0) c6)
  (bo (fj 2 a (fg (fL (nA M) d rfl (zO (ba 6)))))
  (bz (fj 3 a (fg c0))))
  ez))))))))
  (bz (fi (ba 1)))))))
theorem uP:qm P w K mg base "rows_of_words" 2 1 kM :=
 gI [] M.vT λb d c a=>(bz (fi (pw [] (jX (zT (CB (pC M) (ba 0) b) (zO c6))) (λ_ _ _ _=>lu) (λ_ _ _ _=>(zT (ba 0) (zO c6))))))
theorem yM:qm P w K mg base "body_heads" 3 1 lJ :=
 gI [1] M.Bl λd a b c=>(bo (jg 1 b c (jA AI))
  (bo (fj 2 b (fg c0))
  (bo (j5 bC rfl (lC (nW (fL (uP M) d rfl (zO (ba 0))))) (mh 3 b) (by decide)
  (bz (ft (fU (gW a) (gJ a (ba 3) c0) c6)
  (bz (v8 2 b Jp (fg c0)))
  (bz (ft (jd (ic (fU (gW a) (ba 2) c0) (hF (fU (lh a) (gJ a (ba 3) c0) c6))))
  (bo (rB a c (j3 1) (fg (fL (nA M) d rfl (zO (ba 3)))) (fg (ba 3)))
  (bz (fj 2 b (fg c0))))
  (bz (ft (fU (jt a) (gJ a (ba 3) c0) (iH (bS c6 (zO c6))))
  (bz (v8 2 b Jo (fg c0)))
  ez)))))))
  (bz (fi (ba 1))))))
theorem vX:uD P w K mg base "Program" 4 2 iy :=
 A7 [] M.xu λb e d a=>(bo (iX 0 (c:="Program") a M.qW (fg (ba 1)))
  (bo (iX 0 (c:="Program") a M.sL (fg (fL (uO M) b rfl (zO (ba 1)))))
  (bz (iX 0 (c:="Program") a M.qV (UE (rD rfl rfl M.list (zO (fL (yM M) b rfl (zO (ba 0))))))))))
theorem pX:AO P w K mg base "head_kept" 1 1 hJ :=
 KU [] M.Dj λd a c b=>(bo (ft (jd (oU (fU (lh a) (gJ a (ba 0) c0) c6) (mZ (fU (lA a) c6 (hV (ba 0) (gE c0) hG)))))
  (bz (tB (kS gB)))
  ez)
  (bo (fj 1 c (fg (PF.pd (rD rfl rfl M.list (zO (hV (ba 0) (gE c0) hG))))))
  (bz (tB (wV (ba 1) (gE (fq fP (EZ PySem.F.slot_list_index PySem.F.type_list_index (xa a) (ba 1) (zO c6)) c0)) hG)))))
theorem qq:qm P w K mg base "names_what_is_told" 2 2 fh :=
 gI [] M.qX λb a d c=>(bo (ft (fU (gW a) (zP "Row" M.oj (ba 1)) c6)
  (bz (fi (qJ (jt a) (fL (qY M) b rfl (bS (zP "Row" M.pW (ba 1)) (zO (zP "Row" M.tU (ba 1))))) (zP "Reading" M.iE (ba 0)))))
  ez)
  (bo (ft (jd (oU (fU (gW a) (zP "Row" M.lL (ba 1)) c6) (mZ (fU (lA a) (zP "Row" M.lL (ba 1)) (zP "Reading" M.iE (ba 0))))))
  (bz (fi kH))
  ez)
  (bz (fi (qJ (gW a) (zL M.len (PF.pd (AR (pX M) b rfl (zO (gJ a (zP "Reading" M.iE (ba 0)) (zP "Row" M.lL (ba 1))))))) (zL M.len (zP "Row" M.tS (ba 1))))))))
theorem xy:qm P w K mg base "form_of" 1 1 rG :=
 gI [] M.IB λd a c b=>(bo (ft (fU (jt a) (gJ a (ba 0) c0) (A6 M.o3 rfl))
  (bo (ft (jd (ic (fU vg (zL M.len (ba 0)) c0) (hF (NR M.tV rfl (gJ a (ba 0) c0)))))
  (bz (fi (fq fP (iH (zO c6)) (RF M.tV rfl (gJ a (ba 0) c0) (λ_ _=>rfl)))))
  ez)
  (bz (fi nO)))
  ez)
  (bz (fi (NQ M.N4 rfl (gJ a (ba 0) c0) ⟨rfl,rfl,rfl,rfl⟩))))
theorem qZ:qm P w K mg base "parts_of" 2 1 pT :=
 gI [1] M.Fv λc d b a=>(bo (jg 1 b a (jA (rD rfl rfl M.list (zO (fL (xy M) c rfl (zO (ba 0)))))))
  (bo (Ia bC (fU wG (zL M.len (ba 1)) (fq wD (zL M.len (ba 0)) c0))
  (bz (gn a (j3 1) (fg c6))))
  (bz (fi (PF.pd (EY rfl rfl M.list rfl M.zip (ba 1) (hV (ba 0) (gE c0) hG)))))))
theorem Dn:uD P w K mg base "Row" 3 2 sF :=
 A7 [] M.Fw λd b e a=>(bo (fj 2 e (fg (HX (NL rfl) rfl M.dict (by rfl) (zO (fL (qZ M) d rfl (zO (ba 1)))))))
  (bo (iX 0 (c:="Row") a M.oj (fg (gJ b (ba 1) c0)))
  (bo (iX 0 (c:="Row") a M.vO (fg (nS b (ba 2) c6 ⟨rfl,rfl,rfl,rfl⟩)))
  (bo (iX 0 (c:="Row") a M.N2 (fg (nS b (ba 2) c6 ⟨rfl,rfl,rfl,rfl⟩)))
  (bo (iX 0 (c:="Row") a M.N3 (fg (nS b (ba 2) c6 ⟨rfl,rfl,rfl,rfl⟩)))
  (bo (iX 0 (c:="Row") a M.pW (fg (nS b (ba 2) c6 ⟨rfl,rfl,rfl,rfl⟩)))
  (bo (iX 0 (c:="Row") a M.C7 (fg (nS b (ba 2) c6 ⟨rfl,rfl,rfl,rfl⟩)))
  (bo (iX 0 (c:="Row") a M.tU (fg (nS b (ba 2) c6 ⟨rfl,rfl,rfl,rfl⟩)))
  (bo (iX 0 (c:="Row") a M.lL (fg (nS b (ba 2) c6 ⟨rfl,rfl,rfl,rfl⟩)))
  (bo (iX 0 (c:="Row") a M.tS (fg (zr [] (jX (fL (qZ M) d rfl (zO (ba 1)))) (λ_ _ _ _=>(nR (fU (gW b) (ba 0) c6))) (λ_ _ _ _=>(ba 1)))))
  (bz (iX 0 (c:="Row") a M.C8 (fg (zr [] (jX (fL (qZ M) d rfl (zO (ba 1)))) (λ_ _ _ _=>(nR (fU (jt b) (ba 0) (iH (kU ["X","Y","A"] rfl))))) (λ_ _ _ _=>(ba 1))))))))))))))))
theorem xA:Cz P w K mg base "close_block" 1 1 jS :=
 CQ [] M.yJ λe b d a=>(bo (ft (ik (zP "Reading" M.g9 (ba 0)))
  (bo (GF a (zb 0 (c:="Reading") M.g9))
  (bz (Ib a)))
  ez)
  (bo (iX 0 (c:="Reading") a M.lK (Ki (qJ (gW b) (zP "Reading" M.jo (ba 0)) c6)))
  (bz (iX 0 (c:="Reading") a M.jo (fg nO)))))
theorem uQ:Cz P w K mg base "turns_to_else" 1 1 kO :=
 CQ [] M.vU λe b d a=>(bo (ft (jd (oU (mf (ik (zP "Reading" M.g9 (ba 0)))) (mZ (fU (lh b) (gJ b (zP "Reading" M.g9 (ba 0)) pP) c6))))
  (bz (jm a kH))
  ez)
  (bo (rB b a (zb 0 (c:="Reading") M.g9) (fg pP) (fg c6))
  (bz (jm a kH))))
theorem yN:qm P w K mg base "is_letters" 1 1 nu :=
 gI [] M.Bm λd c b a=>(bo (j5 bC rfl (lC (nW (ba 0))) (mh 1 b) (by decide)
  (bz (ft (mf (Ih AV AV c6 (ba 1) c6))
  (bz (fi kH))
  ez)))
  (bz (fi (qJ (lh c) (ba 0) c6))))
theorem xB:qm P w K mg base "is_name" 2 1 nH :=
 gI [] M.IC λb d c a=>(bz (fi (rE (qJ AV (zL M.len (ba 0)) c0) (wc (fL (yN M) b rfl (zO (ba 0)))))))
theorem IE:qm P w K mg base "is_row" 3 1 qU :=
 gI [] M.Ld λb a d c=>(bo (ft (jd (oU (mf (ik (ba 0))) (mZ (mf (ik (lj (KC rfl) rfl M.all (by rfl) (zO (pw [] (jX (ba 0)) (λ_ _ _ _=>lu) (λ_ _ _ _=>(fL (xB M) b rfl (zO (ba 0))))))))))))
  (bz (fi kH))
  ez)
  (bo (fj 1 d (fg (fL (xy M) b rfl (zO (ba 0)))))
  (bo (ft (fU KG (ba 1) nO)
  (bz (fi kH))
  ez)
  (bo (ft (jd (ic (ik (ba 1)) (hF (fU (gW a) (gJ a (ba 1) pP) c6))))
  (bz (fi (qJ Ua (zL M.len (ba 0)) (zL M.len (ba 1)))))
  ez)
  (bz (fi (qJ (gW a) (zL M.len (ba 0)) (fq fP (zL M.len (ba 1)) c0))))))))
theorem vY:Cz P w K mg base "reads_within" 5 3 gf :=
 CQ [] M.xv λd b e a=>(bo (ft (fU (gW b) (ba 2) (fy (zO c6)))
  (bo (Ie (tH 0 (xA M) a d rfl gB))
  (bz (jm a kH)))
  ez)
  (bo (ft (fU (gW b) (ba 2) (fy (zO c6)))
  (bz (wW a (tH 0 (uQ M) a d rfl gB)))
  ez)
  (bo (ft (mf (ik (fL (IE M) d rfl (zO (ba 2)))))
  (bz (jm a kH))
  ez)
  (bo (fj 3 e (fg (PF.pd (GH (Dn M) d rfl (zO (ba 2))))))
  (bo (ft (jd (ic (fU uJ (zP "Row" M.pW (ba 3)) nO) (hF (fU (lA b) (zP "Row" M.pW (ba 3)) (zP "Reading" M.ia (ba 0))))))
  (bz (jm a kH))
  ez)
  (bo (ft (fU (jt b) (zP "Row" M.oj (ba 3)) (A6 M.o3 rfl))
  (bz (gn a (zb 0 (c:="Reading") M.g9) (fg (zP "Row" M.oj (ba 3)))))
  ez)
  (bo (ft (fU (jt b) (zP "Row" M.oj (ba 3)) (iH (bS c6 (zO c6))))
  (bz (gn a (zb 0 (c:="Reading") M.mR) (fg (iH (bS (ba 1) (zO (ba 3)))))))
  ez)
  (bz (jm a (qJ AV (zL M.len (zP "Reading" M.g9 (ba 0))) (A6 M.yF rfl)))))))))))
theorem vu:qm P w K mg base "are_once" 1 1 lX :=
 gI [] M.Fx λd b c a=>(bz (fi (qJ (gW b) (Il rfl rfl M.len rfl M.set (ba 0)) (zL M.len (ba 0)))))
theorem yO:Cz P w K mg base "reads_kind" 2 2 nv :=
 CQ [3] M.Bn λe b d a=>(bo (ft (jd (oU (ik (zP "Reading" M.iE (ba 0))) (oU (fU wG (zL M.len (ba 1)) c0) (mZ (fU (jt b) (gJ b (ba 1) c0) (zP "Reading" M.ia (ba 0)))))))
  (bz (jm a kH))
  ez)
  (bo (fj 2 d (fg (hV (ba 1) (gE c0) hG)))
  (bo (jg 3 d a (jA (kS gB)))
  (bo (ft (jd (ic (ik (ba 2)) (hF (fU (gW b) (gJ b (ba 2) c0) c6))))
  (bo (ft (jd (oU (fU wG (zL M.len (ba 2)) c0) (mZ (fU (lA b) (gJ b (ba 2) c0) (zP "Reading" M.ia (ba 0))))))
  (bz (jm a kH))
  ez)
  (bo (jg 3 d a (Kk (rD rfl rfl M.list (zO (gJ b (zP "Reading" M.ia (ba 0)) (gJ b (ba 2) c0))))))
  (bz (fj 2 d (fg (hV (ba 2) (gE c0) hG))))))
  ez)
  (bo (ft (jd (ic (ik (ba 2)) (hF (jd (oU (fU (lh b) (gJ b (ba 2) c0) c6) (mZ (fU wG (zL M.len (ba 2)) c0)))))))
  (bz (jm a kH))
  ez)
  (bo (EO a (j3 3) (jA (wV (ba 2) (gE c0) hG)))
  (vp (O':=[0]) 3 (by decide) (by decide)
  (have a:([0]:List Nat).Nodup:=by decide
  (bo (rB b a (zb 0 (c:="Reading") M.ia) (fg (gJ b (ba 1) c0)) (fg (ba 3)))
  (bz (jm a (fL (vu M) e rfl (zO (ba 3))))))))))))))
theorem xC:AO P w K mg base "head_params" 1 1 jc :=
 KU [1] M.yK λd b c a=>(bo (ft (fU (gW b) (gJ b (ba 0) c0) c6)
  (bz (tB (rD rfl rfl M.list (zO (hV (ba 0) (gE c0) hG)))))
  ez)
  (bo (jg 1 c a (jA (rD rfl rfl M.list (zO (hV (ba 0) (gE c0) hG)))))
  (bo (ft (fU (jt b) c6 (ba 1))
  (bz (tB (wV (ba 1) hG (gE (EZ PySem.F.slot_list_index PySem.F.type_list_index (xa b) (ba 1) (zO c6))))))
  ez)
  (bz (Kl 1 a)))))
theorem om:qm P w K mg base "are_heads_names" 2 1 gu :=
 gI [] M.tW λb a d c=>(bo (ft (jd (ic (fU (gW a) (gJ a (ba 0) c0) c6) (ic (fU (jt a) c6 (hV (ba 0) (gE c0) hG)) (hF (mf (ik (PF.pd (AR (pX M) b rfl (zO (ba 0))))))))))
  (bz (fi kH))
  ez)
  (bo (fj 1 d (fg (fq fP (PF.pd (AR (xC M) b rfl (zO (ba 0)))) (PF.pd (AR (pX M) b rfl (zO (ba 0)))))))
  (bz (fi (rE (qJ (lA a) c6 (ba 1)) (wc (fL (vu M) b rfl (zO (ba 1)))))))))
theorem Fz:qm P w K mg base "is_head" 3 2 lY :=
 gI [] M.ID λb a d c=>(bo (ft (fU (gW a) (gJ a (ba 1) c0) c6)
  (bz (fi (rE (qJ vg (zL M.len (ba 1)) c0) (rE (qJ (lh a) (gJ a (ba 1) c0) c6) (wc (fL (om M) b rfl (zO (ba 1))))))))
  ez)
  (bo (ft (fU (gW a) (gJ a (ba 1) c0) c6)
  (bz (fi (rE (qJ vg (zL M.len (ba 1)) c0) (rE (qJ (jt a) (gJ a (ba 1) c0) (zP "Reading" M.ia (ba 0))) (wc (fL (om M) b rfl (zO (ba 1))))))))
  ez)
  (bz (fi (qJ (gW a) (ba 1) (fy (zO c6)))))))
theorem Bw:Cz P w K mg base "reads_row" 6 3 fV :=
 CQ [] M.Dk λb d e a=>(bo (ft (ik (zP "Reading" M.lK (ba 0)))
  (bz (jm a kH))
  ez)
  (bo (ft (fU uJ (zP "Reading" M.jo (ba 0)) nO)
  (bz (wW a (tH 0 (vY M) a b rfl (bS (ba 1) (zO (ba 2))))))
  ez)
  (bo (ft (fU (gW d) (gJ d (ba 2) c0) c6)
  (bz (wW a (tH 0 (yO M) a b rfl (zO (ba 2)))))
  ez)
  (bo (ft (jd (oU (mf (ik (fL (Fz M) b rfl (bS (ba 0) (zO (ba 2)))))) (mZ (fU (jt d) (fL (nA M) b rfl (zO (ba 2))) (zP "Reading" M.iE (ba 0))))))
  (bz (jm a kH))
  ez)
  (bo (iX 0 (c:="Reading") a M.jo (fg (fL (nA M) b rfl (zO (ba 2)))))
  (bo (rB d a (zb 0 (c:="Reading") M.iE) (Ki (zP "Reading" M.jo (ba 0))) (fg (ba 2)))
  (bz (jm a kH))))))))
theorem qg:Iv P w K mg base (YQ M.mF) "read_program" 7 1 gp :=
 R3 [1] M.xw λa d c b=>(bo (jg 1 c b (jA (Kq (vW M) a rfl)))
  (bo (pA 2 [] c (jX (zT (ba 0) (zO c6))) (λ_ _ _ _=>lu) (λ_ _ _ _=>(zT (ba 0) (zO c6))))
  (bo (j5 PassesOwn.leaving rfl (lC (CK rfl M.enumerate (ba 2))) (v9 3 4 rfl c) (by decide)
  (bz (NH (Uw (RB (mf (ik (lj (KC rfl) rfl M.all (by rfl) (zO (pw [] (jX (ba 4)) (λ_ _ _ _=>lu) (λ_ _ _ _=>(fL (xB M) a rfl (zO (ba 0))))))))) (NF (ND (NB (tH 1 (Bw M) b a rfl (bS (ba 3) (zO (ba 4)))))))))
  (bz (uK (VM M.mF mw) rfl (ba 3) a))
  ez)))
  (bo (ft (mf (ik (zP "Reading" M.lK (ba 1))))
  (bz (uK (VM M.mF mw) rfl (zL M.len (ba 2)) a))
  ez)
  (vp (O':=[]) 1 (by decide) (by decide)
  (have b:([]:List Nat).Nodup:=by decide
  (bo (j5 PassesOwn.leaving rfl (lC (nW (zP "Reading" M.mR (ba 1)))) (v9 3 5 rfl c) (by decide)
  (bz (ft (mf (ik (fL (qq M) a rfl (bS (ba 1) (zO (ba 5))))))
  (bz (uK (VM M.mF mw) rfl (ba 3) a))
  ez)))
  (bz (K9 (PF.pd (GH (vX M) a rfl (zO (ba 0)))))))))))))
theorem Dp:qm P w K mg base "_law_line" 8 1 pV :=
 gI [] M.Fy λc d a b=>(bo (fj 1 a (fg nO))
  (bo (N1 1 2 (qg M) (VM M.mF mw) c a rfl rfl (zO (zJ c6 (zO (ba 0)))))
  (bz (fi (ba 1)))))
theorem R4{g:Addr}(e:mg "law"=Y (.ref g)):∃f:FuncData,(∀(s:Shared) (u:Value),BindsTo s f ⟨[u],[]⟩ [("_law_script",u)])/\∀a:Heap,K.In a->a.Ns mainGlobals mg->lT P w K mg a yl 9 g f ["_law_script"] (Ro K 1 GQ) :=
 RL [] e M.UQ λ_=>λb d c h=>(bo (fj 1 c (fg (fL (Bv M) b rfl (bS (ba 0) (bS c0 (bS c0 (zO kH)))))))
  (bo (fj 2 c (fg (qJ (gW d) (fq gk (fL (lM M) b rfl (bS (ba 0) (zO c0))) c0) c0)))
  (bo (ft (fU (lh d) (CB (pC M) (fL (Iv.own (qg M)) b rfl (zO (zJ c6 (zO (ba 1))))) b) (zJ c6 (zO (ba 1))))
  (bz (fi kH))
  ez)
  (bo (j5 bC rfl (lC (nW (fq fP (fy (bS c0 (zO c0))) (hV (ba 0) (gE c0) (gE c0))))) (mh 3 c) (by decide)
  (bo (AM (fg (fL (Dm M) b rfl (bS (ba 1) (zO (fL (oO M) b rfl (bS (fq fP (fq ED (ba 3) c0) c0) (zO (ba 2)))))))) (v9 4 5 rfl c) (by decide))
  (bz (ft (fU (lh d) (fL (Dp M) b rfl (zO (ba 4))) (ba 5))
  (bz (fi kH))
  ez))))
  (bz (fi kH))))))
end
section
variable {P:Program}{K:Fg}{A:Addr}{N:Nat}
theorem vZ{b a:Tok}(X:K.In h)(G:h.Ns mainGlobals mg)(k:W.nsIn K mainGlobals "BLOCK_WORDS"=Y (Y (.ref A)))(l:K.lookup A=Y (zy #[.str "if" b,.str "while" a] N)):Im K mg "BLOCK_WORDS" (.tuple [(.str "if"),(.str "while")]) :=
 ⟨.ref A,.ref A,W.mg_of X G k,rfl,oz (xs:=["if","while"]) l (by show 2<=sizeLine;decide) (.cons ⟨_,rfl⟩ (.cons ⟨_,rfl⟩ .nil))⟩
theorem xD{f e d:Addr}{o n m:Nat}{j i c g b a:Tok} (X:K.In h) (G:h.Ns mainGlobals mg) (k:W.nsIn K mainGlobals "CONDITIONS"=Y (Y (.ref A))) (z:(A==sysModules)=false) (l:K.lookup A=Y { cls:=.type "dict",data:=.dict #[⟨fe.keyHash w.params "choose",.str "choose" j,.ref f⟩,⟨fe.keyHash w.params "some",.str "some" i,.ref e⟩,⟨fe.keyHash w.params "same",.str "same" g,.ref d⟩] N })
  (r:K.lookup f=Y (zy #[] o))
  (q:K.lookup e=Y (zy #[.str "X" c] n))
  (p:K.lookup d=Y (zy #[.str "X" b,.str "Y" a] m)):oE P w K mg "CONDITIONS" nj :=
 GK (P:=P) (l:=[("choose",j,.ref f,.tuple (([]:Lr).map .str)),("some",i,.ref e,.tuple ((["X"]:Lr).map .str)),("same",g,.ref d,.tuple ((["X","Y"]:Lr).map .str))]) (W.mg_of X G k) z l (by show (["choose","some","same"]:Lr).Nodup;decide +kernel) (aE.mpr ⟨⟨.ref f,rfl,oz (xs:=[]) r (by show 0<=sizeLine;decide) .nil⟩,aE.mpr ⟨⟨.ref e,rfl,oz (xs:=["X"]) q (by show 1<=sizeLine;decide) (.cons ⟨_,rfl⟩ .nil)⟩,aE.mpr ⟨⟨.ref d,rfl,oz (xs:=["X","Y"]) p (by show 2<=sizeLine;decide) (.cons ⟨_,rfl⟩ (.cons ⟨_,rfl⟩ .nil))⟩,List.forall_mem_nil _⟩⟩⟩)
theorem IF{V0 V1 V2 V3 V4 V5 V6 V7 V8 V9 i g f e d c b a:Addr}{m0 m1 m2 m3 m4 m5 m6 m7 m8 m9 m10 m11 m12 m13 m14 m15 m16 m17:Nat}{t0 Xx Xy t1 Xz t2 XA XB XC t3 XD XE t4 XF XG XH t5 XI V U t6 T S t7 R Q t8 O M L t9 J I H F YR E D C B y YS x YT v YU YV u t YW s r YX q p o YY n m j:Tok} (X:K.In h) (G:h.Ns mainGlobals mg) (k:W.nsIn K mainGlobals "FORMS"=Y (Y (.ref A))) (z:(A==sysModules)=false) (l:K.lookup A=Y { cls:=.type "dict",data:=.dict #[⟨fe.keyHash w.params "new",.str "new" t0,.ref V0⟩,⟨fe.keyHash w.params "row",.str "row" t1,.ref V1⟩,⟨fe.keyHash w.params "func",.str "func" t2,.ref V2⟩,⟨fe.keyHash w.params "copy",.str "copy" t3,.ref V3⟩,⟨fe.keyHash w.params "take",.str "take" t4,.ref V4⟩,⟨fe.keyHash w.params "put",.str "put" t5,.ref V5⟩,⟨fe.keyHash w.params "push",.str "push" t6,.ref V6⟩,⟨fe.keyHash w.params "pull",.str "pull" t7,.ref V7⟩,⟨fe.keyHash w.params "do",.str "do" t8,.ref V8⟩,⟨fe.keyHash w.params "ask",.str "ask" t9,.ref V9⟩,⟨fe.keyHash w.params "straight",.str "straight" YR,.ref i⟩,⟨fe.keyHash w.params "give",.str "give" YS,.ref g⟩,⟨fe.keyHash w.params "tell",.str "tell" YT,.ref f⟩,⟨fe.keyHash w.params "rest",.str "rest" YU,.ref e⟩,⟨fe.keyHash w.params "check",.str "check" YV,.ref d⟩,⟨fe.keyHash w.params "fresh",.str "fresh" YW,.ref c⟩,⟨fe.keyHash w.params "own",.str "own" YX,.ref b⟩,⟨fe.keyHash w.params "place",.str "place" YY,.ref a⟩] N })
  (l0:K.lookup V0=Y (zy #[.str "X" Xx,.str "KIND" Xy] m0))
  (l1:K.lookup V1=Y (zy #[.str "X" Xz] m1))
  (l2:K.lookup V2=Y (zy #[.str "X" XA,.str "FUNCTION" XB,.str "A" XC] m2))
  (l3:K.lookup V3=Y (zy #[.str "X" XD,.str "Y" XE] m3))
  (l4:K.lookup V4=Y (zy #[.str "X" XF,.str "Y" XG,.str "FIELD" XH] m4))
  (l5:K.lookup V5=Y (zy #[.str "Y" XI,.str "FIELD" V,.str "X" U] m5))
  (l6:K.lookup V6=Y (zy #[.str "Y" T,.str "X" S] m6))
  (l7:K.lookup V7=Y (zy #[.str "X" R,.str "Y" Q] m7))
  (l8:K.lookup V8=Y (zy #[.str "X" O,.str "Y" M,.str "A" L] m8))
  (l9:K.lookup V9=Y (zy #[.str "X" J,.str "Y" I,.str "METHOD" H,.str "A" F] m9))
  (l10:K.lookup i=Y (zy #[.str "X" E,.str "Y" D,.str "KIND" C,.str "METHOD" B,.str "A" y] m10))
  (l11:K.lookup g=Y (zy #[.str "X" x] m11))
  (l12:K.lookup f=Y (zy #[.str "X" v] m12))
  (l13:K.lookup e=Y (zy #[] m13))
  (l14:K.lookup d=Y (zy #[.str "Y" u,.str "FIELD" t] m14))
  (l15:K.lookup c=Y (zy #[.str "X" s,.str "KIND" r] m15))
  (l16:K.lookup b=Y (zy #[.str "X" q,.str "Y" p,.str "FIELD" o] m16))
  (l17:K.lookup a=Y (zy #[.str "Y" n,.str "FIELD" m,.str "X" j] m17)):oE P w K mg "FORMS" A9 :=
 GK (P:=P) (l:=[("new",t0,.ref V0,.tuple ((["X","KIND"]:Lr).map .str)),("row",t1,.ref V1,.tuple ((["X"]:Lr).map .str)),("func",t2,.ref V2,.tuple ((["X","FUNCTION","A"]:Lr).map .str)),("copy",t3,.ref V3,.tuple ((["X","Y"]:Lr).map .str)),("take",t4,.ref V4,.tuple ((["X","Y","FIELD"]:Lr).map .str)),("put",t5,.ref V5,.tuple ((["Y","FIELD","X"]:Lr).map .str)),("push",t6,.ref V6,.tuple ((["Y","X"]:Lr).map .str)),("pull",t7,.ref V7,.tuple ((["X","Y"]:Lr).map .str)),("do",t8,.ref V8,.tuple ((["X","Y","A"]:Lr).map .str)),("ask",t9,.ref V9,.tuple ((["X","Y","METHOD","A"]:Lr).map .str)),("straight",YR,.ref i,.tuple ((["X","Y","KIND","METHOD","A"]:Lr).map .str)),("give",YS,.ref g,.tuple ((["X"]:Lr).map .str)),("tell",YT,.ref f,.tuple ((["X"]:Lr).map .str)),("rest",YU,.ref e,.tuple (([]:Lr).map .str)),("check",YV,.ref d,.tuple ((["Y","FIELD"]:Lr).map .str)),("fresh",YW,.ref c,.tuple ((["X","KIND"]:Lr).map .str)),("own",YX,.ref b,.tuple ((["X","Y","FIELD"]:Lr).map .str)),("place",YY,.ref a,.tuple ((["Y","FIELD","X"]:Lr).map .str))]) (W.mg_of X G k) z l (by show (["new","row","func","copy","take","put","push","pull","do","ask","straight","give","tell","rest","check","fresh","own","place"]:Lr).Nodup;decide +kernel) (aE.mpr ⟨⟨.ref V0,rfl,oz (xs:=["X","KIND"]) l0 (by show 2<=sizeLine;decide) (.cons ⟨_,rfl⟩ (.cons ⟨_,rfl⟩ .nil))⟩,aE.mpr ⟨⟨.ref V1,rfl,oz (xs:=["X"]) l1 (by show 1<=sizeLine;decide) (.cons ⟨_,rfl⟩ .nil)⟩,aE.mpr ⟨⟨.ref V2,rfl,oz (xs:=["X","FUNCTION","A"]) l2 (by show 3<=sizeLine;decide) (.cons ⟨_,rfl⟩ (.cons ⟨_,rfl⟩ (.cons ⟨_,rfl⟩ .nil)))⟩,aE.mpr ⟨⟨.ref V3,rfl,oz (xs:=["X","Y"]) l3 (by show 2<=sizeLine;decide) (.cons ⟨_,rfl⟩ (.cons ⟨_,rfl⟩ .nil))⟩,aE.mpr ⟨⟨.ref V4,rfl,oz (xs:=["X","Y","FIELD"]) l4 (by show 3<=sizeLine;decide) (.cons ⟨_,rfl⟩ (.cons ⟨_,rfl⟩ (.cons ⟨_,rfl⟩ .nil)))⟩,aE.mpr ⟨⟨.ref V5,rfl,oz (xs:=["Y","FIELD","X"]) l5 (by show 3<=sizeLine;decide) (.cons ⟨_,rfl⟩ (.cons ⟨_,rfl⟩ (.cons ⟨_,rfl⟩ .nil)))⟩,aE.mpr ⟨⟨.ref V6,rfl,oz (xs:=["Y","X"]) l6 (by show 2<=sizeLine;decide) (.cons ⟨_,rfl⟩ (.cons ⟨_,rfl⟩ .nil))⟩,aE.mpr ⟨⟨.ref V7,rfl,oz (xs:=["X","Y"]) l7 (by show 2<=sizeLine;decide) (.cons ⟨_,rfl⟩ (.cons ⟨_,rfl⟩ .nil))⟩,aE.mpr ⟨⟨.ref V8,rfl,oz (xs:=["X","Y","A"]) l8 (by show 3<=sizeLine;decide) (.cons ⟨_,rfl⟩ (.cons ⟨_,rfl⟩ (.cons ⟨_,rfl⟩ .nil)))⟩,aE.mpr ⟨⟨.ref V9,rfl,oz (xs:=["X","Y","METHOD","A"]) l9 (by show 4<=sizeLine;decide) (.cons ⟨_,rfl⟩ (.cons ⟨_,rfl⟩ (.cons ⟨_,rfl⟩ (.cons ⟨_,rfl⟩ .nil))))⟩,aE.mpr ⟨⟨.ref i,rfl,oz (xs:=["X","Y","KIND","METHOD","A"]) l10 (by show 5<=sizeLine;decide) (.cons ⟨_,rfl⟩ (.cons ⟨_,rfl⟩ (.cons ⟨_,rfl⟩ (.cons ⟨_,rfl⟩ (.cons ⟨_,rfl⟩ .nil)))))⟩,aE.mpr ⟨⟨.ref g,rfl,oz (xs:=["X"]) l11 (by show 1<=sizeLine;decide) (.cons ⟨_,rfl⟩ .nil)⟩,aE.mpr ⟨⟨.ref f,rfl,oz (xs:=["X"]) l12 (by show 1<=sizeLine;decide) (.cons ⟨_,rfl⟩ .nil)⟩,aE.mpr ⟨⟨.ref e,rfl,oz (xs:=[]) l13 (by show 0<=sizeLine;decide) .nil⟩,aE.mpr ⟨⟨.ref d,rfl,oz (xs:=["Y","FIELD"]) l14 (by show 2<=sizeLine;decide) (.cons ⟨_,rfl⟩ (.cons ⟨_,rfl⟩ .nil))⟩,aE.mpr ⟨⟨.ref c,rfl,oz (xs:=["X","KIND"]) l15 (by show 2<=sizeLine;decide) (.cons ⟨_,rfl⟩ (.cons ⟨_,rfl⟩ .nil))⟩,aE.mpr ⟨⟨.ref b,rfl,oz (xs:=["X","Y","FIELD"]) l16 (by show 3<=sizeLine;decide) (.cons ⟨_,rfl⟩ (.cons ⟨_,rfl⟩ (.cons ⟨_,rfl⟩ .nil)))⟩,aE.mpr ⟨⟨.ref a,rfl,oz (xs:=["Y","FIELD","X"]) l17 (by show 3<=sizeLine;decide) (.cons ⟨_,rfl⟩ (.cons ⟨_,rfl⟩ (.cons ⟨_,rfl⟩ .nil)))⟩,List.forall_mem_nil _⟩⟩⟩⟩⟩⟩⟩⟩⟩⟩⟩⟩⟩⟩⟩⟩⟩⟩)
end
open PySem L2 PySem.StrLaws PySem.Builtin PySem.Builtin.Str
open PySem
theorem tX(i:Nat)(ρ:c5):bb i ρ=(ρ[i]?).join:=rfl
theorem rH(d:fe)(ρ:c5):dC d ρ=Y d:=rfl
theorem pY(o:fe->fe->Od)(f g:c5->Od)(ρ:c5):d2 o f g ρ=(f ρ).bind λx=>(g ρ).bind λy=>o x y:=rfl
theorem Dq(n:Nat)(f:Lp->Od)(a:c5->Option Lp)(ρ:c5):hZ n f a ρ=(a ρ).bind λds=>if ds.length=n then f ds else Z:=rfl
theorem sM(f:Lp->Od)(a:c5->Option Lp)(ρ:c5):gF f a ρ=(a ρ).bind f:=rfl
theorem jV(ρ:c5):eB ρ=Y []:=rfl
theorem fz(f:c5->Od)(a:c5->Option Lp)(ρ:c5):c4 f a ρ=(f ρ).bind λx=>(a ρ).bind λb=>Y (x::b):=rfl
theorem GS(b:c5->Option Lp)(ρ:c5):iQ b ρ=(b ρ).bind λa=>if a.length<=sizeLine then Y (.tuple a) else Z:=rfl
theorem tY(b:c5->Option Lp)(ρ:c5):eT b ρ=(b ρ).bind λa=>if a.length<=sizeLine then Y (.list a) else Z:=rfl
theorem wg(f:c5->Od)(l h:FO)(ρ:c5):gz f l h ρ=(f ρ).bind λx=>(l ρ).bind λa=>(h ρ).bind λb=>Ec x a b:=rfl
theorem GU(f:c5->Od)(ρ:c5):gM f ρ=(f ρ).bind λd=>match d with | .int i=>Y (Y i)|_=>Z:=rfl
theorem GV(ρ:c5):iL ρ=Y Z:=rfl
theorem Le(f:c5->Od)(l h:FO)(ρ:c5):tF f l h ρ=(f ρ).bind λx=>(l ρ).bind λa=>(h ρ).bind λb=>match x with | .list xs=>Y (.list (nc xs a b))|_=>Z:=rfl
theorem IG(o:fe->Lp->Od)(f:c5->Od)(a:c5->Option Lp)(ρ:c5):pN o f a ρ=(f ρ).bind λd=>(a ρ).bind λds=>match d with | .str z=>o (.str z) ds|_=>Z:=rfl
theorem UR(o:fe->Lp->Od)(f:c5->Od)(a:c5->Option Lp)(ρ:c5):A3 o f a ρ=(f ρ).bind λd=>(a ρ).bind λb=>match d with | .list z=>o (.list z) b|_=>Z:=rfl
theorem Qe(a:Lr)(n:Str)(f:c5->Od)(ρ:c5):iR a n f ρ=(f ρ).bind (gS a n):=rfl
theorem Lf(q:c5->Option Lp)(a:List (Nat×Str))(g:c5->Option Bool)(f:c5->Od)(ρ:c5):iG q a g f ρ=(q ρ).bind λb=>if b.length<=sizeLine then (gX g f (pJ a ρ) b).map .list else Z:=rfl
theorem R5(f:c5->Od)(ρ:c5):lQ f ρ=(f ρ).bind λd=>match d with | .list ds=>Y ds | .tuple ds=>Y ds|_=>Z:=rfl
theorem Lg(f:c5->Od)(ρ:c5):pq f ρ=(f ρ).bind λd=>match d with | .list ds=>Y ds | .tuple ds=>Y ds | .str x=>Y (sv x)|_=>Z:=rfl
theorem lS(f:c5->Od)(ρ:c5):fZ f ρ=(f ρ).map .rt:=rfl
theorem o4(f:c5->Od)(i:Nat)(ρ:c5):fu f i ρ=(f ρ).map λd=>.nx (ρ.set i (Y d)):=rfl
theorem xE(f:c5->Od)(i:Nat)(ρ:c5):jH f i ρ=(f ρ).bind λd=>if i<ρ.length then Y (.nx (ρ.set i (Y d))) else Z:=rfl
theorem US(ρ:c5):gi ρ=Y (.nx ρ):=rfl
theorem lN(O:List Nat)(f:c5->Od)(ρ:c5):fO O f ρ=f (iI O ρ):=rfl
theorem Qf(f:c5->Od)(ρ:c5):Kh f ρ=(f ρ).bind λd=>if nT d=true then Y d else Z:=rfl
theorem Qg(f:c5->Od)(ρ:c5):Kj f ρ=(f ρ).bind λd=>if yp d=true then Y d else Z:=rfl
theorem GW(O:List Nat)(f:c5->Option Lp)(ρ:c5):wa O f ρ=f (iI O ρ):=rfl
theorem lZ(f:c5->Od)(ρ:c5):fB f ρ=(f ρ).bind λd=>match d with | .bool b=>Y b|_=>Z:=rfl
theorem UT(f:c5->Od)(ρ:c5):we f ρ=(f ρ).bind kA:=rfl
theorem R6(f:c5->Option Bool)(ρ:c5):tj f ρ=(f ρ).map (!·):=rfl
theorem UU(i:Nat)(o:Int->Int->Int)(f:c5->Od)(ρ:c5):H7 i o f ρ=(ρ[i]?).join.bind λx=>(f ρ).bind λd=>match x,d with | .int a,.int b=>Y (.nx (ρ.set i (Y (.int (o a b)))))|_,_=>Z:=rfl
theorem zU(π:Pl)(b a:c5->Od)(ρ:c5):uA π b a ρ=(oX π ρ).bind λl=>(a ρ).bind λd=>(b ρ).bind λe=>(vF e d l).map λc=>.nx (rW π c ρ):=rfl
theorem GX(π:Pl)(f:c5->Od)(ρ:c5):gd π f ρ=(oX π ρ).bind λl=>(f ρ).bind λd=>match l with | .list ds=>if ds.length<sizeLine then Y (.nx (rW π (.list (ds++[d])) ρ)) else Z|_=>Z:=rfl
theorem GY(f:c5->Od)(a:Tg)(ρ:c5):Cy f a ρ=(f ρ).bind λd=>(qt a d ρ).map .nx:=rfl
theorem Dr(q:c5->Option Lp)(a:Tg)(g:c5->Option Out)(ρ:c5):j4 q a g ρ=(q ρ).bind λb=>js (qt a) g b ρ:=rfl
theorem Lh(f:c5->Od)(ρ:c5):mD f ρ=(Kh f ρ).bind λd=>(ρ[0]?).join.map λa=>.rt (.tuple [d,a]):=rfl
theorem uR(i:Nat)(c n:Str)(f:c5->Od)(ρ:c5):ju i c n f ρ=(ρ[i]?).join.bind λx=>(f ρ).bind λd=>match x with | .dict ((.none,.str c')::r)=>if c'=c/\lU c n=false/\r.length<1000 then Y (.nx (ρ.set i (Y (.dict ((.none,.str c)::pK n d r))))) else Z|_=>Z:=rfl
theorem Li(c a:Str)(n:Nat)(F:Lp->Od)(f:c5->Od)(b:c5->Option Lp)(ρ:c5):CA c a n F f b ρ=(f ρ).bind λd=>if uE c a d=true then (b ρ).bind λe=>if e.length+1=n then F (d::e) else Z else Z:=rfl
theorem R7(c:Str)(n:Nat)(F:Lp->Option (fe×fe))(a:c5->Option Lp)(ρ:c5):tG c n F a ρ=(a ρ).bind λb=>if b.length+1=n then (F (.dict [(.none,.str c)]::b)).bind λr=>match r with|(.none,d)=>Y d|_=>Z else Z:=rfl
theorem XJ(a:c5->Option Str)(ρ:c5):Xa a ρ=(a ρ).bind λz=>if z.length<=sizeLine then Y (.str z) else Z:=rfl
theorem XM(f:c5->Od)(a:c5->Option Str)(ρ:c5):CF f a ρ=(f ρ).bind λd=>(a ρ).bind λz=>match d with | .str y=>Y (y++z)|_=>Z:=rfl
theorem XN(f:c5->Od)(ρ:c5):Ux f ρ=(f ρ).bind λd=>match d with | .str x=>if x.length<=sizeLine then Y (.str x) else Z|_=>Z:=rfl
theorem N5(O:List Nat)(i n:Nat)(F:Lp->Option (fe×fe))(a:c5->Option Lp)(ρ:c5):vl O i n F a ρ=(ρ[i]?).join.bind λc=>(a (iI O ρ)).bind λb=>if b.length+1=n then (F (c::b)).bind λr=>if nT r.1=true then Y (r.1,ρ.set i (Y r.2)) else Z else Z:=rfl
theorem R8(h:c5->Option (fe×c5))(ρ:c5):CC h ρ=(h ρ).bind λr=>(r.2[0]?).join.map λa=>.rt (.tuple [r.1,a]):=rfl
theorem XO(h:c5->Option (fe×c5))(ρ:c5):hT h ρ=(h ρ).bind λr=>match r with|(.bool b,ρ')=>Y (b,ρ')|_=>Z:=rfl
theorem R9(h:c5->Option (Bool×c5))(ρ:c5):NC h ρ=(h ρ).map λr=>(!r.1,r.2):=rfl
theorem N6(ρ:c5):Ry ρ=Z:=rfl
theorem UW(T:String)(f:c5->Od)(ρ:c5):WO T f ρ=(f ρ).bind λd=>if PZ d then Z else Y (.bool (VD d==T||(VD d=="bool"&&T=="int"))):=rfl
theorem XP(f:c5->Od)(ρ:c5):jY f ρ=(f ρ).bind λd=>match d with | .int j=>if -(2 ^ 62)<=j/\j<2 ^ 62 then Y (nP 0 j.toNat) else Z|_=>Z:=rfl
theorem Sa(f:c5->Od)(ρ:c5):w8 f ρ=(f ρ).bind λd=>match d with | .list ds=>Y (qI ds)|_=>Z:=rfl
theorem UX(f:c5->Od)(ρ:c5):Xp f ρ=(f ρ).bind λd=>match d with | .list xs=>Y (.list xs.reverse)|_=>Z:=rfl
theorem Sb(f:c5->Od)(ρ:c5):Xo f ρ=(f ρ).bind λd=>match d with | .list ds=>Y ds.reverse|_=>Z:=rfl
theorem UY(π:Pl)(f:c5->Od)(ρ:c5):AJ π f ρ=(oX π ρ).bind λl=>(f ρ).bind λd=>match l,d with | .list ds,.list es=>if ds.length+es.length<=sizeLine then Y (.nx (rW π (.list (ds++es)) ρ)) else Z|_,_=>Z:=rfl
theorem N7(π:Pl)(ρ:c5):RI π ρ=(oX π ρ).bind λl=>match l with | .list _=>Y (.nx (rW π (.list []) ρ))|_=>Z:=rfl
def VN(h:c5->Option Out):Option Out->Option Out
 |some (.nx ρ)=>h ρ
 |o=>o
theorem q7(g h:c5->Option Out)(ρ:c5):c7 g h ρ=VN h (g ρ):=by
 unfold c7 VN;cases g ρ with
 |none=>rfl
 |some o=>cases o<;>rfl
theorem uS(h:c5->Option Out)(ρ:c5):VN h (Y (.nx ρ))=h ρ:=rfl
theorem Lj(h:c5->Option Out)(d:fe):VN h (Y (.rt d))=Y (.rt d):=rfl
noncomputable def GZ(c:Option Bool)(g h:c5->Option α)(ρ:c5):Option α:=match c with
 |some true=>g ρ
 |some false=>h ρ
 |none=>none
theorem xF(g h:c5->Option α)(ρ:c5):GZ (Y true) g h ρ=g ρ:=rfl
theorem UZ(g h:c5->Option α)(ρ:c5):GZ (Y false) g h ρ=h ρ:=rfl
theorem Sd(c:c5->Option Bool)(g h:c5->Option Out)(ρ:c5):iA c g h ρ=GZ (c ρ) g h ρ:=by unfold iA GZ;rcases c ρ with _|_|_<;>rfl
theorem oP(f g:c5->Option Bool)(ρ:c5):iT f g ρ=GZ (f ρ) g (λ_=>Y false) ρ:=by unfold iT GZ;rcases f ρ with _|_|_<;>rfl
theorem XQ(f g:c5->Option Bool)(ρ:c5):Eb f g ρ=GZ (f ρ) (λ_=>Y true) g ρ:=by unfold Eb GZ;rcases f ρ with _|_|_<;>rfl
theorem Se(f g:c5->Od)(ρ:c5):sg f g ρ=GZ ((f ρ).bind UB) g (λ_=>Y (.bool false)) ρ:=by
 unfold sg GZ;rcases f ρ with _|d
 ·rfl
 ·simp only[aD];rcases UB d with _|_|_<;>rfl
theorem U0(b:Bool):UB (.bool b)=Y b:=rfl
noncomputable def mS:Option Out->Od
 |some (.rt d)=>Y d
 |some (.nx _)=>Y .none
 |_=>Z
theorem jN(N:Lr)(g:c5->Option Out)(ds:Lp):iU N g ds=mS (g (gK N ds)):=by
 unfold iU mS;cases g (gK N ds) with
 |none=>rfl
 |some o=>cases o<;>rfl
theorem iC(d:fe):mS (Y (.rt d))=Y d:=rfl
theorem N8(ρ:c5):mS (Y (.nx ρ))=Y .none:=rfl
noncomputable def Sf:Option Out->Od
 |some (.rt d)=>Y d
 |_=>Z
theorem Sg(N:Lr)(g:c5->Option Out)(a:Lp):Ic N g a=Sf (g (gK N a)):=by
 unfold Ic Sf;cases g (gK N a) with
 |none=>rfl
 |some o=>cases o<;>rfl
theorem N9(d:fe):Sf (Y (.rt d))=Y d:=rfl
noncomputable def Bx:Option Out->Option (fe×fe)
 |some (.rt (.tuple [d,d0]))=>Y (d,d0)
 |some (.nx ρ)=>(ρ[0]?).join.map λd0=>(.none,d0)
 |_=>Z
theorem q8(N:Lr)(g:c5->Option Out)(e:Lp):pj N g e=Bx (g (gK N e)):=by
 unfold pj;cases g (gK N e) with
 |none=>rfl
 |some o=>cases o<;>first|rfl|(rename_i d;cases d<;>first|rfl|(rename_i l;rcases l with _ | ⟨a,_ | ⟨b,_ | ⟨c,l⟩⟩⟩<;>rfl))
theorem pZ(a b:fe):Bx (Y (.rt (.tuple [a,b])))=Y (a,b):=rfl
theorem Oa(ρ:c5):Bx (Y (.nx ρ))=(ρ[0]?).join.map λa=>(.none,a):=rfl
theorem gO(N:Lr)(ds:Lp):gK N ds=ds.map Y++List.replicate (N.length - ds.length) Z:=rfl
theorem qu(ρ:c5):iI [] ρ=ρ:=rfl
theorem tZ(i:Nat)(O:List Nat)(ρ:c5):iI (i::O) ρ=(iI O ρ).set i Z:=rfl
theorem Qh(i:Nat)(ρ:c5):oX (.sl i) ρ=(ρ[i]?).join:=rfl
theorem Qi(i:Nat)(d:fe)(ρ:c5):rW (.sl i) d ρ=ρ.set i (Y d):=rfl
theorem sizeLine_eq:sizeLine=16777216:=by decide
local macro_rules
  | `(tactic| simp? only [$a,*]) => `(tactic| simp only [$a,*, tX, rH, pY, Dq, sM, jV, fz, GS, tY, wg, GU, GV, Le, IG, UR, Qe, Lf, R5, Lg, lS, o4, xE, US, lN, Qf, Qg, GW, lZ, UT, R6, UU, GX, GY, Dr, Lh, Li, R7, XJ, XM, XN, N5, R8, XO, R9, N6, UW, Sa, UX, Sb, UY, N7, q7, uS, Lj, xF, UZ, Sd, oP, XQ, Se, U0, jN, iC, N8, Sg, N9, q8, pZ, Oa, gO, qu, tZ, Qh, Qi, sizeLine_eq, List.map_cons, List.map_nil, List.length_cons, List.length_nil, List.cons_append, List.nil_append, List.getElem?_cons_zero, List.getElem?_cons_succ, List.getElem?_nil, Option.join_some, Option.join_none, Option.bind_some, Option.bind_none, Option.map_some, Option.map_none, List.set_cons_zero, List.set_cons_succ, List.replicate_zero, List.replicate_succ, Nat.reduceAdd, Nat.reduceSub, Nat.reduceLeDiff, Nat.reduceLT, Nat.reduceEqDiff, Nat.zero_add, ↓reduceIte, if_true, if_false, Bool.not_true, Bool.not_false, reduceCtorEq, and_self, and_true, true_and, Nat.zero_le])
theorem Lk:zZ "\n"=⟨#[10]⟩:=by decide +kernel
theorem q9:zZ " "=⟨#[32]⟩:=by decide +kernel
theorem Ob:zZ "."=⟨#[46]⟩:=by decide +kernel
theorem By{c:Nat}:∀(f d i g:List Nat),c∉f->c∉d->f++c::i=d++c::g->f=d/\i=g
 |[],[],_,_,_,_,h=>by simp at h;exact⟨rfl,h⟩
 |[],a::d,_,_,_,h2,h=>by simp at h;exact absurd h.1 (by intro e;subst e;simp at h2)
 |a::f,[],_,_,h1,_,h=>by simp at h;exact absurd h.1 (by intro e;subst e;simp at h1)
 |a::f,b::d,i,g,h1,h2,h=>by simp only[a8,List.cons.injEq] at h;simp only[ag,not_or] at h1 h2;obtain⟨k,j⟩:=By f d i g h1.2 h2.2 h.2;exact⟨by rw[h.1,k],j⟩
theorem Ll{c:Nat}(a d b:List Nat)(e:c∉a)(h:a=d++c::b):False:=e (by rw[h];simp)
theorem rJ(c:Nat)(a b:Str)(r:Lr):(Str.join ⟨#[c]⟩ (a::b::r)).cps.toList=a.cps.toList++c::(Str.join ⟨#[c]⟩ (b::r)).cps.toList:=by show (a++(⟨#[c]⟩:Str)++Str.join ⟨#[c]⟩ (b::r)).cps.toList=_;simp[eZ]
theorem Ds(c:Nat):∀(g f:Lr),g≠[]->f≠[]->(∀p∈g,c∉p.cps.toList)->(∀p∈f,c∉p.cps.toList)->Str.join ⟨#[c]⟩ g=Str.join ⟨#[c]⟩ f->g=f
 |[],_,h,_,_,_,_=>absurd rfl h
 |_::_,[],_,h,_,_,_=>absurd rfl h
 |[a],[b],_,_,_,_,h=>by have:a=b:=h;rw[this]
 |[a],b::j::r,_,_,h1,_,h=>by have e:=bK (λz:Str=>z.cps.toList) h;simp only[rJ] at e;exact(Ll _ _ _ (h1 a (by simp)) e).elim
 |a::a2::r,[b],_,_,_,d,h=>by have e:=bK (λz:Str=>z.cps.toList) h;simp only[rJ] at e;exact(Ll _ _ _ (d b (by simp)) e.symm).elim
 |a::a2::r,b::j::t,_,_,h1,d,h=>by have e:=bK (λz:Str=>z.cps.toList) h;simp only[rJ] at e;obtain⟨n,m⟩:=By _ _ _ _ (h1 a (by simp)) (d b (by simp)) e;have l:a=b:=Str.ext' (dE.mp n);have k:=Ds c (a2::r) (j::t) (by simp) (by simp) (λp i=>h1 p (by simp[i])) (λp i=>d p (by simp[i])) (Str.ext' (dE.mp m));rw[l,k]
theorem Lm(x y:Str):Txt.split x y≠[]:=by
 unfold Txt.split;split
 ·simp
 ·split
  ·simp
  ·rw[partsBetween_eq];obtain⟨p,r,e⟩:=partsFrom_ne x y.length 0 (occurrences x y 0 x.length (x.length+1));rw[e];simp
theorem FA(c:Nat)(a:Lr)(d:a≠[])(h:∀p∈a,c∉p.cps.toList):Txt.split (Str.join ⟨#[c]⟩ a) ⟨#[c]⟩=a :=
 Ds c _ _ (Lm _ _) d (λp b=>split_free _ c p b) h (join_split _ _)
theorem si(x:Str)(w:Nat):∀(b:List Nat) (a:Nat),(partsFrom x w a b).length=b.length+1
 |[],_=>rfl
 |c::r,a=>by show (strSub x a c::partsFrom x w (c+w) r).length=_;simp[si x w r]
abbrev wl(ws:List Str):fe:=.list (ws.map .str)
theorem G3(c:Nat)(a:Lr)(b:a≠[])(h:∀p∈a,c∉p.cps.toList)(d:(Str.join ⟨#[c]⟩ a).length<=1000000):
  jn (.str (Str.join ⟨#[c]⟩ a)) [.str ⟨#[c]⟩]=Y (wl a):=by
 have e:=occ_length_le_len (Str.join ⟨#[c]⟩ a) ⟨#[c]⟩ 0 (Str.join ⟨#[c]⟩ a).length ((Str.join ⟨#[c]⟩ a).length+1);show (if _ then _ else Z)=_;rw[ai ⟨rfl,by rw[sizeLine_eq];omega,by rw[partsBetween_eq,si,sizeLine_eq];omega⟩,FA c a b h]
theorem pM:∀a:Lr,oY (a.map .str)=Y a
 |[]=>rfl
 |p::a=>by show (oY (a.map .str)).map (p::·)=_;rw[pM a];rfl
theorem Ln(c:Nat)(a:Lr){B:Nat}(b:∀y∈a,y.length<=B)(h:a.length*B+a.length<=1000000):
  je (.str ⟨#[c]⟩) [wl a]=Y (.str (Str.join ⟨#[c]⟩ a)):=by
 show (oY (a.map .str)).bind (λtexts=>if JoinOk ⟨#[c]⟩ texts=true then Y (fe.str (Txt.join ⟨#[c]⟩ texts)) else Z)=_;rw[pM];have:JoinOk ⟨#[c]⟩ a=true:=by unfold JoinOk;rw[joinFits b (by show _+a.length*1<=_;omega)];rfl
 show (if JoinOk ⟨#[c]⟩ a=true then Y (fe.str (glued ⟨#[c]⟩ a)) else Z)=_;rw[ai this,glued_eq_join]
theorem Dt(c:Nat)(a:Lr){B:Nat}(b:∀y∈a,y.length<=B):(Str.join ⟨#[c]⟩ a).length<=a.length*B+a.length:=by have d:=join_length_le ⟨#[c]⟩ a;have e:=sumLen_le a b;have:(⟨#[c]⟩:Str).length=1:=rfl;rw[this] at d;omega
theorem zV(c k:Nat)(e:k≠c):∀d:Lr,(∀p∈d,k∉p.cps.toList)->k∉(Str.join ⟨#[c]⟩ d).cps.toList
 |[],_=>by simp[Str.join,Str.empty]
 |[a],h=>h a (by simp)
 |a::b::r,h=>by rw[rJ];have:=zV c k e (b::r) (λp f=>h p (by simp[f]));have g:=h a (by simp);simp only[aw,ag,not_or];exact⟨g,e,this⟩
noncomputable def mJ(x:Str):Bool:=decide (1<=x.length)&&decide (x.length<=8)&&x.cps.toList.all λc=>decide (97<=c)&&decide (c<=122)
theorem ma:mJ x=true↔1<=x.length/\x.length<=8/\∀c∈x.cps.toList,97<=c/\c<=122:=by simp only[mJ,bD,bR,aU,and_assoc]
theorem ua(h:mJ x=true){c:Nat}(b:c<97):c∉x.cps.toList:=λa=>by have:=((ma.mp h).2.2 c a).1;omega
theorem mG(h:mJ x=true):fe.strOk x=true:=by unfold fe.strOk;rw[Array.all_eq_true_iff_forall_mem];intro c a;have:=((ma.mp h).2.2 c (by simpa using a)).2;simp;omega
theorem i8(h:fe.strOk x=true):SeqAt.shaped (.str x)=true:=by simp[SeqAt.shaped,fe.canLay0,fe.depth,h]
theorem Bz(a b:Str):fe.eqv (.str a) (.str b)=(a==b):=by rw[fe.eqv]
theorem IH{a b:Str}(d:fe.strOk a=true)(c:fe.strOk b=true):iS (.str a) (.str b)=Y (.bool (a==b)):=by rw[iS,ai ⟨i8 d,i8 c⟩,Bz]
theorem Lo{a b:Str}(d:fe.strOk a=true)(c:fe.strOk b=true):mK (.str a) (.str b)=Y (.bool (!(a==b))):=by rw[mK,ai ⟨i8 d,i8 c⟩,Bz]
theorem p0:∀a:Lr,fe.depthAll (a.map .str)=0
 |[]=>by simp[fe.depthAll]
 |w::a=>by simp[fe.depthAll,fe.depth,p0 a]
theorem rK{a:Lr}(h:∀w∈a,fe.strOk w=true):SeqAt.shaped (wl a)=true:=by
 have:fe.canLayAll0 (a.map .str)=true:=by rw[dQ];simpa using h
 simp[SeqAt.shaped,fe.canLay0,fe.depth,this,p0]
theorem vv:∀d c:Lr,fe.eqvAll (d.map .str) (c.map .str)=decide (d=c)
 |[],[]=>by rw[a9,fe.eqvAll];rfl
 |[],b::c=>by rw[a9,ae,fe.eqvAll];simp
 |a::d,[]=>by rw[a9,ae,fe.eqvAll];simp
 |a::d,b::c=>by
  rw[ae,ae,fe.eqvAll,Bz,vv d c];by_cases e:a=b
  ·subst e;simp
  ·simp[e]
theorem Lq(b a:Lr):fe.eqv (wl b) (wl a)=decide (b=a):=by rw[fe.eqv,vv]
theorem sN{b a:Lr}(d:∀w∈b,fe.strOk w=true)(c:∀w∈a,fe.strOk w=true):iS (wl b) (wl a)=Y (.bool (decide (b=a))):=by rw[iS,ai ⟨rK d,rK c⟩,Lq]
theorem Sh{a bs:Lr}(c:∀w∈a,fe.strOk w=true)(b:∀w∈bs,fe.strOk w=true):mK (wl a) (wl bs)=Y (.bool (!decide (a=bs))):=by rw[mK,ai ⟨rK c,rK b⟩,Lq]
theorem Du(x:Str):∀a:Lr,(a.map fe.str).any (λy=>fe.eqv y (.str x))=decide (x∈a)
 |[]=>by simp
 |y::a=>by
  rw[ae,bM,Bz,Du x a];by_cases e:y=x
  ·subst e;simp
  ·have b:¬ x=y:=λz=>e z.symm;simp[e,b]
theorem oQ{ys:Lr}(b:fe.strOk x=true)(a:∀w∈ys,fe.strOk w=true):kR (.str x) (wl ys)=Y (decide (x∈ys)):=by show (if _ then _ else Z)=_;rw[ai ⟨i8 b,by rw[List.all_map,aU];intro w hw;exact i8 (a w hw),by simp[fe.depth]⟩,Du]
theorem YZ(c d:Nat):decide (([c]:List Nat)<[d])=decide (c<d):=by rw[lt_cons_cons];simp
theorem U1:zZ "a"=⟨#[97]⟩:=by decide +kernel
theorem U2:zZ "z"=⟨#[122]⟩:=by decide +kernel
theorem II{c:Nat}(h:97<=c/\c<=122)(x:fe):jM [Y x,Y (.str ⟨#[c]⟩)]=Y (.nx [Y x,Y (.str ⟨#[c]⟩)]):=by
 have d:tJ (.str ⟨#[97]⟩) (.str ⟨#[c]⟩)=Y (.bool true):=by show Y (fe.bool (!decide (([c]:List Nat)<[97])))=_;rw[YZ,aA (by omega)];rfl
 have b:tJ (.str ⟨#[c]⟩) (.str ⟨#[122]⟩)=Y (.bool true):=by show Y (fe.bool (!decide (([122]:List Nat)<[c])))=_;rw[YZ,aA (by omega)];rfl
 have a:wX tJ tJ (zA "a") (bb 1) (zA "z") [Y x,Y (.str ⟨#[c]⟩)]=Y true:=by simp only[wX,dC,bb,U1,U2,bJ,bq,b0,aD,d,b];rfl
 simp? only[jM,a]
theorem xG(x:fe):∀(l:List Nat) (o:Od),(∀c∈l,97<=c/\c<=122)->∃a,js (qt (.one 1)) jM (l.map λc=>.str ⟨#[c]⟩) [Y x,o]=Y (.nx [Y x,a])
 |[],o,_=>⟨o,rfl⟩
 |c::l,o,h=>by obtain⟨a,e⟩:=xG x l (Y (.str ⟨#[c]⟩)) λz b=>h z (by simp[b]);refine⟨a,?_⟩;rw[ae,js];show ((jM [Y x,Y (.str ⟨#[c]⟩)])).bind _=_;rw[II (h c (by simp))];exact e
theorem Dv:fe.strOk (zZ "")=true:=by decide +kernel
theorem Oc(h:mJ x=true):nH [.str x]=Y (.bool true):=by
 obtain⟨i,l,g⟩:=ma.mp h;obtain⟨k,e⟩:=xG (.str x) x.cps.toList Z g;have a:(x==zZ "")=false:=by rw[aY];intro z;subst z;exact absurd i (zD 0)
 have f:nu [.str x]=Y (.bool true):=by
  simp? only[nu,tQ]
  rw[show sv x=x.cps.toList.map λc=>fe.str ⟨#[c]⟩ from rfl,e]
  simp? only[Lo (mG h) Dv,a]
 have b:(x.length:Int)<=8:=by omega
 have d:x.length<=16777216:=by omega
 have j:tJ (.int x.length) (.int 8)=Y (.bool true):=by simp[tJ,VB,dI,b]
 simp? only[nH,zH,gR,Nj,ai d,f,j]
theorem hW(a b:String):iS (.str (zZ a)) (.str (zZ b))=Y (.bool (a==b)):=by rw[IH (dq a) (dq b),ky]
theorem mH(a b:String):mK (.str (zZ a)) (.str (zZ b))=Y (.bool (!(a==b))):=by rw[Lo (dq a) (dq b),ky]
theorem sj(l:Lp)(i:Int):gm (.list l) (.int i)=rY l i:=rfl
theorem VO(l:Lp)(i:Int):gm (.tuple l) (.int i)=rY l i:=rfl
theorem wh(a:α)(l:List α):rY (a::l) 0=Y a:=by
 have:(0:Int)<((l.length:Nat):Int)+1:=by omega
 simp[rY,Ap,this]
theorem MC(a b:α)(l:List α):rY (a::b::l) 1=Y b:=by
 have:(1:Int)<((l.length:Nat):Int)+1+1:=by omega
 simp[rY,Ap,this]
theorem XR(a b c:α)(l:List α):rY (a::b::c::l) 2=Y c:=by
 have:(2:Int)<((l.length:Nat):Int)+1+1+1:=by omega
 simp[rY,Ap,this]
theorem xH(n d:Nat)(v:Int):HT.ke n d (Y v)=if v<0 then (v+(n:Int)).toNat else min v.toNat n:=rfl
theorem rf(l:List α)(k:Nat)(a:k<=l.length):nc l (Y (k:Int)) Z=l.drop k:=by unfold nc;rw[xH,ao (by omega)];simp only[HT.ke];rw[dk,Nat.min_eq_left a,List.take_of_length_le];simp
theorem Ls(l:List α)(k:Nat)(a:k<=l.length):nc l Z (Y (k:Int))=l.take k:=by unfold nc;rw[xH,ao (by omega)];simp only[HT.ke];rw[dk,Nat.min_eq_left a];simp
theorem BA(a b:α)(l:List α):nc (a::b::l) (Y 2) Z=l:=by have:=rf (a::b::l) 2 (by simp);simpa using this
theorem XS(a b c:α)(l:List α):nc (a::b::c::l) (Y 3) Z=l:=by have:=rf (a::b::c::l) 3 (by simp);simpa using this
theorem rL(l:Lp):lV [.list l]=Y (.list l):=rfl
theorem Ed(l:Lp)(a b:Option Int):Ec (.list l) a b=Y (.list (nc l a b)):=rfl
theorem k8(l:Lp):gR [.list l]=Y (.int l.length):=rfl
theorem ub(x:Str)(r:Lr):∀(a:Lr) (n:Nat),x∉a->pO (λy=>fe.eqv y (.str x)) ((a++x::r).map .str) n=Y (n+a.length)
 |[],n,_=>by rw[bp,ae,pO,Bz];simp
 |p::a,n,h=>by
  simp only[ag,not_or] at h;rw[a8,ae,pO,Bz,ub x r a (n+1) h.2];have:¬ (p==x)=true:=by simpa using λz:p=x=>h.1 z.symm
  rw[ao this];simp only[ay]
  congr 1;omega
theorem uT{a r:Lr}(c:fe.strOk x=true)(b:∀w∈a++x::r,fe.strOk w=true)(h:x∉a)(d:(a++x::r).length<=1000):
  nV (.list ((a++x::r).map .str)) [.str x]=Y (.int a.length):=by
 show (if _ then _ else Z)=_;rw[ai ⟨i8 c,by rw[List.all_map,aU];intro w hw;exact i8 (b w hw),by simp[fe.depth],by rw[ah,sizeLine_eq];omega⟩,ub x r a 0 h];simp
theorem i9(x y:fe):mB x y=(kR x y).map .bool:=rfl
theorem jP(x y:fe):ki x y=(kR x y).map λb=>.bool (!b):=rfl
def kw(a:Lr):Lr:=if a=[] then [] else zZ "keeps"::a
theorem G4(f:Str)(r:Lr):gZ [wl (zZ "func"::f::r)]=Y (.str f):=by
 have b:("func"=="method")=false:=by decide
 have a:("func"=="func")=true:=by decide
 simp? only[gZ,qR,wl,sj,wh,MC,hW,b,a]
theorem G5(k m:Str)(r:Lr)(f:k.length<=8)(e:m.length<=8):gZ [wl (zZ "method"::k::m::r)]=Y (.str (k++(zZ "."++m))):=by
 have d:("method"=="method")=true:=by decide
 have c:k.length<=16777216:=by omega
 have b:m.length<=16777216:=by omega
 have a:(k++(zZ "."++m)).length<=16777216:=by rw[cM,cM,show (zZ ".").length=1 by decide +kernel];omega
 simp? only[gZ,qR,jR,o2,wl,sj,wh,MC,XR,hW,d,ai c,ai b,ai a,Str.append_empty]
theorem Ha:gZ [wl ["main"]]=Y (.str "main"):=by kernel_rfl
theorem Oe(k m:Str)(r:Lr):jc [wl (zZ "method"::k::m::r)]=Y (wl r):=by
 have a:("method"=="method")=true:=by decide
 simp? only[jc,mv,wl,sj,wh,hW,a,Ed,XS,rL]
theorem Of(k m:Str)(r:Lr):hJ [wl (zZ "method"::k::m::r)]=Y (wl []):=by
 have a:("method"=="func")=false:=by decide
 simp? only[hJ,oK,wl,sj,wh,mH,a]
theorem Lu{a:Lr}(h:∀w∈a,fe.strOk w=true):∀w∈kw a,fe.strOk w=true:=by
 intro w hw;unfold kw at hw;split at hw
 ·simp at hw
 ·rcases ag.mp hw with rfl|hw
  ·exact dq _
  ·exact h w hw
theorem Og(f:Str){a b:Lr}(j:∀w∈a,fe.strOk w=true)(k:∀w∈b,fe.strOk w=true)(g:zZ "keeps"∉a)(m:a.length+b.length<=900):
  jc [wl (zZ "func"::f::(a++kw b))]=Y (wl a):=by
 have h:("func"=="method")=false:=by decide
 have d:∀w∈a++kw b,fe.strOk w=true:=λw hw=>(aw.mp hw).elim (j w) (Lu k w);have c:=oQ (dq "keeps") d;by_cases q:b=[]
 ·subst q;have e:a++kw []=a:=by simp[kw]
  rw[e] at c ⊢;rw[aA g] at c
  simp? only[jc,mv,wl,sj,wh,hW,h,Ed,BA,rL,i9,c]
 ·have e:kw b=zZ "keeps"::b:=by simp[kw,q]
  rw[e] at c d ⊢;rw[aX (by simp)] at c;have i:=uT (dq "keeps") d g (by simp;omega);have l:nc ((a++zZ "keeps"::b).map fe.str) Z (Y (a.length:Int))=a.map .str:=by rw[Ls _ _ (by simp)];simp
  simp? only[jc,mv,wl,sj,wh,hW,h,Ed,BA,rL,i9,c,i,l]
theorem Hc(f:Str){a b:Lr}(j:∀w∈a,fe.strOk w=true)(k:∀w∈b,fe.strOk w=true)(g:zZ "keeps"∉a)(n:a.length+b.length<=900):
  hJ [wl (zZ "func"::f::(a++kw b))]=Y (wl b):=by
 have h:("func"=="func")=true:=by decide
 have d:∀w∈a++kw b,fe.strOk w=true:=λw hw=>(aw.mp hw).elim (j w) (Lu k w);have c:=oQ (dq "keeps") d;by_cases q:b=[]
 ·subst q;have e:a++kw []=a:=by simp[kw]
  rw[e] at c ⊢;rw[aA g] at c
  simp? only[hJ,oK,wl,sj,wh,mH,h,Ed,BA,rL,jP,c]
 ·have e:kw b=zZ "keeps"::b:=by simp[kw,q]
  rw[e] at c d ⊢;rw[aX (by simp)] at c;have i:=uT (dq "keeps") d g (by simp;omega);have l:fC (.int (a.length:Int)) (.int 1)=Y (.int ((a.length+1:Nat):Int)):=rfl;have m:nc ((a++zZ "keeps"::b).map fe.str) (Y ((a.length+1:Nat):Int)) Z=b.map .str:=by
   rw[rf _ _ (by simp),<-List.map_drop]
   congr 1
   simp[List.drop_append]
  simp? only[hJ,oK,wl,sj,wh,mH,h,Ed,BA,rL,jP,c,i,l,m]
theorem zW:∀a:Lr,sy (a.map .str)=Y (a.map .inr)
 |[]=>rfl
 |w::a=>by show ((tr (.str w)).bind λk=>(sy (a.map .str)).map (k::·))=_;rw[zW a];rfl
theorem xI{K:Type}[DecidableEq K]:∀(b a:List K),(a++b).Nodup->mV a b=a++b
 |[],a,_=>by simp[mV]
 |k::b,a,h=>by
  have c:k∉a:=λz=>by rw[a7] at h;exact h.2.2 k z k (by simp) rfl
  show mV (sx a k) b=_;have e:sx a k=a++[k]:=by simp[sx,c]
  rw[e,xI b (a++[k]) (by simpa using h)];simp
theorem He{c:Lr}(h:c.Nodup)(g:c.length<=900):lX [wl c]=Y (.bool true):=by
 have d:(c.map (Sum.inr:Str->Key)).Nodup:=by unfold List.Nodup at h ⊢;exact List.Pairwise.map _ (λa b q z=>q (by injection z)) h
 have f:A2 (bb 0) [Y (.list (c.map .str))]=Y (.int c.length):=by show (sy (c.map .str)).bind _=_;rw[zW];show (if _ then _ else Z)=_;rw[ai (by rw[ah];omega),xI _ _ (by simpa using d)];simp
 have e:iS (.int (c.length:Int)) (.int (c.length:Int))=Y (.bool true):=by rw[iS,ai ⟨by rfl,by rfl⟩,fe.eqv];simp
 simp? only[lX,xo,wl,f,k8,ah,e]
noncomputable def gD(H:List (Str×fe)):fe:=.dict (H.map λp=>(.str p.1,p.2))
theorem zY{t:Str}:∀{H:List (Str×fe)},t∉H.map (·.1)->lz (.str t) (H.map λp=>(.str p.1,p.2))=Z
 |[],_=>rfl
 |p::H,h=>by simp only[ae,ag,not_or] at h;rw[ae,lz,ao (by show ¬ (decide (p.1=t))=true;simpa using λz:p.1=t=>h.1 z.symm)];exact zY h.2
theorem z0{t:Str}{d:fe}:∀{H:List (Str×fe)},(H.map (·.1)).Nodup->(t,d)∈H->lz (.str t) (H.map λp=>(.str p.1,p.2))=Y d
 |[],_,h=>by simp at h
 |p::H,nd,h=>by
  rw[ae,bj] at nd;rw[ae,lz];rcases ag.mp h with e|e
  ·subst e;rw[ai (by show (decide (t=t))=true;simp)]
  ·have:p.1≠t:=λz=>nd.1 (by rw[z];exact aq.mpr ⟨(t,d),e,rfl⟩);rw[ao (by show ¬ (decide (p.1=t))=true;simpa using this)];exact z0 nd.2 e
theorem Dw{t:Str}:∀{H:List (Str×fe)},t∉H.map (·.1)->((H.map λp=>((.str p.1:fe),p.2)).any λx=>lR x.1 (.str t))=false
 |[],_=>rfl
 |p::H,h=>by
  simp only[ae,ag,not_or] at h;rw[ae,bM,Dw h.2];have:lR (.str p.1) (.str t)=false:=by show decide (p.1=t)=false;simpa using λz:p.1=t=>h.1 z.symm
  rw[this];rfl
theorem wj(H:List (Str×fe)):hU (H.map λp=>((.str p.1:fe),p.2))=false:=by cases H<;>rfl
theorem FC{H:List (Str×fe)}(h:t∉H.map (·.1))(a:H.length<=900):vF (.str t) d (gD H)=Y (gD (H++[(t,d)])):=by show (if _ then _ else Z)=_;rw[ai ⟨by rw[ah,sizeLine_eq];omega,wj H⟩];show Y (fe.dict (Ct (.str t) d _))=_;rw[Ct,ao (by rw[Dw h];simp)];simp[gD]
theorem Hf{t:Str}:∀{H:List (Str×fe)},t∈H.map (·.1)->(lz (.str t) (H.map λp=>(.str p.1,p.2))).isSome=true
 |[],h=>by simp at h
 |p::H,h=>by
  rw[ae,lz];by_cases q:p.1=t
  ·rw[ai (by show (decide (p.1=t))=true;simpa using q)];rfl
  ·rw[ao (by show ¬ (decide (p.1=t))=true;simpa using q)];refine Hf ?_;rw[ae] at h;rcases ag.mp h with e|e
   ·exact absurd e.symm q
   ·exact e
theorem rh{H:List (Str×fe)}:kR (.str t) (gD H)=Y (decide (t∈H.map (·.1))):=by
 show (if hU _=true then Z else _)=_;rw[ao (by rw[wj];simp)];show Y (lz (.str t) _).isSome=_;by_cases h:t∈H.map (·.1)
 ·rw[aX h,Hf h]
 ·rw[aA h,zY h];rfl
theorem Lv{H:List (Str×fe)}(a:(H.map (·.1)).Nodup)(h:(t,d)∈H):gm (gD H) (.str t)=Y d:=by show (if hU _=true then Z else _)=_;rw[ao (by rw[wj];simp)];exact z0 a h
theorem Oh(H:List (Str×fe)):lV [gD H]=Y (wl (H.map (·.1))):=by show (if hU _=true then Z else _)=_;rw[ao (by rw[wj];simp)];simp[wl,cN]
theorem BB:oD .none .none=Y (.bool false):=rfl
theorem uc(t:Str):oD (.str t) .none=Y (.bool true):=rfl
theorem qa(b:Bool):kA (.bool b)=Y b:=rfl
theorem jD(b:Bool):nT (.bool b)=true:=rfl
theorem Si(b:Str):nT (.str b)=true:=rfl
theorem Sj(b:Int):nT (.int b)=true:=rfl
theorem Hg:nT .none=true:=rfl
theorem BC(a:Lr):yp (wl a)=true:=by simp[yp,wl,nT]
theorem Oi(l:List α)(a:α):rY (l++[a]) (-1)=Y a:=by
 have c:(1:Int)<=(l.length:Int)+1:=by omega
 have b:(-1+((l.length:Int)+1)).toNat=l.length:=by omega
 simp[rY,Ap,c,b]
theorem ib{a:BD}{g:c5->Option Out}{ρ1:c5}(h:(a d ρ).bind g=Y (.nx ρ1)):js a g (d::ds) ρ=js a g ds ρ1:=by rw[js,h];rfl
theorem fw{A B:c5->Option Out}{ρ0 ρ1:c5}(b:A ρ0=Y (.nx ρ1))(a:B ρ1=o):c7 A B ρ0=o:=by rw[q7,b,uS,a]
theorem jW{c:c5->Option Bool}{A B:c5->Option Out}(b:c ρ=Y true)(a:A ρ=o):iA c A B ρ=o:=by rw[Sd,b,xF,a]
theorem iz{c:c5->Option Bool}{A B:c5->Option Out}(b:c ρ=Y false)(a:B ρ=o):iA c A B ρ=o:=by rw[Sd,b,UZ,a]
local macro_rules
| `(zF $a) => `(fw (iz (by kernel_rfl) rfl) $a)
theorem fW(h:f (iI O ρ)=Y d):fu (fO O f) i ρ=Y (.nx (ρ.set i (Y d))):=by rw[o4,lN,h];rfl
theorem ud{acc:Lp}{x:fe}(a:(ρ[i]?).join=Y (.list acc))(b:acc.length<=1000)(h:f ρ=Y x):gd (.sl i) f ρ=Y (.nx (ρ.set i (Y (.list (acc++[x]))))):=by
 rw[GX,Qh,a,h];have z:acc.length<sizeLine:=by rw[sizeLine_eq];omega
 simp only[aD,ai z,Qi]
theorem XT{N:Lr}{A B C E:c5->Option Out}{ρ0 ρ1 ρ2 ρ3:c5}(f:gK N ds=ρ0)(e:A ρ0=Y (.nx ρ1))(c:B ρ1=Y (.nx ρ2))(b:C ρ2=Y (.nx ρ3))(a:E ρ3=Y (.rt d)):iU N (c7 A (c7 B (c7 C E))) ds=Y d:=by rw[jN,f,q7,e,uS,q7,c,uS,q7,b,uS,a,iC]
theorem rM{a:Tg}{g:c5->Option Out}(h:q (ρ.set i Z)=Y ds)(e:js (qt a) g ds ρ=o):j4 (wa [i] q) a g ρ=o:=by rw[Dr,GW,tZ,qu,h];exact e
theorem Oj{j:Nat}{a:Tg}{g:c5->Option Out}(h:q ((ρ.set j Z).set i Z)=Y ds)(e:js (qt a) g ds ρ=o):j4 (wa [i,j] q) a g ρ=o:=by rw[Dr,GW,tZ,tZ,qu,h];exact e
theorem nB{T:c5->Option Bool}{C:c5->Od}{ys:Lp}(b:q ρ=Y ds)(c:ds.length<=1000)(a:gX T C (pJ caps ρ) ds=Y ys):iG q caps T C ρ=Y (.list ys):=by rw[Lf,b];simp only[aD];rw[ai (by rw[sizeLine_eq];omega),a];rfl
theorem Ly(a b:Str)(h:a.length+b.length<=1000):fC (.str a) (.str b)=Y (.str (a++b)):=by show (if _ then _ else Z)=_;rw[ai (by rw[sizeLine_eq];omega)]
theorem MD(i j:Int):iS (.int i) (.int j)=Y (.bool (i==j)):=by rw[iS,ai ⟨by rfl,by rfl⟩,fe.eqv]
theorem neI(i j:Int):mK (.int i) (.int j)=Y (.bool (!(i==j))):=by rw[mK,ai ⟨by rfl,by rfl⟩,fe.eqv]
def jQ(k m:Str):Str:=k++(zZ "."++m)
def ln(ws:Lr):Str:=Str.join ⟨#[32]⟩ ws
def GR(ws:Lr):Prop:=ws≠[]/\(∀w∈ws,mJ w=true)/\ws.length<=12
theorem GR.len{a:Lr}(h:GR a):(Str.join ⟨#[32]⟩ a).length<=108:=by have:=Dt 32 a (B:=8) λw hw=>(ma.mp (h.2.1 w hw)).2.1;have:=h.2.2;omega
theorem GR.split{a:Lr}(h:GR a):jn (.str (Str.join ⟨#[32]⟩ a)) [.str ⟨#[32]⟩]=Y (wl a) :=
 G3 32 a h.1 (λw hw=>ua (h.2.1 w hw) (by decide)) (by have:=h.len;omega)
theorem GR.ok{a:Lr}(h:GR a):∀w∈a,fe.strOk w=true:=λw hw=>mG (h.2.1 w hw)
structure Hb (t:Str) (ws:Lr):Prop where
 hd:(∃r,ws=zZ "func"::t::r)\/(∃k m r,ws=zZ "method"::k::m::r/\t=jQ k m/\k.length<=8/\m.length<=8)\/(ws=[zZ "main"]/\t=zZ "main")
 tok:fe.strOk t=true
theorem Hb.U3{a:Lr}(h:Hb t a):gZ [wl a]=Y (.str t):=by
 rcases h.hd with ⟨r,rfl⟩ | ⟨k,m,r,rfl,rfl,c,b⟩ | ⟨rfl,rfl⟩
 ·exact G4 t r
 ·exact G5 k m r c b
 ·exact Ha
theorem Hb.w0{t:Str}{a:Lr}(h:Hb t a):∃(w0:String) (r:Lr),a=zZ w0::r/\(w0="func"\/w0="method"\/w0="main"):=by
 rcases h.hd with ⟨r,rfl⟩ | ⟨k,m,r,rfl,_⟩ | ⟨rfl,_⟩
 ·exact⟨"func",_,rfl,.inl rfl⟩
 ·exact⟨"method",_,rfl,.inr (.inl rfl)⟩
 ·exact⟨"main",_,rfl,.inr (.inr rfl)⟩
inductive Wk:Nat->Str->List Lr->List (Str×Lr)->List (Lr×Str)->Prop
 |nil (b:Str):Wk 0 b [] [] []
 |kind (b:Str) (r:Lr) {rest:List Lr}{hs:List (Str×Lr)}{ns:List (Lr×Str)}:Wk 0 b rest hs ns->Wk 0 b ((zZ "kind"::r)::rest) hs ns
 |head (b:Str) {t:Str}{ws:Lr}{rest:List Lr}{hs:List (Str×Lr)}{ns:List (Lr×Str)}:Hb t ws->Wk 1 t rest hs ns->Wk 0 b (ws::rest) ((t,ws)::hs) ns
 |fin {d:Nat}{b:Str}{rest:List Lr}{hs:List (Str×Lr)}{ns:List (Lr×Str)}:Wk d b rest hs ns->Wk (d+1) b ([zZ "end"]::rest) hs ns
 |ME {d:Nat}{b:Str}{rest:List Lr}{hs:List (Str×Lr)}{ns:List (Lr×Str)}:Wk (d+1) b rest hs ns->Wk (d+1) b ([zZ "else"]::rest) hs ns
 |row {d:Nat}{b:Str} (w0:String) (r:Lr) (bl:Bool) {rest:List Lr}{hs:List (Str×Lr)}{ns:List (Lr×Str)}:(w0=="end")=false->(w0=="else")=false->(w0=="if"||w0=="while")=bl ->
   Wk (if bl then d+2 else d+1) b rest hs ns->Wk (d+1) b ((zZ w0::r)::rest) hs ((zZ w0::r,b)::ns)
theorem xJ(w0:String):kR (.str (zZ w0)) (.tuple [.str (zZ "if"),.str (zZ "while")])=Y (w0=="if"||w0=="while"):=by
 show (if _ then _ else Z)=_;rw[ai ⟨i8 (dq _),by simp[i8 (dq _)],by simp[fe.depth]⟩];simp only[bM,List.any_nil,cT,Bz,ky]
 congr 1
 rw[cK,cK (b:="while")]
abbrev IJ:=Int×(List Str×Str)
noncomputable def Sk(i:Nat)(x:IJ):fe×fe:=(.int (i:Int),.tuple [.int x.1,wl x.2.1,.str x.2.2])
noncomputable def ue:Nat->List IJ->List (fe×fe)
 |_,[]=>[]
 |i,x::r=>Sk i x::ue (i+1) r
theorem Hh:∀(E:List IJ) (i:Nat) (x:IJ),ue i (E++[x])=ue i E++[Sk (i+E.length) x]
 |[],i,x=>rfl
 |y::E,i,x=>by
  rw[a8,ue,ue,Hh E (i+1) x,a8,ay]
  congr 4;omega
theorem BE:∀(E:List IJ) (i:Nat),(ue i E).length=E.length
 |[],_=>rfl
 |y::E,i=>by rw[ue,ay,BE E,ay]
theorem Dx(E:List IJ)(i:Nat):hU (ue i E)=false:=by cases E<;>rfl
theorem Hj:∀(E:List IJ) (i n:Nat),i+E.length<=n->((ue i E).any λx=>lR x.1 (.int (n:Int)))=false
 |[],_,_,_=>rfl
 |y::E,i,n,h=>by
  rw[ay] at h;rw[ue,bM,Hj E (i+1) n (by omega)];have:lR (.int (i:Int)) (.int (n:Int))=false:=by show decide ((i:Int)=(n:Int))=false;exact aA (by omega)
  show (lR (.int (i:Int)) (.int (n:Int))||false)=false;rw[this];rfl
theorem Sl(E:List IJ):gR [.dict (ue 0 E)]=Y (.int (E.length:Int)):=by show (if hU _=true then Z else Y (fe.int ((ue 0 E).length:Int)))=_;rw[ao (by rw[Dx];simp),BE]
theorem Sm(E:List IJ)(x:IJ)(a:E.length<=900):vF (.int (E.length:Int)) (.tuple [.int x.1,wl x.2.1,.str x.2.2]) (.dict (ue 0 E))=Y (.dict (ue 0 (E++[x]))):=by show (if _ then _ else Z)=_;rw[ai ⟨by rw[BE,sizeLine_eq];omega,Dx E 0⟩];show Y (fe.dict (Ct _ _ _))=_;rw[Ct,ao (by rw[Hj E 0 E.length (by omega)];simp),Hh,Sk,dn]
theorem U4:wF (.int 0) (.int 0)=Y (.bool false):=by kernel_rfl
theorem XU(d:Nat):wF (.int ((d+1:Nat):Int)) (.int 0)=Y (.bool true):=by show Y (fe.bool (decide ((0:Int)<((d+1:Nat):Int))))=_;rw[aX (by omega)]
theorem U5:iS (.int 0) (.int 0)=Y (.bool true):=by kernel_rfl
theorem XW(d:Nat):iS (.int ((d+1:Nat):Int)) (.int 0)=Y (.bool false):=by
 rw[MD]
 congr 2
theorem z4(d:Nat):(((d+1:Nat):Int) - 1)=(d:Int):=by omega
theorem z5(d:Nat):((d:Nat):Int)+1=((d+1:Nat):Int):=by omega
noncomputable def uU(k:Nat)(a:List Lr):Lp:=((a.map λb=>fe.str (Str.join ⟨#[32]⟩ b)).zipIdx k).map λx=>.tuple [.int x.2,x.1]
theorem mI(k:Nat)(b:Lr)(a:List Lr):uU k (b::a)=.tuple [.int (k:Int),.str (Str.join ⟨#[32]⟩ b)]::uU (k+1) a:=by simp[uU,List.zipIdx_cons]
theorem oo(a:Str)(r:Lr):gm (wl (a::r)) (.int 0)=Y (.str a):=by simp only[wl,ae,sj,wh]
theorem Ol(v:fe):∀{d:Nat}{b:Str}{c:List Lr}{A:List (Str×Lr)}{z:List (Lr×Str)},Wk d b c A z->∀(k:Nat) (E:List IJ) (bd:fe) (l r w:Od),(0<d->bd=.str b)->E.length+c.length<=900->(∀f∈c,GR f) ->
  ∃n s q p o,n.map (·.2)=z/\js (qt (.many [4,5])) fM (uU k c) [Y v,Y (.dict (ue 0 E)),Y bd,Y (.int (d:Int)),l,r,w]=Y (.nx [Y v,Y (.dict (ue 0 (E++n))),s,Y (.int 0),q,p,o]):=by
 intro d b c A z h;induction h with
 |nil b=>intro k E bd l r w _ _ _;exact⟨[],Y bd,l,r,w,rfl,by rw[aF];rfl⟩
 |@kind b i j A z G x=>
  intro k E bd l r w B u m;have g:=m _ (bc ..);obtain⟨n,s,q,p,o,y,e⟩:=x (k+1) E bd (Y (.int (k:Int))) (Y (.str (Str.join ⟨#[32]⟩ (zZ "kind"::i)))) (Y (wl (zZ "kind"::i))) (by omega) (by simp at u ⊢;omega) λf hw=>m f (aj _ hw);refine⟨n,s,q,p,o,y,?_⟩;rw[mI,ib ?_,e];show fM [Y v,Y (.dict (ue 0 E)),Y bd,Y (.int 0),Y (.int (k:Int)),Y (.str (Str.join ⟨#[32]⟩ (zZ "kind"::i))),w]=_;have C:("kind"=="end")=false:=by decide
  have K:(!("kind"=="kind"))=false:=by decide
  simp? only[fM,q9,g.split,oo,hW,mH,C,K,U4]
  rfl
 |@head b t f j A z O G x=>
  intro k E bd l r w B u m;have g:=m _ (bc ..);obtain⟨n,s,q,p,o,y,e⟩:=x (k+1) E (.str t) (Y (.int (k:Int))) (Y (.str (Str.join ⟨#[32]⟩ f))) (Y (wl f)) (λ_=>rfl) (by simp at u ⊢;omega) λf hw=>m f (aj _ hw);refine⟨n,s,q,p,o,y,?_⟩;rw[mI,ib ?_,e];show fM [Y v,Y (.dict (ue 0 E)),Y bd,Y (.int 0),Y (.int (k:Int)),Y (.str (Str.join ⟨#[32]⟩ f)),w]=_;obtain⟨a,r,R,hw⟩:=O.w0;have H:(a=="end")=false:=by rcases hw with rfl|rfl|rfl<;>decide
  have F:(a=="kind")=false:=by rcases hw with rfl|rfl|rfl<;>decide
  have C:gm (wl f) (.int 0)=Y (.str (zZ a)):=by rw[R];exact oo _ _
  simp? only[fM,q9,g.split,C,hW,mH,H,F,U4,O.U3]
  rfl
 |@fin d b j A z G x=>
  intro k E bd l r w B u m;have g:=m _ (bc ..);obtain⟨n,s,q,p,o,y,e⟩:=x (k+1) E bd (Y (.int (k:Int))) (Y (.str (Str.join ⟨#[32]⟩ [zZ "end"]))) (Y (wl [zZ "end"])) (λ_=>B (by omega)) (by simp at u ⊢;omega) λf hw=>m f (aj _ hw);refine⟨n,s,q,p,o,y,?_⟩;rw[mI,ib ?_,e];show fM [Y v,Y (.dict (ue 0 E)),Y bd,Y (.int ((d+1:Nat):Int)),Y (.int (k:Int)),Y (.str (Str.join ⟨#[32]⟩ [zZ "end"])),w]=_;have C:("end"=="end")=true:=by decide
  simp? only[fM,q9,g.split,oo,hW,mH,C,z4]
 |@ME d b j A z G x=>
  intro k E bd l r w B u m;have g:=m _ (bc ..);obtain⟨n,s,q,p,o,y,e⟩:=x (k+1) E bd (Y (.int (k:Int))) (Y (.str (Str.join ⟨#[32]⟩ [zZ "else"]))) (Y (wl [zZ "else"])) (λ_=>B (by omega)) (by simp at u ⊢;omega) λf hw=>m f (aj _ hw);refine⟨n,s,q,p,o,y,?_⟩;rw[mI,ib ?_,e];show fM [Y v,Y (.dict (ue 0 E)),Y bd,Y (.int ((d+1:Nat):Int)),Y (.int (k:Int)),Y (.str (Str.join ⟨#[32]⟩ [zZ "else"])),w]=_;have C:("else"=="end")=false:=by decide
  have K:(!("else"=="else"))=false:=by decide
  have S:("else"=="if"||"else"=="while")=false:=by decide
  simp? only[fM,q9,g.split,oo,hW,mH,C,K,XU,i9,xJ,S]
 |@row d b a i T j A z H F P G x=>
  intro k E bd l r w B u m;have g:=m _ (bc ..);have J:=B (by omega);subst J;obtain⟨n,s,q,p,o,y,e⟩:=x (k+1) (E++[((k:Int),(zZ a::i,b))]) (.str b) (Y (.int (k:Int))) (Y (.str (Str.join ⟨#[32]⟩ (zZ a::i)))) (Y (wl (zZ a::i))) (λ_=>rfl) (by simp at u ⊢;omega) λf hw=>m f (aj _ hw);refine⟨((k:Int),(zZ a::i,b))::n,s,q,p,o,by rw[ae,y],?_⟩;rw[aQ,dw] at e;rw[mI,ib ?_,e];show fM [Y v,Y (.dict (ue 0 E)),Y (.str b),Y (.int ((d+1:Nat):Int)),Y (.int (k:Int)),Y (.str (Str.join ⟨#[32]⟩ (zZ a::i))),w]=_;have N:E.length<=900:=by simp at u;omega
  have L:=Sm E ((k:Int),(zZ a::i,b)) N;have M:=Sl E;have I:=xJ a;rw[P] at I;have D:uA (.sl 1) (Kh (zN (bb 1))) (fO [1] (iQ (c4 (bb 4) (c4 (bb 6) (zQ (bb 2)))))) [Y v,Y (.dict (ue 0 E)),Y (.str b),Y (.int ((d+1:Nat):Int)),Y (.int (k:Int)),Y (.str (Str.join ⟨#[32]⟩ (zZ a::i))),Y (wl (zZ a::i))] =
    Y (.nx [Y v,Y (.dict (ue 0 (E++[((k:Int),(zZ a::i,b))]))),Y (.str b),Y (.int ((d+1:Nat):Int)),Y (.int (k:Int)),Y (.str (Str.join ⟨#[32]⟩ (zZ a::i))),Y (wl (zZ a::i))]):=by
   simp? only[zU,M,L,Sj]
  have Q:(!(a=="else"))=true:=by rw[F];rfl
  cases T with
  |false=>simp? only[fM,q9,g.split,oo,hW,mH,H,F,XU,D,i9,I,bZ]
  |true=>simp? only[fM,q9,g.split,oo,hW,mH,H,F,XU,D,i9,I,z5]
noncomputable def hg(a:List (Str×Lr)):List (Str×fe):=a.map λp=>(p.1,wl p.2)
theorem nC(a:List (Str×Lr)):(hg a).map (·.1)=a.map (·.1):=by simp[hg,cN]
theorem Om(m:Od):∀{d:Nat}{b:Str}{a:List Lr}{i:List (Str×Lr)}{n:List (Lr×Str)},Wk d b a i n->∀(H:List (Str×fe)) (w:Od),(H.map (·.1)++i.map (·.1)).Nodup->H.length+a.length<=900 ->
  ∃f,js (qt (.one 3)) f9 (a.map wl) [m,Y (gD H),Y (.int (d:Int)),w]=Y (.nx [m,Y (gD (H++hg i)),Y (.int 0),f]):=by
 intro d b a i n h;induction h with
 |nil b=>intro H w _ _;exact⟨w,by rw[show hg []=[] from rfl,aF];rfl⟩
 |@kind b q c i n s k=>
  intro H w g j;obtain⟨f,e⟩:=k H (Y (wl (zZ "kind"::q))) g (by simp at j ⊢;omega);refine⟨f,?_⟩;rw[ae,ib ?_,e];show f9 [m,Y (gD H),Y (.int 0),Y (wl (zZ "kind"::q))]=_;have o:("kind"=="end")=false:=by decide
  have E:(!("kind"=="kind"))=false:=by decide
  have x:("kind"=="if"||"kind"=="while")=false:=by decide
  simp? only[f9,oo,hW,mH,o,E,U5,i9,xJ,x]
  rfl
 |@head b t p c i n O s k=>
  intro H w g j;have A:t∉H.map (·.1):=λz=>by rw[a7] at g;exact g.2.2 t z t (by simp) rfl
  obtain⟨f,e⟩:=k (H++[(t,wl p)]) (Y (wl p)) (by simpa using g) (by simp at j ⊢;omega);refine⟨f,?_⟩;have D:H++hg ((t,p)::i)=H++[(t,wl p)]++hg i:=by simp[hg]
  rw[ae,ib ?_,e,D];show f9 [m,Y (gD H),Y (.int 0),Y (wl p)]=_;obtain⟨l,r,C,hw⟩:=O.w0;have u:(l=="end")=false:=by rcases hw with rfl|rfl|rfl<;>decide
  have y:(l=="kind")=false:=by rcases hw with rfl|rfl|rfl<;>decide
  have o:gm (wl p) (.int 0)=Y (.str (zZ l)):=by rw[C];exact oo _ _
  simp? only[f9,zU,o,hW,mH,u,y,U5,O.U3,FC A (show H.length<=900 by simp at j;omega)]
  rfl
 |@fin d b c i n s k=>
  intro H w g j;obtain⟨f,e⟩:=k H (Y (wl [zZ "end"])) g (by simp at j ⊢;omega);refine⟨f,?_⟩;rw[ae,ib ?_,e];show f9 [m,Y (gD H),Y (.int ((d+1:Nat):Int)),Y (wl [zZ "end"])]=_;have o:("end"=="end")=true:=by decide
  simp? only[f9,oo,hW,mH,o,z4]
 |@ME d b c i n s k=>
  intro H w g j;obtain⟨f,e⟩:=k H (Y (wl [zZ "else"])) g (by simp at j ⊢;omega);refine⟨f,?_⟩;rw[ae,ib ?_,e];show f9 [m,Y (gD H),Y (.int ((d+1:Nat):Int)),Y (wl [zZ "else"])]=_;have o:("else"=="end")=false:=by decide
  have x:("else"=="if"||"else"=="while")=false:=by decide
  simp? only[f9,oo,hW,mH,o,XW,i9,xJ,x]
 |@row d b l q F c i n u y B s k=>
  intro H w g j;obtain⟨f,e⟩:=k H (Y (wl (zZ l::q))) g (by simp at j ⊢;omega);refine⟨f,?_⟩;rw[ae,ib ?_,e];show f9 [m,Y (gD H),Y (.int ((d+1:Nat):Int)),Y (wl (zZ l::q))]=_;have v:=xJ l;rw[B] at v;cases F with
  |false=>simp? only[f9,oo,hW,mH,u,XW,i9,v,bZ]
  |true=>simp? only[f9,oo,hW,mH,u,XW,i9,v,z5]
theorem Dy(l:Lp)(a d:fe):vF (.int (-1)) d (.list (l++[a]))=Y (.list (l++[d])):=by
 have c:(1:Int)<=(l.length:Int)+1:=by omega
 have b:(-1+((l.length:Int)+1)).toNat=l.length:=by omega
 show (Ap _ (-1)).map _=_;simp[Ap,c,b]
theorem o5(b a:Lr):wl (b++a)=.list (b.map .str++a.map .str):=by simp[wl]
theorem Hl(B:Lr)(b:Str):gm (wl (B++[b])) (.int (-1))=Y (.str b):=by rw[o5];exact Oi _ _
theorem Sn(s:String):∀w∈[zZ s],fe.strOk w=true:=by intro w hw;simp at hw;subst hw;exact dq _
theorem oq{a b:String}(h:(a==b)=false):zZ a≠zZ b:=by intro z;have:=ky a b;rw[z] at this;simp at this;rw[this] at h;simp at h
noncomputable def tx(rows:List Lr):Str:=Str.join ⟨#[10]⟩ (rows.map ln)
structure Rt (rows:List Lr) (hs:List (Str×Lr)) (ns:List (Lr×Str)):Prop where
 wk:Wk 0 ⟨#[]⟩ rows hs ns
 gr:∀ws∈rows,GR ws
 nd:(hs.map (·.1)).Nodup
 tok:∀w∈hs.map (·.1),fe.strOk w=true
 len:rows.length<=800
 ne:rows≠[]
noncomputable def Pr(a:List (fe×fe)):fe:=.dict ((.none,.str "Program")::a)
def Lz(a:fe)(x:Str):Prop:=gS ["Program"] "text" a=Y (.str x)/\uE "Program" "shown" a=true
theorem Dz{a:fe}(h:Lz a x):iZ [a]=Y (.str x):=by
 simp? only[iZ,qd,h.1]
structure Ee (ws:Lr):Prop where
 line:10∉(ln ws).cps.toList
 len:(ln ws).length<=108
 split:jn (.str (ln ws)) [.str ⟨#[32]⟩]=Y (wl ws)
theorem GR.line{a:Lr}(h:GR a):10∉(ln a).cps.toList:=zV 32 10 (by decide) a λw hw=>ua (h.2.1 w hw) (by decide)
theorem GR.Hm{a:Lr}(h:GR a):Ee a:=⟨h.line,h.len,h.split⟩
theorem Oo:Ee [zZ ""]:=⟨by decide +kernel,by decide +kernel,by kernel_rfl⟩
theorem ri(T:c5->Option Bool)(C:c5->Od)(b:T=λ_=>Y true)(c:C=pN jn (bb 0) (zC (zZ " ") eB)):∀{a:List Lr},(∀ws∈a,Ee ws)->gX T C [] ((a.map ln).map .str)=Y (a.map wl)
 |[],_=>rfl
 |ws::a,h=>by
  have d:=ri T C b c λx (f:x∈a)=>h x (by simp[f]);have g:=h ws (by simp);have e:C [Y (.str (ln ws))]=Y (wl ws):=by
   rw[c]
   simp? only[q9]
   exact g.split
  have i:T [Y (.str (ln ws))]=Y true:=by rw[b]
  rw[ae,ae,gX,i]
  simp? only[e,d]
theorem Hn{a:List Lr}(h:∀ws∈a,Ee ws):∀y∈a.map ln,y.length<=108:=by intro y b;obtain⟨ws,hw,rfl⟩:=aq.mp b;exact(h ws hw).len
theorem z6{a:List Lr}(h:∀ws∈a,Ee ws)(d:a.length<=800)(b:a≠[]):jn (.str (tx a)) [.str (zZ "\n")]=Y (wl (a.map ln)):=by
 rw[Lk];refine G3 10 (a.map ln) (by simpa using b) (λp c=>?_) ?_
 ·obtain⟨ws,hw,rfl⟩:=aq.mp c;exact(h ws hw).line
 ·have:=Dt 10 (a.map ln) (Hn h);rw[ah] at this;omega
theorem DA{a:List Lr}(h:∀ws∈a,Ee ws)(b:a.length<=800):je (.str (zZ "\n")) [wl (a.map ln)]=Y (.str (tx a)):=by rw[Lk];exact Ln 10 (a.map ln) (Hn h) (by rw[ah];omega)
theorem FD(T:c5->Option Bool)(C:c5->Od)(b:T=λ_=>Y true)(c:C=pN jn (bb 0) (zC (zZ " ") eB)){a:List Lr}(h:∀ws∈a,GR ws):gX T C [] ((a.map ln).map .str)=Y (a.map wl):=ri T C b c λws hw=>(h ws hw).Hm
theorem DB{a:List Lr}(h:∀ws∈a,GR ws)(c:a.length<=800)(b:a≠[]):jn (.str (tx a)) [.str (zZ "\n")]=Y (wl (a.map ln)):=z6 (λws hw=>(h ws hw).Hm) c b
section
variable {rows:List Lr}{hs:List (Str×Lr)}{ns:List (Lr×Str)}
theorem Oq(H:Rt rows hs ns){a:fe}(b:Lz a (tx rows)):kM [a]=Y (.list (rows.map wl)):=by
 have f:=H.len;have e:=DB H.gr H.len H.ne;have d:=FD oa og rfl rfl H.gr;have c:((rows.map ln).map fe.str).length<=16777216:=by simp;omega
 simp? only[kM,qf,b.2,Dz b,e,ai c,pJ,d]
theorem LA(H:Rt rows hs ns){pr:fe}(c:Lz pr (tx rows)):lJ [pr]=Y (gD (hg hs)):=by
 have d:=Oq H c;have f:=H.len;obtain⟨e,a⟩:=Om (Y pr) H.wk [] Z (by simpa using H.nd) (by simp;omega);have b:fe.dict []=gD []:=rfl;rw[bp] at a
 simp? only[lJ,tP,d,b]
 rw[show fe.int 0=.int ((0:Nat):Int) from rfl,a]
 simp? only[rH]
def prog(a:List Lr)(b:List (Str×Lr))(E:List IJ):fe:=Pr [(.str "text",.str (tx a)),(.str "numbered",.dict (ue 0 E)),(.str "body_texts",wl (b.map (·.1)))]
theorem DC(H:Rt rows hs ns):∃E,E.map (·.2)=ns/\jL [.str (tx rows)]=Y (.dict (ue 0 E)):=by
 have g:=H.len;have b:=DB H.gr H.len H.ne;obtain⟨E,h,f,d,c,a,e⟩:=Ol (.str (tx rows)) H.wk 0 [] .none Z Z Z (by omega) (by simp;omega) H.gr;refine⟨E,a,?_⟩;have q:qI ((rows.map ln).map fe.str)=uU 0 rows:=by unfold qI uU;rw[cR];rfl
 rw[bp,show ue 0 []=[] from rfl,show fe.int ((0:Nat):Int)=.int 0 from rfl] at e
 simp? only[jL,qe,b,q,e]
theorem Ot{x:fe}(h:f [Y (Pr []),Y x]=Y d):ju 0 "Program" "text" f [Y (Pr []),Y x]=Y (.nx [Y (Pr [(.str "text",d)]),Y x]):=by rw[uR,h];kernel_rfl
theorem Ou{a x:fe}(h:f [Y (Pr [(.str "text",a)]),Y x]=Y d):ju 0 "Program" "numbered" f [Y (Pr [(.str "text",a)]),Y x]=Y (.nx [Y (Pr [(.str "text",a),(.str "numbered",d)]),Y x]):=by rw[uR,h];kernel_rfl
theorem Ov{a b x:fe}(h:f [Y (Pr [(.str "text",a),(.str "numbered",b)]),Y x]=Y d):ju 0 "Program" "body_texts" f [Y (Pr [(.str "text",a),(.str "numbered",b)]),Y x]=Y (.nx [Y (Pr [(.str "text",a),(.str "numbered",b),(.str "body_texts",d)]),Y x]):=by rw[uR,h];kernel_rfl
theorem Ox(H:Rt rows hs ns):∃E,E.map (·.2)=ns/\iy [Pr [],.str (tx rows)]=Y (.none,prog rows hs E):=by
 obtain⟨E,d,f⟩:=DC H;refine⟨E,d,?_⟩;have e:=LA H (pr:=Pr [(.str "text",.str (tx rows)),(.str "numbered",.dict (ue 0 E))]) ⟨by kernel_rfl,by kernel_rfl⟩;have c:(fO [0] (bb 1)) [Y (Pr []),Y (.str (tx rows))]=Y (.str (tx rows)):=rfl;have b:(fO [0] (hZ 1 jL (zQ (bb 1)))) [Y (Pr [(.str "text",.str (tx rows))]),Y (.str (tx rows))]=Y (.dict (ue 0 E)):=by
  simp? only[f]
 have a:(Kj (gF lV (zQ (hZ 1 lJ (zQ (bb 0)))))) [Y (Pr [(.str "text",.str (tx rows)),(.str "numbered",.dict (ue 0 E))]),Y (.str (tx rows))]=Y (wl (hs.map (·.1))):=by
  simp? only[e,Oh,nC,BC]
 simp? only[iy,qS,q8,gO,q7,Ot c,Ou b,Ov a]
 rfl
theorem Oy(E:List IJ):Lz (prog rows hs E) (tx rows):=⟨by kernel_rfl,by kernel_rfl⟩
end
theorem Oz(l:List α)(k:Nat):rY l (k:Int)=l[k]?:=by
 unfold rY Ap;by_cases h:k<l.length
 ·simp[h]
 ·simp[h]
theorem S0(h:n<=1000):(-(2 ^ 62)<=(n:Int)/\(n:Int)<2 ^ 62):=by
 have e:(2:Int) ^ 62=4611686018427387904:=by decide
 rw[e];omega
theorem XX{j:Int}(h:f ρ=Y (.int j))(a:-(2 ^ 62)<=j/\j<2 ^ 62):jY f ρ=Y (nP 0 j.toNat):=by rw[XP,h];simp only[aD];rw[ai a]
theorem FE(n:Nat):nP 0 n=(List.range' 0 n).map λ(i:Nat)=>fe.int (i:Int):=by unfold nP;rw[List.range_eq_range'];refine List.map_congr_left λa _=>?_;rw[Int.zero_add]
theorem xK(a:n<=1000)(ρ:c5)(f:c5->Od)(h:f ρ=Y (.int (n:Int))):jY f ρ=Y ((List.range' 0 n).map λ(i:Nat)=>fe.int (i:Int)):=by rw[XX h (S0 a),dk,FE]
section
variable {rows:List Lr}{hs:List (Str×Lr)}{ns:List (Lr×Str)}
theorem rN{a b:Str}(d:fe.strOk a=true)(c:fe.strOk b=true):fe.strOk (a++b)=true:=by unfold fe.strOk at *;rw[eZ,Array.all_append,d,c];rfl
theorem sO{c:Str}(e:fe.strOk c=true):∀{d:Lr},(∀w∈d,fe.strOk w=true)->fe.strOk (Str.join c d)=true
 |[],_=>Dv
 |[a],h=>h a (by simp)
 |a::b::r,h=>rN (rN (h a (by simp)) e) (sO e λw hw=>h w (by simp[hw]))
theorem Qj(h:∀ws∈rows,GR ws):fe.strOk (tx rows)=true:=by refine sO (zD 0) λy a=>?_;obtain⟨ws,hw,rfl⟩:=aq.mp a;exact sO (zD 0) (h ws hw).ok
end
section
structure KR where
 nm:Str
 el:Option Str
 own:Lr
noncomputable def wm:Option Str->Lr
 |none=>[]
 |some j=>[zZ "of",j]
def uV:Lr->Lr
 |[]=>[]
 |a::l=>zZ "fields"::a::l
noncomputable def hH(r:KR):Lr:=zZ "kind"::r.nm::(wm r.el++uV r.own)
theorem XY(a:α)(l:List α):nc (a::l) (Y 1) Z=l:=by have:=rf (a::l) 1 (by simp);simpa using this
theorem BF:kA (.list [])=Y false:=rfl
theorem DD(a:fe)(l:Lp):kA (.list (a::l))=Y true:=rfl
noncomputable def Rg(c a b bl la:fe)(ov:Bool):fe:=.dict [(.none,.str "Reading"),(.str "fields",c),(.str "heads",a),(.str "body",b),(.str "blocks",bl),(.str "over",.bool ov),(.str "later",la)]
abbrev R0:fe:=Rg (gD []) (gD []) .none (.list []) (.list []) false
variable {la:fe}
theorem oR(d c b e:fe)(a:Bool):gS ["Reading"] "over" (Rg d c b e la a)=Y (.bool a):=by kernel_rfl
theorem qb(d c b e:fe)(a:Bool):gS ["Reading"] "body" (Rg d c b e la a)=Y b:=by kernel_rfl
theorem ou(d a b e:fe)(c:Bool):gS ["Reading"] "heads" (Rg d a b e la c)=Y a:=by kernel_rfl
theorem nJ(a d b e:fe)(c:Bool):gS ["Reading"] "fields" (Rg a d b e la c)=Y a:=by kernel_rfl
theorem rO(e d b a:fe)(c:Bool):gS ["Reading"] "blocks" (Rg e d b a la c)=Y a:=by kernel_rfl
theorem LB(d c b e:fe)(a:Bool):gS ["Reading"] "later" (Rg d c b e la a)=Y la:=by kernel_rfl
theorem FF{e c b g:fe}{a:Bool}{x y:Od}(h:f [Y (Rg e c b g la a),x,y]=Y d):
  ju 0 "Reading" "body" f [Y (Rg e c b g la a),x,y]=Y (.nx [Y (Rg e c d g la a),x,y]):=by
 rw[uR,h];kernel_rfl
theorem DE{h g:c5->Od}{c b f:fe}{H:List (Str×fe)}{a:Bool}{x y:Od}(l:h [Y (Rg c (gD H) b f la a),x,y]=Y (.str t))(k:g [Y (Rg c (gD H) b f la a),x,y]=Y d)(i:t∉H.map (·.1))(j:H.length<=900):
  uA (.fl 0 "Reading" "heads") h g [Y (Rg c (gD H) b f la a),x,y]=Y (.nx [Y (Rg c (gD (H++[(t,d)])) b f la a),x,y]):=by
 have e:oX (.fl 0 "Reading" "heads") [Y (Rg c (gD H) b f la a),x,y]=Y (gD H):=by kernel_rfl
 rw[zU,e,l,k];simp only[aD,FC i j,bW]
 kernel_rfl
theorem BG{h g:c5->Od}{c b f:fe}{a:Bool}{x y z:Od}(l:h [Y (Rg (gD F) c b f la a),x,y,z]=Y (.str t))(k:g [Y (Rg (gD F) c b f la a),x,y,z]=Y d)(i:t∉F.map (·.1))(j:F.length<=900):
  uA (.fl 0 "Reading" "fields") h g [Y (Rg (gD F) c b f la a),x,y,z]=Y (.nx [Y (Rg (gD (F++[(t,d)])) c b f la a),x,y,z]):=by
 have e:oX (.fl 0 "Reading" "fields") [Y (Rg (gD F) c b f la a),x,y,z]=Y (gD F):=by kernel_rfl
 rw[zU,e,l,k];simp only[aD,FC i j,bW]
 kernel_rfl
structure IK (F:fe) (t:Str) (ws:Lr):Prop where
 nm:∀w∈ws,mJ w=true
 hd:∃w0 r,ws=zZ w0::r/\(w0="func"\/w0="method"\/w0="main")
 len:ws.length<=12
 U3:gZ [wl ws]=Y (.str t)
 ish:∀hs b bl la ov,lY [Rg F hs b bl la ov,wl ws]=Y (.bool true)
 tok:fe.strOk t=true
theorem OA{F:fe}{a:Lr}(O:IK F t a){H:List (Str×fe)}(c:t∉H.map (·.1))(e:H.length<=900)(i:Int):
  fV [Rg F (gD H) .none (.list []) la false,.int i,wl a]=Y (.bool true,Rg F (gD (H++[(t,wl a)])) (.str t) (.list []) la false):=by
 obtain⟨b,r,g,hw⟩:=O.hd;have f:(b=="kind")=false:=by rcases hw with rfl|rfl|rfl<;>decide
 have m:gm (wl a) (.int 0)=Y (.str (zZ b)):=by rw[g];simp only[wl,ae,sj,wh]
 have l:=O.ish (gD H) .none (.list []) la false;have d:=rh (t:=t) (H:=H);rw[aA c] at d;have k:(fO [0] (hZ 1 gZ (zQ (bb 2)))) [Y (Rg F (gD H) .none (.list []) la false),Y (.int i),Y (wl a)]=Y (.str t):=by
  simp? only[O.U3]
 have j:(Kh (iR ["Reading"] "body" (bb 0))) [Y (Rg F (gD H) (.str t) (.list []) la false),Y (.int i),Y (wl a)]=Y (.str t):=by
  simp? only[qb,Si]
 have h:(fO [0] (bb 2)) [Y (Rg F (gD H) (.str t) (.list []) la false),Y (.int i),Y (wl a)]=Y (wl a):=by
  simp? only[rH]
 simp? only[fV,kn,oR,qb,ou,qa,BB,m,hW,f,l,O.U3,i9,d,FF k,DE j h c e,jD]
theorem VP{i j:Int}(h:¬ i<j):yg (.int i) (.int j)=Y (.bool false):=by simp[yg,dI,h]
theorem So:kA (gD [])=Y false:=by kernel_rfl
theorem Qk(j:Nat)(g:c5->Option Out)(ρ:c5):KN j g ρ=(g ρ).map (KL j):=rfl
theorem OB(b:Lr):nc ((uV b).map fe.str) (Y 1) Z=b.map .str:=by
 cases b with
 |nil=>rfl
 |cons a l=>rw[uV,ae,XY]
theorem U6{a b c d:Od}{x:fe}(h:f [Z,b,c,Z]=Y x):fu (fO [0,3] f) 2 [a,b,c,d]=Y (.nx [a,b,Y x,d]):=by rw[o4,lN,tZ,tZ,qu];show (f [Z,b,c,Z]).map _=_;rw[h];rfl
theorem LC{r:KR}{a:fe}(e:r.nm∉F.map (·.1))(f:kA a=Y false){b j:fe}{d:Bool}:
  (Eb (we (iR ["Reading"] "heads" (bb 0))) (Eb (fB (d2 yg (zN (bb 1)) (zI 2))) (fB (d2 mB (zX (bb 1) (zI 1)) (iR ["Reading"] "fields" (bb 0)))))) [Y (Rg (gD F) a b j la d),Y (wl (hH r)),Z,Z]=Y false:=by
 have i:gm (wl (hH r)) (.int 1)=Y (.str (r.nm)):=by simp only[hH,wl,ae,sj,MC]
 have h:gR [wl (hH r)]=Y (.int (((hH r).map fe.str).length:Int)):=k8 _;have g:yg (.int (((hH r).map fe.str).length:Int)) (.int 2)=Y (.bool false):=VP (by simp[hH];omega);have c:=rh (t:=r.nm) (H:=F);rw[aA e] at c
 simp? only[ou,f,h,g,i,nJ,i9,c]
def VQ(F:List (Str×fe))(b:Option Str)(a:Lr):Prop:=match b with
 |none=>a=[]
 |some j=>(j,wl a)∈F
theorem LD{i:Option Str}{c d:Lr}(q:(F.map (·.1)).Nodup)(k:VQ F i d){g b h w:fe}{f:Bool}:
  (iA (iT (we (bb 2)) (fB (d2 iS (zX (bb 2) (zI 0)) (zA "of"))))
   (c7 (iA (Eb (fB (d2 yg (zN (bb 2)) (zI 2))) (fB (d2 ki (zX (bb 2) (zI 1)) (iR ["Reading"] "fields" (bb 0)))))
   (mD (dC (.bool false)))
   gi)
   (c7 (jH (Kj (gF lV (zQ (zX (iR ["Reading"] "fields" (bb 0)) (zX (bb 2) (zI 1)))))) 3)
   (fu (fO [0,3] (gz (bb 2) (gM (zI 2)) iL)) 2)))
   gi) [Y (Rg (gD F) g b h la f),Y w,Y (wl (wm i++uV c)),Y (wl [])]=Y (.nx [Y (Rg (gD F) g b h la f),Y w,Y (wl (uV c)),Y (wl d)]):=by
 cases i with
 |none=>
  have e:d=[]:=k;subst e;refine iz ?_ ?_
  ·cases c with
   |nil=>simp? only[wm,uV,wl,BF]
   |cons a l=>
    have p:("fields"=="of")=false:=by decide
    simp? only[wm,uV,wl,DD,sj,wh,hW,p]
  ·rfl
 |some j=>
  have e:(j,wl d)∈F:=k;have o:("of"=="of")=true:=by decide
  have y:gm (wl (wm (Y j)++uV c)) (.int 0)=Y (.str (zZ "of")):=by simp only[wm,wl,a8,ae,sj,wh]
  have n:gm (wl (wm (Y j)++uV c)) (.int 1)=Y (.str (j)):=by simp only[wm,wl,a8,ae,sj,MC]
  have x:Ec (wl (wm (Y j)++uV c)) (Y 2) Z=Y (wl (uV c)):=by simp only[wm,wl,a8,bp,ae,Ed,BA]
  have v:kA (wl (wm (Y j)++uV c))=Y true:=rfl;have u:gR [wl (wm (Y j)++uV c)]=Y (.int (((wm (Y j)++uV c).map fe.str).length:Int)):=k8 _;have s:yg (.int (((wm (Y j)++uV c).map fe.str).length:Int)) (.int 2)=Y (.bool false):=VP (by simp[wm];omega);have m:=rh (t:=j) (H:=F);rw[aX (aq.mpr ⟨_,e,rfl⟩)] at m;have r:=Lv q e;refine jW ?_ (fw (ρ1:=[Y (Rg (gD F) g b h la f),Y w,Y (wl (wm (Y j)++uV c)),Y (wl [])]) (iz ?_ rfl) (fw (ρ1:=[Y (Rg (gD F) g b h la f),Y w,Y (wl (wm (Y j)++uV c)),Y (wl d)]) ?_ (U6 ?_)))
  ·simp? only[v,y,hW,o]
  ·simp? only[u,s,n,nJ,jP,m]
  ·simp? only[nJ,n,r,rL,BC]
  ·simp? only[x]
theorem OC{r:KR}{b:Lr}{c:fe}(j:(F.map (·.1)).Nodup)(e:r.nm∉F.map (·.1))(u:kA c=Y false)(n:VQ F r.el b)(k:(b++r.own).Nodup)(m:F.length<=900)(s:b.length+r.own.length<=900):
  nv [Rg (gD F) c .none (.list []) la false,wl (hH r)]=Y (.bool true,Rg (gD (F++[(r.nm,wl (b++r.own))])) c .none (.list []) la false):=by
 have z:(b.map fe.str).length+(r.own.map fe.str).length<=16777216:=by simp;omega
 have w:gm (wl (hH r)) (.int 1)=Y (.str (r.nm)):=by simp only[hH,wl,ae,sj,MC]
 have v:Ec (wl (hH r)) (Y 2) Z=Y (wl (wm r.el++uV r.own)):=by simp only[hH,wl,ae,Ed,BA]
 have i:=He k (by simpa using s);have g:pU [Y (Rg (gD F) c .none (.list []) la false),Y (wl (hH r)),Z,Z]=Y (.rt (.tuple [.bool true,Rg (gD (F++[(r.nm,wl (b++r.own))])) c .none (.list []) la false])):=by
  refine fw (iz (LC e u) rfl) (fw (U6 (x:=wl (wm r.el++uV r.own)) ?_) (fw (ρ1:=[Y (Rg (gD F) c .none (.list []) la false),Y (wl (hH r)),Y (wl (wm r.el++uV r.own)),Y (wl [])]) ?_ (fw (LD j n) (fw (ρ1:=[Y (Rg (gD F) c .none (.list []) la false),Y (wl (hH r)),Y (wl (uV r.own)),Y (wl b)]) (iz ?_ rfl) (fw (ρ1:=[Y (Rg (gD F) c .none (.list []) la false),Y (wl (hH r)),Y (wl (uV r.own)),Y (wl (b++r.own))]) ?_ ?_)))))
  ·simp? only[v]
  ·simp? only[rH];rfl
  ·have p:r.own=[]\/∃a l,r.own=a::l:=by cases r.own<;>simp
   rcases p with q | ⟨a,l,q⟩
   ·rw[q];simp? only[uV,wl,BF]
   ·have h:(!("fields"=="fields"))=false:=by decide
    have f:yg (.int (((l.map fe.str).length+1+1:Nat):Int)) (.int 2)=Y (.bool false):=VP (by omega);rw[q];simp? only[uV,wl,DD,sj,wh,mH,h,k8,f]
  ·simp? only[wl,OB,ai z,aK]
  ·rw[Qk,fw (BG (t:=r.nm) (d:=wl (b++r.own)) ?_ ?_ e m) (o:=Y (.rt (.tuple [.bool true,Rg (gD (F++[(r.nm,wl (b++r.own))])) c .none (.list []) la false]))) ?_]
   ·rfl
   ·simp? only[w]
   ·simp? only[rH]
   ·simp? only[i,jD]
 rw[nv,q8];show Bx (pU [Y (Rg (gD F) c .none (.list []) la false),Y (wl (hH r)),Z,Z])=_;rw[g,pZ]
theorem OD{r:KR}{a:Lr}{b:fe}(d:(F.map (·.1)).Nodup)(f:r.nm∉F.map (·.1))(k:kA b=Y false)(h:VQ F r.el a)(e:(a++r.own).Nodup)(g:F.length<=900)(j:a.length+r.own.length<=900)(i:Int):
  fV [Rg (gD F) b .none (.list []) la false,.int i,wl (hH r)]=Y (.bool true,Rg (gD (F++[(r.nm,wl (a++r.own))])) b .none (.list []) la false):=by
 have c:("kind"=="kind")=true:=by decide
 have m:gm (wl (hH r)) (.int 0)=Y (.str (zZ "kind")):=by simp only[hH,wl,ae,sj,wh]
 have l:=OC (la:=la) d f k h e g j
 simp? only[fV,kn,oR,qb,qa,BB,m,hW,c,l,jD]
theorem Ho(h:c5->Option (fe×c5))(ρ:c5):ET h ρ=(h ρ).map λr=>.nx r.2:=rfl
theorem LF{c a b e:fe}{g d:Bool}(h:f [Y (Rg c a b e la g)]=Y (.bool d)):
  ju 0 "Reading" "over" f [Y (Rg c a b e la g)]=Y (.nx [Y (Rg c a b e la d)]):=by
 rw[uR,h];kernel_rfl
theorem LG{e c b g:fe}{a:Bool}(h:f [Y (Rg e c b g la a)]=Y d):
  ju 0 "Reading" "body" f [Y (Rg e c b g la a)]=Y (.nx [Y (Rg e c d g la a)]):=by
 rw[uR,h];kernel_rfl
theorem LH(b:fe.strOk t=true)(F a:fe):
  jS [Rg F a (.str t) (.list []) la false]=Y (.none,Rg F a .none (.list []) la (t==zZ "main")):=by
 have d:(Kh (d2 iS (iR ["Reading"] "body" (bb 0)) (zA "main"))) [Y (Rg F a (.str t) (.list []) la false)]=Y (.bool (t==zZ "main")):=by
  simp? only[qb,IH b (dq _),jD]
 have c:(fO [0] (dC .none)) [Y (Rg F a (.str t) (.list []) la (t==zZ "main"))]=Y .none:=rfl
 simp? only[jS,mu,rO,BF,LF d,LG c]
theorem OE:iS (.list [.str "end"]) (.list [.str "end"])=Y (.bool true):=by kernel_rfl
theorem Sq(b:fe.strOk t=true)(F a:fe)(i:Int):
  fV [Rg F a (.str t) (.list []) la false,.int i,wl ["end"]]=Y (.bool true,Rg F a .none (.list []) la (t==zZ "main")):=by
 have c:gf [Rg F a (.str t) (.list []) la false,.int i,.list [.str "end"]]=Y (.bool true,Rg F a .none (.list []) la (t==zZ "main")):=by
  simp? only[gf,gP,OE,Ho,LH b,Hg,jD]
 simp? only[fV,kn,wl,oR,qb,qa,uc,c,jD]
theorem rP(T:c5->Option Bool)(C:c5->Od)(b:T=λ_=>Y true)(c:C=hZ 1 nH (zQ (bb 0))):∀(a:Lr),(∀w∈a,mJ w=true)->gX T C [] (a.map .str)=Y (a.map λ_=>.bool true)
 |[],_=>rfl
 |w::a,h=>by
  have d:=rP T C b c a λz f=>h z (by simp[f]);have e:C [Y (.str w)]=Y (.bool true):=by rw[c];simp? only[Oc (h w (by simp))]
  have g:T [Y (.str w)]=Y true:=by rw[b]
  rw[ae,gX,g]
  simp? only[e,d]
theorem xM{α:Type}:∀a:List α,oB (a.map λ_=>fe.bool true)=Y (a.map λ_=>true)
 |[]=>rfl
 |w::a=>by show (oB (a.map λ_=>fe.bool true)).map (true::·)=_;rw[xM a];rfl
theorem xN(a:List α):KA [.list (a.map λ_=>fe.bool true)]=Y (.bool true):=by show (oB (a.map λ_=>fe.bool true)).map _=_;rw[xM];simp
def Reads:Nat->fe->List Lr->fe->Prop
 |_,R,[],R'=>R=R'
 |n,R,ws::r,R'=>∃R1,(∀w∈ws,mJ w=true)/\fV [R,.int (n:Int),wl ws]=Y (.bool true,R1)/\Reads (n+1) R1 r R'
theorem Reads.app:∀{d bs:List Lr}{n:Nat}{R R1 e:fe},Reads n R d R1->Reads (n+d.length) R1 bs e->Reads n R (d++bs) e
 |[],_,_,_,_,_,h1,h2=>by cases h1;exact h2
 |_::d,_,n,_,_,_,⟨Q,a,b,c⟩,h2=>⟨Q,a,b,c.app (by rw[ay] at h2;rwa[show n+1+d.length=n+(d.length+1) by omega])⟩
theorem Sr:∀w∈[zZ "end"],mJ w=true:=by intro w hw;simp at hw;subst hw;decide +kernel
theorem OF:∀w∈[zZ "else"],mJ w=true:=by intro w hw;simp at hw;subst hw;decide +kernel
noncomputable def VR(c:Option (Bool×c5))(g h:c5->Option Out):Option Out:=match c with
 |some (true,ρ)=>g ρ
 |some (false,ρ)=>h ρ
 |none=>Z
theorem Ql(g h:c5->Option Out)(ρ:c5):VR (Y (false,ρ)) g h=h ρ:=rfl
theorem LI(c:c5->Option (Bool×c5))(g h:c5->Option Out)(ρ:c5):NG c g h ρ=VR (c ρ) g h:=by unfold NG VR;rcases c ρ with _ | ⟨_|_,ρ'⟩<;>rfl
theorem Qm(g:c5->Option Bool)(h:c5->Option (Bool×c5))(ρ:c5):Uv g h ρ=GZ (g ρ) (λρ=>Y (true,ρ)) h ρ:=by unfold Uv GZ;rcases g ρ with _|_|_<;>rfl
theorem IL{a:Lr}{R d b rw:fe}{c:Od}{i:Int}(h:∀w∈a,mJ w=true)(hw:a.length<=900)(e:fV [R,.int i,wl a]=Y (.bool true,d)):
  fE [Y b,Y R,Y rw,Y (.int i),Y (wl a),c]=Y (.nx [Y b,Y d,Y rw,Y (.int i),Y (wl a),c]):=by
 have j:=rP j8 j9 rfl rfl a h;have g:=xN a;have f:a.length<=16777216:=by omega
 simp? only[fE,LI,Ql,Qm,wl,ah,ai f,pJ,j,g,qa]
 rw[show (fe.list (List.map fe.str a))=wl a from rfl,e]
 simp? only[jD,Ql]
theorem uf{n:Int}(h:f ρ=Y (.int n))(a:0<=n/\n<10000):pQ f ρ=Y (.rt (.int n)):=by unfold pQ;rw[h];exact ai a
theorem LJ(g h:c5->Option Out)(ρ:c5):VR (Y (true,ρ)) g h=g ρ:=rfl
theorem DF{a:Lr}{R d b rw:fe}{c:Od}{i:Int}(h:∀w∈a,mJ w=true)(hw:a.length<=900)(e:fV [R,.int i,wl a]=Y (.bool false,d))(g:0<=i/\i<10000):
  fE [Y b,Y R,Y rw,Y (.int i),Y (wl a),c]=Y (.rt (.int i)):=by
 have k:=rP j8 j9 rfl rfl a h;have j:=xN a;have f:a.length<=16777216:=by omega
 have r:pQ (bb 3) [Y b,Y d,Y rw,Y (.int i),Y (wl a),c]=Y (.rt (.int i)):=uf rfl g
 simp? only[fE,LI,LJ,Qm,wl,ah,ai f,pJ,k,j,qa]
 rw[show (fe.list (List.map fe.str a))=wl a from rfl,e]
 simp? only[jD,LJ]
 exact r
theorem LK{R a rw:fe}{c:Od}{i:Int}(b:0<=i/\i<10000):fE [Y a,Y R,Y rw,Y (.int i),Y (wl [zZ ""]),c]=Y (.rt (.int i)):=by
 have r:pQ (bb 3) [Y a,Y R,Y rw,Y (.int i),Y (wl [zZ ""]),c]=Y (.rt (.int i)):=uf rfl b;have e:(Uv (tj (we (gF KA (zQ (iG (lQ (bb 4)) [] j8 j9))))) (NC (hT (vl [1] 1 3 fV (c4 (bb 3) (zQ (bb 4))))))) [Y a,Y R,Y rw,Y (.int i),Y (wl [zZ ""]),c]=Y (true,[Y a,Y R,Y rw,Y (.int i),Y (wl [zZ ""]),c]):=by kernel_rfl
 rw[fE,LI,e,LJ];exact r
theorem sP(i rw:fe)(c:Od):∀(d:List Lr) (n:Nat) (R g:fe) (a b:Od),Reads n R d g->(∀ws∈d,ws.length<=900) ->
  ∃k j,∀f,js (qt (.many [3,4])) fE ((((d.map wl).zipIdx n).map λx=>.tuple [.int x.2,x.1])++f) [Y i,Y R,Y rw,a,b,c]=js (qt (.many [3,4])) fE f [Y i,Y g,Y rw,k,j,c]
 |[],n,R,g,a,b,h,_=>by cases h;exact⟨a,b,λ_=>rfl⟩
 |ws::d,n,R,g,a,b,⟨R1,h1,h2,h3⟩,hl=>by obtain⟨k,j,e⟩:=sP i rw c d (n+1) R1 g (Y (.int n)) (Y (wl ws)) h3 λx l=>hl x (by simp[l]);refine⟨k,j,λf=>?_⟩;rw[ae,List.zipIdx_cons,ae,a8,js];show (fE [Y i,Y R,Y rw,Y (.int n),Y (wl ws),c]).bind _=_;rw[IL h1 (hl ws (by simp)) h2];exact e f
end
theorem Y0{i j:Int}(h:j<i):wF (.int i) (.int j)=Y (.bool true):=by simp[wF,dI,h]
theorem jw(b a:Lr)(h:b.length+a.length<=900):fC (wl b) (wl a)=Y (wl (b++a)):=by show (if _ then _ else Z)=_;rw[ai (by rw[ah,ah,sizeLine_eq];omega),<-aK]
theorem DG{ps ks:Lr}(e:∀w∈ps++ks,fe.strOk w=true)(c:zZ "self"∉ps++ks)(b:(ps++ks).Nodup)(d:ps.length+ks.length<=900){x:fe}:
  (fZ (sg (d2 ki (zA "self") (bb 1)) (hZ 1 lX (zQ (bb 1))))) [x,Y (wl (ps++ks))]=Y (.rt (.bool true)):=by
 have a:=oQ (dq "self") e;rw[aA c] at a;have f:=He b (by simpa using d)
 simp? only[jP,a,f]
theorem LM{b:Lr}(h:b≠[]):kA (wl b)=Y true:=by
 cases b with
 |nil=>exact absurd rfl h
 |cons a l=>rfl
theorem OG(f:Str){b a:Lr}(h:∀w∈b,fe.strOk w=true)(j:∀w∈a,fe.strOk w=true)(l:zZ "keeps"∉b)(r:zZ "self"∉b++a)(p:(b++a).Nodup)(i:b.length+a.length<=900):
  gu [wl (zZ "func"::f::(b++kw a))]=Y (.bool true):=by
 have o:("func"=="func")=true:=by decide
 have s:∀w∈b++kw a,fe.strOk w=true:=λw hw=>(aw.mp hw).elim (h w) (Lu j w);have t:∀w∈b++a,fe.strOk w=true:=λw hw=>(aw.mp hw).elim (h w) (j w);have c:=oQ (dq "keeps") s;have g:=Og f h j l i;have e:=Hc f h j l i;have k:=jw b a i;have d:=λx=>DG (x:=x) t r p i;by_cases q:a=[]
 ·have m:b++kw a=b:=by simp[kw,q]
  rw[m] at c g e ⊢;rw[aA l] at c;simp only[wl,ae] at g e k d
  simp? only[gu,j7,jN,gO,q7,d,wl,sj,wh,hW,o,Ed,BA,i9,c,g,e,k,d]
 ·have m:kw a=zZ "keeps"::a:=by simp[kw,q]
  rw[m] at c g e ⊢;rw[aX (by simp)] at c;have n:=LM q;simp only[wl,ae] at g e k d n
  simp? only[gu,j7,jN,gO,q7,d,wl,sj,wh,hW,o,Ed,BA,i9,c,g,e,k,d,n]
theorem OH(k m:Str){ps:Lr}(h:∀w∈ps,fe.strOk w=true)(g:zZ "self"∉ps)(f:ps.Nodup)(c:ps.length<=900):
  gu [wl (zZ "method"::k::m::ps)]=Y (.bool true):=by
 have i:("method"=="func")=false:=by decide
 have e:=Oe k m ps;have d:=Of k m ps;have b:=jw ps [] (by simpa using c);have a:=λx=>DG (x:=x) (ps:=ps) (ks:=[]) (by simpa using h) (by simpa using g) (by simpa using f) (by simpa using c);simp only[aF] at b a;simp only[wl,ae,a9] at e d b a
 simp? only[gu,j7,jN,gO,q7,a,wl,sj,wh,hW,i,Ed,BA,i9,e,d,b,a]
theorem OI(f:Str)(r:Lr)(c:fe.strOk f=true)(b:f≠zZ "main")(a:gu [wl (zZ "func"::f::r)]=Y (.bool true))(x:fe):
  lY [x,wl (zZ "func"::f::r)]=Y (.bool true):=by
 have g:("func"=="func")=true:=by decide
 have d:(f==zZ "main")=false:=by simpa using b
 have e:wF (.int ((((r.map fe.str).length+1+1:Nat)):Int)) (.int 1)=Y (.bool true):=Y0 (by omega);simp only[wl,ae] at a
 simp? only[lY,uL,wl,sj,wh,MC,hW,g,k8,e,Lo c (dq "main"),d,a]
theorem OJ(k m:Str)(r:Lr)(g:k∈F.map (·.1))(a:gu [wl (zZ "method"::k::m::r)]=Y (.bool true))(f b l e:fe)(d:Bool):
  lY [Rg (gD F) f b l e d,wl (zZ "method"::k::m::r)]=Y (.bool true):=by
 have j:("method"=="func")=false:=by decide
 have h:("method"=="method")=true:=by decide
 have i:wF (.int ((((r.map fe.str).length+1+1+1:Nat)):Int)) (.int 2)=Y (.bool true):=Y0 (by omega);have c:=rh (t:=k) (H:=F);rw[aX g] at c;simp only[wl,ae] at a
 simp? only[lY,uL,wl,sj,wh,MC,hW,j,h,k8,i,nJ,i9,c,a]
theorem OK{F:fe}{f:Str}{c a:Lr}(d:mJ f=true)(n:f≠zZ "main")(e:∀w∈c,mJ w=true)(g:∀w∈a,mJ w=true)(m:zZ "keeps"∉c)(l:zZ "self"∉c++a)(j:(c++a).Nodup)(s:c.length<=5)(r:a.length<=3):
  IK F f (zZ "func"::f::(c++kw a)):=by
 have h:=λw hw=>mG (e w hw);have i:=λw hw=>mG (g w hw);have o:c.length+a.length<=900:=by omega
 refine⟨?_,⟨"func",_,rfl,.inl rfl⟩,?_,G4 _ _,λk b t q p=>OI f _ (mG d) n (OG f h i m l j o) _,mG d⟩
 ·intro w hw;rcases ag.mp hw with rfl|hw
  ·decide +kernel
  rcases ag.mp hw with rfl|hw
  ·exact d
  rcases aw.mp hw with hw|hw
  ·exact e w hw
  ·unfold kw at hw;split at hw
   ·simp at hw
   ·rcases ag.mp hw with rfl|hw
    ·decide +kernel
    ·exact g w hw
 ·have:(kw a).length<=a.length+1:=by unfold kw;split<;>simp
  simp only[ay,aB];omega
theorem BH{k m:Str}(a:mJ k=true)(b:mJ m=true):fe.strOk (jQ k m)=true :=
 rN (mG a) (rN (dq _) (mG b))
theorem OL{k m:Str}{a:Lr}(n:k∈F.map (·.1))(c:mJ k=true)(d:mJ m=true)(e:∀w∈a,mJ w=true)(l:zZ "self"∉a)(g:a.Nodup)(q:a.length<=5):
  IK (gD F) (jQ k m) (zZ "method"::k::m::a):=by
 have f:=λw hw=>mG (e w hw);have i:=(ma.mp c).2.1;have h:=(ma.mp d).2.1;refine⟨?_,⟨"method",_,rfl,.inr (.inl rfl)⟩,?_,G5 _ _ _ i h,λj b r p o=>OJ k m a n (OH k m f l g (by omega)) _ _ _ _ _,BH c d⟩
 ·intro w hw;rcases ag.mp hw with rfl|hw
  ·decide +kernel
  rcases ag.mp hw with rfl|hw
  ·exact c
  rcases ag.mp hw with rfl|hw
  ·exact d
  ·exact e w hw
 ·simp only[ay];omega
theorem OM(F:fe):IK F (zZ "main") [zZ "main"] :=
 ⟨by intro w hw;simp at hw;subst hw;decide +kernel,⟨"main",[],rfl,.inr (.inr rfl)⟩,by decide,Ha,λd b e c a=>by kernel_rfl,dq _⟩
noncomputable def jq(w:String)(c x y k e m d:fe)(b a:Lp):fe:=.dict [(.none,.str "Row"),(.str "word",.str (zZ w)),(.str "condition",c),(.str "x",x),(.str "y",y),(.str "kind",k),(.str "field",e),(.str "method",m),(.str "function",d),(.str "handed",.list b),(.str "names",.list a)]
theorem ja(w:String)(c x y k e m d:fe)(b a:Lp):gS ["Row"] "word" (jq w c x y k e m d b a)=Y (.str (zZ w)):=by kernel_rfl
theorem pD(w:String)(c x y k e m d:fe)(b a:Lp):gS ["Row"] "kind" (jq w c x y k e m d b a)=Y k:=by kernel_rfl
theorem xO(w:String)(c x y k e m d:fe)(b a:Lp):gS ["Row"] "method" (jq w c x y k e m d b a)=Y m:=by kernel_rfl
theorem xP(w:String)(c x y k e m a:fe)(d b:Lp):gS ["Row"] "function" (jq w c x y k e m a d b)=Y a:=by kernel_rfl
theorem xQ(w:String)(c x y k e m d:fe)(a b:Lp):gS ["Row"] "handed" (jq w c x y k e m d a b)=Y (.list a):=by kernel_rfl
def LN:c5->Option Out:=(c7 (fu (fO [] (hZ 1 rG (zQ (bb 0)))) 1)
(c7 (iA (fB (d2 NP (bb 1) (dC .none)))
(fZ (dC (.bool false)))
gi)
(c7 (iA (iT (we (bb 1)) (fB (d2 iS (zX (bb 1) (zI (-1))) (zA "A"))))
(fZ (d2 WM (zN (bb 0)) (zN (bb 1))))
gi)
(fZ (d2 iS (zN (bb 0)) (d2 fC (zN (bb 1)) (zI 1)))))))
theorem FG{a:Lr}(g:GR a):qU [wl a]=mS (LN [Y (wl a),Z]):=by
 have e:=rP vq vr rfl rfl a g.2.1;have d:=xN a;have c:(a.map fe.str).length<=16777216:=by have:=g.2.2;rw[ah];omega
 have b:=LM g.1;show iU _ (c7 _ LN) _=_;rw[jN,gO];refine bK mS (fw (ρ1:=[Y (wl a),Z]) ?_ rfl);simp only[wl] at b
 simp? only[wl,b,ai c,pJ,e,d,qa]
local macro_rules
| `(zR 0) => `(⟨⟨_, rfl⟩, fun h => (FG h).trans (by kernel_rfl), by kernel_rfl, pD .., ja ..⟩)
structure hY (ws:Lr) (w0:String) (kd:Option Str) (row:fe):Prop where
 hd:∃r,ws=zZ w0::r
 Y1:GR ws->qU [wl ws]=Y (.bool true)
 Y2:sF [.dict [(.none,.str "Row")],wl ws]=Y (.none,row)
 kd:gS ["Row"] "kind" row=Y (kd.elim .none .str)
 wd:gS ["Row"] "word" row=Y (.str (zZ w0))
theorem LO(a b:Str):hY [zZ "new",a,b] "new" (Y b) (jq "new" .none (.str (a)) .none (.str (b)) .none .none .none [] [.str a]):=zR 0
theorem Ss(a:Str):hY [zZ "row",a] "row" Z (jq "row" .none (.str (a)) .none .none .none .none .none [] [.str a]):=zR 0
theorem xR(a b:Str):hY [zZ "func",a,b] "func" Z (jq "func" .none (.str (a)) .none .none .none .none (.str (b)) [] [.str a]):=zR 0
theorem DH(a b c:Str):hY [zZ "func",a,b,c] "func" Z (jq "func" .none (.str (a)) .none .none .none .none (.str (b)) [.str c] [.str a,.str c]):=zR 0
theorem DI(a b c d:Str):hY [zZ "func",a,b,c,d] "func" Z (jq "func" .none (.str (a)) .none .none .none .none (.str (b)) [.str c,.str d] [.str a,.str c,.str d]):=zR 0
theorem ON(a b:Str):hY [zZ "copy",a,b] "copy" Z (jq "copy" .none (.str (a)) (.str (b)) .none .none .none .none [] [.str a,.str b]):=zR 0
theorem OO(a b c:Str):hY [zZ "take",a,b,c] "take" Z (jq "take" .none (.str (a)) (.str (b)) .none (.str (c)) .none .none [] [.str a,.str b]):=zR 0
theorem Su(a b c:Str):hY [zZ "put",a,b,c] "put" Z (jq "put" .none (.str (c)) (.str (a)) .none (.str (b)) .none .none [] [.str a,.str c]):=zR 0
theorem OP(a b:Str):hY [zZ "push",a,b] "push" Z (jq "push" .none (.str (b)) (.str (a)) .none .none .none .none [] [.str a,.str b]):=zR 0
theorem OQ(a b:Str):hY [zZ "pull",a,b] "pull" Z (jq "pull" .none (.str (a)) (.str (b)) .none .none .none .none [] [.str a,.str b]):=zR 0
theorem Sv(a b:Str):hY [zZ "do",a,b] "do" Z (jq "do" .none (.str (a)) (.str (b)) .none .none .none .none [] [.str a,.str b]):=zR 0
theorem Sw(a b c:Str):hY [zZ "do",a,b,c] "do" Z (jq "do" .none (.str (a)) (.str (b)) .none .none .none .none [.str c] [.str a,.str b,.str c]):=zR 0
theorem Sx(a b c d:Str):hY [zZ "do",a,b,c,d] "do" Z (jq "do" .none (.str (a)) (.str (b)) .none .none .none .none [.str c,.str d] [.str a,.str b,.str c,.str d]):=zR 0
theorem OR(a b c:Str):hY [zZ "ask",a,b,c] "ask" Z (jq "ask" .none (.str (a)) (.str (b)) .none .none (.str (c)) .none [] [.str a,.str b]):=zR 0
theorem OS(a b c d:Str):hY [zZ "ask",a,b,c,d] "ask" Z (jq "ask" .none (.str (a)) (.str (b)) .none .none (.str (c)) .none [.str d] [.str a,.str b,.str d]):=zR 0
theorem OT(a b c d e:Str):hY [zZ "ask",a,b,c,d,e] "ask" Z (jq "ask" .none (.str (a)) (.str (b)) .none .none (.str (c)) .none [.str d,.str e] [.str a,.str b,.str d,.str e]):=zR 0
theorem qc(a b c d:Str):hY [zZ "straight",a,b,c,d] "straight" (Y c) (jq "straight" .none (.str (a)) (.str (b)) (.str (c)) .none (.str (d)) .none [] [.str a,.str b]):=zR 0
theorem BI(a b c d e:Str):hY [zZ "straight",a,b,c,d,e] "straight" (Y c) (jq "straight" .none (.str (a)) (.str (b)) (.str (c)) .none (.str (d)) .none [.str e] [.str a,.str b,.str e]):=zR 0
theorem BJ(a b c d e f:Str):hY [zZ "straight",a,b,c,d,e,f] "straight" (Y c) (jq "straight" .none (.str (a)) (.str (b)) (.str (c)) .none (.str (d)) .none [.str e,.str f] [.str a,.str b,.str e,.str f]):=zR 0
theorem OU(a:Str):hY [zZ "give",a] "give" Z (jq "give" .none (.str (a)) .none .none .none .none .none [] [.str a]):=zR 0
theorem OV(a:Str):hY [zZ "tell",a] "tell" Z (jq "tell" .none (.str (a)) .none .none .none .none .none [] [.str a]):=zR 0
theorem OW:hY [zZ "rest"] "rest" Z (jq "rest" .none .none .none .none .none .none .none [] []):=zR 0
theorem LP(a b:Str):hY [zZ "check",a,b] "check" Z (jq "check" .none .none (.str (a)) .none (.str (b)) .none .none [] [.str a]):=zR 0
theorem LQ(a b:Str):hY [zZ "fresh",a,b] "fresh" (Y b) (jq "fresh" .none (.str (a)) .none (.str (b)) .none .none .none [] [.str a]):=zR 0
theorem Sy(a b c:Str):hY [zZ "own",a,b,c] "own" Z (jq "own" .none (.str (a)) (.str (b)) .none (.str (c)) .none .none [] [.str a,.str b]):=zR 0
theorem LR(a b c:Str):hY [zZ "place",a,b,c] "place" Z (jq "place" .none (.str (c)) (.str (a)) .none (.str (b)) .none .none [] [.str a,.str c]):=zR 0
theorem BL:hY [zZ "if",zZ "choose"] "if" Z (jq "if" (.str (zZ "choose")) .none .none .none .none .none .none [] []):=zR 0
theorem FH(a:Str):hY [zZ "if",zZ "some",a] "if" Z (jq "if" (.str (zZ "some")) (.str (a)) .none .none .none .none .none [] [.str a]):=zR 0
theorem FI(a b:Str):hY [zZ "if",zZ "same",a,b] "if" Z (jq "if" (.str (zZ "same")) (.str (a)) (.str (b)) .none .none .none .none [] [.str a,.str b]):=zR 0
theorem v5:hY [zZ "while",zZ "choose"] "while" Z (jq "while" (.str (zZ "choose")) .none .none .none .none .none .none [] []):=zR 0
theorem yP(a:Str):hY [zZ "while",zZ "some",a] "while" Z (jq "while" (.str (zZ "some")) (.str (a)) .none .none .none .none .none [] [.str a]):=zR 0
theorem yQ(a b:Str):hY [zZ "while",zZ "same",a,b] "while" Z (jq "while" (.str (zZ "same")) (.str (a)) (.str (b)) .none .none .none .none [] [.str a,.str b]):=zR 0
theorem BM{i g b d:fe}{a:Lr}{c:Bool}{w:Str}{x y z:Od}(h:f [Y (Rg i g b (wl a) d c),x,y,z]=Y (.str w))(j:a.length<=900):
  gd (.fl 0 "Reading" "blocks") f [Y (Rg i g b (wl a) d c),x,y,z]=Y (.nx [Y (Rg i g b (wl (a++[w])) d c),x,y,z]):=by
 have e:oX (.fl 0 "Reading" "blocks") [Y (Rg i g b (wl a) d c),x,y,z]=Y (.list (a.map .str)):=by kernel_rfl
 have z:(a.map fe.str).length<sizeLine:=by rw[sizeLine_eq,ah];omega
 rw[GX,e,h];simp only[aD,ai z,o5,ae,a9]
 kernel_rfl
theorem DJ{g c b i:fe}{L:Lp}{a:Bool}{x y z:Od}(h:f [Y (Rg g c b i (.list L) a),x,y,z]=Y d)(j:L.length<=900):
  gd (.fl 0 "Reading" "later") f [Y (Rg g c b i (.list L) a),x,y,z]=Y (.nx [Y (Rg g c b i (.list (L++[d])) a),x,y,z]):=by
 have e:oX (.fl 0 "Reading" "later") [Y (Rg g c b i (.list L) a),x,y,z]=Y (.list L):=by kernel_rfl
 have z:L.length<sizeLine:=by rw[sizeLine_eq];omega
 rw[GX,e,h];simp only[aD,ai z]
 kernel_rfl
theorem U7(w0:String):kR (.str (zZ w0)) (.tuple [.str (zZ "func"),.str (zZ "straight")])=Y (w0=="func"||w0=="straight"):=by
 show (if _ then _ else Z)=_;rw[ai ⟨i8 (dq _),by simp[i8 (dq _)],by simp[fe.depth]⟩];simp only[bM,List.any_nil,cT,Bz,ky]
 congr 1
 rw[cK,cK (b:="straight")]
theorem le8(h:n<=8):tJ (.int (n:Int)) (.int 8)=Y (.bool true):=by
 have:(n:Int)<=8:=by omega
 simp[tJ,VB,dI,this]
section
variable {hs:fe}{bs:Lr}{L:Lp}
theorem OX{a w:fe}{i:Int}{b:Option Str}(h:gS ["Row"] "kind" a=Y (b.elim .none .str))(c:∀k,b=Y k->k∈F.map (·.1)){R:fe}(d:gS ["Reading"] "fields" R=Y (gD F)):
  (iT (fB (d2 oD (iR ["Row"] "kind" (bb 3)) (dC .none))) (fB (d2 ki (iR ["Row"] "kind" (bb 3)) (iR ["Reading"] "fields" (bb 0))))) [Y R,Y (.int i),Y w,Y a]=Y false:=by
 cases b with
 |none=>simp only[Option.elim] at h;simp? only[h,BB]
 |some k=>
  simp only[Option.elim] at h;have e:=rh (t:=k) (H:=F);rw[aX (c k rfl)] at e
  simp? only[h,uc,d,jP,e]
theorem uW{b:Lr}{w0:String}{n:Option Str}{a:fe}(O:hY b w0 n a)(g:GR b)(B:(w0=="end")=false)(A:(w0=="else")=false)(x:∀k,n=Y k->k∈F.map (·.1)){c d:Bool}(w:(w0=="if"||w0=="while")=c)(v:(w0=="func"||w0=="straight")=d)(o:(if c then bs++[zZ w0] else bs).length<=8)(y:L.length<=900)(i:Int):
  gf [Rg (gD F) hs (.str t) (wl bs) (.list L) false,.int i,wl b]=Y (.bool true,Rg (gD F) hs (.str t) (wl (if c then bs++[zZ w0] else bs)) (.list (if d then L++[.tuple [.int i,a]] else L)) false):=by
 obtain⟨r,p⟩:=O.hd;have q:=sN g.ok (Sn "end");rw[aA (by intro z;rw[p] at z;injection z with z _;exact oq B z)] at q;have m:=sN g.ok (Sn "else");rw[aA (by intro z;rw[p] at z;injection z with z _;exact oq A z)] at m;have s:iS (wl b) (.list [.str (zZ "end")])=Y (.bool false):=q;have e:iS (wl b) (.list [.str (zZ "else")])=Y (.bool false):=m;have j:=xJ w0;have h:=U7 w0;rw[w] at j;rw[v] at h;have l:bs.length<=900:=by cases c<;>simp at o<;>omega
 have f:=O.Y2;have C:gP [Y (Rg (gD F) hs (.str t) (wl bs) (.list L) false),Y (.int i),Y (wl b),Z]=Y (.rt (.tuple [.bool true,Rg (gD F) hs (.str t) (wl (if c then bs++[zZ w0] else bs)) (.list (if d then L++[.tuple [.int i,a]] else L)) false])):=by
  refine fw (iz (by simp? only[s]) rfl) (fw (iz (by simp? only[e]) rfl) (fw (iz (by simp? only[O.Y1 g,qa]) rfl) (fw (ρ1:=[Y (Rg (gD F) hs (.str t) (wl bs) (.list L) false),Y (.int i),Y (wl b),Y a]) ?_ (fw (iz (OX O.kd x (nJ ..)) rfl) (fw (ρ1:=[Y (Rg (gD F) hs (.str t) (wl (if c then bs++[zZ w0] else bs)) (.list L) false),Y (.int i),Y (wl b),Y a]) ?_ (fw (ρ1:=[Y (Rg (gD F) hs (.str t) (wl (if c then bs++[zZ w0] else bs)) (.list (if d then L++[.tuple [.int i,a]] else L)) false),Y (.int i),Y (wl b),Y a]) ?_ ?_))))))
  ·simp? only[f]
  ·cases c with
   |false=>exact iz (by simp? only[O.wd,i9,j]) rfl
   |true=>exact jW (by simp? only[O.wd,i9,j]) (BM (by simp? only[O.wd]) l)
  ·cases d with
   |false=>exact iz (by simp? only[O.wd,i9,h]) rfl
   |true=>exact jW (by simp? only[O.wd,i9,h]) (DJ (by simp? only[rH]) y)
  ·have u:gR [wl (if c then bs++[zZ w0] else bs)]=Y (.int ((if c then bs++[zZ w0] else bs).length:Int)):=by rw[k8,ah]
   simp only[Lh,Qf,pY,sM,fz,Qe,tX,jV,rH,bq,b0,aD,rO,u,le8 o,jD,cQ,bW]
 rw[gf,q8];show Bx (gP [Y (Rg (gD F) hs (.str t) (wl bs) (.list L) false),Y (.int i),Y (wl b),Z])=_;rw[C,pZ]
theorem pE{R b:fe}{e c:fe}{a:Lr}{i:Int}(d:R=Rg (gD F) hs (.str t) e c false)(h:gf [R,.int i,wl a]=Y (.bool true,b)):fV [R,.int i,wl a]=Y (.bool true,b):=by
 subst d
 simp? only[fV,kn,oR,qb,qa,uc,h,jD]
theorem ko{A B:c5->Option Out}{ρ0:c5}(a:A ρ0=Y (.rt d)):c7 A B ρ0=Y (.rt d):=by rw[q7,a,Lj]
theorem DK(a:Lr)(x:Str):kA (wl (a++[x]))=Y true:=by cases a<;>rfl
theorem Sz(x:Str)(i:Int):gf [Rg (gD F) hs (.str t) (wl (bs++[x])) (.list L) false,.int i,wl [zZ "end"]]=Y (.bool true,Rg (gD F) hs (.str t) (wl bs) (.list L) false):=by
 have c:jS [Rg (gD F) hs (.str t) (wl (bs++[x])) (.list L) false]=Y (.none,Rg (gD F) hs (.str t) (wl bs) (.list L) false):=by
  have b:mu [Y (Rg (gD F) hs (.str t) (wl (bs++[x])) (.list L) false)]=Y (.rt (.tuple [.none,Rg (gD F) hs (.str t) (wl bs) (.list L) false])):=by
   have p:H0 (.fl 0 "Reading" "blocks") [Y (Rg (gD F) hs (.str t) (wl (bs++[x])) (.list L) false)]=Y (.nx [Y (Rg (gD F) hs (.str t) (wl bs) (.list L) false)]):=by
    have e:oX (.fl 0 "Reading" "blocks") [Y (Rg (gD F) hs (.str t) (wl (bs++[x])) (.list L) false)]=Y (wl (bs++[x])):=by kernel_rfl
    unfold H0;rw[e,o5];have a:(bs.map fe.str++[fe.str x]).isEmpty=false:=by simp
    simp only[aD,ae,a9,List.dropLast_concat,a,bZ,dJ]
    kernel_rfl
   refine ko (jW ?_ (fw p rfl))
   simp? only[rO,DK]
  rw[jS,q8];show Bx (mu [Y (Rg (gD F) hs (.str t) (wl (bs++[x])) (.list L) false)])=_;rw[b,pZ]
 have q:iS (wl [zZ "end"]) (.list [.str (zZ "end")])=Y (.bool true):=by kernel_rfl
 simp? only[gf,gP,q,Ho,c,Hg,jD]
theorem SA(i:Int):gf [Rg (gD F) hs (.str t) (wl (bs++[zZ "if"])) (.list L) false,.int i,wl [zZ "else"]]=Y (.bool true,Rg (gD F) hs (.str t) (wl (bs++[zZ "else"])) (.list L) false):=by
 have c:kO [Rg (gD F) hs (.str t) (wl (bs++[zZ "if"])) (.list L) false]=Y (.bool true,Rg (gD F) hs (.str t) (wl (bs++[zZ "else"])) (.list L) false):=by
  have d:(!("if"=="if"))=false:=by decide
  have p:uA (.fl 0 "Reading" "blocks") (fO [0] (zI (-1))) (fO [0] (zA "else")) [Y (Rg (gD F) hs (.str t) (wl (bs++[zZ "if"])) (.list L) false)]=Y (.nx [Y (Rg (gD F) hs (.str t) (wl (bs++[zZ "else"])) (.list L) false)]):=by
   have e:oX (.fl 0 "Reading" "blocks") [Y (Rg (gD F) hs (.str t) (wl (bs++[zZ "if"])) (.list L) false)]=Y (wl (bs++[zZ "if"])):=by kernel_rfl
   rw[zU,e]
   simp? only[o5,Dy]
   kernel_rfl
  have b:mQ [Y (Rg (gD F) hs (.str t) (wl (bs++[zZ "if"])) (.list L) false)]=Y (.rt (.tuple [.bool true,Rg (gD F) hs (.str t) (wl (bs++[zZ "else"])) (.list L) false])):=by
   refine fw (iz ?_ rfl) (fw p rfl)
   simp? only[rO,DK,Hl,mH,d]
  rw[kO,q8];show Bx (mQ [Y (Rg (gD F) hs (.str t) (wl (bs++[zZ "if"])) (.list L) false)])=_;rw[b,pZ]
 have q:iS (wl [zZ "else"]) (.list [.str (zZ "end")])=Y (.bool false):=by kernel_rfl
 have a:iS (wl [zZ "else"]) (.list [.str (zZ "else")])=Y (.bool true):=by kernel_rfl
 simp? only[gf,gP,q,a,c,jD]
end
local macro_rules
| `(zt 0) => `(ko (jW (by kernel_rfl) (by kernel_rfl)))
inductive Rk (K:Lr) (M:List (Str×Str)) (Fu:List (Str×Nat)):String->Lr->Prop
 |new {x k:Str}:k∈K->Rk K M Fu "new" [x,k]
 |fresh {x k:Str}:k∈K->Rk K M Fu "fresh" [x,k]
 |row {x:Str}:Rk K M Fu "row" [x]
 |give {x:Str}:Rk K M Fu "give" [x]
 |tell {x:Str}:Rk K M Fu "tell" [x]
 |take {x y z:Str}:Rk K M Fu "take" [x,y,z]
 |own {x y z:Str}:Rk K M Fu "own" [x,y,z]
 |put {x y z:Str}:Rk K M Fu "put" [x,y,z]
 |place {x y z:Str}:Rk K M Fu "place" [x,y,z]
 |check {x y:Str}:Rk K M Fu "check" [x,y]
 |push {x y:Str}:Rk K M Fu "push" [x,y]
 |pull {x y:Str}:Rk K M Fu "pull" [x,y]
 |copy {x y:Str}:Rk K M Fu "copy" [x,y]
 |rest:Rk K M Fu "rest" []
 |ask {x y m:Str}{hs:Lr}:hs.length<=2->Rk K M Fu "ask" (x::y::m::hs)
 |Y3 {x y:Str}{hs:Lr}:hs.length<=2->Rk K M Fu "do" (x::y::hs)
 |DL {x y k m:Str}{hs:Lr}:hs.length<=2->k∈K->(k,m)∈M->Rk K M Fu "straight" (x::y::k::m::hs)
 |func {x f:Str}{hs:Lr}:hs.length<=2->(f,hs.length)∈Fu->Rk K M Fu "func" (x::f::hs)
inductive Ck:Lr->Prop
 |choose:Ck [zZ "choose"]
 |some {x:Str}:Ck [zZ "some",x]
 |same {x y:Str}:Ck [zZ "same",x,y]
inductive Bk (K:Lr) (M:List (Str×Str)) (Fu:List (Str×Nat)):Lr->List Lr->Lr->Prop
 |nil (bs:Lr):Bk K M Fu bs [] bs
 |row {bs sT:Lr}{w:String}{r:Lr}{rest:List Lr}:Rk K M Fu w r->Bk K M Fu bs rest sT->Bk K M Fu bs ((zZ w::r)::rest) sT
 |Tc {bs sT:Lr}{w:String}{r:Lr}{rest:List Lr}:w="if"\/w="while"->Ck r->bs.length<8->Bk K M Fu (bs++[zZ w]) rest sT->Bk K M Fu bs ((zZ w::r)::rest) sT
 |ME {bs sT:Lr}{rest:List Lr}:Bk K M Fu (bs++[zZ "else"]) rest sT->Bk K M Fu (bs++[zZ "if"]) ([zZ "else"]::rest) sT
 |fin {bs sT:Lr}{x:Str}{rest:List Lr}:Bk K M Fu bs rest sT->Bk K M Fu (bs++[x]) ([zZ "end"]::rest) sT
theorem Bk.app{K:Lr}{M:List (Str×Str)}{f:List (Str×Nat)}{a b c:Lr}{g bs:List Lr}(h:Bk K M f a g b)(e:Bk K M f b bs c):Bk K M f a (g++bs) c:=by
 induction h with
 |nil bs=>exact e
 |row k _ d=>exact .row k (d e)
 |Tc w k l _ d=>exact .Tc w k l (d e)
 |ME _ d=>exact .ME (d e)
 |fin _ d=>exact .fin (d e)
def Lt(M:List (Str×Str))(Fu:List (Str×Nat))(e:fe):Prop:=∃i a,e=.tuple [.int i,a] /\
  ((∃k m,(k,m)∈M/\gS ["Row"] "word" a=Y (.str (zZ "straight"))/\gS ["Row"] "kind" a=Y (.str k)/\gS ["Row"] "method" a=Y (.str m)) \/
   (∃f n b,(f,n)∈Fu/\gS ["Row"] "word" a=Y (.str (zZ "func"))/\gS ["Row"] "function" a=Y (.str f)/\gS ["Row"] "handed" a=Y (.list b)/\b.length=n))
section
variable {K:Lr}{M:List (Str×Str)}{Fu:List (Str×Nat)}
structure Rr (K:Lr) (M:List (Str×Str)) (Fu:List (Str×Nat)) (ws:Lr) (w:String):Prop where
 ok:∃kd row,hY ws w kd row/\(∀k,kd=Y k->k∈K)/\∀i:Int,(w=="func"||w=="straight")=true->Lt M Fu (.tuple [.int i,row])
 e1:(w=="end")=false
 e2:(w=="else")=false
theorem Rk.ok{w:String}{r:Lr}(h:Rk K M Fu w r):Rr K M Fu (zZ w::r) w/\(w=="if"||w=="while")=false:=by
 cases h with
 |new n=>exact⟨⟨⟨_,_,LO _ _,λk e=>by injection e with e;subst e;exact n,λi z=>absurd z (by decide)⟩,by decide,by decide⟩,by decide⟩
 |fresh n=>exact⟨⟨⟨_,_,LQ _ _,λk e=>by injection e with e;subst e;exact n,λi z=>absurd z (by decide)⟩,by decide,by decide⟩,by decide⟩
 |row=>exact⟨⟨⟨_,_,Ss _,by simp,λi z=>absurd z (by decide)⟩,by decide,by decide⟩,by decide⟩
 |give=>exact⟨⟨⟨_,_,OU _,by simp,λi z=>absurd z (by decide)⟩,by decide,by decide⟩,by decide⟩
 |tell=>exact⟨⟨⟨_,_,OV _,by simp,λi z=>absurd z (by decide)⟩,by decide,by decide⟩,by decide⟩
 |take=>exact⟨⟨⟨_,_,OO _ _ _,by simp,λi z=>absurd z (by decide)⟩,by decide,by decide⟩,by decide⟩
 |own=>exact⟨⟨⟨_,_,Sy _ _ _,by simp,λi z=>absurd z (by decide)⟩,by decide,by decide⟩,by decide⟩
 |put=>exact⟨⟨⟨_,_,Su _ _ _,by simp,λi z=>absurd z (by decide)⟩,by decide,by decide⟩,by decide⟩
 |place=>exact⟨⟨⟨_,_,LR _ _ _,by simp,λi z=>absurd z (by decide)⟩,by decide,by decide⟩,by decide⟩
 |check=>exact⟨⟨⟨_,_,LP _ _,by simp,λi z=>absurd z (by decide)⟩,by decide,by decide⟩,by decide⟩
 |push=>exact⟨⟨⟨_,_,OP _ _,by simp,λi z=>absurd z (by decide)⟩,by decide,by decide⟩,by decide⟩
 |pull=>exact⟨⟨⟨_,_,OQ _ _,by simp,λi z=>absurd z (by decide)⟩,by decide,by decide⟩,by decide⟩
 |copy=>exact⟨⟨⟨_,_,ON _ _,by simp,λi z=>absurd z (by decide)⟩,by decide,by decide⟩,by decide⟩
 |rest=>exact⟨⟨⟨_,_,OW ,by simp,λi z=>absurd z (by decide)⟩,by decide,by decide⟩,by decide⟩
 |@ask x y m d j=>
  rcases d with _ | ⟨a,_ | ⟨b,_ | ⟨c,l⟩⟩⟩
  ·exact⟨⟨⟨_,_,OR _ _ _,by simp,λi z=>absurd z (by decide)⟩,by decide,by decide⟩,by decide⟩
  ·exact⟨⟨⟨_,_,OS _ _ _ _,by simp,λi z=>absurd z (by decide)⟩,by decide,by decide⟩,by decide⟩
  ·exact⟨⟨⟨_,_,OT _ _ _ _ _,by simp,λi z=>absurd z (by decide)⟩,by decide,by decide⟩,by decide⟩
  ·simp at j
 |@Y3 x y d j=>
  rcases d with _ | ⟨a,_ | ⟨b,_ | ⟨c,l⟩⟩⟩
  ·exact⟨⟨⟨_,_,Sv _ _,by simp,λi z=>absurd z (by decide)⟩,by decide,by decide⟩,by decide⟩
  ·exact⟨⟨⟨_,_,Sw _ _ _,by simp,λi z=>absurd z (by decide)⟩,by decide,by decide⟩,by decide⟩
  ·exact⟨⟨⟨_,_,Sx _ _ _ _,by simp,λi z=>absurd z (by decide)⟩,by decide,by decide⟩,by decide⟩
  ·simp at j
 |@DL x y k m d j n g=>
  rcases d with _ | ⟨a,_ | ⟨b,_ | ⟨c,l⟩⟩⟩
  ·exact⟨⟨⟨_,_,qc _ _ _ _,λk e=>by injection e with e;subst e;exact n,λi _=>⟨i,_,rfl,.inl ⟨k,m,g,ja ..,pD ..,xO ..⟩⟩⟩,by decide,by decide⟩,by decide⟩
  ·exact⟨⟨⟨_,_,BI _ _ _ _ _,λk e=>by injection e with e;subst e;exact n,λi _=>⟨i,_,rfl,.inl ⟨k,m,g,ja ..,pD ..,xO ..⟩⟩⟩,by decide,by decide⟩,by decide⟩
  ·exact⟨⟨⟨_,_,BJ _ _ _ _ _ _,λk e=>by injection e with e;subst e;exact n,λi _=>⟨i,_,rfl,.inl ⟨k,m,g,ja ..,pD ..,xO ..⟩⟩⟩,by decide,by decide⟩,by decide⟩
  ·simp at j
 |@func x f d j g=>
  rcases d with _ | ⟨a,_ | ⟨b,_ | ⟨c,l⟩⟩⟩
  ·exact⟨⟨⟨_,_,xR _ _,by simp,λi _=>⟨i,_,rfl,.inr ⟨f,_,_,g,ja ..,xP ..,xQ ..,rfl⟩⟩⟩,by decide,by decide⟩,by decide⟩
  ·exact⟨⟨⟨_,_,DH _ _ _,by simp,λi _=>⟨i,_,rfl,.inr ⟨f,_,_,g,ja ..,xP ..,xQ ..,rfl⟩⟩⟩,by decide,by decide⟩,by decide⟩
  ·exact⟨⟨⟨_,_,DI _ _ _ _,by simp,λi _=>⟨i,_,rfl,.inr ⟨f,_,_,g,ja ..,xP ..,xQ ..,rfl⟩⟩⟩,by decide,by decide⟩,by decide⟩
  ·simp at j
theorem Ck.ok{w:String}(hw:w="if"\/w="while"){r:Lr}(h:Ck r):Rr K M Fu (zZ w::r) w/\(w=="if"||w=="while")=true/\(w=="func"||w=="straight")=false:=by
 rcases hw with rfl|rfl
 ·refine⟨⟨?_,by decide,by decide⟩,by decide,by decide⟩;cases h with
  |choose=>exact⟨_,_,BL,by simp,λi z=>absurd z (by decide)⟩
  |some=>exact⟨_,_,FH _,by simp,λi z=>absurd z (by decide)⟩
  |same=>exact⟨_,_,FI _ _,by simp,λi z=>absurd z (by decide)⟩
 ·refine⟨⟨?_,by decide,by decide⟩,by decide,by decide⟩;cases h with
  |choose=>exact⟨_,_,v5,by simp,λi z=>absurd z (by decide)⟩
  |some=>exact⟨_,_,yP _,by simp,λi z=>absurd z (by decide)⟩
  |same=>exact⟨_,_,yQ _ _,by simp,λi z=>absurd z (by decide)⟩
end
section
variable {K:Lr}{M:List (Str×Str)}{Fu:List (Str×Nat)}
structure TS where
 F:List (Str×fe)
 H:List (Str×fe)
 cur:Option (Str×Lr)
 ov:Bool
def TS.rg(σ:TS)(L:Lp):fe:=Rg (gD σ.F) (gD σ.H) (match σ.cur with|none=>.none|some p=>.str p.1) (match σ.cur with|none=>wl []|some p=>wl p.2) (.list L) σ.ov
def TS.dep(σ:TS):Nat:=match σ.cur with|none=>0|some p=>p.2.length+1
noncomputable def iW(a:Lr)(d:Nat):Nat:=if d=0/\a.head?≠Y (zZ "kind") then 1 else if a=[zZ "end"] then d - 1 else if (a.head?=Y (zZ "if")\/a.head?=Y (zZ "while"))/\0<d then d+1 else d
structure XZ (F₀:List (Str×fe)) (Ok:fe->Prop) (σ:TS) (ws:Lr) (σ':TS):Prop where
 iv:0<σ'.dep->σ'.F=F₀/\σ'.ov=false/\σ'.dep<=9
 gr:GR ws
 dp:iW ws σ.dep=σ'.dep
 rd:∀(n:Nat) (L:Lp),L.length<=900->∃l,(∀e∈l,Ok e)/\l.length<=1/\fV [σ.rg L,.int (n:Int),wl ws]=Y (.bool true,σ'.rg (L++l))
inductive Pt (F₀:List (Str×fe)) (Ok:fe->Prop):TS->List Lr->TS->Prop
 |nil (σ:TS):Pt F₀ Ok σ [] σ
 |cons {σ σ1 σ2:TS}{ws:Lr}{rest:List Lr}:XZ F₀ Ok σ ws σ1->Pt F₀ Ok σ1 rest σ2->Pt F₀ Ok σ (ws::rest) σ2
section
variable {F₀:List (Str×fe)}{Ok Ok':fe->Prop}{σ σ1 σ2:TS}
theorem Pt.app{b bs:List Lr}(h:Pt F₀ Ok σ b σ1)(a:Pt F₀ Ok σ1 bs σ2):Pt F₀ Ok σ (b++bs) σ2:=by
 induction h with
 |nil=>exact a
 |cons s _ c=>exact .cons s (c a)
theorem Pt.split:∀{d c:List Lr}{σ:TS},Pt F₀ Ok σ (d++c) σ2->∃σ1,Pt F₀ Ok σ d σ1/\Pt F₀ Ok σ1 c σ2
 |[],_,σ,h=>⟨σ,.nil σ,h⟩
 |_::d,c,_,.cons s h=>by obtain⟨σ1,a,b⟩:=Pt.split h;exact⟨σ1,.cons s a,b⟩
theorem Pt.reads{a:List Lr}(h:Pt F₀ Ok σ a σ1):∀(n:Nat) (L:Lp),L.length+a.length<=900->∃l,(∀e∈l,Ok e)/\l.length<=a.length/\Reads n (σ.rg L) a (σ1.rg (L++l)):=by
 induction h with
 |nil σ=>intro n L _;exact⟨[],by simp,by simp,by rw[aF];rfl⟩
 |cons s _ c=>intro n L f;simp only[ay] at f;obtain⟨l,k,o,j⟩:=s.rd n L (by omega);obtain⟨b,i,m,g⟩:=c (n+1) (L++l) (by rw[aB];omega);refine⟨l++b,λe d=>(aw.mp d).elim (k e) (i e),by simp only[aB,ay];omega,_,s.gr.2.1,j,?_⟩;rw[<-aQ];exact g
theorem Pt.gr{rows:List Lr}(h:Pt F₀ Ok σ rows σ1):∀a∈rows,GR a:=by
 induction h with
 |nil=>simp
 |cons s _ b=>
  intro a hw;rcases ag.mp hw with rfl|hw
  ·exact s.gr
  ·exact b a hw
theorem Pt.dep{a:List Lr}(h:Pt F₀ Ok σ a σ1):σ1.dep=a.foldl (λd ws=>iW ws d) σ.dep:=by
 induction h with
 |nil=>rfl
 |cons s _ b=>rw[b,List.foldl_cons,s.dp]
end
theorem OY{a b:String}:zZ a=zZ b↔(a==b)=true:=by
 constructor
 ·intro h;cases q:a==b with
  |true=>rfl
  |false=>exact absurd h (oq q)
 ·intro h;rw[bY.mp h]
theorem uX{w:String}{r:Lr}(a:(w=="end")=false)(d:Nat):iW (zZ w::r) (d+1)=if (w=="if"||w=="while")=true then d+2 else d+1:=by unfold iW;rw[ao (by omega),ao (by intro z;injection z with z _;exact oq a z)];simp only[List.head?_cons,Option.some.injEq,OY,Nat.zero_lt_succ,and_true,eV]
theorem z7(d:Nat):iW [zZ "end"] (d+1)=d:=by unfold iW;rw[ao (by omega),ai rfl];rfl
theorem DM{c:Lr}{w:String}(O:Rr K M Fu c w)(q:∀k∈K,k∈F.map (·.1))(g:GR c){b:Bool}(h:(w=="if"||w=="while")=b){H:List (Str×fe)}{a:Lr}(m:(if b then a++[zZ w] else a).length<=8):
  XZ F (Lt M Fu) ⟨F,H,Y (t,a),false⟩ c ⟨F,H,Y (t,if b then a++[zZ w] else a),false⟩:=by
 obtain⟨u,d,o,j,i⟩:=O.ok;obtain⟨r,s⟩:=o.hd;refine⟨λ_=>⟨rfl,rfl,by show (if b then a++[zZ w] else a).length+1<=9;omega⟩,g,?_,λn L p=>?_⟩
 ·rw[s];show iW _ (a.length+1)=_;rw[uX O.e1,h];cases b<;>simp[TS.dep]
 ·cases f:(w=="func"||w=="straight") with
  |false=>exact⟨[],by simp,by simp,by rw[aF];exact pE rfl (uW o g O.e1 O.e2 (λk e=>q k (j k e)) h f m p n)⟩
  |true=>refine⟨[.tuple [.int (n:Int),d]],λe l=>?_,by simp,pE rfl (uW o g O.e1 O.e2 (λk e=>q k (j k e)) h f m p n)⟩;simp at l;subst l;exact i n f
theorem Bk.pt{d a:Lr}{rows:List Lr}(h:Bk K M Fu d rows a)(i:∀k∈K,k∈F.map (·.1)){H:List (Str×fe)}:d.length<=8->(∀ws∈rows,GR ws)->Pt F (Lt M Fu) ⟨F,H,Y (t,d),false⟩ rows ⟨F,H,Y (t,a),false⟩:=by
 induction h with
 |nil d=>intro _ _;exact .nil _
 |@row d a w r b k _ f=>intro e c;obtain⟨O,g⟩:=k.ok;exact .cons (DM O i (c _ (bc ..)) g (by simpa using e)) (f e λws hw=>c ws (aj _ hw))
 |@Tc d a w r b hw k j _ f=>intro e c;obtain⟨O,g,_⟩:=k.ok (K:=K) (M:=M) (Fu:=Fu) hw;exact .cons (DM O i (c _ (bc ..)) g (by simp;omega)) (f (by simp;omega) λws hw=>c ws (aj _ hw))
 |@ME d a b _ f=>intro e c;refine .cons ⟨λ_=>⟨rfl,rfl,by simp[TS.dep] at e ⊢;omega⟩,c _ (bc ..),?_,λn L _=>⟨[],by simp,by simp,by rw[aF];exact pE rfl (SA n)⟩⟩ (f (by simpa using e) λws hw=>c ws (aj _ hw));show iW _ ((d++[zZ "if"]).length+1)=_;rw[uX (by decide)];simp[TS.dep]
 |@fin d a x b _ f=>intro e c;refine .cons ⟨λ_=>⟨rfl,rfl,by simp[TS.dep] at e ⊢;omega⟩,c _ (bc ..),?_,λn L _=>⟨[],by simp,by simp,by rw[aF];exact pE rfl (Sz x n)⟩⟩ (f (by simp at e;omega) λws hw=>c ws (aj _ hw));show iW _ ((d++[x]).length+1)=_;rw[z7];simp[TS.dep]
structure Bo where
 t:Str
 hd:Lr
 rows:List Lr
def Bo.txt(b:Bo):List Lr:=b.hd::(b.rows++[[zZ "end"]])
def Bo.ent(b:Bo):Str×Lr:=(b.t,b.hd)
structure IM (K:Lr) (M:List (Str×Str)) (Fu:List (Str×Nat)) (F:List (Str×fe)) (b:Bo):Prop where
 hd:IK (gD F) b.t b.hd
 gr:∀ws∈b.rows,GR ws
 bk:Bk K M Fu [] b.rows []
 hb:Hb b.t b.hd
 gh:GR b.hd
theorem BN:GR [zZ "end"]:=⟨by simp,Sr,by simp⟩
theorem Bo.pt(e:∀k∈K,k∈F.map (·.1)){b:Bo}(O:IM K M Fu F b){H:List (Str×fe)}(a:b.t∉H.map (·.1))(c:H.length<=900):
  Pt F (Lt M Fu) ⟨F,H,Z,false⟩ b.txt ⟨F,H++[(b.t,wl b.hd)],Z,b.t==zZ "main"⟩:=by
 obtain⟨g,r,f,hw⟩:=O.hd.hd;refine .cons (σ1:=⟨F,H++[(b.t,wl b.hd)],Y (b.t,[]),false⟩) ⟨λ_=>⟨rfl,rfl,by simp[TS.dep]⟩,O.gh,?_,λn L _=>⟨[],by simp,by simp,by rw[aF];exact OA O.hd a c n⟩⟩ ((O.bk.pt e (by simp) O.gr).app (.cons (σ1:=⟨F,H++[(b.t,wl b.hd)],Z,b.t==zZ "main"⟩) ⟨λz=>absurd z (by simp[TS.dep]),BN,z7 0,λn L _=>⟨[],by simp,by simp,by rw[aF];exact Sq O.hd.tok _ _ _⟩⟩ (.nil _)));have d:b.hd.head?≠Y (zZ "kind"):=by
  rw[f];intro z;injection z with z
  rcases hw with rfl|rfl|rfl<;>exact oq (by decide) z
 show iW b.hd 0=1;rw[iW,ai ⟨rfl,d⟩]
theorem z8(c:∀k∈K,k∈F.map (·.1)):∀(a:List Bo) (H:List (Str×fe)),(∀b∈a,IM K M Fu F b/\b.t≠zZ "main")->(H.map (·.1)++a.map (·.t)).Nodup->H.length+a.length<=900 ->
  Pt F (Lt M Fu) ⟨F,H,Z,false⟩ (a.flatMap Bo.txt) ⟨F,H++hg (a.map Bo.ent),Z,false⟩
 |[],H,_,_,_=>by rw[a9,show hg []=[] from rfl,aF];exact .nil _
 |b::a,H,ho,nd,hl=>by
  have o:=ho b (by simp);have e:b.t∉H.map (·.1):=λz=>by rw[a7] at nd;exact nd.2.2 b.t z b.t (by simp) rfl
  have p:=Bo.pt c o.1 e (by omega);have g:(b.t==zZ "main")=false:=by simpa using o.2
  rw[g] at p;have q:=z8 c a (H++[(b.t,wl b.hd)]) (λx d=>ho x (by simp[d])) (by simpa using nd) (by simp at hl ⊢;omega);have f:H++hg ((b::a).map Bo.ent)=H++[(b.t,wl b.hd)]++hg (a.map Bo.ent):=by simp[hg,Bo.ent]
  rw[f];exact p.app q
theorem Bk.wk{g a:Lr}{c:List Lr}(h:Bk K M Fu g c a){rest:List Lr}{j:List (Str×Lr)}:∀{d:List (Lr×Str)},Wk (a.length+1) t rest j d->∃b,Wk (g.length+1) t (c++rest) j b:=by
 induction h with
 |nil g=>intro d h;exact⟨d,h⟩
 |@row g a w r rest k _ f=>intro d h;obtain⟨O,i⟩:=k.ok;obtain⟨b,e⟩:=f h;exact⟨_,.row w r false O.e1 O.e2 i e⟩
 |@Tc g a w r rest hw k l _ f=>intro d h;obtain⟨O,i,_⟩:=k.ok (K:=K) (M:=M) (Fu:=Fu) hw;obtain⟨b,e⟩:=f h;rw[aB] at e;exact⟨_,.row w r true O.e1 O.e2 i e⟩
 |@ME g a rest _ f=>intro d h;obtain⟨b,e⟩:=f h;rw[aB] at e ⊢;exact⟨_,.ME e⟩
 |@fin g a x rest _ f=>intro d h;obtain⟨b,e⟩:=f h;rw[aB];exact⟨_,.fin e⟩
theorem z9:∀(a:List Bo) (b:Str),(∀b∈a,IM K M Fu F b)->∃d,Wk 0 b (a.flatMap Bo.txt) (a.map Bo.ent) d
 |[],b,_=>⟨[],.nil b⟩
 |x::a,b,ho=>by obtain⟨d,e⟩:=z9 a x.t λy f=>ho y (by simp[f]);have o:=ho x (by simp);obtain⟨c,g⟩:=o.bk.wk (t:=x.t) (rest:=[zZ "end"]::a.flatMap Bo.txt) (.fin e);refine⟨c,?_⟩;rw[eA,ae,Bo.txt,a8,aQ];exact .head b o.hb g
theorem DN(b:Str){a:List Lr}{e:List (Str×Lr)}{d:List (Lr×Str)}(h:Wk 0 b a e d):∀c:List KR,Wk 0 b (c.map hH++a) e d
 |[]=>h
 |k::c=>.kind b _ (DN b h c)
structure LS (M:List (Str×Str)) (Fu:List (Str×Nat)) (H:List (Str×fe)):Prop where
 nd:(H.map (·.1)).Nodup
 m:∀k m,(k,m)∈M->jQ k m∈H.map (·.1)/\k.length<=8/\m.length<=8
 f:∀f n,(f,n)∈Fu->fe.strOk f=true/\f≠zZ "main"/\∃ws ks,(f,wl ws)∈H/\hJ [wl ws]=Y (wl ks)/\ks.length=n
theorem Qn(k m:Str)(e:k.length<=8)(d:m.length<=8):jR [.str k,.str m]=Y (.str (jQ k m)):=by
 have c:k.length<=16777216:=by omega
 have b:m.length<=16777216:=by omega
 have a:(k++(zZ "."++m)).length<=16777216:=by rw[cM,cM,show (zZ ".").length=1 by decide +kernel];omega
 simp? only[jR,o2,ai c,ai b,ai a,Str.append_empty,jQ]
theorem LU{H:List (Str×fe)}(T:LS M Fu H){e:fe}(x:Lt M Fu e){F b bl la:fe}{ov:Bool}:∃i a,e=.tuple [.int i,a]/\fh [Rg F (gD H) b bl la ov,a]=Y (.bool true):=by
 obtain⟨i,a,rfl,h⟩:=x;refine⟨i,a,rfl,?_⟩;rcases h with ⟨k,m,v,l,j,g⟩ | ⟨f,n,y,w,l,j,g,z⟩
 ·obtain⟨q,p,d⟩:=T.m k m v;have o:("straight"=="straight")=true:=by decide
  have c:=rh (t:=jQ k m) (H:=H);rw[aX q] at c
  simp? only[fh,gG,l,hW,o,j,g,Qn k m p d,ou,i9,c]
 ·obtain⟨q,p,I,u,d,G,E⟩:=T.f f n w;have o:("func"=="straight")=false:=by decide
  have c:=rh (t:=f) (H:=H);rw[aX (aq.mpr ⟨_,d,rfl⟩)] at c;have D:=Lv T.nd d;have C:(f==zZ "main")=false:=by simpa using p
  have s:=IH q (dq "main");rw[C] at s;have B:gR [wl u]=Y (.int (n:Int)):=by rw[k8,ah,E]
  have A:gR [.list y]=Y (.int (n:Int)):=by rw[k8,z]
  have r:=MD (n:Int) (n:Int);rw[eJ] at r
  simp? only[fh,gG,l,hW,o,j,g,s,ou,jP,c,D,G,B,A,r]
theorem rj{H:List (Str×fe)}(T:LS M Fu H){F b bl la:fe}{ov:Bool}(g rw w:Od):∀(L:Lp) (a c:Od),(∀e∈L,Lt M Fu e) ->
  ∃k j,∀d,js (qt (.many [3,5])) gg (L++d) [g,Y (Rg F (gD H) b bl la ov),rw,a,w,c]=js (qt (.many [3,5])) gg d [g,Y (Rg F (gD H) b bl la ov),rw,k,w,j]
 |[],a,c,_=>⟨a,c,λ_=>rfl⟩
 |e::L,a,c,h=>by
  obtain⟨i,f,rfl,n⟩:=LU T (h e (by simp)) (F:=F) (b:=b) (bl:=bl) (la:=la) (ov:=ov);obtain⟨k,j,m⟩:=rj T g rw w L (Y (.int i)) (Y f) λx l=>h x (by simp[l]);refine⟨k,j,λd=>?_⟩;rw[a8,ib (ρ1:=[g,Y (Rg F (gD H) b bl la ov),rw,Y (.int i),w,Y f]) ?_]
  ·exact m d
  ·show gg [g,Y (Rg F (gD H) b bl la ov),rw,Y (.int i),w,Y f]=_
   simp? only[gg,n,qa]
theorem DP{c R rw w:Od}{b:fe}{a:fe}{i:Int}(h:R=Y b)(e:fh [b,a]=Y (.bool false))(d:0<=i/\i<10000):gg [c,R,rw,Y (.int i),w,Y a]=Y (.rt (.int i)):=by
 subst h;refine jW ?_ (uf rfl d)
 simp? only[e,qa]
end
def Y4:c5->Option Out:=KN 1 (c7 (j4 (wa [] (pq (iR ["Reading"] "later" (bb 1)))) (.many [3,5]) gg) (CV (tG "Program" 2 iy (zQ (bb 0)))))
def rp2:c5->Option Out:=c7 (iA (tj (we (iR ["Reading"] "over" (bb 1)))) (pQ (zN (bb 2))) gi) Y4
def Td:c5->Option Out:=c7 (j4 (wa [1] (w8 (bb 2))) (.many [3,4]) fE) rp2
section
variable {rows:List Lr} (hr:∀ws∈rows,Ee ws) (hl:rows.length<=800) (ne:rows≠[])
include hr hl ne in
theorem ug(h:Td [Y (.str (tx rows)),Y R0,Y (.list (rows.map wl)),Z,Z,Z]=Y (.rt d)):gp [.str (tx rows)]=Y d:=by
 have e2:=z6 hr hl ne;have e3:=ri oM oN rfl rfl hr;have hz:((rows.map ln).map fe.str).length<=16777216:=by simp;omega
 have e0:n9 [.dict [(.none,.str (zZ "Reading"))]]=Y (.none,R0):=by kernel_rfl
 have g:oh [Y (.str (tx rows)),Z,Z,Z,Z,Z]=Y (.rt d):=by
  refine fw (ρ1:=[Y (.str (tx rows)),Y R0,Z,Z,Z,Z]) ?_ (fw (ρ1:=[Y (.str (tx rows)),Y R0,Y (.list (rows.map wl)),Z,Z,Z]) ?_ h)
  ·simp? only[e0]
  ·simp? only[e2,ai hz,pJ,e3]
 show (oh [Y (.str (tx rows)),Z,Z,Z,Z,Z]).bind _=_;rw[g];rfl
theorem Hq{x rw R:fe}(h:js (qt (.many [3,4])) fE (qI (rows.map wl)) [Y x,Y R,Y (.list (rows.map wl)),Z,Z,Z]=o):j4 (wa [1] (w8 (bb 2))) (.many [3,4]) fE [Y x,Y R,Y (.list (rows.map wl)),Z,Z,Z]=o:=by
 simp? only[rH]
 exact h
end
section
variable {rows:List Lr}{x:fe}
theorem LV(a:List Lr)(d:Lr)(b:List Lr):∃c,qI ((a++d::b).map wl)=(((a.map wl).zipIdx 0).map λx=>fe.tuple [.int x.2,x.1])++(.tuple [.int (a.length:Int),wl d]::c):=by refine⟨((b.map wl).zipIdx (a.length+1)).map λx=>fe.tuple [.int x.2,x.1],?_⟩;show (((a++d::b).map wl).zipIdx 0).map _=_;rw[aK,List.zipIdx_append,aK,ae,List.zipIdx_cons,ae,ah,dn]
theorem SD{a b:List Lr}{c:Lr}{R:fe}(g:Reads 0 R0 a R)(h:∀c∈a,c.length<=900)(f:∀rw,fE [Y x,Y R,Y rw,Y (.int (a.length:Int)),Y (wl c),Z]=Y (.rt (.int (a.length:Int)))):
  Td [Y x,Y R0,Y (.list ((a++c::b).map wl)),Z,Z,Z]=Y (.rt (.int (a.length:Int))):=by
 obtain⟨d,e⟩:=LV a c b;obtain⟨k,j,i⟩:=sP x (.list ((a++c::b).map wl)) Z a 0 R0 R Z Z g h;refine ko (Hq (rw:=x) ?_);rw[e,i,js];show (Option.bind (fE [Y x,Y R,Y (.list ((a++c::b).map wl)),Y (.int (a.length:Int)),Y (wl c),Z]) _)=_;rw[f];rfl
theorem LW{R:fe}(c:Reads 0 R0 rows R)(d:∀ws∈rows,ws.length<=900):∃a b,j4 (wa [1] (w8 (bb 2))) (.many [3,4]) fE [Y x,Y R0,Y (.list (rows.map wl)),Z,Z,Z]=Y (.nx [Y x,Y R,Y (.list (rows.map wl)),a,b,Z]):=by obtain⟨g,f,e⟩:=sP x (.list (rows.map wl)) Z rows 0 R0 R Z Z c d;refine⟨g,f,Hq (rw:=x) ?_⟩;have:=e [];rw[aF] at this;exact this
theorem OZ{F d b h c:fe}(f:Reads 0 R0 rows (Rg F d b h c false))(g:∀ws∈rows,ws.length<=900)(i:rows.length<=800):Td [Y x,Y R0,Y (.list (rows.map wl)),Z,Z,Z]=Y (.rt (.int (rows.length:Int))):=by
 obtain⟨a,j,e⟩:=LW (x:=x) f g;refine fw e (ko (jW ?_ (uf ?_ (by omega))))
 ·simp? only[oR,qa]
 ·simp? only[k8,ah]
theorem Hr{F c b bl:fe}{L:Lp} (f:Reads 0 R0 rows (Rg F c b bl (.list L) true)) (g:∀ws∈rows,ws.length<=900)
  (h:∀a b',c7 (j4 (wa [] (pq (iR ["Reading"] "later" (bb 1)))) (.many [3,5]) gg) (CV (tG "Program" 2 iy (zQ (bb 0)))) [Y x,Y (Rg F c b bl (.list L) true),Y (.list (rows.map wl)),a,b',Z]=Y (.rt d)):
  Td [Y x,Y R0,Y (.list (rows.map wl)),Z,Z,Z]=Y (.rt d):=by
 obtain⟨a,b',e⟩:=LW (x:=x) f g;refine fw e (fw (iz (by simp? only[oR,qa]) rfl) ?_);rw[Y4,Qk,h];rfl
theorem DQ{F d b bl:fe}{L:Lp}{a e c rw:Od}(h:js (qt (.many [3,5])) gg L [Y x,Y (Rg F d b bl (.list L) true),rw,a,e,c]=o):
  j4 (wa [] (pq (iR ["Reading"] "later" (bb 1)))) (.many [3,5]) gg [Y x,Y (Rg F d b bl (.list L) true),rw,a,e,c]=o:=by
 simp? only[LB]
 exact h
theorem IP{M:List (Str×Str)}{h:List (Str×Nat)}{F b bl:fe}{H:List (Str×fe)}{d f:Lp}{i:Int}{c:fe} (T:LS M h H) (m:∀e∈d,Lt M h e) (l:Reads 0 R0 rows (Rg F (gD H) b bl (.list (d++.tuple [.int i,c]::f)) true)) (n:∀ws∈rows,ws.length<=900)
  (j:fh [Rg F (gD H) b bl (.list (d++.tuple [.int i,c]::f)) true,c]=Y (.bool false)) (k:0<=i/\i<10000):Td [Y x,Y R0,Y (.list (rows.map wl)),Z,Z,Z]=Y (.rt (.int i)):=by
 refine Hr l n λa g=>ko (DQ ?_);obtain⟨p,o,e⟩:=rj T (F:=F) (b:=b) (bl:=bl) (la:=.list (d++.tuple [.int i,c]::f)) (ov:=true) (Y x) (Y (.list (rows.map wl))) g d a Z m;rw[e,js];show (Option.bind (gg [Y x,_,Y (.list (rows.map wl)),Y (.int i),g,Y c]) _)=_;rw[DP rfl j k];rfl
theorem O0{M:List (Str×Str)}{d:List (Str×Nat)}{F b bl:fe}{H:List (Str×fe)}{L:Lp} (T:LS M d H) (i:∀e∈L,Lt M d e) (h:Reads 0 R0 rows (Rg F (gD H) b bl (.list L) true)) (j:∀ws∈rows,ws.length<=900)
  {p:fe} (g:iy [.dict [(.none,.str (zZ "Program"))],x]=Y (.none,p)) (f:∀n,p≠.int n):Td [Y x,Y R0,Y (.list (rows.map wl)),Z,Z,Z]=Y (.rt p):=by
 refine Hr h j λa c=>?_;obtain⟨l,k,e⟩:=rj T (F:=F) (b:=b) (bl:=bl) (la:=.list L) (ov:=true) (Y x) (Y (.list (rows.map wl))) c L a Z i;have:=e [];rw[aF] at this;refine fw (DQ this) ?_;have m:tG "Program" 2 iy (zQ (bb 0)) [Y x,Y (Rg F (gD H) b bl (.list L) true),Y (.list (rows.map wl)),l,c,k]=Y p:=by
  simp? only[g]
 unfold CV;rw[m];cases p<;>first|rfl|exact absurd rfl (f _)
end
noncomputable def o6:Lr:=["ka","kb","kc","fa","fb","fc","f","g","h","u","v","m","n","p","q","l","x","y","z","k"].map Str.ofString
structure Ph (φ:Str->Str):Prop where
 inj:∀a∈o6,∀b∈o6,φ a=φ b->a=b
 nm:∀w,mJ w=true->mJ (φ w)=true
 fix:∀w,w∉o6->φ w=w
 main:∀w∈o6,φ w≠zZ "main"
 self:∀w∈o6,φ w≠zZ "self"
 Y5:∀w∈o6,φ w=zZ "keeps"->w=zZ "k"
noncomputable def U8(φ:Str->Str):Lr->Lr
 |[]=>[]
 |w::r=>w::r.map φ
section
variable {φ:Str->Str} (P:Ph φ) {K:Lr}{M:List (Str×Str)}{Fu:List (Str×Nat)}
abbrev Fl:=List (Str×List Str)
inductive Qo:Fl->List KR->Fl->Prop
 |nil (F:Fl):Qo F [] F
 |cons {F F':Fl}{r:KR}{ks:List KR}{inh:Lr}:r.nm∉F.map (·.1)->(match r.el with|none=>inh=[]|some j=>(j,inh)∈F)->(inh++r.own).Nodup->inh.length+r.own.length<=90->r.own.length<=6->Qo (F++[(r.nm,inh++r.own)]) ks F'->Qo F (r::ks) F'
structure KV (r:KR):Prop where
 nm:r.nm∈o6
 el:∀j,r.el=Y j->j∈o6
 own:∀w∈r.own,w∈o6
def KR.map(φ:Str->Str)(r:KR):KR:=⟨φ r.nm,r.el.map φ,r.own.map φ⟩
include P in
theorem IQ{l:Lr}(d:∀w∈l,w∈o6)(c:l.Nodup):(l.map φ).Nodup:=by
 induction l with
 |nil=>exact eX
 |cons a l g=>rw[bj] at c;rw[ae,bj];refine⟨λz=>?_,g (λw hw=>d w (by simp[hw])) c.2⟩;obtain⟨b,f,e⟩:=aq.mp z;have:=P.inj b (d b (by simp[f])) a (d a (by simp)) e;exact c.1 (this▸f)
end
theorem kr:∀w∈o6,mJ w=true:=by
 have:(o6.all λw=>mJ w)=true:=by decide +kernel
 simpa using this
inductive Hk
 |k9 (k m:Str)
 |func (f:Str)
def Hk.nm(φ:Str->Str):Hk->Str
 |.k9 k m=>jQ (φ k) (φ m)
 |.func f=>φ f
structure Hd where
 key:Hk
 ps:Lr
 ks:Lr
def Hd.ws(φ:Str->Str)(h:Hd):Lr:=match h.key with
 |.k9 k m=>zZ "method"::φ k::φ m::h.ps.map φ
 |.func f=>zZ "func"::φ f::(h.ps.map φ++kw (h.ks.map φ))
structure HV (K:Lr) (h:Hd):Prop where
 key:match h.key with | .k9 k m=>k∈K/\k∈o6/\m∈o6 | .func f=>f∈o6
 ps:∀w∈h.ps,w∈o6
 ks:∀w∈h.ks,w∈o6
 nd:(h.ps++h.ks).Nodup
 nk:zZ "k"∉h.ps
 lp:h.ps.length<=2
 lk:h.ks.length<=2
theorem DR(k m:Str):(jQ k m).cps.toList=k.cps.toList++46::m.cps.toList:=by rw[jQ,Ob];simp[eZ]
theorem O1{k m c d:Str}(g:mJ k=true)(f:mJ c=true)(h:jQ k m=jQ c d):k=c/\m=d:=by have e:=bK (λz:Str=>z.cps.toList) h;simp only[DR] at e;obtain⟨a,b⟩:=By _ _ _ _ (ua g (by decide)) (ua f (by decide)) e;exact⟨Str.ext' (dE.mp a),Str.ext' (dE.mp b)⟩
theorem FJ{k m f:Str}(h:mJ f=true):jQ k m≠f:=λz=>by have e:=bK (λz:Str=>z.cps.toList) z;simp only[DR] at e;exact ua h (c:=46) (by decide) (by rw[<-e];simp)
section
variable {φ:Str->Str} (P:Ph φ)
include P in
theorem Ef{w:Str}(h:w∈o6):mJ (φ w)=true:=P.nm w (kr w h)
def uY:Hk->Prop
 |.k9 k m=>k∈o6/\m∈o6
 |.func f=>f∈o6
include P in
theorem O2{a b:Hk}(d:uY a)(c:uY b)(h:a.nm φ=b.nm φ):a=b:=by
 cases a with
 |k9 k m=>
  cases b with
  |k9 g e=>obtain⟨j,i⟩:=O1 (Ef P d.1) (Ef P c.1) h;rw[P.inj _ d.1 _ c.1 j,P.inj _ d.2 _ c.2 i]
  |func f=>exact absurd h (FJ (Ef P c))
 |func f=>
  cases b with
  |k9 g e=>exact absurd h.symm (FJ (Ef P d))
  |func l=>rw[P.inj _ d _ c h]
theorem HV.uY{K:Lr}{h:Hd}(v:HV K h):uY h.key:=by
 have:=v.key;cases q:h.key with
 |k9 k m=>rw[q] at this;exact this.2
 |func f=>rw[q] at this;exact this
include P in
theorem DS{a:Hk}(b:uY a):a.nm φ≠zZ "main":=by
 cases a with
 |k9 k m=>exact FJ (zD 0)
 |func f=>exact P.main f b
include P in
theorem HV.hd{K:Lr}{h:Hd}(v:HV K h)(p:∀k∈K,φ k∈F.map (·.1)):IK (gD F) (h.key.nm φ) (h.ws φ)/\Hb (h.key.nm φ) (h.ws φ):=by
 have j:∀w∈h.ps.map φ,mJ w=true:=λw hw=>by obtain⟨u,b,rfl⟩:=aq.mp hw;exact Ef P (v.ps u b)
 have o:∀w∈h.ks.map φ,mJ w=true:=λw hw=>by obtain⟨u,b,rfl⟩:=aq.mp hw;exact Ef P (v.ks u b)
 have l:∀w∈h.ps++h.ks,w∈o6:=λw hw=>(aw.mp hw).elim (v.ps w) (v.ks w);have g:(h.ps.map φ++h.ks.map φ).Nodup:=by rw[<-aK];exact IQ P l v.nd
 have i:zZ "self"∉h.ps.map φ++h.ks.map φ:=λz=>by rw[<-aK] at z;obtain⟨u,b,e⟩:=aq.mp z;exact P.self u (l u b) e
 have n:zZ "keeps"∉h.ps.map φ:=λz=>by obtain⟨u,b,e⟩:=aq.mp z;have:=P.Y5 u (v.ps u b) e;exact v.nk (this▸b)
 have r:=v.lp;have s:=v.lk;have a:=v.key;unfold Hd.ws;cases q:h.key with
 |k9 k m=>rw[q] at a;have d:=Ef P a.2.1;have c:=Ef P a.2.2;exact⟨OL (p k a.1) d c j (λz=>i (aC _ z)) (a7.mp g).1 (by rw[ah];omega),⟨.inr (.inl ⟨_,_,_,rfl,rfl,(ma.mp d).2.1,(ma.mp c).2.1⟩),BH d c⟩⟩
 |func f=>rw[q] at a;exact⟨OK (Ef P a) (P.main f a) j o n i g (by rw[ah];omega) (by rw[ah];omega),⟨.inl ⟨_,rfl⟩,mG (Ef P a)⟩⟩
include P in
theorem HV.kept{K:Lr}{h:Hd}(v:HV K h){f:Str}(q:h.key=.func f):hJ [wl (h.ws φ)]=Y (wl (h.ks.map φ)):=by
 have b:∀w∈h.ps.map φ,fe.strOk w=true:=λw hw=>by obtain⟨u,a,rfl⟩:=aq.mp hw;exact mG (Ef P (v.ps u a))
 have d:∀w∈h.ks.map φ,fe.strOk w=true:=λw hw=>by obtain⟨u,a,rfl⟩:=aq.mp hw;exact mG (Ef P (v.ks u a))
 have c:zZ "keeps"∉h.ps.map φ:=λz=>by obtain⟨u,a,e⟩:=aq.mp z;have:=P.Y5 u (v.ps u a) e;exact v.nk (this▸a)
 have g:=v.lp;have i:=v.lk;unfold Hd.ws;rw[q];exact Hc _ b d c (by simp;omega)
end
structure Tx where
 ks:List KR
 hs:List (Hd×List Lr)
 mr:List Lr
def Tx.K(t:Tx):Lr:=t.ks.map (·.nm)
noncomputable def Te(h:Hd):Option (Str×Str):=match h.key with | .k9 k m=>Y (k,m) | .func _=>Z
noncomputable def SE(h:Hd):Option (Str×Nat):=match h.key with | .k9 _ _=>Z | .func f=>Y (f,h.ks.length)
def Tx.M(t:Tx):List (Str×Str):=t.hs.filterMap λh=>Te h.1
def Tx.Fu(t:Tx):List (Str×Nat):=t.hs.filterMap λh=>SE h.1
def ku(b:Lr)(a:List Lr):List Lr:=b::(a++[[zZ "end"]])
def Tx.rows(t:Tx):List Lr:=t.ks.map hH++(t.hs.flatMap (λh=>ku (h.1.ws id) h.2)++ku [zZ "main"] t.mr)
structure yR (t:Tx):Prop where
 kd:∃F',Qo [] t.ks F'
 kv:∀r∈t.ks,KV r
 kg:∀r∈t.ks,GR (hH r)
 hv:∀h∈t.hs,HV t.K h.1
 nd:(t.hs.map (·.1.key)).Nodup
 bk:∀h∈t.hs,Bk t.K t.M t.Fu [] h.2 []
 mb:Bk t.K t.M t.Fu [] t.mr []
 gr:∀h∈t.hs,∀ws∈h.2,GR ws
 mg:∀ws∈t.mr,GR ws
 len:t.rows.length<=700
section
variable {φ:Str->Str} (P:Ph φ) {t:Tx} (T:yR t)
noncomputable def LX(φ:Str->Str)(h:Hd×List Lr):Bo:=⟨h.1.key.nm φ,h.1.ws φ,h.2.map (U8 φ)⟩
noncomputable def U9(φ:Str->Str)(t:Tx):Bo:=⟨zZ "main",[zZ "main"],t.mr.map (U8 φ)⟩
theorem Hs:GR [zZ "main"]:=⟨by simp,by intro w hw;simp at hw;subst hw;decide +kernel,by simp⟩
include P T in
theorem O3:((t.hs.map (LX φ)++[U9 φ t]).map (·.t)).Nodup:=by
 have e:(t.hs.map (LX φ)++[U9 φ t]).map (·.t)=(t.hs.map (·.1.key)).map (Hk.nm φ)++[zZ "main"]:=by simp[LX,U9,cN]
 have k:∀a∈t.hs.map (·.1.key),uY a:=λa g=>by obtain⟨h,n,rfl⟩:=aq.mp g;exact(T.hv h n).uY
 rw[e,a7];refine⟨?_,by simp,λa g b c=>?_⟩
 ·have d:∀l:List Hk,(∀a∈l,uY a)->l.Nodup->(l.map (Hk.nm φ)).Nodup:=λl=>by
   induction l with
   |nil=>intro _ _;exact eX
   |cons a l m=>intro j i;rw[bj] at i;rw[ae,bj];refine⟨λz=>?_,m (λw hw=>j w (by simp[hw])) i.2⟩;obtain⟨b,c,e⟩:=aq.mp z;have:=O2 P (j b (by simp[c])) (j a (by simp)) e;exact i.1 (this▸c)
  exact d _ k T.nd
 ·simp at c;subst c;obtain⟨o,f,rfl⟩:=aq.mp g;exact DS P (k o f)
end
theorem qh:Ph _root_.id:=⟨λ_ _ _ _ h=>h,λ_ h=>h,λ_ _=>rfl,by decide +kernel,by decide +kernel,by
 have:∀w∈o6,w≠zZ "keeps":=by decide +kernel
 exact λw hw h=>absurd h (this w hw)⟩
theorem FK(r:Lr):iW (zZ "kind"::r) 0=0:=by unfold iW;rw[ao (by simp),ao (by intro z;injection z with z _;exact oq (by decide) z),ao (by simp)]
theorem Qo.pt{F₀:List (Str×fe)}{Ok:fe->Prop}{F g:Fl}{d:List KR}(h:Qo F d g):(F.map (·.1)).Nodup->(∀r∈d,GR (hH r))->F.length+d.length<=900->Pt F₀ Ok ⟨hg F,[],Z,false⟩ (d.map hH) ⟨hg g,[],Z,false⟩/\(g.map (·.1)).Nodup/\g.map (·.1)=F.map (·.1)++d.map (·.nm):=by
 induction h with
 |nil F=>intro i _ _;exact⟨.nil _,i,by simp⟩
 |@cons F g r d c s k B D C _ t=>
  intro i f o;have l:((F++[(r.nm,c++r.own)]).map (·.1)).Nodup:=by rw[aK,a7];refine⟨i,by simp,λa A b p=>?_⟩;simp at p;subst p;exact λz=>s (z▸A)
  obtain⟨m,v,u⟩:=t l (λx w=>f x (by simp[w])) (by simp at o ⊢;omega);have y:VQ (hg F) r.el c:=by
   cases q:r.el with
   |none=>rw[q] at k;exact k
   |some j=>rw[q] at k;exact aq.mpr ⟨_,k,rfl⟩
  have e:hg (F++[(r.nm,c++r.own)])=hg F++[(r.nm,wl (c++r.own))]:=by simp[hg]
  rw[e] at m;refine⟨.cons (σ1:=⟨hg F++[(r.nm,wl (c++r.own))],[],Z,false⟩) ⟨λz=>absurd z (by simp[TS.dep]),f r (by simp),FK _,λn L _=>⟨[],by simp,by simp,?_⟩⟩ m,v,?_⟩
  ·rw[aF];exact OD (la:=.list L) (by rw[nC];exact i) (by rw[nC];exact s) So y B (by simp[hg] at o ⊢;omega) (by omega) n
  ·rw[u];simp
def uZ(h:Hd×List Lr):Bo:=⟨h.1.key.nm _root_.id,h.1.ws _root_.id,h.2⟩
noncomputable def v7(t:Tx):Bo:=⟨zZ "main",[zZ "main"],t.mr⟩
theorem O4(t:Tx):t.rows=t.ks.map hH++(t.hs.map uZ++[v7 t]).flatMap Bo.txt:=by simp[Tx.rows,ku,Bo.txt,uZ,v7,dW,List.flatMap_map]
structure Va (t:Tx) (F H:List (Str×fe)):Prop where
 pt:Pt F (Lt t.M t.Fu) ⟨[],[],Z,false⟩ t.rows ⟨F,H,Z,true⟩
 td:LS t.M t.Fu H
 eF:F.map (·.1)=t.ks.map (·.nm)
 eH:H=hg ((t.hs.map uZ++[v7 t]).map Bo.ent)
 rt:∃ns,Rt t.rows ((t.hs.map uZ++[v7 t]).map Bo.ent) ns
theorem O5{t:Tx}(T:yR t):∃F H,Va t F H:=by
 obtain⟨i,U⟩:=T.kd;have A:=T.len;have s:=O4 t;have y:(t.ks.map hH++(t.hs.map uZ++[v7 t]).flatMap Bo.txt).length<=700:=by rw[<-s];exact A
 rw[aB,ah] at y;obtain⟨X,P,G⟩:=U.pt (F₀:=hg i) (Ok:=Lt t.M t.Fu) (by simp) T.kg (by simp;omega);have B:∀k∈t.K,k∈(hg i).map (·.1):=λk R=>by rw[nC,G];exact au _ R
 have V:∀h∈t.hs,IM t.K t.M t.Fu (hg i) (uZ h):=λh d=>by obtain⟨u,N⟩:=(T.hv h d).hd qh B;refine⟨u,T.gr h d,T.bk h d,N,⟨?_,u.nm,u.len⟩⟩;obtain⟨w0,r,e,_⟩:=u.hd;show h.1.ws _root_.id≠[];rw[e];simp
 have I:IM t.K t.M t.Fu (hg i) (v7 t):=⟨OM _,T.mg,T.mb,⟨.inr (.inr ⟨rfl,rfl⟩),dq _⟩,Hs⟩
 have C:∀b∈t.hs.map uZ++[v7 t],IM t.K t.M t.Fu (hg i) b:=λb hb=>by
  rcases aw.mp hb with hb|hb
  ·obtain⟨h,d,rfl⟩:=aq.mp hb;exact V h d
  ·simp at hb;subst hb;exact I
 have j:((t.hs.map uZ++[v7 t]).map (·.t)).Nodup:=by
  have:=O3 qh T;have e:(t.hs.map (LX _root_.id)++[U9 _root_.id t]).map (·.t)=(t.hs.map uZ++[v7 t]).map (·.t):=by simp[LX,U9,uZ,v7,cN]
  rw[e] at this;exact this
 have x:((t.hs.map uZ).map (·.t)).Nodup:=by rw[aK,a7] at j;exact j.1
 rw[dW,aB] at y;have g:([v7 t].flatMap Bo.txt)=(v7 t).txt:=by simp
 rw[g] at y;have lb:(t.hs.map uZ).length<=((t.hs.map uZ).flatMap Bo.txt).length:=by
  generalize t.hs.map uZ=l;induction l with
  |nil=>simp
  |cons a l ih=>
   rw[eA,aB,ay];have:1<=a.txt.length:=by simp[Bo.txt]
   omega
 have W:=z8 B (t.hs.map uZ) [] (λb hb=>by refine⟨C b (aC _ hb),?_⟩;obtain⟨h,d,rfl⟩:=aq.mp hb;exact DS qh (T.hv h d).uY) (by simpa using x) (by rw[eS];omega);have J:=Bo.pt B I (H:=[]++hg ((t.hs.map uZ).map Bo.ent)) (by rw[bp,nC];intro z;rw[aK,a7] at j;refine j.2.2 (zZ "main") ?_ (zZ "main") (by simp[v7]) rfl;simpa [Bo.ent,cN,v7] using z) (by rw[bp,hg,ah,ah];omega);have p:((v7 t).t==zZ "main")=true:=by simp[v7]
 rw[p] at J;have o:hg ((t.hs.map uZ++[v7 t]).map Bo.ent)=[]++hg ((t.hs.map uZ).map Bo.ent)++[((v7 t).t,wl (v7 t).hd)]:=by simp[hg,Bo.ent]
 have c:((t.hs.map uZ++[v7 t]).map Bo.ent).map (·.1)=(t.hs.map uZ++[v7 t]).map (·.t):=by rw[cR];rfl
 have E:Pt (hg i) (Lt t.M t.Fu) ⟨[],[],Z,false⟩ t.rows ⟨hg i,hg ((t.hs.map uZ++[v7 t]).map Bo.ent),Z,true⟩:=by rw[s,dW,g,o];exact X.app (W.app J)
 refine⟨_,_,E,⟨by rw[nC,c];exact j,λk m Q=>?_,λf n S=>?_⟩,by rw[nC,G];rfl,rfl,?_⟩
 ·obtain⟨h,d,e⟩:=bw.mp Q;have v:=(T.hv h d).uY;unfold Te at e;cases q:h.1.key with
  |func f=>rw[q] at e;cases e
  |k9 k m=>
   rw[q] at e v;injection e with e
   injection e with p o;subst p;subst o;refine⟨?_,(ma.mp (Ef qh v.1)).2.1,(ma.mp (Ef qh v.2)).2.1⟩;rw[nC,c];refine aq.mpr ⟨uZ h,aC _ (aq.mpr ⟨h,d,rfl⟩),?_⟩;show h.1.key.nm _root_.id=_;rw[q];rfl
 ·obtain⟨h,d,e⟩:=bw.mp S;have v:=(T.hv h d).uY;unfold SE at e;cases q:h.1.key with
  |k9 k m=>rw[q] at e;cases e
  |func f=>
   rw[q] at e v;injection e with e
   injection e with p o;subst p;subst o;refine⟨mG (Ef qh v),qh.main f v,h.1.ws _root_.id,h.1.ks.map _root_.id,?_,(T.hv h d).kept qh q,by simp⟩;refine aq.mpr ⟨Bo.ent (uZ h),aq.mpr ⟨_,aC _ (aq.mpr ⟨h,d,rfl⟩),rfl⟩,?_⟩;show (h.1.key.nm _root_.id,_)=_;rw[q];rfl
 ·obtain⟨O,L⟩:=z9 (t.hs.map uZ++[v7 t]) ⟨#[]⟩ C;have D:=DN ⟨#[]⟩ L t.ks;rw[<-s] at D;refine⟨O,D,E.gr,by rw[c];exact j,?_,by omega,by rw[s];simp[Bo.txt]⟩;intro w hw;rw[c] at hw;obtain⟨b,hb,rfl⟩:=aq.mp hw;exact(C b hb).hd.tok
noncomputable def sG(a:List (Str×Str)):List (Str×fe):=a.map λp=>(p.1,.str p.2)
theorem GR.join{ws:Lr}(g:GR ws):je (.str (zZ " ")) [wl ws]=Y (.str (ln ws)):=by rw[q9];refine Ln 32 ws (B:=8) (λw hw=>(ma.mp (g.2.1 w hw)).2.1) ?_;have:=g.2.2;omega
noncomputable def oth:Lr:=["end","else","if","while","row","of","fields","choose","some","same","new","kind","func","method","rest","copy","abcdefgh","z","ka"].map Str.ofString
noncomputable def tT(r i:Nat):List (Str×Str):=(zZ "k",zZ "keeps")::(List.range i).map λk=>(o6.getD k default,oth.getD ((k+r) % 19) default)
theorem Qp{i:Int}(a:0<=i)(h:i<4294967296):kP i=true:=by
 unfold kP Builtin.Int.intBits;rw[decide_eq_true_iff];split
 ·exact dH _
 ·rename_i q;have:i.natAbs≠0:=by simpa using q
  rw[Nat.succ_le_iff];refine(Nat.log2_lt this).mpr (aI (show i.natAbs<2 ^ 32 by omega) (Nat.pow_le_pow_right (by decide) (by decide)))
theorem O6{i j:Int}(b:kP i=true)(a:kP j=true):se (.int i) (.int j)=Y (.int (i*j)):=by simp[se,Ri,dI,b,a]
theorem DT{i j:Int}(h:0<j):gq (.int i) (.int j)=Y (.int (i % j)):=by simp[gq,dI,h]
theorem SF{i j:Int}(h:0<j)(a:j<1073741824):ym (.int i) (.int j)=Y (.int (i / j)):=by simp[ym,dI,h,a]
theorem Vb(i j:Int):fC (.int i) (.int j)=Y (.int (i+j)):=rfl
theorem ni2(c:Int):∃b,ki (.int c) (.tuple [.int 0,.int (-1)])=Y (.bool b):=by
 refine⟨!([fe.int 0,.int (-1)].any λy=>fe.eqv y (.int c)),?_⟩;have e:kR (.int c) (.tuple [.int 0,.int (-1)])=Y ([fe.int 0,.int (-1)].any λy=>fe.eqv y (.int c)):=by rw[kR,ai ⟨by rfl,by rfl,by simp[fe.depth]⟩]
 rw[jP,e];rfl
theorem IS{c n k:Int}{dg:Bool}{xs:List Int}(v:0<=n/\n<=2147483647)(y:0<=k)(w:xs.length<=100):
  ∃d g x,(0<=g/\g<=2147483647)/\iM [Y (.int c),Y (.bool dg),Y (.list (xs.map .int)),Y (.int n),Y (.int k)]=Y (.nx [Y (.int d),Y (.bool dg),Y (.list ((xs++[x]).map .int)),Y (.int g),Y (.int k)]):=by
 have l:=O6 (Qp v.1 (by omega)) (show kP 48271=true from Qp (by omega) (by omega));have h:=Vb (n*48271) k;have f:=DT (i:=n*48271+k) (j:=2147483647) (by omega);have a:0<=(n*48271+k) % 2147483647/\(n*48271+k) % 2147483647<=2147483647:=by omega
 generalize A:(n*48271+k) % 2147483647=N at f a;have q:=O6 (Qp a.1 (by omega)) (show kP 69621=true from Qp (by omega) (by omega));have p:=DT (i:=N*69621) (j:=99991) (by omega);have o:=O6 (i:=N*69621 % 99991) (Qp (by omega) (by omega)) (show kP 16807=true from Qp (by omega) (by omega));have m:=DT (i:=N*69621 % 99991*16807) (j:=99989) (by omega);have u:=DT (i:=c) (j:=5040) (by omega);have t:=SF (i:=c) (j:=5040) (by omega) (by omega);have z:(xs.map fe.int).length<16777216:=by simp;omega
 obtain⟨b,r⟩:=ni2 c;have s:∃d x,iM [Y (.int c),Y (.bool dg),Y (.list (xs.map .int)),Y (.int n),Y (.int k)]=Y (.nx [Y (.int d),Y (.bool dg),Y (.list ((xs++[x]).map .int)),Y (.int N),Y (.int k)]):=by
  cases dg with
  |false=>
   refine⟨c,N*69621 % 99991*16807 % 99989,?_⟩
   simp? only[iM,l,h,f,q,p,o,m,qa,ai z,aK]
  |true=>
   cases b with
   |false=>
    refine⟨c,N*69621 % 99991*16807 % 99989,?_⟩
    simp? only[iM,l,h,f,q,p,o,m,qa,r,ai z,aK]
   |true=>
    refine⟨c / 5040,c % 5040,?_⟩
    simp? only[iM,l,h,f,u,t,qa,r,ai z,aK]
 obtain⟨d,x,e⟩:=s;exact⟨d,N,x,a,e⟩
theorem Aa(dg:Bool):∀(m s:Nat) (c n:Int) (xs:List Int) (k:Od),(0<=n/\n<=2147483647)->xs.length+m<=100 ->
  ∃(g b:Od) (a:List Int) (d:Od),a.length=xs.length+m/\js (qt (.one 4)) iM ((List.range' s m).map λ(i:Nat)=>fe.int (i:Int)) [Y (.int c),Y (.bool dg),Y (.list (xs.map .int)),Y (.int n),k]=Y (.nx [g,Y (.bool dg),Y (.list (a.map .int)),b,d])
 |0,s,c,n,xs,k,_,_=>⟨Y (.int c),Y (.int n),xs,k,rfl,rfl⟩
 |m+1,s,c,n,xs,k,hn,hx=>by obtain⟨p,h,x,l,o⟩:=IS (c:=c) (n:=n) (k:=(s:Int)) (dg:=dg) (xs:=xs) hn (by omega) (by omega);obtain⟨g,b,a,d,j,e⟩:=Aa dg m (s+1) p h (xs++[x]) (Y (.int s)) l (by simp;omega);refine⟨g,b,a,d,by simp at j;omega,?_⟩;have f:(qt (.one 4) (fe.int (s:Int)) [Y (.int c),Y (.bool dg),Y (.list (xs.map .int)),Y (.int n),k]).bind iM=_:=o;rw[dF,ae,ib f,e]
theorem O7(c:Int)(a:Bool):∃b:List Int,b.length=14/\jb [.int c,.bool a]=Y (.list (b.map .int)):=by
 have f:=DT (i:=c) (j:=1000000007) (by omega);obtain⟨l,h,d,k,g,e⟩:=Aa a 14 0 c (c % 1000000007+1) [] Z (by omega) (by simp);refine⟨d,by simpa using g,?_⟩;refine XT (ρ0:=[Y (.int c),Y (.bool a),Z,Z,Z]) (ρ1:=[Y (.int c),Y (.bool a),Y (.list []),Z,Z]) (ρ2:=[Y (.int c),Y (.bool a),Y (.list []),Y (.int (c % 1000000007+1)),Z]) (by rw[gO];rfl) ?_ ?_ (rM (xK (n:=14) (by decide) _ _ rfl) e) ?_
 ·simp? only[rH]
 ·simp? only[f,Vb]
 ·simp? only[rH]
theorem X0(l:List α)(h:l≠[])(x:Int):∃d∈l,rY l (x % (l.length:Int))=Y d:=by
 have e:0<l.length:=br.mpr h;have c:(((x % (l.length:Int)).toNat:Nat):Int)=x % (l.length:Int):=e9 (Int.emod_nonneg _ (by omega));have b:(x % (l.length:Int)).toNat<l.length:=by have:=Int.emod_lt_of_pos x (show (0:Int)<(l.length:Int) by omega);omega
 have a:=Oz l (x % (l.length:Int)).toNat;rw[c,aO b] at a;exact⟨l[(x % (l.length:Int)).toNat],cE b,a⟩
theorem xS(l:Lp)(h:l≠[])(x:Int):∃d∈l,gm (.list l) (.int (x % (l.length:Int)))=Y d:=by obtain⟨d,b,a⟩:=X0 l h x;exact⟨d,b,a⟩
theorem xT(a:Lr)(h:a≠[])(x:Int):∃w∈a,gm (wl a) (.int (x % (a.length:Int)))=Y (.str w):=by obtain⟨d,c,b⟩:=xS (a.map .str) (by simpa using h) x;obtain⟨w,hw,rfl⟩:=aq.mp c;rw[ah] at b;exact⟨w,hw,b⟩
theorem gU{B C:c5->Od}{x m:Int}(c:B ρ=Y (.int x))(b:C ρ=Y (.int m))(a:0<m):d2 gq B C ρ=Y (.int (x % m)):=by rw[pY,c,b];simp only[aD,DT a]
theorem fA{o:fe->fe->Od}{A B:c5->Od}{a b:fe}(d:A ρ=Y a)(c:B ρ=Y b):d2 o A B ρ=o a b:=by rw[pY,d,c];rfl
theorem DU{A B:c5->Od}{a:fe}{i:Int}(c:A ρ=Y a)(b:B ρ=Y (.int i)):gz A iL (gM B) ρ=Ec a Z (Y i):=by rw[wg,c,GV,GU,b];rfl
def yi(d:fe):Prop:=∃a:List Int,a.length=14/\d=.list (a.map .int)
theorem yi.at(h:yi d)(i:Nat)(b:i<14):∃x:Int,gm d (.int (i:Int))=Y (.int x):=by
 obtain⟨xs,a,rfl⟩:=h;have:i<xs.length:=by omega
 refine⟨xs[i],?_⟩;rw[sj,Oz,aJ,aO this];rfl
theorem jx{A B:c5->Od}{x:Int}(c:A ρ=Y d)(b:B ρ=Y (.int (i:Int)))(a:gm d (.int (i:Int))=Y (.int x)):d2 gm A B ρ=Y (.int x):=by rw[fA c b,a]
def sU:Option Str->fe
 |none=>.none
 |some j=>.str j
def wo(r:KR):fe:=.tuple [.str r.nm,sU r.el,wl r.own]
local macro_rules
| `(zk $k) => `(.list (($k).map wo))
noncomputable def kN:Lr:=["ka","kb","kc"].map Str.ofString
def o7(a b:String):List Lr:=[[],[zZ a],[zZ a,zZ b]]
theorem xU(a b:String)(x:Int):∃c∈o7 a b,Ec (wl [zZ a,zZ b]) Z (Y (x % 3))=Y (wl c):=by
 have h:x % 3=0\/x % 3=1\/x % 3=2:=by omega
 rcases h with h|h|h<;>rw[h]
 ·exact⟨[],by simp[o7],by kernel_rfl⟩
 ·exact⟨[zZ a],by simp[o7],by kernel_rfl⟩
 ·exact⟨[zZ a,zZ b],by simp[o7],by kernel_rfl⟩
noncomputable def Qq:List KR:=(o7 "f" "u").map λo=>⟨zZ "ka",Z,o⟩
noncomputable def MF:List KR:=((o7 "g" "f").map λo=>⟨zZ "kb",Z,o⟩)++[⟨zZ "kb",Y (zZ "ka"),[]⟩,⟨zZ "kb",Y (zZ "ka"),[zZ "g"]⟩]
noncomputable def Jf:List KR:=((o7 "h" "u").map λo=>⟨zZ "kc",Z,o⟩)++[⟨zZ "kc",Y (zZ "ka"),[]⟩,⟨zZ "kc",Y (zZ "ka"),[zZ "h"]⟩,⟨zZ "kc",Y (zZ "kb"),[]⟩,⟨zZ "kc",Y (zZ "kb"),[zZ "h"]⟩]
theorem O8(x:Int):wF (.int x) (.int 0)=Y (.bool (decide (0<x))):=rfl
section
variable (hd:yi d) (acc:Lp) (ha:acc.length<=100)
include ha in
theorem ow{k:Nat}{el:Option Str}{c b:Lr}{a:Str}{e:Od} (f:(gz (zX (eT (c4 (eT (zC "f" (zC "u" eB))) (c4 (eT (zC "g" (zC "f" eB))) (zQ (eT (zC "h" (zC "u" eB))))))) (bb 2)) iL (gM (d2 gq (zX (bb 0) (d2 fC (zI 5) (bb 2))) (zI 3)))) [Y d,Z,Y (.int (k:Int)),Y (sU el),e]=Y (wl c))
  (h:gX il iq [Y (sU el)] (c.map .str)=Y (b.map .str)) (l:c.length<=10) (g:gm (wl kN) (.int (k:Int))=Y (.str a)):
  (c7 (fu (fO [1] (gz (zX (eT (c4 (eT (zC "f" (zC "u" eB))) (c4 (eT (zC "g" (zC "f" eB))) (zQ (eT (zC "h" (zC "u" eB))))))) (bb 2)) iL (gM (d2 gq (zX (bb 0) (d2 fC (zI 5) (bb 2))) (zI 3))))) 4)
  (c7 (fu (fO [1] (iG (lQ (bb 4)) [(3,"_law_elder")] il iq)) 4)
  (gd (.sl 1) (fO [1] (iQ (c4 (zX (eT (zC "ka" (zC "kb" (zC "kc" eB)))) (bb 2)) (c4 (bb 3) (zQ (bb 4))))))))) [Y d,Y (.list acc),Y (.int (k:Int)),Y (sU el),e]=Y (.nx [Y d,Y (.list (acc++[wo ⟨a,el,b⟩])),Y (.int (k:Int)),Y (sU el),Y (wl b)]):=by
 refine fw (ρ1:=[Y d,Y (.list acc),Y (.int (k:Int)),Y (sU el),Y (wl c)]) (fW f) (fw (ρ1:=[Y d,Y (.list acc),Y (.int (k:Int)),Y (sU el),Y (wl b)]) (fW (nB (ds:=c.map .str) rfl (by rw[ah];omega) h)) ?_);refine ud (ρ:=[Y d,Y (.list acc),Y (.int (k:Int)),Y (sU el),Y (wl b)]) (i:=1) rfl (by omega) ?_;have j:d2 gm (eT (zC "ka" (zC "kb" (zC "kc" eB)))) (bb 2) [Y d,Z,Y (.int (k:Int)),Y (sU el),Y (wl b)]=Y (.str a):=g;rw[lN,tZ,qu];show iQ _ [Y d,Z,Y (.int (k:Int)),Y (sU el),Y (wl b)]=_;rw[GS,fz,j];rfl
include hd in
theorem u3(k:Nat)(a b:String)(j:k<=8)(f:∀e1 e2:Od,(zX (eT (c4 (eT (zC "f" (zC "u" eB))) (c4 (eT (zC "g" (zC "f" eB))) (zQ (eT (zC "h" (zC "u" eB))))))) (bb 2)) [Y d,Z,Y (.int (k:Int)),e1,e2]=Y (wl [zZ a,zZ b])):
  ∃c∈o7 a b,∀e1 e2:Od,(gz (zX (eT (c4 (eT (zC "f" (zC "u" eB))) (c4 (eT (zC "g" (zC "f" eB))) (zQ (eT (zC "h" (zC "u" eB))))))) (bb 2)) iL (gM (d2 gq (zX (bb 0) (d2 fC (zI 5) (bb 2))) (zI 3)))) [Y d,Z,Y (.int (k:Int)),e1,e2]=Y (wl c):=by
 obtain⟨x,e⟩:=hd.at (5+k) (by omega);obtain⟨c,h,g⟩:=xU a b x;refine⟨c,h,λe1 e2=>?_⟩;rw[DU (f e1 e2) (gU (m:=3) (jx (i:=5+k) (A:=bb 0) rfl ?_ e) rfl (by omega)),g];show Y (fe.int _)=_;rw[show (5:Int)+(k:Int)=((5+k:Nat):Int) by omega]
theorem rm(k:Nat)(e o:Od):(fu (fO [1] (dC .none)) 3) [Y d,Y (.list acc),Y (.int (k:Int)),e,o]=Y (.nx [Y d,Y (.list acc),Y (.int (k:Int)),Y .none,o]):=rfl
include hd ha in
theorem O9(e o:Od):∃r∈Qq,∃e' o',ir [Y d,Y (.list acc),Y (.int ((0:Nat):Int)),e,o]=Y (.nx [Y d,Y (.list (acc++[wo r])),Y (.int ((0:Nat):Int)),e',o']):=by
 obtain⟨own,h1,h2⟩:=u3 hd 0 "f" "u" (by omega) (λ_ _=>by kernel_rfl);have hf:gX il iq [Y (sU Z)] (own.map .str)=Y (own.map .str):=by simp only[o7,ag,aV,cb] at h1;rcases h1 with rfl|rfl|rfl<;>kernel_rfl
 have hl:own.length<=10:=by simp only[o7,ag,aV,cb] at h1;rcases h1 with rfl|rfl|rfl<;>simp
 refine⟨⟨zZ "ka",Z,own⟩,aq.mpr ⟨own,h1,rfl⟩,_,_,fw (rm acc 0 e o) (zF (ow acc ha (el:=Z) (h2 _ _) hf hl (zK 0)))⟩
include hd ha in
theorem Ht(e o:Od):∃r∈MF,∃e' o',ir [Y d,Y (.list acc),Y (.int ((1:Nat):Int)),e,o]=Y (.nx [Y d,Y (.list (acc++[wo r])),Y (.int ((1:Nat):Int)),e',o']):=by
 obtain⟨own,h1,h2⟩:=u3 hd 1 "g" "f" (by omega) (λ_ _=>by kernel_rfl);have hl:own.length<=10:=by simp only[o7,ag,aV,cb] at h1;rcases h1 with rfl|rfl|rfl<;>simp
 obtain⟨x1,SG⟩:=hd.at 1 (by omega);obtain⟨x3,Vc⟩:=hd.at 3 (by omega);have T:∀a b:Od,(iT (fB (d2 wF (bb 2) (zI 0))) (fB (d2 wF (d2 gq (zX (bb 0) (bb 2)) (zI 3)) (zI 0)))) [Y d,Y (.list acc),Y (.int ((1:Nat):Int)),a,b]=Y (decide (0<x1 % 3)):=λa b=>by
  have m:=gU (m:=3) (C:=dC (.int 3)) (jx (i:=1) (ρ:=[Y d,Y (.list acc),Y (.int ((1:Nat):Int)),a,b]) (A:=bb 0) (B:=bb 2) rfl rfl SG) rfl (by omega);have g0:wF (.int ((1:Nat):Int)) (.int 0)=Y (.bool true):=by kernel_rfl
  rw[oP,lZ,pY,tX,rH];simp only[bq,bJ,b0,aD,g0,xF];rw[lZ,pY,m,rH];simp only[aD,O8]
 cases hb:decide (0<x1 % 3) with
 |false=>
  have hf:gX il iq [Y (sU Z)] (own.map .str)=Y (own.map .str):=by simp only[o7,ag,aV,cb] at h1;rcases h1 with rfl|rfl|rfl<;>kernel_rfl
  exact⟨⟨zZ "kb",Z,own⟩,aC _ (aq.mpr ⟨own,h1,rfl⟩),_,_,fw (rm acc 1 e o) (fw (iz (by rw[T,hb]) rfl) (ow acc ha (el:=Z) (h2 _ _) hf hl (zK 0)))⟩
 |true=>
  have E:∀a b c:Od,(zX (eT (zC "ka" (zC "kb" eB))) (d2 gq (zX (bb 0) (d2 fC (zI 2) (bb 2))) (bb 2))) [Y d,a,Y (.int ((1:Nat):Int)),b,c]=Y (sU (Y (zZ "ka"))):=λa b c=>by
   have m:=gU (m:=1) (jx (i:=3) (ρ:=[Y d,a,Y (.int ((1:Nat):Int)),b,c]) (A:=bb 0) (B:=d2 fC (zI 2) (bb 2)) rfl rfl Vc) (show bb 2 [Y d,a,Y (.int ((1:Nat):Int)),b,c]=Y (.int 1) from rfl) (by omega);rw[show x3 % 1=0 by omega] at m;rw[pY,m]
   kernel_rfl
  obtain⟨FN,h3,hf⟩:∃FN,(⟨zZ "kb",Y (zZ "ka"),FN⟩:KR)∈MF/\gX il iq [Y (sU (Y (zZ "ka")))] (own.map .str)=Y (FN.map .str):=by
   simp only[o7,ag,aV,cb] at h1;rcases h1 with rfl|rfl|rfl
   ·exact⟨[],by simp[MF],by kernel_rfl⟩
   ·exact⟨[zZ "g"],by simp[MF],by kernel_rfl⟩
   ·exact⟨[zZ "g"],by simp[MF],by kernel_rfl⟩
  exact⟨_,h3,_,_,fw (rm acc 1 e o) (fw (ρ1:=[Y d,Y (.list acc),Y (.int ((1:Nat):Int)),Y (sU (Y (zZ "ka"))),o]) (jW (by rw[T,hb]) (fW (E _ _ _))) (ow acc ha (el:=Y (zZ "ka")) (h2 _ _) hf hl (zK 0)))⟩
include hd ha in
theorem Pa(e o:Od):∃r∈Jf,∃e' o',ir [Y d,Y (.list acc),Y (.int ((2:Nat):Int)),e,o]=Y (.nx [Y d,Y (.list (acc++[wo r])),Y (.int ((2:Nat):Int)),e',o']):=by
 obtain⟨own,h1,h2⟩:=u3 hd 2 "h" "u" (by omega) (λ_ _=>by kernel_rfl);have hl:own.length<=10:=by simp only[o7,ag,aV,cb] at h1;rcases h1 with rfl|rfl|rfl<;>simp
 obtain⟨x1,SG⟩:=hd.at 2 (by omega);obtain⟨x3,Vc⟩:=hd.at 4 (by omega);have T:∀a b:Od,(iT (fB (d2 wF (bb 2) (zI 0))) (fB (d2 wF (d2 gq (zX (bb 0) (bb 2)) (zI 3)) (zI 0)))) [Y d,Y (.list acc),Y (.int ((2:Nat):Int)),a,b]=Y (decide (0<x1 % 3)):=λa b=>by
  have m:=gU (m:=3) (C:=dC (.int 3)) (jx (i:=2) (ρ:=[Y d,Y (.list acc),Y (.int ((2:Nat):Int)),a,b]) (A:=bb 0) (B:=bb 2) rfl rfl SG) rfl (by omega);have g0:wF (.int ((2:Nat):Int)) (.int 0)=Y (.bool true):=by kernel_rfl
  rw[oP,lZ,pY,tX,rH];simp only[bq,bJ,b0,aD,g0,xF];rw[lZ,pY,m,rH];simp only[aD,O8]
 cases hb:decide (0<x1 % 3) with
 |false=>
  have hf:gX il iq [Y (sU Z)] (own.map .str)=Y (own.map .str):=by simp only[o7,ag,aV,cb] at h1;rcases h1 with rfl|rfl|rfl<;>kernel_rfl
  exact⟨⟨zZ "kc",Z,own⟩,aC _ (aq.mpr ⟨own,h1,rfl⟩),_,_,fw (rm acc 2 e o) (fw (iz (by rw[T,hb]) rfl) (ow acc ha (el:=Z) (h2 _ _) hf hl (zK 0)))⟩
 |true=>
  have E:∃j,(j=zZ "ka"\/j=zZ "kb")/\∀a b c:Od,(zX (eT (zC "ka" (zC "kb" eB))) (d2 gq (zX (bb 0) (d2 fC (zI 2) (bb 2))) (bb 2))) [Y d,a,Y (.int ((2:Nat):Int)),b,c]=Y (sU (Y j)):=by
   have m:=λa b c=>gU (m:=2) (jx (i:=4) (ρ:=[Y d,a,Y (.int ((2:Nat):Int)),b,c]) (A:=bb 0) (B:=d2 fC (zI 2) (bb 2)) rfl rfl Vc) (show bb 2 [Y d,a,Y (.int ((2:Nat):Int)),b,c]=Y (.int 2) from rfl) (by omega);have h:x3 % 2=0\/x3 % 2=1:=by omega
   rcases h with h|h<;>rw[h] at m
   ·exact⟨_,.inl rfl,λa b c=>by rw[pY,m];kernel_rfl⟩
   ·exact⟨_,.inr rfl,λa b c=>by rw[pY,m];kernel_rfl⟩
  obtain⟨j,hj,E⟩:=E;obtain⟨FN,h3,hf⟩:∃FN,(⟨zZ "kc",Y j,FN⟩:KR)∈Jf/\gX il iq [Y (sU (Y j))] (own.map .str)=Y (FN.map .str):=by
   simp only[o7,ag,aV,cb] at h1;rcases hj with rfl|rfl<;>rcases h1 with rfl|rfl|rfl
   ·exact⟨[],by simp[Jf],by kernel_rfl⟩
   ·exact⟨[zZ "h"],by simp[Jf],by kernel_rfl⟩
   ·exact⟨[zZ "h"],by simp[Jf],by kernel_rfl⟩
   ·exact⟨[],by simp[Jf],by kernel_rfl⟩
   ·exact⟨[zZ "h"],by simp[Jf],by kernel_rfl⟩
   ·exact⟨[zZ "h"],by simp[Jf],by kernel_rfl⟩
  exact⟨_,h3,_,_,fw (rm acc 2 e o) (fw (ρ1:=[Y d,Y (.list acc),Y (.int ((2:Nat):Int)),Y (sU (Y j)),o]) (jW (by rw[T,hb]) (fW (E _ _ _))) (ow acc ha (el:=Y j) (h2 _ _) hf hl (zK 0)))⟩
end
noncomputable def xV:Fl->List KR->Option Fl
 |F,[]=>Y F
 |F,r::ks=>if decide (r.nm∈F.map (·.1)) then Z else match (match r.el with|none=>Y []|some j=>F.lookup j) with
  |none=>Z
  |some inh=>if decide ((inh++r.own).Nodup)&&decide (inh.length+r.own.length<=90)&&decide (r.own.length<=6) then xV (F++[(r.nm,inh++r.own)]) ks else Z
theorem vw{β:Type}{w:Str}{v:β}:∀{a:List (Str×β)},a.lookup w=Y v->(w,v)∈a
 |[],h=>by simp at h
 | (k,u)::a,h=>by
  rw[bh] at h;cases q:w==k with
  |true=>rw[q] at h;injection h with h;subst h;rw[eq_of_beq q];simp
  |false=>rw[q] at h;exact aj _ (vw h)
theorem DV:∀{d:List KR}{F c:Fl},xV F d=Y c->Qo F d c
 |[],F,c,h=>by injection h with h;subst h;exact .nil F
 |r::d,F,c,h=>by
  rw[xV] at h;split at h
  ·cases h
  ·rename_i e;split at h
   ·cases h
   ·rename_i inh a;split at h
    ·rename_i b;simp only[bD,bR] at b;refine .cons (inh:=inh) (by simpa using e) ?_ b.1.1 b.1.2 b.2 (DV h);cases q:r.el with
     |none=>rw[q] at a;injection a with a;exact a.symm
     |some j=>rw[q] at a;exact vw a
    ·cases h
noncomputable def X1(r:KR):Bool:=decide (r.nm∈o6)&&(r.el.all λj=>decide (j∈o6))&&(r.own.all λw=>decide (w∈o6))&&((hH r).all mJ)&&decide ((hH r).length<=12)
theorem Qr{r:KR}(h:X1 r=true):KV r/\GR (hH r):=by simp only[X1,bD,bR,aU] at h;obtain⟨⟨⟨⟨f,a⟩,d⟩,c⟩,b⟩:=h;refine⟨⟨f,λj e=>?_,d⟩,by simp[hH],c,b⟩;rw[e] at a;simpa using a
theorem Vd:((Qq++MF++Jf).all X1)=true:=by decide +kernel
theorem kr1:(Qq.all λa=>(xV [] [a]).isSome)=true:=by decide +kernel
theorem kr2:(Qq.all λa=>MF.all λb=>(xV [] [a,b]).isSome)=true:=by decide +kernel
theorem kr3:(Qq.all λa=>MF.all λb=>Jf.all λc=>(xV [] [a,b,c]).isSome)=true:=by decide +kernel
structure yS (ks:List KR):Prop where
 rd:∃F',Qo [] ks F'
 kv:∀r∈ks,KV r
 gr:∀r∈ks,GR (hH r)
 ne:ks≠[]
 len:ks.length<=3
 nm:∀r∈ks,r.nm∈kN
 ka:zZ "ka"∈ks.map (·.nm)
theorem FP:∀r∈Qq,r.nm=zZ "ka":=by intro r a;obtain⟨o,_,rfl⟩:=aq.mp a;rfl
theorem Ve:((Qq++MF++Jf).all λr=>decide (r.nm∈kN))=true:=by decide +kernel
theorem LY{c:List KR}(e:∀r∈c,r∈Qq++MF++Jf)(j:(xV [] c).isSome=true)(i:c≠[])(h:c.length<=3)(g:zZ "ka"∈c.map (·.nm)):yS c:=by have a:=aU.mp Vd;have b:=aU.mp Ve;obtain⟨k,f⟩:=Option.isSome_iff_exists.mp j;exact⟨⟨k,DV f⟩,λr d=>(Qr (a r (e r d))).1,λr d=>(Qr (a r (e r d))).2,i,h,λr d=>by simpa using b r (e r d),g⟩
theorem kx{a:Tg}{g:c5->Option Out}{ρ' ρ1:c5}(b:qt a d ρ=Y ρ')(h:g ρ'=Y (.nx ρ1))(e:js (qt a) g ds ρ1=o):js (qt a) g (d::ds) ρ=o:=by rw[ib (ρ1:=ρ1) (by rw[b];exact h),e]
theorem LZ(u:yi d):∃q,yS q/\mE [d]=Y (zk q):=by
 obtain⟨t,D⟩:=u.at 0 (by omega);have m:∀a b c e:Od,d2 fC (zI 1) (d2 gq (zX (bb 0) (zI 0)) (zI 3)) [Y d,a,b,c,e]=Y (.int (1+t % 3)):=λa b c e=>by rw[fA (o:=fC) (A:=dC (.int 1)) rfl (gU (m:=3) (jx (i:=0) (A:=bb 0) (B:=dC (.int 0)) rfl rfl D) rfl (by omega))];rfl
 obtain⟨f,j,F,C,x⟩:=O9 u [] (by simp) Z Z;have s:∀(n:Nat) (q:List KR) (k e o:Od),n<=3->(1+t % 3=(n:Int))->js (qt (.one 2)) ir ((List.range' 0 n).map λ(i:Nat)=>fe.int (i:Int)) [Y d,Y (.list []),Z,Z,Z]=Y (.nx [Y d,Y (zk q),k,e,o])->mE [d]=Y (zk q):=λn q k e o M J K=>by
  have g:qL [Y d,Z,Z,Z,Z]=Y (.rt (zk q)):=by refine fw (ρ1:=[Y d,Y (.list []),Z,Z,Z]) rfl (fw (rM (xK (n:=n) (by omega) _ _ ?_) K) rfl);rw[<-J];exact m _ _ _ _
  rw[mE,jN,gO];show mS (qL [Y d,Z,Z,Z,Z])=_;rw[g,iC]
 have h:t % 3=0\/t % 3=1\/t % 3=2:=by omega
 rcases h with h|h|h
 ·refine⟨[f],LY ?_ (aU.mp kr1 f j) (by simp) (by simp) (by simp[FP f j]),s 1 [f] (Y (.int 0)) F C (by omega) (by omega) ?_⟩
  ·intro r p;simp at p;subst p;simp[j]
  ·show js (qt (.one 2)) ir [.int ((0:Nat):Int)] _=_;exact kx rfl x rfl
 ·obtain⟨l,v,E,z,w⟩:=Ht u ([]++[wo f]) (by simp) F C;refine⟨[f,l],LY ?_ (aU.mp (aU.mp kr2 f j) l v) (by simp) (by simp) (by simp[FP f j]),s 2 [f,l] (Y (.int 1)) E z (by omega) (by omega) ?_⟩
  ·intro r p;simp at p;rcases p with rfl|rfl<;>simp[j,v]
  ·show js (qt (.one 2)) ir [.int ((0:Nat):Int),.int ((1:Nat):Int)] _=_;exact kx rfl x (kx rfl w rfl)
 ·obtain⟨l,v,E,z,w⟩:=Ht u ([]++[wo f]) (by simp) F C;obtain⟨y,G,L,I,H⟩:=Pa u ([]++[wo f]++[wo l]) (by simp) E z;refine⟨[f,l,y],LY ?_ (aU.mp (aU.mp (aU.mp kr3 f j) l v) y G) (by simp) (by simp) (by simp[FP f j]),s 3 [f,l,y] (Y (.int 2)) L I (by omega) (by omega) ?_⟩
  ·intro r p;simp at p;rcases p with rfl|rfl|rfl<;>simp[j,v,G]
  ·show js (qt (.one 2)) ir [.int ((0:Nat):Int),.int ((1:Nat):Int),.int ((2:Nat):Int)] _=_;exact kx rfl x (kx rfl w (kx rfl H rfl))
noncomputable def mN:Lr:=["m","n"].map Str.ofString
noncomputable def fN:Lr:=["fa","fb","fc"].map Str.ofString
noncomputable def fF(h:Hd):fe:=.tuple [.str (h.key.nm _root_.id),wl h.ps,wl h.ks]
local macro_rules
| `(zh $k) => `(.list (($k).map fF))
def Eg:Hk->Prop
 |.k9 k m=>k∈kN/\m∈mN
 |.func f=>f∈fN
structure HI (K:Lr) (n:Nat) (hs:List Hd):Prop where
 len:hs.length=n
 hv:∀h∈hs,HV K h
 kk:∀h∈hs,Eg h.key
 nd:(hs.map (·.key)).Nodup
 fn:∀h∈hs,∀f,h.key=.func f->f∈fN.take n
theorem IT:∀w∈kN,w∈o6:=by
 have:(kN.all λw=>decide (w∈o6))=true:=by decide +kernel
 simpa using this
theorem L1:∀w∈mN,w∈o6:=by
 have:(mN.all λw=>decide (w∈o6))=true:=by decide +kernel
 simpa using this
theorem Pb:∀w∈fN,w∈o6:=by
 have:(fN.all λw=>decide (w∈o6))=true:=by decide +kernel
 simpa using this
noncomputable def Y6(a b:Lr):Bool:=(a.all λw=>decide (w∈o6))&&(b.all λw=>decide (w∈o6))&&decide ((a++b).Nodup)&&decide (zZ "k"∉a)&&decide (a.length<=2)&&decide (b.length<=2)
theorem SH:((o7 "p" "q").all λa=>(o7 "k" "l").all λb=>Y6 a b)=true:=by decide +kernel
theorem Qs{K:Lr}{a:Hk}{b c:Lr}(g:match a with | .k9 k m=>k∈K/\k∈o6/\m∈o6 | .func f=>f∈o6)(e:b∈o7 "p" "q")(d:c∈o7 "k" "l"):HV K ⟨a,b,c⟩:=by have h:=aU.mp (aU.mp SH b e) c d;simp only[Y6,bD,bR,aU] at h;obtain⟨⟨⟨⟨⟨p,o⟩,n⟩,l⟩,j⟩,i⟩:=h;exact⟨g,p,o,n,l,j,i⟩
theorem SI(r:KR):gm (wo r) (.int 0)=Y (.str r.nm):=by rw[wo,VO,wh]
theorem MG(h:Hd):gm (fF h) (.int 0)=Y (.str (h.key.nm _root_.id)):=by rw[fF,VO,wh]
theorem X2(h:Hd):gm (fF h) (.int 1)=Y (wl h.ps):=by rw[fF,VO,MC]
theorem hd2(h:Hd):gm (fF h) (.int 2)=Y (wl h.ks):=by rw[fF,VO,XR]
theorem xW(T:c5->Option Bool)(C:c5->Od)(b:T=λ_=>Y true)(c:C=d2 gm (bb 0) (zI 0)):∀a:List Hd,gX T C [] (a.map fF)=Y ((a.map λh=>h.key.nm _root_.id).map .str)
 |[]=>rfl
 |h::a=>by
  have d:=xW T C b c a;have e:C [Y (fF h)]=Y (.str (h.key.nm _root_.id)):=by rw[c];simp? only[MG]
  have f:T [Y (fF h)]=Y true:=by rw[b]
  rw[ae,gX,f]
  simp? only[e,d]
theorem FQ{a:Hk}(h:Eg a):fe.strOk (a.nm _root_.id)=true:=by
 cases a with
 |k9 k m=>exact BH (kr _ (IT _ h.1)) (kr _ (L1 _ h.2))
 |func f=>exact mG (kr _ (Pb _ h))
theorem u4{a:List KR}(e:yS a)(x:Int):∃r∈a,gm (zk a) (.int (x % (a.length:Int)))=Y (wo r):=by obtain⟨d,f,b⟩:=xS (a.map wo) (by simpa using e.ne) x;obtain⟨r,c,rfl⟩:=aq.mp f;rw[ah] at b;exact⟨r,c,b⟩
theorem u5(a:List KR):gR [.list (a.map wo)]=Y (.int (a.length:Int)):=by rw[k8,ah]
theorem eq2(x:Int):∃b,iS (.int (x % 2)) (.int 0)=Y (.bool b):=⟨_,MD _ _⟩
section
variable (hd:yi d) {ks:List KR} (hk:yS ks)
include hd hk in
theorem FR(hn:n<3){hs:List Hd}(H:HI (ks.map (·.nm)) n hs)(p m:Od):∃h,HI (ks.map (·.nm)) (n+1) (hs++[h])/\∃p' m',nX [Y d,Y (zk ks),Y (zh hs),Y (.int (n:Int)),p,m]=Y (.nx [Y d,Y (zk ks),Y (.list ((hs++[h]).map fF)),Y (.int (n:Int)),p',m']):=by
 obtain⟨x1,SG⟩:=hd.at (1+n) (by omega);obtain⟨x4,X3⟩:=hd.at (4+n) (by omega);obtain⟨x7,VS⟩:=hd.at (7+n) (by omega);obtain⟨Y7,X4⟩:=hd.at (10+n) (by omega);have Vf:∀(i:Int) (j:Nat) (_:i+(n:Int)=(j:Int)) (x:Int) (a b c e:Od),gm d (.int (j:Int))=Y (.int x)->d2 gm (bb 0) (d2 fC (zI i) (bb 3)) [Y d,a,b,Y (.int (n:Int)),c,e]=Y (.int x):=λi j hij x a b c e h=>by refine jx (i:=j) (A:=bb 0) rfl ?_ h;show Y (fe.int _)=_;rw[hij]
 obtain⟨ps,Y8,eps⟩:=xU "p" "q" x1;obtain⟨kq,hkq,ekq⟩:=xU "k" "l" x7;obtain⟨r,hr,er⟩:=u4 hk x4;obtain⟨mm,Vg,em⟩:=xT mN (by simp[mN]) x7;have lk:=hk.ne;have Vh:(0:Int)<(ks.length:Int):=by have:=br.mpr lk;omega
 have rn:=hk.nm r hr;have nr:=kr _ (IT _ rn);have nm:=kr _ (L1 _ Vg);have l1:=(ma.mp nr).2.1;have l2:=(ma.mp nm).2.1;have ld:(zZ ".").length=1:=by decide +kernel
 have a1:=Ly r.nm (zZ ".") (by omega);have a2:=Ly (r.nm++zZ ".") mm (by rw[cM];omega);have a3:r.nm++zZ "."++mm=jQ r.nm mm:=by rw[jQ,Str.append_assoc]
 rw[a3] at a2;have S1:(fO [2] (gz (eT (zC "p" (zC "q" eB))) iL (gM (d2 gq (zX (bb 0) (d2 fC (zI 1) (bb 3))) (zI 3))))) [Y d,Y (zk ks),Y (zh hs),Y (.int (n:Int)),p,m]=Y (wl ps):=by rw[lN,tZ,qu];show gz _ _ _ [Y d,Y (zk ks),Z,Y (.int (n:Int)),p,m]=_;exact(DU (a:=wl [zZ "p",zZ "q"]) rfl (gU (m:=3) (C:=dC (.int 3)) (Vf 1 (1+n) (by omega) x1 _ _ _ _ SG) rfl (by omega))).trans eps
 have S2:(fO [2] (d2 fC (d2 fC (zX (zX (bb 1) (d2 gq (zX (bb 0) (d2 fC (zI 4) (bb 3))) (zN (bb 1)))) (zI 0)) (zA ".")) (zX (eT (zC "m" (zC "n" eB))) (d2 gq (zX (bb 0) (d2 fC (zI 7) (bb 3))) (zI 2))))) [Y d,Y (zk ks),Y (zh hs),Y (.int (n:Int)),Y (wl ps),m]=Y (.str (jQ r.nm mm)):=by rw[lN,tZ,qu];show d2 _ _ _ [Y d,Y (zk ks),Z,Y (.int (n:Int)),Y (wl ps),m]=_;have q1:gF gR (zQ (bb 1)) [Y d,Y (zk ks),Z,Y (.int (n:Int)),Y (wl ps),m]=Y (.int (ks.length:Int)):=u5 ks;have q2:=fA (o:=gm) (A:=bb 1) (a:=.list (ks.map wo)) (ρ:=[Y d,Y (zk ks),Z,Y (.int (n:Int)),Y (wl ps),m]) rfl (gU (Vf 4 (4+n) (by omega) x4 (Y (zk ks)) Z (Y (wl ps)) m X3) q1 Vh);rw[er] at q2;have q3:=fA (o:=gm) (B:=dC (.int 0)) q2 rfl;rw[SI] at q3;have q4:=fA (o:=fC) (B:=dC (.str ".")) q3 rfl;rw[a1] at q4;have q5:=fA (o:=gm) (A:=eT (zC "m" (zC "n" eB))) (a:=wl mN) (ρ:=[Y d,Y (zk ks),Z,Y (.int (n:Int)),Y (wl ps),m]) rfl (gU (m:=2) (C:=dC (.int 2)) (Vf 7 (7+n) (by omega) x7 (Y (zk ks)) Z (Y (wl ps)) m VS) rfl (by omega));have em':gm (wl mN) (.int (x7 % 2))=Y (.str mm):=em;rw[em'] at q5;rw[fA q4 q5,a2]
 obtain⟨b,hb⟩:=eq2 Y7;have c1:=xW lD lE rfl rfl hs;have VJ:=H.len;have c2:iG (lQ (bb 2)) [] lD lE [Y d,Y (zk ks),Y (zh hs),Y (.int (n:Int)),Y (wl ps),Y (.str (jQ r.nm mm))]=Y (wl (hs.map λh=>h.key.nm _root_.id)):=nB (ds:=hs.map fF) rfl (by rw[ah];omega) c1;have c3:=oQ (x:=jQ r.nm mm) (ys:=hs.map λh=>h.key.nm _root_.id) (BH nr nm) (λw hw=>by obtain⟨h,hh,rfl⟩:=aq.mp hw;exact FQ (H.kk h hh));have hkn:r.nm∈ks.map (·.nm):=aq.mpr ⟨r,hr,rfl⟩;have T:(iT (fB (d2 iS (d2 gq (zX (bb 0) (d2 fC (zI 10) (bb 3))) (zI 2)) (zI 0))) (fB (d2 ki (bb 5) (iG (lQ (bb 2)) [] lD lE)))) [Y d,Y (zk ks),Y (zh hs),Y (.int (n:Int)),Y (wl ps),Y (.str (jQ r.nm mm))]=Y (b&&!decide (jQ r.nm mm∈hs.map λh=>h.key.nm _root_.id)):=by
  have q1:=fA (o:=iS) (B:=dC (.int 0)) (gU (m:=2) (C:=dC (.int 2)) (Vf 10 (10+n) (by omega) Y7 (Y (zk ks)) (Y (zh hs)) (Y (wl ps)) (Y (.str (jQ r.nm mm))) X4) rfl (by omega)) rfl;rw[hb] at q1;have q2:=fA (o:=ki) (A:=bb 5) (a:=.str (jQ r.nm mm)) rfl c2;rw[jP,c3] at q2;rw[oP,lZ,q1];cases b with
  |false=>rfl
  |true=>simp only[aD,xF,lZ,q2,bW,Bool.true_and]
 cases hB:(b&&!decide (jQ r.nm mm∈hs.map λh=>h.key.nm _root_.id)) with
 |true=>
  refine⟨⟨.k9 r.nm mm,ps,[]⟩,?_,Y (wl ps),Y (.str (jQ r.nm mm)),?_⟩
  ·simp only[bD,Bool.not_eq_true',eK] at hB;refine⟨by simp[VJ],λh hh=>?_,λh hh=>?_,?_,λh hh f e=>?_⟩
   ·rcases aw.mp hh with hh|hh
    ·exact H.hv h hh
    ·simp at hh;subst hh;exact Qs ⟨hkn,IT _ rn,L1 _ Vg⟩ Y8 (by simp[o7])
   ·rcases aw.mp hh with hh|hh
    ·exact H.kk h hh
    ·simp at hh;subst hh;exact⟨rn,Vg⟩
   ·rw[aK,a7];refine⟨H.nd,by simp,λa ha b' Jg e=>?_⟩;simp at Jg;subst Jg;subst e;obtain⟨h,hh,e⟩:=aq.mp ha;exact hB.2 (aq.mpr ⟨h,hh,by rw[e];rfl⟩)
   ·rcases aw.mp hh with hh|hh
    ·have:=H.fn h hh f e;rw[d7];exact aC _ this
    ·simp at hh;subst hh;cases e
  ·refine fw (fW S1) (fw (fW S2) (jW (T.trans (by rw[hB])) ?_));rw[aK];exact ud (ρ:=[Y d,Y (zk ks),Y (zh hs),Y (.int (n:Int)),Y (wl ps),Y (.str (jQ r.nm mm))]) (i:=2) rfl (by rw[ah];omega) rfl
 |false=>
  have hf:fN[n]?=Y (fN.getD n default):=by
   rw[List.getD_eq_getElem?_getD];have h2:n<fN.length:=by rw[show fN.length=3 by decide];exact hn
   rw[aO h2];rfl
  have Qd:fN.getD n default∈fN:=cP hf;refine⟨⟨.func (fN.getD n default),ps,kq⟩,?_,Y (wl ps),Y (.str (jQ r.nm mm)),?_⟩
  ·refine⟨by simp[VJ],λh hh=>?_,λh hh=>?_,?_,λh hh f e=>?_⟩
   ·rcases aw.mp hh with hh|hh
    ·exact H.hv h hh
    ·simp at hh;subst hh;exact Qs (Pb _ Qd) Y8 hkq
   ·rcases aw.mp hh with hh|hh
    ·exact H.kk h hh
    ·simp at hh;subst hh;exact Qd
   ·rw[aK,a7];refine⟨H.nd,by simp,λa ha b' Jg e=>?_⟩;simp at Jg;subst Jg;subst e;obtain⟨h,hh,e⟩:=aq.mp ha;have h5:=H.fn h hh _ e;have key:∀n<3,decide (fN.getD n default∈fN.take n)=false:=by decide +kernel
    have k0:=key n hn;rw[eK] at k0;exact k0 h5
   ·rcases aw.mp hh with hh|hh
    ·have:=H.fn h hh f e;rw[d7];exact aC _ this
    ·simp at hh;subst hh;injection e with e
     subst e;rw[d7,hf];simp
  ·refine fw (fW S1) (fw (fW S2) (iz (T.trans (by rw[hB])) ?_));rw[aK];refine ud (ρ:=[Y d,Y (zk ks),Y (zh hs),Y (.int (n:Int)),Y (wl ps),Y (.str (jQ r.nm mm))]) (i:=2) rfl (by rw[ah];omega) ?_;rw[lN,tZ,qu];show iQ _ [Y d,Y (zk ks),Z,Y (.int (n:Int)),Y (wl ps),Y (.str (jQ r.nm mm))]=_;have q1:d2 gm (eT (zC "fa" (zC "fb" (zC "fc" eB)))) (bb 3) [Y d,Y (zk ks),Z,Y (.int (n:Int)),Y (wl ps),Y (.str (jQ r.nm mm))]=Y (.str (fN.getD n default)):=by
    rw[fA (a:=wl fN) (b:=.int (n:Int)) rfl rfl,sj,Oz,aJ,hf];rfl
   have q2:=DU (A:=eT (zC "k" (zC "l" eB))) (a:=wl [zZ "k",zZ "l"]) rfl (gU (m:=3) (C:=dC (.int 3)) (Vf 7 (7+n) (by omega) x7 (Y (zk ks)) Z (Y (wl ps)) (Y (.str (jQ r.nm mm))) VS) rfl (by omega));rw[ekq] at q2;have q2':(gz (eT (zC "k" (zC "l" eB))) iL (gM (d2 gq (zX (bb 0) (d2 fC (zI 7) (bb 3))) (zI 3)))) [Y d,Y (zk ks),Z,Y (.int (n:Int)),Y (wl ps),Y (.str (jQ r.nm mm))]=Y (wl kq):=q2;rw[GS,fz,q1,fz,fz,q2'];rfl
include hd hk in
theorem xX:∀(m n:Nat) (hs:List Hd) (k p q:Od),n+m<=3->HI (ks.map (·.nm)) n hs->∃Ny,HI (ks.map (·.nm)) (n+m) Ny/\∃k' p' q',js (qt (.one 3)) nX ((List.range' n m).map λ(i:Nat)=>fe.int (i:Int)) [Y d,Y (zk ks),Y (zh hs),k,p,q]=Y (.nx [Y d,Y (zk ks),Y (zh Ny),k',p',q'])
 |0,n,hs,k,p,q,_,H=>⟨hs,H,k,p,q,rfl⟩
 |m+1,n,hs,k,p,q,hn,H=>by obtain⟨h,H1,p1,q1,s1⟩:=FR hd hk (n:=n) (by omega) H p q;obtain⟨Ny,H2,k',p',q',e⟩:=xX m (n+1) (hs++[h]) (Y (.int (n:Int))) p1 q1 (by omega) H1;refine⟨Ny,by rwa[show n+(m+1)=n+1+m by omega],k',p',q',?_⟩;rw[dF,ae];exact kx rfl s1 e
include hd hk in
theorem BO:∃hs n,n<=3/\HI (ks.map (·.nm)) n hs/\oF [d,.list (ks.map wo)]=Y (zh hs):=by
 obtain⟨x0,X5⟩:=hd.at 0 (by omega);have hr:((x0 % 4).toNat:Int)=x0 % 4:=e9 (by omega);have hn:(x0 % 4).toNat<=3:=by omega
 obtain⟨hs,H,k',p',q',e⟩:=xX hd hk (x0 % 4).toNat 0 [] Z Z Z (by omega) ⟨rfl,by simp,by simp,by simp,by simp⟩;refine⟨hs,_,hn,by rwa[dn] at H,?_⟩;have g:qM [Y d,Y (zk ks),Z,Z,Z,Z]=Y (.rt (zh hs)):=by refine fw (ρ1:=[Y d,Y (zk ks),Y (.list []),Z,Z,Z]) rfl (fw (rM (xK (n:=(x0 % 4).toNat) (by omega) _ _ ?_) e) rfl);rw[hr];exact gU (m:=4) (jx (i:=0) (A:=bb 0) (B:=dC (.int 0)) rfl rfl X5) rfl (by omega)
 rw[oF,jN,gO];show mS (qM [Y d,Y (zk ks),Z,Z,Z,Z])=_;rw[g,iC]
end
def Vi:Hk->Bool
 |.k9 _ _=>true
 |.func _=>false
theorem Pc{a:Hk}(h:Eg a):kR (.str (zZ ".")) (.str (a.nm _root_.id))=Y (Vi a):=by
 cases a with
 |k9 k m=>obtain⟨b,c⟩:=h;simp only[kN,mN,ae,a9,ag,aV,cb] at b c;rcases b with rfl|rfl|rfl<;>rcases c with rfl|rfl<;>kernel_rfl
 |func f=>have b:f∈fN:=h;simp only[fN,ae,a9,ag,aV,cb] at b;rcases b with rfl|rfl|rfl<;>kernel_rfl
theorem DW{k m:Str}(h:Eg (.k9 k m)):kT (.str (jQ k m)) [.str (zZ ".")]=Y (.tuple [.str k,.str (zZ "."),.str m]):=by obtain⟨b,a⟩:=h;simp only[kN,mN,ae,a9,ag,aV,cb] at b a;rcases b with rfl|rfl|rfl<;>rcases a with rfl|rfl<;>kernel_rfl
def wq(h:Hd):Bool:=Vi h.key
local macro_rules
| `(zm $k) => `((($k).filter fun h => !wq h).map fF)
theorem BP{h:Hd}(k:Eg h.key):kR (.str (zZ ".")) (.str (h.key.nm _root_.id))=Y (wq h):=Pc k
theorem SJ{T:c5->Option Bool}{C:c5->Od}{p:Hd->Bool}{f:Hd->fe}:∀{hs:List Hd},(∀h∈hs,T [Y (fF h)]=Y (p h)/\C [Y (fF h)]=Y (f h))->gX T C [] (hs.map fF)=Y ((hs.filter p).map f)
 |[],_=>rfl
 |h::hs,q=>by
  have a:=SJ (T:=T) (C:=C) (p:=p) (f:=f) λx (d:x∈hs)=>q x (by simp[d]);obtain⟨c,b⟩:=q h (by simp);rw[ae,gX,c];cases e:p h with
  |false=>rw[List.filter_cons_of_neg (by simp[e])];simpa using a
  |true=>rw[List.filter_cons_of_pos e,ae];simp[b,a]
theorem u6{a:Lr}(h:∀w∈a,fe.strOk w=true):fe.canLayAll0 (a.map .str)=true:=by rw[dQ];simpa using h
theorem FT{w:Str}(h:w∈o6):fe.strOk w=true:=mG (kr w h)
theorem uh{K:Lr}:∀{d:List Hd},(∀h∈d,HV K h/\Eg h.key)->fe.canLayAll0 (d.map fF)=true/\fe.depthAll (d.map fF)<=2
 |[],_=>by simp[fe.canLayAll0,fe.depthAll]
 |h::d,q=>by
  obtain⟨e,g⟩:=uh λx (f:x∈d)=>q x (by simp[f]);obtain⟨v,k⟩:=q h (by simp);have a:=FQ k;have b:=u6 λw hw=>FT (v.ps w hw);have c:=u6 λw hw=>FT (v.ks w hw);constructor
  ·rw[ae,fe.canLayAll0,e];simp[fF,fe.canLay0,fe.canLayAll0,a,b,c]
  ·rw[ae,fe.depthAll];have:fe.depth (fF h)<=2:=by simp[fF,fe.depth,fe.depthAll,p0]
   omega
theorem DX{K:Lr}{b:List Hd}(q:∀h∈b,HV K h/\Eg h.key):mK (zh b) (.list [])=Y (.bool (!b.isEmpty)):=by
 obtain⟨e,f⟩:=uh q;have d:SeqAt.shaped (zh b)=true:=by
  have:fe.depth (zh b)<=64:=by rw[fe.depth];omega
  simp[SeqAt.shaped,fe.canLay0,e,this]
 have c:SeqAt.shaped (.list [])=true:=by rfl
 rw[mK,ai ⟨d,c⟩];cases b with
 |nil=>rfl
 |cons a l=>rw[ae,fe.eqv,fe.eqvAll];rfl
theorem L3{ws:Lr}(q:∀w∈ws,fe.strOk w=true):mK (wl ws) (.list [])=Y (.bool (!ws.isEmpty)):=by
 have:=Sh (bs:=[]) q (by simp);cases ws with
 |nil=>exact this
 |cons a l=>rw[aA (by simp)] at this;exact this
theorem jy{w:String}{r:Lr}(h:mJ (zZ w)=true)(a:∀v∈r,mJ v=true)(b:r.length<=11):GR (zZ w::r):=by
 refine⟨by simp,λv hv=>?_,by simp;omega⟩;rcases ag.mp hv with rfl|hv
 ·exact h
 ·exact a v hv
noncomputable def MH:List String:=["new","copy","take","put","ask","do","new","func","tell","if","while","end","else","push","pull","row","give","take","put","ask","do","end","rest","copy","straight","check","fresh","own","place"]
theorem Pd(f:yi d):∃w∈MH,kW [d,.bool true]=Y (.str (zZ w)):=by
 obtain⟨x,b⟩:=f.at 0 (by omega);obtain⟨w,hw,e⟩:=xT (MH.map Str.ofString) (by simp[MH]) x;obtain⟨s,c,rfl⟩:=aq.mp hw;refine⟨s,c,?_⟩;have g:sC [Y d,Y (.bool true),Z]=Y (.rt (.str (zZ s))):=by refine fw (ρ1:=[Y d,Y (.bool true),Y (wl ((MH.take 14).map Str.ofString))]) (zK 0) (fw (ρ1:=[Y d,Y (.bool true),Y (wl ((MH.take 24).map Str.ofString))]) (zK 0) (fw (ρ1:=[Y d,Y (.bool true),Y (wl (MH.map Str.ofString))]) (zK 0) ?_));rw[lS,fA (o:=gm) (A:=bb 2) (a:=wl (MH.map Str.ofString)) rfl (gU (jx (i:=0) (A:=bb 0) (B:=dC (.int 0)) rfl rfl b) (show gF gR (zQ (bb 2)) [Y d,Y (.bool true),Y (wl (MH.map Str.ofString))]=Y (.int ((MH.map Str.ofString).length:Int)) by rw[sM];kernel_rfl) (by decide)),e];rfl
 rw[kW,jN,gO];show mS (sC [Y d,Y (.bool true),Z])=_;rw[g,iC]
section
variable (hd:yi d) {ns:Lr} (hn:ns≠[]) (hN:∀w∈ns,mJ w=true)
include hd hn in
theorem Ab(i a b:Nat)(hi:i<14)(ii:Int)(hii:ii=(i:Int)):∃w∈ns,∀ρ:c5,(ρ[a]?).join=Y d->(ρ[b]?).join=Y (wl ns)->(fO [] (zX (bb b) (d2 gq (zX (bb a) (zI ii)) (zN (bb b))))) ρ=Y (.str w):=by
 subst hii;obtain⟨x,hx⟩:=hd.at i hi;obtain⟨w,hw,e⟩:=xT ns hn x;refine⟨w,hw,λρ h1 h2=>?_⟩;have hl:0<ns.length:=br.mpr hn;have l1:gF gR (zQ (bb b)) ρ=Y (.int (ns.length:Int)):=by rw[sM,fz,tX,h2,jV];simp only[aD,k8,ah]
 rw[lN,qu,fA (A:=bb b) h2 (gU (jx (i:=i) (A:=bb a) (B:=dC (.int (i:Int))) h1 rfl hx) l1 (by omega)),e]
include hd hn in
theorem Qt(k:Nat)(hk:k<2):∃w∈ns,kL [Y (.int (k:Int)),Y (wl ns),Y d]=Y (.str w):=by
 obtain⟨x,hx⟩:=hd.at (8+k) (by omega);obtain⟨w,hw,e⟩:=xT ns hn (x+5*(k:Int));refine⟨w,hw,?_⟩;have hl:0<ns.length:=br.mpr hn;have l1:gF gR (zQ (bb 1)) [Y (.int (k:Int)),Y (wl ns),Y d]=Y (.int (ns.length:Int)):=by show gR [wl ns]=_;rw[k8,ah]
 have q1:=jx (i:=8+k) (A:=bb 2) (B:=d2 fC (zI 8) (bb 0)) (ρ:=[Y (.int (k:Int)),Y (wl ns),Y d]) rfl (by show Y (fe.int _)=_;rw[show (8:Int)+(k:Int)=((8+k:Nat):Int) by omega]) hx;have q2:d2 se (zI 5) (bb 0) [Y (.int (k:Int)),Y (wl ns),Y d]=Y (.int (5*(k:Int))):=O6 (Qp (by omega) (by omega)) (Qp (by omega) (by omega));have q3:d2 fC (zX (bb 2) (d2 fC (zI 8) (bb 0))) (d2 se (zI 5) (bb 0)) [Y (.int (k:Int)),Y (wl ns),Y d]=Y (.int (x+5*(k:Int))):=fA q1 q2;rw[kL,fA (A:=bb 1) (a:=wl ns) rfl (gU q3 l1 (by omega)),e]
include hd hn in
theorem Ac(n:Nat)(h:n<=2):∃ha:Lr,ha.length=n/\(∀w∈ha,w∈ns)/\ig [d,wl ns,.int (n:Int)]=Y (wl ha):=by
 obtain⟨a,ha,ea⟩:=Qt hd hn 0 (by omega);obtain⟨b,hb,eb⟩:=Qt hd hn 1 (by omega);have key:∀(ha:Lr),gX mO kL [Y (wl ns),Y d] ((List.range' 0 n).map λ(i:Nat)=>fe.int (i:Int))=Y (ha.map .str)->ig [d,wl ns,.int (n:Int)]=Y (wl ha):=λha e=>by
  have g:nq [Y d,Y (wl ns),Y (.int (n:Int))]=Y (.rt (wl ha)):=by rw[nq,lS,nB (xK (n:=n) (by omega) _ (bb 2) rfl) (by simp;omega) e];rfl
  rw[ig,jN,gO];show mS (nq [Y d,Y (wl ns),Y (.int (n:Int))])=_;rw[g,iC]
 have t:∀ρ,mO ρ=Y true:=λ_=>rfl;rcases n with _|_|_|n
 ·exact⟨[],rfl,by simp,key [] rfl⟩
 ·refine⟨[a],rfl,by simpa using ha,key [a] ?_⟩;show gX _ _ _ [.int ((0:Nat):Int)]=_;rw[gX,t];simp only[aD,cQ,ea,gX];rfl
 ·refine⟨[a,b],rfl,?_,key [a,b] ?_⟩
  ·intro w hw;simp at hw;rcases hw with rfl|rfl
   ·exact ha
   ·exact hb
  ·show gX _ _ _ [.int ((0:Nat):Int),.int ((1:Nat):Int)]=_;rw[gX,t];simp only[aD,cQ,ea,gX,t,eb];rfl
 ·omega
include hd hn hN in
theorem Pe:∃c,Ck c/\(∀w∈c,mJ w=true)/\c.length<=3/\hI [d,wl ns]=Y (wl c):=by
 obtain⟨x3,Vc⟩:=hd.at 3 (by omega);obtain⟨x,hx,ex⟩:=Ab hd hn 1 0 1 (by omega) 1 rfl;obtain⟨y,hy,ey⟩:=Ab hd hn 2 0 1 (by omega) 2 rfl;have m:∀o:Od,d2 gq (zX (bb 0) (zI 3)) (zI 3) [Y d,Y (wl ns),o]=Y (.int (x3 % 3)):=λo=>gU (m:=3) (jx (i:=3) (A:=bb 0) (B:=dC (.int 3)) rfl rfl Vc) rfl (by omega);have t:∀(j:Int) (o:Od),fB (d2 iS (d2 gq (zX (bb 0) (zI 3)) (zI 3)) (zI j)) [Y d,Y (wl ns),o]=Y (x3 % 3==j):=λj o=>by rw[lZ,fA (m o) (show dC (.int j) [Y d,Y (wl ns),o]=Y (.int j) from rfl),MD];rfl
 have fin:∀c:Lr,mM [Y d,Y (wl ns),Z]=Y (.rt (wl c))->hI [d,wl ns]=Y (wl c):=λc g=>by rw[hI,jN,gO];show mS (mM [Y d,Y (wl ns),Z])=_;rw[g,iC]
 have s0:=ex [Y d,Y (wl ns),Z] rfl rfl;have Y9:=ey [Y d,Y (wl ns),Y (.str x)] rfl rfl;rw[lN,qu] at Y9;have h:x3 % 3=0\/x3 % 3=1\/x3 % 3=2:=by omega
 rcases h with h|h|h
 ·refine⟨_,.choose,by intro w hw;simp at hw;subst hw;decide +kernel,by simp,fin _ ?_⟩;exact fw (ρ1:=[Y d,Y (wl ns),Y (.str x)]) (by rw[o4,s0];rfl) (ko (jW (by rw[t,h];rfl) rfl))
 ·refine⟨[zZ "some",x],.some,?_,by simp,fin _ ?_⟩
  ·intro w hw;simp at hw;rcases hw with rfl|rfl
   ·decide +kernel
   ·exact hN _ hx
  ·exact fw (ρ1:=[Y d,Y (wl ns),Y (.str x)]) (by rw[o4,s0];rfl) (fw (iz (by rw[t,h];rfl) rfl) (ko (jW (by rw[t,h];rfl) rfl)))
 ·refine⟨[zZ "same",x,y],.same,?_,by simp,fin _ ?_⟩
  ·intro w hw;simp at hw;rcases hw with rfl|rfl|rfl
   ·decide +kernel
   ·exact hN _ hx
   ·exact hN _ hy
  ·refine fw (ρ1:=[Y d,Y (wl ns),Y (.str x)]) (by rw[o4,s0];rfl) (fw (iz (by rw[t,h];rfl) rfl) (fw (iz (by rw[t,h];rfl) rfl) ?_));show fZ _ [Y d,Y (wl ns),Y (.str x)]=_;rw[lS,tY,fz,fz,fz,Y9];rfl
end
theorem VT{p:α->Prop}{a:α}(h:p a):∀v∈[a],p v:=aE.2 ⟨h,nofun⟩
theorem IU{p:α->Prop}{a b:α}(h:p a)(k:p b):∀v∈[a,b],p v:=aE.2 ⟨h,VT k⟩
theorem VU{p:α->Prop}{a b c:α}(h:p a)(k:p b)(l:p c):∀v∈[a,b,c],p v:=aE.2 ⟨h,IU k l⟩
section
variable (hd:yi d) {ks:List KR} (hk:yS ks) (xY:n<=3) {hs:List Hd} (Hi:HI (ks.map (·.nm)) n hs) {ns:Lr} (hn:ns≠[]) (hN:∀w∈ns,mJ w=true)
def FU:c5->Option Out :=
(c7 (iA (fB (d2 mB (bb 0) (iQ (zC "new" (zC "fresh" eB)))))
(fZ (eT (c4 (bb 0) (c4 (bb 5) (zQ (zX (zX (bb 3) (d2 gq (zX (bb 1) (zI 5)) (zN (bb 3)))) (zI 0)))))))
gi)
(c7 (iA (iT (fB (d2 iS (bb 0) (zA "func"))) (fB (d2 mK (bb 8) (eT eB))))
(c7 (fu (fO [] (zX (bb 8) (d2 gq (zX (bb 1) (zI 5)) (zN (bb 8))))) 9)
(fZ (d2 fC (eT (zC "func" (c4 (bb 5) (zQ (zX (bb 9) (zI 0)))))) (hZ 3 ig (c4 (bb 1) (c4 (bb 2) (zQ (zN (zX (bb 9) (zI 2))))))))))
gi)
(c7 (iA (fB (d2 mB (bb 0) (iQ (zC "row" (zC "give" (zC "tell" eB))))))
(fZ (eT (c4 (bb 0) (zQ (bb 5)))))
gi)
(c7 (iA (fB (d2 mB (bb 0) (iQ (zC "take" (zC "own" eB)))))
(fZ (eT (c4 (bb 0) (c4 (bb 5) (c4 (bb 6) (zQ (bb 7)))))))
gi)
(c7 (iA (fB (d2 mB (bb 0) (iQ (zC "put" (zC "place" eB)))))
(fZ (eT (c4 (bb 0) (c4 (bb 6) (c4 (bb 7) (zQ (bb 5)))))))
gi)
(c7 (iA (fB (d2 iS (bb 0) (zA "check")))
(fZ (eT (zC "check" (c4 (bb 6) (zQ (bb 7))))))
gi)
(c7 (iA (fB (d2 mB (bb 0) (iQ (zC "push" (zC "pull" eB)))))
(fZ (eT (c4 (bb 0) (c4 (bb 5) (zQ (bb 6))))))
gi)
(c7 (iA (fB (d2 iS (bb 0) (zA "rest")))
(fZ (eT (zC "rest" eB)))
gi)
(fZ (eT (zC "copy" (c4 (bb 5) (zQ (bb 6))))))))))))))
theorem L4:oH=c7 (fu (fO [] (zX (bb 2) (d2 gq (zX (bb 1) (zI 1)) (zN (bb 2))))) 5) (c7 (fu (fO [] (zX (bb 2) (d2 gq (zX (bb 1) (zI 2)) (zN (bb 2))))) 6) (c7 (fu (fO [] (zX (eT (zC "f" (zC "g" (zC "h" (zC "u" (zC "v" eB)))))) (d2 gq (zX (bb 1) (zI 4)) (zI 5)))) 7) (c7 (fu (fO [] (iG (lQ (bb 4)) [] lH n6)) 8) FU))):=rfl
noncomputable def gN:Lr:=["f","g","h","u","v"].map Str.ofString
theorem Vj:∀w∈gN,mJ w=true:=by
 have:(gN.all mJ)=true:=by decide +kernel
 simpa using this
abbrev Mh(a:List Hd):List (Str×Str):=a.filterMap Te
abbrev Fh(a:List Hd):List (Str×Nat):=a.filterMap SE
noncomputable def sQ:List String:=["new","fresh","func","row","give","tell","take","own","put","place","check","push","pull","rest","copy","if","while","end","else"]
theorem BQ{y f:Str}(l:mJ x=true)(k:mJ y=true)(m:mJ f=true){K:Lr}{M:List (Str×Str)}{Fu:List (Str×Nat)}(a b c e g:Od){w:String}(hw:w∈sQ)(j:w≠"new")(i:w≠"fresh")(h:w≠"func"):∃d r,Rk K M Fu d r/\GR (zZ d::r)/\FU [Y (.str (zZ w)),a,b,c,e,Y (.str x),Y (.str y),Y (.str f),g,Z]=Y (.rt (wl (zZ d::r))):=by
 simp only[sQ,ag,aV,cb] at hw;rcases hw with rfl|rfl|rfl|rfl|rfl|rfl|rfl|rfl|rfl|rfl|rfl|rfl|rfl|rfl|rfl|rfl|rfl|rfl|rfl
 ·exact absurd rfl j
 ·exact absurd rfl i
 ·exact absurd rfl h
 ·exact⟨"row",[x],.row,jy (zD 0) (VT ‹_›) (by simp),zF (zF (zt 0))⟩
 ·exact⟨"give",[x],.give,jy (zD 0) (VT ‹_›) (by simp),zF (zF (zt 0))⟩
 ·exact⟨"tell",[x],.tell,jy (zD 0) (VT ‹_›) (by simp),zF (zF (zt 0))⟩
 ·exact⟨"take",[x,y,f],.take,jy (zD 0) (VU ‹_› ‹_› ‹_›) (by simp),zF (zF (zF (zt 0)))⟩
 ·exact⟨"own",[x,y,f],.own,jy (zD 0) (VU ‹_› ‹_› ‹_›) (by simp),zF (zF (zF (zt 0)))⟩
 ·exact⟨"put",[y,f,x],.put,jy (zD 0) (VU ‹_› ‹_› ‹_›) (by simp),zF (zF (zF (zF (zt 0))))⟩
 ·exact⟨"place",[y,f,x],.place,jy (zD 0) (VU ‹_› ‹_› ‹_›) (by simp),zF (zF (zF (zF (zt 0))))⟩
 ·exact⟨"check",[y,f],.check,jy (zD 0) (IU ‹_› ‹_›) (by simp),zF (zF (zF (zF (zF (zt 0)))))⟩
 ·exact⟨"push",[x,y],.push,jy (zD 0) (IU ‹_› ‹_›) (by simp),zF (zF (zF (zF (zF (zF (zt 0))))))⟩
 ·exact⟨"pull",[x,y],.pull,jy (zD 0) (IU ‹_› ‹_›) (by simp),zF (zF (zF (zF (zF (zF (zt 0))))))⟩
 ·exact⟨"rest",[],.rest,jy (zD 0) (by simp) (by simp),zF (zF (zF (zF (zF (zF (zF (zt 0)))))))⟩
 ·exact⟨"copy",[x,y],.copy,jy (zD 0) (IU ‹_› ‹_›) (by simp),zF (zF (zF (zF (zF (zF (zF (zF ((zK 0)))))))))⟩
 ·exact⟨"copy",[x,y],.copy,jy (zD 0) (IU ‹_› ‹_›) (by simp),zF (zF (zF (zF (zF (zF (zF (zF ((zK 0)))))))))⟩
 ·exact⟨"copy",[x,y],.copy,jy (zD 0) (IU ‹_› ‹_›) (by simp),zF (zF (zF (zF (zF (zF (zF (zF ((zK 0)))))))))⟩
 ·exact⟨"copy",[x,y],.copy,jy (zD 0) (IU ‹_› ‹_›) (by simp),zF (zF (zF (zF (zF (zF (zF (zF ((zK 0)))))))))⟩
 ·exact⟨"copy",[x,y],.copy,jy (zD 0) (IU ‹_› ‹_›) (by simp),zF (zF (zF (zF (zF (zF (zF (zF ((zK 0)))))))))⟩
include Hi in
theorem xZ:gX lH n6 [] (hs.map fF)=Y (zm hs):=by
 refine SJ λh hh=>⟨?_,rfl⟩
 have e:=BP (Hi.kk h hh);rw[lH,lZ,pY,rH,pY,rH,tX];simp only[bq,b0,aD,MG,jP,e,bW]
theorem L5{F:Lp->Od}{h a b c e f w:fe}{g i l:Lr}(o:gm h (.int 0)=Y (.str t))(n:gm h (.int 2)=Y (wl g))(p:F [d,wl ns,.int (g.length:Int)]=Y (wl i))(q:fC (wl [zZ "func",x,t]) (wl i)=Y (wl l)):
  (fZ (d2 fC (eT (zC "func" (c4 (bb 5) (zQ (zX (bb 9) (zI 0)))))) (hZ 3 F (c4 (bb 1) (c4 (bb 2) (zQ (zN (zX (bb 9) (zI 2))))))))) [Y w,Y d,Y (wl ns),Y a,Y b,Y (.str x),Y c,Y e,Y f,Y h]=Y (.rt (wl l)):=by
 have m:gR [wl g]=Y (.int (g.length:Int)):=by rw[k8,ah]
 have k:(eT (zC "func" (c4 (bb 5) (zQ (zX (bb 9) (zI 0)))))) [Y w,Y d,Y (wl ns),Y a,Y b,Y (.str x),Y c,Y e,Y f,Y h]=Y (wl [zZ "func",x,t]):=by
  simp? only[o];rfl
 have j:(hZ 3 F (c4 (bb 1) (c4 (bb 2) (zQ (zN (zX (bb 9) (zI 2))))))) [Y w,Y d,Y (wl ns),Y a,Y b,Y (.str x),Y c,Y e,Y f,Y h]=Y (wl i):=by
  simp? only[n,m,p]
 rw[lS,fA k j,q];rfl
include hd hk xY Hi hn hN in
theorem L6{w:String}(hw:w∈sQ):∃w' r,Rk (ks.map (·.nm)) (Mh hs) (Fh hs) w' r/\GR (zZ w'::r)/\kl [.str (zZ w),d,wl ns,.list (ks.map wo),.list (hs.map fF)]=Y (wl (zZ w'::r)):=by
 obtain⟨x,hx,ex⟩:=Ab hd hn 1 1 2 (by omega) 1 rfl;obtain⟨y,hy,ey⟩:=Ab hd hn 2 1 2 (by omega) 2 rfl;obtain⟨x4,X3⟩:=hd.at 4 (by omega);obtain⟨x5,Vk⟩:=hd.at 5 (by omega);obtain⟨f,hf,ef⟩:=xT gN (by simp[gN]) x4;have nx:=hN x hx;have ny:=hN y hy;have nf:=Vj f hf;have fc:=xZ Hi;have hl:=Hi.len;have fin:∀l:Lr,FU [Y (.str (zZ w)),Y d,Y (wl ns),Y (zk ks),Y (zh hs),Y (.str x),Y (.str y),Y (.str f),Y (.list (zm hs)),Z]=Y (.rt (wl l))->kl [.str (zZ w),d,wl ns,.list (ks.map wo),.list (hs.map fF)]=Y (wl l):=λl e=>by
  have g:oH [Y (.str (zZ w)),Y d,Y (wl ns),Y (zk ks),Y (zh hs),Z,Z,Z,Z,Z]=Y (.rt (wl l)):=by rw[L4];refine fw (ρ1:=[Y (.str (zZ w)),Y d,Y (wl ns),Y (zk ks),Y (zh hs),Y (.str x),Z,Z,Z,Z]) (by rw[o4,ex _ rfl rfl];rfl) (fw (ρ1:=[Y (.str (zZ w)),Y d,Y (wl ns),Y (zk ks),Y (zh hs),Y (.str x),Y (.str y),Z,Z,Z]) (by rw[o4,ey _ rfl rfl];rfl) (fw (ρ1:=[Y (.str (zZ w)),Y d,Y (wl ns),Y (zk ks),Y (zh hs),Y (.str x),Y (.str y),Y (.str f),Z,Z]) (fW ?_) (fw (fW (nB (ds:=hs.map fF) rfl (by rw[ah];omega) fc)) e)));exact(fA (o:=gm) (A:=eT (zC "f" (zC "g" (zC "h" (zC "u" (zC "v" eB)))))) (a:=wl gN) rfl (gU (m:=5) (C:=dC (.int 5)) (jx (i:=4) (A:=bb 1) (B:=dC (.int 4)) rfl rfl X3) rfl (by omega))).trans ef
  rw[kl,jN,gO];show mS (oH [Y (.str (zZ w)),Y d,Y (wl ns),Y (zk ks),Y (zh hs),Z,Z,Z,Z,Z])=_;rw[g,iC]
 obtain⟨r,hr,er⟩:=u4 hk x5;have Vh:(0:Int)<(ks.length:Int):=by have:=br.mpr hk.ne;omega
 have nr:=kr _ (IT _ (hk.nm r hr));have VV:r.nm∈ks.map (·.nm):=aq.mpr ⟨r,hr,rfl⟩;have q:∀(a b:fe) (e g h i j:Od),d2 gm (zX (bb 3) (d2 gq (zX (bb 1) (zI 5)) (zN (bb 3)))) (zI 0) [Y a,Y d,Y b,Y (zk ks),e,g,h,i,j,Z]=Y (.str r.nm):=λa b e g h i j=>by have q1:gF gR (zQ (bb 3)) [Y a,Y d,Y b,Y (zk ks),e,g,h,i,j,Z]=Y (.int (ks.length:Int)):=u5 ks;have q2:=fA (o:=gm) (A:=bb 3) (a:=.list (ks.map wo)) (ρ:=[Y a,Y d,Y b,Y (zk ks),e,g,h,i,j,Z]) rfl (gU (jx (i:=5) (A:=bb 1) (B:=dC (.int 5)) rfl rfl Vk) q1 Vh);rw[er] at q2;rw[fA (o:=gm) (B:=dC (.int 0)) q2 rfl,SI]
 by_cases h1:w="new"
 ·subst h1;refine⟨"new",[x,r.nm],.new VV,jy (zD 0) (IU ‹_› ‹_›) (by simp),fin _ (ko (jW (zK 0) ?_))⟩;rw[lS,tY,fz,fz,fz,q];rfl
 by_cases h2:w="fresh"
 ·subst h2;refine⟨"fresh",[x,r.nm],.fresh VV,jy (zD 0) (IU ‹_› ‹_›) (by simp),fin _ (ko (jW (zK 0) ?_))⟩;rw[lS,tY,fz,fz,fz,q];rfl
 by_cases h3:w="func"
 ·subst h3;have hq:∀h∈hs.filter λh=>!wq h,HV (ks.map (·.nm)) h/\Eg h.key:=λh hh=>by
   have:=(bU.mp hh).1;exact⟨Hi.hv h this,Hi.kk h this⟩
  have ne:=DX hq;have T:∀b:Bool,(!(hs.filter λh=>!wq h).isEmpty)=b->(iT (fB (d2 iS (bb 0) (zA "func"))) (fB (d2 mK (bb 8) (eT eB)))) [Y (.str (zZ "func")),Y d,Y (wl ns),Y (zk ks),Y (zh hs),Y (.str x),Y (.str y),Y (.str f),Y (.list (zm hs)),Z]=Y b:=λb hb=>by
   have e1:("func"=="func")=true:=by decide
   rw[hb] at ne
   simp? only[hW,e1,ne]
  cases hb:(!(hs.filter λh=>!wq h).isEmpty) with
  |false=>refine⟨"copy",[x,y],.copy,jy (zD 0) (IU ‹_› ‹_›) (by simp),fin _ ?_⟩;exact zF (fw (iz (T _ hb) rfl) (zF (zF (zF (zF (zF (zF (zK 0))))))))
  |true=>
   have Qu:hs.filter (λh=>!wq h)≠[]:=by intro z;rw[z] at hb;cases hb
   obtain⟨dd,S7,ed⟩:=xS (zm hs) (by simpa using Qu) x5;obtain⟨h,hh,rfl⟩:=aq.mp S7;obtain⟨L7,Qv⟩:=bU.mp hh;have hv:=Hi.hv h L7;have MI:=Hi.kk h L7;have lp:(0:Int)<((zm hs).length:Int):=by have:0<(zm hs).length:=br.mpr (by simpa using Qu);omega
   obtain⟨ha,VW,X6,eh⟩:=Ac hd hn h.ks.length hv.lk;cases qk:h.key with
   |k9 k m=>rw[wq,qk] at Qv;cases Qv
   |func g=>
    have hg:g∈fN:=by rw[qk] at MI;exact MI
    have ng:=kr _ (Pb _ hg);have Qd:(g,ha.length)∈Fh hs:=bw.mpr ⟨h,L7,by rw[SE,qk,VW]⟩;refine⟨"func",x::g::ha,.func (by rw[VW];exact hv.lk) Qd,jy (zD 0) (λv hv=>?_) (by have:=hv.lk;simp;omega),fin _ (zF (ko (jW (T _ hb) (fw (ρ1:=[Y (.str (zZ "func")),Y d,Y (wl ns),Y (zk ks),Y (zh hs),Y (.str x),Y (.str y),Y (.str f),Y (.list (zm hs)),Y (fF h)]) (fW ?_) ?_))))⟩
    ·simp at hv;rcases hv with rfl|rfl|hv
     ·exact nx
     ·exact ng
     ·exact hN _ (X6 _ hv)
    ·have q1:gF gR (zQ (bb 8)) [Y (.str (zZ "func")),Y d,Y (wl ns),Y (zk ks),Y (zh hs),Y (.str x),Y (.str y),Y (.str f),Y (.list (zm hs)),Z]=Y (.int ((zm hs).length:Int)):=k8 _;exact(fA (o:=gm) (A:=bb 8) (a:=.list (zm hs)) rfl (gU (jx (i:=5) (A:=bb 1) (B:=dC (.int 5)) rfl rfl Vk) q1 lp)).trans ed
    ·have i0:=MG h;rw[qk] at i0;have X7:gm (fF h) (.int 0)=Y (.str g):=i0;have ad:=jw [zZ "func",x,g] ha (by have:=hv.lk;simp;omega);exact L5 X7 (hd2 h) eh ad
 obtain⟨w',r',k1,k2,k3⟩:=BQ (K:=ks.map (·.nm)) (M:=Mh hs) (Fu:=Fh hs) nx ny nf (Y d) (Y (wl ns)) (Y (zk ks)) (Y (zh hs)) (Y (.list (zm hs))) hw h1 h2 h3;exact⟨w',r',k1,k2,fin _ k3⟩
end
section
variable (hd:yi d) {ks:List KR} (hk:yS ks) (xY:n<=3) {hs:List Hd} (Hi:HI (ks.map (·.nm)) n hs) {ns:Lr} (hn:ns≠[]) (hN:∀w∈ns,mJ w=true)
include Hi in
theorem FV:gX jI jJ [] (hs.map fF)=Y (((hs.filter wq).map λh=>h.key.nm _root_.id).map .str):=by
 have:=SJ (T:=jI) (C:=jJ) (p:=wq) (f:=λh=>.str (h.key.nm _root_.id)) (hs:=hs) λh hh=>by
  have e:=BP (Hi.kk h hh);refine⟨?_,?_⟩
  ·rw[jI,lZ,pY,rH,pY,rH,tX];simp only[bq,b0,aD,MG,i9,e,bW]
  ·rw[jJ,fA (A:=bb 0) (B:=dC (.int 0)) (a:=fF h) rfl rfl,MG]
 rw[this,cR];rfl
noncomputable def ui:List String:=["ask","do","straight"]
theorem IV(x:Int):∃n:Nat,n<=2/\gm (.list [.int 0,.int 1,.int 1,.int 2]) (.int (x % 4))=Y (.int (n:Int)):=by
 have h:x % 4=0\/x % 4=1\/x % 4=2\/x % 4=3:=by omega
 rcases h with h|h|h|h<;>rw[h]
 ·exact⟨0,by omega,by kernel_rfl⟩
 ·exact⟨1,by omega,by kernel_rfl⟩
 ·exact⟨1,by omega,by kernel_rfl⟩
 ·exact⟨2,by omega,by kernel_rfl⟩
theorem x6{F:Lp->Od}{A:c5->Od}{l a r:Lr}{b:fe}(h:(ρ[1]?).join=Y d)(g:(ρ[2]?).join=Y (wl ns))(f:(ρ[6]?).join=Y b)(e:A ρ=Y (wl l))(i:F [d,wl ns,b]=Y (wl a))(j:fC (wl l) (wl a)=Y (wl r)):
  (fZ (d2 fC A (hZ 3 F (c4 (bb 1) (c4 (bb 2) (zQ (bb 6))))))) ρ=Y (.rt (wl r)):=by
 have c:(hZ 3 F (c4 (bb 1) (c4 (bb 2) (zQ (bb 6))))) ρ=Y (wl a):=by
  simp? only[h,g,f,i]
 rw[lS,fA e c,j];rfl
include hd hk xY Hi hn hN in
theorem IW{w:String}(hw:w∈ui):∃w' r,Rk (ks.map (·.nm)) (Mh hs) (Fh hs) w' r/\GR (zZ w'::r)/\jB [.str (zZ w),d,wl ns,.list (hs.map fF)]=Y (wl (zZ w'::r)):=by
 obtain⟨x,hx,ex⟩:=Ab hd hn 1 1 2 (by omega) 1 rfl;obtain⟨y,hy,ey⟩:=Ab hd hn 2 1 2 (by omega) 2 rfl;obtain⟨x7,VS⟩:=hd.at 7 (by omega);obtain⟨x5,Vk⟩:=hd.at 5 (by omega);obtain⟨mn,hmn,em⟩:=IV x7;obtain⟨ha,VW,X6,eh⟩:=Ac hd hn mn hmn;have nx:=hN x hx;have ny:=hN y hy;have mc:=FV Hi;have hl:=Hi.len;have hfl:(hs.filter wq).length<=hs.length:=List.length_filter_le _ _;generalize Za:((hs.filter wq).map λh=>h.key.nm _root_.id)=me at mc;let ρ0:fe->c5:=λw=>[Y w,Y d,Y (wl ns),Y (zh hs),Y (.str x),Y (.str y),Y (.int (mn:Int)),Y (wl me),Z,Z,Z]
 have pre:∀(R:c5->Option Out) (l:Lr),R (ρ0 (.str (zZ w)))=Y (.rt (wl l))->(c7 (fu (fO [] (zX (bb 2) (d2 gq (zX (bb 1) (zI 1)) (zN (bb 2))))) 4) (c7 (fu (fO [] (zX (bb 2) (d2 gq (zX (bb 1) (zI 2)) (zN (bb 2))))) 5) (c7 (fu (fO [] (zX (eT (c4 (zI 0) (c4 (zI 1) (c4 (zI 1) (zQ (zI 2)))))) (d2 gq (zX (bb 1) (zI 7)) (zI 4)))) 6) (c7 (fu (fO [] (iG (lQ (bb 3)) [] jI jJ)) 7) R)))) [Y (.str (zZ w)),Y d,Y (wl ns),Y (zh hs),Z,Z,Z,Z,Z,Z,Z]=Y (.rt (wl l)):=λR l e=>by refine fw (ρ1:=[Y (.str (zZ w)),Y d,Y (wl ns),Y (zh hs),Y (.str x),Z,Z,Z,Z,Z,Z]) (by rw[o4,ex _ rfl rfl];rfl) (fw (ρ1:=[Y (.str (zZ w)),Y d,Y (wl ns),Y (zh hs),Y (.str x),Y (.str y),Z,Z,Z,Z,Z]) (by rw[o4,ey _ rfl rfl];rfl) (fw (ρ1:=[Y (.str (zZ w)),Y d,Y (wl ns),Y (zh hs),Y (.str x),Y (.str y),Y (.int (mn:Int)),Z,Z,Z,Z]) (fW ?_) (fw (fW (nB (ds:=hs.map fF) rfl (by rw[ah];omega) mc)) e)));exact(fA (o:=gm) (A:=eT (c4 (zI 0) (c4 (zI 1) (c4 (zI 1) (zQ (zI 2)))))) (a:=.list [.int 0,.int 1,.int 1,.int 2]) rfl (gU (m:=4) (C:=dC (.int 4)) (jx (i:=7) (A:=bb 1) (B:=dC (.int 7)) rfl rfl VS) rfl (by omega))).trans em
 have fin:∀l:Lr,pR [Y (.str (zZ w)),Y d,Y (wl ns),Y (zh hs),Z,Z,Z,Z,Z,Z,Z]=Y (.rt (wl l))->jB [.str (zZ w),d,wl ns,.list (hs.map fF)]=Y (wl l):=λl g=>by rw[jB,jN,gO];show mS (pR [Y (.str (zZ w)),Y d,Y (wl ns),Y (zh hs),Z,Z,Z,Z,Z,Z,Z])=_;rw[g,iC]
 have X8:∀v∈ha,mJ v=true:=λv hv=>hN v (X6 v hv);have X9:∀t∈me,fe.strOk t=true:=λt ht=>by rw[<-Za] at ht;obtain⟨h,hh,rfl⟩:=aq.mp ht;exact FQ (Hi.kk h (bU.mp hh).1)
 have DO:Rk (ks.map (·.nm)) (Mh hs) (Fh hs) "do" (x::y::ha)/\GR (zZ "do"::x::y::ha)/\(∀ww:fe,(fZ (d2 fC (eT (zC "do" (c4 (bb 4) (zQ (bb 5))))) (hZ 3 ig (c4 (bb 1) (c4 (bb 2) (zQ (bb 6))))))) (ρ0 ww)=Y (.rt (wl (zZ "do"::x::y::ha)))):=by
  refine⟨.Y3 (by omega),jy (zD 0) (λv hv=>?_) (by simp;omega),λww=>x6 (l:=[zZ "do",x,y]) rfl rfl rfl rfl eh (jw _ _ (by simp;omega))⟩;simp at hv;rcases hv with rfl|rfl|hv
  ·exact nx
  ·exact ny
  ·exact X8 v hv
 simp only[ui,ag,aV,cb] at hw;rcases hw with rfl|rfl|rfl
 ·obtain⟨mm,Vg,em5⟩:=xT mN (by simp[mN]) x5;have nm:=kr _ (L1 _ Vg);refine⟨"ask",x::y::mm::ha,.ask (by omega),jy (zD 0) (λv hv=>?_) (by simp;omega),fin _ (pre _ _ (ko (jW (zK 0) (x6 (l:=[zZ "ask",x,y,mm]) rfl rfl rfl ?_ eh (jw _ _ (by simp;omega))))))⟩
  ·simp at hv;rcases hv with rfl|rfl|rfl|hv
   ·exact nx
   ·exact ny
   ·exact nm
   ·exact X8 v hv
  ·have q:(zX (eT (zC "m" (zC "n" eB))) (d2 gq (zX (bb 1) (zI 5)) (zI 2))) (ρ0 (.str (zZ "ask")))=Y (.str mm):=(fA (o:=gm) (A:=eT (zC "m" (zC "n" eB))) (a:=wl mN) rfl (gU (m:=2) (C:=dC (.int 2)) (jx (i:=5) (A:=bb 1) (B:=dC (.int 5)) rfl rfl Vk) rfl (by omega))).trans em5;rw[tY,fz,fz,fz,fz,q];rfl
 ·obtain⟨a,b,c⟩:=DO;exact⟨"do",_,a,b,fin _ (pre _ _ (zF (zF (c _))))⟩
 ·have ne:=L3 X9;have T:∀b:Bool,(!me.isEmpty)=b->(iT (fB (d2 iS (bb 0) (zA "straight"))) (fB (d2 mK (bb 7) (eT eB)))) (ρ0 (.str (zZ "straight")))=Y b:=λb hb=>by
   have e1:("straight"=="straight")=true:=by decide
   rw[hb] at ne
   simp? only[ρ0,hW,e1,ne]
  cases hb:(!me.isEmpty) with
  |false=>obtain⟨a,b,c⟩:=DO;exact⟨"do",_,a,b,fin _ (pre _ _ (zF (fw (iz (T _ hb) rfl) (c _))))⟩
  |true=>
   have Qu:me≠[]:=by intro z;rw[z] at hb;cases hb
   obtain⟨t,ht,et⟩:=xT me Qu x5;have Zb:=ht;rw[<-Za] at Zb;obtain⟨h,hh,Zc⟩:=aq.mp Zb;obtain⟨L7,Qv⟩:=bU.mp hh;have MI:=Hi.kk h L7;have hv:=Hi.hv h L7;cases qk:h.key with
   |func g=>rw[wq,qk] at Qv;cases Qv
   |k9 k m=>
    rw[qk] at MI Zc;have Zd:=hv.key;rw[qk] at Zd;have pt:=DW MI;have et':t=jQ k m:=Zc.symm;have hM:(k,m)∈Mh hs:=bw.mpr ⟨h,L7,by rw[Te,qk]⟩;have lp:(0:Int)<(me.length:Int):=by have:=br.mpr Qu;omega
    have q1:gF gR (zQ (bb 7)) (ρ0 (.str (zZ "straight")))=Y (.int (me.length:Int)):=by show gR [wl me]=_;rw[k8,ah]
    have q2:(zX (bb 7) (d2 gq (zX (bb 1) (zI 5)) (zN (bb 7)))) (ρ0 (.str (zZ "straight")))=Y (.str (jQ k m)):=by rw[<-et'];exact(fA (o:=gm) (A:=bb 7) (a:=wl me) rfl (gU (jx (i:=5) (A:=bb 1) (B:=dC (.int 5)) rfl rfl Vk) q1 lp)).trans et
    have q3:(fO [] (pN kT (zX (bb 7) (d2 gq (zX (bb 1) (zI 5)) (zN (bb 7)))) (zC "." eB))) (ρ0 (.str (zZ "straight")))=Y (.tuple [.str k,.str (zZ "."),.str m]):=by rw[lN,qu,IG,q2];simp only[aD,fz,rH,jV,pt]
    refine⟨"straight",x::y::k::m::ha,.DL (by omega) Zd.1 hM,jy (zD 0) (λv hv=>?_) (by simp;omega),fin _ (pre _ _ (zF (ko (jW (T _ hb) (fw (ρ1:=[Y (.str (zZ "straight")),Y d,Y (wl ns),Y (zh hs),Y (.str x),Y (.str y),Y (.int (mn:Int)),Y (wl me),Y (.str k),Y (.str (zZ ".")),Y (.str m)]) ?_ (x6 (l:=[zZ "straight",x,y,k,m]) rfl rfl rfl rfl eh (jw _ _ (by simp;omega))))))))⟩
    ·simp at hv;rcases hv with rfl|rfl|rfl|rfl|hv
     ·exact nx
     ·exact ny
     ·exact kr _ (IT _ MI.1)
     ·exact kr _ (L1 _ MI.2)
     ·exact X8 v hv
    ·rw[GY,q3];rfl
end
theorem L8:∀w∈["x","y","z"].map Str.ofString,mJ w=true:=by
 have:((["x","y","z"].map Str.ofString).all mJ)=true:=by decide +kernel
 simpa using this
noncomputable def iN:fe:=.tuple [.str (zZ "main"),.list [],.list []]
theorem FW:jv [iN]=Y (wl (["x","y","z"].map Str.ofString)):=by kernel_rfl
theorem IX{K:Lr}{h:Hd}(v:HV K h)(k:Eg h.key):∃c,c≠[]/\(∀w∈c,mJ w=true)/\jv [fF h]=Y (wl c):=by
 have s:=v.lp;have t:=v.lk;have r:=jw h.ps h.ks (by omega);have p:=jw (h.ps++h.ks) (["x","y","z"].map Str.ofString) (by simp;omega);have n:=jw (h.ps++h.ks++["x","y","z"].map Str.ofString) [zZ "self"] (by simp;omega);have m:=BP k;have i:∀w∈h.ps++h.ks++["x","y","z"].map Str.ofString,mJ w=true:=λw hw=>by
  rcases aw.mp hw with hw|hw
  ·rcases aw.mp hw with hw|hw
   ·exact kr w (v.ps w hw)
   ·exact kr w (v.ks w hw)
  ·exact L8 w hw
 have j:(fu (fO [] (d2 fC (d2 fC (zX (bb 0) (zI 1)) (zX (bb 0) (zI 2))) (eT (zC "x" (zC "y" (zC "z" eB)))))) 1) [Y (fF h),Z]=Y (.nx [Y (fF h),Y (wl (h.ps++h.ks++["x","y","z"].map Str.ofString))]):=by refine fW (O:=[]) ?_;have f:=fA (o:=gm) (A:=bb 0) (B:=dC (.int 1)) (ρ:=[Y (fF h),Z]) (a:=fF h) rfl rfl;have e:=fA (o:=gm) (A:=bb 0) (B:=dC (.int 2)) (ρ:=[Y (fF h),Z]) (a:=fF h) rfl rfl;rw[X2] at f;rw[hd2] at e;have d:=fA (o:=fC) f e;rw[r] at d;exact(fA (o:=fC) (B:=eT (zC "x" (zC "y" (zC "z" eB)))) d rfl).trans p
 have T:(fB (d2 mB (zA ".") (zX (bb 0) (zI 0)))) [Y (fF h),Y (wl (h.ps++h.ks++["x","y","z"].map Str.ofString))]=Y (wq h):=by rw[lZ,pY,rH,pY,rH,tX];simp only[bq,b0,aD,MG,i9,m,bW]
 have b:∀l:Lr,qP [Y (fF h),Z]=Y (.rt (wl l))->jv [fF h]=Y (wl l):=λl g=>by rw[jv,jN,gO];show mS (qP [Y (fF h),Z])=_;rw[g,iC]
 cases q:wq h with
 |false=>rw[q] at T;exact⟨_,by simp,i,b _ (fw j (fw (iz T rfl) rfl))⟩
 |true=>
  rw[q] at T;refine⟨h.ps++h.ks++["x","y","z"].map Str.ofString++[zZ "self"],by simp,λw hw=>?_,b _ (fw j (fw (jW T (fW (O:=[]) ((fA (o:=fC) (A:=bb 1) (B:=eT (zC "self" eB)) rfl rfl).trans n))) rfl))⟩;rcases aw.mp hw with hw|hw
  ·exact i w hw
  ·simp at hw;subst hw;decide +kernel
theorem Bk.ends{K:Lr}{M:List (Str×Str)}{b:List (Str×Nat)}:∀(n:Nat) (bs:Lr),bs.length=n->Bk K M b bs (List.replicate n [zZ "end"]) []
 |0,bs,h=>by rw[List.length_eq_zero_iff.mp h];exact .nil []
 |n+1,bs,h=>by
  have a:bs≠[]:=by intro z;rw[z] at h;simp at h
  rw[<-dR a,bN];exact .fin (Bk.ends n _ (by simp;omega))
theorem DY(a:Lr):a=[]\/∃b x,a=b++[x]:=by
 by_cases h:a=[]
 ·exact .inl h
 ·exact .inr ⟨_,_,(dR h).symm⟩
theorem Vl(i j:Int):yg (.int i) (.int j)=Y (.bool (decide (i<j))):=rfl
section
variable {ks:List KR} (hk:yS ks) (xY:n<=3) {hs:List Hd} (Hi:HI (ks.map (·.nm)) n hs) {ns:Lr} (hn:ns≠[]) (hN:∀w∈ns,mJ w=true)
abbrev BK(b:List KR)(a:List Hd):=Bk (b.map (·.nm)) (Mh a) (Fh a)
noncomputable def u7(e f g:fe)(b:List KR)(c:List Hd)(a:Lr)(R:List Lr)(bs:Lr)(d w:Od):c5:=[Y e,Y f,Y (zk b),Y (zh c),Y (.bool true),Y g,Y (wl a),Y (wl (R.map ln)),Y (wl bs),d,w]
variable (hd dr bg:fe)
theorem uj{R:List Lr}{a:Lr}{d w:Od}{ws:Lr}(h:f (u7 hd dr bg ks hs ns R a d w)=Y (.str (ln ws)))(b:R.length<=900):gd (.sl 7) f (u7 hd dr bg ks hs ns R a d w)=Y (.nx (u7 hd dr bg ks hs ns (R++[ws]) a d w)):=by have:=ud (ρ:=u7 hd dr bg ks hs ns R a d w) (i:=7) (acc:=(R.map ln).map .str) rfl (by simp;omega) h;rw[this];unfold u7;rw[aK,ae,a9,o5];rfl
theorem oS{A:c5->Od}{ws:Lr}(g:GR ws)(h:A ρ=Y (wl ws)):(pN je (zA " ") (zQ A)) ρ=Y (.str (ln ws)):=by rw[IG,rH,fz,h,jV];exact g.join
def u9:c5->Option Out:=(iA (fB (d2 mB (bb 10) (iQ (zC "ask" (zC "do" (zC "straight" eB))))))
(gd (.sl 7) (fO [7,8] (pN je (zA " ") (zQ (hZ 4 jB (c4 (bb 10) (c4 (bb 9) (c4 (bb 6) (zQ (bb 3))))))))))
(gd (.sl 7) (fO [7,8] (pN je (zA " ") (zQ (hZ 5 kl (c4 (bb 10) (c4 (bb 9) (c4 (bb 6) (c4 (bb 2) (zQ (bb 3))))))))))))
def FX:c5->Option Out:=(iA (iT (fB (d2 iS (bb 10) (zA "else"))) (iT (fB (d2 mK (bb 8) (eT eB))) (fB (d2 iS (zX (bb 8) (zI (-1))) (zA "if")))))
(c7 (uA (.sl 8) (fO [7,8] (zI (-1))) (fO [7,8] (zA "else")))
(gd (.sl 7) (fO [7,8] (zA "else"))))
u9)
def FY:c5->Option Out:=(iA (iT (fB (d2 iS (bb 10) (zA "end"))) (fB (d2 mK (bb 8) (eT eB))))
(c7 (H0 (.sl 8))
(gd (.sl 7) (fO [7,8] (zA "end"))))
FX)
def ro:c5->Option Out:=(iA (iT (fB (d2 mB (bb 10) (iQ (zC "if" (zC "while" eB))))) (fB (d2 yg (zN (bb 8)) (zI 8))))
(c7 (gd (.sl 7) (fO [7,8] (pN je (zA " ") (zQ (d2 fC (eT (zQ (bb 10))) (hZ 2 hI (c4 (bb 9) (zQ (bb 6)))))))))
(gd (.sl 8) (fO [7,8] (bb 10))))
FY)
theorem Pf:mq=c7 (fu (fO [7,8] (hZ 2 kW (c4 (bb 9) (zQ (bb 4))))) 10) ro:=rfl
def Ad(g:c5->Option Out)(h i k:fe)(c:List KR)(e:List Hd)(f:Lr)(R:List Lr)(j:Lr)(d:fe)(w:Od):Prop:=∃ws a,BK c e j [ws] a/\GR ws/\(∀b∈a,fe.strOk b=true)/\a.length<=8/\∃l,g (u7 h i k c e f R j (Y d) w)=Y (.nx (u7 h i k c e f (R++[ws]) a (Y d) l))
variable {R:List Lr}{bs:Lr} (hR:R.length<=900) (hb:∀b∈bs,fe.strOk b=true) (h8:bs.length<=8) (D:yi d)
include hk xY Hi hn hN hR hb h8 D in
theorem FZ{w:String}(hw:w∈sQ)(t4:∀ρ:c5,(ρ[10]?).join=Y (.str (zZ w))->(fB (d2 mB (bb 10) (iQ (zC "ask" (zC "do" (zC "straight" eB)))))) ρ=Y false):Ad u9 hd dr bg ks hs ns R bs d (Y (.str (zZ w))):=by
 obtain⟨w',r,rk,g,e⟩:=L6 D hk xY Hi hn hN hw;refine⟨_,bs,.row rk (.nil bs),g,hb,h8,Y (.str (zZ w)),iz (t4 _ rfl) (uj hd dr bg ?_ hR)⟩;rw[lN,tZ,tZ,qu];refine oS g ?_;show hZ 5 kl _ [Y hd,Y dr,Y (zk ks),Y (zh hs),Y (.bool true),Y bg,Y (wl ns),Z,Z,Y d,Y (.str (zZ w))]=_
 simp? only[e]
include hk xY Hi hn hN hR hb h8 D in
theorem IY{w:String}(hw:w∈ui)(t4:∀ρ:c5,(ρ[10]?).join=Y (.str (zZ w))->(fB (d2 mB (bb 10) (iQ (zC "ask" (zC "do" (zC "straight" eB)))))) ρ=Y true):Ad u9 hd dr bg ks hs ns R bs d (Y (.str (zZ w))):=by
 obtain⟨w',r,rk,g,e⟩:=IW D hk xY Hi hn hN hw;refine⟨_,bs,.row rk (.nil bs),g,hb,h8,Y (.str (zZ w)),jW (t4 _ rfl) (uj hd dr bg ?_ hR)⟩;rw[lN,tZ,tZ,qu];refine oS g ?_;show hZ 4 jB _ [Y hd,Y dr,Y (zk ks),Y (zh hs),Y (.bool true),Y bg,Y (wl ns),Z,Z,Y d,Y (.str (zZ w))]=_
 simp? only[e]
theorem Ad.mono{g i:c5->Option Out}{w:Od}(h:Ad g hd dr bg ks hs ns R bs d w)(e:i (u7 hd dr bg ks hs ns R bs (Y d) w)=g (u7 hd dr bg ks hs ns R bs (Y d) w)):Ad i hd dr bg ks hs ns R bs d w:=by obtain⟨ws,f,a,b,c,l,j,k⟩:=h;exact⟨ws,f,a,b,c,l,j,by rw[e,k]⟩
include hb in
theorem Pg:mK (wl bs) (.list [])=Y (.bool (!bs.isEmpty)):=L3 hb
include hk xY Hi hn hN hR hb h8 D in
theorem IZ(w:Od):Ad mq hd dr bg ks hs ns R bs d w:=by
 obtain⟨s,Ny,ew⟩:=Pd D;have S1:(fu (fO [7,8] (hZ 2 kW (c4 (bb 9) (zQ (bb 4))))) 10) (u7 hd dr bg ks hs ns R bs (Y d) w)=Y (.nx (u7 hd dr bg ks hs ns R bs (Y d) (Y (.str (zZ s))))):=by
  refine fW ?_;show hZ 2 kW _ [Y hd,Y dr,Y (zk ks),Y (zh hs),Y (.bool true),Y bg,Y (wl ns),Z,Z,Y d,w]=_
  simp? only[ew]
 suffices h:Ad ro hd dr bg ks hs ns R bs d (Y (.str (zZ s))) by obtain⟨ws,sT,a,b,c,c8,w',e'⟩:=h;exact⟨ws,sT,a,b,c,c8,w',by rw[Pf];exact fw S1 e'⟩
 have nn:=Pg hb;have LL:gR [wl bs]=Y (.int (bs.length:Int)):=by rw[k8,ah]
 have x8:∀t:String,t∈sQ->(∀ρ:c5,(ρ[10]?).join=Y (.str (zZ t))->(fB (d2 mB (bb 10) (iQ (zC "ask" (zC "do" (zC "straight" eB)))))) ρ=Y false)->Ad u9 hd dr bg ks hs ns R bs d (Y (.str (zZ t))):=λt ht t4=>FZ hk xY Hi hn hN hd dr bg hR hb h8 D ht t4;have Vm:∀t:String,t∈ui->(∀ρ:c5,(ρ[10]?).join=Y (.str (zZ t))->(fB (d2 mB (bb 10) (iQ (zC "ask" (zC "do" (zC "straight" eB)))))) ρ=Y true)->Ad u9 hd dr bg ks hs ns R bs d (Y (.str (zZ t))):=λt ht t4=>IY hk xY Hi hn hN hd dr bg hR hb h8 D ht t4;have in1:∀(t a:String) (ρ:c5),(ρ[10]?).join=Y (.str (zZ t))->fB (d2 iS (bb 10) (zA (zZ a))) ρ=Y (t==a):=λt a ρ h=>by rw[lZ,fA (A:=bb 10) h (show dC (.str (zZ a)) ρ=Y (.str (zZ a)) from rfl),hW];rfl
 have Ze:∀(t:String) (ρ:c5),(ρ[10]?).join=Y (.str (zZ t))->fB (d2 mB (bb 10) (iQ (zC "if" (zC "while" eB)))) ρ=Y (t=="if"||t=="while"):=λt ρ h=>by rw[lZ,fA (A:=bb 10) h (show iQ (zC "if" (zC "while" eB)) ρ=Y (.tuple [.str (zZ "if"),.str (zZ "while")]) from rfl),i9,xJ];rfl
 have Tf:∀(t:String) (ρ:c5),(ρ[10]?).join=Y (.str (zZ t))->fB (d2 mB (bb 10) (iQ (zC "ask" (zC "do" (zC "straight" eB))))) ρ=Y (t=="ask"||(t=="do"||t=="straight")):=λt ρ h=>by
  rw[lZ,fA (A:=bb 10) h (show iQ (zC "ask" (zC "do" (zC "straight" eB))) ρ=Y (.tuple [.str (zZ "ask"),.str (zZ "do"),.str (zZ "straight")]) from rfl),i9];have:kR (.str (zZ t)) (.tuple [.str (zZ "ask"),.str (zZ "do"),.str (zZ "straight")])=Y (t=="ask"||(t=="do"||t=="straight")):=by
   show (if _ then _ else Z)=_;rw[ai ⟨i8 (dq _),by simp[i8 (dq _)],by simp[fe.depth]⟩];simp only[bM,List.any_nil,cT,Bz,ky]
   congr 1
   rw[cK,cK (b:="do"),cK (b:="straight")]
  rw[this];rfl
 have DZ:(s=="if"||s=="while")=false->Ad FY hd dr bg ks hs ns R bs d (Y (.str (zZ s)))->Ad ro hd dr bg ks hs ns R bs d (Y (.str (zZ s))):=λe h=>h.mono hd dr bg (iz (by rw[oP,Ze s _ rfl,e];rfl) rfl);have Hu:(s=="end")=false->Ad FX hd dr bg ks hs ns R bs d (Y (.str (zZ s)))->Ad FY hd dr bg ks hs ns R bs d (Y (.str (zZ s))):=λe h=>h.mono hd dr bg (iz (by rw[oP,in1 s "end" _ rfl,e];rfl) rfl);have Hv:(s=="else")=false->Ad u9 hd dr bg ks hs ns R bs d (Y (.str (zZ s)))->Ad FX hd dr bg ks hs ns R bs d (Y (.str (zZ s))):=λe h=>h.mono hd dr bg (iz (by rw[oP,in1 s "else" _ rfl,e];rfl) rfl);have plain0:s∈sQ->(s=="if"||s=="while")=false->(s=="end")=false->(s=="else")=false->(s=="ask"||(s=="do"||s=="straight"))=false->Ad ro hd dr bg ks hs ns R bs d (Y (.str (zZ s))):=λh1 h2 h3 h4 h5=>DZ h2 (Hu h3 (Hv h4 (x8 s h1 λρ h=>by rw[Tf s ρ h,h5])));have Vn:s∈ui->(s=="if"||s=="while")=false->(s=="end")=false->(s=="else")=false->(s=="ask"||(s=="do"||s=="straight"))=true->Ad ro hd dr bg ks hs ns R bs d (Y (.str (zZ s))):=λh1 h2 h3 h4 h5=>DZ h2 (Hu h3 (Hv h4 (Vm s h1 λρ h=>by rw[Tf s ρ h,h5])));have Vo:s="if"\/s="while"->Ad ro hd dr bg ks hs ns R bs d (Y (.str (zZ s))):=λSK=>by
  have e1:(s=="if"||s=="while")=true:=by rcases SK with rfl|rfl<;>decide
  have T:(iT (fB (d2 mB (bb 10) (iQ (zC "if" (zC "while" eB))))) (fB (d2 yg (zN (bb 8)) (zI 8)))) (u7 hd dr bg ks hs ns R bs (Y d) (Y (.str (zZ s))))=Y (decide ((bs.length:Int)<8)):=by have q0:gF gR (zQ (bb 8)) (u7 hd dr bg ks hs ns R bs (Y d) (Y (.str (zZ s))))=Y (.int (bs.length:Int)):=LL;rw[oP,Ze s _ rfl,e1,xF,lZ,fA (B:=dC (.int 8)) (b:=.int 8) q0 rfl,Vl];rfl
  cases yh:decide ((bs.length:Int)<8) with
  |false=>
   rw[yh] at T;have h2:(s=="end")=false:=by rcases SK with rfl|rfl<;>decide
   have h3:(s=="else")=false:=by rcases SK with rfl|rfl<;>decide
   have h4:s∈sQ:=by rcases SK with rfl|rfl<;>decide
   have h5:(s=="ask"||(s=="do"||s=="straight"))=false:=by rcases SK with rfl|rfl<;>decide
   exact(Hu h2 (Hv h3 (x8 s h4 λρ h=>by rw[Tf s ρ h,h5]))).mono hd dr bg (iz T rfl)
  |true=>
   rw[yh] at T;rw[bR] at yh;obtain⟨c,ck,cn,cl,ec⟩:=Pe D hn hN;have gs:mJ (zZ s)=true:=by rcases SK with rfl|rfl<;>decide +kernel
   have g:=jy gs cn (by omega);have a1:=jw [zZ s] c (by simp;omega);refine⟨zZ s::c,bs++[zZ s],.Tc SK ck (by omega) (.nil _),g,λb Jg=>?_,by simp;omega,Y (.str (zZ s)),jW T (fw (uj hd dr bg (ws:=zZ s::c) ?_ hR) ?_)⟩
   ·rcases aw.mp Jg with Jg | Jg
    ·exact hb b Jg
    ·simp at Jg;subst Jg;exact dq _
   ·rw[lN,tZ,tZ,qu];refine oS g ?_;show d2 fC (eT (zQ (bb 10))) (hZ 2 hI (c4 (bb 9) (zQ (bb 6)))) [Y hd,Y dr,Y (zk ks),Y (zh hs),Y (.bool true),Y bg,Y (wl ns),Z,Z,Y d,Y (.str (zZ s))]=_;have q2:(hZ 2 hI (c4 (bb 9) (zQ (bb 6)))) [Y hd,Y dr,Y (zk ks),Y (zh hs),Y (.bool true),Y bg,Y (wl ns),Z,Z,Y d,Y (.str (zZ s))]=Y (wl c):=by
     simp? only[ec]
    exact(fA (a:=wl [zZ s]) rfl q2).trans a1
   ·have:=ud (ρ:=u7 hd dr bg ks hs ns (R++[zZ s::c]) bs (Y d) (Y (.str (zZ s)))) (i:=8) (acc:=bs.map .str) (f:=fO [7,8] (bb 10)) (x:=.str (zZ s)) rfl (by simp;omega) rfl;rw[this];unfold u7;rw[o5];rfl
 have Ya:s="end"->Ad ro hd dr bg ks hs ns R bs d (Y (.str (zZ s))):=λe=>by
  subst e;have T:(iT (fB (d2 iS (bb 10) (zA "end"))) (fB (d2 mK (bb 8) (eT eB)))) (u7 hd dr bg ks hs ns R bs (Y d) (Y (.str (zZ "end"))))=Y (!bs.isEmpty):=by rw[oP,in1 "end" "end" _ rfl,show ("end"=="end")=true by decide,xF,lZ,fA (A:=bb 8) (B:=eT eB) (a:=wl bs) (b:=.list []) rfl rfl,nn];rfl
  rcases DY bs with D0 | ⟨b,x,D0⟩
  ·refine DZ (by decide) ((Hv (by decide) (x8 "end" (by decide) λρ h=>by rw[Tf "end" ρ h];rfl)).mono hd dr bg (iz (T.trans (by rw[D0];rfl)) rfl))
  ·refine DZ (by decide) ⟨[zZ "end"],b,by rw[D0];exact .fin (.nil b),BN,λz hz=>hb z (by rw[D0];simp[hz]),by rw[D0] at h8;simp at h8;omega,Y (.str (zZ "end")),jW (T.trans (by rw[D0];simp)) (fw (ρ1:=u7 hd dr bg ks hs ns R b (Y d) (Y (.str (zZ "end")))) ?_ (uj hd dr bg (ws:=[zZ "end"]) rfl hR))⟩;rw[D0];have n0:((b++[x]).map fe.str).isEmpty=false:=by simp
   show (Y (wl (b++[x]))).bind _=_;simp only[aD,n0,bZ,dJ];rw[aK,ae,a9,List.dropLast_concat];rfl
 have Vp:s="else"->Ad ro hd dr bg ks hs ns R bs d (Y (.str (zZ s))):=λe=>by
  subst e;refine DZ (by decide) (Hu (by decide) ?_);rcases DY bs with D0 | ⟨b,x,D0⟩
  ·have T:(iT (fB (d2 iS (bb 10) (zA "else"))) (iT (fB (d2 mK (bb 8) (eT eB))) (fB (d2 iS (zX (bb 8) (zI (-1))) (zA "if"))))) (u7 hd dr bg ks hs ns R bs (Y d) (Y (.str (zZ "else"))))=Y false:=by
    rw[oP,in1 "else" "else" _ rfl,show ("else"=="else")=true by decide,xF,oP,lZ,fA (A:=bb 8) (B:=eT eB) (a:=wl bs) (b:=.list []) rfl rfl,nn,D0];rfl
   exact(x8 "else" (by decide) λρ h=>by rw[Tf "else" ρ h];rfl).mono hd dr bg (iz T rfl)
  ·have hx:=hb x (by rw[D0];simp);have li:gm (wl bs) (.int (-1))=Y (.str x):=by rw[D0];exact Hl b x
   have T:(iT (fB (d2 iS (bb 10) (zA "else"))) (iT (fB (d2 mK (bb 8) (eT eB))) (fB (d2 iS (zX (bb 8) (zI (-1))) (zA "if"))))) (u7 hd dr bg ks hs ns R bs (Y d) (Y (.str (zZ "else"))))=Y (x==zZ "if"):=by
    have q:d2 gm (bb 8) (zI (-1)) (u7 hd dr bg ks hs ns R bs (Y d) (Y (.str (zZ "else"))))=Y (.str x):=(fA (A:=bb 8) (B:=dC (.int (-1))) (a:=wl bs) (b:=.int (-1)) rfl rfl).trans li;have nn':(!bs.isEmpty)=true:=by rw[D0];simp
    rw[nn'] at nn;rw[oP,in1 "else" "else" _ rfl,show ("else"=="else")=true by decide,xF,oP,lZ,fA (A:=bb 8) (B:=eT eB) (a:=wl bs) (b:=.list []) rfl rfl,nn];show GZ (Y true) _ _ _=_;rw[xF,lZ,fA (B:=dC (.str "if")) (b:=.str (zZ "if")) q rfl,IH hx (dq _)];rfl
   cases Yb:(x==zZ "if") with
   |false=>rw[Yb] at T;exact(x8 "else" (by decide) λρ h=>by rw[Tf "else" ρ h];rfl).mono hd dr bg (iz T rfl)
   |true=>
    rw[Yb] at T;have YJ:x=zZ "if":=eq_of_beq Yb;subst YJ;refine⟨[zZ "else"],b++[zZ "else"],by rw[D0];exact .ME (.nil _),⟨by simp,OF,by simp⟩,λz hz=>?_,by rw[D0] at h8;simpa using h8,Y (.str (zZ "else")),jW T (fw (ρ1:=u7 hd dr bg ks hs ns R (b++[zZ "else"]) (Y d) (Y (.str (zZ "else")))) ?_ (uj hd dr bg (ws:=[zZ "else"]) rfl hR))⟩
    ·rcases aw.mp hz with hz|hz
     ·exact hb z (by rw[D0];simp[hz])
     ·simp at hz;subst hz;exact dq _
    ·rw[D0];have p:=Dy (b.map .str) (.str (zZ "if")) (.str (zZ "else"));have e':vF (.int (-1)) (.str (zZ "else")) (wl (b++[zZ "if"]))=Y (wl (b++[zZ "else"])):=by rw[o5,o5];exact p
     rw[zU];show (Y (wl (b++[zZ "if"]))).bind _=_;simp only[aD];show ((Y (fe.str (zZ "else"))).bind λd=>(Y (fe.int (-1))).bind λkd=>(vF kd d (wl (b++[zZ "if"]))).map _)=_;simp only[aD,e',bW];rfl
 simp only[MH,ag,aV,cb] at Ny;rcases Ny with h|h|h|h|h|h|h|h|h|h|h|h|h|h|h|h|h|h|h|h|h|h|h|h|h|h|h|h|h
 all_goals first
  |exact Vo (.inl h)
  |exact Vo (.inr h)
  |exact Ya h
  |exact Vp h
  | (subst h;exact plain0 (by decide) (by decide) (by decide) (by decide) (by decide))
  | (subst h;exact Vn (by decide) (by decide) (by decide) (by decide) (by decide))
end
section
variable {ks:List KR} (hk:yS ks) (xY:n<=3) {hs:List Hd} (Hi:HI (ks.map (·.nm)) n hs) {ns:Lr} (hn:ns≠[]) (hN:∀w∈ns,mJ w=true) (hd dr bg:fe)
include hk xY Hi hn hN in
theorem Ae:∀(ds:Lp) (R:List Lr) (bs:Lr) (d w:Od),(∀x∈ds,yi x)->R.length+ds.length<=900->(∀b∈bs,fe.strOk b=true)->bs.length<=8 ->
  ∃R' sT,BK ks hs bs R' sT/\(∀ws∈R',GR ws)/\R'.length=ds.length/\sT.length<=8/\∃d' w',js (qt (.one 9)) mq ds (u7 hd dr bg ks hs ns R bs d w)=Y (.nx (u7 hd dr bg ks hs ns (R++R') sT d' w'))
 |[],R,bs,d,w,_,_,_,h8=>⟨[],bs,.nil bs,by simp,rfl,h8,d,w,by rw[aF];rfl⟩
 |x::ds,R,bs,d,w,hD,hl,hb,h8=>by
  rw[ay] at hl;obtain⟨ws,bs1,k1,g1,b1,l1,w1,e1⟩:=IZ hk xY Hi hn hN hd dr bg (R:=R) (bs:=bs) (by omega) hb h8 (hD x (by simp)) w;obtain⟨R',sT,k2,g2,r2,l2,d',w',e2⟩:=Ae ds (R++[ws]) bs1 (Y x) w1 (λy hy=>hD y (by simp[hy])) (by simp;omega) b1 l1;refine⟨ws::R',sT,k1.app k2,λv hv=>?_,by simp[r2],l2,d',w',?_⟩
  ·rcases ag.mp hv with rfl|hv
   ·exact g1
   ·exact g2 v hv
  ·rw[aQ] at e2;exact kx (ρ':=u7 hd dr bg ks hs ns R bs (Y x) w) rfl e1 e2
theorem Af(T:c5->Option Bool)(C:c5->Od)(b:T=λ_=>Y true)(c:C=pN je (zA (zZ " ")) (zQ (bb 0))):∀{a:List Lr},(∀ws∈a,GR ws)->gX T C [] (a.map wl)=Y ((a.map ln).map .str)
 |[],_=>rfl
 |ws::a,h=>by
  have d:=Af T C b c λx (f:x∈a)=>h x (by simp[f]);have e:C [Y (wl ws)]=Y (.str (ln ws)):=by rw[c];exact oS (h ws (by simp)) rfl
  have g:T [Y (wl ws)]=Y true:=by rw[b]
  rw[ae,gX,g]
  simp? only[e,d]
theorem Pj(n:Nat)(h:n<=8):vH (.list [.str (zZ "end")]) (.int (n:Int))=Y (wl ((List.replicate n [zZ "end"]).map ln)):=by
 rcases n with _|_|_|_|_|_|_|_|_|n
 all_goals first|omega|kernel_rfl
include hk xY Hi hn hN in
theorem vx(hD:∀x∈ds,yi x)(hl:ds.length<=100){B:List Lr}(hB:∀ws∈B,GR ws)(kB:BK ks hs [] B [])(lB:B.length<=2)(en:jv [hd]=Y (wl ns)):
  ∃R,BK ks hs [] R []/\(∀ws∈R,GR ws)/\R.length<=ds.length+10/\kX [hd,.list ds,.list (ks.map wo),.list (hs.map fF),.bool true,.list (B.map wl)]=Y (wl (R.map ln)):=by
 obtain⟨R',sT,k1,g1,r1,l1,d',w',e⟩:=Ae hk xY Hi hn hN hd (.list ds) (.list (B.map wl)) ds B [] Z Z hD (by omega) (by simp) (by simp);refine⟨B++R'++List.replicate sT.length [zZ "end"],(kB.app k1).app (Bk.ends _ sT rfl),λws hw=>?_,by simp[r1];omega,?_⟩
 ·rcases aw.mp hw with hw|hw
  ·rcases aw.mp hw with hw|hw
   ·exact hB ws hw
   ·exact g1 ws hw
  ·rw[List.mem_replicate] at hw;rw[hw.2];exact BN
 ·have LL:gR [wl sT]=Y (.int (sT.length:Int)):=by rw[k8,ah]
  have jr:=Af mj ml rfl rfl hB;have ad:=jw ((B++R').map ln) ((List.replicate sT.length [zZ "end"]).map ln) (by simp;omega);have g:sD [Y hd,Y (.list ds),Y (zk ks),Y (zh hs),Y (.bool true),Y (.list (B.map wl)),Z,Z,Z,Z,Z]=Y (.rt (wl ((B++R'++List.replicate sT.length [zZ "end"]).map ln))):=by
   refine fw (ρ1:=[Y hd,Y (.list ds),Y (zk ks),Y (zh hs),Y (.bool true),Y (.list (B.map wl)),Y (wl ns),Z,Z,Z,Z]) (fW ?_) (fw (ρ1:=[Y hd,Y (.list ds),Y (zk ks),Y (zh hs),Y (.bool true),Y (.list (B.map wl)),Y (wl ns),Y (wl (B.map ln)),Z,Z,Z]) ?_ (fw (ρ1:=u7 hd (.list ds) (.list (B.map wl)) ks hs ns B [] Z Z) rfl (fw (Oj rfl e) ?_)))
   ·show hZ 1 jv (zQ (bb 0)) [Y hd,Y (.list ds),Y (zk ks),Y (zh hs),Y (.bool true),Y (.list (B.map wl)),Z,Z,Z,Z,Z]=_
    simp? only[en]
   ·have c:=nB (q:=lQ (bb 5)) (caps:=[]) (T:=mj) (C:=ml) (ρ:=[Y hd,Y (.list ds),Y (zk ks),Y (zh hs),Y (.bool true),Y (.list (B.map wl)),Y (wl ns),Z,Z,Z,Z]) (ds:=B.map wl) rfl (by rw[ah];omega) jr;rw[xE,lN,tZ,tZ,qu];show (iG (lQ (bb 5)) [] mj ml [Y hd,Y (.list ds),Y (zk ks),Y (zh hs),Y (.bool true),Y (.list (B.map wl)),Y (wl ns),Z,Z,Z,Z]).bind _=_;rw[c];rfl
   ·have q1:gF gR (zQ (bb 8)) (u7 hd (.list ds) (.list (B.map wl)) ks hs ns (B++R') sT d' w')=Y (.int (sT.length:Int)):=LL;have q2:d2 vH (eT (zC "end" eB)) (zN (bb 8)) (u7 hd (.list ds) (.list (B.map wl)) ks hs ns (B++R') sT d' w')=Y (wl ((List.replicate sT.length [zZ "end"]).map ln)):=(fA (a:=.list [.str (zZ "end")]) rfl q1).trans (Pj _ l1);have q3:=(fA (o:=fC) (A:=bb 7) (a:=wl ((B++R').map ln)) rfl q2).trans ad;rw[lS,q3,aK (l₁:=B++R')];rfl
  rw[kX,jN,gO];show mS (sD [Y hd,Y (.list ds),Y (zk ks),Y (zh hs),Y (.bool true),Y (.list (B.map wl)),Z,Z,Z,Z,Z])=_;rw[g,iC]
end
section
variable {ks:List KR} (hk:yS ks) (xY:n<=3) {hs:List Hd} (Hi:HI (ks.map (·.nm)) n hs) (D:yi d)
theorem SM(m:Nat)(h:m<=2):∃l:Lr,l.length=m/\(∀w∈l,mJ w=true)/\Ec (wl [zZ "x",zZ "z"]) Z (Y (m:Int))=Y (wl l):=by
 rcases m with _|_|_|m
 ·exact⟨[],rfl,by simp,by kernel_rfl⟩
 ·exact⟨[zZ "x"],rfl,by intro w hw;simp at hw;subst hw;decide +kernel,by kernel_rfl⟩
 ·exact⟨[zZ "x",zZ "z"],rfl,by intro w hw;simp at hw;rcases hw with rfl|rfl<;>decide +kernel,by kernel_rfl⟩
 ·omega
include Hi in
theorem F0:gX nZ n4 [] (hs.map fF)=Y (zm hs):=xZ Hi
include hk xY Hi D in
theorem Ma:∃B,(∀ws∈B,GR ws)/\BK ks hs [] B []/\B.length<=2/\k6 [iN,d,.list (ks.map wo),.list (hs.map fF)]=Y (.list (B.map wl)):=by
 obtain⟨x0,X5⟩:=D.at 0 (by omega);obtain⟨x1,SG⟩:=D.at 1 (by omega);obtain⟨r,hr,er⟩:=u4 hk x0;have Vh:(0:Int)<(ks.length:Int):=by have:=br.mpr hk.ne;omega
 have nr:=kr _ (IT _ (hk.nm r hr));have VV:r.nm∈ks.map (·.nm):=aq.mpr ⟨r,hr,rfl⟩;have fc:=F0 Hi;have hl:=Hi.len;have g1:GR [zZ "new",zZ "x",r.nm]:=jy (zD 0) (λv hv=>by
  simp at hv;rcases hv with rfl|rfl
  ·decide +kernel
  ·exact nr) (by simp)
 have b1:BK ks hs [] [[zZ "new",zZ "x",r.nm]] []:=.row (.new VV) (.nil []);have q1:gF gR (zQ (bb 2)) [Y iN,Y d,Y (zk ks),Y (zh hs),Z,Z,Z]=Y (.int (ks.length:Int)):=u5 ks;have q2:=fA (o:=gm) (A:=bb 2) (a:=.list (ks.map wo)) (ρ:=[Y iN,Y d,Y (zk ks),Y (zh hs),Z,Z,Z]) rfl (gU (jx (i:=0) (A:=bb 1) (B:=dC (.int 0)) rfl rfl X5) q1 Vh);rw[er] at q2;have q3:=fA (o:=gm) (B:=dC (.int 0)) q2 rfl;rw[SI] at q3;have S1:(jH (fO [4] (eT (zQ (eT (zC "new" (zC "x" (zQ (zX (zX (bb 2) (d2 gq (zX (bb 1) (zI 0)) (zN (bb 2)))) (zI 0))))))))) 4) [Y iN,Y d,Y (zk ks),Y (zh hs),Z,Z,Z]=Y (.nx [Y iN,Y d,Y (zk ks),Y (zh hs),Y (.list [wl [zZ "new",zZ "x",r.nm]]),Z,Z]):=by rw[xE,lN,tZ,qu];show (eT _ [Y iN,Y d,Y (zk ks),Y (zh hs),Z,Z,Z]).bind _=_;rw[tY,fz,tY,fz,fz,fz,q3];rfl
 have S2:(fu (fO [4] (iG (lQ (bb 3)) [] nZ n4)) 5) [Y iN,Y d,Y (zk ks),Y (zh hs),Y (.list [wl [zZ "new",zZ "x",r.nm]]),Z,Z]=Y (.nx [Y iN,Y d,Y (zk ks),Y (zh hs),Y (.list [wl [zZ "new",zZ "x",r.nm]]),Y (.list (zm hs)),Z]):=fW (nB (ds:=hs.map fF) rfl (by rw[ah];omega) fc);have hq:∀h∈hs.filter λh=>!wq h,HV (ks.map (·.nm)) h/\Eg h.key:=λh hh=>by have:=(bU.mp hh).1;exact⟨Hi.hv h this,Hi.kk h this⟩
 have ne:=DX hq;have T:(fB (d2 mK (bb 5) (eT eB))) [Y iN,Y d,Y (zk ks),Y (zh hs),Y (.list [wl [zZ "new",zZ "x",r.nm]]),Y (.list (zm hs)),Z]=Y (!(hs.filter λh=>!wq h).isEmpty):=by rw[lZ,fA (A:=bb 5) (B:=eT eB) (a:=.list (zm hs)) (b:=.list []) rfl rfl,ne];rfl
 have fin:∀l:List Lr,qO [Y iN,Y d,Y (zk ks),Y (zh hs),Z,Z,Z]=Y (.rt (.list (l.map wl)))->k6 [iN,d,.list (ks.map wo),.list (hs.map fF)]=Y (.list (l.map wl)):=λl g=>by rw[k6,jN,gO];show mS (qO [Y iN,Y d,Y (zk ks),Y (zh hs),Z,Z,Z])=_;rw[g,iC]
 cases hb:(!(hs.filter λh=>!wq h).isEmpty) with
 |false=>rw[hb] at T;exact⟨[[zZ "new",zZ "x",r.nm]],by simpa using g1,b1,by simp,fin _ (zF (fw S1 (fw S2 (fw (iz T rfl) rfl))))⟩
 |true=>
  rw[hb] at T;have Qu:hs.filter (λh=>!wq h)≠[]:=by intro z;rw[z] at hb;cases hb
  obtain⟨dd,S7,ed⟩:=xS (zm hs) (by simpa using Qu) x1;obtain⟨h,hh,rfl⟩:=aq.mp S7;obtain⟨L7,Qv⟩:=bU.mp hh;have hv:=Hi.hv h L7;have MI:=Hi.kk h L7;have lp:(0:Int)<((zm hs).length:Int):=by have:0<(zm hs).length:=br.mpr (by simpa using Qu);omega
  obtain⟨l,Zf,hln,el⟩:=SM h.ks.length hv.lk;cases qk:h.key with
  |k9 k m=>rw[wq,qk] at Qv;cases Qv
  |func g=>
   have hg:g∈fN:=by rw[qk] at MI;exact MI
   have ng:=kr _ (Pb _ hg);have Qd:(g,l.length)∈Fh hs:=bw.mpr ⟨h,L7,by rw[SE,qk,Zf]⟩;have lk:=hv.lk;have g2:GR (zZ "func"::zZ "y"::g::l):=jy (zD 0) (λv hv=>by
    simp at hv;rcases hv with rfl|rfl|hv
    ·decide +kernel
    ·exact ng
    ·exact hln v hv) (by simp;omega)
   have b2:BK ks hs [] [zZ "func"::zZ "y"::g::l] []:=.row (.func (by omega) Qd) (.nil []);have i0:=MG h;rw[qk] at i0;have X7:gm (fF h) (.int 0)=Y (.str g):=i0;have i2:=hd2 h;have ll:gR [wl h.ks]=Y (.int (h.ks.length:Int)):=by rw[k8,ah]
   have ad:=jw [zZ "func",zZ "y",g] l (by simp;omega);refine⟨[[zZ "new",zZ "x",r.nm],zZ "func"::zZ "y"::g::l],IU ‹_› ‹_›,b1.app b2,by simp,fin _ (zF (fw S1 (fw S2 (fw (ρ1:=[Y iN,Y d,Y (zk ks),Y (zh hs),Y (.list [wl [zZ "new",zZ "x",r.nm],wl (zZ "func"::zZ "y"::g::l)]),Y (.list (zm hs)),Y (fF h)]) (jW T (fw (ρ1:=[Y iN,Y d,Y (zk ks),Y (zh hs),Y (.list [wl [zZ "new",zZ "x",r.nm]]),Y (.list (zm hs)),Y (fF h)]) (fW ?_) ?_)) rfl))))⟩
   ·have p1:gF gR (zQ (bb 5)) [Y iN,Y d,Y (zk ks),Y (zh hs),Z,Y (.list (zm hs)),Z]=Y (.int ((zm hs).length:Int)):=k8 _;exact(fA (o:=gm) (A:=bb 5) (a:=.list (zm hs)) rfl (gU (jx (i:=1) (A:=bb 1) (B:=dC (.int 1)) rfl rfl SG) p1 lp)).trans ed
   ·refine ud (ρ:=[Y iN,Y d,Y (zk ks),Y (zh hs),Y (.list [wl [zZ "new",zZ "x",r.nm]]),Y (.list (zm hs)),Y (fF h)]) (i:=4) (acc:=[wl [zZ "new",zZ "x",r.nm]]) rfl (by simp) ?_;rw[lN,tZ,qu];show d2 _ _ _ [Y iN,Y d,Y (zk ks),Y (zh hs),Z,Y (.list (zm hs)),Y (fF h)]=_;have p1:=(fA (o:=gm) (A:=bb 6) (B:=dC (.int 0)) (ρ:=[Y iN,Y d,Y (zk ks),Y (zh hs),Z,Y (.list (zm hs)),Y (fF h)]) (a:=fF h) rfl rfl).trans X7;have p2:=(fA (o:=gm) (A:=bb 6) (B:=dC (.int 2)) (ρ:=[Y iN,Y d,Y (zk ks),Y (zh hs),Z,Y (.list (zm hs)),Y (fF h)]) (a:=fF h) rfl rfl).trans i2;have p3:gF gR (zQ (zX (bb 6) (zI 2))) [Y iN,Y d,Y (zk ks),Y (zh hs),Z,Y (.list (zm hs)),Y (fF h)]=Y (.int (h.ks.length:Int)):=by
     rw[sM,fz,p2,jV];exact ll
    have p4:=(DU (A:=eT (zC "x" (zC "z" eB))) (a:=wl [zZ "x",zZ "z"]) rfl p3).trans el;have p5:(eT (zC "func" (zC "y" (zQ (zX (bb 6) (zI 0)))))) [Y iN,Y d,Y (zk ks),Y (zh hs),Z,Y (.list (zm hs)),Y (fF h)]=Y (wl [zZ "func",zZ "y",g]):=by rw[tY,fz,fz,fz,p1];rfl
    exact(fA p5 p4).trans ad
end
theorem D1{K:Lr}{h:Hd}(v:HV K h)(k:Eg h.key)(g:GR (h.ws _root_.id)):iu [fF h]=Y (.str (ln (h.ws _root_.id))):=by
 have L:=v.lp;have M:=v.lk;have H:=BP k;have T:(fB (d2 mB (zA ".") (zX (bb 0) (zI 0)))) [Y (fF h),Z,Z,Z,Z]=Y (wq h):=by rw[lZ,pY,rH,pY,rH,tX];simp only[bq,b0,aD,MG,i9,H,bW]
 have r:n5 [Y (fF h),Z,Z,Z,Z]=Y (.rt (.str (ln (h.ws _root_.id))))->iu [fF h]=Y (.str (ln (h.ws _root_.id))):=λg=>by rw[iu,jN,gO];show mS (n5 [Y (fF h),Z,Z,Z,Z])=_;rw[g,iC]
 refine r ?_;cases d:h.key with
 |k9 e m=>
  rw[d] at k;have D:=DW k;have u:wq h=true:=by rw[wq,d];rfl
  rw[u] at T;have j:=MG h;rw[d] at j;have i:gm (fF h) (.int 0)=Y (.str (jQ e m)):=j;have s:h.ws _root_.id=zZ "method"::e::m::h.ps:=by unfold Hd.ws;rw[d];simp
  rw[s] at g ⊢;have x:=jw [zZ "method",e,m] h.ps (by simp;omega);refine ko (jW T (fw (ρ1:=[Y (fF h),Y (.str e),Y (.str (zZ ".")),Y (.str m),Z]) ?_ ?_))
  ·have q:(fO [] (pN kT (zX (bb 0) (zI 0)) (zC "." eB))) [Y (fF h),Z,Z,Z,Z]=Y (.tuple [.str e,.str (zZ "."),.str m]):=by
    rw[lN,qu,IG,fA (A:=bb 0) (B:=dC (.int 0)) (a:=fF h) rfl rfl,i];simp only[aD,fz,rH,jV,D]
   rw[GY,q];rfl
  ·rw[lS,oS g ?_]
   ·rfl
   ·have n:=(fA (o:=gm) (A:=bb 0) (B:=dC (.int 1)) (ρ:=[Y (fF h),Y (.str e),Y (.str (zZ ".")),Y (.str m),Z]) (a:=fF h) rfl rfl).trans (X2 h);exact(fA (o:=fC) (A:=eT (zC "method" (c4 (bb 1) (zQ (bb 3))))) (a:=wl [zZ "method",e,m]) rfl n).trans x
 |func f=>
  have u:wq h=false:=by rw[wq,d];rfl
  rw[u] at T;have j:=MG h;rw[d] at j;have i:gm (fF h) (.int 0)=Y (.str f):=j;have s:h.ws _root_.id=zZ "func"::f::(h.ps++kw h.ks):=by unfold Hd.ws;rw[d];simp
  rw[s] at g ⊢;have x:=jw [zZ "func",f] h.ps (by simp;omega);have C:(fu (fO [] (d2 fC (eT (zC "func" (zQ (zX (bb 0) (zI 0))))) (zX (bb 0) (zI 1)))) 4) [Y (fF h),Z,Z,Z,Z]=Y (.nx [Y (fF h),Z,Z,Z,Y (wl ([zZ "func",f]++h.ps))]):=by
   refine fW (O:=[]) ?_;have p:=(fA (o:=gm) (A:=bb 0) (B:=dC (.int 0)) (ρ:=[Y (fF h),Z,Z,Z,Z]) (a:=fF h) rfl rfl).trans i;have n:=(fA (o:=gm) (A:=bb 0) (B:=dC (.int 1)) (ρ:=[Y (fF h),Z,Z,Z,Z]) (a:=fF h) rfl rfl).trans (X2 h);have E:(eT (zC "func" (zQ (zX (bb 0) (zI 0))))) [Y (fF h),Z,Z,Z,Z]=Y (wl [zZ "func",f]):=by rw[tY,fz,fz,p];rfl
   exact(fA E n).trans x
  have F:=L3 (ws:=h.ks) λw hw=>FT (v.ks w hw);have y:=(fA (o:=gm) (A:=bb 0) (B:=dC (.int 2)) (ρ:=[Y (fF h),Z,Z,Z,Y (wl ([zZ "func",f]++h.ps))]) (a:=fF h) rfl rfl).trans (hd2 h);have z:(fB (d2 mK (zX (bb 0) (zI 2)) (eT eB))) [Y (fF h),Z,Z,Z,Y (wl ([zZ "func",f]++h.ps))]=Y (!h.ks.isEmpty):=by rw[lZ,fA (B:=eT eB) (b:=.list []) y rfl,F];rfl
  by_cases c:h.ks=[]
  ·have t:zZ "func"::f::(h.ps++kw h.ks)=[zZ "func",f]++h.ps:=by simp[kw,c]
   rw[t] at g ⊢;refine fw (iz T rfl) (fw C (fw (iz (z.trans (by rw[c];rfl)) rfl) ?_));rw[lS,oS g rfl];rfl
  ·have t:zZ "func"::f::(h.ps++kw h.ks)=[zZ "func",f]++h.ps++[zZ "keeps"]++h.ks:=by simp[kw,c]
   rw[t] at g ⊢;have J:=jw ([zZ "func",f]++h.ps) [zZ "keeps"] (by simp;omega);have I:=jw ([zZ "func",f]++h.ps++[zZ "keeps"]) h.ks (by simp;omega);have G:(!h.ks.isEmpty)=true:=by cases q:h.ks with
    |nil=>exact absurd q c
    |cons a l=>rfl
   refine fw (iz T rfl) (fw C (fw (ρ1:=[Y (fF h),Z,Z,Z,Y (wl ([zZ "func",f]++h.ps++[zZ "keeps"]++h.ks))]) (jW (z.trans (by rw[G])) (fW (O:=[]) ?_)) ?_))
   ·have p:=(fA (o:=fC) (A:=bb 4) (B:=eT (zC "keeps" eB)) (ρ:=[Y (fF h),Z,Z,Z,Y (wl ([zZ "func",f]++h.ps))]) (a:=wl ([zZ "func",f]++h.ps)) (b:=wl [zZ "keeps"]) rfl rfl).trans J;exact(fA p y).trans I
   ·rw[lS,oS g rfl];rfl
structure PI (m k:Nat) (ps:List Lp):Prop where
 len:ps.length=m+1
 le:∀p∈ps,p.length<=k
 ok:∀p∈ps,∀x∈p,yi x
theorem Pk{a:Nat}(h:a<n):Ap n (a:Int)=Y a:=by
 unfold Ap;have b:(a:Int)<(n:Int):=by omega
 simp[b]
theorem D2{b:List Lp}{a:Nat}(c:a<b.length){x:fe}(i:∀p∈b,p.length<=900)(s m:Od):
  E4 (.sl 2) (fO [2,99] (bb 3)) (fO [2,99] (bb 4)) [s,m,Y (.list (b.map .list)),Y (.int (a:Int)),Y x]=Y (.nx [s,m,Y (.list ((b.set a (b[a]++[x])).map .list)),Y (.int (a:Int)),Y x]):=by
 have h:E3 (.list (b.map .list)) (.int (a:Int))=Y b[a]:=by show UG (rY (b.map .list) (a:Int))=_;rw[Oz,aJ,aO c];rfl
 have g:zu (.list (b.map .list)) (.int (a:Int)) (b[a]++[x])=fe.list ((b.set a (b[a]++[x])).map fe.list):=by show (match Ap (b.map fe.list).length (a:Int) with|some j=>fe.list ((b.map fe.list).set j (.list (b[a]++[x])))|none=>_)=_;rw[Pk (by rw[ah];exact c)];simp only;rw[List.map_set]
 have z:b[a].length<sizeLine:=by have:=i _ (cE c);rw[sizeLine_eq];omega
 show ((Y (fe.list (b.map .list))).bind λl=>(Y (fe.int (a:Int))).bind λf=>(E3 l f).bind λe=>(Y x).bind λd=>if e.length<sizeLine then Y (Out.nx (rW (.sl 2) (zu l f (e++[d])) [s,m,Y (.list (b.map .list)),Y (.int (a:Int)),Y x])) else Z)=_;simp only[aD,h,ai z,g];rfl
theorem PI.put{m k a:Nat}{d:List Lp}(h:PI m k d)(e:a<d.length){x:fe}(f:yi x):PI m (k+1) (d.set a (d[a]++[x])):=by
 refine⟨by rw[eQ,h.len],λp c=>?_,λp c y b=>?_⟩
 ·rcases d8 c with c|rfl
  ·have:=h.le p c;omega
  ·have:=h.le _ (cE e);simp;omega
 ·rcases d8 c with c|rfl
  ·exact h.ok p c y b
  ·rcases aw.mp b with b|b
   ·exact h.ok _ (cE e) y b
   ·simp at b;subst b;exact f
theorem F4{m k a:Nat}{ps:List Lp}(h:PI m k ps)(hk:k<=800)(ha:a<=m){x:fe}(hx:yi x)(s:Od):
  ∃a' Zg,a'<=m/\PI m (k+1) Zg/\nY [s,Y (.int (m:Int)),Y (.list (ps.map .list)),Y (.int (a:Int)),Y x]=Y (.nx [s,Y (.int (m:Int)),Y (.list (Zg.map .list)),Y (.int (a':Int)),Y x]):=by
 obtain⟨y,hy⟩:=hx.at 13 (by omega);have hl:∀p∈ps,p.length<=900:=λp hp=>by have:=h.le p hp;omega
 have q1:=fA (o:=iS) (B:=dC (.int 5)) (b:=.int 5) (gU (m:=6) (C:=dC (.int 6)) (jx (i:=13) (A:=bb 4) (B:=dC (.int 13)) (ρ:=[s,Y (.int (m:Int)),Y (.list (ps.map .list)),Y (.int (a:Int)),Y x]) rfl rfl hy) rfl (by omega)) rfl;rw[MD] at q1;have T:(iT (fB (d2 iS (d2 gq (zX (bb 4) (zI 13)) (zI 6)) (zI 5))) (fB (d2 yg (bb 3) (bb 1)))) [s,Y (.int (m:Int)),Y (.list (ps.map .list)),Y (.int (a:Int)),Y x]=Y ((y % 6==5)&&decide ((a:Int)<(m:Int))):=by
  rw[oP,lZ,q1];cases (y % 6==5) with
  |false=>rfl
  |true=>show GZ (Y true) _ _ _=_;rw[xF,lZ,fA (A:=bb 3) (B:=bb 1) (a:=.int (a:Int)) (b:=.int (m:Int)) rfl rfl,Vl];rfl
 cases hb:((y % 6==5)&&decide ((a:Int)<(m:Int))) with
 |false=>
  rw[hb] at T;have yh:a<ps.length:=by rw[h.len];omega
  exact⟨a,_,ha,h.put yh hx,fw (iz T rfl) (D2 yh hl _ _)⟩
 |true=>
  rw[hb] at T;rw[bD,bR] at hb;have yh:a+1<ps.length:=by rw[h.len];omega
  exact⟨a+1,_,by omega,h.put yh hx,fw (ρ1:=[s,Y (.int (m:Int)),Y (.list (ps.map .list)),Y (.int ((a+1:Nat):Int)),Y x]) (jW T rfl) (D2 yh hl _ _)⟩
theorem x9{m:Nat}(s:Od):∀(c:Lp) (k a:Nat) (ps:List Lp) (d:Od),PI m k ps->a<=m->(∀x∈c,yi x)->k+c.length<=800 ->
  ∃b g f,PI m (k+c.length) b/\js (qt (.one 4)) nY c [s,Y (.int (m:Int)),Y (.list (ps.map .list)),Y (.int (a:Int)),d]=Y (.nx [s,Y (.int (m:Int)),Y (.list (b.map .list)),g,f])
 |[],k,a,ps,d,h,_,_,_=>⟨ps,_,d,h,rfl⟩
 |x::c,k,a,ps,d,h,ha,hD,hl=>by rw[ay] at hl;obtain⟨q,e,n,l,p⟩:=F4 h (by omega) ha (hD x (by simp)) s;obtain⟨b,g,f,j,o⟩:=x9 s c (k+1) q e (Y x) l n (λy i=>hD y (by simp[i])) (by omega);exact⟨b,g,f,by rw[ay,show k+(c.length+1)=k+1+c.length by omega];exact j,kx rfl p o⟩
theorem Mb(b:∀x∈ds,yi x)(l:ds.length<=100){m:Nat}(k:m<=3):∃a,PI m ds.length a/\oG [.list ds,.int (m:Int)]=Y (.list (a.map .list)):=by
 obtain⟨a,f,d,h,e⟩:=x9 (m:=m) (Y (.list ds)) ds 0 0 (List.replicate (m+1) []) Z ⟨by simp,by simp,by simp⟩ (by omega) b (by omega);refine⟨a,by simpa using h,?_⟩;have j:(jH (fO [2,99] (iG (jY (d2 fC (bb 1) (zI 1))) [] lF lG)) 2) [Y (.list ds),Y (.int (m:Int)),Z,Z,Z]=Y (.nx [Y (.list ds),Y (.int (m:Int)),Y (.list ((List.replicate (m+1) []).map .list)),Z,Z]):=by
  have c:gX lF lG [] ((List.range' 0 (m+1)).map λ(i:Nat)=>fe.int (i:Int))=Y ((List.replicate (m+1) []).map .list):=by
   rcases m with _|_|_|_|m
   all_goals first|omega|rfl
  rw[xE];show (iG (jY (d2 fC (bb 1) (zI 1))) [] lF lG [Y (.list ds),Y (.int (m:Int)),Z,Z,Z]).bind _=_;rw[nB (xK (n:=m+1) (by omega) _ _ rfl) (by simp;omega) c];rfl
 have g:qN [Y (.list ds),Y (.int (m:Int)),Z,Z,Z]=Y (.rt (.list (a.map .list))):=by refine fw j (fw (ρ1:=[Y (.list ds),Y (.int (m:Int)),Y (.list ((List.replicate (m+1) []).map .list)),Y (.int ((0:Nat):Int)),Z]) rfl (fw (ρ1:=[Y (.list ds),Y (.int (m:Int)),Y (.list (a.map .list)),f,d]) ?_ rfl));rw[Dr,GW];exact e
 rw[oG,jN,gO];show mS (qN [Y (.list ds),Y (.int (m:Int)),Z,Z,Z])=_;rw[g,iC]
theorem Pm(b a:Lr)(h:b.length+a.length<=900):CO (wl b) (wl a)=Y (wl (b++a)):=by show (if _ then _ else Z)=_;rw[ai (by rw[ah,ah,sizeLine_eq];omega),<-aK]
theorem BR(ns:List Int)(k:Nat):∃c:Int,gH [.list (ns.map .int),.int (k:Int)]=Y (.int c):=by
 by_cases h:k<ns.length
 ·refine⟨ns[k],?_⟩;have a:yg (.int (k:Int)) (.int (((ns.map fe.int).length:Nat):Int))=Y (.bool true):=by
   have:(k:Int)<((ns.length:Nat):Int):=by omega
   simp[yg,dI,this]
  have b:gm (.list (ns.map .int)) (.int (k:Int))=Y (.int ns[k]):=by rw[sj,Oz,aJ,aO h];rfl
  simp? only[gH,oZ,k8,a,b]
 ·refine⟨0,?_⟩;have a:yg (.int (k:Int)) (.int (((ns.map fe.int).length:Nat):Int))=Y (.bool false):=VP (by simp;omega)
  simp? only[gH,oZ,k8,a]
theorem uk(c:Int)(b:Bool):∃d,yi d/\jb [.int c,.bool b]=Y d:=by obtain⟨a,f,e⟩:=O7 c b;exact⟨_,⟨a,f,rfl⟩,e⟩
theorem ya(b:Bool):∀ns:List Int,∃ds:Lp,ds.length=ns.length/\(∀x∈ds,yi x)/\gX lI km [Y (.bool b)] (ns.map .int)=Y ds
 |[]=>⟨[],rfl,by simp,rfl⟩
 |c::ns=>by
  obtain⟨ds,i,h,g⟩:=ya b ns;obtain⟨d,f,e⟩:=uk c b;refine⟨d::ds,by simp[i],λx a=>?_,?_⟩
  ·rcases ag.mp a with rfl|a
   ·exact f
   ·exact h x a
  ·have k:lI [Y (.int c),Y (.bool b)]=Y true:=rfl;have j:km [Y (.int c),Y (.bool b)]=Y d:=by
    rw[km];simp? only[e]
   rw[ae,gX,k]
   simp? only[j,g]
theorem D3(ns:List Int)(a b:Option Int):∃l:List Int,l.length<=ns.length/\nc (ns.map fe.int) a b=l.map .int:=by unfold nc;rw[<-List.map_drop,<-List.map_take];exact⟨_,by simp;omega,rfl⟩
theorem Hw(r:KR):hH r=zZ "kind"::r.nm::(wm r.el++uV r.own):=rfl
theorem F5(b:Lr):Ec (wl [zZ "fields"]) Z (Y ((b.length:Nat):Int))=Y (wl (if b=[] then [] else [zZ "fields"])):=by
 cases b with
 |nil=>kernel_rfl
 |cons a l=>
  rw[ao (by simp),Ed]
  congr 2
  have:((((a::l).length:Nat):Int))=(((l.length+1:Nat)):Int):=by simp
  rw[this];unfold nc;rw[xH,ao (by omega)];have:min ((((l.length+1:Nat)):Int)).toNat 1=1:=by omega
  simp[HT.ke,this]
theorem Mc(a:Lr):uV a=(if a=[] then [] else [zZ "fields"])++a:=by cases a<;>rfl
def lst(A:List Od)(L:List Lr)(B:List Od):c5:=A++Y (wl (L.map ln))::B
section
variable (s f kd hd pt:fe) (b:Bool)
noncomputable def l1(L:List Lr)(n e o r:Od):c5:=[Y s,Y (.int 2),Y (.int 63),Y (.bool true),Y (.bool b),Y f,Y kd,Y hd,Y pt,Y (wl (L.map ln)),n,e,o,r,Z,Z,Z]
theorem F6{r:KR}(g:GR (hH r)){L:List Lr}(w:L.length<=900)(d:Od):∃c,n7 (l1 s f kd hd pt b L (Y (.str r.nm)) (Y (sU r.el)) (Y (wl r.own)) d)=Y (.nx (l1 s f kd hd pt b (L++[hH r]) (Y (.str r.nm)) (Y (sU r.el)) (Y (wl r.own)) c)):=by
 have k:=g.2.2;rw[Hw] at k;simp only[ay,aB] at k;have u:r.own.length<=(uV r.own).length:=by rw[Mc];simp
 have h:∃ρr:Lr,ρr=zZ "kind"::r.nm::wm r.el/\(iA (fB (d2 oD (bb 11) (dC .none))) (fu (fO [9] (d2 fC (bb 13) (eT (zC "of" (zQ (bb 11)))))) 13) gi) (l1 s f kd hd pt b L (Y (.str r.nm)) (Y (sU r.el)) (Y (wl r.own)) (Y (wl [zZ "kind",r.nm])))=Y (.nx (l1 s f kd hd pt b L (Y (.str r.nm)) (Y (sU r.el)) (Y (wl r.own)) (Y (wl ρr)))):=by
  cases q:r.el with
  |none=>exact⟨_,rfl,iz rfl rfl⟩
  |some j=>have a:=jw [zZ "kind",r.nm] [zZ "of",j] (by simp);exact⟨_,rfl,jW rfl (fW (O:=[9]) ((fA (o:=fC) (A:=bb 13) (B:=eT (zC "of" (zQ (bb 11)))) (a:=wl [zZ "kind",r.nm]) (b:=wl [zZ "of",j]) rfl rfl).trans a))⟩
 obtain⟨ρr,e,h⟩:=h;have t:gR [wl r.own]=Y (.int (r.own.length:Int)):=by rw[k8,ah]
 refine⟨Y (wl ρr),fw (ρ1:=l1 s f kd hd pt b L (Y (.str r.nm)) (Y (sU r.el)) (Y (wl r.own)) (Y (wl [zZ "kind",r.nm]))) rfl (fw h ?_)⟩;have X:(fO [9] (pN je (zA " ") (zQ (d2 fC (d2 fC (bb 13) (gz (eT (zC "fields" eB)) iL (gM (zN (bb 12))))) (bb 12))))) (l1 s f kd hd pt b L (Y (.str r.nm)) (Y (sU r.el)) (Y (wl r.own)) (Y (wl ρr)))=Y (.str (ln (hH r))):=by
  rw[lN,tZ,qu];refine oS g ?_;show d2 _ _ _ [Y s,Y (.int 2),Y (.int 63),Y (.bool true),Y (.bool b),Y f,Y kd,Y hd,Y pt,Z,Y (.str r.nm),Y (sU r.el),Y (wl r.own),Y (wl ρr),Z,Z,Z]=_;have p:gF gR (zQ (bb 12)) [Y s,Y (.int 2),Y (.int 63),Y (.bool true),Y (.bool b),Y f,Y kd,Y hd,Y pt,Z,Y (.str r.nm),Y (sU r.el),Y (wl r.own),Y (wl ρr),Z,Z,Z]=Y (.int (r.own.length:Int)):=t;have n:=(DU (A:=eT (zC "fields" eB)) (a:=wl [zZ "fields"]) rfl p).trans (F5 r.own);have x:(if r.own=[] then [] else [zZ "fields"]).length<=1:=by split<;>simp
  have v:(wm r.el).length<=2:=by cases r.el<;>simp[wm]
  have m:=(fA (o:=fC) (A:=bb 13) (a:=wl ρr) rfl n).trans (jw ρr (if r.own=[] then [] else [zZ "fields"]) (by rw[e];simp;omega));have l:=(fA (o:=fC) (B:=bb 12) (b:=wl r.own) m rfl).trans (jw (ρr++(if r.own=[] then [] else [zZ "fields"])) r.own (by rw[e];simp;omega));rw[l,e,Hw,Mc];simp
 have:=ud (ρ:=l1 s f kd hd pt b L (Y (.str r.nm)) (Y (sU r.el)) (Y (wl r.own)) (Y (wl ρr))) (i:=9) (acc:=(L.map ln).map .str) rfl (by simp;omega) X;rw[this];unfold l1;rw[aK,ae,a9,o5];rfl
theorem vy:∀(a:List KR) (L:List Lr) (n e o r:Od),(∀r∈a,GR (hH r))->L.length+a.length<=900 ->
  ∃g h d c,js (qt (.many [10,11,12])) n7 (a.map wo) (l1 s f kd hd pt b L n e o r)=Y (.nx (l1 s f kd hd pt b (L++a.map hH) g h d c))
 |[],L,n,e,o,r,_,_=>⟨n,e,o,r,by rw[show L++List.map hH []=L from aF L];rfl⟩
 |k::a,L,n,e,o,r,hg,hl=>by rw[ay] at hl;obtain⟨j,m⟩:=F6 s f kd hd pt b (hg k (by simp)) (L:=L) (by omega) r;obtain⟨g,h,d,c,i⟩:=vy a (L++[hH k]) (Y (.str k.nm)) (Y (sU k.el)) (Y (wl k.own)) j (λx l=>hg x (by simp[l])) (by simp;omega);refine⟨g,h,d,c,?_⟩;rw[aQ] at i;exact kx (ρ':=l1 s f kd hd pt b L (Y (.str k.nm)) (Y (sU k.el)) (Y (wl k.own)) r) rfl m i
end
theorem Qw{K:Lr}{h:Hd}(v:HV K h):GR (h.ws _root_.id):=by have o:=(v.hd qh (F:=K.map λk=>(k,.none)) λk a=>aq.mpr ⟨(k,.none),aq.mpr ⟨k,a,rfl⟩,rfl⟩).1;refine⟨?_,o.nm,o.len⟩;obtain⟨b,r,e,_⟩:=o.hd;rw[e];simp
section
variable {ks:List KR} (hk:yS ks) (xY:n<=3) {hs:List Hd} (Hi:HI (ks.map (·.nm)) n hs) {ps:List Lp}{q:Nat} (hq:q<=63) (hp:PI n q ps) (s f:fe) (b:Bool)
noncomputable def l2(s f:fe)(b:Bool)(c:List KR)(d:List Hd)(a:List Lp)(L:List Lr)(x y z u v:Od):c5:=[Y s,Y (.int 2),Y (.int 63),Y (.bool true),Y (.bool b),Y f,Y (zk c),Y (zh d),Y (.list (a.map .list)),Y (wl (L.map ln)),x,y,z,u,Y iN,v,Z]
include hk xY Hi hq hp in
theorem F7{h:Hd}(hi:hs[i]?=Y h){L:List Lr}(hl:L.length<=700)(x y z u:Od):∃R,BK ks hs [] R []/\(∀ws∈R,GR ws)/\R.length<=73/\n8 (l2 s f b ks hs ps L x y z u (Y (.int (i:Int))))=Y (.nx (l2 s f b ks hs ps (L++ku (h.ws _root_.id) R) x y z u (Y (.int (i:Int))))):=by
 have hm:h∈hs:=cP hi;have v:=Hi.hv h hm;have kk:=Hi.kk h hm;have gh:=Qw v;have yh:i<hs.length:=by
  rcases Nat.lt_or_ge i hs.length with h1|h1
  ·exact h1
  ·rw[bX h1] at hi;cases hi
 rw[Hi.len] at yh;have Zh:i+1<ps.length:=by rw[hp.len];omega
 obtain⟨ns,n1,n2,n3⟩:=IX v kk;have Yc:=cE Zh;obtain⟨R,k1,k2,k3,k4⟩:=vx hk xY Hi n1 n2 (fF h) (ds:=ps[i+1]) (hp.ok _ Yc) (by have:=hp.le _ Yc;omega) (B:=[]) (by simp) (.nil []) (by simp) n3;have lq:=hp.le _ Yc;refine⟨R,k1,k2,by omega,?_⟩;have ih:∀(L9:Od),d2 gm (bb 7) (bb 15) [Y s,Y (.int 2),Y (.int 63),Y (.bool true),Y (.bool b),Y f,Y (zk ks),Y (zh hs),Y (.list (ps.map .list)),L9,x,y,z,u,Y iN,Y (.int (i:Int)),Z]=Y (fF h):=λL9=>by rw[fA (A:=bb 7) (B:=bb 15) (a:=.list (hs.map fF)) (b:=.int (i:Int)) rfl rfl,sj,Oz,aJ,hi];rfl
 have hr:=D1 v kk gh;have S1:(gd (.sl 9) (fO [9] (hZ 1 iu (zQ (zX (bb 7) (bb 15)))))) (l2 s f b ks hs ps L x y z u (Y (.int (i:Int))))=Y (.nx (l2 s f b ks hs ps (L++[h.ws _root_.id]) x y z u (Y (.int (i:Int))))):=by
  have X:(fO [9] (hZ 1 iu (zQ (zX (bb 7) (bb 15))))) (l2 s f b ks hs ps L x y z u (Y (.int (i:Int))))=Y (.str (ln (h.ws _root_.id))):=by rw[lN,tZ,qu];show hZ 1 iu _ [Y s,Y (.int 2),Y (.int 63),Y (.bool true),Y (.bool b),Y f,Y (zk ks),Y (zh hs),Y (.list (ps.map .list)),Z,x,y,z,u,Y iN,Y (.int (i:Int)),Z]=_;rw[Dq,fz,ih,jV];exact hr
  have:=ud (ρ:=l2 s f b ks hs ps L x y z u (Y (.int (i:Int)))) (i:=9) (acc:=(L.map ln).map .str) rfl (by simp;omega) X;rw[this];unfold l2;rw[aK,ae,a9,o5];rfl
 refine fw S1 ?_;have ip:d2 gm (bb 8) (d2 fC (bb 15) (zI 1)) (l2 s f b ks hs ps (L++[h.ws _root_.id]) x y z u (Y (.int (i:Int))))=Y (.list ps[i+1]):=by have e:d2 fC (bb 15) (zI 1) (l2 s f b ks hs ps (L++[h.ws _root_.id]) x y z u (Y (.int (i:Int))))=Y (.int ((i+1:Nat):Int)):=rfl;rw[fA (A:=bb 8) (a:=.list (ps.map .list)) rfl e,sj,Oz,aJ,aO Zh];rfl
 have bd:(hZ 6 kX (c4 (zX (bb 7) (bb 15)) (c4 (zX (bb 8) (d2 fC (bb 15) (zI 1))) (c4 (bb 6) (c4 (bb 7) (c4 (bb 3) (zQ (eT eB)))))))) (l2 s f b ks hs ps (L++[h.ws _root_.id]) x y z u (Y (.int (i:Int))))=Y (wl (R.map ln)):=by rw[Dq,fz,show d2 gm (bb 7) (bb 15) (l2 s f b ks hs ps (L++[h.ws _root_.id]) x y z u (Y (.int (i:Int))))=Y (fF h) from ih _,fz,ip];exact k4
 have a1:=jw ((L++[h.ws _root_.id]).map ln) (R.map ln) (by simp;omega);have a2:=Pm ((L++[h.ws _root_.id]).map ln++R.map ln) [zZ "end"] (by simp;omega);have q1:=(fA (o:=fC) (A:=bb 9) (a:=wl ((L++[h.ws _root_.id]).map ln)) rfl bd).trans a1;have q2:=(fA (o:=CO) (B:=eT (zC "end" eB)) (b:=wl [zZ "end"]) q1 rfl).trans a2;rw[xE,Qg,q2];simp only[aD,BC,cQ];have e:(L++ku (h.ws _root_.id) R).map ln=(L++[h.ws _root_.id]).map ln++R.map ln++[zZ "end"]:=by simp[ku];rfl
 unfold l2;rw[e];rfl
def mT(a:List (Hd×List Lr)):List Lr:=a.flatMap λh=>ku (h.1.ws _root_.id) h.2
def Me(c:List KR)(d:List Hd)(a:List (Hd×List Lr)):Prop:=∀h∈a,BK c d [] h.2 []/\(∀b∈h.2,GR b)/\h.2.length<=73
theorem yb{b:List KR}{d:List Hd}:∀{a:List (Hd×List Lr)},Me b d a->(mT a).length<=a.length*75
 |[],_=>by simp[mT]
 |h::a,o=>by
  have f:=yb λx (c:x∈a)=>o x (by simp[c]);have:=(o h (by simp)).2.2;have e:mT (h::a)=ku (h.1.ws _root_.id) h.2++mT a:=rfl;rw[e,aB,ay];have:(ku (h.1.ws _root_.id) h.2).length=h.2.length+2:=by simp[ku]
  omega
include hk xY Hi hq hp in
theorem um{L0:List Lr}(hl0:L0.length<=3)(x y z u:Od):∀(m i:Nat) (acc:List (Hd×List Lr)) (v:Od),i+m=n->acc.map (·.1)=hs.take i->Me ks hs acc ->
  ∃Mf v',Mf.map (·.1)=hs/\Me ks hs Mf/\js (qt (.one 15)) n8 ((List.range' i m).map λ(i:Nat)=>fe.int (i:Int)) (l2 s f b ks hs ps (L0++mT acc) x y z u v)=Y (.nx (l2 s f b ks hs ps (L0++mT Mf) x y z u v'))
 |0,i,acc,v,hi,ha,ho=>⟨acc,v,by rw[ha,List.take_of_length_le (by rw[Hi.len];omega)],ho,rfl⟩
 |m+1,i,acc,v,hi,ha,ho=>by
  have yh:i<hs.length:=by rw[Hi.len];omega
  have VW:acc.length=i:=by have:=bK List.length ha;rw[ah,dz] at this;omega
  have hb:=yb ho;have hg:hs[i]?=Y hs[i]:=aO yh;obtain⟨R,k1,k2,k3,e1⟩:=F7 hk xY Hi hq hp s f b hg (L:=L0++mT acc) (by rw[aB];omega) x y z u;have eL:L0++mT acc++ku (hs[i].ws _root_.id) R=L0++mT (acc++[(hs[i],R)]):=by simp[mT]
  rw[eL] at e1;obtain⟨Mf,v',h1,h2,e2⟩:=um hl0 x y z u m (i+1) (acc++[(hs[i],R)]) (Y (.int (i:Int))) (by omega) (by rw[aK,ha,d7,hg];rfl) (λh hh=>by
   rcases aw.mp hh with hh|hh
   ·exact ho h hh
   ·simp at hh;subst hh;exact⟨k1,k2,k3⟩)
  refine⟨Mf,v',h1,h2,?_⟩;rw[dF,ae];exact kx (ρ':=l2 s f b ks hs ps (L0++mT acc) x y z u (Y (.int (i:Int)))) rfl e1 e2
end
theorem Vq{F:Lp->Od}{A B:c5->Od}{a b:fe}(d:A ρ=Y a)(c:B ρ=Y b):hZ 2 F (c4 A (zQ B)) ρ=F [a,b]:=by rw[Dq,fz,d,fz,c,jV];rfl
theorem Mg{ns:List Int}(hns:ns.length<=63):∃t,(yR t/\zZ "ka"∈t.K/\∀h∈t.hs,Eg h.1.key)/\oJ [.list (ns.map .int),.int 2,.int 63,.bool true]=Y (wl (t.rows.map ln)):=by
 obtain⟨N,e0⟩:=BR ns 0;obtain⟨c1,e1⟩:=BR ns 1;obtain⟨b,hb⟩:∃b,iS (.int (N % 2)) (.int 0)=Y (.bool b):=⟨_,MD _ _⟩
 obtain⟨f,hf,ef⟩:=uk (N / 2) b;obtain⟨d1,F,U⟩:=uk c1 b;obtain⟨k,s,ek⟩:=LZ hf;obtain⟨m,n,w,H,eh⟩:=BO F s;obtain⟨l,Zf,I⟩:=D3 ns (Y 2) (Y 63);obtain⟨ds,hdl,hD,ec⟩:=ya b l;obtain⟨p,Q,ep⟩:=Mb hD (by omega) w;obtain⟨B,B1,B2,B3,eb⟩:=Ma s w H hf;have E:0<p.length:=by rw[Q.len];omega
 have D:=cE E;have lq:=Q.le _ D;obtain⟨R,k1,k2,k3,k4⟩:=vx s w H (ns:=["x","y","z"].map Str.ofString) (by simp) L8 iN (ds:=p[0]) (Q.ok _ D) (by omega) B1 B2 B3 FW;have hkl:=s.len;obtain⟨x,y,z,u,G⟩:=vy (.list (ns.map .int)) f (zk k) (zh m) (.list (p.map .list)) b k [] Z Z Z Z s.gr (by simp;omega);obtain⟨d,v,P,W,J⟩:=um s w H (q:=ds.length) (by omega) Q (.list (ns.map .int)) f b (L0:=k.map hH) (by simp;omega) x y z u n 0 [] Z (by omega) (by simp) (by intro h r;simp at r);rw[bp] at G;have S:mT ([]:List (Hd×List Lr))=[]:=rfl;rw[S,aF] at J;have al:d.length<=3:=by have:=bK List.length P;rw[ah,H.len] at this;omega
 have bl:=yb W;let t:Tx:=⟨k,d,R⟩
 have eM:t.M=Mh m:=by show d.filterMap (λh=>Te h.1)=m.filterMap Te;rw[<-P,dZ];rfl
 have eF:t.Fu=Fh m:=by show d.filterMap (λh=>SE h.1)=m.filterMap SE;rw[<-P,dZ];rfl
 have eR:t.rows=k.map hH++mT d++ku [zZ "main"] R:=by show k.map hH++(mT d++ku [zZ "main"] R)=_;rw[aQ]
 have rl:t.rows.length<=700:=by
  rw[eR];have:(ku [zZ "main"] R).length=R.length+2:=by simp[ku]
  simp only[aB,ah,this];omega
 have X:∀h∈d,h.1∈m:=λh r=>by rw[<-P];exact aq.mpr ⟨h,r,rfl⟩
 refine⟨t,⟨⟨s.rd,s.kv,s.gr,λh r=>H.hv _ (X h r),?_,λh r=>?_,?_,λh r=>(W h r).2.1,k2,rl⟩,s.ka,λh r=>H.kk _ (X h r)⟩,?_⟩
 ·show (d.map (·.1.key)).Nodup;have:d.map (·.1.key)=m.map (·.key):=by rw[<-P,cR];rfl
  rw[this];exact H.nd
 ·rw[eM,eF];exact(W h r).1
 ·rw[eM,eF];exact k1
 have m0:=DT (i:=N) (j:=2) (by omega);have v0:=SF (i:=N) (j:=2) (by omega) (by omega);have g:qQ [Y (.list (ns.map .int)),Y (.int 2),Y (.int 63),Y (.bool true),Z,Z,Z,Z,Z,Z,Z,Z,Z,Z,Z,Z,Z]=Y (.rt (wl (t.rows.map ln))):=by
  have L:gH [.list (ns.map .int),.int 0]=Y (.int N):=e0;have V:gH [.list (ns.map .int),.int 1]=Y (.int c1):=e1;refine fw (ρ1:=[Y (.list (ns.map .int)),Y (.int 2),Y (.int 63),Y (.bool true),Y (.bool b),Z,Z,Z,Z,Z,Z,Z,Z,Z,Z,Z,Z]) (fW ?_) (fw (ρ1:=[Y (.list (ns.map .int)),Y (.int 2),Y (.int 63),Y (.bool true),Y (.bool b),Y f,Z,Z,Z,Z,Z,Z,Z,Z,Z,Z,Z]) (fW ?_) (fw (ρ1:=[Y (.list (ns.map .int)),Y (.int 2),Y (.int 63),Y (.bool true),Y (.bool b),Y f,Y (zk k),Z,Z,Z,Z,Z,Z,Z,Z,Z,Z]) (fW ?_) (fw (ρ1:=[Y (.list (ns.map .int)),Y (.int 2),Y (.int 63),Y (.bool true),Y (.bool b),Y f,Y (zk k),Y (zh m),Z,Z,Z,Z,Z,Z,Z,Z,Z]) (fW ?_) (fw (ρ1:=[Y (.list (ns.map .int)),Y (.int 2),Y (.int 63),Y (.bool true),Y (.bool b),Y f,Y (zk k),Y (zh m),Y (.list (p.map .list)),Z,Z,Z,Z,Z,Z,Z,Z]) (fW ?_) (fw (ρ1:=l1 (.list (ns.map .int)) f (zk k) (zh m) (.list (p.map .list)) b [] Z Z Z Z) rfl (fw (rM rfl G) (fw (ρ1:=l2 (.list (ns.map .int)) f b k m p (k.map hH) x y z u Z) rfl (fw (rM (xK (n:=n) (by omega) _ _ ?_) J) (fw (ρ1:=[Y (.list (ns.map .int)),Y (.int 2),Y (.int 63),Y (.bool true),Y (.bool b),Y f,Y (zk k),Y (zh m),Y (.list (p.map .list)),Y (wl ((k.map hH++mT d).map ln)),x,y,z,u,Y iN,v,Y (.list (B.map wl))]) ?_ ?_)))))))))
  ·rw[tZ,qu]
   simp? only[L,m0,hb]
  ·rw[tZ,qu]
   simp? only[L,v0,ef]
  ·rw[tZ,qu]
   simp? only[ek]
  ·rw[tZ,qu]
   simp? only[V,U,eh]
  ·rw[tZ,qu];have qs:lQ (gz (bb 0) (gM (bb 1)) (gM (bb 2))) [Y (.list (ns.map .int)),Y (.int 2),Y (.int 63),Y (.bool true),Y (.bool b),Y f,Y (zk k),Y (zh m),Z,Z,Z,Z,Z,Z,Z,Z,Z]=Y (l.map .int):=by
    simp? only[Ed,I]
   have c:=nB (q:=lQ (gz (bb 0) (gM (bb 1)) (gM (bb 2)))) (caps:=[(4,"_law_digits")]) (T:=lI) (C:=km) (ρ:=[Y (.list (ns.map .int)),Y (.int 2),Y (.int 63),Y (.bool true),Y (.bool b),Y f,Y (zk k),Y (zh m),Z,Z,Z,Z,Z,Z,Z,Z,Z]) (ds:=l.map .int) qs (by rw[ah];omega) ec;have hl:gF gR (zQ (bb 7)) [Y (.list (ns.map .int)),Y (.int 2),Y (.int 63),Y (.bool true),Y (.bool b),Y f,Y (zk k),Y (zh m),Z,Z,Z,Z,Z,Z,Z,Z,Z]=Y (.int (n:Int)):=by
    simp? only[k8,ah,H.len]
   exact(Vq c hl).trans ep
  ·show gR [.list (m.map fF)]=_;rw[k8,ah,H.len]
  ·refine fW (O:=[9]) (ρ:=[Y (.list (ns.map .int)),Y (.int 2),Y (.int 63),Y (.bool true),Y (.bool b),Y f,Y (zk k),Y (zh m),Y (.list (p.map .list)),Y (wl ((k.map hH++mT d).map ln)),x,y,z,u,Y iN,v,Z]) ?_;rw[tZ,qu];show hZ 4 k6 _ [Y (.list (ns.map .int)),Y (.int 2),Y (.int 63),Y (.bool true),Y (.bool b),Y f,Y (zk k),Y (zh m),Y (.list (p.map .list)),Z,x,y,z,u,Y iN,v,Z]=_
   simp? only[eb]
  ·have bd:(hZ 6 kX (c4 (bb 14) (c4 (zX (bb 8) (zI 0)) (c4 (bb 6) (c4 (bb 7) (c4 (bb 3) (zQ (bb 16)))))))) [Y (.list (ns.map .int)),Y (.int 2),Y (.int 63),Y (.bool true),Y (.bool b),Y f,Y (zk k),Y (zh m),Y (.list (p.map .list)),Y (wl ((k.map hH++mT d).map ln)),x,y,z,u,Y iN,v,Y (.list (B.map wl))]=Y (wl (R.map ln)):=by
    have ip:d2 gm (bb 8) (zI 0) [Y (.list (ns.map .int)),Y (.int 2),Y (.int 63),Y (.bool true),Y (.bool b),Y f,Y (zk k),Y (zh m),Y (.list (p.map .list)),Y (wl ((k.map hH++mT d).map ln)),x,y,z,u,Y iN,v,Y (.list (B.map wl))]=Y (.list p[0]):=by rw[fA (A:=bb 8) (B:=dC (.int 0)) (a:=.list (p.map .list)) (b:=.int ((0:Nat):Int)) rfl rfl,sj,Oz,aJ,aO E];rfl
    rw[Dq,fz,fz,ip];exact k4
   have a3:=jw ((k.map hH++mT d).map ln) [zZ "main"] (by simp;omega);have a4:=jw ((k.map hH++mT d).map ln++[zZ "main"]) (R.map ln) (by simp;omega);have a5:=jw ((k.map hH++mT d).map ln++[zZ "main"]++R.map ln) [zZ "end"] (by simp;omega);have q1:=(fA (o:=fC) (A:=bb 9) (B:=eT (zC "main" eB)) (ρ:=[Y (.list (ns.map .int)),Y (.int 2),Y (.int 63),Y (.bool true),Y (.bool b),Y f,Y (zk k),Y (zh m),Y (.list (p.map .list)),Y (wl ((k.map hH++mT d).map ln)),x,y,z,u,Y iN,v,Y (.list (B.map wl))]) (a:=wl ((k.map hH++mT d).map ln)) (b:=wl [zZ "main"]) rfl rfl).trans a3;have q2:=(fA (o:=fC) q1 bd).trans a4;have q3:=(fA (o:=fC) (B:=eT (zC "end" eB)) (b:=wl [zZ "end"]) q2 rfl).trans a5;rw[lS,q3,eR];have e:(k.map hH++mT d++ku [zZ "main"] R).map ln=(k.map hH++mT d).map ln++[zZ "main"]++R.map ln++[zZ "end"]:=by simp[ku];exact⟨rfl,rfl⟩
   rw[e];rfl
 rw[oJ,jN,gO];show mS (qQ [Y (.list (ns.map .int)),Y (.int 2),Y (.int 63),Y (.bool true),Z,Z,Z,Z,Z,Z,Z,Z,Z,Z,Z,Z,Z])=_;rw[g,iC]
theorem Vr{t:Tx}(T:yR t):∀a∈t.rows,GR a:=by
 intro a hw;rcases aw.mp hw with hw|hw
 ·obtain⟨r,e,rfl⟩:=aq.mp hw;exact T.kg r e
 have b:∀(c:Lr) (r:List Lr),GR c->(∀a∈r,GR a)->∀a∈ku c r,GR a:=λc r g h a hw=>by
  rcases ag.mp hw with rfl|hw
  ·exact g
  ·rcases aw.mp hw with hw|hw
   ·exact h a hw
   ·simp at hw;subst hw;exact BN
 rcases aw.mp hw with hw|hw
 ·obtain⟨h,d,hw⟩:=List.mem_flatMap.mp hw;exact b _ _ (Qw (T.hv h d)) (T.gr h d) a hw
 ·exact b _ _ Hs T.mg a hw
noncomputable def vz:Nat->Nat->List Lr->List Nat
 |_,_,[]=>[]
 |d,k,ws::rest=>(if 0<iW ws d then [k+1] else [])++vz (iW ws d) (k+1) rest
theorem rQ:∀{c:List Lr}{d k p:Nat},p∈vz d k c->∃a b,c=a++b/\a.length+k=p/\0<a.foldl (λd ws=>iW ws d) d
 |[],_,_,_,h=>by simp[vz] at h
 |ws::rest,d,k,p,h=>by
  rw[vz] at h;rcases aw.mp h with h|h
  ·by_cases e:0<iW ws d
   ·rw[ai e] at h;simp at h;exact⟨[ws],rest,rfl,by simp;omega,e⟩
   ·rw[ao e] at h;simp at h
  ·obtain⟨a,b,g,i,f⟩:=rQ h;exact⟨ws::a,b,by rw[g];rfl,by simp;omega,f⟩
theorem Mi{a:Lr}(c:fe.strOk x=true)(b:∀w∈a,fe.strOk w=true):mB (.str x) (.tuple (a.map .str))=Y (.bool (decide (x∈a))):=by have:=oQ c b;rw[i9,show kR (.str x) (.tuple (a.map .str))=kR (.str x) (wl a) from rfl,this];rfl
theorem Zi(a b:String):∀w∈[zZ a,zZ b],fe.strOk w=true:=by
 intro w hw;rcases ag.mp hw with rfl|hw
 ·exact dq _
 ·simp at hw;subst hw;exact dq _
theorem D4{h:fe}{i:Lr}(g:GR i){k:Nat}(H:gm h (.int (k:Int))=Y (.str (ln i)))(P:Lp)(I:P.length<=900)(d:Nat)(w:Od):
  jC [Y h,Y (.list P),Y (.int (d:Int)),Y (.int (k:Int)),w]=Y (.nx [Y h,Y (.list (P++if 0<iW i d then [.int ((k+1:Nat):Int)] else [])),Y (.int (iW i d:Nat)),Y (.int (k:Int)),Y (wl i)]):=by
 obtain⟨c,r,rfl⟩:∃c r,i=c::r:=by
  cases i with
  |nil=>exact absurd rfl g.1
  |cons a l=>exact⟨a,l,rfl⟩
 have u:=g.ok c (by simp);have s:gm (wl (c::r)) (.int 0)=Y (.str c):=by simp only[wl,ae,sj,wh]
 have o:=MD (d:Int) 0;have G:=Lo u (dq "kind");have F:=sN g.ok (Sn "end");have E:=Mi u (Zi "if" "while");have D:=O8 (d:Int);have C:jn (.str (ln (c::r))) [.str (zZ " ")]=Y (wl (c::r)):=g.split;refine fw (ρ1:=[Y h,Y (.list P),Y (.int (d:Int)),Y (.int (k:Int)),Y (wl (c::r))]) ?_ (fw (ρ1:=[Y h,Y (.list P),Y (.int (iW (c::r) d:Nat)),Y (.int (k:Int)),Y (wl (c::r))]) ?_ ?_)
 ·simp? only[H,C]
 ·have B:(iT (fB (d2 iS (bb 2) (zI 0))) (fB (d2 mK (zX (bb 4) (zI 0)) (zA "kind")))) [Y h,Y (.list P),Y (.int (d:Int)),Y (.int (k:Int)),Y (wl (c::r))]=Y (((d:Int)==0)&&!(c==zZ "kind")):=by
   cases hd:((d:Int)==0) with
   |true=>rw[hd] at o;simp? only[o,s,G,Bool.true_and]
   |false=>rw[hd] at o;simp? only[o,Bool.false_and]
  have A:(fB (d2 iS (bb 4) (eT (zC "end" eB)))) [Y h,Y (.list P),Y (.int (d:Int)),Y (.int (k:Int)),Y (wl (c::r))]=Y (decide (c::r=[zZ "end"])):=by
   have q:iS (wl (c::r)) (.list [.str (zZ "end")])=_:=F
   simp? only[q]
  have x:(iT (fB (d2 mB (zX (bb 4) (zI 0)) (iQ (zC "if" (zC "while" eB))))) (fB (d2 wF (bb 2) (zI 0)))) [Y h,Y (.list P),Y (.int (d:Int)),Y (.int (k:Int)),Y (wl (c::r))]=Y (decide (c∈[zZ "if",zZ "while"])&&decide (0<(d:Int))):=by
   have f:mB (.str c) (.tuple [.str (zZ "if"),.str (zZ "while")])=_:=E;cases hd:decide (c∈[zZ "if",zZ "while"]) with
   |true=>rw[hd] at f;simp? only[s,f,D,Bool.true_and]
   |false=>rw[hd] at f;simp? only[s,f,Bool.false_and]
  unfold iW;by_cases m:d=0/\(c::r).head?≠Y (zZ "kind")
  ·rw[ai m];refine jW (B.trans ?_) ?_
   ·have:c≠zZ "kind":=λz=>m.2 (by rw[z];rfl);simp[m.1,this]
   ·simp? only[rH];rfl
  ·rw[ao m];refine iz (B.trans ?_) ?_
   ·by_cases hd:d=0
    ·have:c=zZ "kind":=by
      by_cases z:c=zZ "kind"
      ·exact z
      ·exact absurd ⟨hd,λy=>z (bB y)⟩ m
     simp[this]
    ·simp[hd]
   by_cases j:c::r=[zZ "end"]
   ·rw[ai j];refine jW (A.trans (by rw[aX j])) ?_;have hd:0<d:=by
     by_cases hd:d=0
     ·refine absurd ⟨hd,?_⟩ m;injection j with j _
      rw[j];intro y;injection y with y
      exact oq (by decide) y
     ·omega
    simp? only[rH]
    rw[show ((d - 1:Nat):Int)=(d:Int) - 1 by omega];rfl
   ·rw[ao j];refine iz (A.trans (by rw[aA j])) ?_;by_cases p:((c::r).head?=Y (zZ "if")\/(c::r).head?=Y (zZ "while"))/\0<d
    ·rw[ai p];refine jW (x.trans ?_) ?_
     ·have a:c∈[zZ "if",zZ "while"]:=by
       rcases p.1 with z|z<;>injection z with z<;>rw[z]<;>simp
      have b:0<(d:Int):=by omega
      rw[aX a,aX b];rfl
     ·simp? only[rH];rfl
    ·rw[ao p];refine iz (x.trans ?_) rfl;by_cases a:c∈[zZ "if",zZ "while"]
     ·have:¬ 0<(d:Int):=λb=>p ⟨by simp at a;rcases a with rfl|rfl<;>simp,by omega⟩;rw[aA this,Bool.and_false]
     ·rw[aA a];rfl
 ·generalize iW (c::r) d=e;have n:=O8 (e:Int);have t:P.length<16777216:=by omega
  by_cases v:0<e
  ·rw[ai v];have:decide (0<(e:Int))=true:=aX (by omega);rw[this] at n;refine jW (by simp? only[n]) ?_
   simp? only[oX,ai t]
   rfl
  ·rw[ao v,aF];have:decide (0<(e:Int))=false:=aA (by omega);rw[this] at n;exact iz (by simp? only[n]) rfl
theorem vA{ls:fe}:∀(b:List Lr) (k d:Nat) (P:Lp) (a w:Od),(∀(i:Nat) ws,b[i]?=Y ws->gm ls (.int ((k+i:Nat):Int))=Y (.str (ln ws)))->(∀ws∈b,GR ws)->P.length+b.length<=900 ->
  ∃g f c,js (qt (.one 3)) jC ((List.range' k b.length).map λ(i:Nat)=>fe.int (i:Int)) [Y ls,Y (.list P),Y (.int (d:Int)),a,w]=Y (.nx [Y ls,Y (.list (P++(vz d k b).map λ(p:Nat)=>.int (p:Int))),f,g,c])
 |[],k,d,P,a,w,_,_,_=>⟨a,Y (.int d),w,by simp[vz,js]⟩
 |ws::b,k,d,P,a,w,hx,hg,hl=>by
  simp only[ay] at hl;obtain⟨g,f,c,e⟩:=vA b (k+1) (iW ws d) (P++if 0<iW ws d then [.int ((k+1:Nat):Int)] else []) (Y (.int (k:Int))) (Y (wl ws)) (λi x h=>by have:=hx (i+1) x (by simpa using h);rwa[show k+(i+1)=k+1+i by omega] at this) (λx hx=>hg x (by simp[hx])) (by split<;>simp<;>omega);refine⟨g,f,c,?_⟩;rw[ay,dF,ae,ib (ρ1:=[Y ls,Y (.list (P++if 0<iW ws d then [.int ((k+1:Nat):Int)] else [])),Y (.int (iW ws d:Nat)),Y (.int (k:Int)),Y (wl ws)]) ?_]
  ·rw[e,vz,aK,<-aQ]
   congr 6
   split<;>rfl
  ·show jC [Y ls,Y (.list P),Y (.int (d:Int)),Y (.int (k:Int)),w]=_;exact D4 (hg ws (by simp)) (hx 0 ws rfl) P (by omega) d w
theorem I7{rows:List Lr}(b:∀ws∈rows,GR ws)(d:rows.length<=800):jK [wl (rows.map ln)]=Y (.list ((vz 0 0 rows).map λ(p:Nat)=>.int (p:Int))):=by
 have a:∀(i:Nat) ws,rows[i]?=Y ws->gm (wl (rows.map ln)) (.int ((0+i:Nat):Int))=Y (.str (ln ws)):=λi ws h=>by rw[dn];simp only[wl,sj];rw[Oz,aJ,aJ,h];rfl
 obtain⟨j,f,c,e⟩:=vA (ls:=wl (rows.map ln)) rows 0 0 [] Z Z a b (by simp;omega);have g:mP [Y (wl (rows.map ln)),Z,Z,Z,Z]=Y (.rt (.list ((vz 0 0 rows).map λ(p:Nat)=>.int (p:Int)))):=by
  refine fw (ρ1:=[Y (wl (rows.map ln)),Y (.list []),Z,Z,Z]) (by simp? only[rH]) (fw (ρ1:=[Y (wl (rows.map ln)),Y (.list []),Y (.int 0),Z,Z]) (by simp? only[rH]) (fw (rM (xK (n:=rows.length) (by omega) _ _ ?_) e) ?_))
  ·show gR [wl (rows.map ln)]=_;simp only[wl,k8,ah]
  ·rfl
 rw[jK,jN,gO];show mS (mP [Y (wl (rows.map ln)),Z,Z,Z,Z])=_;rw[g,iC]
theorem Mj(a b c d e:Str):hY [zZ "func",a,b,c,d,e] "func" Z (jq "func" .none (.str (a)) .none .none .none .none (.str (b)) [.str c,.str d,.str e] [.str a,.str c,.str d,.str e]):=zR 0
structure Nw (F H:List (Str×fe)) (ws:Lr):Prop where
 gr:GR ws
 ok:∃w kd row,hY ws w kd row/\(w="func"\/w="straight")/\(∀k,kd=Y k->k∈F.map (·.1))/\∀b bl la ov,fh [Rg (gD F) (gD H) b bl la ov,row]=Y (.bool false)
section
variable {H:List (Str×fe)}
theorem D5{a:fe}{k m:Str}(l:gS ["Row"] "word" a=Y (.str (zZ "straight")))(j:gS ["Row"] "kind" a=Y (.str k))(i:gS ["Row"] "method" a=Y (.str m))(h:k.length<=8)(g:m.length<=8)(f:jQ k m∉H.map (·.1))(F b o e:fe)(d:Bool):
  fh [Rg F (gD H) b o e d,a]=Y (.bool false):=by
 have n:("straight"=="straight")=true:=by decide
 have c:=rh (t:=jQ k m) (H:=H);rw[aA f] at c
 simp? only[fh,gG,l,hW,n,j,i,Qn k m h g,ou,i9,c]
theorem Ml{a:fe}{f:Str}(h:gS ["Row"] "word" a=Y (.str (zZ "func")))(g:gS ["Row"] "function" a=Y (.str f))(e:f=zZ "main")(F b k d:fe)(c:Bool):fh [Rg F (gD H) b k d c,a]=Y (.bool false):=by
 subst e;have j:("func"=="straight")=false:=by decide
 have i:("main"=="main")=true:=by decide
 simp? only[fh,gG,h,hW,j,g,i]
theorem Mm{a:fe}{f:Str}(l:gS ["Row"] "word" a=Y (.str (zZ "func")))(k:gS ["Row"] "function" a=Y (.str f))(h:fe.strOk f=true)(j:f≠zZ "main")(i:f∉H.map (·.1))(F b o g:fe)(e:Bool):fh [Rg F (gD H) b o g e,a]=Y (.bool false):=by
 have n:("func"=="straight")=false:=by decide
 have d:=rh (t:=f) (H:=H);rw[aA i] at d;have m:(f==zZ "main")=false:=by simpa using j
 have c:=IH h (dq "main");rw[m] at c
 simp? only[fh,gG,l,hW,n,k,c,ou,jP,d]
theorem Mn{a:fe}{f:Str}{e d:Lr}{c:Lp}(r:gS ["Row"] "word" a=Y (.str (zZ "func")))(q:gS ["Row"] "function" a=Y (.str f))(p:gS ["Row"] "handed" a=Y (.list c))(n:fe.strOk f=true)(o:f≠zZ "main")(l:(H.map (·.1)).Nodup)(j:(f,wl e)∈H)(z:hJ [wl e]=Y (wl d))(A:d.length≠c.length)(F b y m:fe)(k:Bool):fh [Rg F (gD H) b y m k,a]=Y (.bool false):=by
 have x:("func"=="straight")=false:=by decide
 have i:=rh (t:=f) (H:=H);rw[aX (aq.mpr ⟨_,j,rfl⟩)] at i;have w:=Lv l j;have v:(f==zZ "main")=false:=by simpa using o
 have h:=IH n (dq "main");rw[v] at h;have u:gR [wl d]=Y (.int (d.length:Int)):=by rw[k8,ah]
 have s:gR [.list c]=Y (.int (c.length:Int)):=k8 c;have g:=MD (d.length:Int) (c.length:Int);rw[show ((d.length:Int)==(c.length:Int))=false by simp only[aY,ne_eq];omega] at g
 simp? only[fh,gG,r,hW,x,q,p,h,ou,jP,i,w,z,u,s,g]
end
noncomputable def Mo(a:Lr):Bool:=match a with
 |[]=>false
 |w::_=>decide (w∈[zZ "func",zZ "method"])
theorem yc:∀{b:List Lr},(∀ws∈b,GR ws)->gX kC kD [] ((b.map ln).map .str)=Y ((b.filter Mo).map wl)
 |[],_=>rfl
 |ws::b,h=>by
  have f:=yc λx (i:x∈b)=>h x (by simp[i]);have g:=h ws (by simp);obtain⟨c,r,rfl⟩:∃c r,ws=c::r:=by
   cases ws with
   |nil=>exact absurd rfl g.1
   |cons a l=>exact⟨a,l,rfl⟩
  have d:jn (.str (ln (c::r))) [.str (zZ " ")]=Y (wl (c::r)):=g.split;have e:kD [Y (.str (ln (c::r)))]=Y (wl (c::r)):=by
   simp? only[kD,d]
  have q:mB (.str c) (.tuple [.str (zZ "func"),.str (zZ "method")])=Y (.bool (decide (c∈[zZ "func",zZ "method"]))):=Mi (g.ok c (by simp)) (Zi "func" "method");have j:kC [Y (.str (ln (c::r)))]=Y (Mo (c::r)):=by
   simp? only[kC,d,oo,q]
   rfl
  rw[ae,ae,gX,j,List.filter_cons];cases hb:Mo (c::r) with
  |true=>simp? only[e,f,cQ,ae]
  |false=>simp? only[f,dJ]
theorem oy{w:String}(h:(w=="func"||w=="method")=false)(r:Lr):Mo (zZ w::r)=false:=by
 rw[Bool.or_eq_false_iff] at h;refine aA ?_;intro z;simp at z;rcases z with z|z
 ·exact oq h.1 z
 ·exact oq h.2 z
theorem Mp(r:KR):Mo (hH r)=false:=oy (w:="kind") (by decide) _
theorem Mq(h:Hd):Mo (h.ws _root_.id)=true:=by
 cases q:h.key with
 |k9 k m=>rw[Hd.ws,q];exact aX (show zZ "method"∈[zZ "func",zZ "method"] from List.Mem.tail _ (List.Mem.head _))
 |func f=>rw[Hd.ws,q];exact aX (show zZ "func"∈[zZ "func",zZ "method"] from List.Mem.head _)
theorem Rk.Yd{K:Lr}{w:String}{r:Lr}(h:Rk K [] [] w r):Mo (zZ w::r)=false:=by cases h<;>first|exact oy (by decide) _|(rename_i z;cases z)
theorem Bk.Yd{K:Lr}{d c:Lr}{a:List Lr}(h:Bk K [] [] d a c):a.filter Mo=[]:=by
 induction h with
 |nil=>rfl
 |row k _ b=>rw[List.filter_cons,k.Yd];exact b
 |Tc hw _ _ _ b=>rw[List.filter_cons,oy (by rcases hw with rfl|rfl<;>decide)];exact b
 |ME _ b=>rw[List.filter_cons,oy (by decide)];exact b
 |fin _ b=>rw[List.filter_cons,oy (by decide)];exact b
theorem F8{t:Tx}(T:yR t):(t.rows.filter Mo).head?=(t.hs.head?).map λh=>h.1.ws _root_.id:=by
 have b:(t.ks.map hH).filter Mo=[]:=by rw[List.filter_eq_nil_iff];intro e hw;obtain⟨r,_,rfl⟩:=aq.mp hw;rw[Mp];simp
 unfold Tx.rows;rw[List.filter_append,b,bp];cases q:t.hs with
 |nil=>
  have a:=T.mb;have c:t.M=[]:=by simp[Tx.M,q]
  have d:t.Fu=[]:=by simp[Tx.Fu,q]
  rw[c,d] at a;rw[List.flatMap_nil,bp,ku,List.filter_cons,oy (w:="main") (by decide),List.filter_append,a.Yd];simp only[bZ,dJ,bp,List.filter_cons,List.filter_nil];rw[oy (w:="end") (by decide)];rfl
 |cons h f=>rw[eA,ku,a8,a8,List.filter_cons,Mq];rfl
noncomputable def BS:List Lr:=[["func","x","fz"],["straight","x","y","ka","o"],["func","x","main"],["straight","x","x","ka","ka"]].map λl=>l.map Str.ofString
noncomputable def Eh(t:Tx):List Lr:=match t.hs.head? with
 |some h=>match h.1.key with
  |.func f=>[zZ "func"::zZ "x"::f::List.replicate (h.1.ks.length+1) (zZ "y")]
  |.k9 _ _=>[]
 |none=>[]
theorem BU{t:Tx}(c:∀h∈t.hs,Eg h.1.key)(j:∀f∈fN,f≠x)(i:∀k∈kN,∀m∈mN,jQ k m≠x)(g:zZ "main"≠x):x∉(hg ((t.hs.map uZ++[v7 t]).map Bo.ent)).map (·.1):=by
 rw[nC];intro z;simp only[cR,aq,aw,List.mem_singleton] at z;obtain⟨b,e,rfl⟩:=z;rcases e with ⟨h,d,rfl⟩|rfl
 ·have k:=c h d;show False;cases q:h.1.key with
  |k9 a m=>rw[q] at k;refine i a k.1 m k.2 ?_;show _=h.1.key.nm _root_.id;rw[q];rfl
  |func f=>rw[q] at k;refine j f k ?_;show _=h.1.key.nm _root_.id;rw[q];rfl
 ·exact g rfl
theorem uo(w:String)(c x y k e m a:fe)(d b:Lp):gS ["Row"] "function" (jq w c x y k e m a d b)=Y a:=by kernel_rfl
theorem Hx(w:String)(c x y k e m d:fe)(b a:Lp):gS ["Row"] "method" (jq w c x y k e m d b a)=Y m:=by kernel_rfl
theorem BV(w:String)(c x y k e m d:fe)(a b:Lp):gS ["Row"] "handed" (jq w c x y k e m d a b)=Y (.list a):=by kernel_rfl
theorem SN{t:Tx}(T:yR t){H:List (Str×fe)}(P:Va t F H)(l:zZ "ka"∈t.K)(o:∀h∈t.hs,Eg h.1.key):∀u∈BS++Eh t,Nw F H u:=by
 have x:zZ "ka"∈F.map (·.1):=by rw[P.eF];exact l
 have i:=P.eH;intro u hw;rcases aw.mp hw with hw|hw
 ·simp only[BS,ae,a9,ag,aV,cb] at hw;rcases hw with rfl|rfl|rfl|rfl
  ·refine⟨⟨by simp,by decide +kernel,by decide⟩,"func",Z,_,xR _ _,.inl rfl,by simp,λb g d c=>Mm (ja ..) (uo ..) (zD 0) (zD 0) ?_ ..⟩;rw[i];exact BU o (zD 0) (zD 0) (zD 0)
  ·refine⟨⟨by simp,by decide +kernel,by decide⟩,"straight",Y (zZ "ka"),_,qc _ _ _ _,.inr rfl,λk z=>by injection z with z;subst z;exact x,λb g d c=>D5 (ja ..) (pD ..) (Hx ..) (zD 0) (zD 0) ?_ ..⟩;rw[i];exact BU o (zD 0) (zD 0) (zD 0)
  ·exact⟨⟨by simp,by decide +kernel,by decide⟩,"func",Z,_,xR _ _,.inl rfl,by simp,λb g d c=>Ml (ja ..) (uo ..) rfl ..⟩
  ·refine⟨⟨by simp,by decide +kernel,by decide⟩,"straight",Y (zZ "ka"),_,qc _ _ _ _,.inr rfl,λk z=>by injection z with z;subst z;exact x,λb g d c=>D5 (ja ..) (pD ..) (Hx ..) (zD 0) (zD 0) ?_ ..⟩;rw[i];exact BU o (zD 0) (zD 0) (zD 0)
 ·unfold Eh at hw;cases q:t.hs.head? with
  |none=>rw[q] at hw;simp at hw
  |some h=>
   have y:h∈t.hs:=List.mem_of_mem_head? (by rw[q];rfl);rw[q] at hw;cases r:h.1.key with
   |k9 k m=>simp only[r] at hw;simp at hw
   |func f=>
    simp only[r] at hw;simp only[List.mem_singleton] at hw;have v:=T.hv h y;have A:f∈o6:=by have:=v.uY;rw[r] at this;exact this
    have B:=Ef qh A;have M:=v.lk;have L:(f,wl (h.1.ws _root_.id))∈H:=by rw[i];refine aq.mpr ⟨Bo.ent (uZ h),aq.mpr ⟨_,aC _ (aq.mpr ⟨h,y,rfl⟩),rfl⟩,?_⟩;show (h.1.key.nm _root_.id,_)=_;rw[r];rfl
    have J:=v.kept qh r;have s:∀n,n<=3->GR (zZ "func"::zZ "x"::f::List.replicate n (zZ "y")):=λn N=>by
     refine⟨by simp,λw hw=>?_,by simp;omega⟩;simp only[ag,List.mem_replicate] at hw;rcases hw with rfl|rfl|rfl | ⟨_,rfl⟩
     ·decide +kernel
     ·decide +kernel
     ·exact B
     ·decide +kernel
    have j:∀(a:fe) (p:Lp),gS ["Row"] "word" a=Y (.str (zZ "func"))->gS ["Row"] "function" a=Y (.str f)->gS ["Row"] "handed" a=Y (.list p)->h.1.ks.length≠p.length->∀b g d c,fh [Rg (gD F) (gD H) b g d c,a]=Y (.bool false) :=
     λa p I G E D b g d c=>Mn I G E (mG B) (qh.main f A) P.td.nd L J (by rw[ah];exact D) ..
    subst hw;have C:h.1.ks.length=0\/h.1.ks.length=1\/h.1.ks.length=2:=by omega
    rcases C with e|e|e
    ·rw[e];exact⟨s 1 (by omega),"func",Z,_,DH _ _ _,.inl rfl,by simp,j _ _ (ja ..) (uo ..) (BV ..) (by rw[e];simp)⟩
    ·rw[e];exact⟨s 2 (by omega),"func",Z,_,DI _ _ _ _,.inl rfl,by simp,j _ _ (ja ..) (uo ..) (BV ..) (by rw[e];simp)⟩
    ·rw[e];exact⟨s 3 (by omega),"func",Z,_,Mj _ _ _ _ _,.inl rfl,by simp,j _ _ (ja ..) (uo ..) (BV ..) (by rw[e];simp)⟩
theorem SO{l:List Lr}(q:∀ws∈l,∀w∈ws,fe.strOk w=true):mK (.list (l.map wl)) (.list [])=Y (.bool (!l.isEmpty)):=by
 have h:∀l:List Lr,(∀ws∈l,∀w∈ws,fe.strOk w=true)->fe.canLayAll0 (l.map wl)=true/\fe.depthAll (l.map wl)<=3:=by
  intro l;induction l with
  |nil=>intro _;exact⟨rfl,by decide⟩
  |cons a l f=>
   intro q;obtain⟨b,g⟩:=f λws hw=>q ws (by simp[hw]);have c:=u6 (q a (by simp));constructor
   ·rw[ae,fe.canLayAll0,b];simp[wl,fe.canLay0,c]
   ·rw[ae,fe.depthAll];have:fe.depth (wl a)<=2:=by simp[wl,fe.depth,p0]
    omega
 obtain⟨b,g⟩:=h l q;have e:SeqAt.shaped (.list (l.map wl))=true:=by
  have:fe.depth (.list (l.map wl))<=64:=by rw[fe.depth];omega
  simp[SeqAt.shaped,fe.canLay0,b,this]
 have d:SeqAt.shaped (.list [])=true:=by rfl
 rw[mK,ai ⟨e,d⟩];cases l with
 |nil=>rfl
 |cons a l=>rw[ae,fe.eqv,fe.eqvAll];rfl
theorem Vs(n:Nat)(h:n<=8):vH (.list [.str (zZ "y")]) (.int (n:Int))=Y (wl (List.replicate n (zZ "y"))):=by show (if _ then _ else Z)=_;rw[ai ⟨by omega,by omega,by simp⟩];simp[wl,List.map_replicate]
theorem Pn{h:Hd}{K:Lr}(v:HV K h){f:Str}(q:h.key=.func f){ls A:fe}(c:gm A (.int 0)=Y (wl (h.ws _root_.id))){R:fe}{k:Od}:
  ∃r,c7 (fu (fO [3] (zI 0)) 4) (iA (fB (d2 mB (zA "keeps") (zX (bb 2) (zI 0)))) (fu (fO [3] (d2 rT (d2 rT (zN (zX (bb 2) (zI 0))) (A3 nV (zX (bb 2) (zI 0)) (zC "keeps" eB))) (zI 1))) 4) gi) [Y ls,Y d,Y A,Y R,k]=Y (.nx [Y ls,Y d,Y A,Y R,r])/\r=Y (.int (h.ks.length:Int)):=by
 have l:h.ws _root_.id=zZ "func"::f::(h.ps++kw h.ks):=by rw[Hd.ws,q];simp
 have n:∀w∈o6,w≠zZ "keeps":=by decide +kernel
 have j:f∈o6:=by have:=v.uY;rw[q] at this;exact this
 have a:∀w∈o6,fe.strOk w=true:=λw hw=>mG (kr w hw);have p:zZ "keeps"∉zZ "func"::f::h.ps:=by
  intro z;simp only[ag] at z;rcases z with z|z|z
  ·exact oq (by decide) z
  ·exact n f j z.symm
  ·exact n _ (v.ps _ z) rfl
 by_cases g:h.ks=[]
 ·refine⟨_,fw (ρ1:=[Y ls,Y d,Y A,Y R,Y (.int 0)]) (by simp? only[rH]) (iz ?_ rfl),by rw[g];rfl⟩;have e:mB (.str (zZ "keeps")) (wl (h.ws _root_.id))=Y (.bool false):=by
   rw[i9,oQ (dq _) ?_,aA]
   ·rfl
   ·rw[l,g,kw,ai rfl,aF];exact p
   ·rw[l,g,kw,ai rfl,aF];intro w hw;simp only[ag] at hw;rcases hw with rfl|rfl|hw
    ·exact dq _
    ·exact a _ j
    ·exact a _ (v.ps _ hw)
  simp? only[c,e]
 ·have b:h.ws _root_.id=(zZ "func"::f::h.ps)++zZ "keeps"::h.ks:=by rw[l,kw,ao g];rfl
  have m:∀w∈(zZ "func"::f::h.ps)++zZ "keeps"::h.ks,fe.strOk w=true:=by
   intro w hw;simp only[aw,ag] at hw;rcases hw with (rfl|rfl|hw)|rfl|hw
   ·exact dq _
   ·exact a _ j
   ·exact a _ (v.ps _ hw)
   ·exact dq _
   ·exact a _ (v.ks _ hw)
  have C:=v.lp;have D:=v.lk;have e:mB (.str (zZ "keeps")) (wl (h.ws _root_.id))=Y (.bool true):=by rw[i9,b,oQ (dq _) m,aX (by simp)];rfl
  have y:nV (wl (h.ws _root_.id)) [.str (zZ "keeps")]=Y (.int ((h.ps.length+2:Nat):Int)):=by rw[b];exact uT (dq _) m p (by simp;omega)
  have x:gR [wl (h.ws _root_.id)]=Y (.int ((h.ps.length+2+(h.ks.length+1):Nat):Int)):=by rw[b];simp only[wl,k8,ah,aB,ay]
  refine⟨_,fw (ρ1:=[Y ls,Y d,Y A,Y R,Y (.int 0)]) (by simp? only[rH]) (jW (by simp? only[c,e]) ?_),rfl⟩;have u:A3 nV (zX (bb 2) (zI 0)) (zC "keeps" eB) [Y ls,Y d,Y A,Z,Y (.int 0)]=Y (.int ((h.ps.length+2:Nat):Int)):=by
   simp? only[c]
   exact y
  have i:gF gR (zQ (zX (bb 2) (zI 0))) [Y ls,Y d,Y A,Z,Y (.int 0)]=Y (.int ((h.ps.length+2+(h.ks.length+1):Nat):Int)):=by
   simp? only[c]
   exact x
  have t:=fA (o:=rT) i u;have s:=fA (o:=rT) (B:=dC (.int 1)) (t.trans rfl) rfl;refine fW (O:=[3]) (ρ:=[Y ls,Y d,Y A,Y R,Y (.int 0)]) ?_;rw[tZ,qu];show d2 rT (d2 rT (zN (zX (bb 2) (zI 0))) (A3 nV (zX (bb 2) (zI 0)) (zC "keeps" eB))) (zI 1) [Y ls,Y d,Y A,Z,Y (.int 0)]=_;rw[s];show Y (fe.int _)=_
  congr 2
  omega
theorem Ye{A B C:c5->Option Out}{ρ1:c5}(h:c7 A B ρ=Y (.nx ρ1))(b:C ρ1=o):c7 A (c7 B C) ρ=o:=by
 rw[q7] at h ⊢;cases a:A ρ with
 |none=>rw[a] at h;cases h
 |some x=>
  rw[a] at h;cases x with
  |nx ρ2=>rw[uS] at h ⊢;exact fw h b
  |rt _=>cases h
  |bk _=>cases h
  |ct _=>cases h
theorem F9{t:Tx}(T:yR t)(S:yi d)(V:∀ws∈BS++Eh t,GR ws):∃ws∈BS++Eh t,kJ [wl (t.rows.map ln),d]=Y (.str (ln ws)):=by
 have L:=Vr T;have O:=T.len;have c:=yc L;have u:=F8 T;generalize U:t.rows.filter Mo=b at c u;have D:∀ws∈b,∀w∈ws,fe.strOk w=true:=λws hw=>by rw[<-U] at hw;exact(L ws (bU.mp hw).1).ok
 have K:=SO D;obtain⟨M,E⟩:=S.at 3 (by omega);have F:BS++Eh t≠[]:=by simp[BS]
 obtain⟨wd,hw,G⟩:=xS ((BS++Eh t).map wl) (by simpa using F) M;obtain⟨ws,y,rfl⟩:=aq.mp hw;refine⟨ws,y,?_⟩;have s:∃C,iA (iT (fB (d2 mK (bb 2) (eT eB))) (fB (d2 iS (zX (zX (bb 2) (zI 0)) (zI 0)) (zA "func"))))
   (c7 (fu (fO [3] (zI 0)) 4)
   (c7 (iA (fB (d2 mB (zA "keeps") (zX (bb 2) (zI 0))))
   (fu (fO [3] (d2 rT (d2 rT (zN (zX (bb 2) (zI 0))) (A3 nV (zX (bb 2) (zI 0)) (zC "keeps" eB))) (zI 1))) 4)
   gi)
   (gd (.sl 3) (fO [3] (d2 fC (eT (zC "func" (zC "x" (zQ (zX (zX (bb 2) (zI 0)) (zI 1)))))) (d2 vH (eT (zC "y" eB)) (d2 fC (bb 4) (zI 1))))))))
   gi [Y (wl (t.rows.map ln)),Y d,Y (.list (b.map wl)),Y (.list (BS.map wl)),Z]=Y (.nx [Y (wl (t.rows.map ln)),Y d,Y (.list (b.map wl)),Y (.list ((BS++Eh t).map wl)),C]):=by
  cases q:t.hs.head? with
  |none=>
   rw[q] at u;have e:b=[]:=by cases b with|nil=>rfl|cons a l=>cases u
   subst e;have z:Eh t=[]:=by rw[Eh,q]
   rw[z,aF];refine⟨Z,iz ?_ rfl⟩;have p:mK (.list []) (.list [])=Y (.bool false):=K
   simp? only[a9,p]
  |some h=>
   rw[q] at u;obtain⟨n,rfl⟩:∃n,b=h.1.ws _root_.id::n:=by
    cases b with
    |nil=>cases u
    |cons a l=>exact⟨l,by rw[bB u]⟩
   have Q:h∈t.hs:=List.mem_of_mem_head? (by rw[q];rfl);have v:=T.hv h Q;have x:gm (.list ((h.1.ws _root_.id::n).map wl)) (.int 0)=Y (wl (h.1.ws _root_.id)):=by simp only[ae,sj,wh]
   have p:mK (.list ((h.1.ws _root_.id::n).map wl)) (.list [])=Y (.bool true):=K;generalize fe.list ((h.1.ws _root_.id::n).map wl)=A at x p;cases r:h.1.key with
   |k9 k m=>
    have z:Eh t=[]:=by rw[Eh,q];simp only[r]
    rw[z,aF];refine⟨Z,iz ?_ rfl⟩;have J:gm (wl (h.1.ws _root_.id)) (.int 0)=Y (.str (zZ "method")):=by rw[Hd.ws,r];exact oo ..
    have I:("method"=="func")=false:=by decide
    simp? only[p,x,J,hW,I]
   |func f=>
    have z:Eh t=[zZ "func"::zZ "x"::f::List.replicate (h.1.ks.length+1) (zZ "y")]:=by rw[Eh,q];simp only[r]
    have lk:=v.lk;have J:gm (wl (h.1.ws _root_.id)) (.int 0)=Y (.str (zZ "func")):=by rw[Hd.ws,r];exact oo ..
    have I:("func"=="func")=true:=by decide
    have e2:gm (wl (h.1.ws _root_.id)) (.int 1)=Y (.str f):=by rw[Hd.ws,r];simp only[wl,ae,sj,MC];rfl
    obtain⟨C,ek,rfl⟩:=Pn v r (ls:=wl (t.rows.map ln)) (d:=d) x (R:=.list (BS.map wl)) (k:=Z);refine⟨Y (.int (h.1.ks.length:Int)),jW (by simp? only[p,x,J,hW,I]) ?_⟩;rw[z];have N:=Vs (h.1.ks.length+1) (by omega);refine Ye ek ?_;have ap:d2 fC (eT (zC "func" (zC "x" (zQ (zX (zX (bb 2) (zI 0)) (zI 1)))))) (d2 vH (eT (zC "y" eB)) (d2 fC (bb 4) (zI 1))) [Y (wl (t.rows.map ln)),Y d,Y A,Z,Y (.int (h.1.ks.length:Int))]=Y (wl (zZ "func"::zZ "x"::f::List.replicate (h.1.ks.length+1) (zZ "y"))):=by
     have a1:eT (zC "func" (zC "x" (zQ (zX (zX (bb 2) (zI 0)) (zI 1))))) [Y (wl (t.rows.map ln)),Y d,Y A,Z,Y (.int (h.1.ks.length:Int))]=Y (.list [.str (zZ "func"),.str (zZ "x"),.str f]):=by
      simp? only[x,e2]
     have a2:d2 vH (eT (zC "y" eB)) (d2 fC (bb 4) (zI 1)) [Y (wl (t.rows.map ln)),Y d,Y A,Z,Y (.int (h.1.ks.length:Int))]=Y (wl (List.replicate (h.1.ks.length+1) (zZ "y"))):=by have b1:d2 fC (bb 4) (zI 1) [Y (wl (t.rows.map ln)),Y d,Y A,Z,Y (.int (h.1.ks.length:Int))]=Y (.int ((h.1.ks.length+1:Nat):Int)):=rfl;exact(fA (o:=vH) (A:=eT (zC "y" eB)) rfl b1).trans N
     rw[fA a1 a2];exact jw [zZ "func",zZ "x",f] _ (by simp;omega)
    have H:=ud (ρ:=[Y (wl (t.rows.map ln)),Y d,Y A,Y (.list (BS.map wl)),Y (.int (h.1.ks.length:Int))]) (i:=3) (acc:=BS.map wl) (f:=fO [3] (d2 fC (eT (zC "func" (zC "x" (zQ (zX (zX (bb 2) (zI 0)) (zI 1)))))) (d2 vH (eT (zC "y" eB)) (d2 fC (bb 4) (zI 1))))) rfl (by simp[BS]) ap;rw[H,aK];rfl
 obtain⟨C,s⟩:=s;have g:o1 [Y (wl (t.rows.map ln)),Y d,Z,Z,Z]=Y (.rt (.str (ln ws))):=by
  have P:((t.rows.map ln).map fe.str).length<=16777216:=by simp;omega
  refine fw (ρ1:=[Y (wl (t.rows.map ln)),Y d,Y (.list (b.map wl)),Z,Z]) ?_ (fw (ρ1:=[Y (wl (t.rows.map ln)),Y d,Y (.list (b.map wl)),Y (.list ((BS.take 3).map wl)),Z]) ?_ (fw (ρ1:=[Y (wl (t.rows.map ln)),Y d,Y (.list (b.map wl)),Y (.list (BS.map wl)),Z]) ?_ (fw s ?_)))
  ·simp? only[wl,ai P,pJ,c]
  ·rfl
  ·rfl
  ·have lp:0<((BS++Eh t).map wl).length:=by simp[BS]
   have X:gF gR (zQ (bb 3)) [Y (wl (t.rows.map ln)),Y d,Y (.list (b.map wl)),Y (.list ((BS++Eh t).map wl)),C]=Y (.int (((BS++Eh t).map wl).length:Int)):=rfl;have W:=gU (B:=d2 gm (bb 1) (zI 3)) (jx (A:=bb 1) (B:=dC (.int 3)) (i:=3) rfl rfl E) X (by omega);have ei:=(fA (o:=gm) (A:=bb 3) rfl W).trans G;have j:=(V ws y).join;show fZ (pN je (zA (zZ " ")) (zQ (zX (bb 3) (d2 gq (zX (bb 1) (zI 3)) (zN (bb 3)))))) _=_;rw[lS,IG,fz,ei,jV,rH];show Option.map Out.rt (je (.str (zZ " ")) [wl ws])=_;rw[j];rfl
 rw[kJ,jN,gO];show mS (o1 [Y (wl (t.rows.map ln)),Y d,Z,Z,Z])=_;rw[g,iC]
def σ0:TS:=⟨[],[],Z,false⟩
def Po(F:List (Str×fe))(σ:TS):Prop:=0<σ.dep/\σ.F=F/\σ.ov=false/\σ.dep<=9
theorem Pt.iv{F:List (Str×fe)}{e:fe->Prop}{σ σ1:TS}{c:List Lr}(h:Pt F e σ c σ1):(0<σ.dep->Po F σ)->0<σ1.dep->Po F σ1:=by
 induction h with
 |nil=>exact λa b=>a b
 |cons s _ d=>exact λ_=>d λz=>⟨z,s.iv z⟩
theorem BW{j:fe->Prop}{σe:TS}{a:List Lr}(h:Pt F j σ0 a σe){p q:Nat}(t:p∈vz 0 0 a)(r:q∈vz 0 0 a)(s:p<=q):
  ∃b d c σp σq,a=b++(d++c)/\b.length=p/\b.length+d.length=q/\Pt F j σ0 b σp/\Pt F j σp d σq/\Pt F j σq c σe/\Po F σp/\Po F σq:=by
 obtain⟨C,D,v,g,A⟩:=rQ t;obtain⟨e,B,l,n,y⟩:=rQ r;rw[Nat.add_zero] at g n;have m:C=e.take p:=by have:=bK (List.take p) (v.symm.trans l);rw[List.take_append_of_le_length (by omega),List.take_append_of_le_length (by omega),<-g,List.take_length] at this;rw[<-g];exact this
 rw[l] at h;obtain⟨σq,o,u⟩:=h.split;have i:e=e.take p++e.drop p:=(List.take_append_drop p e).symm;rw[i] at o;obtain⟨σp,f,k⟩:=o.split;have x:0<σp.dep:=by rw[f.dep,<-m];exact A
 have w:0<σq.dep:=by rw[k.dep,f.dep,<-List.foldl_append,<-i];exact y
 refine⟨e.take p,e.drop p,B,σp,σq,by rw[<-aQ,<-i];exact l,by rw[<-m];exact g,?_,f,k,u,f.iv (λz=>absurd z (by simp[σ0,TS.dep])) x,?_⟩
 ·rw[<-aB,<-i];exact n
 ·exact(f.app k).iv (λz=>absurd z (by simp[σ0,TS.dep])) w
theorem Po.ex{σ:TS}(h:Po F σ):∃H t d,σ=⟨F,H,Y (t,d),false⟩/\d.length<=8:=by
 obtain⟨i,H,a,g⟩:=σ;obtain⟨f,c,b,e⟩:=h;dsimp only at c b;subst c;subst b;cases a with
 |none=>exact absurd f (by simp[TS.dep])
 |some p=>refine⟨H,p.1,p.2,rfl,?_⟩;simp only[TS.dep] at e;omega
theorem D6{H:List (Str×fe)}{d:Lr}(N:Nw F H d){σ:TS}(c:Po F σ):∃a,(∀(n:Nat) (L:Lp),L.length<=900->fV [σ.rg L,.int (n:Int),wl d]=Y (.bool true,σ.rg (L++[.tuple [.int (n:Int),a]])))/\∀b q g f,fh [Rg (gD F) (gD H) b q g f,a]=Y (.bool false):=by
 obtain⟨w,r,a,o,hw,j,e⟩:=N.ok;obtain⟨u,t,s,rfl,k⟩:=c.ex;refine⟨a,λn L l=>?_,e⟩;have p:(w=="end")=false:=by rcases hw with rfl|rfl<;>decide
 have m:(w=="else")=false:=by rcases hw with rfl|rfl<;>decide
 have i:(w=="if"||w=="while")=false:=by rcases hw with rfl|rfl<;>decide
 have h:(w=="func"||w=="straight")=true:=by rcases hw with rfl|rfl<;>decide
 exact pE rfl (uW o N.gr p m j i h (by simpa using k) l n)
section
variable {hs:fe}{bl la:fe}{ws:Lr}{i:Int}
theorem D7{R a:fe}(b:R=Rg (gD F) hs (.str t) bl la false)(h:gf [R,.int i,wl ws]=Y (.bool false,a)):fV [R,.int i,wl ws]=Y (.bool false,a):=by
 subst b
 simp? only[fV,kn,oR,qb,qa,uc,h,jD]
theorem Ag{a b c:Od}{R:fe}:mD (dC (.bool false)) [Y R,a,b,c]=Y (.rt (.tuple [.bool false,R])):=by
 simp? only[jD]
theorem Pp(g:GR ws)(f:ws≠[zZ "end"])(e:ws≠[zZ "else"])(d:qU [wl ws]=Y (.bool false)):fV [Rg (gD F) hs (.str t) bl la false,.int i,wl ws]=Y (.bool false,Rg (gD F) hs (.str t) bl la false):=by
 refine D7 rfl ?_;have q:=sN g.ok (Sn "end");rw[aA f] at q;have b:=sN g.ok (Sn "else");rw[aA e] at b;have c:iS (wl ws) (.list [.str (zZ "end")])=Y (.bool false):=q;have a:iS (wl ws) (.list [.str (zZ "else")])=Y (.bool false):=b;have h:gP [Y (Rg (gD F) hs (.str t) bl la false),Y (.int i),Y (wl ws),Z]=Y (.rt (.tuple [.bool false,Rg (gD F) hs (.str t) bl la false])):=by refine fw (iz (by simp? only[c]) rfl) (fw (iz (by simp? only[a]) rfl) (ko (jW (by simp? only[d,qa]) Ag)))
 rw[gf,q8];show Bx (gP [Y (Rg (gD F) hs (.str t) bl la false),Y (.int i),Y (wl ws),Z])=_;rw[h,pZ]
theorem Mr{k:Str}{a:fe}{w:String}(O:hY ws w (Y k) a)(g:GR ws)(m:ws≠[zZ "end"])(l:ws≠[zZ "else"])(j:k∉F.map (·.1)):fV [Rg (gD F) hs (.str t) bl la false,.int i,wl ws]=Y (.bool false,Rg (gD F) hs (.str t) bl la false):=by
 refine D7 rfl ?_;have q:=sN g.ok (Sn "end");rw[aA m] at q;have d:=sN g.ok (Sn "else");rw[aA l] at d;have f:iS (wl ws) (.list [.str (zZ "end")])=Y (.bool false):=q;have b:iS (wl ws) (.list [.str (zZ "else")])=Y (.bool false):=d;have c:=O.Y2;have h:gS ["Row"] "kind" a=Y (.str k):=O.kd;have e:=rh (t:=k) (H:=F);rw[aA j] at e;have n:gP [Y (Rg (gD F) hs (.str t) bl la false),Y (.int i),Y (wl ws),Z]=Y (.rt (.tuple [.bool false,Rg (gD F) hs (.str t) bl la false])):=by
  refine fw (iz (by simp? only[f]) rfl) (fw (iz (by simp? only[b]) rfl) (fw (iz (by simp? only[O.Y1 g,qa]) rfl) (fw (ρ1:=[Y (Rg (gD F) hs (.str t) bl la false),Y (.int i),Y (wl ws),Y a]) ?_ (ko (jW ?_ Ag)))))
  ·simp? only[c]
  ·simp? only[h,uc,nJ,jP,e]
 rw[gf,q8];show Bx (gP [Y (Rg (gD F) hs (.str t) bl la false),Y (.int i),Y (wl ws),Z])=_;rw[n,pZ]
end
noncomputable def BX:List Lr:=[["copy","x"],["new","x","kz"],[""]].map λl=>l.map Str.ofString
theorem Pq:∀a∈BX,Ee a:=by
 intro a hw;simp only[BX,ae,a9,ag,aV,cb] at hw;rcases hw with rfl|rfl|rfl
 ·exact GR.Hm ⟨by simp,by decide +kernel,by decide⟩
 ·exact GR.Hm ⟨by simp,by decide +kernel,by decide⟩
 ·exact Oo
theorem I8(c:zZ "kz"∉F.map (·.1)){σ:TS}(a:Po F σ){b:Lr}(hw:b∈BX){x:fe}(L:Lp)(rw:fe)(n:Nat)(d:n<10000):fE [Y x,Y (σ.rg L),Y rw,Y (.int (n:Int)),Y (wl b),Z]=Y (.rt (.int (n:Int))):=by
 obtain⟨H,t,f,rfl,e⟩:=a.ex;simp only[BX,ae,a9,ag,aV,cb] at hw;rcases hw with rfl|rfl|rfl
 ·have g:GR [zZ "copy",zZ "x"]:=⟨by simp,by decide +kernel,by decide⟩
  exact DF g.2.1 (by simp) (Pp g (by simp) (by simp) (zK 0)) (by omega)
 ·have g:GR [zZ "new",zZ "x",zZ "kz"]:=⟨by simp,by decide +kernel,by decide⟩
  exact DF g.2.1 (by simp) (Mr (LO _ _) g (by simp) (by simp) c) (by omega)
 ·exact LK (by omega)
section
variable {t:Tx} (T:yR t) {H:List (Str×fe)} (P:Va t F H) {r:Lr} (N:Nw F H r)
include N in
theorem ye{h:fe->Prop}{a d:List Lr}{σp σq:TS}(p:Pt F h σ0 a σp)(o:Pt F h σp d σq)(n:Po F σp)(u:a.length+d.length<=800):
  ∃c f g,(∀e∈f,h e)/\(∀b s m l,fh [Rg (gD F) (gD H) b s m l,c]=Y (.bool false))/\f.length+g.length<=a.length+d.length/\Reads 0 R0 (a++r::d) (σq.rg (f++.tuple [.int (a.length:Int),c]::g)):=by
 obtain⟨c,e,k⟩:=D6 N n;obtain⟨f,t,x,j⟩:=p.reads 0 [] (by simp;omega);rw[bp] at j;obtain⟨g,w,v,i⟩:=o.reads (a.length+1) (f++[.tuple [.int (a.length:Int),c]]) (by simp;omega);refine⟨c,f,g,t,k,by omega,?_⟩;have q:=e a.length f (by omega);rw[aQ,dw] at i;refine Reads.app (R1:=σp.rg f) j ?_;rw[dn];exact⟨_,N.gr.2.1,q,i⟩
theorem va{a:List Lr}(h:∀ws∈a,GR ws):∀ws∈a,ws.length<=900:=λws hw=>by have:=(h ws hw).2.2;omega
include T P N in
theorem SQ(v:zZ "kz"∉F.map (·.1)){p q:Nat}(x:p∈vz 0 0 t.rows)(w:q∈vz 0 0 t.rows)(f:p<=q){b:Lr}(h:b∈BX):∃pre a post,t.rows=pre++(a++post)/\pre.length=p/\pre.length+a.length=q/\(∀c∈pre++r::(a++b::post),Ee c)/\gp [.str (tx (pre++r::(a++b::post)))]=Y (.int ((q+1:Nat):Int)):=by
 obtain⟨pre,a,post,σp,σq,e,o,n,j,i,y,u,s⟩:=BW P.pt x w f;have d:=T.len;rw[e] at d;simp only[aB] at d;have l:=j.gr;have k:=i.gr;have z:=y.gr;have g:∀c∈pre++r::(a++b::post),Ee c:=by
  intro c hw;simp only[aw,ag] at hw;rcases hw with hw|rfl|hw|rfl|hw
  ·exact(l c hw).Hm
  ·exact N.gr.Hm
  ·exact(k c hw).Hm
  ·exact Pq _ h
  ·exact(z c hw).Hm
 refine⟨pre,a,post,e,o,n,g,?_⟩;obtain⟨m,D,C,_,_,_,R⟩:=ye N j i u (by omega);refine ug g (by simp;omega) (by simp) ?_;have B:pre++r::(a++b::post)=(pre++r::a)++b::post:=by simp
 have A:(pre++r::a).length=q+1:=by simp;omega
 rw[B,<-A];refine SD R (λc hw=>?_) λrw=>I8 v s h _ rw _ (by omega);simp only[aw,ag] at hw;rcases hw with hw|rfl|hw
 ·exact va l c hw
 ·have:=N.gr.2.2;omega
 ·exact va k c hw
theorem Ga{σ:TS}{b:fe->Prop}{a:Lr}{σ':TS}(s:XZ F b σ a σ'):σ.ov=false:=by
 cases h:σ.ov with
 |false=>rfl
 |true=>
  obtain⟨l,_,_,e⟩:=s.rd 0 [] (by simp);rw[TS.rg,h] at e
  simp? only[fV,kn,oR,qa,jD] at e
  cases e
include T P N in
theorem SR{p:Nat}(i:p∈vz 0 0 t.rows):∃pre post w,t.rows=pre++(post++[w])/\pre.length=p/\(∀b∈pre++r::post,Ee b)/\gp [.str (tx (pre++r::post))]=Y (.int ((t.rows.length:Nat):Int)):=by
 obtain⟨pre,d,post,σp,σq,e,q,B,k,x,f,h,C⟩:=BW P.pt i i (aH _);have u:d=[]:=List.length_eq_zero_iff.mp (by omega);subst u;rw[bp] at e;cases x;rcases List.eq_nil_or_concat post with rfl | ⟨a,w,rfl⟩
 ·cases f;exact absurd h.1 (by simp[TS.dep])
 rw[List.concat_eq_append] at f e;have c:=T.len;rw[e] at c;simp only[aB,List.length_singleton] at c;obtain⟨σ',j,v⟩:=f.split;have m:=k.gr;have l:=j.gr;have o:σ'.ov=false:=by
  cases v with
  |cons s _=>exact Ga s
 have g:∀b∈pre++r::a,Ee b:=by
  intro b hw;simp only[aw,ag] at hw;rcases hw with hw|rfl|hw
  ·exact(m b hw).Hm
  ·exact N.gr.Hm
  ·exact(l b hw).Hm
 refine⟨pre,a,w,e,q,g,?_⟩;obtain⟨n,A,z,_,_,_,R⟩:=ye N k j h (by omega);refine ug g (by simp;omega) (by simp) ?_;have y:t.rows.length=(pre++r::a).length:=by rw[e];simp
 rw[y];rw[TS.rg,o] at R;refine OZ R (λb hw=>?_) (by simp;omega);simp only[aw,ag] at hw;rcases hw with hw|rfl|hw
 ·exact va m b hw
 ·have:=N.gr.2.2;omega
 ·exact va l b hw
include T P N in
theorem SS{p q:Nat}(z:p∈vz 0 0 t.rows)(y:q∈vz 0 0 t.rows)(j:p<=q):∃pre a post,t.rows=pre++(a++post)/\pre.length=p/\pre.length+a.length=q/\(∀c∈pre++r::(a++r::post),Ee c)/\gp [.str (tx (pre++r::(a++r::post)))]=Y (.int (p:Int)):=by
 obtain⟨pre,a,post,σp,σq,e,l,v,o,n,m,x,w⟩:=BW P.pt z y j;have f:=T.len;rw[e] at f;simp only[aB] at f;have C:=o.gr;have B:=n.gr;have A:=m.gr;have s:∀c∈pre++r::(a++r::post),GR c:=by
  intro c hw;simp only[aw,ag] at hw;rcases hw with hw|rfl|hw|rfl|hw
  ·exact C c hw
  ·exact N.gr
  ·exact B c hw
  ·exact N.gr
  ·exact A c hw
 have k:∀c∈pre++r::(a++r::post),Ee c:=λc hw=>(s c hw).Hm;refine⟨pre,a,post,e,l,v,k,?_⟩;obtain⟨d,h,g,K,u,Q,R⟩:=ye N o n x (by omega);obtain⟨b,G,_⟩:=D6 N w;have E:=G (pre++r::a).length (h++.tuple [.int (pre.length:Int),d]::g) (by simp;omega);obtain⟨i,O,M,J⟩:=m.reads ((pre++r::a).length+1) (h++.tuple [.int (pre.length:Int),d]::g++[.tuple [.int ((pre++r::a).length:Int),b]]) (by simp;omega);have L:Reads 0 R0 (pre++r::(a++r::post)) (TS.rg ⟨F,H,Z,true⟩ (h++.tuple [.int (pre.length:Int),d]::(g++.tuple [.int ((pre++r::a).length:Int),b]::i))):=by
  have I:pre++r::(a++r::post)=(pre++r::a)++r::post:=by simp
  rw[I];refine Reads.app R ?_;rw[dn];refine⟨_,N.gr.2.1,E,?_⟩;have D:h++.tuple [.int (pre.length:Int),d]::(g++.tuple [.int ((pre++r::a).length:Int),b]::i)=h++.tuple [.int (pre.length:Int),d]::g++[.tuple [.int ((pre++r::a).length:Int),b]]++i:=by simp
  rw[D];exact J
 refine ug k (by simp;omega) (by simp) ?_;rw[<-l];exact IP P.td K L (va s) (u ..) (by omega)
include T P in
theorem Gb:∃p,gp [.str (tx t.rows)]=Y p/\(∀n,p≠.int n)/\Lz p (tx t.rows):=by obtain⟨f,a⟩:=P.rt;obtain⟨E,g,c⟩:=Ox a;have b:=T.len;obtain⟨l,e,h,d⟩:=P.pt.reads 0 [] (by simp;omega);refine⟨prog t.rows ((t.hs.map uZ++[v7 t]).map Bo.ent) E,?_,λn z=>(by cases z),Oy E⟩;refine ug (λws hw=>(P.pt.gr ws hw).Hm) (by omega) a.ne ?_;exact O0 P.td e d (va P.pt.gr) c (λn z=>by cases z)
end
theorem yf{a:Lr}{p:Nat}(b:p<=a.length)(h:a.length<=800):ij [wl a,.str x,.int (p:Int)]=Y (wl (a.take p++x::a.drop p)):=by
 have g:gz (bb 0) iL (gM (bb 2)) [Y (wl a),Y (.str x),Y (.int (p:Int))]=Y (wl (a.take p)):=by
  have:Ec (wl a) Z (Y (p:Int))=Y (wl (a.take p)):=by rw[wl,Ed,Ls _ _ (by simpa using b),wl,List.map_take]
  simp? only[this]
 have f:gz (bb 0) (gM (bb 2)) iL [Y (wl a),Y (.str x),Y (.int (p:Int))]=Y (wl (a.drop p)):=by
  have:Ec (wl a) (Y (p:Int)) Z=Y (wl (a.drop p)):=by rw[wl,Ed,rf _ _ (by simpa using b),wl,List.map_drop]
  simp? only[this]
 have e:eT (zQ (bb 1)) [Y (wl a),Y (.str x),Y (.int (p:Int))]=Y (wl [x]):=rfl;have d:=fA (o:=fC) g e;rw[jw _ _ (by simp;omega)] at d;have c:=fA (o:=fC) d f;rw[jw _ _ (by simp;omega),aQ,dw] at c;rw[ij,jN,gO];show mS (pS [Y (wl a),Y (.str x),Y (.int (p:Int))])=_;rw[pS,lS,c];rfl
theorem Pu{b:List Lr}(c:∀ws∈b,Ee ws)(d:b.length<=800){n:Int}(e:gp [.str (tx b)]=Y (.int n)):pV [wl (b.map ln)]=Y (.int n):=by
 have j:=DA c d;have a:c4 (pN je (zA "\n") (zQ (bb 0))) eB [Y (wl (b.map ln)),Y .none,Z]=Y [.str (tx b)]:=by
  simp? only[j]
 have g:sJ [Y (wl (b.map ln)),Z,Z]=Y (.rt (.int n)):=by refine fw (ρ1:=[Y (wl (b.map ln)),Y .none,Z]) rfl (fw (ρ1:=[Y (wl (b.map ln)),Y (.int n),Z]) ?_ rfl);unfold RZ;rw[a];show (if ([fe.str (tx b)]:Lp).length=1 then (gp [.str (tx b)]).bind _ else Z)=_;rw[ai (show ([fe.str (tx b)]:Lp).length=1 from rfl),e];rfl
 rw[pV,jN,gO];show mS (sJ [Y (wl (b.map ln)),Z,Z])=_;rw[g,iC]
theorem Hy:∀{a:List Lr}{c:Lr}{b:List Lr}{d k:Nat},0<iW c (a.foldl (λd c=>iW c d) d)->a.length+k+1∈vz d k (a++c::b)
 |[],c,b,d,k,h=>by rw[bp,vz,ai (show 0<iW c d from h)];simp
 |x::a,c,b,d,k,h=>by rw[a8,vz];refine au _ ?_;have:=Hy (a:=a) (b:=b) (k:=k+1) h;rwa[show a.length+(k+1)+1=(x::a).length+k+1 by simp;omega] at this
theorem SU(t:Tx):vz 0 0 t.rows≠[]:=by
 have e:t.rows=(t.ks.map hH++t.hs.flatMap (λh=>ku (h.1.ws _root_.id) h.2))++[zZ "main"]::(t.mr++[[zZ "end"]]):=by simp[Tx.rows,ku]
 rw[e];refine List.ne_nil_of_mem (Hy ?_);generalize (List.foldl (λd ws=>iW ws d) 0 (t.ks.map hH++t.hs.flatMap (λh=>ku (h.1.ws _root_.id) h.2)))=d;cases d with
 |zero=>rw[iW,ai ⟨rfl,by intro z;injection z with z;exact oq (by decide) z⟩];omega
 |succ d=>rw[uX (w:="main") (by decide)];split<;>omega
theorem rp{rows pre post:List Lr}(e:rows=pre++post)(r:Lr):(rows.map ln).take pre.length++ln r::(rows.map ln).drop pre.length=(pre++r::post).map ln:=by subst e;rw[aK,List.take_append_of_le_length (by simp),List.drop_append_of_le_length (by simp),List.take_of_length_le (by simp),List.drop_of_length_le (by simp)];simp
theorem Yf(a b:Nat):EF [.int (a:Int),.int (b:Int)]=Y (.int ((max a b:Nat):Int)):=by
 show Y (fe.int _)=_
 congr 2
 split<;>omega
theorem Yg(a b:Nat):Cn [.int (a:Int),.int (b:Int)]=Y (.int ((min a b:Nat):Int)):=by
 show Y (fe.int _)=_
 congr 2
 split<;>omega
theorem Ms{rows:List Lr}{p:Nat}(h:p∈vz 0 0 rows):p<=rows.length:=by obtain⟨a,b,e,l,_⟩:=rQ h;rw[e,aB];omega
theorem Vt{G:Lp->Od}{A B C:c5->Od}{a b c:fe}(f:A ρ=Y a)(e:B ρ=Y b)(d:C ρ=Y c):hZ 3 G (c4 A (c4 B (zQ C))) ρ=G [a,b,c]:=by rw[Dq,fz,f,fz,e,fz,d,jV];rfl
theorem Yh{G:Lp->Od}{A:c5->Od}{a:fe}(b:A ρ=Y a):hZ 1 G (zQ A) ρ=G [a]:=by rw[Dq,fz,b,jV];rfl
theorem Zj{G:Lp->Od}{A B:c5->Od}{a b:fe}(d:A ρ=Y a)(c:B ρ=Y b):gF G (c4 A (zQ B)) ρ=G [a,b]:=by rw[sM,fz,d,fz,c,jV];rfl
theorem SV{A B:c5->Od}{a b:fe}(d:A ρ=Y a)(c:B ρ=Y b):iQ (c4 A (zQ B)) ρ=Y (.tuple [a,b]):=by rw[GS,fz,d,fz,c,jV];rfl
theorem Mt(l:List α)(x:α):nc (l++[x]) Z (Y (-1))=l:=by unfold nc HT.ke;simp;rw[show (-1+((l.length:Int)+1)).toNat=l.length by omega,List.take_left]
theorem Mu(x:Int):∃b∈BX,rY [fe.str (zZ "copy x"),.str (zZ "new x kz"),.str (zZ "")] (x % 3)=Y (.str (ln b)):=by
 have h:x % 3=0\/x % 3=1\/x % 3=2:=by omega
 rcases h with h|h|h
 ·exact⟨[zZ "copy",zZ "x"],by simp[BX],by rw[h,wh];exact bK (λs=>Y (fe.str s)) (zD 0)⟩
 ·exact⟨[zZ "new",zZ "x",zZ "kz"],by simp[BX],by rw[h,MC];exact bK (λs=>Y (fe.str s)) (zD 0)⟩
 ·exact⟨[zZ ""],by simp[BX],by rw[h,XR];exact bK (λs=>Y (fe.str s)) (zD 0)⟩
section
variable {t:Tx} (T:yR t) {H:List (Str×fe)} (P:Va t F H) (SW:zZ "ka"∈t.K) (hk:∀h∈t.hs,Eg h.1.key)
include T P SW hk in
theorem Pw(I:yi d):∃rows n,(∀L∈rows,Ee L)/\rows.length<=800/\gp [.str (tx rows)]=Y (.int n)/\kY [wl (t.rows.map ln),d]=Y (.tuple [wl (rows.map ln),.int n]):=by
 have l:=T.len;have nw:=SN T P SW hk;obtain⟨r,hr,er⟩:=F9 T I λL hw=>(nw L hw).gr;have N:=nw r hr;have ep:=I7 P.pt.gr (by omega);have Q:=SU t;have hz:zZ "kz"∉F.map (·.1):=by rw[P.eF];intro z;obtain⟨x,hx,e⟩:=aq.mp z;have:=(T.kv x hx).nm;rw[e] at this;exact absurd this (zD 0)
 obtain⟨x1,h1⟩:=I.at 1 (by omega);obtain⟨x2,h2⟩:=I.at 2 (by omega);obtain⟨y,h4⟩:=I.at 4 (by omega);obtain⟨x5,h5⟩:=I.at 5 (by omega);have R:(vz 0 0 t.rows).map (λ(p:Nat)=>fe.int (p:Int))≠[]:=by simpa using Q
 have q:0<(((vz 0 0 t.rows).map (λ(p:Nat)=>fe.int (p:Int))).length:Int):=by have:=br.mpr R;omega
 obtain⟨da,ha0,ea⟩:=xS _ R x1;obtain⟨a,K,rfl⟩:=aq.mp ha0;obtain⟨db,X,eb⟩:=xS _ R x2;obtain⟨b,hb,rfl⟩:=aq.mp X;have la:=Ms K;have lb:=Ms hb;have hp:min a b∈vz 0 0 t.rows:=by rcases Nat.le_total a b with h|h<;>simp only[Nat.min_eq_left,Nat.min_eq_right,h,K,hb]
 have hq:max a b∈vz 0 0 t.rows:=by rcases Nat.le_total a b with h|h<;>simp only[Nat.max_eq_left,Nat.max_eq_right,h,K,hb]
 have H:min a b<=max a b:=bu (Nat.min_le_left a b) (Nat.le_max_left a b);let ρ:Od->c5:=λs=>[Y (wl (t.rows.map ln)),Y d,Y (.list ((vz 0 0 t.rows).map λ(p:Nat)=>fe.int (p:Int))),Y (.int (a:Int)),Y (.int (b:Int)),Y (.str (ln r)),s]
 have S:∀s,gF EF (c4 (bb 3) (zQ (bb 4))) (ρ s)=Y (.int ((max a b:Nat):Int)):=λs=>(Zj (A:=bb 3) (B:=bb 4) rfl rfl).trans (Yf a b);have U:∀s,gF Cn (c4 (bb 3) (zQ (bb 4))) (ρ s)=Y (.int ((min a b:Nat):Int)):=λs=>(Zj (A:=bb 3) (B:=bb 4) rfl rfl).trans (Yg a b);have m4:∀s,d2 gq (zX (bb 1) (zI 4)) (zI 3) (ρ s)=Y (.int (y % 3)):=λs=>gU (jx (A:=bb 1) (B:=dC (.int 4)) (i:=4) rfl rfl h4) rfl (by omega);have J:∀s (z:Int),fB (d2 iS (d2 gq (zX (bb 1) (zI 4)) (zI 3)) (zI z)) (ρ s)=Y (y % 3==z):=λs z=>by rw[lZ,fA (m4 s) (rfl:dC (.int z) (ρ s)=Y (.int z)),MD];rfl
 have f:∀{g o},g (ρ Z)=Y (Out.rt o)->c7 (fu (fO [] (hZ 1 jK (zQ (bb 0)))) 2) (c7 (fu (fO [] (zX (bb 2) (d2 gq (zX (bb 1) (zI 1)) (zN (bb 2))))) 3) (c7 (fu (fO [] (zX (bb 2) (d2 gq (zX (bb 1) (zI 2)) (zN (bb 2))))) 4) (c7 (fu (fO [] (hZ 2 kJ (c4 (bb 0) (zQ (bb 1))))) 5) g))) [Y (wl (t.rows.map ln)),Y d,Z,Z,Z,Z,Z]=Y (Out.rt o):=by
  intro g o hg;refine fw (fW (O:=[]) ?_) (fw (fW (O:=[]) ?_) (fw (fW (O:=[]) ?_) (fw (fW (O:=[]) ?_) hg)))
  ·rw[qu,Yh (A:=bb 0) rfl,ep]
  ·rw[qu];exact(fA (o:=gm) (A:=bb 2) rfl (gU (jx (A:=bb 1) (B:=dC (.int 1)) (i:=1) rfl rfl h1) rfl q)).trans ea
  ·rw[qu];exact(fA (o:=gm) (A:=bb 2) rfl (gU (jx (A:=bb 1) (B:=dC (.int 2)) (i:=2) rfl rfl h2) rfl q)).trans eb
  ·rw[qu];exact(Vq (A:=bb 0) (B:=bb 1) rfl rfl).trans er
 have u:∀{o},sE [Y (wl (t.rows.map ln)),Y d,Z,Z,Z,Z,Z]=Y (.rt o)->kY [wl (t.rows.map ln),d]=Y o:=by intro o h;rw[kY,jN,gO];show mS (sE [Y (wl (t.rows.map ln)),Y d,Z,Z,Z,Z,Z])=_;rw[h,iC]
 have m:y % 3=0\/y % 3=1\/y % 3=2:=by omega
 rcases m with m|m|m
 ·obtain⟨v,W,ebb⟩:=Mu x5;obtain⟨pre,c,post,e,G,V,E,j⟩:=SQ T P N hz hp hq H W;have hl:pre.length+c.length+post.length<=700:=by rw[e] at l;simp only[aB] at l;omega
  refine⟨_,_,E,by simp;omega,j,u (f (ko (jW (by rw[J,m];rfl) (fw (ρ1:=ρ (Y (wl ((pre++(c++v::post)).map ln)))) (fW (O:=[]) ?_) ?_))))⟩
  ·rw[qu];have bi:d2 gm (eT (zC "copy x" (zC "new x kz" (zC "" eB)))) (d2 gq (zX (bb 1) (zI 5)) (zI 3)) (ρ Z)=Y (.str (ln v)) :=
    (fA (o:=gm) (A:=eT (zC "copy x" (zC "new x kz" (zC "" eB)))) rfl (gU (jx (A:=bb 1) (B:=dC (.int 5)) (i:=5) rfl rfl h5) rfl (by omega))).trans ebb
   rw[Vt (A:=bb 0) rfl bi (S Z),yf (by simp;omega) (by simp;omega)];have:=rp (rows:=t.rows) (pre:=pre++c) (post:=post) (by rw[e];simp) v;rw[aB,V] at this;rw[this];simp
  ·rw[lS];have D:hZ 3 ij (c4 (bb 6) (c4 (bb 5) (zQ (gF Cn (c4 (bb 3) (zQ (bb 4))))))) (ρ (Y (wl ((pre++(c++v::post)).map ln))))=Y (wl ((pre++r::(c++v::post)).map ln)):=by
    rw[Vt (A:=bb 6) (B:=bb 5) rfl rfl (U _),yf (by simp;omega) (by simp;omega)];have:=rp (rows:=pre++(c++v::post)) rfl r;rw[G] at this;rw[this]
   have M:d2 fC (gF EF (c4 (bb 3) (zQ (bb 4)))) (zI 1) (ρ (Y (wl ((pre++(c++v::post)).map ln))))=Y (.int ((max a b+1:Nat):Int)):=(fA (o:=fC) (B:=dC (.int 1)) (S _) rfl).trans rfl;rw[SV D M];rfl
 ·obtain⟨pre,post,w,e,G,E,j⟩:=SR T P N K;have hl:pre.length+(post.length+1)=t.rows.length:=by rw[e];simp
  refine⟨_,_,E,by simp;omega,j,u (f (fw (iz (by rw[J,m];rfl) rfl) (ko (jW (by rw[J,m];rfl) (fw (ρ1:=ρ (Y (wl ((pre++r::(post++[w])).map ln)))) (fW (O:=[]) ?_) ?_)))))⟩
  ·rw[qu,Vt (A:=bb 0) (B:=bb 5) (C:=bb 3) rfl rfl rfl,yf (by simp;omega) (by simp;omega)];have:=rp (rows:=t.rows) (pre:=pre) (post:=post++[w]) e r;rw[G] at this;rw[this]
  ·rw[lS];have ee:(pre++r::(post++[w])).map ln=(pre++r::post).map ln++[ln w]:=by simp
   have D:gz (bb 6) iL (gM (zI (-1))) (ρ (Y (wl ((pre++r::(post++[w])).map ln))))=Y (wl ((pre++r::post).map ln)):=by
    have sl:Ec (wl ((pre++r::(post++[w])).map ln)) Z (Y (-1))=Y (wl ((pre++r::post).map ln)):=by rw[ee,wl,Ed,aK,ae,a9,Mt,wl]
    rw[wg];exact sl
   have M:d2 rT (zN (bb 6)) (zI 1) (ρ (Y (wl ((pre++r::(post++[w])).map ln))))=Y (.int ((t.rows.length:Nat):Int)):=by
    have ll:gF gR (zQ (bb 6)) (ρ (Y (wl ((pre++r::(post++[w])).map ln))))=Y (.int ((t.rows.length+1:Nat):Int)):=by
     rw[sM,fz,jV];show gR [wl ((pre++r::(post++[w])).map ln)]=_;have lc:(pre++r::(post++[w])).length=t.rows.length+1:=by simp;omega
     rw[wl,k8,ah,ah,lc]
    rw[fA (o:=rT) (B:=dC (.int 1)) ll rfl];generalize t.rows.length=k;show Y (fe.int (((k+1:Nat):Int) - 1))=_;rw[show (((k+1:Nat):Int) - 1)=(k:Int) by omega]
   rw[SV D M];rfl
 ·obtain⟨pre,c,post,e,G,V,E,j⟩:=SS T P N hp hq H;have hl:pre.length+c.length+post.length<=700:=by rw[e] at l;simp only[aB] at l;omega
  refine⟨_,_,E,by simp;omega,j,u (f (fw (iz (by rw[J,m];rfl) rfl) (fw (iz (by rw[J,m];rfl) rfl) (fw (ρ1:=ρ (Y (wl ((pre++(c++r::post)).map ln)))) (fW (O:=[]) ?_) ?_))))⟩
  ·rw[qu,Vt (A:=bb 0) (B:=bb 5) rfl rfl (S Z),yf (by simp;omega) (by simp;omega)];have:=rp (rows:=t.rows) (pre:=pre++c) (post:=post) (by rw[e];simp) r;rw[aB,V] at this;rw[this];simp
  ·rw[lS];have D:hZ 3 ij (c4 (bb 6) (c4 (bb 5) (zQ (gF Cn (c4 (bb 3) (zQ (bb 4))))))) (ρ (Y (wl ((pre++(c++r::post)).map ln))))=Y (wl ((pre++r::(c++r::post)).map ln)):=by
    rw[Vt (A:=bb 6) (B:=bb 5) rfl rfl (U _),yf (by simp;omega) (by simp;omega)];have:=rp (rows:=pre++(c++r::post)) rfl r;rw[G] at this;rw[this]
   rw[SV D (U _)];rfl
end
theorem SX(n:Int):mK (.int n) (.int n)=Y (.bool false):=by rw[neI,eJ];rfl
theorem fn4{G:Lp->Od}{A B C D:c5->Od}{a b c:fe}(h:A ρ=Y a)(g:B ρ=Y b)(f:C ρ=Y c)(e:D ρ=Y d):hZ 4 G (c4 A (c4 B (c4 C (zQ D)))) ρ=G [a,b,c,d]:=by rw[Dq,fz,h,fz,g,fz,f,fz,e,jV];rfl
section
variable {t:Tx} (T:yR t) {H:List (Str×fe)} (P:Va t F H) (SW:zZ "ka"∈t.K) (hk:∀h∈t.hs,Eg h.1.key)
include T P SW hk in
theorem Mv(S:fe)(b:Bool)(c:Int)(w l:Od):∃w' l',xq [Y S,Y (wl (t.rows.map ln)),Y (.bool b),Y (.int c),w,l]=Y (.nx [Y S,Y (wl (t.rows.map ln)),Y (.bool b),Y (.int c),w',l']):=by
 obtain⟨d,hd,ed⟩:=uk (c / 3+7) b;obtain⟨rows,n,lr,hl,er,ec⟩:=Pw T P SW hk hd;have el:=Pu lr hl er;refine⟨Y (wl (rows.map ln)),Y (.int n),fw (ρ1:=[Y S,Y (wl (t.rows.map ln)),Y (.bool b),Y (.int c),Y (wl (rows.map ln)),Y (.int n)]) ?_ (iz ?_ rfl)⟩
 ·have dr:hZ 2 jb (c4 (d2 fC (d2 ym (bb 3) (zI 3)) (zI 7)) (zQ (bb 2))) [Y S,Y (wl (t.rows.map ln)),Y (.bool b),Y (.int c),w,l]=Y d:=by
   have v:=SF (i:=c) (j:=3) (by omega) (by omega);have a:=fA (o:=fC) (B:=dC (.int 7)) ((fA (o:=ym) (A:=bb 3) (B:=dC (.int 3)) (ρ:=[Y S,Y (wl (t.rows.map ln)),Y (.bool b),Y (.int c),w,l]) rfl rfl).trans v) rfl;rw[Vq (a.trans rfl) (rfl:bb 2 [Y S,Y (wl (t.rows.map ln)),Y (.bool b),Y (.int c),w,l]=Y (.bool b))];exact ed
  have cs:hZ 2 kY (c4 (bb 1) (zQ (hZ 2 jb (c4 (d2 fC (d2 ym (bb 3) (zI 3)) (zI 7)) (zQ (bb 2)))))) [Y S,Y (wl (t.rows.map ln)),Y (.bool b),Y (.int c),w,l]=Y (.tuple [wl (rows.map ln),.int n]):=(Vq (A:=bb 1) rfl dr).trans ec;rw[GY];show Option.bind (hZ 2 kY (c4 (bb 1) (zQ (hZ 2 jb (c4 (d2 fC (d2 ym (bb 3) (zI 3)) (zI 7)) (zQ (bb 2)))))) [Y S,Y (wl (t.rows.map ln)),Y (.bool b),Y (.int c),w,l]) _=_;rw[cs];rfl
 ·rw[lZ,fA (o:=mK) (B:=bb 5) ((Yh (A:=bb 4) rfl).trans el) rfl,SX];rfl
include T P SW hk in
theorem D8(S:fe)(b:Bool):∀(cs:List Int) (c w l:Od),∃c' w' l',js (qt (.one 3)) xq (cs.map .int) [Y S,Y (wl (t.rows.map ln)),Y (.bool b),c,w,l]=Y (.nx [Y S,Y (wl (t.rows.map ln)),Y (.bool b),c',w',l'])
 |[],c,w,l=>⟨c,w,l,rfl⟩
 |x::cs,c,w,l=>by
  obtain⟨w1,l1,e1⟩:=Mv T P SW hk S b x w l;obtain⟨c',w',l',e2⟩:=D8 S b cs (Y (.int x)) w1 l1;refine⟨c',w',l',?_⟩;rw[ae,ib (ρ1:=[Y S,Y (wl (t.rows.map ln)),Y (.bool b),Y (.int x),w1,l1]) ?_]
  ·exact e2
  ·exact e1
end
theorem Mw:∀d:List Int,d.length<=63->(∀x∈d,kP x=true)->GQ [.list (d.map .int)]=Y (.bool true):=by
 intro d f _;obtain⟨t,⟨T,h,J⟩,L⟩:=Mg f;obtain⟨F,H,P⟩:=O5 T;obtain⟨p,K,E,u⟩:=Gb T P;obtain⟨c,M⟩:=BR d 0;have n:gH [.list (d.map .int),.int 0]=Y (.int c):=M;have m:=DT (i:=c) (j:=2) (by omega);have q:=MD (c % 2) 0;have k:=Dz u;have W:=T.len;have r:=Lo (Qj P.pt.gr) (Qj P.pt.gr);rw[eJ] at r;have j:=DA (λws hw=>(P.pt.gr ws hw).Hm) (show t.rows.length<=800 by omega);obtain⟨l,I,e⟩:=D3 d (Y 2) (Y 18);obtain⟨Q,v,G,N⟩:=D8 T P h J (.list (d.map .int)) (c % 2==0) (0::1::l) Z Z Z;have g:Lc [Y (.list (d.map .int)),Z,Z,Z,Z,Z]=Y (.rt (.bool true)):=by
  refine fw (ρ1:=[Y (.list (d.map .int)),Y (wl (t.rows.map ln)),Z,Z,Z,Z]) (fW (O:=[]) ?_) (fw (ρ1:=[Y (.list (d.map .int)),Y (wl (t.rows.map ln)),Y (.bool (c % 2==0)),Z,Z,Z]) (fW (O:=[]) ?_) (fw (iz ?_ rfl) (fw (ρ1:=[Y (.list (d.map .int)),Y (wl (t.rows.map ln)),Y (.bool (c % 2==0)),Q,v,G]) ?_ rfl)))
  ·rw[qu];exact(fn4 (A:=bb 0) (B:=dC (.int 2)) (C:=dC (.int 63)) (D:=dC (.bool true)) rfl rfl rfl rfl).trans L
  ·rw[qu];have a:=(Vq (F:=gH) (A:=bb 0) (B:=dC (.int 0)) (ρ:=[Y (.list (d.map .int)),Y (wl (t.rows.map ln)),Z,Z,Z,Z]) rfl rfl).trans n;have b:=gU (C:=dC (.int 2)) (m:=2) a rfl (by omega);rw[fA (o:=iS) (B:=dC (.int 0)) b rfl,q]
  ·have s:pN je (zA "\n") (zQ (bb 1)) [Y (.list (d.map .int)),Y (wl (t.rows.map ln)),Y (.bool (c % 2==0)),Z,Z,Z]=Y (.str (tx t.rows)):=by
    rw[IG,rH,fz,jV];exact j
   have z:hZ 1 (zz gp) (zQ (pN je (zA "\n") (zQ (bb 1)))) [Y (.list (d.map .int)),Y (wl (t.rows.map ln)),Y (.bool (c % 2==0)),Z,Z,Z]=Y p:=by rw[Yh s,zz,K];cases p<;>first|rfl|exact absurd rfl (E _)
   have y:CA "Program" "shown" 1 iZ (hZ 1 (zz gp) (zQ (pN je (zA "\n") (zQ (bb 1))))) eB [Y (.list (d.map .int)),Y (wl (t.rows.map ln)),Y (.bool (c % 2==0)),Z,Z,Z]=Y (.str (tx t.rows)):=by rw[Li,z,aD,ai u.2,jV];exact k
   rw[lZ,fA (o:=mK) y s,r];rfl
  ·have w:Ec (.list (d.map .int)) (Y 2) (Y 18)=Y (.list (l.map .int)):=by rw[Ed,e]
   have U:gz (bb 0) (gM (zI 2)) (gM (zI 18)) [Y (.list (d.map .int)),Y (wl (t.rows.map ln)),Y (.bool (c % 2==0)),Z,Z,Z]=Y (.list (l.map .int)):=by rw[wg];exact w
   have V:eT (c4 (zI 0) (zQ (zI 1))) [Y (.list (d.map .int)),Y (wl (t.rows.map ln)),Y (.bool (c % 2==0)),Z,Z,Z]=Y (.list [.int 0,.int 1]):=rfl;have R:fC (.list [.int 0,.int 1]) (.list (l.map .int))=Y (.list ((0::1::l).map .int)):=by show (if _ then _ else Z)=_;rw[ai (by rw[ah,sizeLine_eq];simp;omega)];rfl
   have S:=(fA (o:=fC) V U).trans R;rw[Dr];show Option.bind (pq (d2 fC (eT (c4 (zI 0) (zQ (zI 1)))) (gz (bb 0) (gM (zI 2)) (gM (zI 18)))) [Y (.list (d.map .int)),Y (wl (t.rows.map ln)),Y (.bool (c % 2==0)),Z,Z,Z]) _=_;rw[Lg,S];exact N
 rw[GQ,jN,gO];show mS (Lc [Y (.list (d.map .int)),Z,Z,Z,Z,Z])=_;rw[g,iC]
end K03
namespace PySem.W.Fast
def tw6732177661665793546:=()
def tw838432645218480686:=()
def tw16952807241448937683:=()
def tw9236272691395915363:=()
def tw13066914708607220480:=()
def tw3000669254368282237:=()
def tw4825348949583658410:=()
def tw2775545354070346373:=()
def tw15404026464717582726:=()
def tw7136255473316954764:=()
def tw5895368411357227490:=()
def tw2387108087026209996:=()
def tw7508948554773776300:=()
def tw17506234281840856535:=()
def tw5826830324990915739:=()
def tw15454642657885921974:=()
def tw16188236970751007309:=()
def tw10755474578377479334:=()
def tw11853937577711533758:=()
def tw14320481074664759465:=()
def tw18081698322522728115:=()
def tw11856934186789034307:=()
def tw16611317294103180690:=()
def tw13582747607074693853:=()
def tw7690747676970495007:=()
def tw6349410771824725219:=()
def tw3841525141844821992:=()
def tw10679569970491789420:=()
def tw5813728275126708423:=()
def tw239290319896691788:=()
def tw7037688065058730901:=()
def tw14415282263770967587:=()
def tw5594838078966759837:=()
def tw15022974622876048347:=()
def tw13681998735636097813:=()
def tw8006530051057760318:=()
def tw153414512322430366:=()
def tw6903746721273880975:=()
def tw493172141102576530:=()
def tw2817422718941921902:=()
def tw16922196311272454978:=()
def tw18387968231311170196:=()
def tw18218797276526220410:=()
def tw1064748268952249681:=()
def tw17335424483147124684:=()
def tw4144713003608075679:=()
def tw6689706821751680412:=()
def tw6854638365788247475:=()
def tw3175806291340580273:=()
def tw1806039609107762818:=()
def tw16691711926953943438:=()
def tw13528508607331999041:=()
def tw9154234158341627143:=()
def tw6294907822804800429:=()
def tw3569716176934016279:=()
def tw10843911717746061913:=()
def tw5965237569638436782:=()
def tw4166674565361487031:=()
def tw15249078208997986938:=()
def tw13374061838050067200:=()
def tw9762020830249595979:=()
def tw3877331911963094329:=()
def tw16441776604111194415:=()
def tw15230502847429601702:=()
def tw14819051274598605757:=()
def tw5654418927324965802:=()
def tw8829336842290512989:=()
def tw4025201491984925132:=()
def tw16764132836369948597:=()
def tw18253210074002671733:=()
def tw2962885593051745051:=()
def tw8229052073997486809:=()
def tw1797442608359708907:=()
def tw10556076958647846902:=()
def tw4091054937092235031:=()
def tw7646186724145537976:=()
def tw8046345132595321539:=()
def tw6065231947835266526:=()
def tw13441451005389962099:=()
def tw14789843057753283114:=()
def tw7525506230299883213:=()
def tw3197781775493396974:=()
def tw9753454805456176899:=()
def tw12617782750226825534:=()
def tw493684823353559754:=()
end PySem.W.Fast
open PySem PySem.W PyProof.Rows
set_option maxRecDepth 100000 in
set_option maxHeartbeats 0 in
theorem PySem.Challenge.cw_pointsure_k03_told_nowhere_holds : PySem.Challenge.rw_pointsure_k03_told_nowhere.Holds := by
  w_on; o_law; k_head; (case hw => w_witness2)
  k_fill
  refine L2.HY (l := PySem.Challenge.rw_pointsure_k03_told_nowhere) (n := 63) (k := 9) (x := "_law_script") (f := K03.GQ) rfl (by decide) rfl ⟨rfl, by decide, by decide⟩ (fun w h Y => PySem.W.kIn_of Y) ?F K03.Mw
  case F =>
    intro w mg fa h KX G hmg
    refine K03.R4 ?zM hmg
    constructor
    all_goals first
      | (refine PySem.W.mg_none_of KX G ?_; first | k_is | decide)
      | (apply L2.UJ <;> first | k_is | decide)
      | (apply L2.fnAt KX G <;> first | k_is | decide)
      | (apply L2.Xs <;> first | k_is | decide)
      | (apply L2.RK KX G <;> first | k_is | decide)
      | (apply L2.excAt KX G <;> first | k_is | decide | kernel_rfl)
      | (apply K03.vZ KX G <;> first | k_is | decide)
      | (apply K03.xD KX G <;> first | k_is | decide)
      | (apply K03.IF KX G <;> first | k_is | decide)
      | (apply L2.intAt KX G <;> first | k_is | decide)
