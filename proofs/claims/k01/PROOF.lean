import PyProof.Rows.All
import Wide.All
import OpenK.AllK
import Wide.FinOn
import Lean
import PyProof.EqAt
import PyProof.EqKinds
import PyProof.TupleCall
import KE.KRevIter
import KE.KRevSl
import PyProof.AttrMissHeap
import PySem.Challenge.RW_pointsure_k01_read_and_shown
noncomputable section
abbrev Od:=Option PySem.PyData
abbrev Lp:=List PySem.PyData
abbrev Lr:=List PySem.Str
abbrev Lw:=List PySem.Value
abbrev Ow:=Option PySem.Value
abbrev Ax:=List (PySem.Addr × PySem.Obj)
abbrev Px:=PySem.Value → PySem.Shared → Prop
abbrev Lx:=List PySem.Expr
abbrev Fg:=PySem.W.Frag
set_option Elab.async false
set_option linter.all false
set_option maxRecDepth 100000
set_option maxHeartbeats 4000000
def aa:=@List.map_cons
def ab:=@PySem.wpAny_bind
def ae:=@List.length_map
def af:=@List.mem_cons_of_mem
def ag:=@List.mem_map
def ah:=@List.mem_cons
def ai:=@if_pos
def aj:=@Option.map_eq_some_iff
def ak:=@PySem.Heap.get?_push_of_some
def ao:=@if_neg
def aq:=@List.mem_append_right
def ar:=@List.length_cons
def au:=@List.mem_append
def av:=@List.getElem?_set_ne
def aw:=@PySem.wpAny_pure
def ax:=@List.size_toArray
def ay:=@PySem.Heap.lt_size
def az:=@Option.bind_some
def aA:=@List.mem_append_left
def aB:=@List.forall_mem_cons
def aC:=@List.getElem?_map
def aD:=@Nat.le_refl
def aE:=@List.getElem?_eq_getElem
def aF:=@PySem.Heap.get?_push_size
def aG:=@Nat.lt_of_lt_of_le
def aH:=@decide_eq_false
def aI:=@List.map_append
def aJ:=@List.getElem?_eq_some_iff
def aK:=@List.length_append
def aL:=@List.all_eq_true
def aM:=@List.getElem?_set_self
def aN:=@List.append_assoc
def aO:=@True.intro
def aP:=@Nat.ne_of_lt
def aQ:=@Bool.false_ne_true
def aR:=@PySem.SeqAt.canLay_of_shaped
def aS:=@List.append_nil
def aT:=@List.mem_cons_self
def aU:=@List.perm_append_comm
def aV:=@List.getElem?_append_right
def aW:=@beq_eq_false_iff_ne
def aX:=@Bool.and_eq_true
def aY:=@PySem.PassesOwn.never
def aZ:=@List.map_nil
def a0:=@List.nodup_append
def a6:=@List.lookup_cons
def a7:=@Nat.lt_irrefl
def a8:=@List.getElem?_cons_zero
def a9:=@List.nodup_cons
def bb:=@List.not_mem_nil
def bc:=@decide_eq_true_eq
def bf:=@decide_eq_true
def bh:=@List.getElem?_append_left
def bj:=@PySem.Heap.get?_update_other
def bp:=@List.mem_filterMap
def bq:=@PySem.Calls.spliced_cons
def br:=@PyProof.Rows.slot_tuple_getitem
def bt:=@List.length_pos_iff
def bu:=@List.nil_append
def bw:=@List.getElem?_cons_succ
def bx:=@PySem.wpAny_holding
def bz:=@PySem.wpAny_Call_Name_kw
def bA:=@List.cons_append
def bB:=@PySem.Heap.get?_update_self
def bC:=@PySem.F.slot_dict_get
def bD:=@PyProof.Rows.callWith_type1
def bE:=@PySem.F.plainAttrs_list
def bF:=@Option.some.inj
def bG:=@List.any_cons
def bH:=@Nat.le_trans
def bJ:=@PySem.mem_of_lookup
def bK:=@List.replicate_succ
def bL:=@PySem.Calls.spliced_nil
def bM:=@List.find?_cons
def bN:=@Option.map_some
def bO:=@Or.inr
def bP:=@List.getElem?_replicate
def bQ:=@congrArg
def bR:=@PySem.wpAny_mono
def bT:=@Option.join_some
def bU:=@PySem.lookup_relabel_local
def bV:=@PySem.Around.under_plainId
def bW:=@List.flatMap_cons
def bX:=@List.mem_filter
def bY:=@PySem.F.plain_extend_loop
def bZ:=@PySem.Calls.callWith_builtin
def b0:=@PySem.F.entry_dict_get
def b5:=@Or.inl
def b6:=@Nat.le_add_right
def b7:=@PySem.call_meets
def b8:=@PySem.tupleKind_room_in1
def b9:=@Bool.false_eq_true
def cb:=@List.drop_eq_getElem_cons
def cf:=@PySem.wpAny_passesOwn
def cg:=@PySem.codeAny_builtin
def cj:=@PySem.wpAny_updateSeq
def cq:=@PySem.wpAny_truthy_bool
def cu:=@List.mem_of_getElem?
def cv:=@List.flatten_cons
def cw:=@PySem.Str.length_append
def cx:=@List.filterMap_cons
def cy:=@Array.length_toList
def cz:=@PySem.wpAny_callSpecial?_slot
def cA:=@List.getElem_mem
def cB:=@or_false
def cC:=@PySem.wpAny_field
def cD:=@beq_iff_eq
def cE:=@if_true
def cF:=@PySem.wpAny_typeOf
def cG:=@Array.getElem?_eq_none
def cH:=@List.map_map
def cI:=@PySem.plainId_quiet
def cJ:=@Bool.beq_comm
def cK:=@List.getElem?_eq_none
def cL:=@List.Perm.append_left
def cM:=@PySem.wpAny_newObj_type
def cN:=@Function.comp_def
def cO:=@PySem.Calls.evalArgs_plain
def cP:=@List.getD_eq_getElem?_getD
def cQ:=@List.range'_succ
def cR:=@Int.toNat_of_nonneg
def cS:=@PySem.F.args_tuple_add_2
def cT:=@Bool.or_false
def cU:=@PySem.wpAny_comprehension_free
def cV:=@List.length_nil
def cW:=@Nat.zero_le
def cX:=@PySem.F.entry_tuple_add
def cY:=@PySem.F.args_dict_get_2
def cZ:=@PySem.F.plainAttrs_dict
def c9:=@decide_eq_false_iff_not
def da:=@PySem.wpAny_pyNext_list_item
def de:=@PySem.wpAny_pyIter_list
def df:=@PySem.codeAny_mono
def dh:=@PySem.F.slot_tuple_add
def dk:=@PySem.Str.ofString_eq_toList
def dm:=@List.Perm.append_right
def dn:=@Int.toNat_natCast
def dq:=@PySem.wpAny_nextOf_list_item
def du:=@PySem.wpAny_pyNext_list_end
def dw:=@PySem.F.type_dict_get
def dy:=@PySem.builtinLookup_eq_fast
def dz:=@List.singleton_append
def dA:=@Nat.lt_succ_self
def dB:=@List.length_take
def dD:=@PyProof.Rows.callWith_builtin1
def dE:=@PySem.wpAny_call_entry
def dF:=@PySem.typeIs_str
def dG:=@Nat.le_of_not_lt
def dH:=@Array.toList_inj
def dJ:=@beq_self_eq_true
def dM:=@Iff.rfl
def dN:=@PySem.wpAny_execs_nil
def dO:=@PySem.wpAny_specialOf
def dP:=@List.forIn_cons
def dQ:=@PySem.F.slot_zip_next
def dR:=@PyProof.Rows.canLayAll_strs'
def dS:=@List.dropLast_concat_getLast
def dU:=@ne_true_of_eq_false
def dW:=@Array.getElem?_push
def dX:=@List.flatMap_append
def dY:=@Nat.le_of_lt
def dZ:=@Nat.ne_of_gt
def d4:=@PySem.call_meetsIn
def d5:=@PySem.Calls.Name_function_global
def d6:=@PySem.Heap.size_push
def d7:=@List.filterMap_map
def d8:=@List.forIn_nil
def d9:=@PySem.F.args_str_split_2
def ej:=@PySem.F.slot_str_partition
def eA:=@PySem.F.type_str_partition
def eC:=@List.take_succ
def eD:=@List.mem_or_eq_of_mem_set
def eE:=@Option.isSome_map
def eG:=@PySem.wpAny_Call_method
def eI:=@PySem.F.entry_str_split
def eJ:=@PySem.Paired.length
def eK:=@PySem.noFill_tuple_add
def eN:=@Nat.min_le_right
def eO:=@if_false
def eP:=@PySem.F.slot_str_split
def eQ:=@PySem.concat_meets
def eS:=@Nat.lt_trans
def eT:=@List.of_mem_zip
def eU:=@List.length_set
def eV:=@PySem.typeLookup_type
def eW:=@Bool.or_eq_true
def eX:=@List.nodup_nil
def eY:=@PySem.wpAny_seqItems
def eZ:=@PySem.Str.cps_append
def e9:=@PySem.wpAny_rule
def fe:=@Nat.zero_add
variable  {x t:PySem.Str}{u:PySem.Value}{a:PySem.Addr}{o e tg:PySem.Expr}{w:PySem.World}{α:Type}{pins:Ax}{s:PySem.Shared}{i n:Nat}{A:PySem.Around}{E:Px}{pos:PySem.Pos}{st:PySem.Stmt}{es:Lx}{R:PySem.Result->PySem.Shared->Prop}{r fE:List (PySem.PyData×PySem.PyData)}{ns:List (Lr×PySem.Str)}{mg:PySem.Str->Ow}{fd:PySem.FuncData}{ds:Lp}{kindOf:PySem.Str->Option PySem.NameKind}{scope:PySem.Scope}{d:PySem.PyData}{caps:List (Nat×PySem.Str)}{dp:Bool}{O:List Nat}{F:List (PySem.Str×PySem.PyData)}{hs:List (PySem.Str×Lr)}{tab:List (PySem.Str×PySem.Str)}
local macro_rules
| `(zZ $a) => `(PySem.Str.ofString $a)
| `(zD 0) => `(by decide +kernel)
| `(zK 0) => `(by kernel_rfl)
| `(zB $s) => `(($s).heap.objs.size)
| `(zg $x) => `(($x == ("__debug__" : PySem.Str)) = false)
| `(zE $e $s $x) => `(PySem.starEach ($e :: $s) ($x).env = (false, PySem.eval $e ($x).env) :: PySem.starEach $s ($x).env)
| `(zy $a $n) => `({ cls := .type "tuple", data := .seq $a $n })
| `(zl $a $n) => `({ cls := .type "list", data := .seq $a $n })
| `(zw $x) => `(PySem.wpAny (PySem.model ($x).prog ($x).w) ($x).A)
namespace L2
open PySem PySem.Spec PyProof.Rows
abbrev Key:=Sum Int Str
def A1:Key->Value->Bool
 | .inl k,v=>Value.isInt k v
 | .inr x,v=>Value.isStrOf x v
def S9 (w:World):Key->Int
 | .inl k=>hashInt k
 | .inr x=>hashStr w x
theorem jk:∀ {k:Key}{v:Value},A1 k v=true->(∃ i t,k=Sum.inl i/\v=Value.int i t)∨(∃ x t,k=Sum.inr x/\v=Value.str x t)
 | .inl i,v,h=>by
  obtain⟨t,e⟩:=Value.isInt_shape (k:=i) (v:=v) h
  exact .inl ⟨i,t,rfl,e⟩
 | .inr x,v,h=>by
  obtain⟨t,e⟩:=Value.isStrOf_shape (x:=x) (v:=v) h
  exact .inr ⟨x,t,rfl,e⟩
theorem JL (i:Int)(t:Tok):A1 (.inl i) (.int i t)=true:=by simp [A1,Value.isInt]
theorem JM (x:Str)(t:Tok):A1 (.inr x) (.str x t)=true:=by simp [A1,Value.isStrOf]
theorem Ta (a b:Int):decide ((Sum.inl a:Key)=Sum.inl b)=(a==b):=by
 by_cases e:a=b
 ·subst e;simp
 ·have h:¬ (Sum.inl a:Key)=Sum.inl b:=fun q=>e (Sum.inl.inj q)
  rw [aH h]
  exact(aW.mpr e).symm
theorem Tb (a b:Str):decide ((Sum.inr a:Key)=Sum.inr b)=decide (a=b):=by
 by_cases e:a=b
 ·subst e;simp
 ·have h:¬ (Sum.inr a:Key)=Sum.inr b:=fun q=>e (Sum.inr.inj q)
  rw [aH h,aH e]
theorem Tc (a:Int)(b:Str):decide ((Sum.inl a:Key)=Sum.inr b)=false:=aH (fun q=>nomatch q)
theorem Te (a:Str)(b:Int):decide ((Sum.inr a:Key)=Sum.inl b)=false:=aH (fun q=>nomatch q)
def gS (prog:Program)(w:World):PySem.KeyKind prog w Key where
 is:=A1
 hash:=S9 w
 inj:=fun v a b ha hb=>by
  rcases jk ha with ⟨i,t,rfl,rfl⟩ | ⟨x,t,rfl,rfl⟩
  ·rcases jk hb with ⟨j,u,rfl,e⟩ | ⟨y,u,rfl,e⟩
   ·injection e with e1 _;rw [e1]
   ·exact nomatch e
  ·rcases jk hb with ⟨j,u,rfl,e⟩ | ⟨y,u,rfl,e⟩
   ·exact nomatch e
   ·injection e with e1 _;rw [e1]
 byValue:=fun k v h=>by
  rcases jk h with ⟨i,t,rfl,rfl⟩ | ⟨x,t,rfl,rfl⟩<;>rfl
 pyHash:=fun hv h=>by
  rcases jk hv with ⟨i,t,rfl,rfl⟩ | ⟨x,t,rfl,rfl⟩
  ·exact wpAny_pyHash_int h
  ·exact wpAny_pyHash_str h
 eqBool:=fun hu hv h=>by
  rcases jk hu with ⟨i,t,rfl,rfl⟩ | ⟨x,t,rfl,rfl⟩
  ·rcases jk hv with ⟨j,u,rfl,rfl⟩ | ⟨y,u,rfl,rfl⟩
   ·rw [Ta] at h;exact wpAny_eqBool_int h
   ·rw [Tc] at h;exact SeqAt.EqAt.int_str i t y u _ _ _ _ h
  ·rcases jk hv with ⟨j,u,rfl,rfl⟩ | ⟨y,u,rfl,rfl⟩
   ·rw [Te] at h;exact SeqAt.EqAt.str_int x t j u _ _ _ _ h
   ·rw [Tb] at h;exact wpAny_eqBool_str h
 «strs»:=fun k x t v h=>by
  rcases jk h with ⟨i,u,rfl,e⟩ | ⟨y,u,rfl,e⟩
  ·exact nomatch e
  ·injection e with e1 _
   subst e1
   cases v<;>rfl
theorem D2 (prog:Program)(w:World)(i:Int)(t:Tok):(gS prog w).is (.inl i) (.int i t)=true:=JL i t
theorem rS (prog:Program)(w:World)(x:Str)(t:Tok):(gS prog w).is (.inr x) (.str x t)=true:=JM x t
end L2
variable  {xs:List (List L2.Key×PySem.Addr×PySem.Value)}
namespace L2
open PySem PySem.Spec PyProof.Rows
inductive V where
 | lJ|bl (b:Bool)|int (i:Int)|str (x:Str)|VT (b:Array UInt8)|Ze (b:UInt64)|ref (a:Addr)|ty (n:String)
 deriving DecidableEq
def gH:V->Value->Prop
 | .lJ,u=>u=Value.none
 | .bl b,u=>u=Value.bool b
 | .int i,u=>∃ t,u=Value.int i t
 | .str x,u=>∃ t,u=Value.str x t
 | .VT b,u=>∃ t,u=Value.bytes b t
 | .Ze b,u=>∃ t,u=Value.float b t
 | .ref a,u=>u=Value.ref a
 | .ty n,u=>u=Value.type n
abbrev gE:List V->List Value->Prop:=Paired gH
theorem gE.length {xs:List V}{us:Lw}(r:gE xs us):xs.length=us.length:=eJ r
theorem gE.get:∀ {xs:List V}{us:Lw}{i:Nat}{x:V},gE xs us->xs[i]?=some x->∃ u,us[i]?=some u/\gH x u
 | _,_,_,_,.nil,e=>by simp at e
 | _,_,0,_,.cons r _,e=>by simp at e;subst e;exact⟨_,rfl,r⟩
 | _,_,i+1,x,.cons _ t,e=>by
  obtain⟨u,h1,h2⟩:=gE.get (i:=i) (x:=x) t (by simpa using e)
  exact⟨u,by simpa using h1,h2⟩
theorem gE.set {x:V}{u:Value}(r:gH x u):∀ {xs:List V}{us:Lw} (i:Nat),gE xs us->gE (xs.set i x) (us.set i u)
 | _,_,_,.nil=>.nil
 | _,_,0,.cons _ t=>.cons r t
 | _,_,i+1,.cons q t=>.cons q (gE.set r i t)
theorem gE.append:∀ {xs ys:List V}{us ws:Lw},gE xs us->gE ys ws->gE (xs++ys) (us++ws)
 | _,_,_,_,.nil,s=>s
 | _,_,_,_,.cons r t,s=>.cons r (gE.append t s)
theorem gE.take:∀ {xs:List V}{us:Lw} (n:Nat),gE xs us->gE (xs.take n) (us.take n)
 | _,_,0,_=>.nil
 | _,_,_+1,.nil=>.nil
 | _,_,n+1,.cons r t=>.cons r (gE.take n t)
theorem gE.drop:∀ {xs:List V}{us:Lw} (n:Nat),gE xs us->gE (xs.drop n) (us.drop n)
 | _,_,0,r=>r
 | _,_,_+1,.nil=>.nil
 | _,_,n+1,.cons _ t=>gE.drop n t
def rK:Option V->Ow->Prop
 | some v,some u=>gH v u
 | none,none=>True
 | _,_=>False
def KV {κ:Type}:List (κ×V)->List (κ×Value)->Prop:=Paired fun (p:κ×V) (q:κ×Value)=>p.1=q.1/\gH p.2 q.2
def kV:Key->V
 | .inl i=>.int i
 | .inr x=>.str x
inductive HO where
 | lst (xs:List V)
 | tup (xs:List V)
 | dK (fE:List (Key×V))|dT (fE:List (List Key×V))
 | set (S:Int->Bool) (n:Nat)
 | ins (C dx:Addr) (fs:List (Str×V))
 | own (x:Addr)
 | xd (fs:List (Str×V))
 | met (f x:Addr)
 | VU (lo hi:Int)
 | Ly (o:Obj) (u:HO)
 | RX (ps:Array Value)
 | ext (φ:Heap->Prop)
abbrev Hp:=Addr->Option HO
def upd (H:Hp)(a:Addr)(o:HO):Hp:=fun b=>if b=a then some o else H b
theorem gp {H:Hp}{o:HO}:upd H a o a=some o:=by unfold upd;rw [ai rfl]
theorem fU {H:Hp}{b:Addr}{o:HO}(h:b≠a):upd H a o b=H b:=by unfold upd;rw [ao h]
theorem Ws {H:Hp}{b:Addr}{o u:HO}(h:H a=some o)(h':H b=some u)(d:o≠u):a≠b:=by
 intro e;subst e;rw [h] at h';exact d (bF h')
theorem gP {H:Hp}{b:Addr}{o:HO}(h:H a=some o)(h':H b=none):a≠b:=by
 intro e;subst e;rw [h] at h';cases h'
section
variable (P:Program) (w:World)
def j9 (H:Hp)(h:Heap)(a:Addr):HO->Prop
 | .lst xs=>xs.length<=sizeLine/\∃ (its:Lw) (n:Nat),gE xs its/\h.get? a=some (zl its.toArray n)
 | .tup xs=>xs.length<=sizeLine/\∃ its:Lw,gE xs its/\IsTup h a its.toArray
 | .dK fE=>fE.length<=sizeLine/\(a==sysModules)=false/\∃ vs,KV fE vs/\h.DictOf (gS P w) a vs
 | .dT fE=>fE.length<=sizeLine/\(a==sysModules)=false/\∃ xs:List (List Key×Addr×Value),
   Paired (fun (p:List Key×V) (q:List Key×Addr×Value)=>p.1=q.1/\H q.2.1=some (.tup (p.1.map kV))/\gH p.2 q.2.2) fE xs /\
   ∃ o es ep,h.get? a=some o/\o.ExactDict/\o.data=.dict es ep/\es.toList=xs.map (entryOfKey (tupleKind (gS P w)))/\(xs.map (·.1)).Nodup
 | .set S n=>h.SetOf (intKind P w) a S n
 | .ins C dx fs=>H dx=some (.own a)/\fs.length<=1000/\dx≠a/\h.get? a=some (W.instObj C dx) /\
   ∃ mA,h.Ns1 dx mA/\(∀ f,rK (fs.lookup f) (mA f))/\PySem.Within mA (fs.map (·.1))
 | .own _=>∃ o,h.get? a=some o
 | .xd fs=>∃ mA,h.Ns1 a mA/\∀ f,rK (fs.lookup f) (mA f)
 | .VU lo hi=>∃ t u v,h.get? a=some { cls:=.type "range",data:=.fields #[.int lo t,.int hi u,.int 1 v] }
 | .Ly o u=>h.get? a=some o/\j9 H h a u
 | .RX ps=>h.get? a=some { cls:=.none,data:=.fields ps }
 | .met f x=>h.get? a=some (W.methodObj (.ref f) (.ref x))
 | .ext φ=>φ h/\(∃ o,h.get? a=some o)/\∀ h1 h2:Heap,φ h1->(∀ o,h1.get? a=some o->h2.get? a=some o)->φ h2
def um (H:Hp)(h:Heap):Prop:=∀ a o,H a=some o->j9 P w H h a o
end
section
variable {P:Program}{H H':Hp}{h h':Heap}{o:HO}
theorem j9.lt (x:j9 P w H h a o):a<h.objs.size:=by
 cases o with
 | lst xs=>obtain⟨_,_,_,_,e⟩:=x;exact ay e
 | tup xs=>obtain⟨_,_,_,p⟩:=x;exact p.lt
 | dK fE=>obtain⟨_,_,_,_,o,_,_,e,_⟩:=x;exact ay e
 | dT fE=>obtain⟨_,_,_,_,o,_,_,e,_⟩:=x;exact ay e
 | set S n=>obtain⟨o,_,_,_,e,_⟩:=x;exact ay e
 | ins C dx fs=>obtain⟨_,_,_,e,_⟩:=x;exact ay e
 | own y=>obtain⟨_,e⟩:=x;exact ay e
 | xd fs=>obtain⟨_,⟨_,_,_,e,_⟩,_⟩:=x;exact ay e
 | VU lo hi=>obtain⟨_,_,_,e⟩:=x;exact ay e
 | Ly ob u=>obtain⟨e,_⟩:=x;exact ay e
 | RX ps=>exact ay (show h.get? a=some _ from x)
 | met f y=>exact ay (show h.get? a=some _ from x)
 | ext φ=>obtain⟨_,⟨_,e⟩,_⟩:=x;exact ay e
theorem Paired.Tf {α β:Type}{F G:α->β->Prop}:∀ {l₁:List α}{l₂:List β},Paired F l₁ l₂->(∀ a b,F a b->G a b)->Paired G l₁ l₂
 | _,_,.nil,_=>.nil
 | _,_,.cons r t,f=>.cons (f _ _ r) (Paired.Tf t f)
theorem j9.xn (x:j9 P w H h a o) (k:∀ b u,(b=a∨H b=some (.own a))->h.get? b=some u->h'.get? b=some u)
  (ho:∀ b,H b=some (.own a)->H' b=some (.own a)) (ht:∀ b xs,H b=some (.tup xs)->H' b=some (.tup xs)):j9 P w H' h' a o:=by
 induction o with
 | lst xs=>obtain⟨z,its,n,r,e⟩:=x;exact⟨z,its,n,r,k _ _ (.inl rfl) e⟩
 | tup xs=>obtain⟨z,its,r,ob,e,c⟩:=x;exact⟨z,its,r,ob,k _ _ (.inl rfl) e,c⟩
 | dK fE=>obtain⟨z,y,vs,r,ob,es,ep,e,c⟩:=x;exact⟨z,y,vs,r,ob,es,ep,k _ _ (.inl rfl) e,c⟩
 | dT fE =>
  obtain⟨z,y,xs,r,ob,es,ep,e,c⟩:=x
  exact⟨z,y,xs,Paired.Tf r fun p q z=>⟨z.1,ht _ _ z.2.1,z.2.2⟩,ob,es,ep,k _ _ (.inl rfl) e,c⟩
 | set S n=>obtain⟨ob,es,ep,t,e,c⟩:=x;exact⟨ob,es,ep,t,k _ _ (.inl rfl) e,c⟩
 | ins C dx fs =>
  obtain⟨d,z,ne,e,mA,⟨od,es,ep,e2,c⟩,r⟩:=x
  exact⟨ho _ d,z,ne,k _ _ (.inl rfl) e,mA,⟨od,es,ep,k _ _ (.inr d) e2,c⟩,r⟩
 | own y=>obtain⟨ob,e⟩:=x;exact⟨ob,k _ _ (.inl rfl) e⟩
 | xd fs=>obtain⟨mA,⟨od,es,ep,e,c⟩,r⟩:=x;exact⟨mA,⟨od,es,ep,k _ _ (.inl rfl) e,c⟩,r⟩
 | VU lo hi=>obtain⟨t,u,v,e⟩:=x;exact⟨t,u,v,k _ _ (.inl rfl) e⟩
 | Ly ob u ih=>obtain⟨e,q⟩:=x;exact⟨k _ _ (.inl rfl) e,ih q⟩
 | RX ps =>
  have e:h.get? a=some { cls:=.none,data:=.fields ps }:=x
  show h'.get? a=some { cls:=.none,data:=.fields ps }
  exact k a _ (.inl rfl) e
 | met f y =>
  have e:h.get? a=some (W.methodObj (.ref f) (.ref y)):=x
  show h'.get? a=some (W.methodObj (.ref f) (.ref y))
  exact k a _ (.inl rfl) e
 | ext φ=>obtain⟨p,⟨o,e⟩,st⟩:=x;exact⟨st _ _ p fun o q=>k _ _ (.inl rfl) q,⟨o,k _ _ (.inl rfl) e⟩,st⟩
theorem um.lt (x:um P w H h)(e:H a=some o):a<h.objs.size:=(x a o e).lt
theorem um.fresh (x:um P w H h)(e:h.objs.size<=a):H a=none:=by
 cases q:H a with
 | none=>rfl
 | some u=>exact absurd (aG (x.lt q) e) (a7 _)
theorem um.kept (x:um P w H h)(k:∀ b u,h.get? b=some u->h'.get? b=some u):um P w H h':=fun a o e =>
 (x a o e).xn (fun b u _ q=>k b u q) (fun _ q=>q) fun _ _ q=>q
theorem um.laid (x:um P w H h)(k:∀ b u,h.get? b=some u->h'.get? b=some u)(hp:h.objs.size<=a)(new:j9 P w (upd H a o) h' a o):um P w (upd H a o) h':=fun b u e=>by
 have hn:=x.fresh hp
 by_cases hb:b=a
 ·subst hb;rw [gp] at e;cases e;exact new
 ·rw [fU hb] at e
  exact(x b u e).xn (fun c v _ q=>k c v q) (fun c q=>by rw [fU (gP q hn)];exact q) fun c xs q=>by rw [fU (gP q hn)];exact q
end
def Rd (H:Hp)(a:Addr)(u:HO):Prop:=H a=some u∨∃ o,H a=some (.Ly o u)
theorem Rd.ok {P:Program}{H:Hp}{h:Heap}{u:HO}(r:Rd H a u)(x:um P w H h):j9 P w H h a u:=by
 rcases r with r | ⟨o,r⟩
 ·exact x a u r
 ·obtain⟨_,q⟩:=x a _ r
  exact q
def Wt:Option HO->Prop
 | some (.lst _)=>True
 | some (.dK _)=>True
 | some (.dT _)=>True
 | some (.set _ _)=>True
 | some (.ins _ _ _)=>True
 | some (.ext _)=>True
 | _=>False
section
variable {P:Program}{H:Hp}{h h':Heap}{x e:Addr}{o':HO}
theorem um.write (ok:um P w H h) (mu:Wt (H x)) (he:e=x∨H e=some (.own x)) (k:∀ b u,b≠e->h.get? b=some u->h'.get? b=some u) (RY:∃ u,h'.get? e=some u)
  (new:j9 P w (upd H x o') h' x o'):um P w (upd H x o') h':=fun b u q=>by
 have ON:∀ c y,H c=some (.own y)->c≠x:=fun c y r z=>by subst z;rw [r] at mu;exact mu
 have OO:∀ c xs,H c=some (.tup xs)->c≠x:=fun c xs r z=>by subst z;rw [r] at mu;exact mu
 by_cases hb:b=x
 ·subst hb;rw [gp] at q;cases q;exact new
 ·rw [fU hb] at q
  by_cases Th:b=e
  ·have q':H b=some (.own x):=by
    rcases he with z|z
    ·exact absurd (Th.trans z) hb
    ·rw [Th];exact z
   rw [q] at q';cases q'
   obtain⟨v,hv⟩:=RY
   exact⟨v,by rw [Th];exact hv⟩
  ·refine(ok b u q).xn (fun c v hc r=>k c v ?_ r) (fun c r=>by rw [fU (ON c b r)];exact r) fun c xs r=>by rw [fU (OO c xs r)];exact r
   rcases hc with rfl|hc
   ·exact Th
   ·rintro rfl
    rcases he with z|z
    ·exact ON c b hc z
    ·rw [hc] at z;cases z;exact hb rfl
end
structure Un (fs ex:List Addr) (H H':Hp) (h h':Heap):Prop where
 keep:∀ b o,h.get? b=some o->H b=none->b∉fs->b∉ex->h'.get? b=some o
 slot:∀ b o,h.get? b=some o->H b=none->b∈fs->b∉ex->∃ sl,h'.get? b=some { o with slots:=sl }
 free:∀ b o,h.get? b=some o->H b=none->b∉ex->H' b=none
 there:∀ b o,h.get? b=some o->b∉ex->∃ o',h'.get? b=some o'
 rT:∀ b xs,H b=some (.tup xs)->H' b=some (.tup xs)
 uo:∀ b o u,H b=some (.Ly o u)->H' b=some (.Ly o u)
 vP:∀ b ps,H b=some (.RX ps)->∃ more,H' b=some (.RX (ps++more))
section
variable {fs Ak ex ex':List Addr}{H H1 H2:Hp}{h h1 h2 h':Heap}{x e:Addr}{o:HO}
theorem Un.any (u:Un fs ex H H1 h h1){b:Addr}{ob:Obj}(q:h.get? b=some ob)(n:H b=none)(hx:b∉ex):∃ sl,h1.get? b=some { ob with slots:=sl }:=by
 by_cases hb:b∈fs
 ·exact u.slot b ob q n hb hx
 ·exact⟨ob.slots,u.keep b ob q n hb hx⟩
theorem Un.kept (k:∀ b u,h.get? b=some u->h'.get? b=some u):Un fs ex H H h h' :=
 ⟨fun b ob q _ _ _=>k b ob q,fun b ob q _ _ _=>⟨ob.slots,k b ob q⟩,fun _ _ _ n _=>n,fun b ob q _=>⟨ob,k b ob q⟩,fun _ _ q=>q,fun _ _ _ q=>q,fun _ ps q=>⟨#[],by rw [q];simp⟩⟩
theorem Un.refl:Un fs ex H H h h:=Un.kept fun _ _ q=>q
theorem Un.laid (k:∀ b u,h.get? b=some u->h'.get? b=some u)(hp:h.objs.size<=a)(hn:H a=none):Un fs ex H (upd H a o) h h' where
 keep:=fun b u q _ _ _=>k b u q
 slot:=fun b u q _ _ _=>⟨u.slots,k b u q⟩
 free:=fun b u q n _=>by rw [fU (aP (aG (ay q) hp))];exact n
 there:=fun b u q _=>⟨u,k b u q⟩
 rT:=fun b xs q=>by rw [fU (gP q hn)];exact q
 uo:=fun b u xs q=>by rw [fU (gP q hn)];exact q
 vP:=fun b ps q=>⟨#[],by rw [fU (gP q hn),q];simp⟩
theorem Un.write (mu:Wt (H x))(he:e=x∨H e=some (.own x))(k:∀ b u,b≠e->h.get? b=some u->h'.get? b=some u)(RY:∃ u,h'.get? e=some u):Un fs ex H (upd H x o) h h':=by
 have hx:∀ b,H b=none->b≠x:=fun b n z=>by subst z;rw [n] at mu;exact mu
 have hb:∀ b,H b=none->b≠e:=fun b n z=>by
  subst z
  rcases he with r|r
  ·exact hx b n r
  ·rw [n] at r;cases r
 have hm:∀ b u,H b=some u->¬ Wt (some u)->b≠x:=fun b u q nm z=>by subst z;rw [q] at mu;exact nm mu
 refine⟨fun b u q n _ _=>k b u (hb b n) q,fun b u q n _ _=>⟨u.slots,k b u (hb b n) q⟩,fun b u q n _=>by rw [fU (hx b n)];exact n,fun b u q _=>?_,
  fun b xs q=>by rw [fU (hm b _ q fun z=>z)];exact q,fun b u xs q=>by rw [fU (hm b _ q fun z=>z)];exact q,fun b ps q=>⟨#[],by rw [fU (hm b _ q fun z=>z),q];simp⟩⟩
 by_cases Th:b=e
 ·subst Th;exact RY
 ·exact⟨u,k b u Th q⟩
end
def Zf (h:Heap)(H:Hp):List Addr:=(List.range h.objs.size).filter fun a=>(H a).isSome
def Ca (h:Heap)(H:Hp):Heap:=W.hideAll h (Zf h H)
theorem JN (h:Heap)(H:Hp):(Ca h H).objs.size=h.objs.size:=W.hideAll_size _ _
theorem Lz {h:Heap}{H:Hp}{b:Addr}{o:Obj}(e:h.get? b=some o)(n:H b=none):(Ca h H).get? b=some o :=
 W.hideAll_get _ e fun hm=>by
  have q:(H b).isSome=true:=(bX.mp hm).2
  rw [n] at q;simp at q
theorem OP {h:Heap}{H:Hp}{b:Addr}{o:Obj}(e:(Ca h H).get? b=some o):h.get? b=some o/\H b=none:=by
 have e':h.get? b=some o:=W.of_hideAll (Zf h H) e
 refine⟨e',?_⟩
 cases q:H b with
 | none=>rfl
 | some x =>
  have hm:b∈Zf h H:=bX.mpr ⟨List.mem_range.mpr (ay e'),by simp [q]⟩
  have z:(Ca h H).get? b=none:=W.hideAll_none (Zf h H) hm
  rw [z] at e;cases e
def OQ (g h:Heap)(L:Addr):Ax:=(List.range h.objs.size).filterMap fun a=>if a=L∨(g.get? a).isSome=true then none else (h.get? a).map fun o=>(a,o)
def rest (g h:Heap)(L d:Addr):Ax:=(OQ g h L).filter fun p=>decide (p.1≠d)
end L2
variable  {H G:L2.Hp}{v:L2.V}{vs:List L2.V}{B:List (PySem.Addr×L2.HO)}
namespace L2
open PySem PySem.Spec PyProof.Rows
structure Mod (K:Fg) (mg:Str->Ow) (base:Heap):Prop where
 Wu:K.In base
 glob:base.Ns mainGlobals mg
 blt:∃ mb,base.Ns builtinsNs mb/\∀ x:Str,x≠"__name__"->mb x=bootBuiltins x
 nolimit:base.NoLimit
structure Cx where
 prog:Program
 w:World
 K:Fg
 mg:Str->Ow
 base:Heap
 A:Around
 N:Lr
 s₀:Shared
 H₀:Hp
 env:Env
 outer:List Env
 stack:List Env
 ex:List Addr
 fn:Str->Bool
 calm:Bool
 pn:Ax
 xe:Px
def Ga (l:List Env):List Addr:=l.filterMap (·.frame)
abbrev Cx.fs (X:Cx):List Addr:=Ga X.outer
def LA (sc:Scope)(x:Str):Prop:=sc.names.lookup x=some .local∨sc.names.lookup x=some .cell∨sc.names.lookup x=some .free
def Gg (sc:Scope)(x:Str):Prop:=sc.names.lookup x=some .local∨sc.names.lookup x=some .cell
def aaa (env:Env)(h:Heap)(m:Str->Ow)(x:Str)(u:Value):Prop :=
 (env.kindOf x=some .local/\m x=some u)∨((env.kindOf x=some .cell∨env.kindOf x=some .free)/\∃ c,env.cells.lookup x=some c/\h.IsCell c (some u))
structure Cx.Ok (X:Cx):Prop where
 mod:Mod X.K X.mg X.base
 kind:X.env.scope.kind=.function
 glob:X.env.globals=mainGlobals
 blt:X.env.builtins=builtinsNs
 above:(zB X.s₀)<=X.env.locals
 inj:∀ x y c,X.env.cells.lookup x=some c->X.env.cells.lookup y=some c->x=y
 has:∀ x,(X.env.kindOf x=some .cell∨X.env.kindOf x=some .free)->∃ c,X.env.cells.lookup x=some c
 Wv:∀ x c,X.fn x=true->X.env.cells.lookup x=some c->(zB X.s₀)<=c
 hd:X.calm=true->X.A.handled=none
 frames:X.A.frames=some X.stack
 Ww:X.stack=X.outer∨(X.stack=X.env::X.outer/\X.env.frame=some X.env.locals)
 exf:∀ b∈X.ex,b≠X.env.locals/\∀ x c,X.env.cells.lookup x=some c->c≠b
 bs:∀ b o,X.base.get? b=some o->X.s₀.heap.get? b=some o/\X.H₀ b=none
 RZ:X.base.objs.size<=(zB X.s₀)
 LB:∀ b o,X.base.get? b=some o->b∉X.ex
 Gh:∀ b∈X.ex,b∉X.fs
 uq:X.s₀.heap.FunFrames X.base X.outer
 LC:∀ b∈X.fs,X.H₀ b=none
structure fW (X:Cx) (pins:Ax) (σ:List (Option V)) (H:Hp) (s:Shared):Prop where
 ok:X.Ok
 os:s.os=X.s₀.os
 bare:AllBare s.gens
 base:Un X.fs X.ex X.H₀ H X.s₀.heap s.heap
 loc:∃ m,s.heap.Ns X.env.locals m/\∀ (i:Nat) (x:Str) (v:V),X.N[i]?=some x->σ[i]?=some (some v)->LA X.env.scope x->∃ u,gH v u/\aaa X.env s.heap m x u
 cell:∀ x c,X.env.cells.lookup x=some c->∃ v,s.heap.IsCell c v
 free:H X.env.locals=none
 pH:∀ x c,X.env.cells.lookup x=some c->H c=none
 pin:∀ p∈X.pn++pins,s.heap.get? p.1=some p.2/\H p.1=none/\p.1≠X.env.locals/\p.1∉X.fs/\∀ v,p.2.data≠.cell v
 jd:um X.prog X.w H s.heap
 len:σ.length=X.N.length
section
variable {X:Cx}{σ:List (Option V)}{H':Hp}{h':Heap}
theorem Cx.Ok.aab (ok:X.Ok){b:Addr}{o:Obj}(e:X.base.get? b=some o):b∉X.fs:=fun hb=>by
 have:=(ok.uq.mem hb).1
 rw [e] at this;cases this
theorem fW.bs (I:fW X pins σ H s):∀ b o,X.base.get? b=some o->s.heap.get? b=some o/\H b=none:=fun b o e =>
 ⟨I.base.keep b o (I.ok.bs b o e).1 (I.ok.bs b o e).2 (I.ok.aab e) (I.ok.LB b o e),I.base.free b o (I.ok.bs b o e).1 (I.ok.bs b o e).2 (I.ok.LB b o e)⟩
theorem fW.bk (I:fW X pins σ H s):∀ b o,X.base.get? b=some o->s.heap.get? b=some o:=fun b o e=>(I.bs b o e).1
theorem fW.mod (I:fW X pins σ H s):Mod X.K X.mg X.base:=I.ok.mod
theorem fW.xo (I:fW X pins σ H s):X.K.In s.heap:=I.ok.mod.Wu.keeps I.bk
theorem fW.lt (I:fW X pins σ H s):X.env.locals<(zB s):=let ⟨_,hn,_⟩:=I.loc;hn.lt
theorem fW.sz (I:fW X pins σ H s):(zB X.s₀)<=(zB s):=bH I.ok.above (dY I.lt)
theorem fW.aac (I:fW X pins σ H s)(h:(zB s)<=a):a∉X.fs:=fun hb=>by
 obtain⟨_,o,ho,_⟩:=I.ok.uq.mem hb
 exact absurd (aG (ay ho) (bH I.sz h)) (a7 _)
theorem fW.Ti (I:fW X pins σ H s):∀ x c,X.env.cells.lookup x=some c->c≠X.env.locals:=fun x c e z=>by
 obtain⟨v,o,ho,hd⟩:=I.cell x c e
 obtain⟨m,⟨o',es,ep,LD,LF,_⟩,_⟩:=I.loc
 rw [z,LD] at ho;cases ho;rw [LF] at hd;cases hd
theorem fW.uq (I:fW X pins σ H s):s.heap.FunFrames X.base X.outer:=by
 have all:∀ (l:List Env),(∀ b∈Ga l,b∈X.fs)->X.s₀.heap.FunFrames X.base l->s.heap.FunFrames X.base l:=by
  intro l
  induction l with
  | nil=>intro _ _;trivial
  | cons env r ih =>
   intro hs hl
   obtain⟨hk,⟨L,o,hf,hn,ho,hd⟩,hr⟩:=hl
   have hL:L∈X.fs:=hs L (by unfold Ga;rw [cx,hf];exact aT)
   obtain⟨sl,e⟩:=I.base.slot L o ho (I.ok.LC L hL) hL fun z=>I.ok.Gh L z hL
   exact⟨hk,⟨L,_,hf,hn,e,hd⟩,ih (fun b hb=>hs b (by unfold Ga;rw [cx,hf];exact af _ hb)) hr⟩
 exact all X.outer (fun _ hb=>hb) I.ok.uq
theorem fW.stack (I:fW X pins σ H s):s.heap.FunFrames X.base X.stack:=by
 rcases I.ok.Ww with e | ⟨e,hf⟩
 ·rw [e];exact I.uq
 ·rw [e]
  obtain⟨m,hn,_⟩:=I.loc
  refine .cons (by rw [I.ok.kind];decide) hf hn ?_ I.uq
  exact Heap.get?_none_of_le (bH I.ok.RZ I.ok.above)
theorem fW.Cb (I:fW X pins σ H s):∀ b∈Ga X.stack,b∈X.env.locals::X.fs:=fun b hb=>by
 rcases I.ok.Ww with e | ⟨e,hf⟩
 ·rw [e] at hb;exact af _ hb
 ·rw [e] at hb
  unfold Ga at hb
  rw [cx,hf] at hb
  exact hb
theorem fW.Iw (I:fW X pins σ H s):∀ b∈Ga X.stack,H b=none:=fun b hb=>by
 rcases ah.mp (I.Cb b hb) with e|hb
 ·rw [e];exact I.free
 ·obtain⟨_,o,ho,_⟩:=I.ok.uq.mem hb
  exact I.base.free b o ho (I.ok.LC b hb) fun z=>I.ok.Gh b z hb
theorem fW.step {g':Array GenState}{t':Nat}{d':Drawn}{ch:List Addr} (I:fW X pins σ H s)
  (Oy:∀ b∈ch,(b∈X.ex∨(zB X.s₀)<=b)/\b≠X.env.locals/\(∀ x c,X.env.cells.lookup x=some c->c≠b)/\∀ p∈X.pn++pins,p.1≠b)
  (keep:∀ b o,b≠X.env.locals->b∉X.fs->b∉ch->s.heap.get? b=some o->H b=none->h'.get? b=some o)
  (slot:∀ b o,b≠X.env.locals->b∈X.fs->b∉ch->s.heap.get? b=some o->H b=none->∃ sl,h'.get? b=some { o with slots:=sl }) (free:∀ b o,b∉ch->s.heap.get? b=some o->H b=none->H' b=none)
  (there:∀ b o,b∉ch->s.heap.get? b=some o->∃ o',h'.get? b=some o')
  (rT:∀ b xs,H b=some (.tup xs)->H' b=some (.tup xs)) (uo:∀ b o u,H b=some (.Ly o u)->H' b=some (.Ly o u)) (vP:∀ b ps,H b=some (.RX ps)->∃ more,H' b=some (.RX (ps++more)))
  (ns:∀ m,s.heap.Ns X.env.locals m->h'.Ns X.env.locals m) (jd:um X.prog X.w H' h') (hg:AllBare g') :
  fW X pins σ H' { s with heap:=h',gens:=g',drawn:=d',toks:=t' }:=by
 have neL:∀ b o,X.s₀.heap.get? b=some o->b≠X.env.locals:=fun b o e=>aP (aG (ay e) I.ok.above)
 have Zg:∀ b o,X.s₀.heap.get? b=some o->b∉X.ex->b∉ch:=fun b o e hx hb=>by
  rcases(Oy b hb).1 with z|z
  ·exact hx z
  ·exact absurd (aG (ay e) z) (a7 _)
 have cellK:∀ x c,X.env.cells.lookup x=some c->∀ v,s.heap.IsCell c v->h'.IsCell c v:=fun x c e v ⟨o,ho,hd⟩=>by
  have Wx:c∉ch:=fun z=>(Oy c z).2.2.1 x c e rfl
  by_cases hc:c∈X.fs
  ·obtain⟨sl,q⟩:=slot c o (I.Ti x c e) hc Wx ho (I.pH x c e)
   exact⟨_,q,hd⟩
  ·exact⟨o,keep c o (I.Ti x c e) hc Wx ho (I.pH x c e),hd⟩
 refine⟨I.ok,I.os,hg,⟨fun b o e n hb hx=>?_,fun b o e n hb hx=>?_,fun b o e n hx=>?_,fun b o e hx=>?_,fun b xs e=>rT b xs (I.base.rT b xs e),fun b o xs e=>uo b o xs (I.base.uo b o xs e),fun b ps e=>?_⟩,?_,fun x c e=>?_,?_,fun x c e=>?_,fun p hp=>?_,jd,I.len⟩
 ·exact keep b o (neL b o e) hb (Zg b o e hx) (I.base.keep b o e n hb hx) (I.base.free b o e n hx)
 ·obtain⟨sl,e1⟩:=I.base.slot b o e n hb hx
  obtain⟨sl',e2⟩:=slot b _ (neL b o e) hb (Zg b o e hx) e1 (I.base.free b o e n hx)
  exact⟨sl',e2⟩
 ·obtain⟨o',e1⟩:=I.base.there b o e hx
  exact free b o' (Zg b o e hx) e1 (I.base.free b o e n hx)
 ·obtain⟨o',e1⟩:=I.base.there b o e hx
  exact there b o' (Zg b o e hx) e1
 ·obtain⟨m1,e1⟩:=I.base.vP b ps e
  obtain⟨m2,e2⟩:=vP b _ e1
  exact⟨m1++m2,by rw [e2,Array.append_assoc]⟩
 ·obtain⟨m,hn,hl⟩:=I.loc
  refine⟨m,ns m hn,fun i x v e1 e2 e3=>?_⟩
  obtain⟨u,r,l⟩:=hl i x v e1 e2 e3
  refine⟨u,r,?_⟩
  rcases l with l | ⟨k,c,e,z⟩
  ·exact .inl l
  ·exact .inr ⟨k,c,e,cellK x c e _ z⟩
 ·obtain⟨v,z⟩:=I.cell x c e
  exact⟨v,cellK x c e v z⟩
 ·obtain⟨m,⟨o,_,_,ho,_⟩,_⟩:=I.loc
  exact free _ o (fun z=>(Oy _ z).2.1 rfl) ho I.free
 ·obtain⟨v,o,ho,hd⟩:=I.cell x c e
  exact free c o (fun z=>(Oy c z).2.2.1 x c e rfl) ho (I.pH x c e)
 ·obtain⟨e,n,ne,nf,d⟩:=I.pin p hp
  have Wx:p.1∉ch:=fun z=>(Oy p.1 z).2.2.2 p hp rfl
  exact⟨keep p.1 p.2 ne nf Wx e n,free p.1 p.2 Wx e n,ne,nf,d⟩
theorem fW.un {t':Nat}(I:fW X pins σ H s)(u:Un X.fs [] H H' s.heap h')(jd:um X.prog X.w H' h'):fW X pins σ H' { s with heap:=h',toks:=t' }:=by
 obtain⟨m,⟨o,es,ep,ho,r⟩,_⟩:=id I.loc
 obtain⟨sl,hL⟩:=u.any ho I.free (by simp)
 exact I.step (g':=s.gens) (d':=s.drawn) (ch:=[]) (fun _ z=>nomatch z) (fun b o _ hb _ e n=>u.keep b o e n hb (by simp)) (fun b o _ hb _ e n=>u.slot b o e n hb (by simp)) (fun b o _ e n=>u.free b o e n (by simp)) (fun b o _ e=>u.there b o e (by simp)) u.rT u.uo u.vP (fun m' hm=>by
  obtain⟨o',Wy,ep',LD,r'⟩:=hm
  rw [ho] at LD;cases LD
  exact⟨_,Wy,ep',hL,r'⟩) jd I.bare
theorem fW.call {g':Array GenState}{t':Nat}{d':Drawn}{ch:List Addr} (I:fW X pins σ H s) (u:Un (Ga X.stack) ch H H' s.heap h') (jd:um X.prog X.w H' h') (hg:AllBare g')
  (Oy:∀ b∈ch,(b∈X.ex∨(zB X.s₀)<=b)/\b≠X.env.locals/\(∀ x c,X.env.cells.lookup x=some c->c≠b)/\∀ p∈X.pn++pins,p.1≠b) :
  fW X pins σ H' { s with heap:=h',gens:=g',drawn:=d',toks:=t' }:=by
 obtain⟨m,⟨o,es,ep,ho,r⟩,_⟩:=id I.loc
 obtain⟨sl,hL⟩:=u.any ho I.free fun z=>(Oy _ z).2.1 rfl
 exact I.step (ch:=ch) Oy (fun b o hL hb hc e n=>u.keep b o e n (fun z=>(ah.mp (I.Cb b z)).elim hL hb) hc) (fun b o _ _ hc e n=>u.any e n hc) (fun b o hc e n=>u.free b o e n hc) (fun b o hc e=>u.there b o e hc) u.rT u.uo u.vP (fun m' hm=>by
  obtain⟨o',Wy,ep',LD,r'⟩:=hm
  rw [ho] at LD;cases LD
  exact⟨_,Wy,ep',hL,r'⟩) jd hg
theorem fW.turned {t':Nat}{it:Addr} (I:fW X pins σ H s) (k:∀ b o,b≠it->s.heap.get? b=some o->h'.get? b=some o) (hn:H it=none) (hL:it≠X.env.locals)
  (h1:it∈X.ex∨(zB X.s₀)<=it) (h2:∀ x c,X.env.cells.lookup x=some c->c≠it) (h3:∀ p∈X.pn++pins,p.1≠it):fW X pins σ H { s with heap:=h',toks:=t' }:=by
 have nit:∀ b u,H b=some u->b≠it:=fun b u e z=>by rw [z,hn] at e;cases e
 refine I.step (g':=s.gens) (d':=s.drawn) (ch:=[it]) (fun b hb=>?_) (fun b o _ _ hc e _=>k b o (fun z=>hc (by simp [z])) e) (fun b o _ _ hc e _=>⟨o.slots,k b o (fun z=>hc (by simp [z])) e⟩) (fun _ _ _ _ n=>n)
  (fun b o hc e=>⟨o,k b o (fun z=>hc (by simp [z])) e⟩) (fun _ _ e=>e) (fun _ _ _ e=>e) (fun b ps e=>⟨#[],by rw [e];simp⟩) (fun m hm=>?_) (fun b u e=>?_) I.bare
 ·have e:b=it:=by simpa using hb
  subst e
  exact⟨h1,hL,h2,h3⟩
 ·obtain⟨o,es,ep,ho,r⟩:=hm
  exact⟨o,es,ep,k _ o (Ne.symm hL) ho,r⟩
 ·refine(I.jd b u e).xn (fun c v hc q=>k c v ?_ q) (fun _ q=>q) fun _ _ q=>q
  rcases hc with z|z
  ·rw [z];exact nit b u e
  ·exact nit c _ z
theorem fW.tok (I:fW X pins σ H s)(t:Nat):fW X pins σ H { s with toks:=t }:=I.un (h':=s.heap) (t':=t) Un.refl I.jd
theorem fW.kept {t':Nat}(I:fW X pins σ H s)(k:∀ b u,s.heap.get? b=some u->h'.get? b=some u):fW X pins σ H { s with heap:=h',toks:=t' }:=I.un (Un.kept k) (I.jd.kept k)
theorem fW.laid {a:Addr}{o:HO}{t':Nat}(I:fW X pins σ H s)(k:∀ b u,s.heap.get? b=some u->h'.get? b=some u)(hp:(zB s)<=a)(new:j9 X.prog X.w (upd H a o) h' a o) :
  fW X pins σ (upd H a o) { s with heap:=h',toks:=t' }:=I.un (Un.laid k hp (I.jd.fresh hp)) (I.jd.laid k hp new)
theorem fW.write {x e:Addr}{o:HO}{t':Nat} (I:fW X pins σ H s) (mu:Wt (H x)) (he:e=x∨H e=some (.own x)) (k:∀ b u,b≠e->s.heap.get? b=some u->h'.get? b=some u) (RY:∃ u,h'.get? e=some u)
  (new:j9 X.prog X.w (upd H x o) h' x o):fW X pins σ (upd H x o) { s with heap:=h',toks:=t' }:=I.un (Un.write mu he k RY) (I.jd.write mu he k RY new)
theorem fW.qL {R4:Ax}(I:fW X pins σ H s)(h:∀ p∈R4,s.heap.get? p.1=some p.2/\H p.1=none/\p.1≠X.env.locals/\p.1∉X.fs/\∀ v,p.2.data≠.cell v):fW X R4 σ H s :=
 ⟨I.ok,I.os,I.bare,I.base,I.loc,I.cell,I.free,I.pH,fun p hp=>(au.mp hp).elim (fun z=>I.pin p (aA _ z)) (h p),I.jd,I.len⟩
theorem D3 {N:Lr}(hN:N.Nodup){j:Nat}(a:N[i]?=some x)(b:N[j]?=some x):i=j:=by
 obtain⟨h1,e1⟩:=aJ.mp a
 obtain⟨h2,e2⟩:=aJ.mp b
 exact(List.getElem_inj hN).mp (e1.trans e2.symm)
theorem JO {M:Model}{Q:Unit->Shared->Prop} (I:fW X pins σ H s) (hN:X.N.Nodup) (hi:X.N[i]?=some x) (hx:Gg X.env.scope x) (r:gH v u)
  (h:∀ s',fW X pins (σ.set i (some v)) H s'->(∃ a,Heap.SameBut a s.heap s'.heap/\(a=X.env.locals∨X.env.cells.lookup x=some a))->Q () s') (hf:X.fn x=true∨X.env.scope.names.lookup x=some .local:=by first|exact .inl rfl|exact .inr rfl|assumption):wpAny M A (storeName X.env x u) Q E s:=by
 obtain⟨m,hn,hl⟩:=id I.loc
 have aad:(X.env.scope.kind==.class||(X.env.scope.kind==.module&&X.env.locals != X.env.globals))=false:=by rw [I.ok.kind];rfl
 have hiσ:i<σ.length:=by rw [I.len];exact(aJ.mp hi).1
 have Ti:=I.Ti
 have tracked:∀ {a:Addr}{h':Heap},(∃ o,s.heap.get? a=some o/\H a=none)->Heap.SameBut a s.heap h'->um X.prog X.w H h':=fun {a h'} ha hs b ob e=>by
  obtain⟨_,_,R5⟩:=ha
  refine(I.jd b ob e).xn (fun c w' hc q=>(hs.2 c ?_).trans q) (fun _ q=>q) fun _ _ q=>q
  rintro rfl
  rcases hc with rfl|hc
  ·rw [R5] at e;cases e
  ·rw [R5] at hc;cases hc
 rcases hx with hk|hk
 ·refine wpAny_storeName_local hk hn (fun h' Wz hs=>?_) aad
  obtain⟨oL,_,_,hoL,_⟩:=id hn
  refine h _ ⟨I.ok,I.os,I.bare,⟨fun b o e n hb hx=>?_,fun b o e n hb hx=>?_,I.base.free,fun b o e hx=>?_,I.base.rT,I.base.uo,I.base.vP⟩,⟨_,Wz,fun j y v' e1 e2 e3=>?_⟩,fun y c e=>?_,I.free,I.pH,fun p hp=>?_,tracked ⟨oL,hoL,I.free⟩ hs,by simpa using I.len⟩ ⟨_,hs,.inl rfl⟩
  ·exact(hs.2 b (aP (aG (ay e) I.ok.above))).trans (I.base.keep b o e n hb hx)
  ·obtain⟨sl,e1⟩:=I.base.slot b o e n hb hx
   exact⟨sl,(hs.2 b (aP (aG (ay e) I.ok.above))).trans e1⟩
  ·obtain⟨o',e1⟩:=I.base.there b o e hx
   exact⟨o',(hs.2 b (aP (aG (ay e) I.ok.above))).trans e1⟩
  ·by_cases hj:j=i
   ·subst hj
    rw [hi] at e1;cases e1
    rw [aM hiσ] at e2
    cases e2
    exact⟨u,r,.inl ⟨hk,by simp⟩⟩
   ·rw [av (Ne.symm hj)] at e2
    obtain⟨u',r',q⟩:=hl j y v' e1 e2 e3
    refine⟨u',r',?_⟩
    rcases q with ⟨k,e⟩ | ⟨k,c,e,z⟩
    ·refine .inl ⟨k,?_⟩
     have:y≠x:=fun e=>hj (D3 hN e1 (e▸hi))
     simp [this,e]
    ·exact .inr ⟨k,c,e,z.sameBut hs (Ti y c e)⟩
  ·obtain⟨w',z⟩:=I.cell y c e
   exact⟨w',z.sameBut hs (Ti y c e)⟩
  ·obtain⟨e,n,ne,nf,d⟩:=I.pin p hp
   exact⟨(hs.2 p.1 ne).trans e,n,ne,nf,d⟩
 ·have hfn:X.fn x=true:=by
   rcases hf with z|z
   ·exact z
   ·rw [z] at hk;cases hk
  obtain⟨c,hc⟩:=I.ok.has x (.inl hk)
  obtain⟨w',z⟩:=I.cell x c hc
  refine wpAny_storeName_cell I.ok.kind hk hc z (fun h' WA hs=>?_)
  obtain⟨oc,hoc,aae⟩:=id z
  refine h { s with heap:=h' } ⟨I.ok,I.os,I.bare,⟨fun b o e n hb hx=>?_,fun b o e n hb hx=>?_,I.base.free,fun b o e hx=>?_,I.base.rT,I.base.uo,I.base.vP⟩,⟨m,hn.sameBut hs (Ne.symm (Ti x c hc)),fun j y v' e1 e2 e3=>?_⟩,fun y c' e=>?_,I.free,I.pH,fun p hp=>?_,tracked ⟨oc,hoc,I.pH x c hc⟩ hs,by simpa using I.len⟩ ⟨c,hs,.inr hc⟩
  ·exact(hs.2 b (aP (aG (ay e) (I.ok.Wv x c hfn hc)))).trans (I.base.keep b o e n hb hx)
  ·obtain⟨sl,e1⟩:=I.base.slot b o e n hb hx
   exact⟨sl,(hs.2 b (aP (aG (ay e) (I.ok.Wv x c hfn hc)))).trans e1⟩
  ·obtain⟨o',e1⟩:=I.base.there b o e hx
   exact⟨o',(hs.2 b (aP (aG (ay e) (I.ok.Wv x c hfn hc)))).trans e1⟩
  ·by_cases hj:j=i
   ·subst hj
    rw [hi] at e1;cases e1
    rw [aM hiσ] at e2
    cases e2
    exact⟨u,r,.inr ⟨.inl hk,c,hc,WA⟩⟩
   ·rw [av (Ne.symm hj)] at e2
    obtain⟨u',r',q⟩:=hl j y v' e1 e2 e3
    refine⟨u',r',?_⟩
    rcases q with q | ⟨k,c',e,z'⟩
    ·exact .inl q
    ·refine .inr ⟨k,c',e,z'.sameBut hs ?_⟩
     rintro rfl
     exact hj (D3 hN e1 (I.ok.inj _ _ _ e hc▸hi))
  ·by_cases hcc:c'=c
   ·subst hcc;exact⟨_,WA⟩
   ·obtain⟨w2,z2⟩:=I.cell y c' e
    exact⟨w2,z2.sameBut hs hcc⟩
  ·obtain⟨e,n,ne,nf,d⟩:=I.pin p hp
   refine⟨(hs.2 p.1 ?_).trans e,n,ne,nf,d⟩
   intro q
   rw [q,hoc] at e
   have q':oc=p.2:=bF e
   exact d w' (by rw [← q'];exact aae)
theorem xZ {M:Model}{Q:Unit->Shared->Prop} (I:fW X pins σ H s) (hN:X.N.Nodup) (hi:X.N[i]?=some x) (hx:Gg X.env.scope x) (r:gH v u)
  (h:∀ s',fW X pins (σ.set i (some v)) H s'->Q () s') (hf:X.fn x=true∨X.env.scope.names.lookup x=some .local:=by first|exact .inl rfl|exact .inr rfl|assumption):wpAny M A (storeName X.env x u) Q E s :=
 JO I hN hi hx r (fun s' I' _=>h s' I') hf
theorem fW.WB {s':Shared}{ch:List Addr} (I:fW X pins σ H s) (ho:s'.os=s.os) (u:Un (Ga X.stack) ch H H' s.heap s'.heap) (jd:um X.prog X.w H' s'.heap) (hg:AllBare s'.gens)
  (Oy:∀ b∈ch,(b∈X.ex∨(zB X.s₀)<=b)/\b≠X.env.locals/\(∀ x c,X.env.cells.lookup x=some c->c≠b)/\∀ p∈X.pn++pins,p.1≠b):fW X pins σ H' s':=by
 obtain⟨h',g',d',t',o'⟩:=s'
 have e:o'=s.os:=ho
 subst e
 exact I.call (g':=g') (t':=t') (d':=d') u jd hg Oy
end
abbrev XK:=Value->Option Addr->Hp->Prop
abbrev St:=List (Option V)
abbrev VK:=V->Hp->Prop
abbrev TE:=St->Hp->VK->Prop
abbrev TT:=St->Hp->(Bool->Hp->Prop)->Prop
abbrev TA:=St->Hp->(List V->Hp->Prop)->Prop
structure Gi where
 nx:St->Hp->Prop
 rt:VK
 bk:St->Hp->Prop:=fun _ _=>False
 ct:St->Hp->Prop:=fun _ _=>False
abbrev TS:=Gi->St->Hp->Prop
def EP (X:Cx)(pins:Ax)(σ:St)(Q:VK)(u:Value)(s':Shared):Prop:=∃ v H',fW X pins σ H' s'/\gH v u/\Q v H'
def TP (X:Cx)(pins:Ax)(σ:St)(Q:Bool->Hp->Prop)(b:Bool)(s':Shared):Prop:=∃ H',fW X pins σ H' s'/\Q b H'
def AP (X:Cx)(pins:Ax)(σ:St)(Q:List V->Hp->Prop)(us:Lw)(s':Shared):Prop:=∃ vs H',fW X pins σ H' s'/\gE vs us/\Q vs H'
def SP (X:Cx)(pins:Ax)(D:Gi)(f:Flow)(s':Shared):Prop :=
 match f with
 | .next=>∃ σ' H',fW X pins σ' H' s'/\D.nx σ' H'
 | .brk=>∃ σ' H',fW X pins σ' H' s'/\D.bk σ' H'
 | .cont=>∃ σ' H',fW X pins σ' H' s'/\D.ct σ' H'
 | .ret u=>∃ v σ' H',fW X pins σ' H' s'/\gH v u/\D.rt v H'
def PE (X:Cx)(e:Expr)(t:TE):Prop :=
 ∀ ⦃pins:Ax⦄ (s:Shared) (σ:St) (H:Hp) (Q:VK),fW X pins σ H s->t σ H Q->(zw X) (eval e X.env) (EP X pins σ Q) X.xe s
def PT (X:Cx)(e:Expr)(t:TT):Prop :=
 ∀ ⦃pins:Ax⦄ (s:Shared) (σ:St) (H:Hp) (Q:Bool->Hp->Prop),fW X pins σ H s->t σ H Q->(zw X) (isTrue e X.env (eval e X.env)) (TP X pins σ Q) X.xe s
def PW (X:Cx)(e:Expr)(t:TT):Prop :=
 ∀ ⦃whole:Sem Value⦄ (pins:Ax) (s:Shared) (σ:St) (H:Hp) (Q:Bool->Hp->Prop),fW X pins σ H s->t σ H Q->(zw X) (isTrue e X.env whole) (TP X pins σ Q) X.xe s
theorem PW.pt {X:Cx}{t:TT}(h:PW X e t):PT X e t:=@h _
def PA (X:Cx)(es:Lx)(t:TA):Prop :=
 ∀ ⦃pos:Pos⦄ (pins:Ax) (s:Shared) (σ:St) (H:Hp) (Q:List V->Hp->Prop),fW X pins σ H s->t σ H Q->(zw X) (spliced (backTo pos (starEach es X.env))) (AP X pins σ Q) X.xe s
def PS (X:Cx)(st:Stmt)(t:TS):Prop :=
 ∀ ⦃pins:Ax⦄ (s:Shared) (σ:St) (H:Hp) (D:Gi),fW X pins σ H s->t D σ H->(zw X) (exec st X.env) (SP X pins D) X.xe s
def Al (X:Cx)(st:List Stmt)(t:TS):Prop :=
 ∀ ⦃pins:Ax⦄ (s:Shared) (σ:St) (H:Hp) (D:Gi),fW X pins σ H s->t D σ H->(zw X) (execs st X.env) (SP X pins D) X.xe s
theorem jl {t:Sem α}{Q Q':α->Shared->Prop}{M:Model}(h:wpAny M A t Q E s)(hQ:∀ a s,Q a s->Q' a s):wpAny M A t Q' E s:=bR h hQ fun _ _ x=>x
end L2
variable  {X:L2.Cx}{σ:L2.St}
namespace L2
open PySem PySem.Spec PyProof.Rows
section
def aaf (i:Nat):TE:=fun σ H Q=>∃ v,σ[i]?=some (some v)/\Q v H
def tC (v:V):TE:=fun _ H Q=>Q v H
theorem ur (hN:X.N[i]?=some x)(hv:LA X.env.scope x)(hd:zg x:=by decide)(xR:(x==("__classdict__":Str))=false:=by decide):PE X (.Name x pos) (aaf i):=by
 intro pins s σ H Q I h
 obtain⟨v,e,h⟩:=h
 obtain⟨m,hn,hl⟩:=I.loc
 obtain⟨u,r,l⟩:=hl i x v hN e hv
 have fin:EP X pins σ Q u s:=⟨v,H,I,r,h⟩
 rcases l with ⟨hk,hm⟩ | ⟨hk,c,hc,rq⟩
 ·exact wpAny_Name (wpAny_loadName_local I.ok.kind hk hn hm fin) hd
 ·rcases hk with hk|hk
  ·exact wpAny_Name (wpAny_loadName_cell I.ok.kind hk hc rq fin) hd
  ·exact wpAny_Name (wpAny_loadName_free I.ok.kind hk hc rq fin xR) hd
theorem Tj {i j pos}:PE X (.Constant (.int i) j pos) (tC (.int i)):=fun _ _ _ H _ I h=>wpAny_Constant_int ⟨.int i,H,I.tok _,⟨_,rfl⟩,h⟩
theorem WC {b j pos}:PE X (.Constant (.bool b) j pos) (tC (.bl b)):=fun _ _ _ H _ I h=>Constant_bool ⟨.bl b,H,I,rfl,h⟩
theorem Tn {j pos}:PE X (.Constant .none j pos) (tC .lJ):=fun _ _ _ H _ I h=>Constant_none ⟨.lJ,H,I,rfl,h⟩
theorem To {x j pos}:PE X (.Constant (.str x) j pos) (tC (.str x)):=fun _ _ _ H _ I h=>Calls.Constant_str ⟨.str x,H,I.tok _,⟨_,rfl⟩,h⟩
def Gl (X:Cx)(x:Str):Prop:=X.env.kindOf x=some .globalImplicit
theorem tj {Q:Px} (I:fW X pins σ H s) (hg:Gl X x) (hm:X.mg x=some u) (h:Q u s)
  (hd:zg x:=by decide):(zw X) (eval (.Name x pos) X.env) Q E s :=
 d5 I.ok.kind hg (Calls.loadGlobal_global (by rw [I.ok.glob];exact I.mod.glob.keeps I.bk) hm h) hd
theorem qM {Q:Px} (I:fW X pins σ H s) (hg:Gl X x) (hm:X.mg x=none) (hv:bootBuiltins x=some u) (h:Q u s)
  (hn:x≠"__name__":=by decide) (hd:zg x:=by decide):(zw X) (eval (.Name x pos) X.env) Q E s:=by
 obtain⟨mb,h1,h2⟩:=I.mod.blt
 exact d5 I.ok.kind hg (Calls.loadGlobal_builtin (by rw [I.ok.glob];exact I.mod.glob.keeps I.bk) hm (by rw [I.ok.blt];exact h1.keeps I.bk) ((h2 x hn).trans hv) h) hd
theorem Iy (hg:Gl X x)(hm:X.mg x=some u)(r:gH v u)(hd:zg x:=by decide):PE X (.Name x pos) (tC v) :=
 fun _ _ _ H _ I h=>tj I hg hm ⟨v,H,I,r,h⟩ hd
theorem OR (hg:Gl X x)(hm:X.mg x=none)(hv:bootBuiltins x=some u)(r:gH v u)(hn:x≠"__name__":=by decide)(hd:zg x:=by decide):PE X (.Name x pos) (tC v) :=
 fun _ _ _ H _ I h=>qM I hg hm hv ⟨v,H,I,r,h⟩ hn hd
variable {a b:Expr}{ta tb:TE} 
variable {tA Zh:TT}{rest:Lx}
def aag (t u:TT):TT:=fun σ H Q=>t σ H fun c H1=>if c=true then u σ H1 Q else Q false H1
def tOr (t u:TT):TT:=fun σ H Q=>t σ H fun c H1=>if c=true then Q true H1 else u σ H1 Q
def aah (t:TT):TT:=fun σ H Q=>t σ H fun c H1=>Q (!c) H1
theorem OS (ha:PT X a tA):PW X (.BoolOp .And [a] pos) tA:=by
 intro wh pins s σ H Q I h
 refine isTrue_and (jl (@ha pins s σ H Q I h) fun c s1 e=>?_)
 cases c with
 | true=>exact isTrue_and_nil e
 | false=>exact e
theorem LG (ha:PT X a tA):PW X (.BoolOp .Or [a] pos) tA:=by
 intro wh pins s σ H Q I h
 refine isTrue_or (jl (@ha pins s σ H Q I h) fun c s1 e=>?_)
 cases c with
 | false=>exact isTrue_or_nil e
 | true=>exact e
theorem Tp (ha:PT X a tA)(hb:PW X (.BoolOp .And (b::rest) pos) Zh):PW X (.BoolOp .And (a::b::rest) pos) (aag tA Zh):=by
 intro wh pins s σ H Q I h
 refine isTrue_and (jl (@ha pins s σ H _ I h) fun c s1 ⟨H1,I1,q1⟩=>?_)
 cases c with
 | true=>exact @hb wh pins s1 σ H1 Q I1 q1
 | false=>exact⟨H1,I1,q1⟩
theorem R6 (ha:PT X a tA)(hb:PW X (.BoolOp .Or (b::rest) pos) Zh):PW X (.BoolOp .Or (a::b::rest) pos) (tOr tA Zh):=by
 intro wh pins s σ H Q I h
 refine isTrue_or (jl (@ha pins s σ H _ I h) fun c s1 ⟨H1,I1,q1⟩=>?_)
 cases c with
 | true=>exact⟨H1,I1,q1⟩
 | false=>exact @hb wh pins s1 σ H1 Q I1 q1
theorem LH (ha:PT X a tA):PT X (.UnaryOp .Not a pos) (aah tA):=by
 intro pins s σ H Q I h
 exact isTrue_not (@ha pins s σ H (fun c H1=>Q (!c) H1) I h)
def WD (ta tb:TE):TE:=fun σ H Q=>ta σ H fun x H1=>∃ c,x=.bl c/\if c=true then tb σ H1 Q else Q (.bl false) H1
theorem Tq {op}{t:TE}(h:PE X a t):PE X (.BoolOp op [a] pos) t:=fun pins s σ H Q I hw=>BoolOp_one (@h pins s σ H Q I hw)
theorem Tr (ha:PE X a ta)(hb:PE X (.BoolOp .And (b::rest) pos) tb):PE X (.BoolOp .And (a::b::rest) pos) (WD ta tb):=by
 intro pins s σ H Q I h
 refine BoolOp_and (jl (@ha pins s σ H _ I h) fun v s1 ⟨x,H1,I1,r1,q1⟩=>?_)
 obtain⟨c,rfl,q1⟩:=q1
 cases r1
 refine cq ?_
 cases c with
 | true=>exact @hb pins s1 σ H1 Q I1 q1
 | false=>exact⟨.bl false,H1,I1,rfl,q1⟩
end
def qd (K:Fg)(H:Hp)(a:Addr)(xs:List V):Prop :=
 Rd H a (.lst xs) ∨
  ∃ (o:Obj) (its:Array Value) (n:Nat),K.lookup a=some o/\o.cls=.type "list"/\o.dict=none/\o.data=.seq its n/\its.size<=sizeLine/\gE xs its.toList
def tm (K:Fg)(H:Hp)(a:Addr)(xs:List V):Prop :=
 Rd H a (.tup xs) ∨
  ∃ (o:Obj) (its:Array Value) (n:Nat),K.lookup a=some o/\o.cls=.type "tuple"/\o.data=.seq its n/\its.size<=sizeLine/\gE xs its.toList
def aai:Value->Option V
 | .none=>some .lJ
 | .bool b=>some (.bl b)
 | .int i _=>some (.int i)
 | .str x _=>some (.str x)
 | .bytes b _=>some (.VT b)
 | .float b _=>some (.Ze b)
 | .ref a=>some (.ref a)
 | .type n=>some (.ty n)
 | _=>none
theorem gH.abs {x:V}(r:gH x u):aai u=some x:=by
 cases x with
 | lJ=>cases r;rfl
 | bl _=>cases r;rfl
 | int _=>obtain⟨t,rfl⟩:=r;rfl
 | str _=>obtain⟨t,rfl⟩:=r;rfl
 | VT _=>obtain⟨t,rfl⟩:=r;rfl
 | Ze _=>obtain⟨t,rfl⟩:=r;rfl
 | ref _=>cases r;rfl
 | ty _=>cases r;rfl
theorem gH.inj {x y:V}(r:gH x u)(q:gH y u):x=y:=bF (r.abs.symm.trans q.abs)
theorem gE.inj:∀ {xs ys:List V}{us:Lw},gE xs us->gE ys us->xs=ys
 | _,_,_,.nil,.nil=>rfl
 | _,_,_,.cons r t,.cons r' t'=>by rw [r.inj r',gE.inj t t']
section
variable {xs ys:List V}
theorem qd.of {K:Fg}(h:H a=some (.lst xs)):qd K H a xs:=.inl (.inl h)
theorem tm.of {K:Fg}(h:H a=some (.tup xs)):tm K H a xs:=.inl (.inl h)
theorem fW.list (I:fW X pins σ H s)(h:qd X.K H a xs):∃ its:Lw,gE xs its/\PlainL s.heap a its.toArray/\xs.length<=sizeLine:=by
 rcases h with h | ⟨o,its,n,hk,hc,hd,hs,hz,r⟩
 ·obtain⟨z,its,n,r,e⟩:=h.ok I.jd
  exact⟨its,r,⟨_,n,e,rfl,rfl,rfl⟩,z⟩
 ·refine⟨its.toList,r,⟨o,n,I.xo a o hk,hc,hd,by simpa using hs⟩,?_⟩
  have e:=r.length
  simp only [cy] at e
  omega
theorem fW.tuple (I:fW X pins σ H s)(h:tm X.K H a xs):∃ its:Lw,gE xs its/\IsTup s.heap a its.toArray/\xs.length<=sizeLine:=by
 rcases h with h | ⟨o,its,n,hk,hc,hs,hz,r⟩
 ·obtain⟨z,its,r,p⟩:=h.ok I.jd
  exact⟨its,r,p,z⟩
 ·refine⟨its.toList,r,⟨o,I.xo a o hk,hc,n,by simpa using hs⟩,?_⟩
  have e:=r.length
  simp only [cy] at e
  omega
theorem fW.D4 (I:fW X pins σ H s)(h:qd X.K H a xs)(h':qd X.K H a ys):xs=ys:=by
 obtain⟨its,r,⟨o,n,e,_,_,d⟩,_⟩:=I.list h
 obtain⟨its',r',⟨o',n',e',_,_,d'⟩,_⟩:=I.list h'
 rw [e] at e';cases e'
 rw [d] at d'
 injection d' with d1 _
 have:its=its':=by simpa using bQ Array.toList d1
 subst this
 exact r.inj r'
theorem fW.JP (I:fW X pins σ H s)(h:tm X.K H a xs)(h':tm X.K H a ys):xs=ys:=by
 obtain⟨its,r,⟨o,e,_,n,d⟩,_⟩:=I.tuple h
 obtain⟨its',r',⟨o',e',_,n',d'⟩,_⟩:=I.tuple h'
 rw [e] at e';cases e'
 rw [d] at d'
 injection d' with d1 _
 have:its=its':=by simpa using bQ Array.toList d1
 subst this
 exact r.inj r'
end
abbrev Cx.Am (X:Cx)(E:Value->Shared->Prop):Cx:={ X with xe:=E }
abbrev Cx.R7 (X:Cx):Cx:=X.Am fun _ _=>False
theorem Cx.Ok.Am {X:Cx}(ok:X.Ok)(E:Px):(X.Am E).Ok :=
 ⟨ok.mod,ok.kind,ok.glob,ok.blt,ok.above,ok.inj,ok.has,ok.Wv,ok.hd,ok.frames,ok.Ww,ok.exf,ok.bs,ok.RZ,ok.LB,ok.Gh,ok.uq,ok.LC⟩
theorem Cx.Ok.rV (ok:(X.Am E).Ok):X.Ok :=
 ⟨ok.mod,ok.kind,ok.glob,ok.blt,ok.above,ok.inj,ok.has,ok.Wv,ok.hd,ok.frames,ok.Ww,ok.exf,ok.bs,ok.RZ,ok.LB,ok.Gh,ok.uq,ok.LC⟩
section
theorem fW.Am (I:fW X pins σ H s)(E:Px):fW (X.Am E) pins σ H s:=⟨I.ok.Am E,I.os,I.bare,I.base,I.loc,I.cell,I.free,I.pH,I.pin,I.jd,I.len⟩
theorem fW.rV (I:fW (X.Am E) pins σ H s):fW X pins σ H s:=⟨I.ok.rV,I.os,I.bare,I.base,I.loc,I.cell,I.free,I.pH,I.pin,I.jd,I.len⟩
theorem SP.rV {D:Gi}{f:Flow}{s':Shared}(h:SP (X.Am E) pins D f s'):SP X pins D f s':=by
 cases f with
 | next=>obtain⟨σ',H',I,q⟩:=h;exact⟨σ',H',I.rV,q⟩
 | brk=>obtain⟨σ',H',I,q⟩:=h;exact⟨σ',H',I.rV,q⟩
 | cont=>obtain⟨σ',H',I,q⟩:=h;exact⟨σ',H',I.rV,q⟩
 | ret u=>obtain⟨v,σ',H',I,r,q⟩:=h;exact⟨v,σ',H',I.rV,r,q⟩
theorem Al.R7 {st:List Stmt}{t:TS}(h:Al X.R7 st t):Al X st t:=fun pins s σ H D I hw =>
 bR (@h pins s σ H D (I.Am _) hw) (fun _ _ q=>q.rV) fun _ _ z=>False.elim z
end
section
variable {rest:List Stmt}{t u:TS}{te:TE} 
def WE:TS:=fun D σ H=>D.nx σ H
def aaj (t u:TS):TS:=fun D σ H=>t { D with nx:=u D } σ H
theorem OT:Al X [] WE:=fun _ _ σ H _ I h=>dN ⟨σ,H,I,h⟩
theorem LI (h1:PS X st t)(h2:Al X rest u):Al X (st::rest) (aaj t u):=by
 intro pins s σ H D I h
 refine wpAny_execs_cons (jl (@h1 pins s σ H { D with nx:=u D } I h) fun f s1 q=>?_)
 cases f with
 | next =>
  obtain⟨σ',H',I',q⟩:=q
  exact @h2 pins s1 σ' H' D I' q
 | ret v=>exact q
 | brk=>exact q
 | cont=>exact q
theorem OU (h1:PS X st t):Al X [st] t:=by
 intro pins s σ H D I h
 refine wpAny_execs_cons (jl (@h1 pins s σ H D I h) fun f s1 q=>?_)
 cases f with
 | next=>exact dN q
 | ret v=>exact q
 | brk=>exact q
 | cont=>exact q
theorem fW.quiet (I:fW X pins σ H s):interactive X.env=false:=by simp [interactive,I.ok.kind]
def WG (te:TE):TS:=fun D σ H=>te σ H fun _ H1=>D.nx σ H1
theorem qN (he:PE X e te)(hs:swapsWith e none pos.line X.env=pure false:=by rfl):PS X (.Expr e pos) (WG te):=by
 intro pins s σ H D I h
 exact wpAny_Expr_any (jl (@he pins s σ H _ I h) fun v s1 ⟨x,H1,I1,r1,q1⟩=>⟨σ,H1,I1,q1⟩) I.quiet hs
def aak (te:TE):TS:=fun D σ H=>te σ H D.rt
theorem x6 (he:PE X e te):PS X (.Return (some e) pos) (aak te):=by
 intro pins s σ H D I h
 exact wpAny_Return_some (jl (@he pins s σ H _ I h) fun v s1 ⟨x,H1,I1,r1,q1⟩=>⟨x,σ,H1,I1,r1,q1⟩)
def WH:TS:=fun D _ H=>D.rt .lJ H
theorem OV:PS X (.Return none pos) WH:=fun _ _ σ H _ I h=>wpAny_Return_none ⟨.lJ,σ,H,I,rfl,h⟩
def aal (c:TT)(t u:TS):TS:=fun D σ H=>c σ H fun b H1=>if b=true then t D σ H1 else u D σ H1
theorem R8 {c:Expr}{a b:List Stmt}{tc:TT}(hc:PT X c tc)(ha:Al X a t)(hb:Al X b u):PS X (.If c a b pos) (aal tc t u):=by
 intro pins s σ H D I h
 refine wpAny_If (jl (@hc pins s σ H _ I h) fun d s1 ⟨H1,I1,q1⟩=>?_)
 cases d with
 | true=>exact @ha pins s1 σ H1 D I1 q1
 | false=>exact @hb pins s1 σ H1 D I1 q1
def Ts:TS:=fun _ _ _=>False
theorem LJ:PS X st Ts:=fun _ _ _ _ _ _ h=>h.elim
end
abbrev TG:=V->St->Hp->(St->Hp->Prop)->Prop
abbrev OW:=List V->St->Hp->(St->Hp->Prop)->Prop
def PG (X:Cx)(target:Expr)(t:TG):Prop :=
 ∀ ⦃pins:Ax⦄ (s:Shared) (σ:St) (H:Hp) (v:V) (u:Value) (Q:St->Hp->Prop),fW X pins σ H s->gH v u->t v σ H Q ->
  (zw X) (assign target X.env u) (fun _ s'=>∃ σ' H',fW X pins σ' H' s'/\Q σ' H') X.xe s
def Oz (X:Cx)(ts:Lx)(t:OW):Prop :=
 ∀ ⦃pins:Ax⦄ (s:Shared) (σ:St) (H:Hp) (vs:List V) (us:Lw) (Q:St->Hp->Prop),fW X pins σ H s->gE vs us->t vs σ H Q ->
  (zw X) (assignInOrder ((assignEach ts X.env).map (·.2)) us) (fun _ s'=>∃ σ' H',fW X pins σ' H' s'/\Q σ' H') X.xe s
abbrev OX:=V->V->V->Hp->(Hp->Prop)->Prop
def D5 (X:Cx)(t:OX):Prop :=
 ∀ (pins:Ax) (s:Shared) (σ:St) (H:Hp) (o i v:V) (ov iv u:Value) (Q:Hp->Prop),fW X pins σ H s->gH o ov->gH i iv->gH v u->t o i v H Q ->
  (zw X) (setItem ov iv u) (fun _ s'=>∃ H',fW X pins σ H' s'/\Q H') X.xe s
abbrev Zi:=V->V->Hp->VK->Prop
def Zj (X:Cx)(op:Operator)(t:Zi):Prop :=
 ∀ (pins:Ax) (s:Shared) (σ:St) (H:Hp) (x y:V) (v u:Value) (Q:VK),fW X pins σ H s->gH x v->gH y u->t x y H Q ->
  (zw X) (inplaceOp op v u) (EP X pins σ Q) X.xe s
section
def Iz (i:Nat):TG:=fun v σ H Q=>Q (σ.set i (some v)) H
theorem pI (hN:X.N.Nodup)(hi:X.N[i]?=some x)(hx:Gg X.env.scope x)(hf:X.fn x=true∨X.env.scope.names.lookup x=some .local:=by first|exact .inl rfl|exact .inr rfl|assumption):PG X (.Name x pos) (Iz i):=by
 intro pins s σ H v u Q I r h
 exact wpAny_assign_Name (xZ I hN hi hx r (fun s' I'=>⟨_,H,I',h⟩) hf)
def aam:OW:=fun vs σ H Q=>vs=[]/\Q σ H
def WI (t:TG)(u:OW):OW:=fun vs σ H Q=>∃ v r,vs=v::r/\t v σ H fun σ' H'=>u r σ' H' Q
theorem Cc:Oz X [] aam:=by
 intro pins s σ H vs us Q I r h
 obtain⟨e,h⟩:=h
 subst e
 cases r
 exact assignInOrder_nil ⟨σ,H,I,h⟩
theorem qu {t:TG}{u:OW} (h1:PG X e t) (h2:Oz X es u)
  (hs:(assignEach (e::es) X.env).map (·.2)=assign e X.env::(assignEach es X.env).map (·.2):=by rfl):Oz X (e::es) (WI t u):=by
 intro pins s σ H vs us Q I r h
 obtain⟨v,vr,e1,h⟩:=h
 subst e1
 cases r with
 | cons r rr =>
  rw [hs]
  refine assignInOrder_cons (jl (@h1 pins s σ H _ _ _ I r h) fun _ s1 ⟨σ1,H1,I1,q1⟩=>?_)
  exact @h2 pins s1 σ1 H1 _ _ Q I1 rr q1
def aan (K:Fg)(n:Nat)(t:OW):TG:=fun v σ H Q=>∃ a xs,v=.ref a/\tm K H a xs/\xs.length=n/\t xs σ H Q
theorem Gj {k:Nat}{t:OW} (hc:X.calm=true) (h:Oz X es t)
  (hn:(assignEach es X.env).length=n:=by rfl) (Af:(assignEach es X.env).findIdx? (·.1)=none:=by rfl):PG X (.Tuple es k pos) (aan X.K n t):=by
 intro pins s σ H v u Q I r hw
 obtain⟨a,xs,e1,hq,hl,hw⟩:=hw
 subst e1
 cases r
 obtain⟨its,rv,ht,hz⟩:=I.tuple hq
 refine assign_Tuple_tuple (I.ok.hd hc) ht (by simp [hn,← hl,rv.length]) Af fun h' hx=>?_
 have I1:fW X pins σ H { s with heap:=h' }:=I.kept (t':=s.toks) fun b o e=>hx b o (aP (ay e)) e
 exact @h pins _ σ H xs _ Q I1 (by simpa using rv) hw
def aao (to ti:TE)(t:OX):TG:=fun v σ H Q=>to σ H fun o H1=>ti σ H1 fun i H2=>t o i v H2 fun H3=>Q σ H3
theorem Tu {i:Expr}{to ti:TE}{t:OX} (ho:PE X o to) (hi:PE X i ti) (hs:D5 X t)
  (ha:∀ v,assign (.Subscript o i pos) X.env v=(do
   let ov ← holding [v] (eval o X.env)
   let iv ← holding [v,ov] (eval i X.env)
   standAt pos
   holding [v,ov,iv] (setItem ov iv v)
   release [v,ov,iv] []):=by intro _;rfl):PG X (.Subscript o i pos) (aao to ti t):=by
 intro pins s σ H v u Q I r h
 rw [ha]
 refine ab (bx (jl (@ho pins s σ H _ I h) fun ov s1 ⟨x,H1,I1,r1,q1⟩=>?_))
 refine ab (bx (jl (@hi pins s1 σ H1 _ I1 q1) fun iv s2 ⟨y,H2,I2,r2,q2⟩=>?_))
 refine ab (wpAny_standAt (ab (bx (jl (@hs pins s2 σ H2 x y v ov iv u _ I2 r1 r2 r q2) fun _ s3 ⟨H3,I3,q3⟩=>?_))))
 exact wpAny_release ⟨σ,H3,I3,q3⟩
def Tv (te:TE)(g:TG):TS:=fun D σ H=>te σ H fun x H1=>g x σ H1 D.nx
theorem LK {te:TE}{g:TG} (he:PE X e te) (hg:PG X tg g) (hs:swapsWithSole [tg] e pos.line X.env=pure false:=by rfl) (hw:swappedStores [tg] e X.env=pure none:=by rfl)
  (h1:(assignEach [tg] X.env).map (·.2)=[assign tg X.env]:=by rfl):PS X (.Assign [tg] e pos) (Tv te g):=by
 intro pins s σ H D I h
 refine wpAny_Assign_stores (jl (@he pins s σ H _ I h) fun v s1 ⟨x,H1,I1,r1,q1⟩=>?_) hs hw
 rw [h1]
 exact jl (@hg pins s1 σ H1 x v _ I1 r1 q1) fun _ s2 q=>q
theorem LM {te:TE}{pos':Pos}(hN:X.N.Nodup)(hi:X.N[i]?=some x)(hx:Gg X.env.scope x)(he:PE X e te)(hs:swapsWith e (some (.Name x pos')) pos.line X.env=pure false:=by rfl)(hf:X.fn x=true∨X.env.scope.names.lookup x=some .local:=by first|exact .inl rfl|exact .inr rfl|assumption) :
  PS X (.Assign [.Name x pos'] e pos) (Tv te (Iz i)):=by
 intro pins s σ H D I h
 refine wpAny_Assign_Name (jl (@he pins s σ H _ I h) fun v s1 ⟨y,H1,I1,r1,q1⟩=>?_) hs
 exact xZ I1 hN hi hx r1 (fun s2 I2=>⟨_,H1,I2,q1⟩) hf
def aap (i:Nat)(te:TE)(ti:Zi):TS:=fun D σ H=>∃ x,σ[i]?=some (some x)/\te σ H fun y H1=>ti x y H1 fun z H2=>D.nx (σ.set i (some z)) H2
theorem Tw {te:TE}{op:Operator}{ti:Zi}{pos':Pos}(hN:X.N.Nodup)(hi:X.N[i]?=some x)(hx:Gg X.env.scope x)(he:PE X e te)(ho:Zj X op ti)(hf:X.fn x=true∨X.env.scope.names.lookup x=some .local:=by first|exact .inl rfl|exact .inr rfl|assumption) :
  PS X (.AugAssign (.Name x pos') op e pos) (aap i te ti):=by
 intro pins s σ H D I h
 obtain⟨v,e1,h⟩:=h
 obtain⟨m,hn,hl⟩:=I.loc
 have vis:LA X.env.scope x:=by rcases hx with k|k;exact .inl k;exact .inr (.inl k)
 obtain⟨u,r,l⟩:=hl i x v hi e1 vis
 refine wpAny_AugAssign_Name ?_
 have go:(zw X) (eval e X.env) (fun w s₂=>(zw X) (inplaceOp op u w) (fun r s₃=>(zw X) (storeName X.env x r) (fun _=>SP X pins D .next) X.xe s₃) X.xe s₂) X.xe s:=by
  refine jl (@he pins s σ H _ I h) fun w s1 ⟨y,H1,I1,r1,q1⟩=>?_
  refine jl (@ho pins s1 σ H1 v y u w _ I1 r r1 q1) fun z s2 ⟨zv,H2,I2,r2,q2⟩=>?_
  exact xZ I2 hN hi hx r2 (fun s3 I3=>⟨_,H2,I3,q2⟩) hf
 rcases l with ⟨hk,hm⟩ | ⟨hk,c,hc,rq⟩
 ·exact wpAny_loadName_local I.ok.kind hk hn hm go
 ·rcases hk with hk|hk
  ·exact wpAny_loadName_cell I.ok.kind hk hc rq go
  ·rcases hx with k|k
   ·have:X.env.scope.names.lookup x=some .free:=hk
    rw [k] at this;cases this
   ·have:X.env.scope.names.lookup x=some .free:=hk
    rw [k] at this;cases this
def ipI (f:Int->Int->Int):Zi:=fun x y H Q=>∃ i j,x=.int i/\y=.int j/\Q (.int (f i j)) H
theorem LN:Zj X .Add (ipI fun i j=>i+j):=by
 intro pins s σ H x y v u Q I r1 r2 h
 obtain⟨i,j,e1,e2,q⟩:=h
 subst e1;subst e2
 obtain⟨t,rfl⟩:=r1
 obtain⟨t',rfl⟩:=r2
 exact iadd_int ⟨.int _,H,I.tok _,⟨_,rfl⟩,q⟩
theorem LO:Zj X .Sub (ipI fun i j=>i - j):=by
 intro pins s σ H x y v u Q I r1 r2 h
 obtain⟨i,j,e1,e2,q⟩:=h
 subst e1;subst e2
 obtain⟨t,rfl⟩:=r1
 obtain⟨t',rfl⟩:=r2
 exact isub_int ⟨.int _,H,I.tok _,⟨_,rfl⟩,q⟩
end
section
def Tz (c:TT)(tb:TS):TS:=fun D σ H=>∃ W:Nat->St->Hp->Prop,(∃ m,W m σ H)/\∀ m σ H,W m σ H ->
 c σ H fun b H1=>if b=true then ∃ N:St->Hp->Prop,(∀ σ' H',N σ' H'->∃ m',m'<m/\W m' σ' H')/\tb { D with nx:=N,ct:=N,bk:=D.nx } σ H1 else D.nx σ H1
theorem LP {c:Expr}{body:List Stmt}{tc:TT}{tb:TS}(hp:PassesOwn (model X.prog X.w) X.A X.env X.xe)(hc:PT X c tc)(hb:Al X body tb):PS X (.While c body [] pos) (Tz tc tb):=by
 intro pins s σ H D I h
 obtain⟨W,⟨m0,w0⟩,turn⟩:=h
 refine wpAny_While (codeAny_whileLoop (fun n s'=>∃ σ' H',fW X pins σ' H' s'/\W n σ' H') ?_ m0 ⟨σ,H,I,w0⟩)
 rintro n s1 ⟨σ1,H1,I1,w1⟩
 refine cf hp (jl (@hc pins s1 σ1 H1 _ I1 (turn n σ1 H1 w1)) fun b s2 ⟨H2,I2,q2⟩=>?_)
 cases b with
 | true =>
  obtain⟨N,hN,q2⟩:=q2
  rw [ai rfl]
  refine cf hp (jl (@hb pins s2 σ1 H2 _ I2 q2) fun f s3 q3=>?_)
  cases f with
  | next =>
   obtain⟨σ3,H3,I3,n3⟩:=q3
   obtain⟨m',hm,w3⟩:=hN σ3 H3 n3
   exact⟨m',hm,σ3,H3,I3,w3⟩
  | cont =>
   obtain⟨σ3,H3,I3,n3⟩:=q3
   obtain⟨m',hm,w3⟩:=hN σ3 H3 n3
   exact⟨m',hm,σ3,H3,I3,w3⟩
  | brk=>exact q3
  | ret v=>exact q3
 | false =>
  rw [ao aQ]
  exact dN ⟨σ1,H2,I2,q2⟩
end
structure It where
 go:Nat->Hp->Prop
 VW:Nat->Hp->V->Hp->Prop
 stop:Nat->Hp->Prop
def rW (X:Cx)(pins:Ax)(H:Hp)(b:Addr):Prop :=
 H b=none/\b≠X.env.locals/\b∉X.fs/\(b∈X.ex∨(zB X.s₀)<=b)/\(∀ x c,X.env.cells.lookup x=some c->c≠b)/\∀ p∈X.pn++pins,p.1≠b
theorem fW.JQ {H':Hp}{b:Addr}(I:fW X pins σ H s)(hb:(zB s)<=b)(hn:H' b=none):rW X pins H' b:=by
 refine⟨hn,dZ (aG I.lt hb),I.aac hb,.inr (bH I.sz hb),fun x c e z=>?_,fun p hp z=>?_⟩
 ·obtain⟨v,q⟩:=I.cell x c e
  exact absurd (aG q.lt (by rw [z];exact hb)) (a7 _)
 ·exact absurd (aG (ay (I.pin p hp).1) (by rw [z];exact hb)) (a7 _)
structure JR (P:Program) (w:World) (K:Fg) (tg:Expr) (J:It) (fp:List Addr) (it:Addr) (tn:Nat->Heap->Prop):Prop where
 mem:it∈fp
 obj:∀ i h,tn i h->∀ b∈fp,∃ o,h.get? b=some o/\∀ v,o.data≠.cell v
 keep:∀ i h h',tn i h->(∀ b∈fp,∀ o,h.get? b=some o->h'.get? b=some o)->tn i h'
 item:∀ (X:Cx),X.prog=P->X.w=w->X.K=K->X.calm=true->∀ (i:Nat) (pins:Ax) (s:Shared) (σ:St) (H:Hp) (E:Px),fW X pins σ H s->(∀ b∈fp,rW X pins H b)->tn i s.heap->J.go i H ->
  wpAny (model P w) X.A (pyNext (.ref it)) (fun r s1=>∃ u,r=some u /\
   wpAny (model P w) X.A (letOwnedTupleGo tg (.ref it) u) (fun _ s2=>∃ x H',fW X pins σ H' s2/\gH x u/\J.VW i H x H'/\tn (i+1) s2.heap/\∀ b∈fp,H' b=none) E s1) E s
 done:∀ (X:Cx),X.prog=P->X.w=w->X.K=K->X.calm=true->∀ (i:Nat) (pins:Ax) (s:Shared) (σ:St) (H:Hp) (E:Px),fW X pins σ H s->(∀ b∈fp,rW X pins H b)->tn i s.heap->J.stop i H ->
  wpAny (model P w) X.A (pyNext (.ref it)) (fun r s1=>r=none/\fW X pins σ H s1) E s
 self:∀ (A:Around) (i:Nat) (s:Shared) (Q:Px) (E:Px),tn i s.heap->Q (.ref it) s->wpAny (model P w) A (pyIter (.ref it)) Q E s
abbrev TI:=St->Hp->(It->Hp->Prop)->Prop
def PIE (X:Cx)(pins:Ax)(σ:St)(tg:Expr)(R:It->Hp->Prop)(Zk:Value)(s2:Shared):Prop :=
 ∃ (it:Addr) (fp:List Addr) (tn:Nat->Heap->Prop) (J:It) (H':Hp),Zk=.ref it/\fW X pins σ H' s2/\JR X.prog X.w X.K tg J fp it tn/\tn 0 s2.heap/\(∀ b∈fp,rW X pins H' b)/\R J H'
def PI (X:Cx)(tg iter:Expr)(wi:TI):Prop :=
 ∀ ⦃pins:Ax⦄ (s:Shared) (σ:St) (H:Hp) (R:It->Hp->Prop),fW X pins σ H s->wi σ H R ->
  (zw X) (eval iter X.env) (fun v s1=>(zw X) (pyIter v) (PIE X pins σ tg R) X.xe s1) X.xe s
theorem D6 {M:Model}{it:Addr}{o:Obj}{n:String}{vs:Array Value}{Q:Unit->Shared->Prop} (ho:s.heap.get? it=some o) (hc:o.cls=.type n) (hd:o.data=.fields vs)
    (hn:["enumerate","zip","dict_itemiterator","dict_reverseitemiterator","odict_iterator","itertools.zip_longest","itertools.pairwise"].contains n=false) (hQ:Q () s):wpAny M A (letOwnedTupleGo tg (.ref it) u) Q E s:=by
  unfold letOwnedTupleGo
  cases tg<;>first
    | exact aw hQ
    | (cases u<;>first
        | exact aw hQ
        | (refine ab (wpAny_load ho ?_)
           rw [hc,hd]
           show wpAny M A (if (["enumerate","zip","dict_itemiterator","dict_reverseitemiterator","odict_iterator","itertools.zip_longest","itertools.pairwise"].contains n&&vs[0]?==some (rawInt _))=true then _ else _) Q E s
           rw [ao (by intro h;rw [hn,Bool.false_and] at h;cases h)]
           exact aw hQ))
def Itl (K:Fg)(a:Addr):It :=
 ⟨fun i H=>∃ xs x,qd K H a xs/\xs[i]?=some x,fun i H x H'=>H'=H/\∀ xs,qd K H a xs->xs[i]?=some x,fun i H=>∃ xs,qd K H a xs/\xs.length<=i⟩
def Itt (K:Fg)(a:Addr):It :=
 ⟨fun i H=>∃ xs x,tm K H a xs/\xs[i]?=some x,fun i H x H'=>H'=H/\∀ xs,tm K H a xs->xs[i]?=some x,fun i H=>∃ xs,tm K H a xs/\xs.length<=i⟩
def WJ (lo:Int)(n:Nat):It:=⟨fun i _=>i<n,fun i H x H'=>H'=H/\x=.int (lo+i),fun i _=>n<=i⟩
theorem JS {P:Program}{K:Fg}(a it:Addr):JR P w K tg (Itl K a) [it] it (fun i h=>h.IsListIter it a i) where
 mem:=by simp
 obj:=fun i h st b hb=>by
  have e:b=it:=by simpa using hb
  subst e
  obtain⟨o,e,c,d⟩:=st
  exact⟨o,e,fun v z=>by rw [d] at z;cases z⟩
 keep:=fun i h h' st k=>st.at fun o e=>k it (by simp) o e
 item:=by
  intro X hP hw hK hc i pins s σ H E I hf st hg
  subst hP hw hK
  obtain⟨xs,x,hq,hx⟩:=hg
  obtain⟨its,rv,p,hz⟩:=I.list hq
  obtain⟨u,hu,ru⟩:=rv.get hx
  obtain⟨f0,f1,f2,f3,f4,f5⟩:=hf it (by simp)
  refine da st p.isList (x:=u) (by simpa using hu) fun h' IA sb=>?_
  have I1:fW X pins σ H { s with heap:=h' }:=I.turned (t':=s.toks) (fun b o hb e=>(sb.2 b hb).trans e) f0 f1 f3 f4 f5
  obtain⟨o,e,c,d⟩:=id IA
  exact⟨u,rfl,D6 (s:={ s with heap:=h' }) e c d (by decide) ⟨x,H,I1,ru,⟨rfl,fun ys hy=>by rw [I.D4 hy hq];exact hx⟩,IA,fun b hb=>(hf b hb).1⟩⟩
 done:=by
  intro X hP hw hK hc i pins s σ H E I hf st hg
  subst hP hw hK
  obtain⟨xs,hq,hx⟩:=hg
  obtain⟨its,rv,p,hz⟩:=I.list hq
  obtain⟨f0,f1,f2,f3,f4,f5⟩:=hf it (by simp)
  have hl:=rv.length
  exact du (I.ok.hd hc) st p.isList (by simp;omega) fun h' eb=>⟨rfl,I.turned (t':=s.toks) (fun b o hb e=>eb b o hb e) f0 f1 f3 f4 f5⟩
 self:=fun _ _ _ _ _ st h=>wpAny_pyIter_listiter st h
theorem Gk {P:Program}{K:Fg}(a it:Addr):JR P w K tg (Itt K a) [it] it (fun i h=>h.IsTupleIter it a i) where
 mem:=by simp
 obj:=fun i h st b hb=>by
  have e:b=it:=by simpa using hb
  subst e
  obtain⟨o,e,c,d⟩:=st
  exact⟨o,e,fun v z=>by rw [d] at z;cases z⟩
 keep:=fun i h h' st k=>st.at fun o e=>k it (by simp) o e
 item:=by
  intro X hP hw hK hc i pins s σ H E I hf st hg
  subst hP hw hK
  obtain⟨xs,x,hq,hx⟩:=hg
  obtain⟨its,rv,p,hz⟩:=I.tuple hq
  obtain⟨u,hu,ru⟩:=rv.get hx
  obtain⟨f0,f1,f2,f3,f4,f5⟩:=hf it (by simp)
  refine wpAny_pyNext_tuple_item st (show s.heap.IsTuple a its.toArray from p) (x:=u) (by simpa using hu) fun h' IA sb=>?_
  have I1:fW X pins σ H { s with heap:=h' }:=I.turned (t':=s.toks) (fun b o hb e=>(sb.2 b hb).trans e) f0 f1 f3 f4 f5
  obtain⟨o,e,c,d⟩:=id IA
  exact⟨u,rfl,D6 (s:={ s with heap:=h' }) e c d (by decide) ⟨x,H,I1,ru,⟨rfl,fun ys hy=>by rw [I.JP hy hq];exact hx⟩,IA,fun b hb=>(hf b hb).1⟩⟩
 done:=by
  intro X hP hw hK hc i pins s σ H E I hf st hg
  subst hP hw hK
  obtain⟨xs,hq,hx⟩:=hg
  obtain⟨its,rv,p,hz⟩:=I.tuple hq
  obtain⟨f0,f1,f2,f3,f4,f5⟩:=hf it (by simp)
  have hl:=rv.length
  exact wpAny_pyNext_tuple_end (I.ok.hd hc) st (show s.heap.IsTuple a its.toArray from p) (by simp;omega) fun h' eb=>⟨rfl,I.turned (t':=s.toks) (fun b o hb e=>eb b o hb e) f0 f1 f3 f4 f5⟩
 self:=fun _ _ _ _ _ st h=>wpAny_pyIter_tupleiter st h
theorem Gm {P:Program}{K:Fg}(it:Addr)(lo:Int)(n:Nat):JR P w K tg (WJ lo n) [it] it (fun i h=>IsRangeIter h it (lo+(i:Nat)*1) ((n:Int) - (i:Nat)) 1) where
 mem:=by simp
 obj:=fun i h st b hb=>by
  have e:b=it:=by simpa using hb
  subst e
  exact⟨_,st,fun v z=>by
   have z':Data.fields _=Data.cell v:=z
   cases z'⟩
 keep:=fun i h h' st k=>k it (by simp) _ st
 item:=by
  intro X hP hw hK hc i pins s σ H E I hf st hg
  subst hP hw hK
  obtain⟨f0,f1,f2,f3,f4,f5⟩:=hf it (by simp)
  have W:=Walks.range (prog:=X.prog) (w:=X.w) (I.ok.hd hc) it lo 1 n
  refine W.item i s _ _ hg st fun v h' tk hv IA kk=>?_
  obtain⟨t,rfl⟩:=hv
  have I1:fW X pins σ H { s with heap:=h',toks:=tk }:=I.turned (fun b o hb e=>kk b o (by simpa using hb) e) f0 f1 f3 f4 f5
  refine⟨_,rfl,D6 (s:={ s with heap:=h',toks:=tk }) (n:="range_iterator") IA rfl rfl (by decide) ⟨.int (lo+i),H,I1,⟨t,?_⟩,⟨rfl,rfl⟩,IA,fun b hb=>(hf b hb).1⟩⟩
  rw [Int.mul_one]
 done:=by
  intro X hP hw hK hc i pins s σ H E I hf st hg
  subst hP hw hK
  obtain⟨f0,f1,f2,f3,f4,f5⟩:=hf it (by simp)
  exact wpAny_pyNext_range_end (I.ok.hd hc) st (by have:n<=i:=hg;omega) fun h' eb=>⟨rfl,I.turned (t':=s.toks) (fun b o hb e=>eb b o hb e) f0 f1 f3 f4 f5⟩
 self:=fun _ _ _ _ _ st h=>wpAny_pyIter_rangeiter st h
section
def WK (K:Fg)(tl:TE):TI:=fun σ H R=>tl σ H fun x H1=>∃ a,x=.ref a/\(∃ xs,qd K H1 a xs)/\R (Itl K a) H1
def aaq (K:Fg)(tl:TE):TI:=fun σ H R=>tl σ H fun x H1=>∃ a,x=.ref a/\(∃ xs,tm K H1 a xs)/\R (Itt K a) H1
theorem IB {l:Expr}{tl:TE}(hl:PE X l tl):PI X tg l (WK X.K tl):=by
 intro pins s σ H R I h
 refine jl (@hl pins s σ H _ I h) fun v s1 ⟨x,H1,I1,r1,q1⟩=>?_
 obtain⟨a,e,⟨xs,hq⟩,q⟩:=q1
 subst e
 cases r1
 obtain⟨its,rv,p,hz⟩:=I1.list hq
 refine de p.isList ?_
 refine⟨(zB s1),[(zB s1)],_,_,H1,rfl,I1.kept (t':=s1.toks) fun b o e=>ak _ e,JS a _,⟨_,aF _ rfl,rfl,rfl⟩,fun b hb=>?_,q⟩
 have e:b=(zB s1):=by simpa using hb
 subst e
 exact I1.JQ (aD _) (I1.jd.fresh (aD _))
theorem LQ {l:Expr}{tl:TE}(hl:PE X l tl):PI X tg l (aaq X.K tl):=by
 intro pins s σ H R I h
 refine jl (@hl pins s σ H _ I h) fun v s1 ⟨x,H1,I1,r1,q1⟩=>?_
 obtain⟨a,e,⟨xs,hq⟩,q⟩:=q1
 subst e
 cases r1
 obtain⟨its,rv,p,hz⟩:=I1.tuple hq
 refine wpAny_pyIter_tuple (show s1.heap.IsTuple a its.toArray from p) ?_
 refine⟨(zB s1),[(zB s1)],_,_,H1,rfl,I1.kept (t':=s1.toks) fun b o e=>ak _ e,Gk a _,⟨_,aF _ rfl,rfl,rfl⟩,fun b hb=>?_,q⟩
 have e:b=(zB s1):=by simpa using hb
 subst e
 exact I1.JQ (aD _) (I1.jd.fresh (aD _))
theorem LR {R:It->Hp->Prop}{lo hi:Int}{t u v:Tok}{tk:Nat} (I:fW X pins σ H s) (h1:-(2 ^ 62)<=lo) (h2:lo<2 ^ 62) (h3:-(2 ^ 62)<=hi) (h4:hi<2 ^ 62)
  (q:R (WJ lo (hi - lo).toNat) H):(zw X) (pyIter (.ref (zB s))) (PIE X pins σ tg R) E { s with heap:=s.heap.push { cls:=.type "range",data:=.fields #[.int lo t,.int hi u,.int 1 v] },toks:=tk }:=by
 refine wpAny_pyIter_range (IsRange.new ..) (small_one h1 h2 h3 h4) ?_
 have I1:fW X pins σ H { s with heap:=s.heap.push { cls:=.type "range",data:=.fields #[.int lo t,.int hi u,.int 1 v] },toks:=tk }:=I.kept fun b o e=>ak _ e
 refine⟨(s.heap.push { cls:=.type "range",data:=.fields #[.int lo t,.int hi u,.int 1 v] }).objs.size,[(s.heap.push { cls:=.type "range",data:=.fields #[.int lo t,.int hi u,.int 1 v] }).objs.size],_,_,H,rfl,
  I1.kept (t':=tk) fun b o e=>ak _ e,Gm _ lo (hi - lo).toNat,?_,fun b hb=>?_,q⟩
 ·have e1:lo+((0:Nat):Int)*1=lo:=by simp
  have e2:(((hi - lo).toNat:Nat):Int) - ((0:Nat):Int)=Builtin.Range.rangeSize lo hi 1:=by rw [rangeSize_one];split<;>omega
  show IsRangeIter _ _ (lo+((0:Nat):Int)*1) ((((hi - lo).toNat:Nat):Int) - ((0:Nat):Int)) 1
  rw [e1,e2]
  exact aF _ rfl
 ·have e:b=(s.heap.push { cls:=.type "range",data:=.fields #[.int lo t,.int hi u,.int 1 v] }).objs.size:=by simpa using hb
  subst e
  exact I1.JQ (aD _) (I1.jd.fresh (aD _))
def WL (ta:TA):TI:=fun σ H R=>ta σ H fun vs H1=>∃ j:Int,vs=[.int j]/\-(2 ^ 62)<=j/\j<2 ^ 62/\R (WJ 0 j.toNat) H1
theorem A2 {a:Expr}{ta:TA}{p:Pos}(hg:Gl X "range")(hm:X.mg "range"=none)(ha:PA X [a] ta)(hs:starEach [a] X.env=[(false,eval a X.env)]:=by rfl):PI X tg (.Call (.Name "range" p) [a] [] pos) (WL ta):=by
 intro pins s σ H R I h
 refine Call_ (qM I hg hm boot_range (bD (jl (@ha pos pins s σ H _ I h) fun us s1 ⟨vs,H1,I1,r1,q1⟩=>?_) hs rfl))
 obtain⟨j,e,q1,q2,q⟩:=q1
 subst e
 cases r1 with
 | cons r rr =>
  cases rr
  obtain⟨t,rfl⟩:=r
  exact call_range_1 (LR I1 (by omega) (by omega) q1 q2 (by simpa using q))
def aar (wi:TI)(g:TG)(tb:TS):TS:=fun D σ H=>wi σ H fun J H1=>∃ W:Nat->Nat->St->Hp->Prop,(∃ m,W 0 m σ H1)/\∀ i m σ H,W i m σ H ->
 (J.stop i H/\D.nx σ H)∨(J.go i H/\∃ N:St->Hp->Prop,(∀ σ' H',N σ' H'->∃ m',m'<m/\W (i+1) m' σ' H')/\∀ x H',J.VW i H x H'->g x σ H' fun σ2 H2=>tb { D with nx:=N,ct:=N,bk:=D.nx } σ2 H2)
def x8 (fp:List Addr)(h:Heap):Ax:=fp.filterMap fun b=>(h.get? b).map fun o=>(b,o)
theorem qO {fp:List Addr}{h:Heap}{b:Addr}{o:Obj}(hb:b∈fp)(e:h.get? b=some o):(b,o)∈x8 fp h:=bp.mpr ⟨b,hb,by rw [e];rfl⟩
theorem JT {fp:List Addr}{h:Heap}{p:Addr×Obj}(hp:p∈x8 fp h):p.1∈fp/\h.get? p.1=some p.2:=by
 obtain⟨b,hb,e⟩:=bp.mp hp
 cases q:h.get? b with
 | none=>rw [q] at e;cases e
 | some o =>
  rw [q] at e
  have e':(b,o)=p:=bF e
  subst e'
  exact⟨hb,q⟩
theorem fW.pinned {fp:List Addr}(I:fW X pins σ H s)(hf:∀ b∈fp,rW X pins H b)(ho:∀ b∈fp,∃ o,s.heap.get? b=some o/\∀ v,o.data≠.cell v):fW X (pins++x8 fp s.heap) σ H s :=
 I.qL fun p hp=>(au.mp hp).elim (fun z=>I.pin p (aq _ z)) fun z=>by
  obtain⟨hb,e⟩:=JT z
  obtain⟨f0,f1,f2,_⟩:=hf p.1 hb
  obtain⟨o,e',d⟩:=ho p.1 hb
  rw [e] at e';cases e'
  exact⟨e,f0,f1,f2,d⟩
theorem fW.rX {pl:Ax}(I:fW X (pins++pl) σ H s):fW X pins σ H s:=I.qL fun p hp=>I.pin p (aq _ (aA _ hp))
theorem TB {iter:Expr}{body:List Stmt}{wi:TI}{g:TG}{tb:TS} (hp:PassesOwn (model X.prog X.w) X.A X.env X.xe) (hc:X.calm=true) (hi:PI X tg iter wi) (hg:PG X tg g) (hb:Al X body tb)
  (hs:∀ x,foldedSetIterable iter X.env x=pure x:=by intro _;rfl):PS X (.For tg iter body [] pos) (aar wi g tb):=by
 intro pins s σ H D I h
 refine wpAny_For (jl (@hi pins s σ H _ I h) fun v s1 h1=>jl h1 fun Zk s2 h2=>?_) hs
 obtain⟨it,fp,tn,J,H2,e,I2,T,Zl,f2,W,⟨m0,w0⟩,turn⟩:=h2
 subst e
 have stat:∀ {H':Hp},(∀ b∈fp,H' b=none)->∀ b∈fp,rW X pins H' b:=fun hn b hb=>⟨hn b hb,(f2 b hb).2⟩
 refine codeAny_forLoop_any (fun n s'=>∃ i σ' H',fW X pins σ' H' s'/\tn i s'.heap/\(∀ b∈fp,H' b=none)/\W i n σ' H') ?_ m0 ⟨0,σ,H2,I2,Zl,fun b hb=>(f2 b hb).1,w0⟩
 rintro n s3 ⟨i,σ3,H3,I3,st3,fr3,w3⟩
 rcases turn i n σ3 H3 w3 with ⟨stop,qn⟩ | ⟨go,N,hN,step⟩
 ·refine cf hp (jl (T.done X rfl rfl rfl @hc i pins s3 σ3 H3 X.xe I3 (stat fr3) st3 stop) fun r s4 ⟨hr,I4⟩=>?_)
  subst hr
  exact dN ⟨σ3,H3,I4,qn⟩
 ·refine cf hp (jl (T.item X rfl rfl rfl @hc i pins s3 σ3 H3 X.xe I3 (stat fr3) st3 go) fun r s4 ⟨u,hr,h4⟩=>?_)
  subst hr
  refine cf hp (jl h4 fun _ s5 ⟨x,H5,I5,r5,y5,st5,fr5⟩=>?_)
  have I5':=I5.pinned (stat fr5) (T.obj _ _ st5)
  refine cf hp (jl (@hg _ s5 σ3 H5 x u _ I5' r5 (step x H5 y5)) fun _ s6 ⟨σ6,H6,I6,q6⟩=>?_)
  refine cf hp (jl (@hb _ s6 σ6 H6 _ I6 q6) fun f s7 q7=>?_)
  have again:∀ {σ7:St}{H7:Hp},fW X (pins++x8 fp s5.heap) σ7 H7 s7->N σ7 H7->∃ m,m<n/\∃ i σ' H',fW X pins σ' H' s7/\tn i s7.heap/\(∀ b∈fp,H' b=none)/\W i m σ' H':=fun {σ7 H7} I7 n7=>by
   obtain⟨m',hm,w7⟩:=hN σ7 H7 n7
   refine⟨m',hm,i+1,σ7,H7,I7.rX,T.keep _ _ _ st5 fun b hb o e=>(I7.pin (b,o) (aq _ (aq _ (qO hb e)))).1,fun b hb=>?_,w7⟩
   obtain⟨o,e,d⟩:=T.obj _ _ st5 b hb
   exact(I7.pin (b,o) (aq _ (aq _ (qO hb e)))).2.1
  cases f with
  | next=>obtain⟨σ7,H7,I7,n7⟩:=q7;exact again I7 n7
  | cont=>obtain⟨σ7,H7,I7,n7⟩:=q7;exact again I7 n7
  | brk=>obtain⟨σ7,H7,I7,q7⟩:=q7;exact⟨σ7,H7,I7.rX,q7⟩
  | ret v=>obtain⟨x7,σ7,H7,I7,r7,q7⟩:=q7;exact⟨x7,σ7,H7,I7.rX,r7,q7⟩
end
abbrev R2:=V->V->Hp->VK->Prop
def mU (X:Cx)(f:Value->Value->Sem Value)(r:R2):Prop :=
 ∀ (pins:Ax) (s:Shared) (σ:St) (H:Hp) (x y:V) (v u:Value) (Q:VK),fW X pins σ H s->gH x v->gH y u->r x y H Q ->
  (zw X) (f v u) (EP X pins σ Q) X.xe s
def UnR (X:Cx)(f:Value->Sem Value)(r:V->Hp->VK->Prop):Prop :=
 ∀ (pins:Ax) (s:Shared) (σ:St) (H:Hp) (x:V) (v:Value) (Q:VK),fW X pins σ H s->gH x v->r x H Q ->
  (zw X) (f v) (EP X pins σ Q) X.xe s
def jV (X:Cx)(f:Value)(r:List V->Hp->VK->Prop):Prop :=
 ∀ (pins:Ax) (s:Shared) (σ:St) (H:Hp) (xs:List V) (us:Lw) (Q:VK),fW X pins σ H s->gE xs us->r xs H Q ->
  (zw X) (call f us) (EP X pins σ Q) X.xe s
def aas (X:Cx)(r:V->Hp->(Bool->Hp->Prop)->Prop):Prop :=
 ∀ (pins:Ax) (s:Shared) (σ:St) (H:Hp) (x:V) (v:Value) (Q:Bool->Hp->Prop),fW X pins σ H s->gH x v->r x H Q ->
  (zw X) (truthy v) (TP X pins σ Q) X.xe s
def WM (r:R2)(ta tb:TE):TE:=fun σ H Q=>ta σ H fun x H1=>tb σ H1 fun y H2=>r x y H2 Q
def tUn (r:V->Hp->VK->Prop)(ta:TE):TE:=fun σ H Q=>ta σ H fun x H1=>r x H1 Q
def rI (C:Int->Int->Prop)(g:Int->Int->V):R2:=fun x y H Q=>∃ i j,x=.int i/\y=.int j/\C i j/\Q (g i j) H
def OA (g:Int->Int->V):R2:=fun x y H Q=>∃ i j,x=.int i/\y=.int j/\Q (g i j) H
def rU (g:Int->V):V->Hp->VK->Prop:=fun x H Q=>∃ i,x=.int i/\Q (g i) H
section
variable {a b c:Expr}{ta tb tc:TE} 
theorem TC (ha:PE X a ta) (hb:PE X b tb) {R:V->V->Hp->Prop} (I:fW X pins σ H s)
  (h:ta σ H fun x H1=>tb σ H1 fun y H2=>R x y H2) {Q:Px}{f:Value->Value->Sem Value}
  (hf:∀ v u s2 x y H2,fW X pins σ H2 s2->gH x v->gH y u->R x y H2->(zw X) (f v u) Q X.xe s2) :
  (zw X) (eval a X.env) (fun v s₁=>(zw X) (eval b X.env) (fun u s₂=>(zw X) (f v u) Q X.xe s₂) X.xe s₁) X.xe s:=by
 refine jl (@ha pins s σ H _ I h) fun v s1 ⟨x,H1,I1,r1,q1⟩=>?_
 refine jl (@hb pins s1 σ H1 _ I1 q1) fun u s2 ⟨y,H2,I2,r2,q2⟩=>?_
 exact hf v u s2 x y H2 I2 r1 r2 q2
theorem LS {op:Operator}{r:R2}(ho:mU X (binaryOp op) r)(ha:PE X a ta)(hb:PE X b tb):PE X (.BinOp a op b pos) (WM r ta tb):=by
 intro pins s σ H Q I h
 exact wpAny_BinOp (TC ha hb I h fun v u s2 x y H2 I2 rx ry q=>@ho pins s2 σ H2 x y v u Q I2 rx ry q)
theorem WN {op:UnaryOp}{r:V->Hp->VK->Prop}(ho:UnR X (unaryOp op) r)(ha:PE X a ta):PE X (.UnaryOp op a pos) (tUn r ta):=by
 intro pins s σ H Q I h
 exact UnaryOp_ (jl (@ha pins s σ H _ I h) fun v s1 ⟨x,H1,I1,r1,q1⟩=>@ho pins s1 σ H1 x v Q I1 r1 q1)
theorem opI {f:Value->Value->Sem Value}{C:Int->Int->Prop}{g:Int->Int->Int}
  (rule:∀ (i j:Int) (t u:Tok) (s:Shared) (Q:Px) (E:Px),C i j->Q (.int (g i j) s.toks) { s with toks:=s.toks+1 }->(zw X) (f (.int i t) (.int j u)) Q E s) :
  mU X f (rI C fun i j=>.int (g i j)):=by
 intro pins s σ H x y v u Q I rx ry h
 obtain⟨i,j,rfl,rfl,hc,q⟩:=h
 obtain⟨t,rfl⟩:=rx
 obtain⟨t',rfl⟩:=ry
 exact rule i j t t' s _ _ hc ⟨.int (g i j),H,I.tok _,⟨_,rfl⟩,q⟩
theorem WO {f:Value->Value->Sem Value}{g:Int->Int->Int}
  (rule:∀ (i j:Int) (t u:Tok) (s:Shared) (Q:Px) (E:Px),Q (.int (g i j) s.toks) { s with toks:=s.toks+1 }->(zw X) (f (.int i t) (.int j u)) Q E s) :
  mU X f (OA fun i j=>.int (g i j)):=by
 intro pins s σ H x y v u Q I rx ry h
 obtain⟨i,j,rfl,rfl,q⟩:=h
 obtain⟨t,rfl⟩:=rx
 obtain⟨t',rfl⟩:=ry
 exact rule i j t t' s _ _ ⟨.int (g i j),H,I.tok _,⟨_,rfl⟩,q⟩
theorem OY {f:Value->Value->Sem Value}{g:Int->Int->Bool}
  (rule:∀ (i j:Int) (t u:Tok) (s:Shared) (Q:Px) (E:Px),Q (.bool (g i j)) s->(zw X) (f (.int i t) (.int j u)) Q E s) :
  mU X f (OA fun i j=>.bl (g i j)):=by
 intro pins s σ H x y v u Q I rx ry h
 obtain⟨i,j,rfl,rfl,q⟩:=h
 obtain⟨t,rfl⟩:=rx
 obtain⟨t',rfl⟩:=ry
 exact rule i j t t' s _ _ ⟨.bl (g i j),H,I,rfl,q⟩
def WQ (i j:Int):Prop:=0<j/\j<1073741824
theorem TF:mU X (binaryOp .Add) (OA fun i j=>.int (i+j)):=WO fun _ _ _ _ _ _ _ q=>add_int q
theorem TH:mU X (binaryOp .Sub) (OA fun i j=>.int (i - j)):=WO fun _ _ _ _ _ _ _ q=>sub_int q
theorem OZ:mU X (binaryOp .FloorDiv) (rI WQ fun i j=>.int (i / j)):=opI fun i j _ _ _ _ _ hc q=>by
 have h1:(0:Int)<j:=hc.1
 have h2:j<1073741824:=hc.2
 exact floordiv_int (by omega) (by rw [Int.fdiv_eq_ediv_of_nonneg i (by omega)];exact q) (.inl (PyProof.noPylong_small (by omega)))
theorem TJ:mU X (binaryOp .Mod) (rI (fun _ j=>0<j) fun i j=>.int (i % j)):=opI fun i j _ _ _ _ _ hc q=>by
 have h1:(0:Int)<j:=hc
 exact mod_int' (by omega) (by rw [Int.fmod_eq_emod_of_nonneg i (by omega)];exact q)
theorem unI {f:Value->Sem Value}{g:Int->Int}
  (rule:∀ (i:Int) (t:Tok) (s:Shared) (Q:Px) (E:Px),Q (.int (g i) s.toks) { s with toks:=s.toks+1 }->(zw X) (f (.int i t)) Q E s) :
  UnR X f (rU fun i=>.int (g i)):=by
 intro pins s σ H x v Q I rx h
 obtain⟨i,rfl,q⟩:=h
 obtain⟨t,rfl⟩:=rx
 exact rule i t s _ _ ⟨.int (g i),H,I.tok _,⟨_,rfl⟩,q⟩
theorem TK:UnR X (unaryOp .USub) (rU fun i=>.int (-i)):=unI fun _ _ _ _ _ q=>neg_int q
end
section
variable {a b c:Expr}{ta tb tc:TE} 
theorem x9 {Q:VK}{k k':Bool}(I:fW X pins σ H s)(q:Q (.bl k) H)(e:k=k'):EP X pins σ Q (.bool k') s:=by
 subst e
 exact⟨.bl k,H,I,rfl,q⟩
theorem WR:mU X (compareOp .Lt) (OA fun i j=>.bl (decide (i<j))):=OY fun _ _ _ _ _ _ _ q=>lt_int q
theorem WS:mU X (compareOp .LtE) (OA fun i j=>.bl (decide (i<=j))):=OY fun _ _ _ _ _ _ _ q=>le_int q
theorem WT:mU X (compareOp .Gt) (OA fun i j=>.bl (decide (j<i))):=OY fun _ _ _ _ _ _ _ q=>gt_int q
theorem WU:mU X (compareOp .GtE) (OA fun i j=>.bl (decide (j<=i))):=OY fun _ _ _ _ _ _ _ q=>ge_int q
theorem JU:mU X (compareOp .In) (fun x y H Q=>∃ i j,x=.str i/\y=.str j/\Q (.bl (!(Builtin.Str.occurrences j i 0 j.length 1).isEmpty)) H):=by
 intro pins s σ H x y v u Q I rx ry h
 obtain⟨i,j,rfl,rfl,q⟩:=h
 obtain⟨t,rfl⟩:=rx
 obtain⟨t',rfl⟩:=ry
 exact in_str (x9 I q rfl)
theorem TL:mU X (compareOp .Is) (fun x y H Q=>y=.lJ/\Q (.bl (decide (x=.lJ))) H):=by
 intro pins s σ H x y v u Q I rx ry h
 obtain⟨rfl,q⟩:=h
 cases ry
 refine is_none_gen (x9 I q ?_)
 cases x<;>first
  | (cases rx;rfl)
  | (obtain⟨t,rfl⟩:=rx;rfl)
theorem O0:mU X (compareOp .IsNot) (fun x y H Q=>y=.lJ/\Q (.bl (!decide (x=.lJ))) H):=by
 intro pins s σ H x y v u Q I rx ry h
 obtain⟨rfl,q⟩:=h
 cases ry
 refine isnot_none_gen (x9 I q ?_)
 cases x<;>first
  | (cases rx;rfl)
  | (obtain⟨t,rfl⟩:=rx;rfl)
theorem Cd:mU X (compareOp .NotIn) (fun x y H Q=>∃ i j,x=.str i/\y=.str j/\Q (.bl (!(!(Builtin.Str.occurrences j i 0 j.length 1).isEmpty))) H):=by
 intro pins s σ H x y v u Q I rx ry h
 obtain⟨i,j,rfl,rfl,q⟩:=h
 obtain⟨t,rfl⟩:=rx
 obtain⟨t',rfl⟩:=ry
 exact notIn_str (x9 I q rfl)
theorem mU.or {f:Value->Value->Sem Value}{r r':R2}(h:mU X f r)(h':mU X f r'):mU X f (fun x y H Q=>r x y H Q∨r' x y H Q):=by
 intro pins s σ H x y v u Q I rx ry q
 rcases q with q|q
 ·exact @h pins s σ H x y v u Q I rx ry q
 ·exact @h' pins s σ H x y v u Q I rx ry q
theorem LU (b:Expr){op:CmpOp}(h:op≠.In:=by decide)(h2:op≠.NotIn:=by decide):behindInMarks op b=false:=by
 have e1:(op==CmpOp.In)=false:=by cases op<;>first|rfl|exact absurd rfl h
 have e2:(op==CmpOp.NotIn)=false:=by cases op<;>first|rfl|exact absurd rfl h2
 cases b<;>simp [behindInMarks,e1,e2]
theorem O1 {op:CmpOp}{r:R2}(ho:mU X (compareOp op) r)(ha:PE X a ta)(hb:PE X b tb)(hm:behindInMarks op b=false):PE X (.Compare a [op] [b] pos) (WM r ta tb):=by
 intro pins s σ H Q I h
 exact wpAny_Compare1 (TC ha hb I h fun v u s2 x y H2 I2 rx ry q=>@ho pins s2 σ H2 x y v u Q I2 rx ry q) hm
def R9 (t:TE):TT:=fun σ H Q=>t σ H fun x H'=>∃ k,x=.bl k/\Q k H'
theorem IC {op:CmpOp}{r:R2}(ho:mU X (compareOp op) r)(ha:PE X a ta)(hb:PE X b tb)(hm:behindInMarks op b=false):PT X (.Compare a [op] [b] pos) (R9 (WM r ta tb)):=by
 intro pins s σ H Q I h
 refine wpAny_isTrue_Compare1 (jl (@ha pins s σ H _ I h) fun v s1 ⟨x,H1,I1,r1,q1⟩=>jl (@hb pins s1 σ H1 _ I1 q1) fun u s2 ⟨y,H2,I2,r2,q2⟩ =>
  jl (@ho pins s2 σ H2 x y v u _ I2 r1 r2 q2) fun c s3 ⟨z,H3,I3,r3,k,e,q3⟩=>?_) hm
 subst e
 cases r3
 exact cq ⟨H3,I3,q3⟩
def TM (r r':R2)(ta tb tc:TE):TE:=fun σ H Q=>ta σ H fun x H1=>tb σ H1 fun y H2=>r x y H2 fun z H3=>∃ k,z=.bl k /\
 (if k=true then tc σ H3 fun w' H4=>r' y w' H4 Q else Q (.bl false) H3)
theorem LV {op TN:CmpOp}{r r':R2} (ho:mU X (compareOp op) r) (LD:mU X (compareOp TN) r') (ha:PE X a ta) (hb:PE X b tb) (hc:PE X c tc)
  (hm:lastMarks [op,TN] [b,c]=false:=by with_unfolding_all rfl):PT X (.Compare a [op,TN] [b,c] pos) (R9 (TM r r' ta tb tc)):=by
 intro pins s σ H Q I h
 refine isTrue_chain (jl (@ha pins s σ H _ I h) fun v s1 ⟨x,H1,I1,r1,q1⟩=>test_link (jl (@hb pins s1 σ H1 _ I1 q1) fun u s2 ⟨y,H2,I2,r2,q2⟩ =>
  jl (@ho pins s2 σ H2 x y v u _ I2 r1 r2 q2) fun d s3 ⟨z,H3,I3,r3,k,e,q3⟩=>?_)) hm
 subst e
 cases r3
 refine cq ?_
 cases k with
 | false =>
  obtain⟨k',e',q'⟩:=q3
  cases e'
  exact ite_ff ⟨H3,I3,q'⟩
 | true =>
  refine ite_tt (test_last (jl (@hc pins s3 σ H3 _ I3 q3) fun w' s4 ⟨z',H4,I4,r4,q4⟩=>jl (@LD pins s4 σ H4 y z' u w' _ I4 r2 r4 q4) fun d' s5 ⟨z2,H5,I5,r5,k2,e2,q5⟩=>?_))
  subst e2
  cases r5
  exact cq ⟨H5,I5,q5⟩
def TQ (K:Fg)(x:V)(H:Hp)(k:Bool):Prop :=
 match x with
 | .lJ=>k=false
 | .bl b=>k=b
 | .int i=>k=(i != 0)
 | .str y=>y.length<=sizeLine/\k=((y.length:Int) != 0)
 | .VT y=>y.size<=sizeLine/\k=((y.size:Int) != 0)
 | .ref p=>(∃ xs,qd K H p xs/\k=!xs.isEmpty)∨(∃ xs,tm K H p xs/\k=!xs.isEmpty)∨∃ fE,H p=some (.dK fE)/\k=!fE.isEmpty
 | _=>False
theorem Gn {κ:Type}{fE:List (κ×V)}{vs:List (κ×Value)}(r:KV fE vs):(!vs.isEmpty)=!fE.isEmpty:=by
 cases r<;>rfl
theorem ya {xs:List V}{its:Lw}(r:gE xs its):(!its.toArray.isEmpty)=!xs.isEmpty:=by
 cases r<;>simp
theorem uv:(sizeLine:Nat)<2 ^ 63:=by rw [sizeLine_eq];decide
theorem TR:aas X (fun x H Q=>∃ k,TQ X.K x H k/\Q k H):=by
 intro pins s σ H x v Q I rx h
 obtain⟨k,e,q⟩:=h
 have hl:=uv
 have hs:sizeLine=16777216:=sizeLine_eq
 cases x with
 | lJ =>
  cases rx
  have e':k=false:=e
  subst e'
  exact truthy_none ⟨H,I,q⟩
 | bl b =>
  cases rx
  have e':k=b:=e
  subst e'
  exact cq ⟨H,I,q⟩
 | int i =>
  obtain⟨t,rfl⟩:=rx
  have e':k=(i != 0):=e
  subst e'
  exact PySem.P.truthy_int ⟨H,I,q⟩
 | str y =>
  obtain⟨t,rfl⟩:=rx
  obtain⟨hy,e'⟩:y.length<=sizeLine/\k=((y.length:Int) != 0):=e
  subst e'
  exact PySem.P.truthy_str (by omega) ⟨H,I.tok _,q⟩
 | VT y =>
  obtain⟨t,rfl⟩:=rx
  obtain⟨hy,e'⟩:y.size<=sizeLine/\k=((y.size:Int) != 0):=e
  subst e'
  exact W.truthy_bytes (by omega) ⟨H,I.tok _,q⟩
 | ref p =>
  cases rx
  have e':(∃ xs,qd X.K H p xs/\k=!xs.isEmpty)∨(∃ xs,tm X.K H p xs/\k=!xs.isEmpty)∨∃ fE,H p=some (.dK fE)/\k=!fE.isEmpty:=e
  rcases e' with ⟨xs,hx,e'⟩ | ⟨xs,hx,e'⟩ | ⟨fE,hx,e'⟩
  ·subst e'
   obtain⟨its,r,pl,hz⟩:=I.list hx
   have hlen:=r.length
   exact wpAny_truthy_list pl.isList (by simp only [ax];omega) ⟨H,I.tok _,by rw [ya r];exact q⟩
  ·subst e'
   obtain⟨its,r,pl,hz⟩:=I.tuple hx
   have hlen:=r.length
   exact truthy_tuple pl (by simp only [ax];omega) ⟨H,I.tok _,by rw [ya r];exact q⟩
  ·subst e'
   obtain⟨hz,hS,vs,r,m⟩:fE.length<=sizeLine/\(p==sysModules)=false/\∃ vs,KV fE vs/\s.heap.DictOf (gS X.prog X.w) p vs:=I.jd p _ hx
   have hlen:fE.length=vs.length:=eJ r
   exact wpAny_truthy_dict hS m (by omega) ⟨H,I.tok _,by rw [Gn r];exact q⟩
 | _=>exact(show False from e).elim
theorem D7 (ha:PE X a ta)(he:∀ whole,isTrue a X.env whole=(do let v ← whole;standAt a.pos;holding [v] (truthy v))) :
  PT X a (fun σ H Q=>ta σ H fun x H'=>∃ k,TQ X.K x H' k/\Q k H'):=by
 intro pins s σ H Q I h
 exact isTrue_plain (jl (@ha pins s σ H _ I h) fun v s1 ⟨x,H1,I1,r1,q1⟩=>TR pins s1 σ H1 x v Q I1 r1 q1) (he _)
theorem Gp:mU X (binaryOp .Add) (fun x y H Q=>∃ i j,x=.str i/\y=.str j/\i.length+j.length<=sizeLine/\Q (.str (i++j)) H):=by
 intro pins s σ H x y v u Q I rx ry h
 obtain⟨i,j,rfl,rfl,hz,q⟩:=h
 obtain⟨t,rfl⟩:=rx
 obtain⟨t',rfl⟩:=ry
 exact add_str (fun t' tk=>⟨.str (i++j),H,I.tok _,⟨_,rfl⟩,q⟩) hz
theorem uQ {x:V}{us:Lw}(r:gE [x] us):∃ u,us=[u]/\gH x u:=by
 cases r with
 | cons r1 r2=>cases r2;exact⟨_,rfl,r1⟩
theorem WV {x y:V}{us:Lw}(r:gE [x,y] us):∃ u w',us=[u,w']/\gH x u/\gH y w':=by
 cases r with
 | cons r1 r2 =>
  cases r2 with
  | cons r3 r4=>cases r4;exact⟨_,_,rfl,r1,r3⟩
theorem JV:jV X (.type "int") (fun xs H Q=>(∃ i,xs=[.int i]/\Q (.int i) H)∨∃ k,xs=[.bl k]/\Q (.int (if k then 1 else 0)) H):=by
 intro pins s σ H xs us Q I r h
 rcases h with ⟨i,rfl,q⟩ | ⟨k,rfl,q⟩
 ·obtain⟨u,rfl,t,rfl⟩:=uQ r
  exact call_int_int ⟨.int i,H,I,⟨_,rfl⟩,q⟩
 ·obtain⟨u,rfl,r1⟩:=uQ r
  cases r1
  exact call_int_bool ⟨.int (if k then 1 else 0),H,I.tok _,⟨_,rfl⟩,q⟩
end
structure Gq (h:Heap) (x dx C:Addr) (mA:Str->Ow):Prop where
 obj:h.get? x=some (W.instObj C dx)
 ns:h.Ns1 dx mA
 ne:dx≠x
theorem JW {h:Heap}{dx:Addr}{mA:Str->Ow}(n:h.Ns1 dx mA):∃ od,h.get? dx=some od/\∀ name,W.lookIn name od=some (mA name):=by
 obtain⟨o,es,ep,ho,hd,hk,_,hm⟩:=n
 refine⟨o,ho,fun name=>?_⟩
 have e:=hm name
 unfold nsFind findBy at e
 rw [← Array.find?_toList] at e
 unfold W.lookIn
 rw [hd]
 dsimp only
 split
 ·rename_i y q
  rw [q] at e
  exact bQ some e
 ·rename_i q
  rw [q] at e
  have a:es.toList.any (·.refKey)=false:=by
   rw [List.any_eq_false]
   intro y hy
   obtain⟨z,t,aat⟩:=hk y (Array.mem_toList_iff.mp hy)
   simp [DictEntry.refKey,aat]
  have a':¬ es.toList.any (·.refKey)=true:=by rw [a];exact aQ
  rw [ao a']
  exact bQ some e
theorem Gq.look {h:Heap}{x dx C:Addr}{mA:Str->Ow}(I:Gq h x dx C mA):∃ od,W.InstAt h x (W.instObj C dx) C (some od)/\∀ name,W.lookIn name od=some (mA name) :=
 let ⟨od,ho,hl⟩:=JW I.ns
 ⟨od,⟨I.obj,rfl,rfl,ho⟩,hl⟩
section
variable {prog:Program}{K:Fg}{x dx C f:Addr}{mA:Str->Ow}{name:Str}{v:Value}
theorem O2 {expr:Bool}{Q:Px} (X:K.In s.heap) (I:Gq s.heap x dx C mA) (hg:W.plainGet K C name=true) (hh:W.hasDictIn K C=true)
  (ha:W.findIn K (.ref C) name=some none) (hv:mA name=some v) (hv':W.handedIn v=true) (h:Q v { s with toks:=s.toks+1 }) :
  wpAny (model prog w) A (getAttr (.ref x) name expr) Q E s:=by
 obtain⟨od,J,hl⟩:=I.look
 exact W.get_value X J (W.plainGet_of hg).1 (W.findObj_own hh ha rfl (by rw [hl,hv])) hv' h
theorem LW {pl:Sem Bool}{Q:Value×Lw->Shared->Prop} (X:K.In s.heap) (I:Gq s.heap x dx C mA) (hg:W.plainGet K C name=true)
  (hf:W.findIn K (.ref C) name=some (some (.ref f))) (ht:W.isFn K (.ref f)=true) (hv:mA name=none) (h:Q (.ref f,[.ref x]) s) :
  wpAny (model prog w) A (getMethod (.ref x) name pl) Q E s:=by
 obtain⟨od,J,hl⟩:=I.look
 exact W.method_fn X J (W.plainGet_of hg).1 (W.plainGet_of hg).2 hf (cD.mp ht) (by show (W.lookIn name od).map (·.isSome)=some false;rw [hl,hv];rfl) h
theorem O3 {ns:Lr}{Q:Unit->Shared->Prop} (X:K.In s.heap) (I:Gq s.heap x dx C mA)
  (hs:W.findIn K (.ref C) "__setattr__"=some (some (.builtin "object.__setattr__"))) (hp:W.plainOver K C=true) (ht:W.takerIn K C name=some none) (hh:W.hasDictIn K C=true)
  (hw:PySem.Within mA ns) (hsz:ns.length<=sizeLine)
  (h:∀ h',Gq h' x dx C (fun y=>if y=name then some v else mA y)->Heap.SameBut dx s.heap h'->Q () { s with heap:=h',toks:=s.toks+2 }) :
  wpAny (model prog w) A (setAttr (.ref x) name v) Q E s:=by
 obtain⟨od,J,hl⟩:=I.look
 refine W.set_plain X J hs (W.osa_open (s:={ s with toks:=s.toks+1 }) (r:=none) X J hp ht fun b=>?_)
 obtain⟨cd,hc,LF⟩:=W.any_some hh
 have hx:s.heap.get? x=some ⟨.ref C,some dx,.plain,#[]⟩:=I.obj
 refine ab (aw (ab (ab (wpAny_loadPart hx (ab (W.Looks.here (s:={ s with toks:=s.toks+1 }) (W.looks_clsIn X hc) ?_))))))
 rw [LF]
 refine aw (a:=some dx) (ab (aw (ab ?_)))
 refine wpAny_nsSet1 (s:={ s with toks:=s.toks+1 }) I.ns fun h' OB DY=>?_
 obtain⟨oD,esD,epD,hoD,hdD,hcD⟩:=OB.count (PySem.Within.cons name v hw)
 refine ab (wpAny_lookBehind hoD (by rw [hdD];exact pastItsLine_dict (bH hcD (by rw [ar];omega))) ?_)
 exact aw (h _ ⟨(DY.2 _ (Ne.symm I.ne)).trans I.obj,OB,I.ne⟩ DY)
theorem LX {vs:Lw}{kw:List (Str×Value)} (X:K.In s.heap) (hm:W.makesIn K C=true)
  (hi:W.findIn K (.ref C) "__init__"=some (some (.ref f))) (hf:W.typeIn K (.ref f)=some (.type "function"))
  (h:codeAny (model prog w) (A.under (.builtin "type.__call__" ⟨.ref C::vs,kw⟩)) (.call (.ref f) ⟨.ref ((zB s)+1)::vs,kw⟩) (W.InitBack ((zB s)+1) R)
   { s with heap:=(s.heap.push W.emptyDict).push (W.instObj C (zB s)) }) :
  codeAny (model prog w) A (.call (.ref C) ⟨vs,kw⟩) R s:=by
 obtain⟨hh,g,d,t,os⟩:=s
 exact W.make_core (W.makes_of X hm) (W.looks_findIn X hi) (fun self=>W.bind_fn X self hf) (.inl rfl) h
end
def oQ (f:Str)(v:V):List (Str×V)->List (Str×V)
 | []=>[(f,v)]
 | (g,x)::r=>if g=f then (g,v)::r else (g,x)::oQ f v r
theorem wL (f g:Str)(v:V):∀ fs:List (Str×V),(oQ f v fs).lookup g=if g=f then some v else fs.lookup g
 | []=>by
  show List.lookup g [(f,v)]=_
  by_cases h:g=f
  ·have hb:(g==f)=true:=cD.mpr h
   simp only [List.lookup,hb,ai h]
  ·have hb:(g==f)=false:=aW.mpr h
   simp only [List.lookup,hb,ao h]
 | (k,x)::r=>by
  have ih:=wL f g v r
  rw [show oQ f v ((k,x)::r)=(if k=f then (k,v)::r else (k,x)::oQ f v r) from rfl]
  by_cases hk:k=f
  ·rw [ai hk]
   by_cases h:g=k
   ·have hb:(g==k)=true:=cD.mpr h
    simp only [List.lookup,hb,ai (h.trans hk)]
   ·have hb:(g==k)=false:=aW.mpr h
    simp only [List.lookup,hb,ao (fun e:g=f=>h (e.trans hk.symm))]
  ·rw [ao hk]
   by_cases h:g=k
   ·have hb:(g==k)=true:=cD.mpr h
    simp only [List.lookup,hb,ao (fun e:g=f=>hk (h.symm.trans e))]
   ·have hb:(g==k)=false:=aW.mpr h
    simp only [List.lookup,hb]
    exact ih
theorem vQ (f:Str)(v:V):∀ fs:List (Str×V),f∈(oQ f v fs).map (·.1)/\∀ g,g∈fs.map (·.1)->g∈(oQ f v fs).map (·.1)
 | []=>⟨by simp [oQ],fun g h=>by simp at h⟩
 | (k,x)::r=>by
  obtain⟨i1,i2⟩:=vQ f v r
  rw [show oQ f v ((k,x)::r)=(if k=f then (k,v)::r else (k,x)::oQ f v r) from rfl]
  by_cases hk:k=f
  ·rw [ai hk]
   subst hk
   exact⟨by simp,fun g h=>by simpa using h⟩
  ·rw [ao hk]
   refine⟨?_,fun g h=>?_⟩
   ·rw [aa]
    exact af _ i1
   ·rw [aa] at h ⊢
    rcases ah.mp h with e|e
    ·exact ah.mpr (.inl e)
    ·exact af _ (i2 g e)
theorem wM (f:Str)(v:V):∀ fs:List (Str×V),(oQ f v fs).length<=fs.length+1
 | []=>by simp [oQ]
 | (k,x)::r=>by
  have ih:=wM f v r
  rw [show oQ f v ((k,x)::r)=(if k=f then (k,v)::r else (k,x)::oQ f v r) from rfl]
  by_cases hk:k=f
  ·rw [ai hk,ar,ar];omega
  ·rw [ao hk,ar,ar];omega
theorem rK.some_of {o:Ow}(r:rK (some v) o):∃ u,o=some u/\gH v u:=by
 cases o with
 | none=>exact(show False from r).elim
 | some u=>exact⟨u,rfl,r⟩
theorem rK.none_of {o:Ow}(r:rK none o):o=none:=by
 cases o with
 | none=>rfl
 | some u=>exact(show False from r).elim
theorem JX (r:gH v u):W.handedIn u=true:=by
 cases v with
 | lJ=>cases (show u=Value.none from r);rfl
 | bl b=>cases (show u=Value.bool b from r);rfl
 | int i=>obtain⟨t,e⟩:=(show ∃ t,u=Value.int i t from r);cases e;rfl
 | str x=>obtain⟨t,e⟩:=(show ∃ t,u=Value.str x t from r);cases e;rfl
 | VT b=>obtain⟨t,e⟩:=(show ∃ t,u=Value.bytes b t from r);cases e;rfl
 | Ze b=>obtain⟨t,e⟩:=(show ∃ t,u=Value.float b t from r);cases e;rfl
 | ref a=>cases (show u=Value.ref a from r);rfl
 | ty n=>cases (show u=Value.type n from r);rfl
section
variable {P:Program}{H':Hp}{h h':Heap}{C dx:Addr}{fs Ak:List (Str×V)}
theorem Ce (jd:um P w H h)(e:H a=some (.ins C dx fs)):∃ mA,Gq h a dx C mA/\(∀ f,rK (fs.lookup f) (mA f))/\PySem.Within mA (fs.map (·.1))/\fs.length<=1000/\H dx=some (.own a):=by
 obtain⟨d,z,ne,ob,mA,n,r,q⟩:=(show j9 P w H h a (.ins C dx fs) from jd a _ e)
 exact⟨mA,⟨ob,n,ne⟩,r,q,z,d⟩
end
structure JY (K:Fg) (C:Addr):Prop where
 pg:W.plainGet K C Str.empty=true
 hd:W.hasDictIn K C=true
 po:W.plainOver K C=true
 sa:W.findIn K (.ref C) "__setattr__"=some (some (.builtin "object.__setattr__"))
theorem JY.get {K:Fg}{C:Addr}(c:JY K C)(f:Str):W.plainGet K C f=true:=c.pg
def uw (K:Fg)(C:Addr)(f:Str):Prop:=W.findIn K (.ref C) f=some none
theorem uw.WW {K:Fg}{C:Addr}{f:Str}(n:uw K C f):W.takerIn K C f=some none:=by
 unfold W.takerIn
 rw [show W.findIn K (.ref C) f=some none from n]
 rfl
structure JZ (K:Fg) (C:Addr) (m:Str) (f:Addr):Prop where
 at_:W.findIn K (.ref C) m=some (some (.ref f))
 fn:W.isFn K (.ref f)=true
 kp:W.keepIn K (.ref f)=true
section
variable {C dx:Addr}{fs:List (Str×V)}{f:Str}   
theorem Gr {b:Bool}{Q:Px} (I:fW X pins σ H s) (e:H a=some (.ins C dx fs)) (c:JY X.K C) (n:uw X.K C f) (l:fs.lookup f=some v)
  (h:∀ u s',fW X pins σ H s'->gH v u->Q u s'):wpAny (model X.prog X.w) A (getAttr (.ref a) f b) Q E s:=by
 obtain⟨mA,O,r,_,_,_⟩:=Ce I.jd e
 obtain⟨u,hu,ru⟩:=rK.some_of (v:=v) (o:=mA f) (by rw [← l];exact r f)
 exact O2 I.xo O (c.get f) c.hd n hu (JX ru) (h u _ (I.tok _) ru)
theorem yb {m:Str}{g:Addr}{pl:Sem Bool}{Q:Value×Lw->Shared->Prop} (I:fW X pins σ H s) (e:H a=some (.ins C dx fs)) (c:JY X.K C) (k:JZ X.K C m g) (l:fs.lookup m=none)
  (h:Q (.ref g,[.ref a]) s):wpAny (model X.prog X.w) A (getMethod (.ref a) m pl) Q E s:=by
 obtain⟨mA,O,r,_,_,_⟩:=Ce I.jd e
 have hn:mA m=none:=rK.none_of (by rw [← l];exact r m)
 exact LW I.xo O (c.get m) k.at_ k.fn hn h
theorem Gs {y:V}{Q:Unit->Shared->Prop} (I:fW X pins σ H s) (e:H a=some (.ins C dx fs)) (c:JY X.K C) (n:uw X.K C f) (hl:fs.length<1000) (ry:gH y u)
  (h:∀ s',fW X pins σ (upd H a (.ins C dx (oQ f y fs))) s'->Q () s'):wpAny (model X.prog X.w) A (setAttr (.ref a) f u) Q E s:=by
 obtain⟨mA,O,r,wi,_,ho⟩:=Ce I.jd e
 have hz:(fs.map (·.1)).length<=sizeLine:=by rw [ae,sizeLine_eq];omega
 refine O3 I.xo O c.sa c.po n.WW c.hd wi hz fun h' O' sb=>h _ ?_
 have hd:∃ o,h'.get? dx=some o:=let ⟨o,_,_,e',_⟩:=O'.ns;⟨o,e'⟩
 refine I.write (x:=a) (e:=dx) (by rw [e];exact aO) (.inr ho) (fun b q hb z=>(sb.2 b hb).trans z) hd ?_
 refine⟨by rw [fU O.ne];exact ho,?_,O.ne,O'.obj,_,O'.ns,fun g=>?_,fun g hg=>?_⟩
 ·have:=wM f y fs;omega
 ·show rK ((oQ f y fs).lookup g) (if g=f then some u else mA g)
  rw [wL]
  by_cases q:g=f
  ·rw [ai q,ai q];exact ry
  ·rw [ao q,ao q];exact r g
 ·by_cases q:g=f
  ·rw [q];exact(vQ f y fs).1
  ·refine(vQ f y fs).2 g (wi g fun z=>hg ?_)
   show (if g=f then some u else mA g)=none
   rw [ao q];exact z
theorem fW.made (I:fW X pins σ H s):fW X pins σ (upd (upd H (zB s) (.own ((zB s)+1))) ((zB s)+1) (.ins C (zB s) []))
  { s with heap:=(s.heap.push W.emptyDict).push (W.instObj C (zB s)) }:=by
 have e1:(s.heap.push W.emptyDict).get? (zB s)=some W.emptyDict:=aF s.heap rfl
 have e2:((s.heap.push W.emptyDict).push (W.instObj C (zB s))).get? ((zB s)+1)=some (W.instObj C (zB s)):=by
  have:=aF (s.heap.push W.emptyDict) (o:=W.instObj C (zB s)) rfl
  rwa [d6] at this
 have e3:(s.heap.push W.emptyDict).Ns (zB s) (fun _=>none):=⟨W.emptyDict,#[],_,e1,rfl,(fun e he=>absurd he (by simp)),fun _=>rfl⟩
 have I1:=I.laid (a:=(zB s)) (o:=.own ((zB s)+1)) (h':=s.heap.push W.emptyDict) (t':=s.toks) (fun b u q=>ak _ q) (aD _) ⟨_,e1⟩
 refine I1.laid (a:=(zB s)+1) (o:=.ins C (zB s) []) (t':=s.toks) (fun b u q=>ak _ q) (Nat.le_of_eq (d6 _ _)) ?_
 have ne:(zB s)≠(zB s)+1:=aP (dA _)
 refine⟨by rw [fU ne,gp],cW _,ne,e2,fun _=>none,(Heap.Ns1.of_empty e3).at fun o q=>ak _ q,fun _=>aO,fun y hy=>absurd rfl hy⟩
theorem O4 {prog:Program}{env:Env}{Q:Px} (hb:attributeBase e f env (eval e env)=eval e env)
  (h:wpAny (model prog w) A (eval e env) (fun o s₁=>wpAny (model prog w) A (getAttr o f true) Q E s₁) E s):wpAny (model prog w) A (eval (.Attribute e f pos) env) Q E s :=
 Attribute_any_ h (by rw [arm_eval_Attribute,hb])
end
def aau (K:Fg)(ta:TE)(f:Str):TE:=fun σ H Q=>ta σ H fun x H1=>∃ a C dx fs v,x=.ref a/\H1 a=some (.ins C dx fs)/\JY K C/\uw K C f/\fs.lookup f=some v/\Q v H1
def aav (K:Fg)(ta tv:TE)(f:Str):TS:=fun D σ H=>tv σ H fun y H1=>ta σ H1 fun x H2=>∃ a C dx fs,x=.ref a/\H2 a=some (.ins C dx fs)/\JY K C/\uw K C f/\fs.length<1000 /\
 D.nx σ (upd H2 a (.ins C dx (oQ f y fs)))
section
variable {value:Expr}{f:Str}{pos' Cf:Pos}{ta tv:TE}
theorem LY (he:PE X e ta)(hb:attributeBase e f X.env (eval e X.env)=eval e X.env):PE X (.Attribute e f pos) (aau X.K ta f):=by
 intro pins s σ H Q I h
 refine O4 hb (jl (@he pins s σ H _ I h) fun u s1 ⟨x,H1,I1,rx,a,C,dx,fs,v,ex,ea,c,n,l,q⟩=>?_)
 subst ex
 obtain rfl:u=Value.ref a:=rx
 exact Gr I1 ea c n l fun u' s2 I2 ru=>⟨v,H1,I2,ru,q⟩
theorem LZ (ha:PE X o ta)(hv:PE X value tv)(hs:swapsWith value (some (.Attribute o f pos')) pos.line X.env=pure false):PS X (.Assign [.Attribute o f pos'] value pos) (aav X.K ta tv f):=by
 intro pins s σ H D I h
 refine plainObj_wpAny_Assign_Attribute (jl (@hv pins s σ H _ I h) fun u s1 ⟨y,H1,I1,ry,q⟩=>jl (@ha pins s1 σ H1 _ I1 q) fun ov s2 ⟨x,H2,I2,rx,a,C,dx,fs,ex,ea,c,n,l,q2⟩=>?_) hs
 subst ex
 obtain rfl:ov=Value.ref a:=rx
 exact Gs I2 ea c n l ry fun s3 I3=>⟨σ,_,I3,q2⟩
end
section
variable {Q:Px}{c:Value}{b:Bool}
end
structure j3 (k:Nat) (A:Around):Prop where
 hd:A.handled=none
 dp:A.depth+3*k+5<recursionLimit
 un:A.units+16*k+200<cLine
theorem j3.mono {j k:Nat}(r:j3 k A)(h:j<=k):j3 j A:=⟨r.hd,by have:=r.dp;omega,by have:=r.un;omega⟩
theorem j3.deeper {k:Nat}{A:Around}(r:j3 (k+1) A)(env:Env):j3 k (A.deeper env) :=
 ⟨r.hd,by have:=r.dp;show A.depth+1+3*k+5<_;omega,by have:=r.un;show A.units+3+16*k+200<_;omega⟩
theorem Gu {C:Addr}{us:Lw}{kw:List (Str×Value)}:(A.under (.builtin "type.__call__" ⟨.ref C::us,kw⟩)).depth=A.depth+1:=by
 first|rfl|simp [Around.under,Code.weight,Code.isCreation,Code.isGuard,Code.isCaller,Code.frames,Code.isFrame,guardIds]
theorem Gv {C:Addr}{us:Lw}{kw:List (Str×Value)}:(A.under (.builtin "type.__call__" ⟨.ref C::us,kw⟩)).units=A.units+1:=by
 first|rfl|simp [Around.under,Code.cUnits,Code.frames,Code.isFrame]
theorem j3.make {k:Nat}(r:j3 (k+1) A)(C:Addr)(us:Lw)(kw:List (Str×Value)):j3 k (A.under (.builtin "type.__call__" ⟨.ref C::us,kw⟩)) :=
 ⟨r.hd,by have:=r.dp;rw [Gu];omega,by have:=r.un;rw [Gv];omega⟩
theorem j3.depth {k:Nat}{A:Around}(r:j3 k A):A.depth<recursionLimit:=by have:=r.dp;omega
theorem j3.units {k:Nat}{A:Around}(r:j3 k A):A.units+64<cLine:=by have:=r.un;omega
def TU:TA:=fun _ H Q=>Q [] H
def WX (ta:TE)(tr:TA):TA:=fun σ H Q=>ta σ H fun x H1=>tr σ H1 fun xs H2=>Q (x::xs) H2
section
variable {te:TE}{t:TA} 
theorem rY:PA X [] TU:=fun _ _ _ _ H Q I h=>bL ⟨[],H,I,.nil,h⟩
theorem nB (ha:PE X e te)(hr:PA X es t)(hs:zE e es X:=by rfl):PA X (e::es) (WX te t):=by
 intro pos pins s σ H Q I h
 rw [hs]
 show wpAny _ _ (spliced ((false,eval e X.env)::backTo pos (starEach es X.env))) _ _ s
 refine bq (jl (@ha pins s σ H _ I h) fun u s1 ⟨x,H1,I1,r1,q1⟩=>?_)
 exact jl (@hr pos pins s1 σ H1 _ I1 q1) fun us s2 ⟨xs,H2,I2,r2,q2⟩=>⟨x::xs,H2,I2,.cons r1 r2,q2⟩
def aaw (t:TA):TE:=fun σ H Q=>t σ H fun xs H1=>xs.length<=sizeLine/\∀ p,H1 p=none->Q (.ref p) (upd H1 p (.tup xs))
def aax (t:TA):TE:=fun σ H Q=>t σ H fun xs H1=>xs.length<=sizeLine/\∀ p,H1 p=none->Q (.ref p) (upd H1 p (.lst xs))
theorem L3 {x1}(h:PA X es t):PE X (.Tuple es x1 pos) (aaw t):=by
 intro pins s σ H Q I hq
 refine wpAny_Tuple_spliced (jl (@h pos pins s σ H _ I hq) fun us s1 ⟨xs,H1,I1,r,z,q⟩=>⟨by rw [← r.length];exact z,?_⟩)
 have hf:H1 (zB s1)=none:=I1.jd.fresh (aD _)
 refine⟨.ref (zB s1),upd H1 (zB s1) (.tup xs),I1.laid (t':=s1.toks) (fun b u e=>ak _ e) (aD _) ?_,rfl,q _ hf⟩
 exact⟨z,us,r,⟨_,aF _ rfl,rfl,_,rfl⟩⟩
theorem L4 (h:PA X es t):PE X (.List es pos) (aax t):=by
 intro pins s σ H Q I hq
 refine wpAny_List_spliced (jl (@h pos pins s σ H _ I hq) fun us s1 ⟨xs,H1,I1,r,z,q⟩=>⟨by rw [← r.length];exact z,?_⟩)
 have hf:H1 (zB s1)=none:=I1.jd.fresh (aD _)
 refine⟨.ref (zB s1),upd H1 (zB s1) (.lst xs),I1.laid (t':=s1.toks) (fun b u e=>ak _ e) (aD _) ?_,rfl,q _ hf⟩
 exact⟨z,us,0,r,aF _ rfl⟩
end
abbrev Sp:=List V->Hp->VK->XK->Prop
abbrev L5:=List Env->Hp->Shared->XK->Value->Shared->Prop
structure Gw (P:Program) (w:World) (K:Fg) (mg:Str->Ow) (base:Heap) (A:Around) (outer:List Env) (s:Shared) (H:Hp):Prop where
 frames:A.frames=some outer
 mod:Mod K mg base
 bs:∀ b o,base.get? b=some o->s.heap.get? b=some o/\H b=none
 RZ:base.objs.size<=(zB s)
 uq:s.heap.FunFrames base outer
 LC:∀ b∈Ga outer,H b=none
 jd:um P w H s.heap
 bare:AllBare s.gens
def CE (outer:List Env)(P:Program)(w:World)(H:Hp)(s:Shared)(Q:VK)(u:Value)(s':Shared):Prop :=
 ∃ v H',s'.os=s.os/\AllBare s'.gens/\Un (Ga outer) [] H H' s.heap s'.heap/\um P w H' s'.heap/\gH v u/\Q v H'
def CR (CX:L5)(outer:List Env)(P:Program)(w:World)(H:Hp)(s:Shared)(Q:VK)(E:XK)(r:Result)(s':Shared):Prop :=
 match r with
 | .ok (.ret u)=>CE outer P w H s Q u s'
 | .ok _=>False
 | .error e=>CX outer H s E e s'
structure nN (P:Program) (w:World) (K:Fg) (mg:Str->Ow) (base:Heap) (CX:L5) (k:Nat) (f:Addr) (fd:FuncData) (ps:Lr) (sp:Sp):Prop where
 len:∀ vs H Q E,sp vs H Q E->vs.length=ps.length
 run:∀ (A:Around) (outer:List Env) (s:Shared) (H:Hp) (args:Args) (us:Lw) (vs:List V) (Q:VK) (E:XK),j3 k A->Gw P w K mg base A outer s H->BindsTo s fd args (ps.zip us)->gE vs us->sp vs H Q E ->
  codeAny (model P w) A (.call (.ref f) args) (CR CX outer P w H s Q E) s
theorem nN.mono {P:Program}{w:World}{K:Fg}{mg:Str->Ow}{base:Heap}{CX:L5}{j k:Nat}{f:Addr}{fd:FuncData}{ps:Lr}{sp:Sp}(F:nN P w K mg base CX j f fd ps sp)(h:j<=k) :
  nN P w K mg base CX k f fd ps sp:=⟨F.len,fun A outer s H args us vs Q E hr=>F.run A outer s H args us vs Q E (hr.mono h)⟩
theorem Gw.make {P:Program}{K:Fg}{base:Heap}{outer:List Env}(e:Gw P w K mg base A outer s H)(C:Addr)(us:Lw)(kw:List (Str×Value)) :
  Gw P w K mg base (A.under (.builtin "type.__call__" ⟨.ref C::us,kw⟩)) outer s H:=⟨by first|exact e.frames|(simpa [Around.under,Code.envs,Code.isFrame,pushEnvs] using e.frames),e.mod,e.bs,e.RZ,e.uq,e.LC,e.jd,e.bare⟩
section
variable {s':Shared}
theorem fW.WY (I:fW X pins σ H s):Gw X.prog X.w X.K X.mg X.base X.A X.stack s H :=
 ⟨I.ok.frames,I.ok.mod,I.bs,bH I.ok.RZ I.sz,I.stack,I.Iw,I.jd,I.bare⟩
theorem fW.after {Q:VK}(I:fW X pins σ H s)(h:CE X.stack X.prog X.w H s Q u s'):EP X pins σ Q u s':=by
 obtain⟨v,H',os,bare,un,jd,r,q⟩:=h
 obtain⟨hh,g,d,t,os'⟩:=s'
 obtain rfl:os'=s.os:=os
 exact⟨v,H',I.call (h':=hh) (g':=g) (d':=d) (t':=t) (ch:=[]) un jd bare (fun b z=>absurd z (by simp)),r,q⟩
end
def WZ (sp:Sp)(yc:List V)(E:XK)(t:TA):TE:=fun σ H Q=>t σ H fun vs H1=>sp (vs++yc) H1 Q E
def Sa (C:Addr)(m:Str)(sp:Sp)(yc:List V)(E:XK)(ta:TE)(t:TA):TE:=fun σ H Q=>ta σ H fun x H1=>∃ a dx fs,x=.ref a/\H1 a=some (.ins C dx fs)/\fs.lookup m=none /\
 t σ H1 fun vs H2=>sp (x::(vs++yc)) H2 Q E
def Sb (C:Addr)(sp:Sp)(yc:List V)(E:XK)(t:TA):TE:=fun σ H Q=>t σ H fun vs H1=>∀ x dx,H1 x=none->H1 dx=none->dx≠x ->
 sp (.ref x::(vs++yc)) (upd (upd H1 dx (.own x)) x (.ins C dx [])) (fun v H2=>v=.lJ/\Q (.ref x) H2) E
def mV (K:Fg)(fd:FuncData)(ps:Lr)(ds:Lw):Prop :=
 ∀ (s:Shared) (us:Lw),K.In s.heap->(us++ds).length=ps.length->BindsTo s fd ⟨us,[]⟩ (ps.zip (us++ds))
theorem mV.all {K:Fg}{ps:Lr}(h:∀ us:Lw,us.length=ps.length->bindArgs fd ⟨us,[]⟩=pure (ps.zip us)):mV K fd ps []:=fun s us _ hl=>by
 rw [aS] at hl ⊢
 exact .of_eq (h us hl)
def rZ (CX:L5)(X:Cx)(E:XK):Prop:=∀ (pins:Ax) (σ:St) (H:Hp) (s:Shared) (e:Value) (s':Shared),fW X pins σ H s->CX X.stack H s E e s'->X.xe e s'
section
variable {CX:L5}{k:Nat}{f C:Addr}{ps:Lr}{sp:Sp}{yc:List V}{ds:Lw}{E:XK}{m:Str}{p apos:Pos}{ta:TE}{t:TA}
theorem Gx {Q:VK}{us:Lw} (F:nN X.prog X.w X.K X.mg X.base CX k f fd ps sp) (hr:j3 k X.A) (hb:mV X.K fd ps ds) (hd:gE yc ds) (hx:rZ CX X E)
  (I:fW X pins σ H s) (r:gE vs us) (h:sp (vs++yc) H Q E):(zw X) (call (.ref f) us) (EP X pins σ Q) X.xe s:=by
 have r2:gE (vs++yc) (us++ds):=r.append hd
 have hl:(us++ds).length=ps.length:=by rw [← r2.length];exact F.len _ _ _ _ h
 refine wpAny_call (df (F.run X.A X.stack s H ⟨us,[]⟩ (us++ds) (vs++yc) Q E hr I.WY (hb s us I.xo hl) r2 h) fun r s' hq=>?_)
 cases r with
 | error e=>exact hx pins σ H s e s' I hq
 | ok fl =>
  cases fl with
  | ret u=>exact I.after hq
  | next=>exact False.elim hq
  | brk=>exact False.elim hq
  | cont=>exact False.elim hq
theorem Cg (F:nN X.prog X.w X.K X.mg X.base CX k f fd ps sp) (hr:j3 k X.A) (hg:Gl X x) (hm:X.mg x=some (.ref f)) (hk:W.keepIn X.K (.ref f)=true) (hb:mV X.K fd ps ds) (hd:gE yc ds) (hx:rZ CX X E)
  (ha:PA X (e::es) t) (tQ:zg x:=by decide) (he:zE e es X:=by rfl) (tq:(backTo pos (starEach es X.env)).any (·.1)=false:=by rfl) :
  PE X (.Call (.Name x p) (e::es) [] pos) (WZ sp yc E t):=by
 intro pins s σ H Q I h
 refine bz (tj I hg hm ?_ tQ)
 refine W.callWith_K (h₀:=X.base) I.ok.mod.Wu hk (jl (@ha pos pins s σ H _ I h) fun us s1 ⟨vs,H1,I1,r,q⟩=>⟨I1.xo,?_⟩) he tq
 exact Gx F hr hb hd hx I1 r q
theorem ID {pl:Sem Bool} (he:PE X o ta) (c:JY X.K C) (hm:JZ X.K C m f) (F:nN X.prog X.w X.K X.mg X.base CX k f fd ps sp) (hr:j3 k X.A) (hb:mV X.K fd ps ds) (hd:gE yc ds) (hx:rZ CX X E) (ha:PA X (e::es) t)
  (Af:zE e es X:=by rfl) (tq:(backTo pos (starEach es X.env)).any (·.1)=false:=by rfl)
  (ht:eval (.Call (.Attribute o m apos) (e::es) [] pos) X.env=(do
   let ov ← eval o X.env
   standAt apos.atName
   let (f,first) ← holding [ov] (getMethod ov m pl)
   callWith pos f first (backTo pos (starEach (e::es) X.env)) (backToKw pos (keywordEach [] X.env))):=by rfl) :
  PE X (.Call (.Attribute o m apos) (e::es) [] pos) (Sa C m sp yc E ta t):=by
 intro pins s σ H Q I h
 refine W.methodCall_KW (pl:=pl) (jl (@he pins s σ H _ I h) fun u s1 ⟨x,H1,I1,rx,a,dx,fs,ex,ea,l,q⟩=>?_) ht
 subst ex
 obtain rfl:u=Value.ref a:=rx
 refine yb I1 ea c hm l ?_
 refine W.callWith_K (first:=[.ref a]) (h₀:=X.base) I.ok.mod.Wu hm.kp (jl (@ha pos pins s1 σ H1 _ I1 q) fun us s2 ⟨vs,H2,I2,r,q2⟩=>⟨I2.xo,?_⟩) Af tq
 exact Gx (us:=.ref a::us) (vs:=.ref a::vs) F hr hb hd hx I2 (.cons rfl r) q2
theorem D8 {pl:Sem Bool} (he:PE X o ta) (c:JY X.K C) (hm:JZ X.K C m f) (F:nN X.prog X.w X.K X.mg X.base CX k f fd ps sp) (hr:j3 k X.A) (hb:mV X.K fd ps ds) (hd:gE yc ds) (hx:rZ CX X E)
  (ht:eval (.Call (.Attribute o m apos) [] [] pos) X.env=(do
   let ov ← eval o X.env
   standAt apos.atName
   let (f,first) ← holding [ov] (getMethod ov m pl)
   callWith pos f first (backTo pos (starEach [] X.env)) (backToKw pos (keywordEach [] X.env))):=by rfl) :
  PE X (.Call (.Attribute o m apos) [] [] pos) (Sa C m sp yc E ta TU):=by
 intro pins s σ H Q I h
 refine W.methodCall_KW (pl:=pl) (jl (@he pins s σ H _ I h) fun u s1 ⟨x,H1,I1,rx,a,dx,fs,ex,ea,l,q⟩=>?_) ht
 subst ex
 obtain rfl:u=Value.ref a:=rx
 refine yb I1 ea c hm l ?_
 exact W.callWith_K0 (first:=[.ref a]) I1.xo hm.kp (Gx (us:=[.ref a]) (vs:=[.ref a]) F hr hb hd hx I1 (.cons rfl .nil) q)
structure Mk (K:Fg) (C f:Addr):Prop where
 makes:W.makesIn K C=true
 init:W.findIn K (.ref C) "__init__"=some (some (.ref f))
 fn:W.isFn K (.ref f)=true
 kp:W.keepIn K (.ref C)=true
theorem D9 {Q:VK}{us:Lw} (M:Mk X.K C f) (F:nN X.prog X.w X.K X.mg X.base CX k f fd ps sp) (hr:j3 (k+1) X.A) (hb:mV X.K fd ps ds) (hd:gE yc ds)
  (hx:rZ CX X E) (I:fW X pins σ H s) (r:gE vs us)
  (h:∀ x dx,H x=none->H dx=none->dx≠x->sp (.ref x::(vs++yc)) (upd (upd H dx (.own x)) x (.ins C dx [])) (fun v H2=>v=.lJ/\Q (.ref x) H2) E) :
  (zw X) (call (.ref C) us) (EP X pins σ Q) X.xe s:=by
 have hq:=h ((zB s)+1) (zB s) (I.jd.fresh (Nat.le_succ _)) (I.jd.fresh (aD _)) (aP (dA _))
 have I2:=fW.made (C:=C) I
 have r2:gE (V.ref ((zB s)+1)::(vs++yc)) (Value.ref ((zB s)+1)::(us++ds)):=.cons rfl (r.append hd)
 have hl:(Value.ref ((zB s)+1)::us++ds).length=ps.length:=by
  have e:=r2.length
  rw [F.len _ _ _ _ hq] at e
  exact e.symm
 refine wpAny_call (LX (f:=f) I.xo M.makes M.init (cD.mp M.fn) (df (F.run _ X.stack _ _ ⟨Value.ref ((zB s)+1)::us,[]⟩ (Value.ref ((zB s)+1)::(us++ds)) _ _ E (hr.make C us [])
  (I2.WY.make C us []) (hb _ (Value.ref ((zB s)+1)::us) I2.xo hl) r2 hq) fun r s' DZ=>?_))
 cases r with
 | error e=>exact hx pins σ _ _ e s' I2 DZ
 | ok fl =>
  cases fl with
  | ret u =>
   obtain⟨v,H',I3,rv,ev,q3⟩:=I2.after DZ
   subst ev
   exact⟨rv,⟨V.ref ((zB s)+1),H',I3,rfl,q3⟩⟩
  | next=>exact False.elim DZ
  | brk=>exact False.elim DZ
  | cont=>exact False.elim DZ
theorem O5 (M:Mk X.K C f) (F:nN X.prog X.w X.K X.mg X.base CX k f fd ps sp) (hr:j3 (k+1) X.A) (hg:Gl X x) (hm:X.mg x=some (.ref C)) (hb:mV X.K fd ps ds) (hd:gE yc ds) (hx:rZ CX X E)
  (ha:PA X (e::es) t) (tQ:zg x:=by decide) (he:zE e es X:=by rfl) (tq:(backTo pos (starEach es X.env)).any (·.1)=false:=by rfl) :
  PE X (.Call (.Name x p) (e::es) [] pos) (Sb C sp yc E t):=by
 intro pins s σ H Q I h
 refine bz (tj I hg hm ?_ tQ)
 refine W.callWith_K (h₀:=X.base) I.ok.mod.Wu M.kp (jl (@ha pos pins s σ H _ I h) fun us s1 ⟨vs,H1,I1,r,q⟩=>⟨I1.xo,?_⟩) he tq
 exact D9 M F hr hb hd hx I1 r q
theorem L6 (M:Mk X.K C f) (F:nN X.prog X.w X.K X.mg X.base CX k f fd ps sp) (hr:j3 (k+1) X.A) (hg:Gl X x) (hm:X.mg x=some (.ref C)) (hb:mV X.K fd ps ds) (hd:gE yc ds) (hx:rZ CX X E)
  (tQ:zg x:=by decide):PE X (.Call (.Name x p) [] [] pos) (Sb C sp yc E TU):=by
 intro pins s σ H Q I h
 refine bz (tj I hg hm ?_ tQ)
 exact W.callWith_K0 I.xo M.kp (D9 (us:=[]) M F hr hb hd hx I .nil h)
end
section
variable {CX:L5}{k:Nat}{f C:Addr}{ps ks:Lr}{sp:Sp}{E:XK}{m:Str}{p apos abR:Pos}{kws:List Keyword}{te ta:TE}{t tk:TA}{nm:Option Str}
variable {g:Lw->Lw->Lw}{gV:List V->List V->List V}
end
structure k6 (N P:Lr) (sc:Scope):Prop where
 kind:sc.kind=.function
 co:sc.isCoroutine=false
 gen:sc.isGenerator=false
 nd:N.Nodup
 pre:N.take P.length=P
 par:∀ x∈P,sc.names.lookup x=some .local∨sc.names.lookup x=some .cell
 TV:∀ y∈sc.names,y.2≠.free
theorem A3 {kindOf:Str->Option NameKind}{x:Str}:∀ {binds:List (Str×Value)}{m:Str->Ow},(∀ v,(x,v)∉binds)->bindL kindOf binds m x=m x
 | [],_,_=>rfl
 | (n,v)::r,m,h=>by
  unfold bindL
  rw [A3 fun w hw=>h w (af _ hw)]
  split
  ·have:x≠n:=by rintro rfl;exact h v aT
   simp [this]
  ·rfl
theorem A4 {kindOf:Str->Option NameKind}{x:Str}:∀ {binds:List (Str×Value)}{m:Str->Ow},(∀ v,(x,v)∉binds)->bindC kindOf binds m x=m x
 | [],_,_=>rfl
 | (n,v)::r,m,h=>by
  unfold bindC
  rw [A4 fun w hw=>h w (af _ hw)]
  split
  ·rfl
  ·have:x≠n:=by rintro rfl;exact h v aT
   simp [this]
theorem A5 {kindOf:Str->Option NameKind}{x:Str}{v:Value}:∀ {P:Lr}{vs:Lw}{i:Nat}{m:Str->Ow},P.Nodup->P[i]?=some x->vs[i]?=some v->kindOf x=some .local ->
  bindL kindOf (P.zip vs) m x=some v
 | [],_,_,_,_,h,_,_=>by simp at h
 | _::_,[],_,_,_,_,h,_=>by simp at h
 | p::P,w::vs,0,m,nd,h1,h2,hk=>by
  simp at h1 h2;subst h1;subst h2
  show bindL kindOf ((p,w)::P.zip vs) m p=_
  unfold bindL
  rw [A3 fun v hv=>(a9.mp nd).1 (eT hv).1,ai hk]
  simp
 | p::P,w::vs,i+1,m,nd,h1,h2,hk=>by
  show bindL kindOf ((p,w)::P.zip vs) m x=_
  unfold bindL
  exact A5 (i:=i) (a9.mp nd).2 (by simpa using h1) (by simpa using h2) hk
theorem A6 {kindOf:Str->Option NameKind}{x:Str}{v:Value}:∀ {P:Lr}{vs:Lw}{i:Nat}{m:Str->Ow},P.Nodup->P[i]?=some x->vs[i]?=some v->kindOf x≠some .local ->
  bindC kindOf (P.zip vs) m x=some v
 | [],_,_,_,_,h,_,_=>by simp at h
 | _::_,[],_,_,_,_,h,_=>by simp at h
 | p::P,w::vs,0,m,nd,h1,h2,hk=>by
  simp at h1 h2;subst h1;subst h2
  show bindC kindOf ((p,w)::P.zip vs) m p=_
  unfold bindC
  rw [A4 fun v hv=>(a9.mp nd).1 (eT hv).1,ao hk]
  simp
 | p::P,w::vs,i+1,m,nd,h1,h2,hk=>by
  show bindC kindOf ((p,w)::P.zip vs) m x=_
  unfold bindC
  exact A6 (i:=i) (a9.mp nd).2 (by simpa using h1) (by simpa using h2) hk
def om (N:Lr)(vs:List V):St:=vs.map some++List.replicate (N.length - vs.length) none
def An (CX:L5)(P:Program)(w:World)(K:Fg)(mg:Str->Ow)(base:Heap)(N:Lr)(qual:Str)(scope:Scope)(f:Addr)(cd:Value)(A:Around)(outer:List Env)(s:Shared)(H:Hp)(E:XK):Cx where
 prog:=P
 w:=w
 K:=K
 mg:=mg
 base:=base
 A:=A.deeper (envOfC qual scope (zB s) f cd)
 N:=N
 s₀:=s
 H₀:=H
 env:=envOfC qual scope (zB s) f cd
 outer:=outer
 stack:=envOfC qual scope (zB s) f cd::outer
 ex:=[]
 calm:=true
 fn:=fun _=>true
 pn:=[]
 xe:=fun e s'=>wpAny (model P w) (A.deeper (envOfC qual scope (zB s) f cd)) (leaving (envOfC qual scope (zB s) f cd) e) (fun _ s''=>CX outer H s E e s'') (fun e' s''=>CX outer H s E e' s'') s'
theorem Ea {sc:Scope}(h:sc.names.lookup x=some .cell):∃ c,(cellsFrom n sc.names []).lookup x=some c:=by
 have q:=W.cellsFrom_some sc.names n [] (.inl h)
 exact Option.isSome_iff_exists.mp q
theorem J0 {CX:L5}{P:Program}{K:Fg}{base:Heap}{N ps:Lr}{qual:Str}{f:Addr}{cd:Value}{outer:List Env}{s1:Shared}{E:XK}{us:Lw} 
  (S:k6 N ps scope) (hd:A.handled=none) (e0:Gw P w K mg base A outer s H) (hl:vs.length=ps.length) (r:gE vs us)
  (x:InCallC s (zB s) (bindL (envOfC qual scope (zB s) f cd).kindOf (ps.zip us) fun _=>none) (cellsFrom ((zB s)+1) scope.names []) (bindC (envOfC qual scope (zB s) f cd).kindOf (ps.zip us) fun _=>none) s1) :
  fW (An CX P w K mg base N qual scope f cd A outer s H E) [] (om N vs) H s1:=by
 have tq:ps.length<=N.length:=by have:=bQ List.length S.pre;rw [dB] at this;omega
 obtain⟨h1,tk,rfl,hk⟩:=x.done
 have W0:∀ b:Addr,b∉(An CX P w K mg base N qual scope f cd A outer s H E).ex:=fun b z=>absurd (show b∈([]:List Addr) from z) (by simp)
 refine⟨⟨e0.mod,S.kind,rfl,rfl,aD _,fun y z c h1 h2=>?_,fun y hy=>?_,fun y c _ h=>?_,fun _=>hd,Around.frames_deeper e0.frames,.inr ⟨rfl,rfl⟩,fun b z=>absurd z (W0 b),e0.bs,e0.RZ,fun b _ _=>W0 b,fun b z=>absurd z (W0 b),e0.uq,e0.LC⟩,
  rfl,e0.bare,Un.kept hk,⟨_,x.toInCall.ns,fun i y v h1 h2 h3=>?_⟩,fun y c h=>⟨_,x.cell y c h⟩,e0.jd.fresh (aD _),fun y c h=>?_,fun p hp=>absurd (show p∈([]:Ax) from hp) (by simp),e0.jd.kept hk,?_⟩
 ·exact name_of_addr x.apart (bJ h1) (bJ h2)
 ·have hy:scope.names.lookup y=some .cell∨scope.names.lookup y=some .free:=hy
  rcases hy with hy|hy
  ·exact Ea hy
  ·exact absurd rfl (S.TV _ (bJ hy))
 ·exact dY (x.above y c (bJ h))
 ·have hi:i<vs.length:=by
   unfold om at h2
   by_cases hi:i<vs.length
   ·exact hi
   ·rw [aV (by simpa using hi)] at h2
    rw [bP] at h2
    split at h2<;>cases h2
  have ha:vs[i]?=some v:=by
   unfold om at h2
   rw [bh (by simpa using hi),aC] at h2
   cases e:vs[i]? with
   | none=>rw [e] at h2;cases h2
   | some a=>rw [e] at h2;cases h2;rfl
  obtain⟨u,hu,rv⟩:=r.get ha
  have hp:ps[i]?=some y:=by
   rw [← S.pre,List.getElem?_take_of_lt (by omega)];exact h1
  have ndP:ps.Nodup:=by rw [← S.pre];exact S.nd.sublist (List.take_sublist _ _)
  refine⟨u,rv,?_⟩
  rcases S.par y (cu hp) with k|k
  ·exact .inl ⟨k,A5 ndP hp hu k⟩
  ·obtain⟨c,e⟩:=Ea (n:=(zB s)+1) k
   refine .inr ⟨.inl k,c,e,?_⟩
   have q:=x.cell y c e
   rw [A6 ndP hp hu (by show scope.names.lookup y≠_;rw [k];decide)] at q
   exact q
 ·exact e0.jd.fresh (dY (x.above y c (bJ h)))
 ·unfold om
  show _=N.length
  rw [aK,ae,List.length_replicate]
  omega
theorem W2 {CX:L5}{P:Program}{K:Fg}{base:Heap}{k:Nat}{f:Addr}{name qual:Str}{params:Arguments}{body:List Stmt}{dV kV doc pm mW ct oc:Value}{an od:Option Addr}
  {Ll:Array Ow}{N ps:Lr}{sp:Sp} (lk:K.lookup f=some ⟨oc,od,.func (W.fnOf name qual params body scope dV kV doc pm an mW ct),Ll⟩) (xR:W.codeIn K mW qual=true) (S:k6 N ps scope)
  (len:∀ vs H Q E,sp vs H Q E->vs.length=ps.length)
  (uR:∀ (A:Around) (outer:List Env) (s:Shared) (H:Hp) (vs:List V) (Q:VK) (E:XK),j3 k (A.deeper (envOfC qual scope (zB s) f mW))->sp vs H Q E ->
   ∃ t,Al (An CX P w K mg base N qual scope f mW A outer s H E) body t/\t { nx:=fun _ H'=>Q .lJ H',rt:=Q } (om N vs) H) :
  nN P w K mg base CX (k+1) f (W.fnOf name qual params body scope dV kV doc pm an mW ct) ps sp:=by
 refine⟨len,fun A outer s H args us vs Q E hr e0 hb r VX=>?_⟩
 have hl:=len _ _ _ _ VX
 have KX:K.In s.heap:=e0.mod.Wu.keeps fun b o e=>(e0.bs b o e).1
 have lim:s.heap.NoLimit:=e0.mod.nolimit.keeps fun b o e=>(e0.bs b o e).1
 have W3:∀ y∈ps.zip us,scope.names.lookup y.1=some .local∨(scope.names.lookup y.1=some .cell/\((cellsFrom ((zB s)+1) scope.names []).lookup y.1).isSome=true):=fun ⟨n,v⟩ hy=>by
  rcases S.par n (eT hy).1 with q|q
  ·exact .inl q
  ·exact .inr ⟨q,W.cellsFrom_some _ _ _ (.inl q)⟩
 refine codeAny_call_function hr.depth (KX _ _ lk) rfl S.co S.gen rfl (W.codeRec_of KX xR) (hb _ _ _ _ ?_)
 refine wpAny_newFunctionEnv_cells S.kind W3 fun env he s1 x=>?_
 subst he
 refine⟨lim.keeps x.toInCall.keep,codeAny_func ?_⟩
 obtain⟨t,ht,hq⟩:=uR A outer s H vs Q E (hr.deeper _) VX
 have I:fW (An CX P w K mg base N qual scope f mW A outer s H E) [] (om N vs) H s1:=J0 S hr.hd e0 hl r x
 refine bR (@ht [] s1 (om N vs) H _ I hq) (fun fl s' hs=>?_) fun e s' hs=>hs
 have fin:∀ {σ':St}{H':Hp}{v:V}{u:Value},fW (An CX P w K mg base N qual scope f mW A outer s H E) [] σ' H' s'->gH v u->Q v H'->CE outer P w H s Q u s' :=
  fun {σ' H' v u} J rv q=>⟨v,H',J.os,J.bare,J.base,J.jd,rv,q⟩
 cases fl with
 | ret u =>
  obtain⟨v,σ',H',J,rv,q⟩:=hs
  exact fin J rv q
 | next =>
  obtain⟨σ',H',J,q⟩:=hs
  exact fin (v:=V.lJ) (u:=Value.none) J rfl q
 | brk =>
  obtain⟨_,_,_,q⟩:=hs
  exact False.elim q
 | cont =>
  obtain⟨_,_,_,q⟩:=hs
  exact False.elim q
section
variable {p:Pos}{t:TA}{id T:String}{r:List V->Hp->VK->Prop}
def tCB (r:List V->Hp->VK->Prop)(t:TA):TE:=fun σ H Q=>t σ H fun vs H1=>r vs H1 Q
theorem Eb (hc:jV X (.builtin id) r) (hg:Gl X x) (hm:X.mg x=none) (hv:bootBuiltins x=some (.builtin id)) (ha:PA X (e::es) t) (hn:x≠"__name__":=by decide) (tQ:zg x:=by decide)
  (he:zE e es X:=by rfl) (tq:(backTo pos (starEach es X.env)).any (·.1)=false:=by rfl):PE X (.Call (.Name x p) (e::es) [] pos) (tCB r t):=by
 intro pins s σ H Q I h
 refine bz (qM I hg hm hv ?_ hn tQ)
 exact dD (jl (@ha pos pins s σ H _ I h) fun us s1 ⟨vs,H1,I1,r1,q1⟩=>@hc pins s1 σ H1 vs us Q I1 r1 q1) he tq
theorem A7 (hc:jV X (.type T) r) (hg:Gl X x) (hm:X.mg x=none) (hv:bootBuiltins x=some (.type T)) (ha:PA X (e::es) t) (hn:x≠"__name__":=by decide) (tQ:zg x:=by decide)
  (he:zE e es X:=by rfl) (tq:(backTo pos (starEach es X.env)).any (·.1)=false:=by rfl):PE X (.Call (.Name x p) (e::es) [] pos) (tCB r t):=by
 intro pins s σ H Q I h
 refine bz (qM I hg hm hv ?_ hn tQ)
 exact bD (jl (@ha pos pins s σ H _ I h) fun us s1 ⟨vs,H1,I1,r1,q1⟩=>@hc pins s1 σ H1 vs us Q I1 r1 q1) he tq
end
end L2
namespace HT
open PySem PyProof.Rows
section
open PySem.SeqAt
open PySem.AutoSeq1 (wpAny_loadPart')
open PySem.MeetsSeq PySem.MeetsSeq2 PySem.MeetsSeq3
end
section
variable {prog:Program}    
theorem O6 {t b:Addr}{vs ws:Lw}{Q:Px} (ht:IsTup s.heap t vs.toArray) (hb:IsTup s.heap b ws.toArray) (hv:vs≠[])
  (h1:ws=[]->Q (.ref t) s) (h2:ws≠[]->Q (.ref (zB s)) { s with heap:=s.heap.push { cls:=.type "tuple",data:=.seq (vs++ws).toArray } })
  (hsz:vs.length+ws.length<=sizeLine):wpAny (model prog w) A (binaryOp .Add (.ref t) (.ref b)) Q E s:=by
 obtain⟨⟨cls,dd,data,sl⟩,ho,hc,n,hd⟩:=id ht
 obtain⟨⟨W4,Lm,data2,VY⟩,OC,OD,n2,hd2⟩:=id hb
 simp only at hc hd OD hd2
 subst hc hd OD hd2
 have e:vs.toArray++ws.toArray=(vs++ws).toArray:=by simp
 by_cases hw:ws=[]
 ·exact eQ ⟨_,ho,rfl⟩ ⟨_,OC,rfl⟩ eK seq_tuple_add dh cX (cS _ _)
   (tuple_addW1 t b vs.toArray ws.toArray n n2 dd Lm sl VY (by simpa using hv) (by simp [hw])) ⟨ho,OC,h1 hw⟩
 ·refine eQ ⟨_,ho,rfl⟩ ⟨_,OC,rfl⟩ eK seq_tuple_add dh cX (cS _ _)
   (tuple_addW2 t b vs.toArray ws.toArray n n2 dd Lm sl VY (by simpa using hv) (by simpa using hw) (by rw [ax,ax];exact hsz)) ⟨ho,OC,?_⟩
  rw [e]
  exact h2 hw
def k5 (n d:Nat):Option Int->Nat
 | none=>d
 | some v=>if v<0 then (v+(n:Int)).toNat else min v.toNat n
theorem TX (n d:Nat)(hd:d<=n)(o:Option Int):k5 n d o<=n:=by
 cases o with
 | none=>exact hd
 | some v =>
  show (if v<0 then (v+(n:Int)).toNat else min v.toNat n)<=n
  by_cases hv:v<0
  ·rw [ai hv];omega
  ·rw [ao hv];exact eN _ _
theorem IE (v:Int)(n d:Nat):(if v<0 then max (v+(n:Int)) 0 else min v (n:Int))=((k5 n d (some v):Nat):Int):=by
 show (if v<0 then max (v+(n:Int)) 0 else min v (n:Int))=(((if v<0 then (v+(n:Int)).toNat else min v.toNat n):Nat):Int)
 by_cases hv:v<0
 ·simp only [ai hv];omega
 ·simp only [ao hv];omega
theorem Gy (lo hi:Option Int)(n:Nat):Builtin.Slice.sliceAdjust lo hi 1 (n:Int)=(((k5 n 0 lo:Nat):Int),((k5 n n hi:Nat):Int)):=by
 have h1:¬ ((1:Int)<0):=by omega
 unfold Builtin.Slice.sliceAdjust
 simp only [h1,eO]
 refine Prod.ext ?_ ?_
 ·cases lo with
  | none=>rfl
  | some v=>exact IE v n 0
 ·cases hi with
  | none=>rfl
  | some v=>exact IE v n n
theorem Gz (i j:Nat):Builtin.Slice.slicePlaces (i:Int) (j:Int) 1=j - i:=by
 unfold Builtin.Slice.slicePlaces
 have h1:(1:Int) > 0:=by omega
 simp only [h1,cE,Int.ediv_one]
 split<;>omega
theorem ye {v:Value}{o:Option Int}{Q:Option Int->Shared->Prop}(p:IsPart v o)(h:Q o s):wpAny (model prog w) A (Builtin.Slice.slicePartIndex v) Q E s:=by
 cases p with
 | none=>exact slicePart_none h
 | int i t=>exact slicePart_int h
theorem qv {sl:Addr}{vl vu:Value}{lo hi:Option Int}{Q:Int×Int×Nat->Shared->Prop} (hs:s.heap.IsSliceOf sl vl vu .none) (pl:IsPart vl lo) (pu:IsPart vu hi)
  (h:Q (((k5 n 0 lo:Nat):Int),1,k5 n n hi - k5 n 0 lo) s):wpAny (model prog w) A (Builtin.Slice.sliceApplied (.ref sl) (pure (n:Int))) Q E s:=by
 obtain⟨os,O7,Zm,O8⟩:=id hs
 unfold Builtin.Slice.sliceApplied Builtin.Slice.sliceFields
 refine ab (ab (cC O7 O8 (x:=vl) rfl (ab (cC O7 O8 (x:=vu) rfl (ab (cC O7 O8 (x:=.none) rfl (aw ?_)))))))
 refine ab (slicePart_none ?_)
 show wpAny _ _ (if ((1:Int)==0)=true then _ else _) _ _ s
 rw [ao (by decide)]
 refine ab (ye pl (ab (ye pu (ab (aw ?_)))))
 show wpAny _ _ (match Builtin.Slice.sliceAdjust lo hi 1 (n:Int) with|(lo,hi)=>pure (lo,(1:Int),Builtin.Slice.slicePlaces lo hi 1)) _ _ s
 rw [Gy lo hi n]
 show wpAny _ _ (pure (((k5 n 0 lo:Nat):Int),(1:Int),Builtin.Slice.slicePlaces ((k5 n 0 lo:Nat):Int) ((k5 n n hi:Nat):Int) 1)) _ _ s
 rw [Gz]
 exact aw h
theorem L7 (xs:Array Value)(i k:Nat):((List.range k).filterMap fun (m:Nat)=>xs[((i:Int)+(m:Int)*1).toNat]?).toArray=((xs.toList.drop i).take k).toArray:=by
 have e:(fun (m:Nat)=>xs[((i:Int)+(m:Int)*1).toNat]?)=fun m=>xs[i+m]?:=by
  funext m
  have:((i:Int)+(m:Int)*1).toNat=i+m:=by omega
  rw [this]
 rw [e]
 have:=pick_run xs i k
 rw [d7] at this
 have e2:((fun x=>xs[x]?)∘fun x=>i+x)=fun m=>xs[i+m]?:=rfl
 rw [e2] at this
 rw [this]
theorem uS {t sl:Addr}{items:Array Value}{vl vu:Value}{lo hi:Option Int}{Q:Px} (ht:IsTup s.heap t items) (hs:s.heap.IsSliceOf sl vl vu .none) (pl:IsPart vl lo) (pu:IsPart vu hi)
  (hw:¬ (k5 items.size 0 lo=0/\k5 items.size items.size hi=items.size))
  (h:Q (.ref (zB s)) { s with heap:=s.heap.push { cls:=.type "tuple",data:=.seq ((items.toList.drop (k5 items.size 0 lo)).take (k5 items.size items.size hi - k5 items.size 0 lo)).toArray } })
  (hsz:items.size<=sizeLine):wpAny (model prog w) A (getItem (.ref t) (.ref sl)) Q E s:=by
 have IF:sizeOk (.seq ((items.toList.drop (k5 items.size 0 lo)).take (k5 items.size items.size hi - k5 items.size 0 lo)).toArray):=by
  show ((items.toList.drop (k5 items.size 0 lo)).take (k5 items.size items.size hi - k5 items.size 0 lo)).toArray.size<=sizeLine
  rw [ax,dB,List.length_drop,cy]
  omega
 have hj:k5 items.size items.size hi<=items.size:=TX _ _ (aD _) hi
 obtain⟨os,O7,Zm,O8⟩:=id hs
 have hTs:s.TypeIs (.ref sl) "slice":=⟨os,O7,Zm⟩
 unfold getItem
 try with_reducible refine bx ?_
 first|refine ab (aw ?_)|skip
 refine ab (wpAny_sequenceKey ht.typeIs (by decide) ?_)
 refine ab (cz (name:=zZ "__getitem__") ht.typeIs br
  (dE br ht.typeIs entry_tuple_getitem ?_ (args_tuple_getitem _ _)))
 show wpAny _ _ (Builtin.Tuple.tupleItemsOf (.ref t)>>=_) _ _ s
 refine ab (tupleItemsOf_ ht ?_)
 refine ab (cF hTs ?_)
 rw [ai (by decide)]
 refine ab (qv hs pl pu ?_)
 have hno:¬ ((((k5 items.size 0 lo:Nat):Int)==0&&(1:Int)==1&&(k5 items.size items.size hi - k5 items.size 0 lo)==items.size)=true):=by
  intro q
  rw [aX,aX] at q
  have q1:((k5 items.size 0 lo:Nat):Int)=0:=eq_of_beq q.1.1
  have q2:k5 items.size items.size hi - k5 items.size 0 lo=items.size:=eq_of_beq q.2
  exact hw ⟨by omega,by omega⟩
 show wpAny _ _ (if (((k5 items.size 0 lo:Nat):Int)==0&&(1:Int)==1&&(k5 items.size items.size hi - k5 items.size 0 lo)==items.size)=true then _ else _) _ _ s
 rw [ao hno,L7]
 first
  | exact ab (m:=Builtin.Tuple.tupleExact _) (cM (aw ⟨_,rfl,aw h⟩) IF)
  | exact ab (m:=Builtin.Tuple.tupleExact _) (cM (ab (aw (aw ⟨_,rfl,aw h⟩))) IF)
  | exact ab (ab (m:=Builtin.Tuple.tupleExact _) (cM (aw (aw ⟨_,rfl,aw h⟩)) IF))
  | exact ab (ab (m:=Builtin.Tuple.tupleExact _) (cM (aw ⟨_,rfl,aw h⟩) IF))
end
end HT
namespace L2
open PySem PySem.Spec PyProof.Rows
abbrev TO:=St->Hp->(Option Int->Hp->Prop)->Prop
def PO (X:Cx)(e:Option Expr)(t:TO):Prop :=
 ∀ ⦃pins:Ax⦄ (s:Shared) (σ:St) (H:Hp) (Q:Option Int->Hp->Prop),fW X pins σ H s->t σ H Q ->
  (zw X) (evalPart e X.env) (fun u s'=>∃ o H',fW X pins σ H' s'/\IsPart u o/\Q o H') X.xe s
def O9:TO:=fun _ H Q=>Q none H
def W5 (t:TE):TO:=fun σ H Q=>t σ H fun x H1=>∃ i,x=.int i/\Q (some i) H1
section
variable {te:TE}{lo hi:Option Expr}{tl th:TO}{p2:Pos}
theorem Pa:PO X none O9:=by
 intro pins s σ H Q I h
 rw [evalPart_none]
 exact aw ⟨none,H,I,.none,h⟩
theorem Pb (h:PE X e te):PO X (some e) (W5 te):=by
 intro pins s σ H Q I hw
 rw [evalPart_some]
 refine jl (@h pins s σ H _ I hw) fun u s1 ⟨x,H1,I1,r1,q1⟩=>?_
 obtain⟨i,rfl,q⟩:=q1
 obtain⟨t,rfl⟩:=r1
 exact⟨some i,H1,I1,.int i t,q⟩
def IG (X:Cx)(r:V->Option Int->Option Int->Hp->VK->Prop):Prop :=
 ∀ (pins:Ax) (s:Shared) (σ:St) (H:Hp) (x:V) (v vl vu:Value) (lo hi:Option Int) (sl:Addr) (Q:VK),fW X pins σ H s->gH x v->s.heap.IsSliceOf sl vl vu .none->IsPart vl lo->IsPart vu hi->r x lo hi H Q ->
  ∃ T id,typeLookup (.type T) "__getitem__"=pure (some (.builtin id))/\s.TypeIs v T/\(zw X) (getItem v (.ref sl)) (EP X pins σ Q) X.xe s
theorem IG.or {r r':V->Option Int->Option Int->Hp->VK->Prop}(h:IG X r)(h':IG X r'):IG X (fun x lo hi H Q=>r x lo hi H Q∨r' x lo hi H Q):=by
 intro pins s σ H x v vl vu lo hi sl Q I rx hs pl pu q
 rcases q with q|q
 ·exact @h pins s σ H x v vl vu lo hi sl Q I rx hs pl pu q
 ·exact @h' pins s σ H x v vl vu lo hi sl Q I rx hs pl pu q
def tSl (r:V->Option Int->Option Int->Hp->VK->Prop)(te:TE)(tl th:TO):TE:=fun σ H Q=>te σ H fun x H1=>tl σ H1 fun l H2=>th σ H2 fun u H3=>r x l u H3 Q
theorem Ec {r:V->Option Int->Option Int->Hp->VK->Prop}(hr:IG X r)(he:PE X e te)(hl:PO X lo tl)(hu:PO X hi th):PE X (.Subscript e (.Slice lo hi none p2) pos) (tSl r te tl th):=by
 intro pins s σ H Q I h
 refine Subscript_ (jl (@he pins s σ H _ I h) fun v s1 ⟨x,H1,I1,r1,q1⟩=>?_)
 refine wpAny_Slice (jl (@hl pins s1 σ H1 _ I1 q1) fun vl s2 ⟨l,H2,I2,pl,q2⟩=>jl (@hu pins s2 σ H2 _ I2 q2) fun vu s3 ⟨u,H3,I3,pu,q3⟩=>?_)
 rw [evalPart_none]
 refine aw ?_
 have I4:fW X pins σ H3 { s3 with heap:=s3.heap.push { cls:=.type "slice",data:=.fields #[vl,vu,.none] } }:=I3.kept (t':=s3.toks) fun b ob q=>ak _ q
 obtain⟨T,id,hT,ht,hg⟩:=hr pins { s3 with heap:=s3.heap.push { cls:=.type "slice",data:=.fields #[vl,vu,.none] } } σ H3 x v vl vu l u (zB s3) Q I4 r1 (Heap.IsSliceOf.new ..) pl pu q3
 show (zw X) (subscriptTail e (.Slice lo hi none p2) v (.ref (zB s3))) (EP X pins σ Q) X.xe { s3 with heap:=s3.heap.push { cls:=.type "slice",data:=.fields #[vl,vu,.none] } }
 exact tail_any (ops:=[.ref (zB s3),v]) ht hT hg (by with_unfolding_all rfl)
def Ed (xs:List V)(lo hi:Option Int):List V:=(xs.drop (HT.k5 xs.length 0 lo)).take (HT.k5 xs.length xs.length hi - HT.k5 xs.length 0 lo)
theorem wN (xs:List V)(lo hi:Option Int):(Ed xs lo hi).length<=xs.length:=by
 unfold Ed
 rw [dB,List.length_drop]
 omega
def aay (K:Fg):V->Option Int->Option Int->Hp->VK->Prop:=fun x lo hi H Q=>∃ a xs,x=.ref a/\tm K H a xs /\
 ¬ (HT.k5 xs.length 0 lo=0/\HT.k5 xs.length xs.length hi=xs.length)/\∀ p,H p=none->Q (.ref p) (upd H p (.tup (Ed xs lo hi)))
theorem TY:IG X (aay X.K):=by
 intro pins s σ H x v vl vu lo hi sl Q I rx hs pl pu h
 obtain⟨a,xs,rfl,hx,hw,q⟩:=h
 cases rx
 obtain⟨its,r,ht,hz⟩:=I.tuple hx
 have hlen:its.toArray.size=xs.length:=by rw [ax];exact r.length.symm
 refine⟨"tuple",_,br.lookup,ht.typeIs,?_⟩
 refine HT.uS ht hs pl pu (by rw [hlen];exact hw) ?_ (by rw [hlen];exact hz)
 rw [hlen]
 refine⟨.ref (zB s),_,I.laid (t':=s.toks) (o:=.tup (Ed xs lo hi)) (fun b ob q=>ak _ q) (aD _) ?_,rfl,q _ (I.jd.fresh (aD _))⟩
 exact⟨bH (wN xs lo hi) hz,_,(r.drop (HT.k5 xs.length 0 lo)).take (HT.k5 xs.length xs.length hi - HT.k5 xs.length 0 lo),IsTup.new _ _⟩
def W6 (K:Fg):R2:=fun x y H Q=>∃ a b xs ys,x=.ref a/\y=.ref b/\tm K H a xs/\tm K H b ys/\xs≠[]/\xs.length+ys.length<=sizeLine /\
 (ys=[]->Q (.ref a) H)/\(ys≠[]->∀ p,H p=none->Q (.ref p) (upd H p (.tup (xs++ys))))
theorem gE.gn {xs:List V}{us:Lw}(r:gE xs us):us=[]↔xs=[]:=by
 cases r with
 | nil=>simp
 | cons _ _=>simp
theorem Pc:mU X (binaryOp .Add) (W6 X.K):=by
 intro pins s σ H x y v u Q I rx ry h
 obtain⟨a,b,xs,ys,rfl,rfl,ha,hb,hx,hz,q1,q2⟩:=h
 cases rx
 cases ry
 obtain⟨its,r1,p1,_⟩:=I.tuple ha
 obtain⟨uT,r2,p2,_⟩:=I.tuple hb
 refine HT.O6 p1 p2 (fun z=>hx (r1.gn.mp z)) (fun z=>⟨.ref a,H,I,rfl,q1 (r2.gn.mp z)⟩) (fun z=>?_) (by rw [← r1.length,← r2.length];exact hz)
 refine⟨.ref (zB s),_,I.laid (t':=s.toks) (o:=.tup (xs++ys)) (fun b ob q=>ak _ q) (aD _) ?_,rfl,q2 (fun w=>z (r2.gn.mpr w)) _ (I.jd.fresh (aD _))⟩
 exact⟨by rw [aK];exact hz,_,r1.append r2,IsTup.new _ _⟩
end
def Ci (n:Nat)(i:Int):Option Nat:=if 0<=i then (if i<n then some i.toNat else none) else if -(n:Int)<=i then some (i+n).toNat else none
def ux (xs:List α)(i:Int):Option α:=(Ci xs.length i).bind fun j=>xs[j]?
theorem IH {i:Int}{j:Nat}(h:Ci n i=some j):seqIndex? i n=some j/\j<n/\-(n:Int)<=i/\i<n:=by
 unfold Ci at h
 by_cases h0:0<=i
 ·rw [ai h0] at h
  by_cases h1:i<n
  ·rw [ai h1] at h
   have e:i.toNat=j:=bF h
   exact⟨by rw [seqIndex_of h0 h1,e],by omega,by omega,h1⟩
  ·rw [ao h1] at h;cases h
 ·rw [ao h0] at h
  by_cases h1:-(n:Int)<=i
  ·rw [ai h1] at h
   have e:(i+n).toNat=j:=bF h
   exact⟨by rw [seqIndex_neg (by omega) h1,e],by omega,h1,by omega⟩
  ·rw [ao h1] at h;cases h
theorem Cj {xs:List α}{i:Int}{v:α}(h:ux xs i=some v):∃ j,seqIndex? i xs.length=some j/\xs[j]?=some v/\j<xs.length/\-(xs.length:Int)<=i/\i<xs.length:=by
 unfold ux at h
 cases e:Ci xs.length i with
 | none=>rw [e] at h;cases h
 | some j =>
  rw [e] at h
  obtain⟨h1,h2,h3,h4⟩:=IH e
  exact⟨j,h1,h,h2,h3,h4⟩
def uU (b:Expr):Prop:=∀ o i,subscripted b false o i=operate [o,i] (getItem o i)
def II (X:Cx)(r:R2):Prop :=
 ∀ (value slice:Expr) (pins:Ax) (s:Shared) (σ:St) (H:Hp) (x y:V) (v u:Value) (Q:VK),fW X pins σ H s->gH x v->gH y u->r x y H Q ->
  subscripted slice false v u=operate [v,u] (getItem v u)->(zw X) (subscriptTail value slice v u) (EP X pins σ Q) X.xe s
def Sd (X:Cx)(id:String)(r:V->List V->Hp->VK->Prop):Prop :=
 ∀ (pins:Ax) (s:Shared) (σ:St) (H:Hp) (x:V) (xs:List V) (v:Value) (us:Lw) (Q:VK),fW X pins σ H s->gH x v->gE xs us->r x xs H Q ->
  (zw X) (call (.builtin id) (v::us)) (EP X pins σ Q) X.xe s
section
variable {a b:Expr}{ta tb:TE} 
theorem II.or {r r':R2}(h:II X r)(h':II X r'):II X (fun x y H Q=>r x y H Q∨r' x y H Q):=by
 intro value slice pins s σ H x y v u Q I rx ry q hs
 rcases q with q|q
 ·exact h value slice pins s σ H x y v u Q I rx ry q hs
 ·exact h' value slice pins s σ H x y v u Q I rx ry q hs
theorem Se {r:R2}(hr:II X r)(ha:PE X a ta)(hb:PE X b tb)(hs:uU b):PE X (.Subscript a b pos) (WM r ta tb):=by
 intro pins s σ H Q I h
 exact Subscript_ (TC ha hb I h fun v u s2 x y H2 I2 rx ry q=>hr a b pins s2 σ H2 x y v u Q I2 rx ry q (hs _ _))
def W7 (K:Fg):R2:=fun x y H Q=>∃ p xs i v,x=.ref p/\y=.int i/\qd K H p xs/\ux xs i=some v/\Q v H
def W8 (K:Fg):R2:=fun x y H Q=>∃ p xs i v,x=.ref p/\y=.int i/\tm K H p xs/\ux xs i=some v/\Q v H
def W9:R2:=fun x y H Q=>∃ z i c,x=.str z/\y=.int i/\z.length<=sizeLine/\ux z.cps.toList i=some c/\Q (.str ⟨#[c]⟩) H
theorem IJ:II X (W7 X.K):=by
 intro value slice pins s σ H x y v u Q I rx ry h hs
 obtain⟨p,xs,i,z,rfl,rfl,hq,he,q⟩:=h
 cases rx
 obtain⟨t,rfl⟩:=ry
 obtain⟨its,r,pl,hz⟩:=I.list hq
 obtain⟨j,h1,h2,h3,h4,h5⟩:=Cj he
 obtain⟨w,ew,Cm⟩:=r.get h2
 have hl:=r.length
 have hn:=uv
 have fin:EP X pins σ Q w s:=⟨z,H,I,Cm,q⟩
 by_cases h0:0<=i
 ·have hj:i.toNat=j:=by
   rw [seqIndex_of h0 h5] at h1
   exact bF h1
  exact item_listR pl.isList h0 (by omega) (by rw [hj];simpa using ew) fin hs
 ·have hj:(i+(its.toArray.size:Int)).toNat=j:=by
   rw [seqIndex_neg (by omega) h4] at h1
   rw [ax,← hl]
   exact bF h1
  exact subscriptTail_builtinR (x:=w) pl.isList.typeIs slot_list_getitem.lookup
   (wpAny_getItem_list_neg (Q:=fun r s'=>r=w/\EP X pins σ Q r s') pl.isList (by omega) (by rw [ax]<;>omega) (by omega) (by rw [hj];simpa using ew) ⟨rfl,fin⟩) hs
theorem TZ:II X (W8 X.K):=by
 intro value slice pins s σ H x y v u Q I rx ry h hs
 obtain⟨p,xs,i,z,rfl,rfl,hq,he,q⟩:=h
 cases rx
 obtain⟨t,rfl⟩:=ry
 obtain⟨its,r,pl,hz⟩:=I.tuple hq
 obtain⟨j,h1,h2,h3,h4,h5⟩:=Cj he
 obtain⟨w,ew,Cm⟩:=r.get h2
 have hl:=r.length
 have hn:=uv
 have fin:EP X pins σ Q w s:=⟨z,H,I,Cm,q⟩
 exact subscriptTail_builtinR (x:=w) pl.typeIs slot_tuple_getitem.lookup
  (getItem_tuple (j:=j) (Q:=fun r s'=>r=w/\EP X pins σ Q r s') pl (by omega) (by omega) (by rw [ax,← hl];exact h1) (by simpa using ew) ⟨rfl,fin⟩) hs
theorem T1:II X W9:=by
 intro value slice pins s σ H x y v u Q I rx ry h hs
 obtain⟨z,i,c,rfl,rfl,hz,he,q⟩:=h
 obtain⟨t,rfl⟩:=rx
 obtain⟨t',rfl⟩:=ry
 obtain⟨j,h1,h2,h3,h4,h5⟩:=Cj he
 have hl:z.cps.toList.length=z.length:=by simp [Str.length]
 rw [hl] at h1 h4 h5
 have hn:=uv
 exact tail_any (dF s z t) slot_str_getitem.lookup (getItem_str (c:=c) (by
  have e1:decide (i < -(2 ^ 63:Int))=false:=aH (by omega)
  have e2:decide (i ≥ 2 ^ 63)=false:=aH (by omega)
  rw [e1,e2,cT]) (by rw [h1];simpa using h2) ⟨.str ⟨#[c]⟩,H,I.tok _,⟨_,rfl⟩,q⟩) hs
def rIx (K:Fg):R2:=fun x y H Q=>W7 K x y H Q∨W8 K x y H Q∨W9 x y H Q
theorem T3:II X (rIx X.K):=IJ.or (TZ.or T1)
theorem GA (its:Lw)(n j:Nat)(u:Value):Obj.mapSeq (·.setIfInBounds j u) (zl its.toArray n)={ cls:=.type "list",data:=.seq (its.set j u).toArray n }:=by
 simp [Obj.mapSeq]
theorem fW.lst {pins:Ax}{σ:St}{H:Hp}{s:Shared}{p:Addr}{xs:List V}(I:fW X pins σ H s)(h:H p=some (.lst xs)) :
  ∃ (its:Lw) (n:Nat),gE xs its/\s.heap.get? p=some (zl its.toArray n)/\xs.length<=sizeLine:=by
 obtain⟨z,its,n,r,e⟩:=I.jd p _ h
 exact⟨its,n,r,e,z⟩
theorem fW.T4 {p:Addr}{xs ys:List V}{its its':Lw}{n':Nat}{f:Obj->Obj} (I:fW X pins σ H s) (h:H p=some (.lst xs))
  (ho:s.heap.get? p=some (zl its.toArray n)) (hf:f (zl its.toArray n)=(zl its'.toArray n')) (r:gE ys its') (hz:ys.length<=sizeLine) (t:Nat) :
  fW X pins σ (upd H p (.lst ys)) { s with heap:=s.heap.update p f,toks:=t }:=by
 have e:(s.heap.update p f).get? p=some (zl its'.toArray n'):=by
  rw [bB f ho (by rw [hf]<;>rfl),hf]
 refine I.write (x:=p) (e:=p) (by rw [h];trivial) (.inl rfl) (fun b u hb q=>(bj _ _ (Ne.symm hb)).trans q) ⟨_,e⟩ ?_
 exact⟨hz,its',n',r,e⟩
def Xa:V->V->V->Hp->(Hp->Prop)->Prop:=fun o i v H Q=>∃ p xs k j,o=.ref p/\i=.int k/\H p=some (.lst xs)/\Ci xs.length k=some j/\Q (upd H p (.lst (xs.set j v)))
theorem L8:D5 X Xa:=by
 intro pins s σ H o i v ov iv u Q I ro ri rv h
 obtain⟨p,xs,k,j,rfl,rfl,hp,hj,q⟩:=h
 cases ro
 obtain⟨t,rfl⟩:=ri
 obtain⟨its,n,r,ho,hz⟩:=I.lst hp
 obtain⟨h1,h2,h3,h4⟩:=IH hj
 have hl:=r.length
 have hn:=uv
 have I':fW X pins σ (upd H p (.lst (xs.set j v))) { s with heap:=s.heap.update p (Obj.mapSeq (·.setIfInBounds j u)) } :=
  I.T4 hp ho (GA its n j u) (r.set rv j) (by rw [eU];exact hz) s.toks
 by_cases h0:0<=k
 ·have hk:k.toNat=j:=by
   rw [seqIndex_of h0 h4] at h1
   exact bF h1
  exact W.ki_setAt ho h0 (by omega) (by rw [ax,← hl];exact h4) (by rw [hk];exact⟨_,I',q⟩)
 ·have hk:(k+(its.toArray.size:Int)).toNat=j:=by
   rw [seqIndex_neg (by omega) h3] at h1
   rw [ax,← hl]
   exact bF h1
  exact W.ki_setBack ho (by omega) (by rw [ax,← hl];exact h3) (by omega) (by rw [hk];exact⟨_,I',q⟩)
theorem Cn (lo hi:Option Int)(n:Nat):(sliceBounds lo hi none n).1=((HT.k5 n 0 lo:Nat):Int)/\(sliceBounds lo hi none n).2.1=((HT.k5 n n hi:Nat):Int)/\(sliceBounds lo hi none n).2.2=1:=by
 refine⟨?_,?_,rfl⟩
 ·cases lo with
  | none=>simp [sliceBounds,HT.k5]
  | some i =>
   simp only [sliceBounds,HT.k5,Option.getD_none,show (1:Int) > 0 by decide,cE]
   by_cases h:i<0
   ·simp only [h,cE]<;>omega
   ·simp only [h,eO]<;>omega
 ·cases hi with
  | none=>simp [sliceBounds,HT.k5]
  | some i =>
   simp only [sliceBounds,HT.k5,Option.getD_none,show (1:Int) > 0 by decide,cE]
   by_cases h:i<0
   ·simp only [h,cE]<;>omega
   ·simp only [h,eO]<;>omega
theorem Ao (its:Lw)(lo hi:Option Int):slicePick its.toArray lo hi none=((its.drop (HT.k5 its.length 0 lo)).take (HT.k5 its.length its.length hi - HT.k5 its.length 0 lo)).toArray:=by
 obtain⟨h1,h2,h3⟩:=Cn lo hi its.toArray.size
 unfold slicePick
 rw [h1,h2,h3]
 simp only [sliceRange_one,pick_run,ax]<;>rfl
def aaz (K:Fg):V->Option Int->Option Int->Hp->VK->Prop:=fun x lo hi H Q=>∃ a xs,x=.ref a/\qd K H a xs/\∀ p,H p=none->Q (.ref p) (upd H p (.lst (Ed xs lo hi)))
theorem IK:IG X (aaz X.K):=by
 intro pins s σ H x v vl vu lo hi sl Q I rx hs pl pu h
 obtain⟨a,xs,rfl,hx,q⟩:=h
 cases rx
 obtain⟨its,r,ht,hz⟩:=I.list hx
 have hlen:=r.length
 refine⟨"list",_,slot_list_getitem.lookup,ht.isList.typeIs,?_⟩
 refine wpAny_getItem_list_slice ht.isList hs pl pu .none (by simp) ?_ (by rw [ax]<;>omega)
 rw [Ao,← hlen]
 refine⟨.ref (zB s),_,I.laid (t':=s.toks) (o:=.lst (Ed xs lo hi)) (fun b ob q=>ak _ q) (aD _) ?_,rfl,q _ (I.jd.fresh (aD _))⟩
 exact⟨bH (wN xs lo hi) hz,_,0,(r.drop (HT.k5 xs.length 0 lo)).take (HT.k5 xs.length xs.length hi - HT.k5 xs.length 0 lo),aF _ rfl⟩
theorem Co:jV X (.builtin "len") (fun xs H Q=>∃ p ys,xs=[.ref p]/\(qd X.K H p ys∨tm X.K H p ys)/\Q (.int ys.length) H):=by
 intro pins s σ H xs us Q I r h
 obtain⟨p,ys,rfl,hq,q⟩:=h
 obtain⟨u,rfl,rx⟩:=uQ r
 cases rx
 have hn:=uv
 rcases hq with hq|hq
 ·obtain⟨its,r',pl,hz⟩:=I.list hq
  have hlen:=r'.length
  exact Calls.call_len_list pl.isList (by simp only [ax]<;>omega) ⟨.int ys.length,H,I.tok _,⟨s.toks+1,by rw [ax,hlen]⟩,q⟩
 ·obtain⟨its,r',pl,hz⟩:=I.tuple hq
  have hlen:=r'.length
  exact len_tuple pl (by simp only [ax]<;>omega) ⟨.int ys.length,H,I.tok _,⟨s.toks+1,by rw [ax,hlen]⟩,q⟩
theorem Cp:jV X (.builtin "len") (fun xs H Q=>∃ z,xs=[.str z]/\z.length<=sizeLine/\Q (.int z.length) H):=by
 intro pins s σ H xs us Q I r h
 obtain⟨z,rfl,hz,q⟩:=h
 obtain⟨u,rfl,t,rfl⟩:=uQ r
 have hn:=uv
 exact len_str (by omega) ⟨.int z.length,H,I.tok _,⟨_,rfl⟩,q⟩
theorem jV.or {f:Value}{r r':List V->Hp->VK->Prop}(h:jV X f r)(h':jV X f r'):jV X f (fun xs H Q=>r xs H Q∨r' xs H Q):=by
 intro pins s σ H xs us Q I rs q
 rcases q with q|q
 ·exact @h pins s σ H xs us Q I rs q
 ·exact @h' pins s σ H xs us Q I rs q
theorem Cq:jV X (.type "list") (fun xs H Q=>∃ p ys,xs=[.ref p]/\(qd X.K H p ys∨tm X.K H p ys)/\∀ l,H l=none->Q (.ref l) (upd H l (.lst ys))):=by
 intro pins s σ H xs us Q I r h
 obtain⟨p,ys,rfl,hq,q⟩:=h
 obtain⟨u,rfl,rx⟩:=uQ r
 cases rx
 have fin:∀ (its:Lw),gE ys its->ys.length<=sizeLine->∀ (h':Heap) (c':Nat),(∀ b o',s.heap.get? b=some o'->h'.get? b=some o') ->
   h'.get? (zB s)=some { cls:=.type "list",dict:=none,data:=.seq its.toArray c',slots:=#[] }->EP X pins σ Q (.ref (zB s)) { s with heap:=h' }:=fun its r' hz h' c' kp e =>
  ⟨.ref (zB s),_,I.laid (t':=s.toks) kp (aD _) (show j9 X.prog X.w _ h' _ (.lst ys) from ⟨hz,its,c',r',e⟩),rfl,q _ (I.jd.fresh (aD _))⟩
 rcases hq with hq|hq
 ·obtain⟨its,r',pl,hz⟩:=I.list hq
  have hlen:=r'.length
  obtain⟨o,ho,hc,n,hd⟩:=pl.isList
  exact call_list_seq p (.inl rfl) ho hc hd (fun h' c' kp e=>fin its r' hz h' c' kp e) (by simp only [ax]<;>omega)
 ·obtain⟨its,r',pl,hz⟩:=I.tuple hq
  have hlen:=r'.length
  obtain⟨o,ho,hc,n,hd⟩:=pl
  exact call_list_seq p (.inr rfl) ho hc hd (fun h' c' kp e=>fin its r' hz h' c' kp e) (by simp only [ax]<;>omega)
def tyV (K:Fg)(T:String)(x:V)(H:Hp):Prop:=match x with
 | .str _=>T="str"
 | .int _=>T="int"
 | .ref p=>(T="list"/\∃ xs,qd K H p xs)∨(T="tuple"/\∃ o,K.lookup p=some o/\o.cls=.type "tuple"/\o.dict=none) ∨
   (T="dict"/\((∃ fE,H p=some (.dK fE))∨∃ fE,H p=some (.dT fE)))∨(T="set"/\∃ S n,H p=some (.set S n))
 | _=>False
theorem Ma {T:String}{x:V}{v:Value}(I:fW X pins σ H s)(r:gH x v)(ty:tyV X.K T x H) :
  s.TypeIs v T/\∀ a,v=.ref a->∃ ob,s.heap.get? a=some ob/\ob.dict=none:=by
 cases x with
 | str z =>
  obtain⟨t,rfl⟩:=r
  cases (show T="str" from ty)
  exact⟨dF s z t,fun _ e=>nomatch e⟩
 | int i =>
  obtain⟨t,rfl⟩:=r
  cases (show T="int" from ty)
  exact⟨typeIs_int s i t,fun _ e=>nomatch e⟩
 | ref p =>
  cases r
  rcases ty with ⟨rfl,xs,hq⟩ | ⟨rfl,o,hk,hc,hd⟩ | ⟨rfl,hk⟩ | ⟨rfl,S,n,hk⟩
  ·obtain⟨its,_,pl,_⟩:=I.list hq
   refine⟨pl.isList.typeIs,fun a e=>?_⟩
   cases e
   obtain⟨o,n,e,c,hd,_⟩:=pl
   exact⟨o,e,hd⟩
  ·refine⟨⟨o,I.xo p o hk,hc⟩,fun a e=>?_⟩
   cases e
   exact⟨o,I.xo _ o hk,hd⟩
  ·have z:∃ o,s.heap.get? p=some o/\o.ExactDict:=by
    rcases hk with ⟨fE,hk⟩ | ⟨fE,hk⟩
    ·obtain⟨_,_,_,_,o,_,_,e,ex,_⟩:=I.jd p _ hk
     exact⟨o,e,ex⟩
    ·obtain⟨_,_,_,_,o,_,_,e,ex,_⟩:=I.jd p _ hk
     exact⟨o,e,ex⟩
   obtain⟨o,e,ex⟩:=z
   refine⟨⟨o,e,ex.1⟩,fun a e2=>?_⟩
   cases e2
   exact⟨o,e,ex.2.1⟩
  ·obtain⟨o,_,_,_,e,ex,_⟩:=I.jd p _ hk
   refine⟨⟨o,e,ex.1⟩,fun a e2=>?_⟩
   cases e2
   exact⟨o,e,ex.2.1⟩
 | _=>exact False.elim ty
def aaA (K:Fg)(T:String)(r:V->List V->Hp->VK->Prop)(to:TE):TE:=fun σ H Q=>to σ H fun x H1=>tyV K T x H1/\r x [] H1 Q
def tBM (K:Fg)(T:String)(r:V->List V->Hp->VK->Prop)(to:TE)(t:TA):TE:=fun σ H Q=>to σ H fun x H1=>tyV K T x H1/\t σ H1 fun xs H2=>r x xs H2 Q
variable {to:TE}{t:TA}{name:Str}{apos gJ:Pos}{T id:String}{r:V->List V->Hp->VK->Prop}
theorem GB (pa:PlainAttrs T) (slot:Slot T name id) (Mb:typeOf (.builtin id)=pure (.type "method_descriptor")) (hm:Sd X id r) (ho:PE X o to)
  (mf:attributeBase o name X.env (eval o X.env)=eval o X.env:=by rfl) (mh:(apos.endLine==gJ.line)=true:=by rfl):PE X (.Call (.Attribute o name apos) [] [] gJ) (aaA X.K T r to):=by
 intro pins s σ H Q I h
 refine wpAny_Call_method0_late mf mh (jl (@ho pins s σ H _ I h) fun v s1 ⟨x,H1,I1,r1,ty,q1⟩=>?_)
 obtain⟨h1,h2⟩:=Ma I1 r1 ty
 exact⟨T,id,pa,slot,Mb,h1,h2,bZ rfl (PySem.evalArgs_none (@hm pins s1 σ H1 x [] v [] Q I1 r1 .nil q1))⟩
theorem Ee (pa:PlainAttrs T) (slot:Slot T name id) (Mb:typeOf (.builtin id)=pure (.type "method_descriptor")) (hm:Sd X id r) (ho:PE X o to) (ha:PA X (e::es) t)
  (mf:attributeBase o name X.env (eval o X.env)=eval o X.env:=by rfl)
  (yf:((backTo gJ (starEach (e::es) X.env)).all (fun x=>!x.1)&&(backToKw gJ (keywordEach [] X.env)).all (fun x=>x.1.isSome)
  &&decide ((e::es).length+([]:List Keyword).length+(if ([]:List Keyword).isEmpty then 0 else 1)<30))=true:=by rfl)
  (mh:(apos.endLine==gJ.line)=true:=by rfl) (hs:zE e es X:=by rfl) (oR:(backTo gJ (starEach es X.env)).any (·.1)=false:=by rfl) :
  PE X (.Call (.Attribute o name apos) (e::es) [] gJ) (tBM X.K T r to t):=by
 intro pins s σ H Q I h
 refine wpAny_Call_method_late mf yf mh rfl (jl (@ho pins s σ H _ I h) fun v s1 ⟨x,H1,I1,r1,ty,q1⟩=>?_)
 obtain⟨h1,h2⟩:=Ma I1 r1 ty
 refine⟨T,id,pa,slot,Mb,h1,h2,?_⟩
 have hA:=@ha gJ pins s1 σ H1 _ I1 q1
 rw [hs] at hA ⊢
 refine bZ (by show (false||(backTo gJ (starEach es X.env)).any (·.1))=false;rw [oR]<;>rfl) (cO ?_)
 exact jl hA fun us s2 ⟨vs,H2,I2,r2,q2⟩=>@hm pins s2 σ H2 x vs v us Q I2 r1 r2 q2
end
def Zn (X:Cx)(id:String)(r:V->List V->Hp->VK->Prop):Prop :=
 ∀ (pins:Ax) (s:Shared) (σ:St) (H:Hp) (x:V) (xs:List V) (v:Value) (us:Lw) (Q:VK),fW X pins σ H s->gH x v->gE xs us->r x xs H Q ->
  (zw X) (call (.builtin id) (v::us)) (EP X pins σ Q) X.xe s
theorem gE.one:∀ {x:V}{us:Lw},gE [x] us->∃ u,us=[u]/\gH x u
 | _,_,.cons r .nil=>⟨_,rfl,r⟩
theorem gE.zero:∀ {us:Lw},gE [] us->us=[]
 | _,.nil=>rfl
theorem gE.dropLast {xs:List V}{us:Lw}(h:gE xs us):gE xs.dropLast us.dropLast:=by
 induction h with
 | nil=>exact .nil
 | cons r t ih =>
  cases t with
  | nil=>exact .nil
  | cons q t'=>exact .cons r ih
theorem gE.rep {xs:List V}{us:Lw}(h:gE xs us):∀ k:Nat,gE (List.replicate k xs).flatten (List.replicate k us).flatten
 | 0=>.nil
 | k+1=>by
  rw [bK,bK,cv,cv]
  exact gE.append h (gE.rep h k)
theorem GC (l:List α):l.eraseIdx (l.length - 1)=l.dropLast:=by
 induction l with
 | nil=>rfl
 | cons a r ih =>
  cases r with
  | nil=>rfl
  | cons b r =>
   have e:(a::b::r).length - 1=((b::r).length - 1)+1:=by
    have h1:(a::b::r).length=r.length+2:=rfl
    have h2:(b::r).length=r.length+1:=rfl
    omega
   rw [e,List.eraseIdx_cons_succ,ih]
   all_goals rfl
theorem A8 (its:Lw):∀ (k:Nat) (acc:Lw),
  List.foldl (fun x1 x2=>x1++x2) acc.toArray (List.replicate k its.toArray)=(acc++(List.replicate k its).flatten).toArray
 | 0,acc=>by simp
 | k+1,acc=>by
  have e:acc.toArray++its.toArray=(acc++its).toArray:=by simp
  have e2:(acc++its)++(List.replicate k its).flatten=acc++(List.replicate (k+1) its).flatten:=by
   rw [bK,cv,aN]
  rw [← e2,← A8 its k (acc++its),← e,bK,List.foldl_cons]
section
variable {l b:Addr}{xs ys zs:List V}
theorem fW.Pd {its its':Lw}{f:Array Value->Array Value}{t':Nat} (I:fW X pins σ H s) (hH:H l=some (.lst xs))
  (e:s.heap.get? l=some (zl its.toArray n)) (hf:f its.toArray=its'.toArray) (hv:gE ys its') (hz:ys.length<=sizeLine) :
  fW X pins σ (upd H l (.lst ys)) { s with heap:=s.heap.update l (Obj.mapSeq f),toks:=t' }:=by
 have q:=PySem.IsL.update e f
 rw [hf] at q
 refine I.write (x:=l) (e:=l) (by rw [hH];exact trivial) (.inl rfl) (fun b' u hb hu=>(bj s.heap (Obj.mapSeq f) (Ne.symm hb)).trans hu) ⟨_,q⟩ ?_
 exact⟨hz,its',_,hv,q⟩
theorem fW.T5 {its:Lw}{t':Nat}(I:fW X pins σ H s)(hv:gE ys its)(hz:ys.length<=sizeLine) :
  fW X pins σ (upd H (zB s) (.lst ys)) { s with heap:=s.heap.push { cls:=.type "list",data:=.seq its.toArray },toks:=t' } :=
 I.laid (fun _ _ q=>ak _ q) (aD _) ⟨hz,its,0,hv,aF _ rfl⟩
theorem fW.fresh (I:fW X pins σ H s):H (zB s)=none:=I.jd.fresh (aD _)
theorem fW.J4 (I:fW X pins σ H s)(hH:H l=some (.lst xs)):xs.length<=sizeLine/\∃ (its:Lw) (n:Nat),gE xs its/\xs.length=its.length/\s.heap.get? l=some (zl its.toArray n):=by
 obtain⟨z,its,n,r,e⟩:=I.jd l _ hH
 exact⟨z,its,n,r,r.length,e⟩
theorem Ef (h:n<=sizeLine):Builtin.List.listTooLong n=false:=by
 unfold Builtin.List.listTooLong
 exact aH (by omega)
end
section
def Pe:V->List V->Hp->VK->Prop:=fun x vs H Q=>∃ l xs y,x=.ref l/\vs=[y]/\H l=some (.lst xs)/\xs.length<sizeLine/\Q .lJ (upd H l (.lst (xs++[y])))
theorem A9:Zn X "list.append" Pe:=by
 intro pins s σ H x vs v us Q I rx rv h
 obtain⟨l,xs,y,rfl,rfl,hH,hz,q⟩:=h
 cases rx
 obtain⟨u,rfl,ru⟩:=rv.one
 obtain⟨z,its,n,r,hl,e⟩:=I.J4 hH
 refine b7 F.slot_list_append ⟨_,e,rfl⟩ F.entry_list_append (F.args_list_append_2 _ _) (PySem.list_append l its.toArray n u (by rw [ax];omega)) ⟨e,?_⟩
 refine⟨.lJ,_,I.Pd (its':=its++[u]) hH e (by simp) (r.append (.cons ru .nil)) ?_,rfl,q⟩
 rw [aK,List.length_singleton]
 omega
def Pf:V->List V->Hp->VK->Prop:=fun x vs H Q=>∃ l b xs zs,x=.ref l/\vs=[.ref b]/\H l=some (.lst xs)/\H b=some (.lst zs)/\xs.length+zs.length<=sizeLine/\Q .lJ (upd H l (.lst (xs++zs)))
theorem J5:Zn X "list.extend" Pf:=by
 intro pins s σ H x vs v us Q I rx rv h
 obtain⟨l,b,xs,zs,rfl,rfl,hH,hB,hz,q⟩:=h
 cases rx
 obtain⟨u,rfl,ru⟩:=rv.one
 cases ru
 obtain⟨z,its,n,r,hl,e⟩:=I.J4 hH
 obtain⟨z2,uT,n2,r2,Ln,e2⟩:=I.J4 hB
 have hsz:its.toArray.size+uT.toArray.size<=sizeLine:=by rw [ax,ax];omega
 have Mc:¬ (!its.toArray.isEmpty&&Builtin.List.listTooLong (its.toArray.size+uT.toArray.size))=true:=by
  rw [Ef hsz,Bool.and_false]
  exact aQ
 refine b7 F.slot_list_extend ⟨_,e,rfl⟩ F.entry_list_extend (F.args_list_extend_2 _ _)
  (AutoSeq1.list_extend_list_list_0 l its.toArray n b uT.toArray n2 Mc (by rw [ax];omega) (by omega)) ⟨e,e2,?_⟩
 refine⟨.lJ,_,I.Pd (its':=its++uT) hH e (by simp) (r.append r2) ?_,rfl,q⟩
 rw [aK]
 omega
def aaB:V->List V->Hp->VK->Prop:=fun x vs H Q=>∃ l xs y,x=.ref l/\vs=[]/\H l=some (.lst xs)/\xs[xs.length - 1]?=some y/\Q y (upd H l (.lst xs.dropLast))
theorem T6:Zn X "list.pop" aaB:=by
 intro pins s σ H x vs v us Q I rx rv h
 obtain⟨l,xs,y,rfl,rfl,hH,hy,q⟩:=h
 cases rx
 have hus:=rv.zero
 subst hus
 obtain⟨z,its,n,r,hl,e⟩:=I.J4 hH
 obtain⟨u,hu,ru⟩:=r.get hy
 have VZ:its.toArray[its.toArray.size - 1]?=some u:=by
  show its.toArray[its.length - 1]?=some u
  rw [← Array.getElem?_toList,← hl]
  exact hu
 refine b7 F.slot_list_pop ⟨_,e,rfl⟩ F.entry_list_pop (F.args_list_pop_1 _) (MeetsSeq.list_pop_last l its.toArray n u VZ (by rw [ax];omega)) ⟨e,?_⟩
 refine⟨y,_,I.Pd (its':=its.dropLast) hH e ?_ r.dropLast ?_,ru,q⟩
 ·show its.toArray.eraseIdxIfInBounds (its.toArray.size - 1)=its.dropLast.toArray
  rw [ax,List.eraseIdxIfInBounds_toArray,GC]
 ·rw [List.length_dropLast]
  omega
def T7:V->List V->Hp->VK->Prop:=fun x vs H Q=>∃ l xs,x=.ref l/\vs=[]/\H l=some (.lst xs)/\Q .lJ (upd H l (.lst []))
theorem Eg:Zn X "list.clear" T7:=by
 intro pins s σ H x vs v us Q I rx rv h
 obtain⟨l,xs,rfl,rfl,hH,q⟩:=h
 cases rx
 have hus:=rv.zero
 subst hus
 obtain⟨z,its,n,r,hl,e⟩:=I.J4 hH
 refine b7 F.slot_list_clear ⟨_,e,rfl⟩ F.entry_list_clear (F.args_list_clear_1 _) (AutoSeq1.list_clear_list_0 l its.toArray n (by rw [ax];omega)) ⟨e,?_⟩
 exact⟨.lJ,_,I.Pd (its':=[]) (ys:=[]) hH e rfl .nil (cW _),rfl,q⟩
def aaC:R2:=fun x y H Q=>∃ l k xs,x=.ref l/\y=.int k/\H l=some (.lst xs)/\-(2 ^ 63)<=k/\k<2 ^ 63/\xs.length*k.toNat<=sizeLine /\
 ∀ p,H p=none->Q (.ref p) (upd H p (.lst (List.replicate k.toNat xs).flatten))
theorem Pg (xs:List α)(k:Nat):(List.replicate k xs).flatten.length=k*xs.length:=by
 induction k with
 | zero=>simp
 | succ k ih=>rw [bK,cv,aK,ih,Nat.succ_mul,Nat.add_comm]
theorem T8:mU X (binaryOp .Mult) aaC:=by
 intro pins s σ H x y v u Q I rx ry h
 obtain⟨l,k,xs,rfl,rfl,hH,h1,h2,hz,q⟩:=h
 cases rx
 obtain⟨t,rfl⟩:=ry
 obtain⟨z,its,n,r,hl,e⟩:=I.J4 hH
 have hlen:its.toArray.size*k.toNat<=sizeLine:=by rw [ax,← hl];exact hz
 have oS:¬ its.toArray.size*k.toNat > (2 ^ 63 - 1) / 8:=by
  have:(sizeLine:Nat)<=(2 ^ 63 - 1) / 8:=by decide
  omega
 have aaD:¬ (!Builtin.List.listFitsIndex k)=true:=by
  rw [fitsIndex_both h1 h2]
  exact aQ
 have Mc:¬ Builtin.List.listTooLong (its.toArray.size*k.toNat)=true:=by
  rw [Ef hlen]
  exact aQ
 have Me:List.foldl (fun x1 x2=>x1++x2) #[] (List.replicate (if its.toArray.isEmpty=true then 0 else k.toNat) its.toArray)=(List.replicate k.toNat its).flatten.toArray:=by
  have f0:∀ m:Nat,List.foldl (fun x1 x2=>x1++x2) #[] (List.replicate m its.toArray)=(List.replicate m its).flatten.toArray:=fun m=>by
   have:=A8 its m []
   rw [bu] at this
   exact this
  rw [f0]
  cases its with
  | nil=>simp
  | cons a r'=>rw [ao (by simp)]
 refine wpAny_binaryOp_repeat_ref (T:="list") (U:="int") (by decide) ⟨_,e,rfl⟩ (fun s'=>typeIs_int s' k t) noFill_list_mul F.fills_int_mul F.slot_int_rmul repeat_list F.slot_int_index.lookup
  (b7 F.slot_int_rmul (typeIs_int s k t) F.entry_int_rmul (F.args_int_rmul_2 _ _) (int___rmul___int_list k t l its.toArray n)
   ⟨e,rfl,⟨_,e,rfl⟩,b7 F.slot_list_mul ⟨_,e,rfl⟩ F.entry_list_mul (F.args_list_mul_2 _ _) (AutoListH.list___mul___list_int_3 l its.toArray n k t aaD oS Mc) ⟨e,?_⟩⟩)
 rw [Me]
 exact⟨.ref _,_,I.T5 (t':=s.toks) (r.rep k.toNat) (by rw [Pg,Nat.mul_comm];exact hz),rfl,q _ I.fresh⟩
end
section
variable {prog:Program}    
end
end L2
namespace Zo
open PySem PySem.W PySem.Calls PyProof.Rows
theorem xp {P:Params}{h:Heap}:∀ (ns:List Int) (vs:Lw),WellAll P h vs (ns.map WData.int)->IntsAre vs ns:=by
 intro ns
 induction ns with
 | nil =>
  intro vs w
  rw [aZ] at w
  cases w
  exact .nil
 | cons n ns ih =>
  intro vs w
  rw [aa] at w
  cases w with
  | cons a b =>
   cases a
   exact .cons _ _ (ih _ b)
theorem Ka {l:OpenLaw} (hn:l.most=some n) {P:Params}{h:Heap}{args:List WData}{vals:Lw}
  (Pj:l.row.toRowW.claim.pre args=true) (hwl:WellAll P h vals args) :
  ∃ a vs ns,vals=[Value.ref a]/\args=[WData.list (ns.map WData.int)]/\h.get? a=some { cls:=.type "list",data:=.seq vs.toArray }/\IntsAre vs ns/\ns.length<=n:=by
 have hsh:WShape.hasAll [] args [.list .int]=true:=(pre_splitW Pj).1
 have hc:l.pre.holds [] { args:=args }=true:=(pre_splitW Pj).2
 obtain⟨d,r,rfl,h1,h2⟩:=hasAllW_cons hsh
 obtain rfl:=hasAllW_nil h2
 obtain⟨xs,rfl,h3⟩:=hasW_list h1
 obtain⟨ns,rfl⟩:=items_int h3
 have hlen:ns.length<=n:=by
  unfold OpenLaw.pre at hc
  have h4:(WTm.not (.lt (.lit (.int (n:Int))) (.len (.arg 0)))).holds [] { args:=[.list (ns.map .int)] }=true:=by
   have h4:=(holds_andW hc).1
   rw [hn] at h4
   exact h4
  have h5:=condW_of h4 (w_not (w_lt w_lit (w_len_list (w_arg rfl))))
  rw [ae] at h5
  refine dG fun q=>?_
  have q':(n:Int)<((ns.length:Nat):Int):=by omega
  first
   | (rw [bf q'] at h5;exact absurd h5 (by decide))
   | (simp at h5;omega)
 cases hwl with
 | cons w1 w2 =>
  cases w2
  cases w1 with
  | list ho T9=>exact⟨_,_,ns,rfl,rfl,ho,xp ns _ T9,hlen⟩
theorem Kb (l:OpenLaw)(args:List WData):l.row.toRowW.claim.post args (.bool true) args=true :=
 postW_of (r:=l.row.toRowW) (X:=(true==true))
  (show WShape.has [] (.bool true) .bool=true by first|rfl|decide|simp [WShape.has,WShape.arms,WShape.armsAll])
  (show (WTm.eq .res (.lit (.bool true))).value [] { args:=args,res:=some (.bool true),after:=args }=some (.bool (true==true)) from w_eq_bool (w_res rfl) w_lit) rfl
section
variable {prog:Program}{K:Frag}
end
end Zo
namespace L2
open PySem PySem.Spec PyProof.Rows
theorem Bc:∀ {vs:Lw}{ns:List Int},IntsAre vs ns->gE (ns.map V.int) vs
 | _,_,.nil=>.nil
 | _,_,.cons n t h=>.cons ⟨t,rfl⟩ (Bc h)
def Xb (H:Hp):Prop:=∀ b,H b=none∨∃ o xs,H b=some (.Ly o (.lst xs))
theorem Mf {P:Program}{K:Fg}{mb:Str->Ow}{CX:L5}{k:Nat}{fa:Addr}{sp:Sp}{s₁:Shared}{vs:Lw}{ns:List Int}
  (KX:K.In s₁.heap) (Ua:s₁.heap.Ns mainGlobals mg) (hb:s₁.heap.Ns builtinsNs mb) (hbb:∀ x:Str,x≠"__name__"->mb x=bootBuiltins x) (aaE:s₁.heap.NoLimit) (hg:s₁.gens=#[])
  (ha:s₁.heap.get? a=some { cls:=.type "list",data:=.seq vs.toArray }) (hi:IntsAre vs ns) (hl:ns.length<=sizeLine) (hr:j3 k callerA)
  (F:∀ base:Heap,K.In base->base.Ns mainGlobals mg->nN P w K mg base CX k fa fd [x] sp) (Xc:∀ (s:Shared) (u:Value),BindsTo s fd ⟨[u],[]⟩ [(x,u)])
  (VX:∀ H:Hp,Xb H->qd K H a (ns.map V.int)->sp [.ref a] H (fun v _=>v=.bl true) fun _ _ _=>False)
  (hCX:∀ H e s',CX [] H s₁ (fun _ _ _=>False) e s'->False) :
  codeAny (model P w) callerA (.call (.ref fa) ⟨[.ref a],[]⟩) (fun r s'=>r=.ok (.ret (.bool true))/\OldK s₁.heap s'.heap/\s'.os=s₁.os/\AllBare s'.gens) s₁:=by
 have rv:=Bc hi
 have aaF:=hi.length
 have core:∀ H:Hp,Xb H->qd K H a (ns.map V.int)->um P w H s₁.heap->(∀ b,H b≠none->b=a)->(H a≠none->K.lookup a=none) ->
   codeAny (model P w) callerA (.call (.ref fa) ⟨[.ref a],[]⟩) (fun r s'=>r=.ok (.ret (.bool true))/\OldK s₁.heap s'.heap/\s'.os=s₁.os/\AllBare s'.gens) s₁:=by
  intro H hO hS jd hA hK
  have IL:∀ {b:Addr}{o:Obj},s₁.heap.get? b=some o->H b=none->(Ca s₁.heap H).get? b=some o:=fun e n=>Lz e n
  have W0:∀ {b:Addr}{o:Obj}{es:Array DictEntry}{ep:Nat},s₁.heap.get? b=some o->o.data=.dict es ep->H b=none:=fun {b o es ep} e d=>by
   cases q:H b with
   | none=>rfl
   | some u =>
    have e':b=a:=hA b (by rw [q];simp)
    subst e'
    rw [ha] at e;cases e
    have d':Data.seq vs.toArray _=Data.dict es ep:=d
    cases d'
  have Zp:∀ {b:Addr}{m:Str->Ow},s₁.heap.Ns b m->(Ca s₁.heap H).Ns b m:=fun {b m} ⟨o,es,ep,e,d,r⟩=>⟨o,es,ep,IL e (W0 e d),d,r⟩
  have hKb:K.In (Ca s₁.heap H):=fun b o e=>IL (KX b o e) (by
   cases q:H b with
   | none=>rfl
   | some u =>
    have e':b=a:=hA b (by rw [q];simp)
    subst e'
    rw [hK (by rw [q];simp)] at e;cases e)
  have hM:Mod K mg (Ca s₁.heap H):=⟨hKb,Zp Ua,⟨mb,Zp hb,hbb⟩,let ⟨mc,h1,h2⟩:=aaE;⟨mc,Zp h1,h2⟩⟩
  have e0:Gw P w K mg (Ca s₁.heap H) callerA [] s₁ H:=⟨rfl,hM,fun b o e=>OP e,Nat.le_of_eq (JN _ _),trivial,fun b hb=>absurd (show b∈([]:List Addr) from hb) (by simp),jd,.of_eq hg⟩
  refine df ((F _ hKb (Zp Ua)).run callerA [] s₁ H ⟨[.ref a],[]⟩ [.ref a] [.ref a] _ _ hr e0 (Xc s₁ (.ref a)) (.cons rfl .nil) (VX H hO hS)) fun r s' h=>?_
  cases r with
  | error e=>exact(hCX H e s' h).elim
  | ok fl =>
   cases fl with
   | next=>exact False.elim h
   | brk=>exact False.elim h
   | cont=>exact False.elim h
   | ret u =>
    obtain⟨v,H',os,bare,un,Ub,r',q⟩:=h
    have q':v=.bl true:=q
    subst q'
    obtain rfl:u=Value.bool true:=r'
    refine⟨rfl,OldK.of_keep fun b o e=>?_,os,bare⟩
    cases q:H b with
    | none=>exact un.keep b o e q (by intro z;exact absurd (show b∈([]:List Addr) from z) (by simp)) (by simp)
    | some u =>
     rcases hO b with z | ⟨ob,xs,z⟩
     ·rw [q] at z;cases z
     ·have z2:=un.uo b ob _ z
      obtain⟨e1,_⟩:=jd b _ z
      obtain⟨e2,_⟩:=Ub b _ z2
      rw [e] at e1;cases e1
      exact e2
 cases hk:K.lookup a with
 | some o =>
  have e:=KX a o hk
  rw [ha] at e
  cases e
  refine core (fun _=>none) (fun _=>.inl rfl) (.inr ⟨_,vs.toArray,_,hk,rfl,rfl,rfl,by rw [ax,aaF];exact hl,by simpa using rv⟩) (fun b u z=>by have z':(none:Option HO)=some u:=z;cases z') (fun b z=>absurd rfl z) fun z=>absurd rfl z
 | none =>
  refine core (fun b=>if b=a then some (.Ly { cls:=.type "list",data:=.seq vs.toArray } (.lst (ns.map V.int))) else none) (fun b=>?_) (.inl (.inr ⟨{ cls:=.type "list",data:=.seq vs.toArray },ai rfl⟩)) (fun b u z=>?_) (fun b z=>?_) fun _=>hk
  ·by_cases hb:b=a
   ·exact .inr ⟨_,_,ai hb⟩
   ·exact .inl (ao hb)
  ·by_cases hb:b=a
   ·have z':=(ai hb).symm.trans z
    cases z'
    subst hb
    exact⟨ha,by rw [ae];exact hl,vs,_,rv,ha⟩
   ·have z':=(ao hb).symm.trans z
    cases z'
  ·by_cases hb:b=a
   ·exact hb
   ·exact absurd (ao hb) z
def pJ (s:Stmt)(j:Nat):Stmt:=match s with
 | .ClassDef _ _ _ body _ _ _ _ _ _ _=>body.getD j (.Pass ⟨0,0,0,0⟩)
 | _=>.Pass ⟨0,0,0,0⟩
def pK (s:Stmt):Arguments:=match s with
 | .FunctionDef _ a _ _ _ _ _ _ _ _=>a
 | _=>{ posonlyargs:=[],args:=[],vararg:=none,kwonlyargs:=[],kw_defaults:=[],kwarg:=none,defaults:=[] }
def k7 (s:Stmt):List Stmt:=match s with
 | .FunctionDef _ _ b _ _ _ _ _ _ _=>b
 | _=>[]
def gB (s:Stmt):Scope:=match s with
 | .FunctionDef _ _ _ _ _ _ sc _ _ _=>sc
 | _=>{ kind:=.function,names:=[],isGenerator:=false,isCoroutine:=false }
abbrev Bd:L5:=fun _ _ _ _ _ _=>False
abbrev E0:XK:=fun _ _ _=>False
theorem uV:rZ Bd X E0:=fun _ _ _ _ _ _ _ h=>h.elim
structure Lo (K:Fg) (x qual:Str) (st:Stmt) (f:Addr) (fd:FuncData):Prop where
 ex:∃ (oc:Value) (od:Option Addr) (kV doc pm:Value) (an:Option Addr) (mW ct:Value) (Ll:Array Ow),
  fd=W.fnOf x qual (pK st) (k7 st) (gB st) .none kV doc pm an mW ct/\K.lookup f=some ⟨oc,od,.func fd,Ll⟩/\W.codeIn K mW qual=true
 kp:W.keepIn K (.ref f)=true
section
variable {P:Program}{K:Fg}{base:Heap}
theorem Lo.ok {qual:Str}{f:Addr}{N ps:Lr}{k:Nat}{sp:Sp} (F:Lo K x qual st f fd) (S:k6 N ps (gB st)) (len:∀ vs H Q E,sp vs H Q E->vs.length=ps.length)
  (uR:∀ (mW:Value) (A:Around) (outer:List Env) (s:Shared) (H:Hp) (vs:List V) (Q:VK) (E:XK),j3 k (A.deeper (envOfC qual (gB st) (zB s) f mW))->sp vs H Q E ->
   ∃ t,Al (An Bd P w K mg base N qual (gB st) f mW A outer s H E).R7 (k7 st) t/\t { nx:=fun _ H'=>Q .lJ H',rt:=Q } (om N vs) H):nN P w K mg base Bd (k+1) f fd ps sp:=by
 obtain⟨oc,od,kV,doc,pm,an,mW,ct,Ll,rfl,lk,xR⟩:=F.ex
 refine W2 lk xR S len fun A outer s H vs Q E hr VX=>?_
 obtain⟨t,h,q⟩:=uR mW A outer s H vs Q E hr VX
 exact⟨t,h.R7,q⟩
theorem Lo.binds {qual:Str}{f:Addr}{ps:Lr} (F:Lo K x qual st f fd)
  (h:∀ (kV doc pm:Value) (an:Option Addr) (mW ct:Value) (us:Lw),us.length=ps.length->bindArgs (W.fnOf x qual (pK st) (k7 st) (gB st) .none kV doc pm an mW ct) ⟨us,[]⟩=pure (ps.zip us)):mV K fd ps []:=by
 obtain⟨oc,od,kV,doc,pm,an,mW,ct,Ll,rfl,lk,xR⟩:=F.ex
 exact .all (h kV doc pm an mW ct)
theorem GD {qual:Str}{f:Addr}{oc:Value}{od an:Option Addr}{Ll:Array Ow}{kV doc pm mW ct:Value} (l:K.lookup f=some ⟨oc,od,.func (W.fnOf x qual (pK st) (k7 st) (gB st) .none kV doc pm an mW ct),Ll⟩)
  (c:W.codeIn K mW qual=true) (k:W.keepIn K (.ref f)=true):Lo K x qual st f (W.fnOf x qual (pK st) (k7 st) (gB st) .none kV doc pm an mW ct):=⟨⟨oc,od,kV,doc,pm,an,mW,ct,Ll,rfl,l,c⟩,k⟩
end
def fV (H H':Hp):Prop:=∀ b o,H b=some o->H' b=some o
theorem fV.refl (H:Hp):fV H H:=fun _ _ h=>h
theorem fV.trans {H1 H2:Hp}(a:fV H H1)(b:fV H1 H2):fV H H2:=fun c o h=>b c o (a c o h)
theorem fV.seq {K:Fg}{H':Hp}{xs:List V}(e:fV H H')(h:qd K H a xs):qd K H' a xs:=by
 rcases h with (h | ⟨o,h⟩)|h
 ·exact .inl (.inl (e _ _ h))
 ·exact .inl (.inr ⟨o,e _ _ h⟩)
 ·exact .inr h
section
variable {κ:Type} [DecidableEq κ]
def qP (fE:List (κ×V))(k:κ):Option V:=(fE.find? fun kv=>decide (kv.1=k)).map (·.2)
def pE (fE:List (κ×V))(k:κ)(v:V):List (κ×V) :=
 if (fE.any fun kv=>decide (kv.1=k))=true then fE.map (fun kv=>if kv.1=k then (kv.1,v) else kv) else fE++[(k,v)]
theorem uW {p:κ×V}{r:List (κ×V)}{k:κ}(e:p.1=k):qP (p::r) k=some p.2:=by simp [qP,bM,e]
theorem r8 {p:κ×V}{r:List (κ×V)}{k:κ}(e:¬ p.1=k):qP (p::r) k=qP r k:=by simp [qP,bM,e]
theorem Eh (k:κ):∀ fE:List (κ×V),(fE.any fun kv=>decide (kv.1=k))=(qP fE k).isSome
 | []=>rfl
 | p::r=>by
  rw [bG]
  by_cases e:p.1=k
  ·simp only [uW e,bf e,Bool.true_or,Option.isSome_some]
  ·rw [r8 e,aH e,Bool.false_or];exact Eh k r
theorem pL (fE:List (κ×V))(k:κ)(v:V):(pE fE k v).length<=fE.length+1:=by
 unfold pE
 split
 ·rw [ae];omega
 ·rw [aK,ar,cV];omega
theorem rK.qw {o:Option V}{u:Ow}(r:rK o u):o.isSome=u.isSome:=by
 cases o with
 | none=>cases u with
  | none=>rfl
  | some _=>exact(show False from r).elim
 | some _=>cases u with
  | none=>exact(show False from r).elim
  | some _=>rfl
theorem rK.getD {o:Option V}{u:Ow}{d:V}{d':Value}(r:rK o u)(rd:gH d d'):gH (o.getD d) (u.getD d'):=by
 cases o with
 | none=>cases u with
  | none=>exact rd
  | some _=>exact(show False from r).elim
 | some _=>cases u with
  | none=>exact(show False from r).elim
  | some _=>exact r
theorem KV.val {fE:List (κ×V)}{vs:List (κ×Value)}(r:KV fE vs)(k:κ):rK (qP fE k) (valueAt vs k):=by
 unfold KV at r
 induction r with
 | nil=>exact aO
 | @cons p q ps qs h t ih =>
  obtain⟨h1,h2⟩:=h
  by_cases e:p.1=k
  ·have e':q.1=k:=h1.symm.trans e
   have b:valueAt (q::qs) k=some q.2:=by simp [valueAt,bM,e']
   rw [uW e,b];exact h2
  ·have e':¬ q.1=k:=fun z=>e (h1.trans z)
   have b:valueAt (q::qs) k=valueAt qs k:=by simp [valueAt,bM,e']
   rw [r8 e,b];exact ih
theorem KV.any {fE:List (κ×V)}{vs:List (κ×Value)}(r:KV fE vs)(k:κ):(fE.any fun kv=>decide (kv.1=k))=vs.any fun kv=>decide (kv.1=k):=by
 unfold KV at r
 induction r with
 | nil=>rfl
 | cons h t ih=>rw [bG,bG,ih,h.1]
theorem KV.GF {fE:List (κ×V)}{vs:List (κ×Value)}(r:KV fE vs)(k:κ){y:V}(ry:gH y u) :
  KV (fE.map fun kv=>if kv.1=k then (kv.1,y) else kv) (vs.map fun kv=>if kv.1=k then (kv.1,u) else kv):=by
 unfold KV at r ⊢
 induction r with
 | nil=>exact .nil
 | @cons p q ps qs h t ih =>
  rw [aa,aa]
  refine .cons ?_ ih
  obtain⟨h1,h2⟩:=h
  by_cases e:p.1=k
  ·rw [ai e,ai (h1.symm.trans e)];exact⟨h1,ry⟩
  ·rw [ao e,ao (fun z=>e (h1.trans z))];exact⟨h1,h2⟩
theorem KV.put {fE:List (κ×V)}{vs:List (κ×Value)}(r:KV fE vs)(k:κ){y:V}(ry:gH y u):KV (pE fE k y) (stored vs k u):=by
 unfold pE stored
 rw [r.any k]
 by_cases e:(vs.any fun kv=>decide (kv.1=k))=true
 ·rw [ai e,ai e];exact r.GF k ry
 ·rw [ao e,ao e];exact Paired.snoc r ⟨rfl,ry⟩
theorem KV.length {fE:List (κ×V)}{vs:List (κ×Value)}(r:KV fE vs):fE.length=vs.length:=eJ r
end
theorem qx {P:Program}{k:Key}(r:gH (kV k) u):(gS P w).is k u=true:=by
 cases k with
 | inl i=>obtain⟨t,e⟩:=(show ∃ t,u=Value.int i t from r);subst e;exact D2 P w i t
 | inr x=>obtain⟨t,e⟩:=(show ∃ t,u=Value.str x t from r);subst e;exact rS P w x t
theorem Be {P:Program}{w:World}:∀ {ks:List Key}{us:Lw},gE (ks.map kV) us->ItemsAre (gS P w) ks us
 | [],_,r=>by rw [aZ] at r;cases r;exact .nil
 | k::ks,_,r=>by
  rw [aa] at r
  cases r with
  | cons h t=>exact .cons (qx h) (Be t)
abbrev KT (H:Hp):List (List Key×V)->List (List Key×Addr×Value)->Prop:=Paired fun p q=>p.1=q.1/\H q.2.1=some (.tup (p.1.map kV))/\gH p.2 q.2.2
theorem KT.val {fE:List (List Key×V)}(r:KT H fE xs)(k:List Key):rK (qP fE k) ((atKey xs k).map (·.2)):=by
 induction r with
 | nil=>exact aO
 | @cons p q ps qs h t ih =>
  obtain⟨h1,_,h2⟩:=h
  by_cases e:p.1=k
  ·have e':q.1=k:=h1.symm.trans e
   have b:atKey (q::qs) k=some q.2:=by simp [atKey,bM,e']
   rw [uW e,b];exact h2
  ·have e':¬ q.1=k:=fun z=>e (h1.trans z)
   have b:atKey (q::qs) k=atKey qs k:=by simp [atKey,bM,e']
   rw [r8 e,b];exact ih
theorem KT.GF {fE:List (List Key×V)}(r:KT H fE xs)(k:List Key){y:V}(ry:gH y u) :
  KT H (fE.map fun kv=>if kv.1=k then (kv.1,y) else kv) (xs.map (putAt k u)):=by
 induction r with
 | nil=>exact .nil
 | @cons p q ps qs h t ih =>
  rw [aa,aa]
  refine .cons ?_ ih
  obtain⟨h1,h2,h3⟩:=h
  unfold putAt
  by_cases e:p.1=k
  ·rw [ai e,ai (h1.symm.trans e)];exact⟨h1,h2,ry⟩
  ·rw [ao e,ao (fun z=>e (h1.trans z))];exact⟨h1,h2,h3⟩
theorem KT.put {fE:List (List Key×V)}(r:KT H fE xs)(k:List Key){b:Addr}{y:V}(hb:H b=some (.tup (k.map kV)))(ry:gH y u) :
  KT H (pE fE k y) (storedH xs k b u):=by
 have e:(fE.any fun kv=>decide (kv.1=k))=(atKey xs k).isSome:=by
  rw [Eh,(r.val k).qw,eE]
 unfold pE storedH
 rw [e]
 by_cases q:(atKey xs k).isSome=true
 ·rw [ai q,ai q];exact r.GF k ry
 ·rw [ao q,ao q];exact Paired.snoc r ⟨rfl,hb,ry⟩
theorem KT.keeps {H':Hp}{fE:List (List Key×V)}(r:KT H fE xs)(ht:∀ b ys,H b=some (.tup ys)->H' b=some (.tup ys)):KT H' fE xs :=
 Paired.Tf r fun _ _ z=>⟨z.1,ht _ _ z.2.1,z.2.2⟩
section
variable {P:Program}{h:Heap} 
theorem Sf {u:HO}(ok:um P w H h)(e:Rd H a u):j9 P w H h a u:=e.ok ok
theorem uX {fE:List (Key×V)}(ok:um P w H h)(e:Rd H a (.dK fE)):fE.length<=sizeLine/\(a==sysModules)=false/\∃ vs,KV fE vs/\h.DictOf (gS P w) a vs :=
 show j9 P w H h a (.dK fE) from Sf ok e
theorem rA {fE:List (Key×V)}(ok:um P w H h)(e:H a=some (.dK fE)):fE.length<=sizeLine/\(a==sysModules)=false/\∃ vs,KV fE vs/\h.DictOf (gS P w) a vs:=uX ok (.inl e)
theorem uy {ks:List Key}(ok:um P w H h)(e:H a=some (.tup (ks.map kV))):(tupleKind (gS P w)).is h ks a:=by
 obtain⟨_,its,r,o,h1,h2,n,h3⟩:=(show j9 P w H h a (.tup (ks.map kV)) from ok a _ e)
 exact⟨o,its.toArray,n,h1,h2,h3,by simpa using Be r⟩
theorem wO {fE:List (List Key×V)}(ok:um P w H h)(e:Rd H a (.dT fE)):fE.length<=sizeLine/\(a==sysModules)=false /\
  ∃ xs,KT H fE xs/\h.DictOfH (tupleKind (gS P w)) a xs:=by
 obtain⟨z,y,xs,r,o,es,ep,h1,h2,h3,h4,h5⟩:=(show j9 P w H h a (.dT fE) from Sf ok e)
 refine⟨z,y,xs,r,o,es,ep,h1,h2,h3,h4,fun x hx=>?_,h5⟩
 have all:∀ {l:List (List Key×V)}{m:List (List Key×Addr×Value)},KT H l m->∀ x∈m,(tupleKind (gS P w)).is h x.1 x.2.1:=by
  intro l m q
  induction q with
  | nil=>intro x hx;exact nomatch hx
  | @cons p q ps qs hq t ih =>
   intro x hx
   rcases ah.mp hx with e|hx
   ·subst e
    exact uy ok (by rw [← hq.1];exact hq.2.1)
   ·exact ih x hx
 exact all r x hx
theorem Xd {fE:List (List Key×V)}(ok:um P w H h)(e:H a=some (.dT fE)):fE.length<=sizeLine/\(a==sysModules)=false /\
  ∃ xs,KT H fE xs/\h.DictOfH (tupleKind (gS P w)) a xs:=wO ok (.inl e)
end
def r9 (H:Hp)(a:Addr)(y:V)(r:Option V):Prop :=
 (∃ fE k,Rd H a (.dK fE)/\y=kV k/\r=qP fE k)∨∃ fE k b,Rd H a (.dT fE)/\y=.ref b/\H b=some (.tup (k.map kV))/\r=qP fE k
def Pk (H:Hp)(a:Addr)(y v:V)(H':Hp):Prop :=
 (∃ fE k,H a=some (.dK fE)/\y=kV k/\fE.length<sizeLine/\H'=upd H a (.dK (pE fE k v))) ∨
 ∃ fE k b,H a=some (.dT fE)/\y=.ref b/\H b=some (.tup (k.map kV))/\fE.length<sizeLine/\H'=upd H a (.dT (pE fE k v))
theorem r9.k {H:Hp}{a:Addr}{fE:List (Key×V)}{k:Key}(e:H a=some (.dK fE)):r9 H a (kV k) (qP fE k):=.inl ⟨fE,k,.inl e,rfl,rfl⟩
theorem Pk.k {H:Hp}{a:Addr}{fE:List (Key×V)}{k:Key}{v:V}(e:H a=some (.dK fE))(hl:fE.length<sizeLine):Pk H a (kV k) v (upd H a (.dK (pE fE k v))):=.inl ⟨fE,k,e,rfl,hl,rfl⟩
section
variable {y:V}{r:Value}{o:Option V}  
theorem fW.big (I:fW X pins σ H s):sysModules<(zB s):=by
 have h:mainGlobals<(zB s):=(I.mod.glob.keeps I.bk).lt
 exact eS (by decide) h
theorem Kc {Q:Px}(hu:A.units+1<cLine)(I:fW X pins σ H s)(g:r9 H a y (some v))(ry:gH y u)(h:∀ w' s',fW X pins σ H s'->gH v w'->Q w' s') :
  wpAny (model X.prog X.w) A (getItem (.ref a) u) Q E s:=by
 rcases g with ⟨fE,k,e,ey,l⟩ | ⟨fE,k,b,e,ey,eb,l⟩
 ·subst ey
  obtain⟨z,hd,vs,rel,dd⟩:=uX I.jd e
  obtain⟨w',hw,Cm⟩:=rK.some_of (v:=v) (o:=valueAt vs k) (by rw [l];exact rel.val k)
  exact wpAny_getItem_of (qx ry) dd.mapOf hw (h w' _ (I.tok _) Cm)
 ·subst ey
  cases (show u=Value.ref b from ry)
  obtain⟨z,hd,xs,rel,dd⟩:=wO I.jd e
  obtain⟨w',hw,Cm⟩:=rK.some_of (v:=v) (o:=(atKey xs k).map (·.2)) (by rw [l];exact rel.val k)
  obtain⟨p,hp,Kd⟩:=aj.mp hw
  refine wpAny_getItem_heap (b8 hu) (uy I.jd eb) dd hp ?_
  rw [Kd]
  exact h w' _ (I.tok _) Cm
theorem aaG {Q:Px}(hu:A.units+1<cLine)(I:fW X pins σ H s)(g:r9 H a y o)(ry:gH y u)(h:∀ s',fW X pins σ H s'->Q (.bool o.isSome) s') :
  wpAny (model X.prog X.w) A (compareOp .In u (.ref a)) Q E s:=by
 rcases g with ⟨fE,k,e,ey,l⟩ | ⟨fE,k,b,e,ey,eb,l⟩
 ·subst ey
  obtain⟨z,hd,vs,rel,dd⟩:=uX I.jd e
  refine wpAny_in_of (qx ry) hd dd.mapOf ?_
  rw [← (rel.val k).qw,← l]
  exact h _ (I.tok _)
 ·subst ey
  cases (show u=Value.ref b from ry)
  obtain⟨z,hd,xs,rel,dd⟩:=wO I.jd e
  refine wpAny_in_heap (b8 hu) (uy I.jd eb) hd dd ?_
  have q:=(rel.val k).qw
  rw [eE] at q
  rw [← q,← l]
  exact h _ (I.tok _)
theorem Pm {Q:Px}(hu:A.units+1<cLine)(I:fW X pins σ H s)(g:r9 H a y o)(ry:gH y u)(h:∀ s',fW X pins σ H s'->Q (.bool (!o.isSome)) s') :
  wpAny (model X.prog X.w) A (compareOp .NotIn u (.ref a)) Q E s:=by
 rcases g with ⟨fE,k,e,ey,l⟩ | ⟨fE,k,b,e,ey,eb,l⟩
 ·subst ey
  obtain⟨z,hd,vs,rel,dd⟩:=uX I.jd e
  refine wpAny_notIn_of (qx ry) hd dd.mapOf ?_
  rw [← (rel.val k).qw,← l]
  exact h _ (I.tok _)
 ·subst ey
  cases (show u=Value.ref b from ry)
  obtain⟨z,hd,xs,rel,dd⟩:=wO I.jd e
  refine wpAny_notIn_heap (b8 hu) (uy I.jd eb) hd dd ?_
  have q:=(rel.val k).qw
  rw [eE] at q
  rw [← q,← l]
  exact h _ (I.tok _)
theorem Cr {h':Heap}{t':Nat}{ob:HO}(I:fW X pins σ H s)(mu:Wt (H a))(hs:Heap.SameBut a s.heap h')(he:∃ q,h'.get? a=some q)(new:j9 X.prog X.w (upd H a ob) h' a ob) :
  fW X pins σ (upd H a ob) { s with heap:=h',toks:=t' } :=
 I.write (x:=a) (e:=a) mu (.inl rfl) (fun b q hb z=>(hs.2 b hb).trans z) he new
theorem GG {P:Program}{H':Hp}{h':Heap}{fE:List (Key×V)}{vs:List (Key×Value)}(z:fE.length<=sizeLine)(hd:(a==sysModules)=false)(rel:KV fE vs)(dd:h'.DictOf (gS P w) a vs) :
  j9 P w H' h' a (.dK fE):=⟨z,hd,vs,rel,dd⟩
theorem Ke {H':Hp}{Q:Unit->Shared->Prop}(hu:A.units+1<cLine)(I:fW X pins σ H s)(g:Pk H a y v H')(ry:gH y u)(rv:gH v r)(h:∀ s',fW X pins σ H' s'->Q () s') :
  wpAny (model X.prog X.w) A (setItem (.ref a) u r) Q E s:=by
 rcases g with ⟨fE,k,e,ey,l,eH⟩ | ⟨fE,k,b,e,ey,eb,l,eH⟩
 ·subst ey eH
  obtain⟨z,hd,vs,rel,dd⟩:=rA I.jd e
  have hz:vs.length<=sizeLine:=by rw [← rel.length];exact z
  have hl:(pE fE k v).length<=sizeLine:=by have:=pL fE k v;omega
  refine wpAny_setItem_pairs (hsz:=hz) (qx ry) dd fun h' Uc hs=>h _ ?_
  have he:∃ q,h'.get? a=some q:=let ⟨q,_,_,hq,_⟩:=Uc;⟨q,hq⟩
  exact Cr I (by rw [e];exact aO) hs he (GG hl hd (rel.put k rv) Uc)
 ·subst ey eH
  cases (show u=Value.ref b from ry)
  obtain⟨z,hd,xs,rel,dd⟩:=Xd I.jd e
  have hz:xs.length<=sizeLine:=by rw [← eJ rel];exact z
  have hl:(pE fE k v).length<=sizeLine:=by have:=pL fE k v;omega
  refine wpAny_setItem_heap (hsz:=hz) (b8 hu) (uy I.jd eb) dd fun h' Uc hs=>h _ ?_
  obtain⟨q,es,ep,hq,h2,h3,h4,_,h5⟩:=Uc
  refine Cr I (by rw [e];exact aO) hs ⟨q,hq⟩ ⟨hl,hd,_,(rel.put k eb rv).keeps fun c ys ec=>?_,q,es,ep,hq,h2,h3,h4,h5⟩
  rw [fU (Ws ec e (fun z=>nomatch z))]
  exact ec
end
section
variable {fE:List (Key×V)}{k:Key}   
theorem Xe {Q:Px}(I:fW X pins σ H s)(e:Rd H a (.dK fE))(h:∀ t s',fW X pins σ H s'->Q (.int fE.length t) s'):wpAny (model X.prog X.w) A (call (.builtin "len") [.ref a]) Q E s:=by
 obtain⟨z,hd,vs,rel,dd⟩:=uX I.jd e
 refine call_len_dict hd dd (by rw [← rel.length];rw [sizeLine_eq] at z;omega) ?_
 rw [← rel.length]
 exact h _ _ (I.tok _)
end
def GH (i:Expr):Prop:=∀ ov iv,subscripted i false ov iv=operate [ov,iv] (getItem ov iv)
theorem IM {prog:Program}{env:Env}{value slice:Expr}{T id:String}{Q:Px}
  (hl:typeLookup (.type T) "__getitem__"=pure (some (.builtin id))) (hs:GH slice)
  (h:wpAny (model prog w) A (eval value env) (fun o s₁=>wpAny (model prog w) A (eval slice env) (fun i s₂=>s₂.TypeIs o T/\wpAny (model prog w) A (getItem o i) Q E s₂) E s₁) E s) :
  wpAny (model prog w) A (eval (.Subscript value slice pos) env) Q E s:=by
 refine Subscript_ (bR h (fun o s₁ h₁=>bR h₁ (fun i s₂ h₂=>?_) fun _ _ x=>x) fun _ _ x=>x)
 obtain⟨hT,h₂⟩:=h₂
 unfold subscriptTail
 refine ab ?_
 rw [getitemInPython_of_ne hT.not_modules]
 refine ab (dO hT hl ?_)
 have fin:wpAny (model prog w) A (subscripted slice false o i) (fun r s₃=>wpAny (model prog w) A (letTemporaryGo value o r>>=fun _=>pure r) Q E s₃) E s₂:=by
  rw [hs o i]
  exact wpAny_operating (bR h₂ (fun r s₃ h₃=>ab (wpAny_letTemporaryGo (aw h₃))) fun _ _ x=>x)
 first
  | exact aw (ab fin)
  | exact ab (aw (ab fin))
  | exact ab fin
theorem Ei {y:V}{o:Option V}(I:fW X pins σ H s)(g:r9 H a y o):s.TypeIs (.ref a) "dict":=by
 rcases g with ⟨fE,k,e,_,_⟩ | ⟨fE,k,b,e,_,_,_⟩
 ·obtain⟨_,_,vs,_,dd⟩:=uX I.jd e
  exact dd.typeIs
 ·obtain⟨_,_,xs,_,dd⟩:=wO I.jd e
  exact dd.typeIs
def Xf (td ty:TE):TE:=fun σ H Q=>td σ H fun x H1=>ty σ H1 fun y H2=>∃ a v,x=.ref a/\r9 H2 a y (some v)/\Q v H2
section
variable {i value:Expr}{pos' Cf:Pos}{td ty tv:TE}
theorem IP (hu:X.A.units+1<cLine)(ho:PE X o td)(hi:PE X i ty)(hs:GH i):PE X (.Subscript o i pos) (Xf td ty):=by
 intro pins s σ H Q I h
 refine IM PySem.F.slot_dict_getitem.lookup hs (jl (@ho pins s σ H _ I h) fun u s1 ⟨x,H1,I1,rx,q1⟩=>jl (@hi pins s1 σ H1 _ I1 q1) fun iv s2 ⟨y,H2,I2,ry,a,v,ex,g,q2⟩=>?_)
 subst ex
 obtain rfl:u=Value.ref a:=rx
 exact⟨Ei I2 g,Kc hu I2 g ry fun w' s3 I3 Cm=>⟨v,H2,I3,Cm,q2⟩⟩
end
theorem Ej {P:Program}(h:Heap)(hb:sysModules<h.objs.size):j9 P w H (h.push { cls:=.type "dict",data:=.dict #[] }) h.objs.size (.dK []) :=
 ⟨cW _,aW.mpr (Ne.symm (aP hb)),[],.nil,Heap.DictOf.new h⟩
def Ud:TE:=fun _ H Q=>∀ p,H p=none->Q (.ref p) (upd H p (.dK []))
section
theorem Mg:PE X (.Dict [] [] pos) Ud:=fun pins s σ H Q I h =>
 wpAny_Dict_empty ⟨.ref (zB s),_,I.laid (a:=(zB s)) (o:=.dK []) (t':=s.toks) (fun _ _ q=>ak _ q) (aD _) (Ej s.heap I.big),rfl,h _ (I.jd.fresh (aD _))⟩
end
def GI:List (TE×TE)->St->Hp->(List (V×V)->Hp->Prop)->Prop
 | [],_,H,Q=>Q [] H
 | (tk,tv)::r,σ,H,Q=>tk σ H fun x H1=>tv σ H1 fun y H2=>GI r σ H2 fun ps H3=>Q ((x,y)::ps) H3
abbrev VV:List (V×V)->List (Value×Value)->Prop:=Paired fun p q=>gH p.1 q.1/\gH p.2 q.2
def Zq (X:Cx)(pos:Pos)(keys:List (Option Expr))(values:Lx)(Pn:List (TE×TE)):Prop :=
 ∀ (pins:Ax) (s:Shared) (σ:St) (H:Hp) (Q:List (V×V)->Hp->Prop),fW X pins σ H s->GI Pn σ H Q ->
  (zw X) (evalPairs (pairTrees keys values X.env pos)) (fun vs s'=>∃ ps H',fW X pins σ H' s'/\VV ps vs/\Q ps H') X.xe s
theorem Po:Zq X pos [] [] []:=fun pins s σ H Q I h=>pairTrees_nil_walk ⟨[],H,I,.nil,h⟩
theorem Mi {k v:Expr}{ks:List (Option Expr)}{vs:Lx}{tk tv:TE}{Pn:List (TE×TE)}(hk:PE X k tk)(hv:PE X v tv)(hr:Zq X pos ks vs Pn) :
  Zq X pos (some k::ks) (v::vs) ((tk,tv)::Pn):=fun pins s σ H Q I h =>
 pairTrees_cons_walk (jl (@hk pins s σ H _ I h) fun u s1 ⟨x,H1,I1,rx,q1⟩=>jl (@hv pins s1 σ H1 _ I1 q1) fun w2 s2 ⟨y,H2,I2,ry,q2⟩ =>
  jl (@hr pins s2 σ H2 _ I2 q2) fun ws s3 ⟨ps,H3,I3,rel,q3⟩=>⟨(x,y)::ps,H3,I3,.cons ⟨rx,ry⟩ rel,q3⟩)
def vR (fE more:List (Key×V)):List (Key×V):=more.foldl (fun acc kv=>pE acc kv.1 kv.2) fE
theorem KV.merge:∀ {more:List (Key×V)}{rs:List (Key×Value)}{fE:List (Key×V)}{vs:List (Key×Value)},KV more rs->KV fE vs->KV (vR fE more) (merged vs rs):=by
 intro more rs fE vs r
 unfold KV at r
 induction r generalizing fE vs with
 | nil=>intro q;exact q
 | @cons p q ps qs h t ih =>
  intro r0
  have e:KV (pE fE p.1 p.2) (stored vs q.1 q.2):=by
   have:=r0.put p.1 h.2
   rw [← h.1];exact this
  exact ih e
theorem ua:∀ (more fE:List (Key×V)),(vR fE more).length<=fE.length+more.length
 | [],fE=>by show fE.length<=fE.length+0;omega
 | p::r,fE=>by
  have h1:=ua r (pE fE p.1 p.2)
  have h2:=pL fE p.1 p.2
  show (vR (pE fE p.1 p.2) r).length<=_
  rw [ar];omega
theorem yg {P:Program}{w:World}:∀ {fE:List (Key×V)}{ws:List (Value×Value)},VV (fE.map fun kv=>(kV kv.1,kv.2)) ws->∃ rs,Carries (gS P w) ws rs/\KV fE rs
 | [],_,r=>by rw [aZ] at r;cases r;exact⟨[],aO,.nil⟩
 | p::fE,_,r=>by
  rw [aa] at r
  cases r with
  | @cons a b as bs h t =>
   obtain⟨rs,c,q⟩:=yg (P:=P) (w:=w) t
   obtain⟨b1,b2⟩:=b
   exact⟨(p.1,b2)::rs,⟨qx h.1,rfl,c⟩,.cons ⟨rfl,h.2⟩ q⟩
def Xg (Pn:List (TE×TE)):TE:=fun σ H Q=>∀ p,H p=none->GI Pn σ (upd H p (.dK [])) fun ps H2=>H2 p=some (.dK [])/\∃ fE:List (Key×V),ps=fE.map (fun kv=>(kV kv.1,kv.2))/\fE.length<=15/\Q (.ref p) (upd H2 p (.dK (vR [] fE)))
theorem Pp {keys:List (Option Expr)}{values:Lx}{Pn:List (TE×TE)} (h:Zq X pos keys values Pn) (T9:keys.all (·.isSome)=true) (hl:keys.length=values.length) (h0:keys≠[])
  (h15:keys.length<=15):PE X (.Dict keys values pos) (Xg Pn):=by
 intro pins s σ H Q I q
 have hn:=I.jd.fresh (aD (zB s))
 have I1:=I.laid (a:=(zB s)) (o:=.dK []) (h':=s.heap.push { cls:=.type "dict",data:=.dict #[] }) (t':=s.toks) (fun _ _ q=>ak _ q) (aD _) (Ej s.heap I.big)
 refine wpAny_Dict_walk (knd:=gS X.prog X.w) T9 hl h0 h15 (jl (h pins _ σ _ _ I1 (q _ hn)) fun ws s2 ⟨ps,H2,I2,rel,e,fE,ep,lk,q2⟩=>?_)
 subst ep
 obtain⟨rs,c,rk⟩:=yg (P:=X.prog) (w:=X.w) rel
 obtain⟨z,hd,vs0,r0,dd⟩:=rA I2.jd e
 cases r0
 refine⟨rs,c,dd,fun h' Uc hs=>⟨.ref (zB s),_,?_,rfl,q2⟩⟩
 have hz:(vR [] fE).length<=sizeLine:=by
  have h1:=ua fE []
  rw [cV] at h1
  rw [sizeLine_eq];omega
 have he:∃ q,h'.get? (zB s)=some q:=let ⟨q,_,_,hq,_⟩:=Uc;⟨q,hq⟩
 exact Cr I2 (by rw [e];exact aO) hs he (GG hz hd (rk.merge .nil) Uc)
structure M1 (X:Cx) (o:Expr) (m:Str) (apos:Pos) (e:Expr) (gJ:Pos):Prop where
 base:attributeBase o m X.env (eval o X.env)=eval o X.env
 Zr:((backTo gJ (starEach [e] X.env)).all (fun x=>!x.1)&&(backToKw gJ (keywordEach [] X.env)).all (fun x=>x.1.isSome)
 &&decide (([e]:Lx).length+([]:List Keyword).length+(if ([]:List Keyword).isEmpty then 0 else 1)<30))=true
 line:(apos.endLine==gJ.line)=true
 trees:backTo gJ (starEach [e] X.env)=[(false,eval e X.env)]
structure M2 (X:Cx) (o:Expr) (m:Str) (apos:Pos) (e f:Expr) (gJ:Pos):Prop where
 base:attributeBase o m X.env (eval o X.env)=eval o X.env
 Zr:((backTo gJ (starEach [e,f] X.env)).all (fun x=>!x.1)&&(backToKw gJ (keywordEach [] X.env)).all (fun x=>x.1.isSome)
 &&decide (([e,f]:Lx).length+([]:List Keyword).length+(if ([]:List Keyword).isEmpty then 0 else 1)<30))=true
 line:(apos.endLine==gJ.line)=true
 trees:backTo gJ (starEach [e,f] X.env)=[(false,eval e X.env),(false,eval f X.env)]
def Mj (H:Hp)(a:Addr):Prop:=(∃ fE,Rd H a (.dK fE))∨∃ fE,Rd H a (.dT fE)
theorem Ek (I:fW X pins σ H s)(d:Mj H a) :
  s.TypeIs (.ref a) "dict"/\(∀ b,Value.ref a=.ref b->∃ ob,s.heap.get? b=some ob/\ob.dict=none)/\(a==sysModules)=false:=by
 rcases d with ⟨fE,e⟩ | ⟨fE,e⟩
 ·obtain⟨_,hd,vs,_,dd⟩:=uX I.jd e
  refine⟨dd.typeIs,fun b q=>?_,hd⟩
  cases q
  obtain⟨ob,_,_,h1,h2,_⟩:=dd
  exact⟨ob,h1,h2.2.1⟩
 ·obtain⟨_,hd,xs,_,dd⟩:=wO I.jd e
  refine⟨dd.typeIs,fun b q=>?_,hd⟩
  cases q
  obtain⟨ob,_,_,h1,h2,_⟩:=dd
  exact⟨ob,h1,h2.2.1⟩
section
variable {y d:V}{r:Value}{o:Option V}  
theorem Ue {Q:Px}(hu:A.units+1<cLine)(I:fW X pins σ H s)(g:r9 H a y o)(ry:gH y u)(h:∀ w' s',fW X pins σ H s'->gH (o.getD .lJ) w'->Q w' s') :
  wpAny (model X.prog X.w) A (call (.builtin "dict.get") [.ref a,u]) Q E s:=by
 rcases g with ⟨fE,k,e,ey,l⟩ | ⟨fE,k,b,e,ey,eb,l⟩
 ·subst ey
  obtain⟨z,hd,vs,rel,dd⟩:=uX I.jd e
  refine d4 bC dd.typeIs b0 (cY _ _) (meets_dict_get (gS X.prog X.w) a (qx ry) hd) ⟨_,dd.mapOf,h _ _ (I.tok _) ?_⟩
  rw [l]
  exact(rel.val k).getD rfl
 ·subst ey
  cases (show u=Value.ref b from ry)
  obtain⟨z,hd,xs,rel,dd⟩:=wO I.jd e
  refine d4 bC dd.typeIs b0 (cY _ _) (meetsH_dict_get (tupleKind (gS X.prog X.w)) a b hd) ⟨b8 hu,k,xs,uy I.jd eb,dd,h _ _ (I.tok _) ?_⟩
  rw [l]
  exact(rel.val k).getD rfl
theorem Ug {Q:Px}(hu:A.units+1<cLine)(I:fW X pins σ H s)(g:r9 H a y o)(ry:gH y u)(rd:gH d r)(h:∀ w' s',fW X pins σ H s'->gH (o.getD d) w'->Q w' s') :
  wpAny (model X.prog X.w) A (call (.builtin "dict.get") [.ref a,u,r]) Q E s:=by
 rcases g with ⟨fE,k,e,ey,l⟩ | ⟨fE,k,b,e,ey,eb,l⟩
 ·subst ey
  obtain⟨z,hd,vs,rel,dd⟩:=uX I.jd e
  refine d4 bC dd.typeIs b0 (PySem.F.args_dict_get_3 _ _ _) (meets_dict_get_default (gS X.prog X.w) a (qx ry) hd r) ⟨_,dd.mapOf,h _ _ (I.tok _) ?_⟩
  rw [l]
  exact(rel.val k).getD rd
 ·subst ey
  cases (show u=Value.ref b from ry)
  obtain⟨z,hd,xs,rel,dd⟩:=wO I.jd e
  refine d4 bC dd.typeIs b0 (PySem.F.args_dict_get_3 _ _ _) (meetsH_dict_get_default (tupleKind (gS X.prog X.w)) a b hd r) ⟨b8 hu,k,xs,uy I.jd eb,dd,h _ _ (I.tok _) ?_⟩
  rw [l]
  exact(rel.val k).getD rd
end
def Uh (td ty:TE):TE:=fun σ H Q=>td σ H fun x H1=>∃ a,x=.ref a/\Mj H1 a/\ty σ H1 fun y H2=>∃ o,r9 H2 a y o/\Q (o.getD .lJ) H2
def Ui (td ty tx:TE):TE:=fun σ H Q=>td σ H fun x H1=>∃ a,x=.ref a/\Mj H1 a/\ty σ H1 fun y H2=>tx σ H2 fun z H3=>∃ o,r9 H3 a y o/\Q (o.getD z) H3
section
variable {f:Expr}{apos gJ:Pos}{td ty tx:TE}
theorem Ml (hu:X.A.units+1<cLine)(ho:PE X o td)(he:PE X e ty)(m:M1 X o "get" apos e gJ):PE X (.Call (.Attribute o "get" apos) [e] [] gJ) (Uh td ty):=by
 intro pins s σ H Q I h
 refine eG m.base m.Zr m.line cZ bC dw (jl (@ho pins s σ H _ I h) fun u s1 ⟨x,H1,I1,rx,a,ex,d,q1⟩=>?_)
 subst ex
 obtain rfl:u=Value.ref a:=rx
 obtain⟨t1,t2,_⟩:=Ek I1 d
 refine⟨t1,t2,?_⟩
 rw [m.trees]
 refine bZ rfl (cO (bq (jl (@he pins s1 σ H1 _ I1 q1) fun iv s2 ⟨y,H2,I2,ry,ov,g,q2⟩=>bL ?_)))
 exact Ue hu I2 g ry fun w' s3 I3 Cm=>⟨_,H2,I3,Cm,q2⟩
theorem Mm (hu:X.A.units+1<cLine)(ho:PE X o td)(he:PE X e ty)(hf:PE X f tx)(m:M2 X o "get" apos e f gJ):PE X (.Call (.Attribute o "get" apos) [e,f] [] gJ) (Ui td ty tx):=by
 intro pins s σ H Q I h
 refine eG m.base m.Zr m.line cZ bC dw (jl (@ho pins s σ H _ I h) fun u s1 ⟨x,H1,I1,rx,a,ex,d,q1⟩=>?_)
 subst ex
 obtain rfl:u=Value.ref a:=rx
 obtain⟨t1,t2,_⟩:=Ek I1 d
 refine⟨t1,t2,?_⟩
 rw [m.trees]
 refine bZ rfl (cO (bq (jl (@he pins s1 σ H1 _ I1 q1) fun iv s2 ⟨y,H2,I2,ry,q2⟩ =>
  bq (jl (@hf pins s2 σ H2 _ I2 q2) fun fv s3 ⟨z,H3,I3,rz,ov,g,q3⟩=>bL ?_))))
 exact Ug hu I3 g ry rz fun w' s4 I4 Cm=>⟨_,H3,I4,Cm,q3⟩
end
section
variable {fE:List (Key×V)}  
end
section
variable {y:V}   
end
section
theorem Kf:jV X (.builtin "len") (fun xs H Q=>∃ a fE,xs=[V.ref a]/\H a=some (.dK fE)/\Q (.int fE.length) H):=by
 intro pins s σ H xs us Q I r h
 obtain⟨a,fE,rfl,ha,q⟩:=h
 obtain⟨u,rfl,ru⟩:=uQ r
 cases ru
 exact Xe I (.inl ha) fun t s' I'=>⟨.int fE.length,H,I',⟨t,rfl⟩,q⟩
end
section
variable {κ:Type} [DecidableEq κ]
end
def kr:Key->PyData
 | .inl i=>.int i
 | .inr x=>.str x
theorem Mn {a b:Key}(h:kr a=kr b):a=b:=by
 cases a<;>cases b<;>simp [kr] at h<;>rw [h]
def mX (K:Fg)(c:Str)(C:Addr):Prop:=W.nsIn K mainGlobals c=some (some (.ref C))
theorem mX.uniq {K:Fg}{c:Str}{C C':Addr}(h:mX K c C)(h':mX K c C'):C=C':=by
 unfold mX at h h'
 rw [h] at h'
 cases h';rfl
mutual
def fM (K:Fg) (H:Hp):PyData->V->Prop
  | .none,v=>v=.lJ
  | .bool b,v=>v=.bl b
  | .int i,v=>v=.int i
  | .str x,v=>v=.str x
  | .list xs,v=>∃ p vs,v=.ref p/\qd K H p vs/\fz K H xs vs
  | .tuple xs,v=>∃ p vs,v=.ref p/\tm K H p vs/\fz K H xs vs
  | .dict fE,v=>∃ p,v=.ref p/\((∃ kv,H p=some (.dK kv)/\gY K H fE kv)∨∃ c C dx fs,mX K c C/\H p=some (.ins C dx fs)/\qQ K H c fE fs)
def fz (K:Fg) (H:Hp):Lp->List V->Prop
  | [],vs=>vs=[]
  | d::ds,vs=>∃ v r,vs=v::r/\fM K H d v/\fz K H ds r
def gY (K:Fg) (H:Hp):List (PyData×PyData)->List (Key×V)->Prop
  | [],kv=>kv=[]
  | (k,d)::r,kv=>∃ y v r',kv=(y,v)::r'/\k=kr y/\fM K H d v/\gY K H r r'
def qQ (K:Fg) (H:Hp) (c:Str):List (PyData×PyData)->List (Str×V)->Prop
  | [],_=>False
  | (k,d)::r,fs=>k=.none/\d=.str c/\ly K H r fs
def ly (K:Fg) (H:Hp):List (PyData×PyData)->List (Str×V)->Prop
  | [],fs=>fs=[]
  | (k,d)::r,fs=>∃ y v r',fs=(y,v)::r'/\k=.str y/\fM K H d v/\ly K H r r'
end
theorem fV.El {K:Fg}{H':Hp}{xs:List V}(e:fV H H')(h:tm K H a xs):tm K H' a xs:=by
 rcases h with (h | ⟨o,h⟩)|h
 ·exact .inl (.inl (e _ _ h))
 ·exact .inl (.inr ⟨o,e _ _ h⟩)
 ·exact .inr h
mutual
theorem fM.same {K:Fg}{H H':Hp} (e:fV H H'):∀ {d:PyData}{v:V},fM K H d v->fM K H' d v
  | .none,_,h=>by unfold fM at h ⊢;exact h
  | .bool _,_,h=>by unfold fM at h ⊢;exact h
  | .int _,_,h=>by unfold fM at h ⊢;exact h
  | .str _,_,h=>by unfold fM at h ⊢;exact h
  | .list _,_,h=>by
    unfold fM at h ⊢
    obtain⟨p,vs,e1,e2,e3⟩:=h
    exact⟨p,vs,e1,e.seq e2,fz.same e e3⟩
  | .tuple _,_,h=>by
    unfold fM at h ⊢
    obtain⟨p,vs,e1,e2,e3⟩:=h
    exact⟨p,vs,e1,e.El e2,fz.same e e3⟩
  | .dict _,_,h=>by
    unfold fM at h ⊢
    obtain⟨p,e1,⟨kv,e2,e3⟩ | ⟨c,C,dx,fs,e2,e3,e4⟩⟩:=h
    · exact⟨p,e1,.inl ⟨kv,e _ _ e2,gY.same e e3⟩⟩
    · exact⟨p,e1,.inr ⟨c,C,dx,fs,e2,e _ _ e3,qQ.same e e4⟩⟩
theorem fz.same {K:Fg}{H H':Hp} (e:fV H H'):∀ {ds:Lp}{vs:List V},fz K H ds vs->fz K H' ds vs
  | [],_,h=>by unfold fz at h ⊢;exact h
  | _::_,_,h=>by
    unfold fz at h ⊢
    obtain⟨v,r,e1,e2,e3⟩:=h
    exact⟨v,r,e1,fM.same e e2,fz.same e e3⟩
theorem gY.same {K:Fg}{H H':Hp} (e:fV H H'):∀ {ds:List (PyData×PyData)}{kv:List (Key×V)},gY K H ds kv->gY K H' ds kv
  | [],_,h=>by unfold gY at h ⊢;exact h
  | (_,_)::_,_,h=>by
    unfold gY at h ⊢
    obtain⟨y,v,r,e1,e2,e3,e4⟩:=h
    exact⟨y,v,r,e1,e2,fM.same e e3,gY.same e e4⟩
theorem qQ.same {K:Fg}{H H':Hp}{c:Str} (e:fV H H'):∀ {ds:List (PyData×PyData)}{fs:List (Str×V)},qQ K H c ds fs->qQ K H' c ds fs
  | [],_,h=>by unfold qQ at h ⊢;exact h
  | (_,_)::_,_,h=>by
    unfold qQ at h ⊢
    exact⟨h.1,h.2.1,ly.same e h.2.2⟩
theorem ly.same {K:Fg}{H H':Hp} (e:fV H H'):∀ {ds:List (PyData×PyData)}{fs:List (Str×V)},ly K H ds fs->ly K H' ds fs
  | [],_,h=>by unfold ly at h ⊢;exact h
  | (_,_)::_,_,h=>by
    unfold ly at h ⊢
    obtain⟨y,v,r,e1,e2,e3,e4⟩:=h
    exact⟨y,v,r,e1,e2,fM.same e e3,ly.same e e4⟩
end
section
variable {K:Fg}   
theorem fM.jE:fM K H .none v↔v=.lJ:=by unfold fM;exact dM
theorem fM.f9 {b:Bool}:fM K H (.bool b) v↔v=.bl b:=by unfold fM;exact dM
theorem fM.fZ {i:Int}:fM K H (.int i) v↔v=.int i:=by unfold fM;exact dM
theorem fM.gw:fM K H (.str x) v↔v=.str x:=by unfold fM;exact dM
theorem fM.gv {xs:Lp}:fM K H (.list xs) v↔∃ p vs,v=.ref p/\qd K H p vs/\fz K H xs vs:=by unfold fM;exact dM
theorem fM.nc {xs:Lp}:fM K H (.tuple xs) v↔∃ p vs,v=.ref p/\tm K H p vs/\fz K H xs vs:=by unfold fM;exact dM
theorem fM.iP {xs:Lp}(h:fM K H (.tuple xs) v):∃ p vs,v=.ref p/\tm K H p vs/\fz K H xs vs:=fM.nc.mp h
theorem fM.oT:fM K H (.dict fE) v↔∃ p,v=.ref p/\((∃ kv,H p=some (.dK kv)/\gY K H fE kv)∨∃ c C dx fs,mX K c C/\H p=some (.ins C dx fs)/\qQ K H c fE fs):=by unfold fM;exact dM
theorem gY.gn {kv:List (Key×V)}:gY K H [] kv↔kv=[]:=by unfold gY;exact dM
theorem gY.fT {k:PyData}{kv:List (Key×V)}:gY K H ((k,d)::r) kv↔∃ y v r',kv=(y,v)::r'/\k=kr y/\fM K H d v/\gY K H r r':=by
 constructor
 ·intro h;unfold gY at h;exact h
 ·intro h;unfold gY;exact h
theorem ly.gn {fs:List (Str×V)}:ly K H [] fs↔fs=[]:=by unfold ly;exact dM
theorem ly.fT {k:PyData}{fs:List (Str×V)}:ly K H ((k,d)::r) fs↔∃ y v r',fs=(y,v)::r'/\k=.str y/\fM K H d v/\ly K H r r':=by
 constructor
 ·intro h;unfold ly at h;exact h
 ·intro h;unfold ly;exact h
theorem qQ.fT {c:Str}{k:PyData}{fs:List (Str×V)}:qQ K H c ((k,d)::r) fs↔k=.none/\d=.str c/\ly K H r fs:=by
 constructor
 ·intro h;unfold qQ at h;exact h
 ·intro h;unfold qQ;exact h
theorem qQ.gn {c:Str}{fs:List (Str×V)}:qQ K H c [] fs↔False:=by unfold qQ;exact dM
theorem fz.gn:fz K H [] vs↔vs=[]:=by unfold fz;exact dM
theorem fz.fT:fz K H (d::ds) vs↔∃ v r,vs=v::r/\fM K H d v/\fz K H ds r:=by
 constructor
 ·intro h;unfold fz at h;exact h
 ·intro h;unfold fz;exact h
theorem fz.nil:fz K H [] []:=fz.gn.mpr rfl
theorem fz.cons {d:PyData}{ds:Lp}(h:fM K H d v)(t:fz K H ds vs):fz K H (d::ds) (v::vs):=fz.fT.mpr ⟨v,vs,rfl,h,t⟩
theorem fz.length {ds:Lp}(h:fz K H ds vs):ds.length=vs.length:=by
 induction ds generalizing vs with
 | nil=>rw [fz.gn.mp h];rfl
 | cons d ds ih =>
  obtain⟨v,r,rfl,_,t⟩:=fz.fT.mp h
  simp [ih t]
theorem fz.get (h:fz K H ds vs)(e:ds[i]?=some d):∃ v,vs[i]?=some v/\fM K H d v:=by
 induction ds generalizing vs i with
 | nil=>simp at e
 | cons d' ds ih =>
  obtain⟨v,r,rfl,h1,t⟩:=fz.fT.mp h
  cases i with
  | zero=>simp at e;subst e;exact⟨v,rfl,h1⟩
  | succ i =>
   obtain⟨u,e1,e2⟩:=ih t (by simpa using e)
   exact⟨u,by simpa using e1,e2⟩
theorem fz.get' (h:fz K H ds vs)(e:vs[i]?=some v):∃ d,ds[i]?=some d/\fM K H d v:=by
 have hl:=h.length
 have hi:i<vs.length:=(aJ.mp e).1
 have hd:ds[i]?=some ds[i]:=aE (by omega)
 obtain⟨u,e1,e2⟩:=h.get hd
 rw [e] at e1;cases e1
 exact⟨_,hd,e2⟩
theorem fz.append {es:Lp}{ws:List V}(h:fz K H ds vs)(t:fz K H es ws):fz K H (ds++es) (vs++ws):=by
 induction ds generalizing vs with
 | nil=>rw [fz.gn.mp h];exact t
 | cons d ds ih =>
  obtain⟨v,r,rfl,h1,t1⟩:=fz.fT.mp h
  exact fz.cons h1 (ih t1)
theorem fz.take {ds:Lp}(n:Nat)(h:fz K H ds vs):fz K H (ds.take n) (vs.take n):=by
 induction ds generalizing vs n with
 | nil=>rw [fz.gn.mp h];simp;exact fz.nil
 | cons d ds ih =>
  obtain⟨v,r,rfl,h1,t1⟩:=fz.fT.mp h
  cases n with
  | zero=>simp;exact fz.nil
  | succ n=>simp only [List.take_succ_cons];exact fz.cons h1 (ih n t1)
theorem fz.drop {ds:Lp}(n:Nat)(h:fz K H ds vs):fz K H (ds.drop n) (vs.drop n):=by
 induction ds generalizing vs n with
 | nil=>rw [fz.gn.mp h];simp;exact fz.nil
 | cons d ds ih =>
  obtain⟨v,r,rfl,h1,t1⟩:=fz.fT.mp h
  cases n with
  | zero=>exact h
  | succ n=>simp only [List.drop_succ_cons];exact ih n t1
end
section
mutual
theorem fW.qR (I:fW X pins σ H s):∀ {d:PyData}{v:V}{u:Value},d.canLay0=true->fM X.K H d v->gH v u->∃ as,Reads s.heap u d as
  | .none,_,_,_,h,r=>by rw [fM.jE.mp h] at r;cases r;exact⟨_,.none⟩
  | .bool b,_,_,_,h,r=>by rw [fM.f9.mp h] at r;cases r;exact⟨_,.bool b⟩
  | .int i,_,_,_,h,r=>by rw [fM.fZ.mp h] at r;obtain⟨t,rfl⟩:=r;exact⟨_,.int i t⟩
  | .str x,_,_,_,h,r=>by rw [fM.gw.mp h] at r;obtain⟨t,rfl⟩:=r;exact⟨_,.str x t⟩
  | .list xs,_,_,hc,h,r=>by
    obtain⟨p,vs,rfl,e2,e3⟩:=fM.gv.mp h
    cases r
    obtain⟨its,rv,⟨o,n,e,c,_,dd⟩,_⟩:=I.list e2
    obtain⟨as,ra⟩:=fW.Cs I (by simpa [PyData.canLay0] using hc) e3 rv
    exact⟨_,.list e c dd (by simpa using ra)⟩
  | .tuple xs,_,_,hc,h,r=>by
    obtain⟨p,vs,rfl,e2,e3⟩:=h.iP
    cases r
    obtain⟨its,rv,⟨o,e,c,n,dd⟩,_⟩:=I.tuple e2
    obtain⟨as,ra⟩:=fW.Cs I (by simpa [PyData.canLay0] using hc) e3 rv
    exact⟨_,.tuple e c dd (by simpa using ra)⟩
  | .dict _,_,_,hc,_,_=>by simp [PyData.canLay0] at hc
theorem fW.Cs (I:fW X pins σ H s):∀ {ds:Lp}{vs:List V}{us:Lw},PyData.canLayAll0 ds=true->fz X.K H ds vs->gE vs us->∃ as,ReadsAll s.heap us ds as
  | [],_,_,_,h,r=>by rw [fz.gn.mp h] at r;cases r;exact⟨_,.nil⟩
  | d::ds,_,_,hc,h,r=>by
    have WA:d.canLay0=true/\PyData.canLayAll0 ds=true:=by simpa [PyData.canLayAll0] using hc
    obtain⟨v,rr,rfl,h1,t⟩:=fz.fT.mp h
    cases r with
    | cons r1 r2 =>
      obtain⟨as,ra⟩:=fW.qR I WA.1 h1 r1
      obtain⟨bs,rb⟩:=fW.Cs I WA.2 t r2
      exact⟨_,.cons ra rb⟩
end
end
abbrev fu:=List (Option PyData)
def ka (K:Fg)(H:Hp)(σ:St)(ρ:fu):Prop:=σ.length=ρ.length/\∀ (i:Nat) (d:PyData),ρ[i]?=some (some d)->∃ v,σ[i]?=some (some v)/\fM K H d v
theorem ka.same {K:Fg}{H H':Hp}{σ:St}{ρ:fu}(h:ka K H σ ρ)(e:fV H H'):ka K H' σ ρ :=
 ⟨h.1,fun i d q=>let ⟨v,a,b⟩:=h.2 i d q;⟨v,a,b.same e⟩⟩
theorem ka.set {K:Fg}{H:Hp}{σ:St}{ρ:fu}{i:Nat}{d:PyData}{v:V}(h:ka K H σ ρ)(e:fM K H d v):ka K H (σ.set i (some v)) (ρ.set i (some d)):=by
 refine⟨by simpa using h.1,fun j d' q=>?_⟩
 by_cases hj:j=i
 ·subst hj
  have hl:j<ρ.length:=by
   have:=(aJ.mp q).1
   simpa using this
  rw [aM hl] at q
  cases q
  exact⟨v,by rw [aM (by rw [h.1];exact hl)],e⟩
 ·rw [av (Ne.symm hj)] at q
  obtain⟨u,a,b⟩:=h.2 j d' q
  exact⟨u,by rw [av (Ne.symm hj)];exact a,b⟩
def KD (K:Fg)(H:Hp)(d:PyData)(Q:VK):Prop:=∀ v H',fV H H'->fM K H' d v->Q v H'
theorem KD.here {K:Fg}{Q:VK}(k:KD K H d Q)(h:fM K H d v):Q v H:=k v H (.refl H) h
theorem KD.later {K:Fg}{H':Hp}{Q:VK}(k:KD K H d Q)(e:fV H H'):KD K H' d Q:=fun v H2 e2 i=>k v H2 (e.trans e2) i
def tD (K:Fg)(f:fu->Od):TE:=fun σ H Q=>∃ ρ d,ka K H σ ρ/\f ρ=some d/\KD K H d Q
def PD (X:Cx)(e:Expr)(f:fu->Od):Prop:=PE X e (tD X.K f)
def tDT (K:Fg)(f:fu->Option Bool):TT:=fun σ H Q=>∃ ρ b,ka K H σ ρ/\f ρ=some b/\∀ H',fV H H'->Q b H'
def Gb (X:Cx)(e:Expr)(f:fu->Option Bool):Prop:=PT X e (tDT X.K f)
def tDA (K:Fg)(f:fu->Option Lp):TA:=fun σ H Q=>∃ ρ ds,ka K H σ ρ/\f ρ=some ds/\∀ vs H',fV H H'->fz K H' ds vs->Q vs H'
def Ct (X:Cx)(es:Lx)(f:fu->Option Lp):Prop:=PA X es (tDA X.K f)
inductive gI where
 | nx (ρ:fu)|rt (d:PyData)|bk (ρ:fu)|ct (ρ:fu)
theorem PE.imp {t u:TE}(h:PE X e t)(k:∀ σ H Q,u σ H Q->t σ H Q):PE X e u:=fun pins s σ H Q I q=>@h pins s σ H Q I (k σ H Q q)
theorem PT.imp {t u:TT}(h:PT X e t)(k:∀ σ H Q,u σ H Q->t σ H Q):PT X e u:=fun pins s σ H Q I q=>@h pins s σ H Q I (k σ H Q q)
theorem PA.imp {e:Lx}{t u:TA}(h:PA X e t)(k:∀ σ H Q,u σ H Q->t σ H Q):PA X e u:=fun p pins s σ H Q I q=>@h p pins s σ H Q I (k σ H Q q)
theorem PS.imp {e:Stmt}{t u:TS}(h:PS X e t)(k:∀ D σ H,u D σ H->t D σ H):PS X e u:=fun pins s σ H D I q=>@h pins s σ H D I (k D σ H q)
theorem Al.imp {e:List Stmt}{t u:TS}(h:Al X e t)(k:∀ D σ H,u D σ H->t D σ H):Al X e u:=fun pins s σ H D I q=>@h pins s σ H D I (k D σ H q)
theorem mU.imp {f:Value->Value->Sem Value}{r r':R2}(h:mU X f r)(k:∀ x y H Q,r' x y H Q->r x y H Q):mU X f r':=fun pins s σ H x y v u Q I rx ry q=>@h pins s σ H x y v u Q I rx ry (k _ _ _ _ q)
theorem II.imp {r r':R2}(h:II X r)(k:∀ x y H Q,r' x y H Q->r x y H Q):II X r':=fun a b pins s σ H x y v u Q I rx ry q e=>h a b pins s σ H x y v u Q I rx ry (k _ _ _ _ q) e
theorem jV.imp {f:Value}{r r':List V->Hp->VK->Prop}(h:jV X f r)(k:∀ xs H Q,r' xs H Q->r xs H Q):jV X f r':=fun pins s σ H xs us Q I rs q=>@h pins s σ H xs us Q I rs (k _ _ _ q)
end L2
variable  {h:L2.fu->Option (Bool×L2.fu)}{f:L2.fu->Od}{g:L2.fu->Option Bool}{ρ:L2.fu}{ff q:L2.fu->Option Lp}
namespace L2
open PySem PySem.Spec PyProof.Rows
section
variable {a b c:Expr}{fa fb fc:fu->Od} 
noncomputable def fh (i:Nat):fu->Od:=fun ρ=>(ρ[i]?).join
theorem fg (i:Nat) (hN:X.N[i]?=some x:=by rfl) (hv:LA X.env.scope x:=by first|exact b5 rfl|exact bO (b5 rfl)|exact bO (bO rfl)) (hd:zg x:=by decide)
  (xR:(x==("__classdict__":Str))=false:=by decide):PD X (.Name x pos) (fh i):=by
 refine PE.imp (ur hN hv hd xR) fun σ H Q ⟨ρ,d,hs,e,k⟩=>?_
 have e':ρ[i]?=some (some d):=by
  unfold fh at e
  cases q:ρ[i]? with
  | none=>rw [q] at e;cases e
  | some o=>rw [q] at e;cases o with
   | none=>cases e
   | some d'=>cases e;rfl
 obtain⟨v,e1,e2⟩:=hs.2 i d e'
 exact⟨v,e1,k.here e2⟩
noncomputable def dC (d:PyData):fu->Od:=fun _=>some d
theorem fq {i j}:PD X (.Constant (.int i) j pos) (dC (.int i)):=PE.imp Tj fun σ H Q ⟨_,d,_,e,k⟩=>by cases e;exact k.here (fM.fZ.mpr rfl)
theorem lz {i j}:PD X (.Constant (.bool i) j pos) (dC (.bool i)):=PE.imp WC fun σ H Q ⟨_,d,_,e,k⟩=>by cases e;exact k.here (fM.f9.mpr rfl)
theorem qe {j}:PD X (.Constant .none j pos) (dC .none):=PE.imp Tn fun σ H Q ⟨_,d,_,e,k⟩=>by cases e;exact k.here (fM.jE.mpr rfl)
theorem fw {x j}:PD X (.Constant (.str x) j pos) (dC (.str x)):=PE.imp To fun σ H Q ⟨_,d,_,e,k⟩=>by cases e;exact k.here (fM.gw.mpr rfl)
def rD2 (K:Fg)(g:PyData->PyData->Od):R2:=fun x y H Q=>∃ a b c,fM K H a x/\fM K H b y/\g a b=some c/\KD K H c Q
def uY (X:Cx)(f:Value->Value->Sem Value)(g:PyData->PyData->Od):Prop:=mU X f (rD2 X.K g)
def d2 (g:PyData->PyData->Od)(fa fb:fu->Od):fu->Od:=fun ρ=>(fa ρ).bind fun x=>(fb ρ).bind fun y=>g x y
theorem bind_some {β:Type}{o:Option α}{k:α->Option β}{b:β}(h:o.bind k=some b):∃ a,o=some a/\k a=some b:=by
 cases o with
 | none=>cases h
 | some a=>exact⟨a,rfl,h⟩
theorem Zs {K:Fg}{g:PyData->PyData->Od}{Q:VK}(h:tD K (d2 g fa fb) σ H Q):WM (rD2 K g) (tD K fa) (tD K fb) σ H Q:=by
 obtain⟨ρ,d,hs,e,k⟩:=h
 obtain⟨x,ex,e⟩:=bind_some e
 obtain⟨y,ey,e⟩:=bind_some e
 exact⟨ρ,x,hs,ex,fun v H1 s1 i1=>⟨ρ,y,hs.same s1,ey,fun u H2 s2 i2=>⟨x,y,d,i1.same s2,i2,e,k.later (s1.trans s2)⟩⟩⟩
theorem fK {op:Operator}{g:PyData->PyData->Od}(ho:uY X (binaryOp op) g)(ha:PD X a fa)(hb:PD X b fb):PD X (.BinOp a op b pos) (d2 g fa fb) :=
 PE.imp (LS ho ha hb) fun _ _ _ h=>Zs h
theorem Uj {op:CmpOp}{g:PyData->PyData->Od}(ho:uY X (compareOp op) g)(ha:PD X a fa)(hb:PD X b fb)(hm:behindInMarks op b=false):PD X (.Compare a [op] [b] pos) (d2 g fa fb) :=
 PE.imp (O1 ho ha hb hm) fun _ _ _ h=>Zs h
def IxD (X:Cx)(g:PyData->PyData->Od):Prop:=II X (rD2 X.K g)
theorem Xh {g:PyData->PyData->Od}(hr:IxD X g)(ha:PD X a fa)(hb:PD X b fb)(hs:uU b):PD X (.Subscript a b pos) (d2 g fa fb) :=
 PE.imp (Se hr ha hb hs) fun _ _ _ h=>Zs h
def dI (C:Int->Int->Bool)(g:Int->Int->PyData):PyData->PyData->Od
 | .int i,.int j=>if C i j then some (g i j) else none
 | _,_=>none
theorem Cu {C:Int->Int->Bool}{g:Int->Int->PyData}{x y:PyData}(h:dI C g x y=some d):∃ i j,x=.int i/\y=.int j/\C i j=true/\d=g i j:=by
 cases x<;>cases y<;>try (simp [dI] at h;done)
 rename_i i j
 dsimp only [dI] at h
 by_cases hc:C i j=true
 ·rw [ai hc] at h;cases h;exact⟨i,j,rfl,rfl,hc,rfl⟩
 ·rw [ao hc] at h;cases h
theorem Mo {f:Value->Value->Sem Value}{P:Int->Int->Prop}{C:Int->Int->Bool}{g:Int->Int->Int}(h:mU X f (rI P fun i j=>.int (g i j)))(hc:∀ i j,C i j=true->P i j):uY X f (dI C fun i j=>.int (g i j)) :=
 mU.imp h fun x y H Q ⟨a,b,d,ia,ib,e,k⟩=>by
  obtain⟨i,j,rfl,rfl,c,rfl⟩:=Cu e
  exact⟨i,j,fM.fZ.mp ia,fM.fZ.mp ib,hc i j c,k.here (fM.fZ.mpr rfl)⟩
theorem Uk {f:Value->Value->Sem Value}{g:Int->Int->Int}(h:mU X f (OA fun i j=>.int (g i j))):uY X f (dI (fun _ _=>true) fun i j=>.int (g i j)) :=
 mU.imp h fun x y H Q ⟨a,b,d,ia,ib,e,k⟩=>by
  obtain⟨i,j,rfl,rfl,c,rfl⟩:=Cu e
  exact⟨i,j,fM.fZ.mp ia,fM.fZ.mp ib,k.here (fM.fZ.mpr rfl)⟩
theorem Cv {f:Value->Value->Sem Value}{g:Int->Int->Bool}(h:mU X f (OA fun i j=>.bl (g i j))):uY X f (dI (fun _ _=>true) fun i j=>.bool (g i j)) :=
 mU.imp h fun x y H Q ⟨a,b,d,ia,ib,e,k⟩=>by
  obtain⟨i,j,rfl,rfl,c,rfl⟩:=Cu e
  exact⟨i,j,fM.fZ.mp ia,fM.fZ.mp ib,k.here (fM.f9.mpr rfl)⟩
def lK (i:Int):Bool:=decide (Builtin.Int.intBits i<=2 ^ 20)
theorem Pq:mU X (binaryOp .Mult) (rI (fun i j=>lK i=true/\lK j=true) fun i j=>.int (i*j)):=opI fun _ _ _ _ _ _ _ hc q=>mul_int q (.of_bits (of_decide_eq_true hc.1) (of_decide_eq_true hc.2))
def Pt:=dI (fun _ _=>true) fun i j=>.int (i - j)
def Ul:=dI (fun i j=>lK i&&lK j) fun i j=>.int (i*j)
def yh:=dI (fun _ j=>decide (0<j)&&decide (j<1073741824)) fun i j=>.int (i / j)
def gW:=dI (fun _ j=>decide (0<j)) fun i j=>.int (i % j)
theorem Mp:uY X (binaryOp .Sub) Pt:=Uk TH
theorem Um:uY X (binaryOp .Mult) Ul:=Mo Pq fun i j h=>by simpa using h
theorem yi:uY X (binaryOp .FloorDiv) yh:=Mo OZ fun i j h=>by simpa [WQ] using h
theorem gQ:uY X (binaryOp .Mod) gW:=Mo TJ fun i j h=>by simpa using h
def Ag:=dI (fun _ _=>true) fun i j=>.bool (decide (i<j))
def Zt:=dI (fun _ _=>true) fun i j=>.bool (decide (i<=j))
def Ap:=dI (fun _ _=>true) fun i j=>.bool (decide (j<i))
def dGe:=dI (fun _ _=>true) fun i j=>.bool (decide (j<=i))
theorem yj:uY X (compareOp .Lt) Ag:=Cv WR
theorem Xi:uY X (compareOp .LtE) Zt:=Cv WS
theorem yk:uY X (compareOp .Gt) Ap:=Cv WT
theorem Xj:uY X (compareOp .GtE) dGe:=Cv WU
def Xk (K:Fg):R2:=fun x y H Q=>∃ l b xs zs,x=.ref l/\y=.ref b/\qd K H l xs/\qd K H b zs/\xs.length+zs.length<=sizeLine/\∀ p,H p=none->Q (.ref p) (upd H p (.lst (xs++zs)))
theorem IQ:mU X (binaryOp .Add) (Xk X.K):=by
 intro pins s σ H x y v u Q I rx ry h
 obtain⟨l,b,xs,zs,rfl,rfl,hl,hb,hz,q⟩:=h
 cases rx
 cases ry
 obtain⟨its,r,pl,_⟩:=I.list hl
 obtain⟨uT,r2,Sg,_⟩:=I.list hb
 have e1:=r.length
 have e2:=r2.length
 obtain⟨⟨cls,dd,data,sl⟩,n,ho,hc,_,hd⟩:=pl
 obtain⟨⟨W4,Lm,data2,VY⟩,n2,OC,OD,_,hd2⟩:=Sg
 simp only at hc hd OD hd2
 subst hc hd OD hd2
 have e:its.toArray++uT.toArray=(its++uT).toArray:=by simp
 refine eQ ⟨_,ho,rfl⟩ ⟨_,OC,rfl⟩ noFill_list_add seq_list_add PySem.F.slot_list_add PySem.F.entry_list_add (PySem.F.args_list_add_2 _ _) (list_addW l b its.toArray uT.toArray n n2 dd Lm sl VY (by simp;omega)) ⟨ho,OC,?_⟩
 rw [e]
 exact⟨.ref _,_,I.T5 (t':=s.toks) (r.append r2) (by rw [aK];omega),rfl,q _ I.fresh⟩
theorem Pu:mU X (binaryOp .Add) (fun x y H Q=>∃ l b zs,x=.ref l/\y=.ref b/\tm X.K H l []/\tm X.K H b zs/\Q (.ref b) H):=by
 intro pins s σ H x y v u Q I rx ry h
 obtain⟨l,b,zs,rfl,rfl,hl,hb,q⟩:=h
 cases rx
 cases ry
 obtain⟨its,r,pl,_⟩:=I.tuple hl
 obtain⟨uT,r2,Sg,_⟩:=I.tuple hb
 have e1:=r.length
 obtain⟨⟨cls,dd,data,sl⟩,ho,hc,n,hd⟩:=pl
 obtain⟨⟨W4,Lm,data2,VY⟩,OC,OD,n2,hd2⟩:=Sg
 simp only at hc hd OD hd2
 subst hc hd OD hd2
 have e0:its=[]:=by cases its with
  | nil=>rfl
  | cons a r=>simp at e1
 subst e0
 exact eQ ⟨_,ho,rfl⟩ ⟨_,OC,rfl⟩ eK seq_tuple_add dh cX (cS _ _) (tuple_addW0 l b #[] uT.toArray n n2 dd Lm sl VY rfl) ⟨ho,OC,⟨.ref b,H,I,rfl,q⟩⟩
theorem kO {p:Addr}{o:HO}(h:H p=none):fV H (upd H p o):=fun b u e=>by rw [fU (gP e h)];exact e
theorem Em {K:Fg}{p:Addr}(h:H p=none)(e:fz K H ds vs):fM K (upd H p (.lst vs)) (.list ds) (.ref p) :=
 fM.gv.mpr ⟨p,vs,rfl,qd.of gp,e.same (kO h)⟩
theorem Mq {K:Fg}{p:Addr}(h:H p=none)(e:fz K H ds vs):fM K (upd H p (.tup vs)) (.tuple ds) (.ref p) :=
 fM.nc.mpr ⟨p,vs,rfl,tm.of gp,e.same (kO h)⟩
theorem KD.yl {K:Fg}{Q:VK}(k:KD K H (.list ds) Q)(e:fz K H ds vs):∀ p,H p=none->Q (.ref p) (upd H p (.lst vs)):=fun p h=>k _ _ (kO h) (Em h e)
theorem KD.Pw {K:Fg}{Q:VK}(k:KD K H (.tuple ds) Q)(e:fz K H ds vs):∀ p,H p=none->Q (.ref p) (upd H p (.tup vs)):=fun p h=>k _ _ (kO h) (Mq h e)
def f6:PyData->PyData->Od
 | .int i,.int j=>some (.int (i+j))
 | .str x,.str y=>if x.length+y.length<=sizeLine then some (.str (x++y)) else none
 | .list xs,.list ys=>if xs.length+ys.length<=sizeLine then some (.list (xs++ys)) else none
 | .tuple xs,.tuple ys=>if xs.length+ys.length<=sizeLine then some (.tuple (xs++ys)) else none
 | _,_=>none
theorem gm:uY X (binaryOp .Add) f6:=by
 refine mU.imp (TF.or (Gp.or (IQ.or (Pc.or Pu)))) fun x y H Q ⟨a,b,d,ia,ib,e,k⟩=>?_
 cases a<;>cases b<;>try (simp [f6] at e;done)
 ·rename_i i j
  cases e
  exact .inl ⟨i,j,fM.fZ.mp ia,fM.fZ.mp ib,k.here (fM.fZ.mpr rfl)⟩
 ·rename_i i j
  dsimp only [f6] at e
  by_cases hz:i.length+j.length<=sizeLine
  ·rw [ai hz] at e
   cases e
   exact .inr (.inl ⟨i,j,fM.gw.mp ia,fM.gw.mp ib,hz,k.here (fM.gw.mpr rfl)⟩)
  ·rw [ao hz] at e;cases e
 ·rename_i i j
  dsimp only [f6] at e
  by_cases hz:i.length+j.length<=sizeLine
  ·rw [ai hz] at e
   cases e
   obtain⟨p,vs,rfl,e2,e3⟩:=fM.gv.mp ia
   obtain⟨q,ws,rfl,f2,f3⟩:=fM.gv.mp ib
   exact .inr (.inr (.inl ⟨p,q,vs,ws,rfl,rfl,e2,f2,by rw [← e3.length,← f3.length];exact hz,k.yl (e3.append f3)⟩))
  ·rw [ao hz] at e;cases e
 ·rename_i i j
  dsimp only [f6] at e
  by_cases hz:i.length+j.length<=sizeLine
  ·rw [ai hz] at e
   cases e
   obtain⟨p,vs,rfl,e2,e3⟩:=ia.iP
   obtain⟨q,ws,rfl,f2,f3⟩:=ib.iP
   cases i with
   | nil =>
    rw [fz.gn.mp e3] at e2
    exact .inr (.inr (.inr (.inr ⟨p,q,ws,rfl,rfl,e2,f2,k.here ib⟩)))
   | cons i0 ir =>
    refine .inr (.inr (.inr (.inl ⟨p,q,vs,ws,rfl,rfl,e2,f2,?_,by rw [← e3.length,← f3.length];exact hz,fun z=>?_,fun z=>k.Pw (e3.append f3)⟩)))
    ·intro z;subst z;have:=e3.length;simp at this
    ·subst z
     have:j=[]:=by have:=f3.length;cases j with
      | nil=>rfl
      | cons _ _=>simp at this
     subst this
     rw [aS] at k
     exact k.here ia
  ·rw [ao hz] at e;cases e
def jC:PyData->PyData->Od:=fun a b=>if SeqAt.shaped a=true/\SeqAt.shaped b=true then some (.bool (PyData.eqv a b)) else none
def oB:PyData->PyData->Od:=fun a b=>if SeqAt.shaped a=true/\SeqAt.shaped b=true then some (.bool (!PyData.eqv a b)) else none
theorem ij (hu:X.A.units+64<cLine):uY X (compareOp .Eq) jC:=by
 intro pins s σ H x y v u Q I rx ry ⟨a,b,d,ia,ib,e,k⟩
 unfold jC at e
 by_cases hc:SeqAt.shaped a=true/\SeqAt.shaped b=true
 ·rw [ai hc] at e
  cases e
  obtain⟨as,ra⟩:=I.qR (aR hc.1) ia rx
  obtain⟨bs,rb⟩:=I.qR (aR hc.2) ib ry
  exact eq_dataH ra rb hc.1 hc.2 hu ⟨.bl _,H,I,rfl,k.here (fM.f9.mpr rfl)⟩
 ·rw [ao hc] at e;cases e
theorem lh (hu:X.A.units+64<cLine):uY X (compareOp .NotEq) oB:=by
 intro pins s σ H x y v u Q I rx ry ⟨a,b,d,ia,ib,e,k⟩
 unfold oB at e
 by_cases hc:SeqAt.shaped a=true/\SeqAt.shaped b=true
 ·rw [ai hc] at e
  cases e
  obtain⟨as,ra⟩:=I.qR (aR hc.1) ia rx
  obtain⟨bs,rb⟩:=I.qR (aR hc.2) ib ry
  exact ne_dataH ra rb hc.1 hc.2 hu ⟨.bl _,H,I,rfl,k.here (fM.f9.mpr rfl)⟩
 ·rw [ao hc] at e;cases e
def Zu:PyData->PyData->Od
 | .list xs,.int i=>ux xs i
 | .tuple xs,.int i=>ux xs i
 | .str z,.int i=>if z.length<=sizeLine then (ux z.cps.toList i).map fun c=>.str ⟨#[c]⟩ else none
 | _,_=>none
theorem Sh {K:Fg}{i:Int}(h:fz K H ds vs)(e:ux ds i=some d):∃ v,ux vs i=some v/\fM K H d v:=by
 unfold ux at e ⊢
 rw [← h.length]
 cases q:Ci ds.length i with
 | none=>rw [q] at e;cases e
 | some j =>
  rw [q] at e
  exact h.get e
theorem ixD:IxD X Zu:=by
 refine II.imp T3 fun x y H Q ⟨a,b,d,ia,ib,e,k⟩=>?_
 cases a<;>cases b<;>try (simp [Zu] at e;done)
 ·rename_i z i
  dsimp only [Zu] at e
  by_cases hz:z.length<=sizeLine
  ·rw [ai hz] at e
   obtain⟨c,e1,e2⟩:=aj.mp e
   subst e2
   exact .inr (.inr ⟨z,i,c,fM.gw.mp ia,fM.fZ.mp ib,hz,e1,k.here (fM.gw.mpr rfl)⟩)
  ·rw [ao hz] at e;cases e
 ·rename_i xs i
  obtain⟨p,vs,rfl,e2,e3⟩:=fM.gv.mp ia
  obtain⟨v,e4,e5⟩:=Sh e3 e
  exact .inl ⟨p,vs,i,v,rfl,fM.fZ.mp ib,e2,e4,k.here e5⟩
 ·rename_i xs i
  obtain⟨p,vs,rfl,e2,e3⟩:=ia.iP
  obtain⟨v,e4,e5⟩:=Sh e3 e
  exact .inr (.inl ⟨p,vs,i,v,rfl,fM.fZ.mp ib,e2,e4,k.here e5⟩)
def GJ:PyData->Option Bool
 | .none=>some false
 | .bool b=>some b
 | .int i=>some (i != 0)
 | .str y=>if y.length<=sizeLine then some ((y.length:Int) != 0) else none
 | .list xs=>some (!xs.isEmpty)
 | .tuple xs=>some (!xs.isEmpty)
 | .dict _=>none
theorem ym {K:Fg}(h:fz K H ds vs):ds.isEmpty=vs.isEmpty:=by
 have:=h.length
 cases ds<;>cases vs<;>first|rfl|(simp at this)
theorem Mr {K:Fg}{k:Bool}(h:fM K H d v)(e:GJ d=some k):TQ K v H k:=by
 cases d with
 | none=>rw [fM.jE.mp h];cases e;rfl
 | bool b=>rw [fM.f9.mp h];cases e;rfl
 | int i=>rw [fM.fZ.mp h];cases e;rfl
 | str y =>
  rw [fM.gw.mp h]
  dsimp only [GJ] at e
  by_cases hz:y.length<=sizeLine
  ·rw [ai hz] at e;cases e;exact⟨hz,rfl⟩
  ·rw [ao hz] at e;cases e
 | list xs =>
  obtain⟨p,vs,rfl,e2,e3⟩:=fM.gv.mp h
  cases e
  exact .inl ⟨vs,e2,by rw [ym e3]⟩
 | tuple xs =>
  obtain⟨p,vs,rfl,e2,e3⟩:=h.iP
  cases e
  exact .inr (.inl ⟨vs,e2,by rw [ym e3]⟩)
 | dict _=>cases e
def fB (f:fu->Od):fu->Option Bool:=fun ρ=>(f ρ).bind fun d=>match d with | .bool b=>some b|_=>none
theorem IS {b:Bool}(h:fB f ρ=some b):f ρ=some (.bool b):=by
 obtain⟨d,e1,e2⟩:=bind_some h
 cases d<;>first|(cases e2;exact e1)|cases e2
theorem Py {op:CmpOp}{g:PyData->PyData->Od}(ho:uY X (compareOp op) g)(ha:PD X a fa)(hb:PD X b fb)(hm:behindInMarks op b=false):Gb X (.Compare a [op] [b] pos) (fB (d2 g fa fb)) :=
 PT.imp (IC ho ha hb hm) fun σ H Q ⟨ρ,b,hs,e,k⟩ =>
  Zs ⟨ρ,.bool b,hs,IS e,fun v H1 s1 i1=>⟨b,fM.f9.mp i1,k H1 s1⟩⟩
def jJ (f g:fu->Option Bool):fu->Option Bool:=fun ρ=>(f ρ).bind fun x=>if x then g ρ else some false
def Ah (f g:fu->Option Bool):fu->Option Bool:=fun ρ=>(f ρ).bind fun x=>if x then some true else g ρ
def vS (f:fu->Option Bool):fu->Option Bool:=fun ρ=>(f ρ).map (!·)
variable {ga gb gc:fu->Option Bool}{rest:Lx}
def Uo (X:Cx)(e:Expr)(f:fu->Option Bool):Prop:=PW X e (tDT X.K f)
theorem PW.imp {t u:TT}(h:PW X e t)(k:∀ σ H Q,u σ H Q->t σ H Q):PW X e u:=fun wh pins s σ H Q I q=>@h wh pins s σ H Q I (k σ H Q q)
theorem iG (h:Gb X a ga):Uo X (.BoolOp .And [a] pos) ga:=OS h
theorem mi (h:Gb X a ga):Uo X (.BoolOp .Or [a] pos) ga:=LG h
theorem iZ (ha:Gb X a ga)(hb:Uo X (.BoolOp .And (b::rest) pos) gb):Uo X (.BoolOp .And (a::b::rest) pos) (jJ ga gb) :=
 PW.imp (Tp ha hb) fun σ H Q ⟨ρ,x,hs,e,k⟩=>by
  obtain⟨y,e1,e2⟩:=bind_some e
  refine⟨ρ,y,hs,e1,fun H1 s1=>?_⟩
  cases y with
  | true=>rw [ai rfl];exact⟨ρ,x,hs.same s1,e2,fun H2 s2=>k H2 (s1.trans s2)⟩
  | false=>rw [ao aQ];cases e2;exact k H1 s1
theorem mj (ha:Gb X a ga)(hb:Uo X (.BoolOp .Or (b::rest) pos) gb):Uo X (.BoolOp .Or (a::b::rest) pos) (Ah ga gb) :=
 PW.imp (R6 ha hb) fun σ H Q ⟨ρ,x,hs,e,k⟩=>by
  obtain⟨y,e1,e2⟩:=bind_some e
  refine⟨ρ,y,hs,e1,fun H1 s1=>?_⟩
  cases y with
  | false=>rw [ao aQ];exact⟨ρ,x,hs.same s1,e2,fun H2 s2=>k H2 (s1.trans s2)⟩
  | true=>rw [ai rfl];cases e2;exact k H1 s1
theorem jF (h:Uo X e ga):Gb X e ga:=h.pt
theorem ml (ha:Gb X a ga):Gb X (.UnaryOp .Not a pos) (vS ga) :=
 PT.imp (LH ha) fun σ H Q ⟨ρ,x,hs,e,k⟩=>by
  obtain⟨y,e1,e2⟩:=aj.mp e
  exact⟨ρ,y,hs,e1,fun H1 s1=>by show Q (!y) H1;rw [e2];exact k H1 s1⟩
def fD:fu->Option Lp:=fun _=>some []
def fx (f:fu->Od)(g:fu->Option Lp):fu->Option Lp:=fun ρ=>(f ρ).bind fun x=>(g ρ).bind fun xs=>some (x::xs)
theorem gU:Ct X [] fD:=PA.imp rY fun σ H Q ⟨ρ,ds,hs,e,k⟩=>by cases e;exact k [] H (.refl H) fz.nil
theorem ft (ha:PD X e f)(hr:Ct X es ff)(hs:zE e es X:=by rfl):Ct X (e::es) (fx f ff) :=
 PA.imp (nB ha hr hs) fun σ H Q ⟨ρ,ds,hs,e,k⟩=>by
  obtain⟨x,e1,e⟩:=bind_some e
  obtain⟨xs,e2,e⟩:=bind_some e
  cases e
  exact⟨ρ,x,hs,e1,fun v H1 s1 i1=>⟨ρ,xs,hs.same s1,e2,fun vs H2 s2 i2=>k _ H2 (s1.trans s2) (fz.cons (i1.same s2) i2)⟩⟩
def jy (ff:fu->Option Lp):fu->Od:=fun ρ=>(ff ρ).bind fun xs=>if xs.length<=sizeLine then some (.tuple xs) else none
def fH (ff:fu->Option Lp):fu->Od:=fun ρ=>(ff ρ).bind fun xs=>if xs.length<=sizeLine then some (.list xs) else none
theorem jK {x1}(h:Ct X es ff):PD X (.Tuple es x1 pos) (jy ff) :=
 PE.imp (L3 h) fun σ H Q ⟨ρ,d,hs,e,k⟩=>by
  obtain⟨xs,e1,e⟩:=bind_some e
  by_cases hz:xs.length<=sizeLine
  ·rw [ai hz] at e
   cases e
   exact⟨ρ,xs,hs,e1,fun vs H1 s1 i1=>⟨by rw [← i1.length];exact hz,(k.later s1).Pw i1⟩⟩
  ·rw [ao hz] at e;cases e
theorem fP (h:Ct X es ff):PD X (.List es pos) (fH ff) :=
 PE.imp (L4 h) fun σ H Q ⟨ρ,d,hs,e,k⟩=>by
  obtain⟨xs,e1,e⟩:=bind_some e
  by_cases hz:xs.length<=sizeLine
  ·rw [ai hz] at e
   cases e
   exact⟨ρ,xs,hs,e1,fun vs H1 s1 i1=>⟨by rw [← i1.length];exact hz,(k.later s1).yl i1⟩⟩
  ·rw [ao hz] at e;cases e
abbrev FO:=fu->Option (Option Int)
def tDO (K:Fg)(g:FO):TO:=fun σ H Q=>∃ ρ o,ka K H σ ρ/\g ρ=some o/\∀ H',fV H H'->Q o H'
def Wa (X:Cx)(e:Option Expr)(g:FO):Prop:=PO X e (tDO X.K g)
theorem PO.imp {e:Option Expr}{t u:TO}(h:PO X e t)(k:∀ σ H Q,u σ H Q->t σ H Q):PO X e u:=fun pins s σ H Q I q=>@h pins s σ H Q I (k σ H Q q)
def iK:FO:=fun _=>some none
def ig (f:fu->Od):FO:=fun ρ=>(f ρ).bind fun d=>match d with | .int i=>some (some i)|_=>none
theorem hJ:Wa X none iK:=PO.imp Pa fun σ H Q ⟨ρ,o,hs,e,k⟩=>by cases e;exact k H (.refl H)
theorem gZ (h:PD X e f):Wa X (some e) (ig f):=PO.imp (Pb h) fun σ H Q ⟨ρ,o,hs,e,k⟩=>by
 obtain⟨d,e1,e2⟩:=bind_some e
 cases d<;>first
  | (cases e2;exact⟨ρ,_,hs,e1,fun v H1 s1 i1=>⟨_,fM.fZ.mp i1,k H1 s1⟩⟩)
  | cases e2
def oE (xs:List α)(lo hi:Option Int):List α:=(xs.drop (HT.k5 xs.length 0 lo)).take (HT.k5 xs.length xs.length hi - HT.k5 xs.length 0 lo)
theorem fz.cut {K:Fg}(h:fz K H ds vs)(lo hi:Option Int):fz K H (oE ds lo hi) (Ed vs lo hi):=by
 unfold oE Ed
 rw [← h.length]
 exact(h.drop _).take _
def Xl (K:Fg):V->Option Int->Option Int->Hp->VK->Prop:=fun x lo hi H Q=>∃ a xs,x=.ref a/\tm K H a xs/\(HT.k5 xs.length 0 lo=0/\HT.k5 xs.length xs.length hi=xs.length)/\Q (.ref a) H
end
end L2
local macro_rules
| `(zO $a) => `(L2.ft $a L2.gU)
| `(zC $s $a) => `(L2.fx (L2.dC (.str $s)) $a)
| `(zQ $a) => `(L2.fx $a L2.fD)
| `(zA $s) => `(L2.dC (.str $s))
| `(zI $n) => `(L2.dC (.int $n))
namespace HT
open PySem PyProof.Rows
section
variable {prog:Program}    
theorem tR {t sl:Addr}{items:Array Value}{vl vu:Value}{lo hi:Option Int}{Q:Px} (ht:IsTup s.heap t items) (hs:s.heap.IsSliceOf sl vl vu .none) (pl:IsPart vl lo) (pu:IsPart vu hi)
  (hw:k5 items.size 0 lo=0/\k5 items.size items.size hi=items.size) (h:Q (.ref t) s):wpAny (model prog w) A (getItem (.ref t) (.ref sl)) Q E s:=by
 obtain⟨os,O7,Zm,O8⟩:=id hs
 have hTs:s.TypeIs (.ref sl) "slice":=⟨os,O7,Zm⟩
 unfold getItem
 try with_reducible refine bx ?_
 first|refine ab (aw ?_)|skip
 refine ab (wpAny_sequenceKey ht.typeIs (by decide) ?_)
 refine ab (cz (name:=zZ "__getitem__") ht.typeIs br
  (dE br ht.typeIs entry_tuple_getitem ?_ (args_tuple_getitem _ _)))
 show wpAny _ _ (Builtin.Tuple.tupleItemsOf (.ref t)>>=_) _ _ s
 refine ab (tupleItemsOf_ ht ?_)
 refine ab (cF hTs ?_)
 rw [ai (by decide)]
 refine ab (qv hs pl pu ?_)
 have aaH:((((k5 items.size 0 lo:Nat):Int)==0&&(1:Int)==1&&(k5 items.size items.size hi - k5 items.size 0 lo)==items.size)=true):=by
  rw [hw.1,hw.2]
  simp
 show wpAny _ _ (if (((k5 items.size 0 lo:Nat):Int)==0&&(1:Int)==1&&(k5 items.size items.size hi - k5 items.size 0 lo)==items.size)=true then _ else _) _ _ s
 rw [ai aaH]
 unfold Builtin.Tuple.tupleIsExact
 refine ab (ab (cF ht.typeIs (aw ?_)))
 rw [ai (by decide)]
 refine ab (e9 ?_)
 exact aw ⟨_,rfl,aw h⟩
end
end HT
namespace L2
open PySem PySem.Spec PyProof.Rows
section
variable {a b c:Expr}{fa fb fc:fu->Od}{p2:Pos} 
theorem Pz:IG X (Xl X.K):=by
 intro pins s σ H x v vl vu lo hi sl Q I rx hs pl pu h
 obtain⟨a,xs,rfl,hx,hw,q⟩:=h
 cases rx
 obtain⟨its,r,ht,hz⟩:=I.tuple hx
 have hlen:its.toArray.size=xs.length:=by rw [ax];exact r.length.symm
 refine⟨"tuple",_,br.lookup,ht.typeIs,?_⟩
 exact HT.tR ht hs pl pu (by rw [hlen];exact hw) ⟨.ref a,H,I,rfl,q⟩
def aaI:V->Option Int->Option Int->Hp->VK->Prop:=fun x lo hi H Q=>∃ z,x=.str z/\z.length<=sizeLine/\Q (.str (Txt.slice z lo hi)) H
def tu:Value->Option (Int×Tok)
 | .int i t=>some (i,t)
 | _=>none
theorem wQ {v:Value}{o:Option Int}(p:IsPart v o):partValue (tu v)=v/\(tu v).map (·.1)=o:=by
 cases p<;>exact⟨rfl,rfl⟩
theorem Up:IG X aaI:=by
 intro pins s σ H x v vl vu lo hi sl Q I rx hs pl pu h
 obtain⟨z,rfl,hz,q⟩:=h
 obtain⟨t,rfl⟩:=rx
 refine⟨"str",_,F.slot_str_getitem.lookup,dF _ _ _,?_⟩
 obtain⟨l1,l2⟩:=wQ pl
 obtain⟨u1,u2⟩:=wQ pu
 obtain⟨os,ho,hc,hd⟩:=hs
 refine wpAny_getItem_str_slice (l:=tu vl) (u:=tu vu) (st:=none) ⟨os,ho,hc,by rw [l1,u1];exact hd⟩ rfl ?_
 have e:sliceMade z t (tu vl) (tu vu) none=(if ((1:Int)==1&&(Builtin.Str.strSliceIndices lo hi 1 z.length).length==z.length)=true then .val (.str z t) else .str ⟨((Builtin.Str.strSliceIndices lo hi 1 z.length).filterMap (z.cps[·]?)).toArray⟩):=by
  unfold sliceMade slicePicked
  rw [l2,u2]
  rfl
 rw [e]
 exact post_val_or_str ⟨bH (Txt.slice_le z lo hi) hz,fun t' k=>⟨.str (Txt.slice z lo hi),H,I.tok _,⟨_,rfl⟩,q⟩⟩
def Lq:PyData->Option Int->Option Int->Od
 | .list xs,lo,hi=>some (.list (oE xs lo hi))
 | .tuple xs,lo,hi=>some (.tuple (oE xs lo hi))
 | .str z,lo,hi=>if z.length<=sizeLine then some (.str (Txt.slice z lo hi)) else none
 | _,_,_=>none
def gX (f:fu->Od)(l h:FO):fu->Od:=fun ρ=>(f ρ).bind fun x=>(l ρ).bind fun lo=>(h ρ).bind fun hi=>Lq x lo hi
theorem IG.imp {r r':V->Option Int->Option Int->Hp->VK->Prop}(h:IG X r)(k:∀ x lo hi H Q,r' x lo hi H Q->r x lo hi H Q):IG X r' :=
 fun pins s σ H x v vl vu lo hi sl Q I rx hs pl pu q=>@h pins s σ H x v vl vu lo hi sl Q I rx hs pl pu (k _ _ _ _ _ q)
theorem slD:IG X (fun x lo hi H Q=>∃ d c,fM X.K H d x/\Lq d lo hi=some c/\KD X.K H c Q):=by
 refine IG.imp (IK.or (Up.or (TY.or Pz))) fun x lo hi H Q ⟨d,c,i,e,k⟩=>?_
 cases d<;>try (simp [Lq] at e;done)
 ·rename_i z
  dsimp only [Lq] at e
  by_cases hz:z.length<=sizeLine
  ·rw [ai hz] at e;cases e
   exact .inr (.inl ⟨z,fM.gw.mp i,hz,k.here (fM.gw.mpr rfl)⟩)
  ·rw [ao hz] at e;cases e
 ·rename_i xs
  cases e
  obtain⟨p,vs,rfl,e2,e3⟩:=fM.gv.mp i
  exact .inl ⟨p,vs,rfl,e2,k.yl (e3.cut lo hi)⟩
 ·rename_i xs
  cases e
  obtain⟨p,vs,rfl,e2,e3⟩:=i.iP
  by_cases hw:HT.k5 vs.length 0 lo=0/\HT.k5 vs.length vs.length hi=vs.length
  ·refine .inr (.inr (.inr ⟨p,vs,rfl,e2,hw,?_⟩))
   have:oE xs lo hi=xs:=by
    unfold oE
    rw [e3.length,hw.1,hw.2]
    simp only [List.drop_zero,Nat.sub_zero]
    rw [← e3.length]
    exact List.take_length
   rw [this] at k
   exact k.here i
  ·exact .inr (.inr (.inl ⟨p,vs,rfl,e2,hw,k.Pw (e3.cut lo hi)⟩))
theorem iq {lo hi:Option Expr}{l h:FO}(he:PD X e f)(hl:Wa X lo l)(hu:Wa X hi h):PD X (.Subscript e (.Slice lo hi none p2) pos) (gX f l h) :=
 PE.imp (Ec slD he hl hu) fun σ H Q ⟨ρ,d,hs,e,k⟩=>by
  obtain⟨x,e1,e⟩:=bind_some e
  obtain⟨Zv,e2,e⟩:=bind_some e
  obtain⟨En,e3,e⟩:=bind_some e
  exact⟨ρ,x,hs,e1,fun v H1 s1 i1=>⟨ρ,Zv,hs.same s1,e2,fun H2 s2=>⟨ρ,En,hs.same (s1.trans s2),e3,fun H3 s3=>⟨x,d,i1.same (s2.trans s3),e,k.later (s1.trans (s2.trans s3))⟩⟩⟩⟩
def rDC (K:Fg)(g:Lp->Od):List V->Hp->VK->Prop:=fun xs H Q=>∃ ds c,fz K H ds xs/\g ds=some c/\KD K H c Q
def yn (X:Cx)(v:Value)(g:Lp->Od):Prop:=jV X v (rDC X.K g)
noncomputable def i6 (g:Lp->Od)(ff:fu->Option Lp):fu->Od:=fun ρ=>(ff ρ).bind g
theorem tDC {K:Fg}{g:Lp->Od}{Q:VK}(h:tD K (i6 g ff) σ H Q):tCB (rDC K g) (tDA K ff) σ H Q:=by
 obtain⟨ρ,d,hs,e,k⟩:=h
 obtain⟨ds,e1,e2⟩:=bind_some e
 exact⟨ρ,ds,hs,e1,fun vs H1 s1 i1=>⟨ds,d,i1,e2,k.later s1⟩⟩
theorem yo {p:Pos}{id:String}{g:Lp->Od} (hc:yn X (.builtin id) g) (hg:Gl X x) (hm:X.mg x=none) (hv:bootBuiltins x=some (.builtin id)) (ha:Ct X (e::es) ff) (hn:x≠"__name__":=by decide) (tQ:zg x:=by decide)
  (he:zE e es X:=by rfl) (tq:(backTo pos (starEach es X.env)).any (·.1)=false:=by rfl):PD X (.Call (.Name x p) (e::es) [] pos) (i6 g ff) :=
 PE.imp (Eb hc hg hm hv ha hn tQ he tq) fun _ _ _ h=>tDC h
theorem Bf {p:Pos}{T:String}{g:Lp->Od} (hc:yn X (.type T) g) (hg:Gl X x) (hm:X.mg x=none) (hv:bootBuiltins x=some (.type T)) (ha:Ct X (e::es) ff) (hn:x≠"__name__":=by decide) (tQ:zg x:=by decide)
  (he:zE e es X:=by rfl) (tq:(backTo pos (starEach es X.env)).any (·.1)=false:=by rfl):PD X (.Call (.Name x p) (e::es) [] pos) (i6 g ff) :=
 PE.imp (A7 hc hg hm hv ha hn tQ he tq) fun _ _ _ h=>tDC h
theorem je {K:Fg}(h:fz K H [d] vs):∃ v,vs=[v]/\fM K H d v:=by
 obtain⟨v,r,rfl,h1,t⟩:=fz.fT.mp h
 rw [fz.gn.mp t]
 exact⟨v,rfl,h1⟩
theorem Ms {K:Fg}{d':PyData}(h:fz K H [d,d'] vs):∃ v v',vs=[v,v']/\fM K H d v/\fM K H d' v':=by
 obtain⟨v,r,rfl,h1,t⟩:=fz.fT.mp h
 obtain⟨v',rfl,h2⟩:=je t
 exact⟨v,v',rfl,h1,h2⟩
def Xm:Lp->Od
 | [.list xs]=>some (.tuple xs)
 | [.tuple xs]=>some (.tuple xs)
 | _=>none
def IT:Lp->Od
 | [.list xs]=>some (.list xs)
 | [.tuple xs]=>some (.list xs)
 | _=>none
def PC:Lp->Od
 | [.list xs]=>some (.int xs.length)
 | [.tuple xs]=>some (.int xs.length)
 | [.str z]=>if z.length<=sizeLine then some (.int z.length) else none
 | _=>none
theorem Uq:yn X (.builtin "len") PC:=by
 refine jV.imp (Co.or Cp) fun xs H Q ⟨ds,c,i,e,k⟩=>?_
 match ds,e with
 | [.list ys],e =>
  cases e
  obtain⟨v,rfl,h1⟩:=je i
  obtain⟨p,vs,rfl,e2,e3⟩:=fM.gv.mp h1
  exact .inl ⟨p,vs,rfl,.inl e2,k.here (by rw [e3.length];exact fM.fZ.mpr rfl)⟩
 | [.tuple ys],e =>
  cases e
  obtain⟨v,rfl,h1⟩:=je i
  obtain⟨p,vs,rfl,e2,e3⟩:=h1.iP
  exact .inl ⟨p,vs,rfl,.inr e2,k.here (by rw [e3.length];exact fM.fZ.mpr rfl)⟩
 | [.str z],e =>
  dsimp only [PC] at e
  by_cases hz:z.length<=sizeLine
  ·rw [ai hz] at e;cases e
   obtain⟨v,rfl,h1⟩:=je i
   exact .inr ⟨z,by rw [fM.gw.mp h1],hz,k.here (fM.fZ.mpr rfl)⟩
  ·rw [ao hz] at e;cases e
def abS:Lp->Od
 | [.int i,.int j]=>some (.int (if j<i then j else i))
 | _=>none
def OE:PyData->String
 | .none=>"NoneType"
 | .bool _=>"bool"
 | .int _=>"int"
 | .str _=>"str"
 | .list _=>"list"
 | .tuple _=>"tuple"
 | .dict _=>"dict"
theorem Eo:jV X (.builtin "isinstance") (fun xs H Q=>∃ d v T c,xs=[v,.ty T]/\(∀ fE,d≠.dict fE)/\fM X.K H d v/\W.kitOne X.K (.type (OE d)) (.type T)=some c/\Q (.bl c) H):=by
 intro pins s σ H xs us Q I r h
 obtain⟨d,v,T,c,rfl,yp,hd,e,q⟩:=h
 obtain⟨u,w',rfl,ru,Cm⟩:=WV r
 obtain rfl:w'=Value.type T:=Cm
 have fin:∀ tk,EP X pins σ Q (.bool c) { s with toks:=tk }:=fun tk=>⟨.bl c,H,I.tok tk,rfl,q⟩
 cases d with
 | none=>rw [fM.jE.mp hd] at ru;cases ru;exact W.kia_one W.kitx_none I.xo aO e (fun z=>nomatch z) fin
 | bool y=>rw [fM.f9.mp hd] at ru;cases ru;exact W.kia_one W.kitx_bool I.xo aO e (fun z=>nomatch z) fin
 | int i=>rw [fM.fZ.mp hd] at ru;obtain⟨t,rfl⟩:=ru;exact W.kia_one W.kitx_int I.xo aO e (fun z=>nomatch z) fin
 | str y=>rw [fM.gw.mp hd] at ru;obtain⟨t,rfl⟩:=ru;exact W.kia_one W.kitx_str I.xo aO e (fun z=>nomatch z) fin
 | list xs =>
  obtain⟨p,vs,rfl,e2,e3⟩:=fM.gv.mp hd
  cases ru
  obtain⟨its,_,⟨o,n,h1,h2,_⟩,_⟩:=I.list e2
  exact W.kia_one W.kitx_list I.xo ⟨o,h1,h2⟩ e (fun z=>nomatch z) fin
 | tuple xs =>
  obtain⟨p,vs,rfl,e2,e3⟩:=hd.iP
  cases ru
  obtain⟨its,_,⟨o,h1,h2,_⟩,_⟩:=I.tuple e2
  exact W.kia_one W.kitx_tuple I.xo ⟨o,h1,h2⟩ e (fun z=>nomatch z) fin
 | dict fE=>exact absurd rfl (yp fE)
def IU:PyData->Bool
 | .dict _=>true
 | _=>false
def Ur (T:String)(f:fu->Od):fu->Od:=fun ρ=>(f ρ).bind fun d=>if IU d then none else some (.bool (OE d==T||(OE d=="bool"&&T=="int")))
theorem Us {K:Fg}{T:String}(hT:T="tuple"∨T="list"∨T="bool"∨T="str"∨T="int")(d:PyData):W.kitOne K (.type (OE d)) (.type T)=some (OE d==T||(OE d=="bool"&&T=="int")):=by
 rcases hT with rfl|rfl|rfl|rfl|rfl<;>cases d<;>rfl
theorem Kg {T:String}{p pt:Pos} (hT:T="tuple"∨T="list"∨T="bool"∨T="str"∨T="int") (he:PD X e f) (hg:Gl X "isinstance") (hm:X.mg "isinstance"=none) (hgT:Gl X x) (hmT:X.mg x=none) (hv:bootBuiltins x=some (.type T))
  (hn:x≠"__name__":=by decide) (tQ:zg x:=by decide)
  (hs:starEach [e,.Name x pt] X.env=(false,eval e X.env)::starEach [.Name x pt] X.env:=by rfl) (DY:starEach [.Name x pt] X.env=(false,eval (.Name x pt) X.env)::starEach [] X.env:=by rfl) (tq:(backTo pos (starEach [.Name x pt] X.env)).any (·.1)=false:=by rfl) :
  PD X (.Call (.Name "isinstance" p) [e,.Name x pt] [] pos) (Ur T f):=by
 refine PE.imp (Eb Eo hg hm (by rfl) (nB he (nB (OR hgT hmT hv (v:=.ty T) rfl hn tQ) rY DY) hs) (by decide) (by decide) hs tq) fun σ H Q ⟨ρ,d,hs,e,k⟩=>?_
 obtain⟨x,e1,e2⟩:=bind_some e
 by_cases hx:IU x=true
 ·rw [ai hx] at e2;cases e2
 ·rw [ao hx] at e2
  cases e2
  exact⟨ρ,x,hs,e1,fun v H1 s1 i1=>⟨x,v,T,_,rfl,(fun fE z=>hx (by rw [z];rfl)),i1,Us hT x,(k.later s1).here (fM.f9.mpr rfl)⟩⟩
end
section
variable {a b c:Expr}{fa fb fc:fu->Od}{p2:Pos}{rest:List Stmt}{g h:fu->Option gI}{gc:fu->Option Bool}
def gK:fu->Option gI:=fun ρ=>some (.nx ρ)
noncomputable def fy (g h:fu->Option gI):fu->Option gI:=fun ρ=>(g ρ).bind fun o=>match o with
 | .nx ρ'=>h ρ'
 | o=>some o
noncomputable def gu (f:fu->Od):fu->Option gI:=fun ρ=>(f ρ).map .rt
noncomputable def i9 (c:fu->Option Bool)(g h:fu->Option gI):fu->Option gI:=fun ρ=>(c ρ).bind fun x=>if x then g ρ else h ρ
abbrev BD:=PyData->fu->Option fu
def tDG (K:Fg)(bd:BD):TG:=fun v σ H Q=>∃ ρ d ρ',ka K H σ ρ/\fM K H d v/\bd d ρ=some ρ'/\∀ σ' H',fV H H'->ka K H' σ' ρ'->Q σ' H'
def Zw (X:Cx)(tg:Expr)(bd:BD):Prop:=PG X tg (tDG X.K bd)
theorem PG.imp {t u:TG}(h:PG X tg t)(k:∀ v σ H Q,u v σ H Q->t v σ H Q):PG X tg u:=fun pins s σ H v u' Q I r q=>@h pins s σ H v u' Q I r (k _ _ _ _ q)
theorem Oz.imp {tg:Lx}{t u:OW}(h:Oz X tg t)(k:∀ v σ H Q,u v σ H Q->t v σ H Q):Oz X tg u:=fun pins s σ H v u' Q I r q=>@h pins s σ H v u' Q I r (k _ _ _ _ q)
def IV (i:Nat):BD:=fun d ρ=>some (ρ.set i (some d))
theorem yq (i:Nat)(hN:X.N.Nodup)(hi:X.N[i]?=some x:=by rfl)(hx:Gg X.env.scope x:=by first|exact b5 rfl|exact bO rfl)(hf:X.fn x=true∨X.env.scope.names.lookup x=some .local:=by first|exact .inl rfl|exact .inr rfl|assumption):Zw X (.Name x pos) (IV i) :=
 PG.imp (pI hN hi hx hf) fun v σ H Q ⟨ρ,d,ρ',hs,i1,e,k⟩=>by cases e;exact k _ H (.refl H) (hs.set i1)
abbrev Si:=List PyData->fu->Option fu
def aaJ (K:Fg)(bd:Si):OW:=fun vs σ H Q=>∃ ρ ds ρ',ka K H σ ρ/\fz K H ds vs/\bd ds ρ=some ρ'/\∀ σ' H',fV H H'->ka K H' σ' ρ'->Q σ' H'
def PH (X:Cx)(tg:Lx)(bd:Si):Prop:=Oz X tg (aaJ X.K bd)
def Xn:Si:=fun ds ρ=>match ds with | []=>some ρ|_=>none
def Mt (b:BD)(bs:Si):Si:=fun ds ρ=>match ds with | []=>none|d::r=>(b d ρ).bind fun ρ'=>bs r ρ'
theorem Mu:PH X [] Xn:=Oz.imp Cc fun vs σ H Q ⟨ρ,ds,ρ',hs,i1,e,k⟩=>by
 cases ds with
 | nil=>cases e;exact⟨fz.gn.mp i1,k σ H (.refl H) hs⟩
 | cons _ _=>cases e
theorem Bg {bd:BD}{bs:Si}(h1:Zw X e bd)(h2:PH X es bs)(hs:(assignEach (e::es) X.env).map (·.2)=assign e X.env::(assignEach es X.env).map (·.2):=by rfl):PH X (e::es) (Mt bd bs) :=
 Oz.imp (qu h1 h2 hs) fun vs σ H Q ⟨ρ,ds,ρ',hs,i1,e,k⟩=>by
  cases ds with
  | nil=>cases e
  | cons d r =>
   obtain⟨ρ1,e1,e2⟩:=bind_some e
   obtain⟨v,vr,rfl,i2,i3⟩:=fz.fT.mp i1
   exact⟨v,vr,rfl,ρ,d,ρ1,hs,i2,e1,fun σ1 H1 s1 Bh=>⟨ρ1,r,ρ',Bh,i3.same s1,e2,fun σ2 H2 s2 DY=>k σ2 H2 (s1.trans s2) DY⟩⟩
def PK (n:Nat)(bs:Si):BD:=fun d ρ=>match d with | .tuple ds=>if ds.length=n then bs ds ρ else none|_=>none
theorem PL {k:Nat}{bs:Si}(hc:X.calm=true)(h:PH X es bs)(hn:(assignEach es X.env).length=n:=by rfl)(Af:(assignEach es X.env).findIdx? (·.1)=none:=by rfl):Zw X (.Tuple es k pos) (PK n bs) :=
 PG.imp (Gj hc h hn Af) fun v σ H Q ⟨ρ,d,ρ',hs,i1,e,k⟩=>by
  cases d<;>try (simp [PK] at e;done)
  rename_i ds
  dsimp only [PK] at e
  by_cases hl:ds.length=n
  ·rw [ai hl] at e
   obtain⟨p,vs,rfl,e2,e3⟩:=i1.iP
   exact⟨p,vs,rfl,e2,by rw [← e3.length];exact hl,ρ,ds,ρ',hs,e3,e,k⟩
  ·rw [ao hl] at e;cases e
def GK (K:Fg)(J:It)(ds:Lp)(H:Hp):Prop :=
 ∀ H',fV H H'->(J.stop ds.length H')/\∀ (i:Nat) (d:PyData),ds[i]?=some d->J.go i H'/\∀ x H2,J.VW i H' x H2->fV H' H2/\fM K H2 d x
def tDI (K:Fg)(q:fu->Option Lp):TI:=fun σ H R=>∃ ρ ds,ka K H σ ρ/\q ρ=some ds/\∀ J H',fV H H'->GK K J ds H'->R J H'
def Ls (X:Cx)(tg iter:Expr)(q:fu->Option Lp):Prop:=PI X tg iter (tDI X.K q)
theorem PI.imp {iter:Expr}{t u:TI}(h:PI X tg iter t)(k:∀ σ H R,u σ H R->t σ H R):PI X tg iter u:=fun pins s σ H R I q=>@h pins s σ H R I (k _ _ _ q)
theorem PI.or {iter:Expr}{t u:TI}(h:PI X tg iter t)(h':PI X tg iter u):PI X tg iter (fun σ H R=>t σ H R∨u σ H R):=fun pins s σ H R I q=>q.elim (@h pins s σ H R I) (@h' pins s σ H R I)
def lL (f:fu->Od):fu->Option Lp:=fun ρ=>(f ρ).bind fun d=>match d with | .list ds=>some ds | .tuple ds=>some ds|_=>none
theorem jM (h:PD X e f):Ls X tg e (lL f) :=
 PI.imp (PI.or (IB h) (LQ h)) fun σ H R ⟨ρ,ds,hs,e,k⟩=>by
  obtain⟨d,e1,e2⟩:=bind_some e
  cases d<;>try (simp at e2;done)
  ·cases e2
   refine .inl ⟨ρ,_,hs,e1,fun v H1 s1 i1=>?_⟩
   obtain⟨p,vs,rfl,e2,e3⟩:=fM.gv.mp i1
   refine⟨p,rfl,⟨vs,e2⟩,k _ H1 s1 fun H' s'=>⟨⟨vs,s'.seq e2,by rw [e3.length];exact aD _⟩,fun i d q=>?_⟩⟩
   obtain⟨x,e4,e5⟩:=e3.get q
   refine⟨⟨vs,x,s'.seq e2,e4⟩,fun y H2 ⟨r1,r2⟩=>?_⟩
   subst r1
   have:=r2 vs (s'.seq e2)
   rw [e4] at this;cases this
   exact⟨.refl _,e5.same s'⟩
  ·cases e2
   refine .inr ⟨ρ,_,hs,e1,fun v H1 s1 i1=>?_⟩
   obtain⟨p,vs,rfl,e2,e3⟩:=i1.iP
   refine⟨p,rfl,⟨vs,e2⟩,k _ H1 s1 fun H' s'=>⟨⟨vs,s'.El e2,by rw [e3.length];exact aD _⟩,fun i d q=>?_⟩⟩
   obtain⟨x,e4,e5⟩:=e3.get q
   refine⟨⟨vs,x,s'.El e2,e4⟩,fun y H2 ⟨r1,r2⟩=>?_⟩
   subst r1
   have:=r2 vs (s'.El e2)
   rw [e4] at this;cases this
   exact⟨.refl _,e5.same s'⟩
def oq (lo:Int)(n:Nat):Lp:=(List.range n).map fun k=>.int (lo+(k:Nat))
theorem Ep {K:Fg}(lo:Int)(n:Nat)(H:Hp):GK K (WJ lo n) (oq lo n) H:=fun H' s'=>by
 refine⟨by show n<=(oq lo n).length;simp [oq],fun i d q=>?_⟩
 have hi:i<n:=by
  have:=(aJ.mp q).1
  simpa [oq] using this
 refine⟨hi,fun x H2 ⟨r1,r2⟩=>?_⟩
 subst r1 r2
 have:d=.int (lo+(i:Nat)):=by
  unfold oq at q
  rw [aC,List.getElem?_range hi] at q
  cases q;rfl
 subst this
 exact⟨.refl _,fM.fZ.mpr rfl⟩
def jG (f:fu->Od):fu->Option Lp:=fun ρ=>(f ρ).bind fun d=>match d with | .int j=>if -(2 ^ 62)<=j/\j<2 ^ 62 then some (oq 0 j.toNat) else none|_=>none
theorem yr {p:Pos}(hg:Gl X "range")(hm:X.mg "range"=none)(h:PD X e f)(hs:starEach [e] X.env=[(false,eval e X.env)]:=by rfl):Ls X tg (.Call (.Name "range" p) [e] [] pos) (jG f) :=
 PI.imp (A2 hg hm (nB h rY (by rw [hs];rfl)) hs) fun σ H R ⟨ρ,ds,hs,e,k⟩=>by
  obtain⟨d,e1,e2⟩:=bind_some e
  cases d<;>try (simp at e2;done)
  rename_i j
  dsimp only at e2
  by_cases hj:-(2 ^ 62)<=j/\j<2 ^ 62
  ·rw [ai hj] at e2
   cases e2
   exact⟨ρ,_,hs,e1,fun v H1 s1 i1=>⟨j,by rw [fM.fZ.mp i1],hj.1,hj.2,k _ H1 s1 (Ep 0 _ H1)⟩⟩
  ·rw [ao hj] at e2;cases e2
def kb (bd:BD)(g:fu->Option gI):Lp->fu->Option gI
 | [],ρ=>some (.nx ρ)
 | d::ds,ρ=>((bd d ρ).bind g).bind fun o=>match o with
  | .nx ρ'=>kb bd g ds ρ'
  | .ct ρ'=>kb bd g ds ρ'
  | .bk ρ'=>some (.nx ρ')
  | .rt d=>some (.rt d)
end
def Ut (K:Fg)(n:Nat)(f:Lp->Od):Sp:=fun vs H Q _=>∃ ds d,fz K H ds vs/\ds.length=n/\f ds=some d/\KD K H d Q
section
variable {k:Nat}{fa:Addr}{ps:Lr}{f:Lp->Od}{p:Pos}   
def jg (n:Nat)(f:Lp->Od)(ff:fu->Option Lp):fu->Od:=fun ρ=>(ff ρ).bind fun ds=>if ds.length=n then f ds else none
theorem PM (F:nN X.prog X.w X.K X.mg X.base Bd k fa fd ps (Ut X.K n f)) (hr:j3 k X.A) (hg:Gl X x) (hm:X.mg x=some (.ref fa)) (hk:W.keepIn X.K (.ref fa)=true) (hb:mV X.K fd ps [])
  (ha:Ct X (e::es) ff) (tQ:zg x:=by decide) (he:zE e es X:=by rfl) (tq:(backTo pos (starEach es X.env)).any (·.1)=false:=by rfl) :
  PD X (.Call (.Name x p) (e::es) [] pos) (jg n f ff) :=
 PE.imp (Cg F hr hg hm hk hb .nil uV ha tQ he tq) fun σ H Q ⟨ρ,d,hs,e,k⟩=>by
  obtain⟨ds,e1,e2⟩:=bind_some e
  by_cases hl:ds.length=n
  ·rw [ai hl] at e2
   exact⟨ρ,ds,hs,e1,fun vs H1 s1 i1=>⟨ds,d,by rw [aS];exact i1,hl,e2,k.later s1⟩⟩
  ·rw [ao hl] at e2;cases e2
def iD (N:Lr)(ds:Lp):fu:=ds.map some++List.replicate (N.length - ds.length) none
theorem qS {K:Fg}{N:Lr}(h:fz K H ds vs):ka K H (om N vs) (iD N ds):=by
 have hl:=h.length
 refine⟨by simp [om,iD,hl],fun i d q=>?_⟩
 unfold iD at q
 by_cases hi:i<ds.length
 ·rw [bh (by simpa using hi),aC] at q
  obtain⟨d',e1,e2⟩:=aj.mp q
  cases e2
  obtain⟨v,e3,e4⟩:=h.get e1
  refine⟨v,?_,e4⟩
  unfold om
  rw [bh (by simpa using (by omega:i<vs.length)),aC,e3]
  rfl
 ·rw [aV (by simpa using hi),bP] at q
  split at q<;>cases q
def jq (N:Lr)(g:fu->Option gI):Lp->Od:=fun ds=>(g (iD N ds)).bind fun o=>match o with
 | .rt d=>some d
 | .nx _=>some .none
 | _=>none
end
end L2
namespace Zo
open PySem PySem.W PySem.Calls PyProof.Rows
theorem Cw {l:OpenLaw}{q:Program}{loose:Lr}{XP:(Str->Ow)->Heap->Prop}{YP:World->Heap->Prop}{d:DefRec}
  (hn:l.most=some n) (hdf:d.params.defaults=[])
  (call:∀ (w:World) (s₀ s₁:Shared) (mg mb:Str->Ow) (fa:Addr) (o:Obj) (pm cd doc:Value) (a:Addr) (vs:Lw) (ns:List Int),
   Ground q loose [] XP w s₀ mg mb s₁.heap->YP w s₁.heap ->
   s₁.heap.get? fa=some o->o.data=.func (docDef d.name d.params d.body d.scope pm cd doc)->s₁.heap.CodeRec cd d.name->mg d.name=some (.ref fa) ->
   s₁.heap.get? a=some { cls:=.type "list",data:=.seq vs.toArray }->IntsAre vs ns->ns.length<=n->(∀ x∈ns,L2.lK x=true)->s₁.gens=#[] ->
   codeAny (model l.prog w) callerA (.call (.ref fa) ⟨[.ref a],[]⟩) (fun r s'=>r=.ok (.ret (.bool true))/\OldK s₁.heap s'.heap/\s'.os=s₁.os/\AllBare s'.gens) s₁) :
  WalkO q loose XP YP l.row.toRowW d [] (fun f vs=>PySem.call f vs):=by
 intro w s₀ s₁ mg mb G Y fa o pm cd doc dV kV ho hd xR hD hmg hg args vals as Pj aaK hrd hwl hlo
 obtain rfl:dV=.none:=Dflts.none hD hdf
 obtain rfl:kV=.none:=Dflts.noKw hD
 obtain⟨a,vs,ns,rfl,rfl,Uu,hints,hlen⟩:=Ka hn Pj hwl
 have Mv:∀ x∈ns,L2.lK x=true:=fun x hx=>by
  have h1:=layableW_arg aaK (WData.list (ns.map WData.int)) (by simp)
  have h2:=layable_int (layableW_item h1 (.int x) (ag.mpr ⟨x,hx,rfl⟩))
  have h3:(PyData.int x).layable=decide (Builtin.Int.intBits x<=1048576):=by simp [PyData.layable,PyData.canLay,PyData.depth,PyData.weight,Builtin.Int.intBits]
  rw [h3] at h2
  exact h2
 refine enter_call (df (call w s₀ s₁ mg mb fa o pm cd doc a vs ns G Y ho (fd_plain hd) xR hmg Uu hints hlen Mv hg) fun r s' hq=>?_)
 obtain⟨rfl,h2,h3,h4⟩:=hq
 exact⟨.inl ⟨.bool true,.bool true,[],rfl,fun _=>rfl,.bool true,Kb l _,fun _=>⟨List.Pairwise.nil,fun _ hm=>(nomatch hm)⟩⟩,h2,h3,h4⟩
end Zo
namespace L2
open PySem PySem.Spec PyProof.Rows
theorem Bm {K:Fg}{H:Hp}:∀ ns:List Int,fz K H (ns.map PyData.int) (ns.map V.int)
 | []=>fz.nil
 | n::ns=>fz.cons (fM.fZ.mpr rfl) (Bm ns)
structure rL (P:Program) (w:World) (K:Fg) (mg:Str->Ow) (base:Heap) (x:Str) (k n:Nat) (f:Lp->Od):Prop where
 ex:∃ a fd ps,nN P w K mg base Bd k a fd ps (Ut K n f)/\mg x=some (.ref a)/\W.keepIn K (.ref a)=true/\mV K fd ps []
section
variable {f:Lp->Od}{p:Pos}{j k:Nat}
theorem gi (O:rL X.prog X.w X.K X.mg X.base x j n f) (hr:j3 k X.A) (hg:Gl X x) (ha:Ct X (e::es) ff) (hj:j<=k:=by decide) (tQ:zg x:=by decide)
  (he:zE e es X:=by rfl) (tq:(backTo pos (starEach es X.env)).any (·.1)=false:=by rfl):PD X (.Call (.Name x p) (e::es) [] pos) (jg n f ff):=by
 obtain⟨a,fd,ps,F,m,kp,b⟩:=O.ex
 exact PM (F.mono hj) hr hg m kp b ha tQ he tq
end
theorem Kh {l:W.OpenLaw}{k:Nat}{q:Program}{loose:Lr}{XP:(Str->Ow)->Heap->Prop}{YP:World->Heap->Prop}{d:DefRec}{K:Params->Fg}{f:Lp->Od}
  (hn:l.most=some n) (OB:n<=sizeLine) (hdf:d.params.defaults=[]) (hr:j3 k callerA)
  (hY:∀ (w:World) (h:Heap),YP w h->(K w.params).In h)
  (F:∀ (w:World) (mg:Str->Ow) (fa:Addr) (h:Heap),(K w.params).In h->h.Ns mainGlobals mg->mg d.name=some (.ref fa) ->
   ∃ fd:FuncData,(∀ (s:Shared) (u:Value),BindsTo s fd ⟨[u],[]⟩ [(x,u)]) /\
    ∀ base:Heap,(K w.params).In base->base.Ns mainGlobals mg->nN l.prog w (K w.params) mg base Bd k fa fd [x] (Ut (K w.params) 1 f))
  (hf:∀ ns:List Int,ns.length<=n->(∀ x∈ns,lK x=true)->f [.list (ns.map .int)]=some (.bool true)) :
  W.WalkO q loose XP YP l.row.toRowW d [] (fun f vs=>PySem.call f vs):=by
 refine Zo.Cw hn hdf fun w s₀ s₁ mg mb fa o pm cd doc a vs ns G Y ho hd xR hmg Uu hints hlen Mv hg=>?_
 have KX:=hY w _ Y
 obtain⟨fd,hb,hF⟩:=F w mg fa _ KX G.T.g hmg
 refine Mf KX G.T.g G.T.b G.T.builtins G.T.nolimit hg Uu hints (bH hlen OB) hr hF hb (fun H hO hS=>?_) fun H e s' z=>z
 exact⟨[.list (ns.map .int)],.bool true,fz.cons (fM.gv.mpr ⟨a,_,rfl,hS,Bm ns⟩) fz.nil,rfl,hf ns hlen Mv,fun v H' _ i=>fM.f9.mp i⟩
end L2
namespace L2
open PySem
theorem toNat_inj {a b:Char}(h:a.toNat=b.toNat):a=b:=Char.toNat_inj.mp h
theorem ub:∀ {a b:List Char},a.map Char.toNat=b.map Char.toNat->a=b
 | [],[],_=>rfl
 | [],_::_,h=>by simp at h
 | _::_,[],h=>by simp at h
 | a::as,b::bs,h=>by
  rw [aa,aa] at h
  injection h with h1 h2
  rw [toNat_inj h1,ub h2]
theorem Cy {a b:String}(h:zZ a=zZ b):a=b:=by
 rw [dk,dk] at h
 injection h with h
 have h2:=bQ Array.toList h
 simp only [List.toList_toArray] at h2
 exact String.toList_inj.mp (ub h2)
theorem k8 (a b:String):(zZ a==zZ b)=(a==b):=by
 by_cases h:a=b
 ·subst h;simp
 ·have h':¬ zZ a=zZ b:=fun z=>h (Cy z)
  rw [aW.mpr h',aW.mpr h]
theorem fI (a:String):PyData.strOk (zZ a)=true:=by
 rw [dk]
 unfold PyData.strOk
 simp only [Array.all_eq_true',List.mem_toArray,ag]
 rintro x ⟨c,_,rfl⟩
 have:=c.valid
 simp only [bc]
 have h2:c.toNat<1114112:=by
  rcases c.valid with h|h
  ·have:c.toNat<55296:=h
   omega
  ·exact h.2
 exact h2
end L2
namespace L2
open PySem PySem.Spec PyProof.Rows
def yt (env:Env)(scope:Scope):List (Str×Addr):=(scope.names.filterMap fun p=>if p.2==NameKind.free then (env.cells.lookup p.1).map fun a=>(p.1,a) else none).reverse
theorem uZ (env:Env):∀ (names:List (Str×NameKind)) (acc:List (Str×Addr)),(∀ p∈names,p.2=.free->∃ c,env.cells.lookup p.1=some c) ->
  (forIn names acc fun p cs=>(if (p.2==NameKind.free)=true then do let c ← cellOf env p.1;pure (ForInStep.yield ((p.1,c)::cs)) else pure (ForInStep.yield cs):Sem (ForInStep (List (Str×Addr))))) =
   pure ((names.filterMap fun p=>if p.2==NameKind.free then (env.cells.lookup p.1).map fun a=>(p.1,a) else none).reverse++acc)
 | [],acc,_=>rfl
 | p::r,acc,h=>by
  have ih:=fun acc=>uZ env r acc fun q hq=>h q (af _ hq)
  rw [dP]
  by_cases hp:p.2=.free
  ·obtain⟨c,hc⟩:=h p aT hp
   have e:(p.2==NameKind.free)=true:=by rw [hp];rfl
   rw [ai e]
   have e2:cellOf env p.1=pure c:=by unfold cellOf;rw [hc]
   rw [e2]
   simp only [pure_bind]
   rw [ih,cx,ai e,hc]
   simp
  ·have e:(p.2==NameKind.free)=false:=by simpa using hp
   rw [ao (by rw [e];exact aQ)]
   simp only [pure_bind]
   rw [ih,cx,ao (by rw [e];exact aQ)]
theorem qf {env:Env}(h:∀ p∈scope.names,p.2=.free->∃ c,env.cells.lookup p.1=some c):closureFor scope env=pure (yt env scope):=by
  have e:=uZ env scope.names [] h
  unfold closureFor yt
  rw [aS] at e
  have e2:(forIn scope.names ([]:List (Str×Addr)) fun x cs=>(match x with|(name,kind)=>do if (kind==NameKind.free)=true then do let c ← cellOf env name;pure (ForInStep.yield ((name,c)::cs)) else pure (ForInStep.yield cs):Sem (ForInStep (List (Str×Addr)))))=_:=e
  first
    | (simp only [bind_pure] ;exact e2)
    | (show (forIn scope.names ([]:List (Str×Addr)) _>>=fun cs=>pure cs)=_
       rw [bind_pure]
       exact e2)
theorem Mw {env:Env}{c:Addr}(h:(x,c)∈yt env scope):env.cells.lookup x=some c/\(x,NameKind.free)∈scope.names:=by
 unfold yt at h
 rw [List.mem_reverse,bp] at h
 obtain⟨⟨n,k⟩,hm,e⟩:=h
 by_cases hk:(k==NameKind.free)=true
 ·rw [ai hk] at e
  obtain⟨a,e1,e2⟩:=aj.mp e
  cases e2
  have:k=.free:=eq_of_beq hk
  subst this
  exact⟨e1,hm⟩
 ·rw [ao hk] at e;cases e
theorem kP {env:Env}{c:Addr}(h:(yt env scope).lookup x=some c):env.cells.lookup x=some c:=(Mw (bJ h)).1
theorem uc {α:Type}{x:Str}{c:α}:∀ {l:List (Str×α)},(x,c)∈l->∃ d,l.lookup x=some d
 | [],h=>by cases h
 | (n,a)::r,h=>by
  by_cases e:x=n
  ·subst e;exact⟨a,by simp⟩
  ·rcases ah.mp h with h|h
   ·cases h;exact absurd rfl e
   ·obtain⟨d,hd⟩:=uc h
    exact⟨d,by rw [a6,aW.mpr e];exact hd⟩
theorem Er {env:Env}{c:Addr}(hm:(x,NameKind.free)∈scope.names)(hc:env.cells.lookup x=some c):(yt env scope).lookup x=some c:=by
 have:(x,c)∈yt env scope:=by
  unfold yt
  rw [List.mem_reverse,bp]
  exact⟨(x,.free),hm,by rw [ai (by rfl),hc];rfl⟩
 obtain⟨d,hd⟩:=uc this
 have e:=kP hd
 rw [hc] at e;cases e
 exact hd
theorem wR {env:Env}{k:NameKind}(h:(relabel scope env).names.lookup x=some k):(x,k)∈scope.names∨(k=.cell/\(x,NameKind.free)∈scope.names):=by
 have hm:=bJ h
 unfold relabel at hm
 obtain⟨⟨n,k'⟩,h1,h2⟩:=ag.mp hm
 dsimp only at h2
 split at h2
 ·rename_i hc
  cases h2
  simp only [aX,cD] at hc
  obtain⟨⟨rfl,_⟩,_⟩:=hc
  exact .inr ⟨rfl,h1⟩
 ·cases h2;exact .inl h1
theorem u3 {env:Env}:∀ {names:List (Str×NameKind)}{x:Str},names.lookup x=some .free ->
  (names.map fun (n,k)=>if (k==NameKind.free&&env.scope.kind==.function&&env.kindOf n==some .cell) then (n,NameKind.cell) else (n,k)).lookup x=some .cell ∨
  (names.map fun (n,k)=>if (k==NameKind.free&&env.scope.kind==.function&&env.kindOf n==some .cell) then (n,NameKind.cell) else (n,k)).lookup x=some .free
 | [],_,h=>by simp at h
 | (n,k)::r,x,h=>by
  have ih:=@u3 env r x
  rw [aa]
  dsimp only
  cases hx:x==n with
  | true =>
   simp only [a6,hx] at h
   cases h
   split
   ·exact .inl (by simp [a6,hx])
   ·exact .inr (by simp [a6,hx])
  | false =>
   simp only [a6,hx] at h
   split
   ·simp only [a6,hx];exact ih h
   ·simp only [a6,hx];exact ih h
def lY (X:Cx)(scope:Scope)(C:Addr)(N:Lr)(s:Shared)(H:Hp)(fp:List Addr):Cx where
 prog:=X.prog
 w:=X.w
 K:=X.K
 mg:=X.mg
 base:=X.base
 A:=X.A
 N:=N
 s₀:=s
 H₀:=H
 env:=compEnvC scope (yt X.env scope) C X.env
 outer:=X.stack
 stack:=X.stack
 ex:=fp
 fn:=fun _=>false
 calm:=true
 pn:=[]
 xe:=fun _ _=>False
def lM (X:Cx)(scope:Scope):List (Nat×Str)->Prop
 | []=>True
 | (j,y)::r=>(X.N[j]?=some y/\(X.env.kindOf y=some .cell∨X.env.kindOf y=some .free)/\scope.names.lookup y=some .free)/\lM X scope r
theorem lM.at {X:Cx}{scope:Scope}:∀ {caps:List (Nat×Str)},lM X scope caps->∀ {i:Nat}{j:Nat}{y:Str},caps[i]?=some (j,y)->X.N[j]?=some y/\(X.env.kindOf y=some .cell∨X.env.kindOf y=some .free)/\scope.names.lookup y=some .free
 | [],_,_,_,_,h=>by simp at h
 | (_,_)::_,hc,0,_,_,h=>by simp at h;obtain⟨rfl,rfl⟩:=h;exact hc.1
 | (_,_)::_,hc,i+1,_,_,h=>lM.at hc.2 (i:=i) (by simpa using h)
def Aq (caps:List (Nat×Str))(σ:St):St:=caps.map fun p=>(σ[p.1]?).join
def qT (caps:List (Nat×Str))(ρ:fu):fu:=caps.map fun p=>(ρ[p.1]?).join
structure kE (scope:Scope) (x:Str):Prop where
 kind:scope.kind=.function
 Mx:∀ y∈scope.names,y.2≠.cell
 loc:∀ y∈scope.names,y.2=.local->scope.names.lookup y.1=some .local
 var:scope.names.lookup x=some .local
 has:True:=aO
section
theorem Uv (N0:Lr) {fp:List Addr}{C:Addr}{s':Shared} (I:fW X pins σ H s) (hc:X.calm=true) (S:kE scope x) (uM:∀ p∈scope.names,p.2=.free->∃ c,X.env.cells.lookup p.1=some c) (oS:lM X scope caps)
  (hf:∀ b∈fp,rW X pins H b) (Zx:∀ b∈fp,∃ o,s.heap.get? b=some o) (hC:(zB s)<=C) (k:∀ b o,s.heap.get? b=some o->s'.heap.get? b=some o) (Ua:s'.heap.Ns C fun _=>none) (O7:s'.os=s.os) (hg:AllBare s'.gens) :
  fW (lY X scope C (N0++caps.map (·.2)) s H fp) [] (N0.map (fun _=>none)++Aq caps σ) H s':=by
 have aaL:∀ b,b∈(lY X scope C (N0++caps.map (·.2)) s H fp).fs->b∈X.env.locals::X.fs:=fun b hb=>I.Cb b hb
 refine⟨⟨I.ok.mod,S.kind,I.ok.glob,I.ok.blt,hC,fun y z c e1 e2=>I.ok.inj y z c (kP e1) (kP e2),fun y hy=>?_,fun y c h=>(by cases h),fun _=>I.ok.hd hc,I.ok.frames,.inl rfl,fun b hb=>?_,I.bs,bH I.ok.RZ I.sz,fun b o e hb=>?_,fun b hb PN=>?_,I.stack,I.Iw⟩,
  O7,hg,Un.kept k,⟨_,Ua,fun i y v e1 e2 e3=>?_⟩,fun y c e=>?_,I.jd.fresh hC,fun y c e=>I.pH y c (kP e),fun p hp=>?_,I.jd.kept k,?_⟩
 ·have VZ:(relabel scope X.env).names.lookup y=some .cell∨(relabel scope X.env).names.lookup y=some .free:=hy
  have hm:(y,NameKind.free)∈scope.names:=by
   rcases VZ with h|h
   ·rcases wR h with h | ⟨_,h⟩
    ·exact absurd rfl (S.Mx _ h)
    ·exact h
   ·rcases wR h with h | ⟨h,_⟩
    ·exact h
    ·cases h
  obtain⟨c,hc⟩:=uM _ hm rfl
  exact⟨c,Er hm hc⟩
 ·obtain⟨f0,f1,f2,f3,f4,f5⟩:=hf b hb
  obtain⟨o,ho⟩:=Zx b hb
  refine⟨?_,fun y c e=>f4 y c (kP e)⟩
  show b≠C
  exact aP (aG (ay ho) hC)
 ·obtain⟨f0,f1,f2,f3,f4,f5⟩:=hf b hb
  have hb1:=I.bs b o e
  rcases f3 with h|h
  ·exact I.ok.LB b o e h
  ·have:=(I.ok.bs b o e).1
   exact absurd (aG (ay this) h) (a7 _)
 ·obtain⟨f0,f1,f2,f3,f4,f5⟩:=hf b hb
  rcases ah.mp (aaL b PN) with h|h
  ·exact f1 h
  ·exact f2 h
 ·by_cases hi:i<N0.length
  ·rw [bh (by simpa using hi),aC] at e2
   cases h:N0[i]? with
   | none=>rw [h] at e2;cases e2
   | some z=>rw [h] at e2;cases e2
  have hi:=dG hi
  have Sj:(caps.map (·.2))[i - N0.length]?=some y:=by
   rw [← aV hi];exact e1
  have e2':(Aq caps σ)[i - N0.length]?=some (some v):=by
   rw [aV (by simpa using hi)] at e2;simpa using e2
  rw [aC] at Sj
  obtain⟨⟨j,y'⟩,e4,e5⟩:=aj.mp Sj
  dsimp only at e5
  subst e5
  unfold Aq at e2'
  rw [aC,e4] at e2'
  have e6:(σ[j]?).join=some v:=by simpa using e2'
  have e7:σ[j]?=some (some v):=by
   cases q:σ[j]? with
   | none=>rw [q] at e6;cases e6
   | some o=>rw [q] at e6;cases o with
    | none=>cases e6
    | some v'=>cases e6;rfl
  obtain⟨c1,c2,c3⟩:=oS.at e4
  obtain⟨m,hn,hl⟩:=I.loc
  have hv:LA X.env.scope y':=by
   rcases c2 with h|h
   ·exact .inr (.inl h)
   ·exact .inr (.inr h)
  obtain⟨u,r,l⟩:=hl j y' v c1 e7 hv
  refine⟨u,r,.inr ⟨?_,?_⟩⟩
  ·exact u3 c3
  ·rcases l with ⟨hk,_⟩ | ⟨_,c,hc,rq⟩
   ·rcases c2 with h|h
    ·rw [hk] at h;cases h
    ·rw [hk] at h;cases h
   ·refine⟨c,Er (bJ c3) hc,?_⟩
    obtain⟨o,ho,hd⟩:=rq
    exact⟨o,k _ _ ho,hd⟩
 ·obtain⟨v,o,ho,hd⟩:=I.cell y c (kP e)
  exact⟨v,o,k _ _ ho,hd⟩
 ·exact absurd (show p∈([]:Ax) from hp) (by simp)
 ·show (N0.map (fun _=>none)++Aq caps σ).length=(N0++caps.map (·.2)).length
  simp [Aq]
def PTs (X:Cx)(ifs:Lx)(t:TT):Prop :=
 ∀ ⦃pins:Ax⦄ (s:Shared) (σ:St) (H:Hp) (Q:Bool->Hp->Prop),fW X pins σ H s->t σ H Q ->
  (zw X) (forIn ifs true fun c r=>if r=true then do let ok ← isTrue c X.env (eval c X.env);pure (ForInStep.yield ok) else pure (ForInStep.yield r)) (TP X pins σ Q) X.xe s
def xq (X:Cx)(ifs:Lx)(g:fu->Option Bool):Prop:=PTs X ifs (tDT X.K g)
theorem ke:xq X [] (fun _=>some true):=fun pins s σ H Q I ⟨ρ,b,hs,e,k⟩=>by
 cases e
 rw [d8]
 exact aw ⟨H,I,k H (.refl H)⟩
theorem qy {c:Expr}(h:Gb X c g):xq X [c] g:=fun pins s σ H Q I q=>by
 rw [dP]
 rw [ai rfl]
 refine ab (ab (jl (@h pins s σ H Q I q) fun b s1 q1=>aw ?_))
 show wpAny _ _ (forIn ([]:Lx) b _) _ _ s1
 rw [d8]
 exact aw q1
def iE (g:fu->Option Bool)(f:fu->Od)(ρc:fu):Lp->Option Lp
 | []=>some []
 | d::ds=>(g (some d::ρc)).bind fun b=>if b then (f (some d::ρc)).bind fun y=>(iE g f ρc ds).bind fun ys=>some (y::ys) else iE g f ρc ds
def iL (q:fu->Option Lp)(caps:List (Nat×Str))(g:fu->Option Bool)(f:fu->Od):fu->Od:=fun ρ =>
 (q ρ).bind fun ds=>if ds.length<=sizeLine then (iE g f (qT caps ρ) ds).map .list else none
theorem ka.cap {K:Fg}(h:ka K H σ ρ)(N0:Lr)(caps:List (Nat×Str)):ka K H (N0.map (fun _=>none)++Aq caps σ) (N0.map (fun _=>none)++qT caps ρ):=by
 refine⟨by simp [Aq,qT],fun i d q=>?_⟩
 by_cases hi:i<N0.length
 ·rw [bh (by simpa using hi),aC] at q
  cases h:N0[i]? with
  | none=>rw [h] at q;cases q
  | some z=>rw [h] at q;cases q
 have hi:=dG hi
 rw [aV (by simpa using hi),ae] at q ⊢
 unfold qT at q
 rw [aC] at q
 obtain⟨⟨j,y⟩,e4,e5⟩:=aj.mp q
 dsimp only at e5
 have e6:ρ[j]?=some (some d):=by
  cases q:ρ[j]? with
  | none=>rw [q] at e5;cases e5
  | some o=>rw [q] at e5;cases o with
   | none=>cases e5
   | some v'=>cases e5;rfl
 obtain⟨v,e7,e8⟩:=h.2 j d e6
 refine⟨v,?_,e8⟩
 unfold Aq
 rw [aC,e4]
 simp [e7]
theorem ka.less {K:Fg}{p c:fu}{N0:Lr}(h:ka K H σ (p++c))(hp:p.length=N0.length):ka K H σ (N0.map (fun _=>none)++c):=by
 refine⟨by rw [h.1];simp [hp],fun i d q=>?_⟩
 by_cases hi:i<N0.length
 ·rw [bh (by simpa using hi),aC] at q
  cases h:N0[i]? with
  | none=>rw [h] at q;cases q
  | some z=>rw [h] at q;cases q
 have hi:=dG hi
 rw [aV (by simpa using hi),ae] at q
 exact h.2 i d (by rw [aV (by omega),hp];exact q)
theorem Cz {prog:Program}{elt target iter:Expr}{ifs:Lx}{it acc:Value}{env:Env} (I:Nat->Shared->Prop)
  (turn:∀ n s,I n s->wpAny (model prog w) A (pyNext it) (fun r s₁=>match r with
   | none=>R (.ok .next) s₁
   | some v=>wpAny (model prog w) A (letOwnedTupleGo target it v) (fun _ s₁=>wpAny (model prog w) A (assign target env v) (fun _ s₂ =>
     wpAny (model prog w) A (forIn ifs true fun c r=>if r=true then do let ok ← isTrue c env (eval c env);pure (ForInStep.yield ok) else pure (ForInStep.yield r)) (fun ok s₃ =>
      if ok=true then wpAny (model prog w) A (eval elt env) (fun x s₄ =>
       wpAny (model prog w) A (call (.builtin "list.append") [acc,x]) (fun _ s₅=>∃ m,m<n/\I m s₅) (fun _ _=>False) s₄) (fun _ _=>False) s₃
      else ∃ m,m<n/\I m s₃) (fun _ _=>False) s₂) (fun _ _=>False) s₁) (fun _ _=>False) s₁) (fun _ _=>False) s)
  (n:Nat) (h:I n s) :
  codeAny (model prog w) A (.compLoop (.ListComp elt [⟨target,iter,ifs,0⟩] scope pos) 0 it acc env) R s:=by
 refine codeAny_loop rfl I (fun n s hI=>?_) n h
 show wpAny _ A ((compTurn (.ListComp elt [⟨target,iter,ifs,0⟩] scope pos) 0 it acc env).onRaise (fun x=>do noteFrame x env;theTreesLotGoes x)) _ _ s
 refine wpAny_noted ?_
 rw [compTurn_list]
 refine ab (wpAny_standAt (ab (bR (turn n s hI) (fun r s₁ h₁=>?_) fun _ _ z=>False.elim z)))
 cases r with
 | none=>exact aw h₁
 | some v =>
  refine ab (bR h₁ (fun _ s₁ h₁=>?_) fun _ _ z=>False.elim z)
  refine ab (bR h₁ (fun _ s₂ h₂=>ab (bR h₂ (fun ok s₃ h₃=>?_) fun _ _ z=>False.elim z)) fun _ _ z=>False.elim z)
  cases ok with
  | false=>exact aw ⟨rfl,h₃⟩
  | true =>
   exact ab (ab (bR h₃ (fun x s₄ h₄=>ab (bR h₄ (fun _ s₅ h₅=>aw (aw ⟨rfl,h₅⟩)) fun _ _ z=>False.elim z)) fun _ _ z=>False.elim z))
def sd (its:Lw)(n:Nat):Obj:=(zl its.toArray n)
def Ki (X:Cx)(e:Expr)(scope:Scope)(iter:Expr)(t:TE):Prop :=
 ∀ (pins:Ax) (s:Shared) (σ:St) (H:Hp) (Q:VK) (R:Value->Addr->Result->Shared->Prop),fW X pins σ H s->t σ H Q ->
  (∀ (D C:Addr) (s9:Shared) (H9:Hp) (oC:Obj) (m:Str->Ow),fW X ((C,oC)::pins) σ H9 s9->s9.heap.Ns C m->(∀ p∈X.pn++pins,p.1≠C)->(zB X.s₀)<=C->Q (.ref D) H9->R (.ref D) C (.ok .next) s9) ->
  (zw X) (eval iter X.env) (fun xv s₁=>(zw X) (pyIter xv) (fun it s₂=>(zw X) (newList []) (fun acc s₃ =>
   (zw X) (newFunctionEnv scope X.env.globals (yt X.env scope) [] X.env.qual none .none (some X.env)) (fun Xo s₄ =>
    codeAny (model X.prog X.w) X.A (.compStart e 0 it acc { Xo with scope:=relabel scope X.env }) (R acc Xo.locals) s₄) X.xe s₃) X.xe s₂) X.xe s₁) X.xe s
theorem fW.yu {C:Addr}{oC:Obj}{h':Heap}(I:fW X ((C,oC)::pins) σ H s)(hp:∀ p∈X.pn++pins,p.1≠C)(hz:(zB X.s₀)<=C)(hs:Heap.SameBut C s.heap h'):fW X pins σ H { s with heap:=h' }:=by
 have hC:=I.pin (C,oC) (by simp)
 have J:fW X pins σ H s:=I.qL fun p hq=>I.pin p (aq _ (af _ hq))
 refine J.turned (t':=s.toks) (it:=C) (fun b o hb e=>(hs.2 b hb).trans e) hC.2.1 hC.2.2.1 (.inr hz) (fun y c e z=>?_) hp
 obtain⟨v,o,ho,hd⟩:=J.cell y c e
 rw [z,hC.1] at ho
 cases ho
 exact hC.2.2.2.2 v hd
theorem Bn {r:fu->Lp->Option Lp}(ρ:fu)(d:PyData)(h:((q ρ).bind fun ds=>if ds.length<=sizeLine then (r ρ ds).map PyData.list else none)=some d):∃ ds ys,q ρ=some ds/\ds.length<=sizeLine/\r ρ ds=some ys/\d=.list ys:=by
 obtain⟨ds,e1,e2⟩:=bind_some h
 by_cases hz:ds.length<=sizeLine
 ·rw [ai hz] at e2
  obtain⟨ys,e3,e4⟩:=aj.mp e2
  exact⟨ds,ys,e1,hz,e3,e4.symm⟩
 ·rw [ao hz] at e2;cases e2
theorem IW {b:Bool}{o:Od}{r:Option Lp}{ys:Lp}(h:(if b then o.bind fun y=>r.bind fun ys=>some (y::ys) else r)=some ys):if b=true then ∃ y zs,o=some y/\r=some zs/\ys=y::zs else r=some ys:=by
 cases b with
 | false=>exact h
 | true =>
  obtain⟨y,e1,e2⟩:=bind_some h
  obtain⟨zs,e3,e4⟩:=bind_some e2
  cases e4
  exact⟨y,zs,e1,e3,rfl⟩
theorem GL (c:fu)(d:PyData)(ds ys:Lp)(h:iE g f c (d::ds)=some ys):∃ p b,p.length=1/\IV 0 d ([none]++c)=some (p++c)/\g (p++c)=some b/\if b=true then ∃ y zs,f (p++c)=some y/\iE g f c ds=some zs/\ys=y::zs else iE g f c ds=some ys:=by
 obtain⟨b,eb,e⟩:=bind_some h
 exact⟨[some d],b,rfl,rfl,eb,IW e⟩
set_option maxHeartbeats 4000000 in
theorem Es (A:Hp->Hp->Lp->List V->Prop) (PQ:∀ {b G:Hp}{ds:Lp}{vs:List V},A b G ds vs->ds.length=vs.length) (AS:∀ {b G G':Hp}{ds:Lp}{vs:List V},A b G ds vs->fV G G'->A b G' ds vs) {elt iter:Expr}  (N0:Lr)  {ifs:Lx}     {dd:fu->Od}{bd:BD} (cmp:fu->Lp->Option Lp)
  (hc:X.calm=true) (S:kE scope x) (uM:∀ p∈scope.names,p.2=.free->∃ c,X.env.cells.lookup p.1=some c) (oS:lM X scope caps)
  (hi:Ls X tg iter q)
  (hg:∀ C s H fp,Zw (lY X scope C (N0++caps.map (·.2)) s H fp) tg bd)
  (ht:∀ C s H fp,xq (lY X scope C (N0++caps.map (·.2)) s H fp) ifs g)
  (he:∀ C s H fp,PE (lY X scope C (N0++caps.map (·.2)) s H fp) elt (fun σ G Q=>∃ ρ yd,ka X.K G σ ρ/\f ρ=some yd/\∀ v G',fV G G'->(∀ b ds vs,A b G ds vs->A b G' (ds++[yd]) (vs++[v]))->Q v G'))
  (Ai:∀ ρ d,dd ρ=some d->∃ ds ys,q ρ=some ds/\ds.length<=sizeLine/\cmp (qT caps ρ) ds=some ys/\d=.list ys) (h0:∀ c ys,cmp c []=some ys->ys=[])
  (h1:∀ c d ds ys,cmp c (d::ds)=some ys->∃ p b,p.length=N0.length/\bd d (N0.map (fun _=>none)++c)=some (p++c)/\g (p++c)=some b/\if b=true then ∃ y zs,f (p++c)=some y/\cmp c ds=some zs/\ys=y::zs else cmp c ds=some ys) :
  Ki X (.ListComp elt [⟨tg,iter,ifs,0⟩] scope pos) scope iter (fun σ H Q=>∃ ρ d,ka X.K H σ ρ/\dd ρ=some d/\A H H [] []/\∀ ys G D vs,d=.list ys->fV H G->G D=none->A H G ys vs->Q (.ref D) (upd G D (.lst vs))):=by
 intro pins s σ H Q R I ⟨ρ,d,Zy,e,hA0,k⟩ fin
 obtain⟨ds,ys,e1,hz,e3,rfl⟩:=Ai ρ d e
 refine jl (@hi pins s σ H (fun J H'=>fV H H'/\GK X.K J ds H') I ⟨ρ,ds,Zy,e1,fun J H' s' w=>⟨s',w⟩⟩) fun v sA hA=>jl hA fun Zk s2 ⟨it,fp,tn,J,H2,eit,I2,T,Zl,f2,My,wd⟩=>?_
 subst eit
 have aaM:=Zy.same My
 refine cM (wpAny_newFunctionEnv S.Mx (by intro y hy;simp at hy) (fun h₁ PR Mz=>?_) S.kind)
 dsimp only at PR Mz ⊢
 generalize hH2:s2.heap.push { cls:=.type "list",dict:=none,data:=.seq ([]:Lw).toArray }=Kd at PR Mz ⊢
 have hCs:Kd.objs.size=(zB s2)+1:=by rw [← hH2,d6]
 generalize hC:Kd.objs.size=C at PR Mz hCs ⊢
 generalize hD:(zB s2)=D at hCs ⊢
 have hDC:D≠C:=by omega
 have MA:(zB s2)<=C:=by omega
 have old:∀ b o,s2.heap.get? b=some o->h₁.get? b=some o:=fun b o e=>by
  have hb:=ay e
  exact Mz.extBut b o (aP (aG hb MA)) (ak _ (hH2▸ak _ e))
 have hD1:h₁.get? D=some (sd [] 0):=by
  refine Mz.extBut _ _ hDC (ak _ (hH2▸?_))
  rw [← hD]
  exact aF _ rfl
 have Zx:∀ b∈fp,∃ o,s2.heap.get? b=some o:=fun b hb=>by
  obtain⟨o,ho,_⟩:=T.obj 0 _ Zl b hb
  exact⟨o,ho⟩
 have I3:fW (lY X scope C (N0++caps.map (·.2)) s2 H2 fp) [] (N0.map (fun _=>none)++Aq caps σ) H2 { s2 with heap:=h₁,toks:=s2.toks+([]:List (Str×Value)).length } :=
  Uv N0 I2 hc S uM oS f2 Zx MA old PR rfl I2.bare
 have fpD:∀ b∈fp,b≠D/\b≠C:=fun b hb=>by
  obtain⟨o,ho⟩:=Zx b hb
  have:=ay ho
  exact⟨aP (hD▸this),aP (aG this MA)⟩
 have aaN:∀ (X':Cx),X'=lY X scope C (N0++caps.map (·.2)) s2 H2 fp->∀ {G:Hp}{σ':St}{s':Shared}{its:Lw}{n:Nat},fW X' [(D,sd its n)] σ' G s' ->
   ∀ {t':Nat}{h':Heap}{its':Lw}{n':Nat},(∀ b o,b≠D->s'.heap.get? b=some o->h'.get? b=some o)->h'.get? D=some (sd its' n')->fW X' [(D,sd its' n')] σ' G { s' with heap:=h',toks:=t' }:=by
  intro X' hX G σ' s' its n J1 t' h' its' n' kk hD'
  have hp:=J1.pin (D,sd its n) (by simp)
  have J2:fW X' [] σ' G s':=J1.qL fun p hp=>by cases hp
  have J3:fW X' [] σ' G { s' with heap:=h',toks:=t' }:=by
   refine J2.turned (it:=D) (fun b o hb e=>kk b o hb e) hp.2.1 hp.2.2.1 (.inr ?_) (fun y c e z=>?_) (fun p hp=>?_)
   ·subst hX;show (zB s2)<=D;omega
   ·obtain⟨v,o,ho,hd⟩:=J2.cell y c e
    rw [z,hp.1] at ho
    cases ho
    have LF:(sd its n).data=.cell v:=hd
    cases LF
   ·subst hX
    exact absurd (show p∈([]:Ax)++[] from hp) (by simp)
  refine J3.qL fun p Kd=>?_
  have:p=(D,sd its' n'):=by simpa using Kd
  subst this
  exact⟨hD',hp.2.1,hp.2.2.1,hp.2.2.2.1,fun v z=>by
   have z':(sd its' n').data=.cell v:=z
   cases z'⟩
 have aaO:D∉Ga X.stack:=fun hb=>by
  obtain⟨_,o,ho,_⟩:=I2.stack.mem hb
  have:=ay ho
  exact absurd this (by rw [hD];exact a7 _)
 have I4:fW (lY X scope C (N0++caps.map (·.2)) s2 H2 fp) [(D,sd [] 0)] (N0.map (fun _=>none)++Aq caps σ) H2 { s2 with heap:=h₁,toks:=s2.toks+([]:List (Str×Value)).length }:=by
  refine I3.qL fun p hp=>?_
  have:p=(D,sd [] 0):=by simpa using hp
  subst this
  exact⟨hD1,I2.jd.fresh (by omega),hDC,aaO,fun v z=>by
   have z':(sd [] 0).data=.cell v:=z
   cases z'⟩
 have st4:tn 0 h₁:=T.keep 0 _ _ Zl fun b hb o e=>old b o e
 let X':=lY X scope C (N0++caps.map (·.2)) s2 H2 fp
 have stat:∀ {G:Hp}{pl:Ax},(∀ p∈pl,p.1=D)->(∀ b∈fp,G b=none)->∀ b∈fp,rW X' pl G b:=fun {G pl} tq hn b hb=>by
  obtain⟨f0,f1,f2',f3,f4,f5⟩:=f2 b hb
  refine⟨hn b hb,(fpD b hb).2,fun z=>?_,.inl hb,fun y c e=>f4 y c (kP e),fun p hp z=>?_⟩
  ·rcases ah.mp (I2.Cb b z) with h|h
   ·exact f1 h
   ·exact f2' h
  ·have Uw:p∈pl:=by simpa [X',lY] using hp
   exact(fpD b hb).1 (by rw [← z];exact tq p Uw)
 have loop:∀ s₃:Shared,s₃={ s2 with heap:=h₁,toks:=s2.toks+([]:List (Str×Value)).length } ->
   codeAny (model X.prog X.w) X.A (.compLoop (.ListComp elt [⟨tg,iter,ifs,0⟩] scope pos) 0 (.ref it) (.ref D) (compEnvC scope (yt X.env scope) C X.env))
    (R (.ref D) C) s₃:=by
  rintro s₃ rfl
  refine Cz (fun n s'=>∃ (i:Nat) (σ':St) (G:Hp) (its:Lw) (vs:List V) (m:Nat) (done:Lp) (Zz:Lp),fW X' [(D,sd its m)] σ' G s'/\tn i s'.heap/\(∀ b∈fp,G b=none)/\fV H2 G/\ka X.K G σ' (N0.map (fun _=>none)++qT caps ρ) /\
    gE vs its/\A H G done vs/\done.length<=i/\i<=ds.length/\cmp (qT caps ρ) (ds.drop i)=some Zz/\ys=done++Zz/\n=ds.length - i) ?_ ds.length
   ⟨0,_,H2,[],[],0,[],ys,I4,st4,fun b hb=>(f2 b hb).1,.refl _,aaM.cap N0 caps,.nil,AS hA0 My,aD _,cW _,by simpa using e3,rfl,by simp⟩
  rintro n s' ⟨i,σ',G,its,vs,m,done,Zz,JJ,st,fr,sG,aaP,rv,PU,hdi,hil,e5,e6,rfl⟩
  obtain⟨w1,w2⟩:=wd G sG
  by_cases qt:i<ds.length
  ·
   have hd:ds[i]?=some ds[i]:=aE qt
   obtain⟨w3,w4⟩:=w2 i _ hd
   rw [cb qt] at e5
   obtain⟨pr,b,Sk,ebd,eb,e7⟩:=h1 _ _ _ _ e5
   refine jl (T.item X' rfl rfl rfl rfl i _ s' σ' G (fun _ _=>False) JJ (stat (by simp) fr) st w3) fun r s5 ⟨u,hr,h5⟩=>?_
   subst hr
   refine jl h5 fun _ s6 ⟨y,G6,J6,r6,y6,st6,fr6⟩=>?_
   obtain⟨s7,i7⟩:=w4 y G6 y6
   have aaQ:=stat (G:=G6) (pl:=[(D,sd its m)]) (by simp) fr6
   have J6':=J6.pinned aaQ (T.obj _ _ st6)
   have Xp:ka X.K G6 σ' (N0.map (fun _=>none)++qT caps ρ):=aaP.same s7
   refine jl (hg C s2 H2 fp s6 σ' G6 y u (fun σ8 H8=>fV G6 H8/\ka X.K H8 σ8 (pr++qT caps ρ)) J6' r6 ⟨_,ds[i],pr++qT caps ρ,Xp,i7,ebd,fun σ8 H8 s8 h8=>⟨s8,h8⟩⟩) fun _ s8 ⟨σ8,G8,J8,IX,PY⟩=>?_
   refine jl (ht C s2 H2 fp s8 σ8 G8 (fun c H9=>c=b/\fV G8 H9) J8 ⟨_,b,PY,eb,fun H9 s9=>⟨rfl,s9⟩⟩) fun ok s9 ⟨G9,J9,⟨jd,yv⟩⟩=>?_
   subst jd
   have Sl:∀ {σ7:St}{G7:Hp}{s7:Shared}{pl:Ax},fW X' (pl++x8 fp s6.heap) σ7 G7 s7->tn (i+1) s7.heap/\∀ b∈fp,G7 b=none:=fun {σ7 G7 s7 pl} J7=>by
    refine⟨T.keep _ _ _ st6 fun b hb o e=>(J7.pin (b,o) (aq _ (aq _ (qO hb e)))).1,fun b hb=>?_⟩
    obtain⟨o,e,d⟩:=T.obj _ _ st6 b hb
    exact(J7.pin (b,o) (aq _ (aq _ (qO hb e)))).2.1
   cases ok with
   | false =>
    rw [ao aQ] at e7 ⊢
    obtain⟨k1,k2⟩:=Sl J9
    exact⟨ds.length - (i+1),by omega,i+1,σ8,G9,its,vs,m,done,Zz,J9.rX,k1,k2,sG.trans (s7.trans (IX.trans yv)),(PY.less Sk).same yv,rv,AS PU (s7.trans (IX.trans yv)),by omega,qt,e7,e6,rfl⟩
   | true =>
    rw [ai rfl] at e7 ⊢
    obtain⟨yd,ys2,e8,e10,rfl⟩:=e7
    refine jl (he C s2 H2 fp s9 σ8 G9 (fun v H10=>fV G9 H10/\∀ b ds vs,A b G9 ds vs->A b H10 (ds++[yd]) (vs++[v])) J9 ⟨_,yd,PY.same yv,e8,fun v H10 ZA i10=>⟨ZA,i10⟩⟩) fun u10 ZA ⟨v10,G10,J10,r10,MB,i10⟩=>?_
    obtain⟨k1,k2⟩:=Sl J10
    have J11:fW X' [(D,sd its m)] σ8 G10 ZA:=J10.rX
    have ZC:=J11.pin (D,sd its m) (by simp)
    have hlen:its.length<=sizeLine:=by
     have h1:=rv.length
     have h2:=PQ PU
     omega
    refine wpAny_list_append_plain (hsz:=by rw [ax];exact hlen) ⟨m,ZC.1⟩ fun h12 ⟨n12,aaR⟩ Xq=>?_
    have J12:=aaN X' rfl J11 (t':=ZA.toks) (h':=h12) (its':=its++[u10]) (n':=n12) (fun b o hb e=>(Xq.2 b hb).trans e) (by rw [aaR];simp [sd])
    refine⟨ds.length - (i+1),by omega,i+1,σ8,G10,its++[u10],vs++[v10],n12,done++[yd],ys2,J12,?_,k2,sG.trans (s7.trans (IX.trans (yv.trans MB))),(PY.less Sk).same (yv.trans MB),rv.append (.cons r10 .nil),i10 _ _ _ (AS PU (s7.trans (IX.trans yv))),by simp;omega,qt,e10,by simp [e6],rfl⟩
    exact T.keep _ _ _ k1 fun b hb o e=>(Xq.2 b (fpD b hb).1).trans e
  ·
   have hiL:i=ds.length:=by omega
   subst hiL
   rw [List.drop_length] at e5
   cases h0 _ _ e5
   rw [aS] at e6
   subst e6
   refine jl (T.done X' rfl rfl rfl rfl _ _ s' σ' G (fun _ _=>False) JJ (stat (by simp) fr) st w1) fun r s9 ⟨hr,J9⟩=>?_
   subst hr
   have ZC:=J9.pin (D,sd its m) (by simp)
   obtain⟨mC,hnC,_⟩:=J9.loc
   have Wb:G D=none:=ZC.2.1
   have hGC:G C=none:=J9.free
   have Ub:um X.prog X.w (upd G D (.lst vs)) s9.heap:=fun a o e=>by
    by_cases ha:a=D
    ·subst ha
     rw [gp] at e;cases e
     have h1:=rv.length
     have h2:=PQ PU
     exact⟨by omega,its,m,rv,ZC.1⟩
    ·rw [fU ha] at e
     exact(J9.jd a o e).xn (fun c w' hcc q=>q) (fun c q=>by rw [fU (gP q Wb)];exact q) fun c xs q=>by rw [fU (gP q Wb)];exact q
   have ne2:∀ b o,s2.heap.get? b=some o->b≠C/\b≠D:=fun b o e=>by
    have:=ay e
    exact⟨aP (aG this MA),aP (hD▸this)⟩
   have un:Un (Ga X.stack) fp H2 (upd G D (.lst vs)) s2.heap s9.heap:=by
    have B:=J9.base
    refine⟨fun b o e n hb hx=>B.keep b o e n hb hx,fun b o e n hb hx=>B.slot b o e n hb hx,fun b o e n hx=>by rw [fU (ne2 b o e).2];exact B.free b o e n hx,fun b o e hx=>B.there b o e hx,fun b xs e=>by rw [fU (gP (B.rT b xs e) Wb)];exact B.rT b xs e,
     fun b o u e=>by rw [fU (gP (B.uo b o u e) Wb)];exact B.uo b o u e,fun b ps e=>?_⟩
    obtain⟨mm,e1⟩:=B.vP b ps e
    exact⟨mm,by rw [fU (gP e1 Wb)];exact e1⟩
   have I9:fW X pins σ (upd G D (.lst vs)) s9:=I2.WB (s':=s9) (ch:=fp) J9.os un Ub J9.bare (fun b hb=>by
    obtain⟨f0,f1,f2',f3,f4,f5⟩:=f2 b hb
    exact⟨f3,f1,f4,f5⟩)
   have OF:∀ p∈X.pn++pins,p.1≠C:=fun p hp=>(ne2 p.1 p.2 (I2.pin p hp).1).1
   have hCz:(zB X.s₀)<=C:=bH I2.sz MA
   obtain⟨oC,es,ep,hoC,rC⟩:=hnC
   have aaS:C∉X.fs:=fun hb=>by
    have h1:=J9.ok.LC
    have:C∈Ga X.stack:=by
     rcases I2.ok.Ww with z | ⟨z,_⟩
     ·rw [z];exact hb
     ·rw [z]
      obtain⟨a,h1,h2⟩:=bp.mp hb
      exact bp.mpr ⟨a,af _ h1,h2⟩
    obtain⟨_,o,ho,_⟩:=I2.stack.mem this
    exact(ne2 C o ho).1 rfl
   have hCL:C≠X.env.locals:=fun z=>by
    obtain⟨mL,hnL,_⟩:=I2.loc
    obtain⟨oL,_,_,hoL,_⟩:=hnL
    exact(ne2 _ oL hoL).1 z.symm
   refine fin D C s9 _ oC mC (I9.qL fun p hp=>?_) ⟨oC,es,ep,hoC,rC⟩ OF hCz (k _ _ D _ rfl (My.trans sG) Wb PU)
   rcases ah.mp hp with z|z
   ·subst z
    refine⟨hoC,by rw [fU (Ne.symm hDC)];exact hGC,hCL,aaS,fun v z=>?_⟩
    rw [rC.1] at z;cases z
   ·exact I9.pin p (aq _ z)
 exact codeAny_compStart_list (loop _ rfl) (T.self X.A 0 _ _ _ st4 (loop _ rfl))
theorem yw (A:Hp->Hp->Lp->List V->Prop) (PQ:∀ {b G:Hp}{ds:Lp}{vs:List V},A b G ds vs->ds.length=vs.length) (AS:∀ {b G G':Hp}{ds:Lp}{vs:List V},A b G ds vs->fV G G'->A b G' ds vs) {elt iter:Expr}{px:Pos}{ifs:Lx}     
  (hc:X.calm=true) (S:kE scope x) (uM:∀ p∈scope.names,p.2=.free->∃ c,X.env.cells.lookup p.1=some c) (oS:lM X scope caps) (yp:(x::caps.map (·.2)).Nodup)
  (hi:Ls X (.Name x px) iter q)
  (ht:∀ C s H fp,xq (lY X scope C (x::caps.map (·.2)) s H fp) ifs g)
  (he:∀ C s H fp,PE (lY X scope C (x::caps.map (·.2)) s H fp) elt (fun σ G Q=>∃ ρ yd,ka X.K G σ ρ/\f ρ=some yd/\∀ v G',fV G G'->(∀ b ds vs,A b G ds vs->A b G' (ds++[yd]) (vs++[v]))->Q v G')) :
  Ki X (.ListComp elt [⟨.Name x px,iter,ifs,0⟩] scope pos) scope iter (fun σ H Q=>∃ ρ d,ka X.K H σ ρ/\iL q caps g f ρ=some d/\A H H [] []/\∀ ys G D vs,d=.list ys->fV H G->G D=none->A H G ys vs->Q (.ref D) (upd G D (.lst vs))):=
 Es A PQ AS [x] (iE g f) hc S uM oS hi (fun C s H fp=>yq 0 yp rfl (.inl (bU S.var)) (.inr (bU S.var))) ht he Bn (fun _ _ e=>by cases e;rfl) GL
theorem IY {elt:Expr}{X':Cx}(h:PD X' elt f)(hK:X'.K=X.K):PE X' elt (fun σ G Q=>∃ ρ yd,ka X.K G σ ρ/\f ρ=some yd/\∀ v G',fV G G'->(∀ (b:Hp) ds vs,fz X.K G ds vs->fz X.K G' (ds++[yd]) (vs++[v]))->Q v G') :=
 PE.imp h fun σ G Q ⟨ρ,yd,hs,e,k⟩=>⟨ρ,yd,by rw [hK];exact hs,e,fun v G' s i=>k v G' s fun _ _ _ j=>(j.same s).append (fz.cons (by rw [hK] at i;exact i) fz.nil)⟩
theorem Ki.data {iter:Expr}{dd:fu->Od}(h:Ki X e scope iter (fun σ H Q=>∃ ρ d,ka X.K H σ ρ/\dd ρ=some d/\fz X.K H [] []/\∀ ys G D vs,d=.list ys->fV H G->G D=none->fz X.K G ys vs->Q (.ref D) (upd G D (.lst vs)))):Ki X e scope iter (tD X.K dd) :=
 fun pins s σ H Q R I ⟨ρ,d,Zy,e,k⟩ fin=>h pins s σ H Q R I ⟨ρ,d,Zy,e,fz.nil,fun ys G D vs ed sm hD id=>k _ _ (sm.trans (kO hD)) (by rw [ed];exact Em hD id)⟩ fin
theorem IZ {elt iter:Expr}{px:Pos}{ifs:Lx}     
  (hc:X.calm=true) (S:kE scope x) (uM:∀ p∈scope.names,p.2=.free->∃ c,X.env.cells.lookup p.1=some c) (oS:lM X scope caps) (yp:(x::caps.map (·.2)).Nodup)
  (hi:Ls X (.Name x px) iter q)
  (ht:∀ C s H fp,xq (lY X scope C (x::caps.map (·.2)) s H fp) ifs g)
  (he:∀ C s H fp,PD (lY X scope C (x::caps.map (·.2)) s H fp) elt f):Ki X (.ListComp elt [⟨.Name x px,iter,ifs,0⟩] scope pos) scope iter (tD X.K (iL q caps g f)):=
 (yw (fun _ G ds vs=>fz X.K G ds vs) fz.length (fun h s=>h.same s) hc S uM oS yp hi ht fun C s H fp=>IY (he C s H fp) rfl).data
theorem Ki.pe {elt iter:Expr}{px:Pos}{ifs:Lx}{t:TE} (h:Ki X (.ListComp elt [⟨.Name x px,iter,ifs,0⟩] scope pos) scope iter t) (S:kE scope x) (uM:∀ p∈scope.names,p.2=.free->∃ c,X.env.cells.lookup p.1=some c)
  (hs:∀ x,foldedSetIterable iter X.env x=pure x:=by intro _;rfl):PE X (.ListComp elt [⟨.Name x px,iter,ifs,0⟩] scope pos) t:=by
 intro pins s σ H Q I hQ
 rw [eval_ListComp]
 refine cU (use:=none) rfl hs (qf uM) S.kind S.loc (@h pins s σ H Q (compPost (model X.prog X.w) X.A X.xe none (EP X pins σ Q)) I hQ ?_)
 intro D C s9 H9 oC m I9 hn hp hz q
 exact⟨m,hn,fun h' lZ=>⟨.ref D,H9,I9.yu hp hz lZ,rfl,q⟩⟩
theorem PZ {elt iter:Expr}{px:Pos}{ifs:Lx}     
  (hc:X.calm=true) (S:kE scope x) (uM:∀ p∈scope.names,p.2=.free->∃ c,X.env.cells.lookup p.1=some c) (oS:lM X scope caps) (yp:(x::caps.map (·.2)).Nodup)
  (hi:Ls X (.Name x px) iter q)
  (ht:∀ C s H fp,xq (lY X scope C (x::caps.map (·.2)) s H fp) ifs g)
  (he:∀ C s H fp,PD (lY X scope C (x::caps.map (·.2)) s H fp) elt f)
  (hs:∀ x,foldedSetIterable iter X.env x=pure x:=by intro _;rfl):PD X (.ListComp elt [⟨.Name x px,iter,ifs,0⟩] scope pos) (iL q caps g f) :=
 (IZ hc S uM oS yp hi ht he).pe S uM hs
theorem CA {y:Str}{py se:Pos}{elt iter:Expr}{px:Pos}{ifs:Lx}{t:TE} (h:Ki X (.ListComp elt [⟨.Name x px,iter,ifs,0⟩] scope pos) scope iter t) (S:kE scope x) (uM:∀ p∈scope.names,p.2=.free->∃ c,X.env.cells.lookup p.1=some c)
  (hN:X.N.Nodup) (hi:X.N[i]?=some y) (hy:X.env.scope.names.lookup y=some .local) (Ux:swapsWith (.ListComp elt [⟨.Name x px,iter,ifs,0⟩] scope pos) (some (.Name y py)) se.line X.env=pure true)
  (hs:∀ x,foldedSetIterable iter X.env x=pure x:=by intro _;rfl):PS X (.Assign [.Name y py] (.ListComp elt [⟨.Name x px,iter,ifs,0⟩] scope pos) se) (Tv t (Iz i)):=by
 intro pins s σ H D I hQ
 rw [exec_Assign_Name_used _ _ _ _ Ux]
 refine ab (wpAny_standAt (ab ?_))
 show wpAny _ X.A (do let _ ← comprehension (.ListComp elt [⟨.Name x px,iter,ifs,0⟩] scope pos) scope X.env _ (newList []) false (eval iter X.env) (some (assign (.Name y py) X.env))) _ _ s
 refine ab (bR (cU (use:=some (assign (.Name y py) X.env)) (Q:=fun _ s'=>SP X pins D .next s') rfl hs (qf uM) S.kind S.loc
  (@h pins s σ H _ (compPost (model X.prog X.w) X.A X.xe (some (assign (.Name y py) X.env)) (fun _ s'=>SP X pins D .next s')) I hQ ?_)) (fun _ s' hq=>aw (aw hq)) fun _ _ e=>e)
 intro Da C s9 H9 oC m I9 hn hp hz q
 show wpAny _ X.A (assign (.Name y py) X.env (.ref Da)) _ _ _
 refine bR (pI hN hi (.inl hy) (.inr hy) s9 σ H9 (.ref Da) (.ref Da) (fun σ' H'=>D.nx σ' H') I9 rfl q) (fun _ s' ⟨σ',H',I',q'⟩=>?_) fun _ _ e=>e
 have hC':=I'.pin (C,oC) (by simp)
 have hC9:=I9.pin (C,oC) (by simp)
 refine⟨m,hn.at' fun o e=>?_,fun h' lZ=>⟨σ',H',I'.yu hp hz lZ,q'⟩⟩
 rw [hC9.1] at e;cases e;exact hC'.1
end
def MC:HO->Prop
 | .lst _=>True
 | .dK _=>True
 | _=>False
def fO (G:Hp):List (Addr×HO)->Hp
 | []=>G
 | (p,o)::r=>upd (fO G r) p o
inductive rQ:List (Addr×HO)->Prop
 | nil:rQ []
 | one {p:Addr}{o:HO}{r:List (Addr×HO)}:MC o->rQ r->rQ ((p,o)::r)
 | ins {p C dx:Addr}{fs:List (Str×V)}{r:List (Addr×HO)}:rQ r->rQ ((p,.ins C dx fs)::(dx,.own p)::r)
theorem rQ.append {A:List (Addr×HO)}(h:rQ A)(h':rQ B):rQ (A++B):=by
 induction h with
 | nil=>exact h'
 | one f _ ih=>exact .one f ih
 | ins _ ih=>exact .ins ih
structure kl (G:Hp) (B:List (Addr×HO)):Prop where
 nd:(B.map (·.1)).Nodup
 free:∀ x∈B,G x.1=none
 ok:rQ B
theorem kl.nil {G:Hp}:kl G []:=⟨eX,(fun x hx=>by cases hx),.nil⟩
theorem iy {G:Hp}{a:Addr}:∀ {B:List (Addr×HO)},(∀ x∈B,x.1≠a)->fO G B a=G a
 | [],_=>rfl
 | (p,o)::r,h=>by
  show upd (fO G r) p o a=G a
  rw [fU (Ne.symm (h (p,o) (by simp)))]
  exact iy fun x hx=>h x (af _ hx)
theorem gL {G:Hp}:∀ {B:List (Addr×HO)},(B.map (·.1)).Nodup->∀ x∈B,fO G B x.1=some x.2
 | [],_,_,h=>by cases h
 | (p,o)::r,nd,x,hx=>by
  rw [aa,a9] at nd
  rcases ah.mp hx with e|hx
  ·subst e;exact gp
  ·show upd (fO G r) p o x.1=some x.2
   have Et:x.1≠p:=fun e=>nd.1 (by rw [← e];exact ag.mpr ⟨x,hx,rfl⟩)
   rw [fU Et]
   exact gL nd.2 x hx
theorem wU (B:List (Addr×HO)):(∃ x∈B,x.1=a)∨(∀ x∈B,x.1≠a):=by
 by_cases h:∃ x∈B,x.1=a
 ·exact .inl h
 ·exact .inr fun x hx e=>h ⟨x,hx,e⟩
theorem tw (nd:(B.map (·.1)).Nodup)(h1:∀ x∈B,H x.1=some x.2)(h2:∀ a,(∀ x∈B,x.1≠a)->H a=G a):H=fO G B:=by
 funext a
 rcases wU (a:=a) B with ⟨x,hx,rfl⟩|h
 ·rw [h1 x hx,gL nd x hx]
 ·rw [h2 a h,iy h]
theorem iI (G:Hp):∀ (A B:List (Addr×HO)),fO G (A++B)=fO (fO G B) A
 | [],_=>rfl
 | (p,o)::r,B=>by
  show upd (fO G (r++B)) p o=upd (fO (fO G B) r) p o
  rw [iI G r B]
theorem ja {A:List (Addr×HO)}(nd:(A.map (·.1)).Nodup)(h:A.Perm B):fO G A=fO G B:=by
 have Uy:(B.map (·.1)).Nodup:=(h.map (·.1)).nodup_iff.mp nd
 refine tw Uy (fun x hx=>gL nd x (h.mem_iff.mpr hx)) fun a ha=>iy fun x hx=>ha x (h.mem_iff.mp hx)
theorem kl.same (f:kl G B):fV G (fO G B):=fun a o e=>by
 rw [iy fun x hx z=>?_]
 ·exact e
 ·have:=f.free x hx
  rw [z,e] at this;cases this
theorem kl.Eu {A:List (Addr×HO)}(f:kl G (A++B))(hA:rQ A):kl (fO G B) A:=by
 have nd:=f.nd
 rw [aI,a0] at nd
 refine⟨nd.1,fun x hx=>?_,hA⟩
 rw [iy fun y hy z=>nd.2.2 _ (ag.mpr ⟨x,hx,rfl⟩) _ (ag.mpr ⟨y,hy,rfl⟩) z.symm]
 exact f.free x (aA _ hx)
theorem kl.Ew {A:List (Addr×HO)}(f:kl G (A++B))(hB:rQ B):kl G B:=by
 have nd:=f.nd
 rw [aI,a0] at nd
 exact⟨nd.2.1,fun x hx=>f.free x (aq _ hx),hB⟩
theorem kl.join {A:List (Addr×HO)}(f:kl G B)(g:kl (fO G B) A):kl G (A++B):=by
 have d:∀ x∈A,∀ y∈B,x.1≠y.1:=fun x hx y hy z=>by
  have h1:=g.free x hx
  rw [z,gL f.nd y hy] at h1;cases h1
 refine⟨?_,fun x hx=>?_,g.ok.append f.ok⟩
 ·rw [aI,a0]
  refine⟨g.nd,f.nd,fun a ha b hb z=>?_⟩
  obtain⟨x,hx,rfl⟩:=ag.mp ha
  obtain⟨y,hy,rfl⟩:=ag.mp hb
  exact d x hx y hy z
 ·rcases au.mp hx with h|h
  ·have h1:=g.free x h
   rw [iy fun y hy z=>d x h y hy z.symm] at h1
   exact h1
  ·exact f.free x h
theorem kl.perm {A:List (Addr×HO)}(f:kl G A)(h:A.Perm B)(ok:rQ B):kl G B :=
 ⟨(h.map (·.1)).nodup_iff.mp f.nd,fun x hx=>f.free x (h.mem_iff.mpr hx),ok⟩
section
variable {p:Addr}{o:HO}
theorem P0 (I:fW X pins σ (upd H p o) s)(hf:MC o):∃ ob,s.heap.get? p=some ob/\∀ v,ob.data≠.cell v:=by
 have h:=I.jd p o gp
 cases o with
 | lst xs=>obtain⟨_,its,n,_,e⟩:=h;exact⟨_,e,fun v z=>by have z':Data.seq its.toArray n=.cell v:=z;cases z'⟩
 | dK fE=>obtain⟨_,_,xs,_,ob,es,ep,e,_,ed,_⟩:=h;exact⟨ob,e,fun v z=>by rw [ed] at z;cases z⟩
 | _=>exact hf.elim
theorem MD {P:Program}{H':Hp}{h h':Heap}{ob:Obj}(hf:MC o)(x:j9 P w H h p o)(e:h.get? p=some ob)(e':h'.get? p=some ob):j9 P w H' h' p o:=by
 cases o with
 | lst xs =>
  obtain⟨z,its,n,r,q⟩:=x
  rw [e] at q;cases q
  exact⟨z,its,n,r,e'⟩
 | dK fE =>
  obtain⟨z,y,xs,r,ob',es,ep,q,c⟩:=x
  rw [e] at q;cases q
  exact⟨z,y,xs,r,ob,es,ep,e',c⟩
 | _=>exact hf.elim
theorem Xr (I:fW X pins σ (upd H p o) s)(hn:H p=none)(hf:MC o):∃ ob,fW X (pins++[(p,ob)]) σ H s /\
  ∀ (G:Hp) (s':Shared) (σ':St),fW X (pins++[(p,ob)]) σ' G s'->G p=none/\fW X pins σ' (upd G p o) s':=by
 obtain⟨ob,ZD,rq⟩:=P0 I hf
 have nt:∀ b u,H b=some u->b≠p:=fun b u e=>gP e hn
 have un:∀ b,upd H p o b=none->b≠p/\H b=none:=fun b e=>by
  have hb:b≠p:=fun z=>by rw [z,gp] at e;cases e
  rw [fU hb] at e
  exact⟨hb,e⟩
 have bk:∀ b u,upd H p o b=some u->u≠o->H b=some u:=fun b u e hu=>by
  by_cases hb:b=p
  ·rw [hb,gp] at e;cases e;exact absurd rfl hu
  ·rw [fU hb] at e;exact e
 have OO:∀ xs,(HO.tup xs)≠o:=fun xs e=>by rw [← e] at hf;exact hf
 have aaT:∀ q u,(HO.Ly q u)≠o:=fun q u e=>by rw [← e] at hf;exact hf
 have aaU:∀ ps,(HO.RX ps)≠o:=fun ps e=>by rw [← e] at hf;exact hf
 have ON:∀ a,(HO.own a)≠o:=fun a e=>by rw [← e] at hf;exact hf
 have hL:p≠X.env.locals:=fun z=>by
  have:=I.free
  rw [← z,gp] at this;cases this
 have hfs:p∉X.fs:=fun hb=>by
  obtain⟨_,q,hq,_⟩:=I.ok.uq.mem hb
  have:=I.base.free p q hq (I.ok.LC p hb) fun z=>I.ok.Gh p z hb
  rw [gp] at this;cases this
 have OF:∀ q∈X.pn++pins,q.1≠p:=fun q hq=>(un q.1 (I.pin q hq).2.1).1
 have h0:∀ q,X.s₀.heap.get? p=some q->X.H₀ p=none->p∈X.ex:=fun q hq Xs=>by
  by_cases hx:p∈X.ex
  ·exact hx
  ·have:=I.base.free p q hq Xs hx
   rw [gp] at this;cases this
 refine⟨ob,?_,?_⟩
 ·refine⟨I.ok,I.os,I.bare,⟨I.base.keep,I.base.slot,fun b q e n hx=>(un b (I.base.free b q e n hx)).2,I.base.there,fun b xs e=>bk b _ (I.base.rT b xs e) (OO xs),fun b q u e=>bk b _ (I.base.uo b q u e) (aaT q u),fun b ps e=>?_⟩,I.loc,I.cell,(un _ I.free).2,fun x c e=>(un c (I.pH x c e)).2,fun q hq=>?_,fun a u e=>?_,I.len⟩
  ·obtain⟨m,e1⟩:=I.base.vP b ps e
   exact⟨m,bk b _ e1 (aaU _)⟩
  ·rcases au.mp hq with h|h
   ·obtain⟨a1,a2,a3⟩:=I.pin q (aA _ h)
    exact⟨a1,(un _ a2).2,a3⟩
   ·rcases au.mp h with h|h
    ·obtain⟨a1,a2,a3⟩:=I.pin q (aq _ h)
     exact⟨a1,(un _ a2).2,a3⟩
    ·have:q=(p,ob):=by simpa using h
     subst this
     exact⟨ZD,hn,hL,hfs,rq⟩
  ·have ha:=nt a u e
   exact(I.jd a u (by rw [fU ha];exact e)).xn (fun _ _ _ q=>q) (fun b q=>bk b _ q (ON a)) fun b xs q=>bk b _ q (OO xs)
 ·intro G s' σ' J
  have hp:=J.pin (p,ob) (aq _ (aq _ (by simp)))
  have Xt:G p=none:=hp.2.1
  have nG:∀ b u,G b=some u->upd G p o b=some u:=fun b u e=>by rw [fU (gP e Xt)];exact e
  refine⟨Xt,⟨J.ok,J.os,J.bare,⟨J.base.keep,J.base.slot,fun b q e n hx=>?_,J.base.there,fun b xs e=>nG b _ (J.base.rT b xs e),fun b q u e=>nG b _ (J.base.uo b q u e),fun b ps e=>?_⟩,J.loc,J.cell,?_,fun x c e=>?_,fun q hq=>?_,fun a u e=>?_,J.len⟩⟩
  ·have hb:b≠p:=fun z=>by subst z;exact hx (h0 q e n)
   rw [fU hb]
   exact J.base.free b q e n hx
  ·obtain⟨m,e1⟩:=J.base.vP b ps e
   exact⟨m,nG b _ e1⟩
  ·rw [fU (Ne.symm hL)];exact J.free
  ·have hc:c≠p:=fun z=>by
    obtain⟨v,q,hq,hd⟩:=J.cell x c e
    rw [z] at hq
    have Uz:s'.heap.get? p=some ob:=hp.1
    rw [Uz] at hq;cases hq
    exact rq v hd
   rw [fU hc];exact J.pH x c e
  ·have DZ:q∈X.pn++(pins++[(p,ob)]):=by
    rcases au.mp hq with h|h
    ·exact aA _ h
    ·exact aq _ (aA _ h)
   obtain⟨a1,a2,a3⟩:=J.pin q DZ
   exact⟨a1,by rw [fU (OF q hq)];exact a2,a3⟩
  ·by_cases ha:a=p
   ·subst ha
    rw [gp] at e;cases e
    exact MD hf (I.jd a o gp) ZD hp.1
   ·rw [fU ha] at e
    exact(J.jd a u e).xn (fun _ _ _ q=>q) (fun b q=>nG b _ q) fun b xs q=>nG b _ q
theorem Xu {C dx:Addr}{fs:List (Str×V)}(I:fW X pins σ (upd (upd H dx (.own p)) p (.ins C dx fs)) s)(hn:H p=none)(yp:H dx=none)(Et:dx≠p):∃ ob od,fW X (pins++[(p,ob),(dx,od)]) σ H s /\
  ∀ (G:Hp) (s':Shared) (σ':St),fW X (pins++[(p,ob),(dx,od)]) σ' G s'->G p=none/\G dx=none/\fW X pins σ' (upd (upd G dx (.own p)) p (.ins C dx fs)) s':=by
 obtain⟨z1,z2,z3,ZD,mA,ns,rl,wi⟩:=(show j9 X.prog X.w (upd (upd H dx (.own p)) p (.ins C dx fs)) s.heap p (.ins C dx fs) from I.jd p _ gp)
 obtain⟨od,es,ep,hod,Ai,Xv⟩:=id ns
 have rq:∀ v,(W.instObj C dx).data≠.cell v:=fun v z=>by cases z
 have ME:∀ v,od.data≠.cell v:=fun v z=>by
  first
  | (rw [Ai] at z;cases z)
  | (rw [Ai.2.2] at z;cases z)
  | (rw [Xv.1] at z;cases z)
 have ZE:∀ (F:Hp),upd (upd F dx (.own p)) p (.ins C dx fs) dx=some (.own p):=fun F=>by rw [fU Et,gp]
 have un:∀ b,upd (upd H dx (.own p)) p (.ins C dx fs) b=none->b≠p/\b≠dx/\H b=none:=fun b e=>by
  have hb:b≠p:=fun z=>by rw [z,gp] at e;cases e
  rw [fU hb] at e
  have PN:b≠dx:=fun z=>by rw [z,gp] at e;cases e
  rw [fU PN] at e
  exact⟨hb,PN,e⟩
 have nG:∀ (G:Hp),G p=none->G dx=none->∀ b u,G b=some u->upd (upd G dx (.own p)) p (.ins C dx fs) b=some u:=fun G g1 g2 b u e=>by
  rw [fU (gP e g1),fU (gP e g2)];exact e
 have bk:∀ (G:Hp) b u,upd (upd G dx (.own p)) p (.ins C dx fs) b=some u->u≠.ins C dx fs->u≠.own p->G b=some u:=fun G b u e hu hu2=>by
  by_cases hb:b=p
  ·rw [hb,gp] at e;cases e;exact absurd rfl hu
  ·rw [fU hb] at e
   by_cases PN:b=dx
   ·rw [PN,gp] at e;cases e;exact absurd rfl hu2
   ·rw [fU PN] at e;exact e
 have hL:p≠X.env.locals:=fun z=>by
  have:=I.free
  rw [← z,gp] at this;cases this
 have hL2:dx≠X.env.locals:=fun z=>by
  have:=I.free
  rw [← z,ZE] at this;cases this
 have hfs:p∉X.fs:=fun hb=>by
  obtain⟨_,q,hq,_⟩:=I.ok.uq.mem hb
  have:=I.base.free p q hq (I.ok.LC p hb) fun z=>I.ok.Gh p z hb
  rw [gp] at this;cases this
 have aaV:dx∉X.fs:=fun hb=>by
  obtain⟨_,q,hq,_⟩:=I.ok.uq.mem hb
  have:=I.base.free dx q hq (I.ok.LC dx hb) fun z=>I.ok.Gh dx z hb
  rw [ZE] at this;cases this
 have OF:∀ q∈X.pn++pins,q.1≠p/\q.1≠dx:=fun q hq=>let z:=un q.1 (I.pin q hq).2.1;⟨z.1,z.2.1⟩
 have h0:∀ q,X.s₀.heap.get? p=some q->X.H₀ p=none->p∈X.ex:=fun q hq Xs=>by
  by_cases hx:p∈X.ex
  ·exact hx
  ·have:=I.base.free p q hq Xs hx
   rw [gp] at this;cases this
 have h02:∀ q,X.s₀.heap.get? dx=some q->X.H₀ dx=none->dx∈X.ex:=fun q hq Xs=>by
  by_cases hx:dx∈X.ex
  ·exact hx
  ·have:=I.base.free dx q hq Xs hx
   rw [ZE] at this;cases this
 refine⟨W.instObj C dx,od,?_,?_⟩
 ·refine⟨I.ok,I.os,I.bare,⟨I.base.keep,I.base.slot,fun b q e n hx=>(un b (I.base.free b q e n hx)).2.2,I.base.there,fun b xs e=>bk H b _ (I.base.rT b xs e) (fun z=>nomatch z) (fun z=>nomatch z),fun b q u e=>bk H b _ (I.base.uo b q u e) (fun z=>nomatch z) (fun z=>nomatch z),fun b ps e=>?_⟩,I.loc,I.cell,(un _ I.free).2.2,fun x c e=>(un c (I.pH x c e)).2.2,fun q hq=>?_,fun a u e=>?_,I.len⟩
  ·obtain⟨m,e1⟩:=I.base.vP b ps e
   exact⟨m,bk H b _ e1 (fun z=>nomatch z) (fun z=>nomatch z)⟩
  ·rcases au.mp hq with h|h
   ·obtain⟨a1,a2,a3⟩:=I.pin q (aA _ h)
    exact⟨a1,(un _ a2).2.2,a3⟩
   ·rcases au.mp h with h|h
    ·obtain⟨a1,a2,a3⟩:=I.pin q (aq _ h)
     exact⟨a1,(un _ a2).2.2,a3⟩
    ·rcases ah.mp h with h|h
     ·subst h
      exact⟨ZD,hn,hL,hfs,rq⟩
     ·have:q=(dx,od):=by simpa using h
      subst this
      exact⟨hod,yp,hL2,aaV,ME⟩
  ·have ha:a≠p:=gP e hn
   refine(I.jd a u (nG H hn yp a u e)).xn (fun _ _ _ q=>q) (fun b q=>bk H b _ q (fun z=>nomatch z) (fun z=>ha (by cases z;rfl))) fun b xs q=>bk H b _ q (fun z=>nomatch z) (fun z=>nomatch z)
 ·intro G s' σ' J
  have hp:=J.pin (p,W.instObj C dx) (aq _ (aq _ (by simp)))
  have Kd:=J.pin (dx,od) (aq _ (aq _ (by simp)))
  have Xt:G p=none:=hp.2.1
  have hGd:G dx=none:=Kd.2.1
  have UA:s'.heap.get? dx=some od:=Kd.1
  have Xw:s'.heap.get? p=some (W.instObj C dx):=hp.1
  have mG:=nG G Xt hGd
  refine⟨Xt,hGd,⟨J.ok,J.os,J.bare,⟨J.base.keep,J.base.slot,fun b q e n hx=>?_,J.base.there,fun b xs e=>mG b _ (J.base.rT b xs e),fun b q u e=>mG b _ (J.base.uo b q u e),fun b ps e=>?_⟩,J.loc,J.cell,?_,fun x c e=>?_,fun q hq=>?_,fun a u e=>?_,J.len⟩⟩
  ·have hb:b≠p:=fun z=>by subst z;exact hx (h0 q e n)
   have PN:b≠dx:=fun z=>by subst z;exact hx (h02 q e n)
   rw [fU hb,fU PN]
   exact J.base.free b q e n hx
  ·obtain⟨m,e1⟩:=J.base.vP b ps e
   exact⟨m,mG b _ e1⟩
  ·rw [fU (Ne.symm hL),fU (Ne.symm hL2)];exact J.free
  ·have hc:c≠p:=fun z=>by
    obtain⟨v,q,hq,hd⟩:=J.cell x c e
    rw [z,Xw] at hq;cases hq
    exact rq v hd
   have OD:c≠dx:=fun z=>by
    obtain⟨v,q,hq,hd⟩:=J.cell x c e
    rw [z,UA] at hq;cases hq
    exact ME v hd
   rw [fU hc,fU OD];exact J.pH x c e
  ·have DZ:q∈X.pn++(pins++[(p,W.instObj C dx),(dx,od)]):=by
    rcases au.mp hq with h|h
    ·exact aA _ h
    ·exact aq _ (aA _ h)
   obtain⟨a1,a2,a3⟩:=J.pin q DZ
   exact⟨a1,by rw [fU (OF q hq).1,fU (OF q hq).2];exact a2,a3⟩
  ·by_cases ha:a=p
   ·subst ha
    rw [gp] at e;cases e
    exact⟨ZE G,z2,z3,Xw,mA,ns.at fun o q=>by rw [hod] at q;cases q;exact UA,rl,wi⟩
   ·rw [fU ha] at e
    by_cases ha2:a=dx
    ·subst ha2
     rw [gp] at e;cases e
     exact⟨od,UA⟩
    ·rw [fU ha2] at e
     exact(J.jd a u e).xn (fun _ _ _ q=>q) (fun b q=>mG b _ q) fun b xs q=>mG b _ q
theorem I0 (ok:rQ B):∀ {pins:Ax}{G:Hp}{σ:St}{s:Shared},fW X pins σ (fO G B) s->kl G B->∃ PB,fW X (pins++PB) σ G s/\(∀ q∈PB,∃ x∈B,q.1=x.1)/\(∀ x∈B,∃ q∈PB,q.1=x.1) /\
  ∀ (G':Hp) (s':Shared) (σ':St),fW X (pins++PB) σ' G' s'->kl G' B/\fW X pins σ' (fO G' B) s':=by
 induction ok with
 | nil=>exact fun I f=>⟨[],by rw [aS];exact I,(fun q hq=>by cases hq),(fun x hx=>by cases hx),fun G' s' σ' J=>⟨kl.nil,by rw [aS] at J;exact J⟩⟩
 | @one p o r hf okr ih =>
  intro pins G σ s I f
  have nd:=a9.mp (show (p::r.map (·.1)).Nodup from f.nd)
  have fr:kl G r:=⟨nd.2,fun y hy=>f.free y (af _ hy),okr⟩
  have Sk:∀ x∈r,x.1≠p:=fun x hx e=>nd.1 (ag.mpr ⟨x,hx,e⟩)
  have OF:fO G r p=none:=by rw [iy Sk];exact f.free (p,o) (by simp)
  obtain⟨ob,I1,back⟩:=Xr (H:=fO G r) I OF hf
  obtain⟨PB,I2,m1,m2,MF⟩:=ih I1 fr
  refine⟨(p,ob)::PB,by simpa using I2,fun q hq=>?_,fun x hx=>?_,fun G' s' σ' J=>?_⟩
  ·rcases ah.mp hq with e|h
   ·exact⟨(p,o),by simp,by rw [e]⟩
   ·obtain⟨x,hx,e⟩:=m1 q h
    exact⟨x,af _ hx,e⟩
  ·rcases ah.mp hx with e|h
   ·exact⟨(p,ob),by simp,by rw [e]⟩
   ·obtain⟨q,hq,e⟩:=m2 x h
    exact⟨q,af _ hq,e⟩
  ·obtain⟨f2,J2⟩:=MF G' s' σ' (by simpa using J)
   obtain⟨OB,J3⟩:=back (fO G' r) s' σ' J2
   have UB:G' p=none:=by rw [iy Sk] at OB;exact OB
   refine⟨⟨f.nd,fun x hx=>?_,f.ok⟩,J3⟩
   rcases ah.mp hx with e|h
   ·rw [e];exact UB
   ·exact f2.free x h
 | @ins p C dx fs r okr ih =>
  intro pins G σ s I f
  have nd:=a9.mp (show (p::dx::r.map (·.1)).Nodup from f.nd)
  have nd2:=a9.mp nd.2
  have fr:kl G r:=⟨nd2.2,fun y hy=>f.free y (af _ (af _ hy)),okr⟩
  have Et:dx≠p:=fun z=>nd.1 (by rw [← z];simp)
  have Sk:∀ x∈r,x.1≠p:=fun x hx e=>nd.1 (af _ (ag.mpr ⟨x,hx,e⟩))
  have hdr:∀ x∈r,x.1≠dx:=fun x hx e=>nd2.1 (ag.mpr ⟨x,hx,e⟩)
  have OF:fO G r p=none:=by rw [iy Sk];exact f.free (p,.ins C dx fs) (by simp)
  have hdn:fO G r dx=none:=by rw [iy hdr];exact f.free (dx,.own p) (by simp)
  obtain⟨ob,od,I1,back⟩:=Xu (H:=fO G r) I OF hdn Et
  obtain⟨PB,I2,m1,m2,MF⟩:=ih I1 fr
  refine⟨(p,ob)::(dx,od)::PB,by simpa using I2,fun q hq=>?_,fun x hx=>?_,fun G' s' σ' J=>?_⟩
  ·rcases ah.mp hq with e|h
   ·exact⟨(p,.ins C dx fs),by simp,by rw [e]⟩
   ·rcases ah.mp h with e|h
    ·exact⟨(dx,.own p),by simp,by rw [e]⟩
    ·obtain⟨x,hx,e⟩:=m1 q h
     exact⟨x,af _ (af _ hx),e⟩
  ·rcases ah.mp hx with e|h
   ·exact⟨(p,ob),by simp,by rw [e]⟩
   ·rcases ah.mp h with e|h
    ·exact⟨(dx,od),by simp,by rw [e]⟩
    ·obtain⟨q,hq,e⟩:=m2 x h
     exact⟨q,af _ (af _ hq),e⟩
  ·obtain⟨f2,J2⟩:=MF G' s' σ' (by simpa using J)
   obtain⟨OB,hd2,J3⟩:=back (fO G' r) s' σ' J2
   have UB:G' p=none:=by rw [iy Sk] at OB;exact OB
   have aaW:G' dx=none:=by rw [iy hdr] at hd2;exact hd2
   refine⟨⟨f.nd,fun x hx=>?_,f.ok⟩,J3⟩
   rcases ah.mp hx with e|h
   ·rw [e];exact UB
   ·rcases ah.mp h with e|h
    ·rw [e];exact aaW
    ·exact f2.free x h
theorem PE.frame {t:TE}(h:PE X e t):PE X e (fun σ H Q=>∃ G B,H=fO G B/\kl G B/\t σ G fun v G'=>kl G' B->Q v (fO G' B)):=by
 intro pins s σ H Q I ⟨G,B,eH,f,ht⟩
 subst eH
 obtain⟨PB,I1,_,_,back⟩:=I0 f.ok I f
 refine jl (@h _ s σ G _ I1 ht) fun v s' ⟨x,G',J,r,q⟩=>?_
 obtain⟨f',J'⟩:=back G' s' σ J
 exact⟨x,fO G' B,J',r,q f'⟩
theorem PI.frame {iter:Expr}{t:TI}(h:PI X tg iter t):PI X tg iter (fun σ H R=>∃ G B,H=fO G B/\kl G B/\t σ G fun J G'=>kl G' B->R J (fO G' B)):=by
 intro pins s σ H R I ⟨G,B,eH,f,ht⟩
 subst eH
 obtain⟨PB,I1,m1,m2,back⟩:=I0 f.ok I f
 refine jl (@h _ s σ G _ I1 ht) fun v s1 h1=>jl h1 fun Zk s2 ⟨it,fp,tn,J,G',e,I2,T,st,hf,q⟩=>?_
 obtain⟨f',J'⟩:=back G' s2 σ I2
 refine⟨it,fp,tn,J,fO G' B,e,J',T,st,fun b hb=>?_,q f'⟩
 obtain⟨f0,f1,f2,f3,f4,f5⟩:=hf b hb
 refine⟨?_,f1,f2,f3,f4,fun p hp=>f5 p ?_⟩
 ·rw [iy fun x hx z=>?_]
  ·exact f0
  ·obtain⟨q',DZ,e'⟩:=m2 x hx
   exact f5 q' (aq _ (aq _ DZ)) (e'.trans z)
 ·rcases au.mp hp with h|h
  ·exact aA _ h
  ·exact aq _ (aA _ h)
theorem PA.frame {t:TA}(h:PA X es t):PA X es (fun σ H Q=>∃ G B,H=fO G B/\kl G B/\t σ G fun vs G'=>kl G' B->Q vs (fO G' B)):=by
 intro pos pins s σ H Q I ⟨G,B,eH,f,ht⟩
 subst eH
 obtain⟨PB,I1,_,_,back⟩:=I0 f.ok I f
 refine jl (@h pos _ s σ G _ I1 ht) fun us s' ⟨xs,G',J,r,q⟩=>?_
 obtain⟨f',J'⟩:=back G' s' σ J
 exact⟨xs,fO G' B,J',r,q f'⟩
end
def qz (f:Str):List (PyData×PyData)->Od
 | []=>none
 | (.str g,d)::r=>if g=f then some d else qz f r
 | _::r=>qz f r
def qU (f:Str)(y:PyData):List (PyData×PyData)->List (PyData×PyData)
 | []=>[(.str f,y)]
 | (.str g,d)::r=>if g=f then (.str g,y)::r else (.str g,d)::qU f y r
 | x::r=>x::qU f y r
section
variable {K:Fg} 
theorem ly.get {f:Str}{d:PyData}:∀ {r:List (PyData×PyData)}{fs:List (Str×V)},ly K H r fs->qz f r=some d->∃ v,fs.lookup f=some v/\fM K H d v
 | [],_,_,e=>by cases e
 | (k,x)::r,_,h,e=>by
  obtain⟨y,v,r',rfl,rfl,i,t⟩:=ly.fT.mp h
  by_cases q:y=f
  ·simp only [qz,ai q] at e;cases e
   exact⟨v,by rw [a6,cD.mpr q.symm],i⟩
  ·simp only [qz,ao q] at e
   obtain⟨u,a,b⟩:=ly.get t e
   exact⟨u,by rw [a6,aW.mpr (fun z=>q z.symm)];exact a,b⟩
theorem ly.none {f:Str}:∀ {r:List (PyData×PyData)}{fs:List (Str×V)},ly K H r fs->qz f r=.none->fs.lookup f=.none
 | [],_,h,e=>by rw [ly.gn.mp h];rfl
 | (k,x)::r,_,h,e=>by
  obtain⟨y,v,r',rfl,rfl,i,t⟩:=ly.fT.mp h
  by_cases q:y=f
  ·simp only [qz,ai q] at e;cases e
  ·simp only [qz,ao q] at e
   rw [a6,aW.mpr (fun z=>q z.symm)]
   exact ly.none t e
def nh (c f:Str):Bool:=(c=="Reading"&&(f=="fields"||f=="heads"||f=="blocks"||f=="later"))||(c=="Outline"&&(f=="params"||f=="kept"||f=="own_rows"||f=="fields"))
def qV (c f:Str):Bool:=c=="Outline"&&f=="own_rows"
def rM (K:Fg)(G:Hp)(d:PyData)(q:Addr)(o:HO):Prop :=
 (∃ ds vs,d=.list ds/\o=.lst vs/\fz K G ds vs)∨∃ fE kv,d=.dict fE/\o=.dK kv/\gY K G fE kv
def isL:PyData->Bool
 | .list _=>true
 | _=>false
def OG (K:Fg)(G:Hp)(d:PyData)(v:V)(B:List (Addr×HO)):Prop:=(isL d=false/\fM K G d v/\B=[])∨∃ us p vs,d=.list us/\v=.ref p/\B=[(p,.lst vs)]/\fz K G us vs
def Ar (K:Fg)(G:Hp):Lp->List V->List (Addr×HO)->Prop
 | [],vs,B=>vs=[]/\B=[]
 | d::ds,vs,B=>∃ v Bp B1 B2,vs=v::Bp/\B=B1++B2/\OG K G d v B1/\Ar K G ds Bp B2
def I8 (K:Fg)(G:Hp):List (PyData×PyData)->List (Key×V)->List (Addr×HO)->Prop
 | [],kv,B=>kv=[]/\B=[]
 | (k,d)::r,kv,B=>∃ y v r' B1 B2,kv=(y,v)::r'/\k=kr y/\B=B1++B2/\OG K G d v B1/\I8 K G r r' B2
def aaX (K:Fg)(G:Hp)(d:PyData)(o:HO)(B:List (Addr×HO)):Prop :=
 (∃ ds vs,d=.list ds/\o=.lst vs/\Ar K G ds vs B)∨∃ fE kv,d=.dict fE/\o=.dK kv/\I8 K G fE kv B
def sf (dp:Bool)(K:Fg)(G:Hp)(d:PyData)(q:Addr)(o:HO)(B:List (Addr×HO)):Prop:=match dp with
 | false=>rM K G d q o/\B=[]
 | true=>aaX K G d o B
def kL (K:Fg)(G:Hp)(c:Str):List (PyData×PyData)->List (Str×V)->List (Addr×HO)->Prop
 | [],fs,B=>fs=[]/\B=[]
 | (k,d)::r,fs,B=>∃ y v Ak,fs=(y,v)::Ak/\k=.str y/\((nh c y=false/\fM K G d v/\kL K G c r Ak B)∨(nh c y=true/\∃ q o Bi B',v=.ref q/\B=(q,o)::(Bi++B')/\sf (qV c y) K G d q o Bi/\kL K G c r Ak B'))
def j4 (dp:Bool)(K:Fg)(G:Hp)(d:PyData)(v:V)(B:List (Addr×HO)):Prop :=
 (∃ q o Bi,v=.ref q/\B=(q,o)::Bi/\sf dp K G d q o Bi) ∨
 ∃ c C p dx fs r B',d=.dict ((.none,.str c)::r)/\v=.ref p/\B=(p,.ins C dx fs)::(dx,.own p)::B'/\mX K c C/\kL K G c r fs B'
theorem OG.same {G':Hp}{d:PyData}{v:V}{B:List (Addr×HO)}(e:fV G G')(h:OG K G d v B):OG K G' d v B:=by
 rcases h with ⟨a,b,c⟩ | ⟨us,p,vs,a,b,c,t⟩
 ·exact .inl ⟨a,b.same e,c⟩
 ·exact .inr ⟨us,p,vs,a,b,c,t.same e⟩
theorem OG.oO (h:OG K G d v B):rQ B:=by
 rcases h with ⟨a,b,c⟩ | ⟨us,p,vs,a,b,c,t⟩
 ·rw [c];exact .nil
 ·rw [c];exact .one aO .nil
theorem OG.Lu (h:OG K G d v B)(e:fV G H)(hB:∀ x∈B,H x.1=some x.2):fM K H d v:=by
 rcases h with ⟨a,b,c⟩ | ⟨us,p,vs,rfl,rfl,rfl,t⟩
 ·exact b.same e
 ·exact fM.gv.mpr ⟨p,vs,rfl,qd.of (hB (p,.lst vs) (by simp)),t.same e⟩
theorem Ar.same {G':Hp}(e:fV G G'):∀ {ds:Lp}{vs:List V}{B:List (Addr×HO)},Ar K G ds vs B->Ar K G' ds vs B
 | [],_,_,h=>h
 | _::_,_,_,⟨v,Bp,B1,B2,a,b,c,t⟩=>⟨v,Bp,B1,B2,a,b,c.same e,Ar.same e t⟩
theorem Ar.oO:∀ {ds:Lp}{vs:List V}{B:List (Addr×HO)},Ar K G ds vs B->rQ B
 | [],_,_,h=>by rw [h.2];exact .nil
 | _::_,_,_,⟨v,Bp,B1,B2,a,b,c,t⟩=>by rw [b];exact c.oO.append t.oO
theorem Ar.Xx (e:fV G H):∀ {ds:Lp}{vs:List V}{B:List (Addr×HO)},Ar K G ds vs B->(∀ x∈B,H x.1=some x.2)->fz K H ds vs
 | [],_,_,h,_=>by rw [h.1];exact fz.nil
 | _::_,_,_,⟨v,Bp,B1,B2,a,b,c,t⟩,hB=>by
  subst a b
  exact fz.cons (c.Lu e fun x hx=>hB x (aA _ hx)) (t.Xx e fun x hx=>hB x (aq _ hx))
theorem I8.same {G':Hp}(e:fV G G'):∀ {ds:List (PyData×PyData)}{vs:List (Key×V)}{B:List (Addr×HO)},I8 K G ds vs B->I8 K G' ds vs B
 | [],_,_,h=>h
 | (_,_)::_,_,_,⟨y,v,Bp,B1,B2,a,a2,b,c,t⟩=>⟨y,v,Bp,B1,B2,a,a2,b,c.same e,I8.same e t⟩
theorem I8.oO:∀ {ds:List (PyData×PyData)}{vs:List (Key×V)}{B:List (Addr×HO)},I8 K G ds vs B->rQ B
 | [],_,_,h=>by rw [h.2];exact .nil
 | (_,_)::_,_,_,⟨y,v,Bp,B1,B2,a,a2,b,c,t⟩=>by rw [b];exact c.oO.append t.oO
theorem I8.Xy (e:fV G H):∀ {ds:List (PyData×PyData)}{vs:List (Key×V)}{B:List (Addr×HO)},I8 K G ds vs B->(∀ x∈B,H x.1=some x.2)->gY K H ds vs
 | [],_,_,h,_=>by rw [h.1];exact gY.gn.mpr rfl
 | (_,_)::_,_,_,⟨y,v,Bp,B1,B2,a,a2,b,c,t⟩,hB=>by
  subst a a2 b
  exact gY.fT.mpr ⟨y,v,Bp,rfl,rfl,c.Lu e fun x hx=>hB x (aA _ hx),t.Xy e fun x hx=>hB x (aq _ hx)⟩
theorem rM.same {G':Hp}{d:PyData}{q:Addr}{o:HO}(h:rM K G d q o)(e:fV G G'):rM K G' d q o:=by
 rcases h with ⟨ds,vs,a,b,c⟩ | ⟨fE,kv,a,b,c⟩
 ·exact .inl ⟨ds,vs,a,b,c.same e⟩
 ·exact .inr ⟨fE,kv,a,b,c.same e⟩
theorem rM.frm {q:Addr}{o:HO}(h:rM K G d q o):MC o:=by
 rcases h with ⟨ds,vs,a,b,c⟩ | ⟨fE,kv,a,b,c⟩<;>subst b<;>exact aO
theorem rM.Lu {o:HO}{p:Addr}(h:rM K G d p o)(e:fV G H)(hp:H p=some o):fM K H d (.ref p):=by
 rcases h with ⟨ds,vs,rfl,rfl,c⟩ | ⟨fE,kv,rfl,rfl,c⟩
 ·exact fM.gv.mpr ⟨p,vs,rfl,qd.of hp,c.same e⟩
 ·exact fM.oT.mpr ⟨p,rfl,.inl ⟨kv,hp,c.same e⟩⟩
theorem sf.same {dp:Bool}{G':Hp}{d:PyData}{q:Addr}{o:HO}{B:List (Addr×HO)}(e:fV G G')(h:sf dp K G d q o B):sf dp K G' d q o B:=by
 cases dp with
 | false=>exact⟨h.1.same e,h.2⟩
 | true =>
  rcases h with ⟨ds,vs,a,b,c⟩ | ⟨fE,kv,a,b,c⟩
  ·exact .inl ⟨ds,vs,a,b,c.same e⟩
  ·exact .inr ⟨fE,kv,a,b,c.same e⟩
theorem sf.oO {dp:Bool}{d:PyData}{q:Addr}{o:HO}{B:List (Addr×HO)}(h:sf dp K G d q o B):rQ ((q,o)::B):=by
 cases dp with
 | false=>rw [h.2];exact .one h.1.frm .nil
 | true =>
  rcases h with ⟨ds,vs,a,b,c⟩ | ⟨fE,kv,a,b,c⟩
  ·subst b;exact .one aO c.oO
  ·subst b;exact .one aO c.oO
theorem sf.Lu {dp:Bool}{d:PyData}{o:HO}{p:Addr}{B:List (Addr×HO)}(h:sf dp K G d p o B)(e:fV G H)(hp:H p=some o)(hB:∀ x∈B,H x.1=some x.2):fM K H d (.ref p):=by
 cases dp with
 | false=>exact h.1.Lu e hp
 | true =>
  rcases h with ⟨ds,vs,rfl,rfl,c⟩ | ⟨fE,kv,rfl,rfl,c⟩
  ·exact fM.gv.mpr ⟨p,vs,rfl,qd.of hp,c.Xx e hB⟩
  ·exact fM.oT.mpr ⟨p,rfl,.inl ⟨kv,hp,c.Xy e hB⟩⟩
theorem kL.same {c:Str}{G':Hp}(e:fV G G'):∀ {r:List (PyData×PyData)}{fs:List (Str×V)}{B:List (Addr×HO)},kL K G c r fs B->kL K G' c r fs B
 | [],_,_,h=>h
 | (k,d)::r,_,_,h=>by
  obtain⟨y,v,Ak,e1,e2,⟨e3,e4,e5⟩ | ⟨e3,q,o,Bi,B',e4,e5,e6,e7⟩⟩:=h
  ·exact⟨y,v,Ak,e1,e2,.inl ⟨e3,e4.same e,kL.same e e5⟩⟩
  ·exact⟨y,v,Ak,e1,e2,.inr ⟨e3,q,o,Bi,B',e4,e5,e6.same e,kL.same e e7⟩⟩
theorem kL.oO {c:Str}:∀ {r:List (PyData×PyData)}{fs:List (Str×V)}{B:List (Addr×HO)},kL K G c r fs B->rQ B
 | [],_,_,h=>by rw [h.2];exact .nil
 | (k,d)::r,_,_,h=>by
  obtain⟨y,v,Ak,e1,e2,⟨e3,e4,e5⟩ | ⟨e3,q,o,Bi,B',e4,e5,e6,e7⟩⟩:=h
  ·exact kL.oO e5
  ·rw [e5];exact rQ.append e6.oO (kL.oO e7)
theorem kL.UC {c:Str}(e:fV G H):∀ {r:List (PyData×PyData)}{fs:List (Str×V)}{B:List (Addr×HO)},kL K G c r fs B->(∀ x∈B,H x.1=some x.2)->ly K H r fs
 | [],_,_,h,_=>by rw [h.1];exact ly.gn.mpr rfl
 | (k,d)::r,_,_,h,hB=>by
  obtain⟨y,v,Ak,e1,e2,⟨e3,e4,e5⟩ | ⟨e3,q,o,Bi,B',e4,e5,e6,e7⟩⟩:=h
  ·exact ly.fT.mpr ⟨y,v,Ak,e1,e2,e4.same e,kL.UC e e5 hB⟩
  ·subst e5 e4
   exact ly.fT.mpr ⟨y,_,Ak,e1,e2,e6.Lu e (hB (q,o) (by simp)) (fun x hx=>hB x (by simp [hx])),kL.UC e e7 fun x hx=>hB x (by simp [hx])⟩
theorem j4.same {dp:Bool}{G':Hp}{d:PyData}{v:V}{B:List (Addr×HO)}(h:j4 dp K G d v B)(e:fV G G'):j4 dp K G' d v B:=by
 rcases h with ⟨q,o,Bi,a,b,c⟩ | ⟨c,C,p,dx,fs,r,B',a1,a2,a3,a4,a5⟩
 ·exact .inl ⟨q,o,Bi,a,b,c.same e⟩
 ·exact .inr ⟨c,C,p,dx,fs,r,B',a1,a2,a3,a4,a5.same e⟩
theorem j4.oO {dp:Bool}{d:PyData}{v:V}{B:List (Addr×HO)}(h:j4 dp K G d v B):rQ B:=by
 rcases h with ⟨q,o,Bi,a,b,c⟩ | ⟨c,C,p,dx,fs,r,B',a1,a2,a3,a4,a5⟩
 ·rw [b];exact c.oO
 ·rw [a3];exact .ins a5.oO
theorem j4.Lu {dp:Bool}{d:PyData}{v:V}{B:List (Addr×HO)}(h:j4 dp K G d v B)(e:fV G H)(hB:∀ x∈B,H x.1=some x.2):fM K H d v:=by
 rcases h with ⟨q,o,Bi,rfl,rfl,c⟩ | ⟨c,C,p,dx,fs,r,B',rfl,rfl,rfl,a4,a5⟩
 ·exact c.Lu e (hB (q,o) (by simp)) fun x hx=>hB x (by simp [hx])
 ·exact fM.oT.mpr ⟨p,rfl,.inr ⟨c,C,dx,fs,a4,hB (p,.ins C dx fs) (by simp),qQ.fT.mpr ⟨rfl,rfl,a5.UC e fun x hx=>hB x (by simp [hx])⟩⟩⟩
theorem kL.split {c y:Str}{d:PyData}(hy:nh c y=true):∀ {r:List (PyData×PyData)}{fs:List (Str×V)}{B:List (Addr×HO)},kL K G c r fs B->qz y r=some d ->
  ∃ q o Bi Bl Br,fs.lookup y=some (.ref q)/\B=Bl++((q,o)::(Bi++Br))/\rQ Bl/\rQ Br/\sf (qV c y) K G d q o Bi/\∀ G' d' o' yx,fV G G'->sf (qV c y) K G' d' q o' yx->kL K G' c (qU y d' r) fs (Bl++((q,o')::(yx++Br)))
 | [],_,_,_,e=>by cases e
 | (k,x)::r,_,B,h,e=>by
  obtain⟨z,v,Ak,e1,e2,h⟩:=h
  subst e1 e2
  by_cases q:z=y
  ·subst q
   simp only [qz,cE] at e;cases e
   rcases h with ⟨e3,_⟩ | ⟨e3,q,o,Bi,B',e4,e5,e6,e7⟩
   ·rw [hy] at e3;cases e3
   ·subst e4 e5
    refine⟨q,o,Bi,[],B',by rw [a6,cD.mpr rfl],rfl,.nil,e7.oO,e6,fun G' d' o' yx sG h'=>?_⟩
    simp only [qU,cE]
    exact⟨z,_,Ak,rfl,rfl,.inr ⟨e3,q,o',yx,B',rfl,rfl,h',e7.same sG⟩⟩
  ·simp only [qz,ao q] at e
   rcases h with ⟨e3,e4,e5⟩ | ⟨e3,q',o,Bj,B',e4,e5,e6,e7⟩
   ·obtain⟨p,o,Bi,Bl,Br,a1,a2,k1,k2,a3,a4⟩:=kL.split hy e5 e
    refine⟨p,o,Bi,Bl,Br,by rw [a6,aW.mpr (fun z=>q z.symm)];exact a1,a2,k1,k2,a3,fun G' d' o' yx sG h'=>?_⟩
    simp only [qU,ao q]
    exact⟨z,v,Ak,rfl,rfl,.inl ⟨e3,e4.same sG,a4 G' d' o' yx sG h'⟩⟩
   ·subst e4 e5
    obtain⟨p,o2,Bi,Bl,Br,a1,a2,k1,k2,a3,a4⟩:=kL.split hy e7 e
    refine⟨p,o2,Bi,(q',o)::(Bj++Bl),Br,by rw [a6,aW.mpr (fun z=>q z.symm)];exact a1,by rw [a2];simp,rQ.append e6.oO k1,k2,a3,fun G' d' o' yx sG h'=>?_⟩
    simp only [qU,ao q]
    exact⟨z,_,Ak,rfl,rfl,.inr ⟨e3,q',o,Bj,Bl++((p,o')::(yx++Br)),rfl,by simp,e6.same sG,a4 G' d' o' yx sG h'⟩⟩
theorem kL.put {c y:Str}{d:PyData}{v:V}(hy:nh c y=false)(i:fM K G d v):∀ {r:List (PyData×PyData)}{fs:List (Str×V)}{B:List (Addr×HO)},kL K G c r fs B->kL K G c (qU y d r) (oQ y v fs) B
 | [],_,_,h=>by
  obtain⟨rfl,rfl⟩:=h
  exact⟨y,v,[],rfl,rfl,.inl ⟨hy,i,rfl,rfl⟩⟩
 | (k,x)::r,_,_,h=>by
  obtain⟨z,u,Ak,e1,e2,h⟩:=h
  subst e1 e2
  by_cases q:z=y
  ·subst q
   simp only [qU,oQ,cE]
   rcases h with ⟨e3,e4,e5⟩ | ⟨e3,_⟩
   ·exact⟨z,v,Ak,rfl,rfl,.inl ⟨hy,i,e5⟩⟩
   ·rw [hy] at e3;cases e3
  ·simp only [qU,oQ,ao q]
   rcases h with ⟨e3,e4,e5⟩ | ⟨e3,q',o,Bi,B',e4,e5,e6,e7⟩
   ·exact⟨z,u,_,rfl,rfl,.inl ⟨e3,e4,kL.put hy i e5⟩⟩
   ·exact⟨z,u,_,rfl,rfl,.inr ⟨e3,q',o,Bi,B',e4,e5,e6,kL.put hy i e7⟩⟩
theorem kL.add {c y:Str}{d:PyData}{q:Addr}{o:HO}{Bi:List (Addr×HO)}(hy:nh c y=true)(i:sf (qV c y) K G d q o Bi):∀ {r:List (PyData×PyData)}{fs:List (Str×V)}{B:List (Addr×HO)},kL K G c r fs B->qz y r=none ->
  kL K G c (qU y d r) (oQ y (.ref q) fs) (B++(q,o)::Bi)
 | [],_,_,h,_=>by
  obtain⟨rfl,rfl⟩:=h
  exact⟨y,_,[],rfl,rfl,.inr ⟨hy,q,o,Bi,[],rfl,by simp,i,rfl,rfl⟩⟩
 | (k,x)::r,_,_,h,e=>by
  obtain⟨z,u,Ak,e1,e2,h⟩:=h
  subst e1 e2
  by_cases hq:z=y
  ·simp only [qz,ai hq] at e;cases e
  ·simp only [qz,ao hq] at e
   simp only [qU,oQ,ao hq]
   rcases h with ⟨e3,e4,e5⟩ | ⟨e3,q',o',Bj,B',e4,e5,e6,e7⟩
   ·exact⟨z,u,_,rfl,rfl,.inl ⟨e3,e4,kL.add hy i e5 e⟩⟩
   ·subst e5
    exact⟨z,u,_,rfl,rfl,.inr ⟨e3,q',o',Bj,B'++(q,o)::Bi,e4,by simp,e6,kL.add hy i e7 e⟩⟩
theorem kL.len {c:Str}:∀ {r:List (PyData×PyData)}{fs:List (Str×V)}{B:List (Addr×HO)},kL K G c r fs B->fs.length=r.length
 | [],_,_,h=>by rw [h.1];rfl
 | (k,d)::r,_,_,h=>by
  obtain⟨y,v,Ak,e1,e2,⟨e3,e4,e5⟩ | ⟨e3,q,o,Bi,B',e4,e5,e6,e7⟩⟩:=h
  ·rw [e1,ar,ar,kL.len e5]
  ·rw [e1,ar,ar,kL.len e7]
end
def kM (O:List Nat):Bool:=O.contains 99
def jz (dp:Bool)(K:Fg)(σ:St)(ρ:fu)(G:Hp):List Nat->List (Addr×HO)->Prop
 | [],B=>B=[]
 | i::O,B=>((ρ[i]?).join=none/\jz dp K σ ρ G O B)∨∃ d v B1 B2,ρ[i]?=some (some d)/\σ[i]?=some (some v)/\B=B1++B2/\j4 dp K G d v B1/\jz dp K σ ρ G O B2
structure iz (O:List Nat) (K:Fg) (σ:St) (ρ:fu) (H G:Hp):Prop where
 len:σ.length=ρ.length
 ex:∃ B,H=fO G B/\kl G B/\jz (kM O) K σ ρ G O B
 lJ:∀ (i:Nat) (d:PyData),ρ[i]?=some (some d)->i∉O->∃ v,σ[i]?=some (some v)/\fM K G d v
theorem join_some {l:List (Option α)}{d:α}(h:(l[i]?).join=some d):l[i]?=some (some d):=by
 cases q:l[i]? with
 | none=>rw [q] at h;cases h
 | some o=>rw [q] at h;cases o with
  | none=>cases h
  | some v'=>cases h;rfl
section
variable {K:Fg}   
theorem jz.same {G':Hp}(e:fV G G'):∀ {O:List Nat}{B:List (Addr×HO)},jz dp K σ ρ G O B->jz dp K σ ρ G' O B
 | [],_,h=>h
 | _::_,_,h=>by
  rcases h with ⟨a,b⟩ | ⟨d,v,B1,B2,a,b,c,q,t⟩
  ·exact .inl ⟨a,jz.same e b⟩
  ·exact .inr ⟨d,v,B1,B2,a,b,c,q.same e,jz.same e t⟩
theorem jz.oO:∀ {O:List Nat}{B:List (Addr×HO)},jz dp K σ ρ G O B->rQ B
 | [],_,h=>by rw [show _=[] from h];exact .nil
 | _::_,_,h=>by
  rcases h with ⟨a,b⟩ | ⟨d,v,B1,B2,a,b,rfl,q,t⟩
  ·exact jz.oO b
  ·exact q.oO.append (jz.oO t)
theorem jz.other {σ':St}{ρ':fu}:∀ {O:List Nat}{B:List (Addr×HO)},jz dp K σ ρ G O B->(∀ i∈O,ρ'[i]?=ρ[i]?/\σ'[i]?=σ[i]?)->jz dp K σ' ρ' G O B
 | [],_,h,_=>h
 | j::O,_,h,k=>by
  obtain⟨k1,k2⟩:=k j (by simp)
  have k':∀ i∈O,ρ'[i]?=ρ[i]?/\σ'[i]?=σ[i]?:=fun i hi=>k i (af _ hi)
  rcases h with ⟨a,b⟩ | ⟨d,v,B1,B2,a,b,c,q,t⟩
  ·exact .inl ⟨by rw [k1];exact a,b.other k'⟩
  ·exact .inr ⟨d,v,B1,B2,by rw [k1];exact a,by rw [k2];exact b,c,q,t.other k'⟩
theorem jz.split {i:Nat}{d:PyData}:∀ {O:List Nat}{B:List (Addr×HO)},O.Nodup->jz dp K σ ρ G O B->i∈O->ρ[i]?=some (some d) ->
  ∃ v Bl B1 Br,σ[i]?=some (some v)/\B=Bl++(B1++Br)/\j4 dp K G d v B1/\rQ Bl/\rQ Br /\
   (∀ G' d' D0,fV G G'->j4 dp K G' d' v D0->jz dp K σ (ρ.set i (some d')) G' O (Bl++(D0++Br)))/\jz dp K σ (ρ.set i none) G O (Bl++Br)
 | [],_,_,_,hi,_=>by cases hi
 | j::O,B,f7,h,hi,hd=>by
  have GN:=a9.mp f7
  have hl:i<ρ.length:=(aJ.mp hd).1
  by_cases vT:j=i
  ·subst vT
   have ma:∀ x:Od,∀ k∈O,(ρ.set j x)[k]?=ρ[k]?/\σ[k]?=σ[k]?:=fun x k hk=>by
    have:j≠k:=fun z=>GN.1 (z▸hk)
    exact⟨av this,rfl⟩
   rcases h with ⟨a,b⟩ | ⟨d',v,B1,B2,a,b,c,q,t⟩
   ·rw [hd] at a;cases a
   ·rw [hd] at a;cases a
    refine⟨v,[],B1,B2,b,c,q,.nil,t.oO,fun G' d' D0 sG ot=>.inr ⟨d',v,D0,B2,aM hl,b,rfl,ot,(t.same sG).other (ma _)⟩,.inl ⟨by rw [aM hl];rfl,t.other (ma _)⟩⟩
  ·have En:=(ah.mp hi).resolve_left (Ne.symm vT)
   have Et:∀ x:Od,(ρ.set i x)[j]?=ρ[j]?:=fun x=>av (Ne.symm vT)
   rcases h with ⟨a,b⟩ | ⟨d',v,B1,B2,a,b,c,q,t⟩
   ·obtain⟨v,Bl,B1,Br,e1,e2,e3,e4,e5,e6,e7⟩:=jz.split GN.2 b En hd
    exact⟨v,Bl,B1,Br,e1,e2,e3,e4,e5,fun G' d' D0 sG ot=>.inl ⟨by rw [Et];exact a,e6 G' d' D0 sG ot⟩,.inl ⟨by rw [Et];exact a,e7⟩⟩
   ·obtain⟨v',Bl,D0,Br,e1,e2,e3,e4,e5,e6,e7⟩:=jz.split GN.2 t En hd
    refine⟨v',B1++Bl,D0,Br,e1,by rw [c,e2];simp,e3,q.oO.append e4,e5,fun G' d' D0 sG ot=>.inr ⟨_,v,B1,_,by rw [Et];exact a,b,by simp,q.same sG,e6 G' d' D0 sG ot⟩,.inr ⟨_,v,B1,_,by rw [Et];exact a,b,by simp,q,e7⟩⟩
theorem iz.sub (h:iz O K σ ρ H G):fV G H:=by
 obtain⟨B,rfl,f,own⟩:=h.ex
 exact f.same
theorem jz.at:∀ {O:List Nat}{B:List (Addr×HO)},jz dp K σ ρ G O B->∀ {i:Nat}{d:PyData},i∈O->ρ[i]?=some (some d)->∃ v B1,(∀ x∈B1,x∈B)/\σ[i]?=some (some v)/\j4 dp K G d v B1
 | [],_,_,_,_,hi,_=>by cases hi
 | j::O,_,h,i,d,hi,hd=>by
  rcases h with ⟨a,b⟩ | ⟨d',v,B1,B2,a,b,c,q,t⟩
  ·rcases ah.mp hi with e|hi
   ·subst e;rw [hd] at a;cases a
   ·exact jz.at b hi hd
  ·rcases ah.mp hi with e|hi
   ·subst e;rw [hd] at a;cases a
    exact⟨v,B1,fun x hx=>by rw [c];exact aA _ hx,b,q⟩
   ·obtain⟨v',D0,m,r⟩:=jz.at t hi hd
    exact⟨v',D0,fun x hx=>by rw [c];exact aq _ (m x hx),r⟩
theorem iz.full (h:iz O K σ ρ H G):ka K H σ ρ:=by
 obtain⟨B,rfl,f,own⟩:=h.ex
 refine⟨h.len,fun i d q=>?_⟩
 by_cases hi:i∈O
 ·obtain⟨v,B1,m,e,ot⟩:=own.at hi q
  exact⟨v,e,ot.Lu f.same fun x hx=>gL f.nd x (m x hx)⟩
 ·obtain⟨v,e1,e2⟩:=h.lJ i d q hi
  exact⟨v,e1,e2.same f.same⟩
def jb:List Nat->fu->fu
 | [],ρ=>ρ
 | i::O,ρ=>(jb O ρ).set i none
theorem yy:∀ (O:List Nat) (ρ:fu),(jb O ρ).length=ρ.length
 | [],_=>rfl
 | i::O,ρ=>by rw [jb,eU];exact yy O ρ
theorem yz:∀ {O:List Nat}{ρ:fu}{j:Nat}{d:PyData},(jb O ρ)[j]?=some (some d)->j∉O/\ρ[j]?=some (some d)
 | [],_,_,_,h=>⟨by simp,h⟩
 | i::O,ρ,j,d,h=>by
  unfold jb at h
  by_cases hj:j=i
  ·subst hj
   by_cases hl:j<(jb O ρ).length
   ·rw [aM hl] at h;cases h
   ·rw [cK (by simpa using hl)] at h;cases h
  ·rw [av (Ne.symm hj)] at h
   obtain⟨a,b⟩:=yz h
   exact⟨by simp [hj,a],b⟩
theorem iz.rest (h:iz O K σ ρ H G):ka K G σ (jb O ρ):=by
 refine⟨by rw [yy];exact h.len,fun i d q=>?_⟩
 obtain⟨a,b⟩:=yz q
 exact h.lJ i d b a
theorem iz.grow {H':Hp}(h:iz O K σ ρ H G)(e:fV H H'):∃ G',fV G G'/\(∀ a,H a=none->G' a=H' a)/\iz O K σ ρ H' G':=by
 obtain⟨B,rfl,f,own⟩:=h.ex
 have hB:∀ x∈B,H' x.1=some x.2:=fun x hx=>e _ _ (gL f.nd x hx)
 let G':Hp:=fun a=>if (∃ x∈B,x.1=a) then none else H' a
 have g1:∀ a,(∀ x∈B,x.1≠a)->G' a=H' a:=fun a ha=>ao fun ⟨x,hx,z⟩=>ha x hx z
 have g2:∀ x∈B,G' x.1=none:=fun x hx=>ai ⟨x,hx,rfl⟩
 have sG:fV G G':=fun a o q=>by
  have ha:∀ x∈B,x.1≠a:=fun x hx z=>by
   have:=f.free x hx
   rw [z,q] at this;cases this
  rw [g1 a ha]
  exact e _ _ (by rw [iy ha];exact q)
 refine⟨G',sG,fun a ha=>g1 a fun x hx z=>?_,h.len,⟨B,tw f.nd hB fun a ha=>(g1 a ha).symm,⟨f.nd,g2,f.ok⟩,own.same sG⟩,fun i d q hi=>?_⟩
 ·have:=gL (G:=G) f.nd x hx
  rw [z,ha] at this;cases this
 obtain⟨v,e1,e2⟩:=h.lJ i d q hi
 exact⟨v,e1,e2.same sG⟩
theorem iz.vU {G':Hp} (hl:σ.length=ρ.length) (own:jz (kM O) K σ ρ G O B) (lJ:∀ (i:Nat) (d:PyData),ρ[i]?=some (some d)->i∉O->∃ v,σ[i]?=some (some v)/\fM K G d v)
  (sG:fV G G') (f:kl G' B):iz O K σ ρ (fO G' B) G' :=
 ⟨hl,⟨B,rfl,f,own.same sG⟩,fun i d q hi=>let ⟨v,a,b⟩:=lJ i d q hi;⟨v,a,b.same sG⟩⟩
theorem iz.set {O:List Nat}{i:Nat}{d:PyData}{v:V}(h:iz O K σ ρ H G)(hi:i∉O)(e:fM K G d v):iz O K (σ.set i (some v)) (ρ.set i (some d)) H G:=by
 obtain⟨B,eH,f,own⟩:=h.ex
 refine⟨by simpa using h.len,⟨B,eH,f,own.other fun j hj=>?_⟩,fun j d' q hj=>?_⟩
 ·have vT:i≠j:=fun z=>hi (z▸hj)
  exact⟨av vT,av vT⟩
 ·by_cases vT:j=i
  ·subst vT
   have hl:j<ρ.length:=by
    have:=(aJ.mp q).1
    simpa using this
   rw [aM hl] at q
   cases q
   exact⟨v,by rw [aM (by rw [h.len];exact hl)],e⟩
  ·rw [av (Ne.symm vT)] at q
   obtain⟨u,a,b⟩:=h.lJ j d' q hj
   exact⟨u,by rw [av (Ne.symm vT)];exact a,b⟩
theorem iz.own {O:List Nat}(f7:O.Nodup)(h:iz O K σ ρ H G){i:Nat}{d:PyData}(hi:i∈O)(hd:ρ[i]?=some (some d)) :
  ∃ v Bl B1 Br,σ[i]?=some (some v)/\H=fO G (Bl++(B1++Br))/\kl G (Bl++(B1++Br))/\j4 (kM O) K G d v B1/\rQ Bl/\rQ Br /\
   (∀ G' d' D0,fV G G'->j4 (kM O) K G' d' v D0->kl G' (Bl++(D0++Br))->iz O K σ (ρ.set i (some d')) (fO G' (Bl++(D0++Br))) G') /\
   (∀ G',fV G G'->kl G' (Bl++Br)->iz O K σ (ρ.set i none) (fO G' (Bl++Br)) G'):=by
 obtain⟨B,rfl,f,own⟩:=h.ex
 obtain⟨v,Bl,B1,Br,e1,rfl,e3,e4,e5,e6,e7⟩:=own.split f7 hi hd
 have lJ:∀ (x:Od) (G':Hp),fV G G'->∀ (j:Nat) (d2:PyData),(ρ.set i x)[j]?=some (some d2)->j∉O->∃ v,σ[j]?=some (some v)/\fM K G' d2 v:=fun x G' sG j d2 q hj=>by
  have vT:j≠i:=fun z=>hj (z▸hi)
  rw [av (Ne.symm vT)] at q
  obtain⟨v,a,b⟩:=h.lJ j d2 q hj
  exact⟨v,a,b.same sG⟩
 exact⟨v,Bl,B1,Br,e1,rfl,f,e3,e4,e5,fun G' d' D0 sG ot fm=>⟨by simpa using h.len,⟨_,rfl,fm,e6 G' d' D0 sG ot⟩,lJ _ G' sG⟩,
  fun G' sG fm=>⟨by simpa using h.len,⟨_,rfl,fm,e7.same sG⟩,lJ _ G' sG⟩⟩
theorem qA {q:Addr}{o o':HO}{Bl Br:List (Addr×HO)}(nd:((Bl++(q,o)::Br).map (·.1)).Nodup):L2.upd (fO G (Bl++(q,o)::Br)) q o'=fO G (Bl++(q,o')::Br):=by
 have Uy:((Bl++(q,o')::Br).map (·.1)).Nodup:=by simpa using nd
 refine tw Uy (fun x hx=>?_) fun a ha=>?_
 ·by_cases Kj:x.1=q
  ·have a1:=gL (G:=G) Uy x hx
   have a2:=gL (G:=G) Uy (q,o') (by simp)
   rw [Kj] at a1
   rw [Kj,gp,← a1,a2]
  ·rw [fU Kj]
   refine gL nd x ?_
   rcases au.mp hx with h|h
   ·exact aA _ h
   ·rcases ah.mp h with e|h
    ·rw [e] at Kj;exact absurd rfl Kj
    ·exact aq _ (af _ h)
 ·have hq:a≠q:=fun z=>ha (q,o') (by simp) z.symm
  rw [fU hq]
  refine iy fun x hx=>?_
  rcases au.mp hx with h|h
  ·exact ha x (aA _ h)
  ·rcases ah.mp h with e|h
   ·rw [e];exact Ne.symm hq
   ·exact ha x (aq _ (af _ h))
theorem kl.put {q:Addr}{o o':HO}{Bl Br:List (Addr×HO)}(f:kl G (Bl++(q,o)::Br))(ok:rQ (Bl++(q,o')::Br)):kl G (Bl++(q,o')::Br):=by
 refine⟨by simpa using f.nd,fun x hx=>?_,ok⟩
 rcases au.mp hx with h|h
 ·exact f.free x (aA _ h)
 ·rcases ah.mp h with e|h
  ·rw [e];exact f.free (q,o) (by simp)
  ·exact f.free x (aq _ (af _ h))
theorem iz.drop (f7:O.Nodup)(h:iz O K σ ρ H G)(hi:i∈O):∃ G',fV G G'/\iz O K σ (ρ.set i none) H G':=by
 cases hd:(ρ[i]?).join with
 | none =>
  refine⟨G,.refl G,?_⟩
  obtain⟨B,eH,f,own⟩:=h.ex
  have heq:∀ (j:Nat) (d:PyData),(ρ.set i none)[j]?=some (some d)->ρ[j]?=some (some d):=fun j d q=>by
   by_cases vT:j=i
   ·subst vT
    by_cases hl:j<ρ.length
    ·rw [aM hl] at q;cases q
    ·rw [cK (by simpa using hl)] at q;cases q
   ·rw [av (Ne.symm vT)] at q;exact q
  refine⟨by simpa using h.len,⟨B,eH,f,?_⟩,fun j d q hj=>h.lJ j d (heq j d q) hj⟩
  have key:∀ {O':List Nat}{B:List (Addr×HO)},jz (kM O) K σ ρ G O' B->jz (kM O) K σ (ρ.set i none) G O' B:=by
   intro O'
   induction O' with
   | nil=>exact fun h=>h
   | cons j O' ih =>
    intro B h
    rcases h with ⟨a,b⟩ | ⟨d,v,B1,B2,a,b,c,q,t⟩
    ·refine .inl ⟨?_,ih b⟩
     cases q:((ρ.set i none)[j]?).join with
     | none=>rfl
     | some d=>rw [heq j d (join_some q)] at a;cases a
    ·refine .inr ⟨d,v,B1,B2,?_,b,c,q,ih t⟩
     have vT:j≠i:=fun z=>by subst z;rw [a] at hd;cases hd
     rw [av (Ne.symm vT)];exact a
  exact key own
 | some d =>
  obtain⟨v,Bl,B1,Br,e1,e2,f,ot,k1,k2,_,cl⟩:=h.own f7 hi (join_some hd)
  have perm:(Bl++(B1++Br)).Perm ((Bl++Br)++B1):=by
   rw [aN]
   exact cL _ aU
  have f2:kl G ((Bl++Br)++B1):=f.perm perm ((k1.append k2).append ot.oO)
  have eH:H=fO (fO G B1) (Bl++Br):=by rw [e2,ja f.nd perm,iI]
  have sG:fV G (fO G B1):=(f2.Ew ot.oO).same
  refine⟨fO G B1,sG,?_⟩
  rw [eH]
  exact cl _ sG (f2.Eu (k1.append k2))
theorem jz.ins {i:Nat}{d':PyData}{v:V}{B1:List (Addr×HO)}:∀ {O:List Nat}{B:List (Addr×HO)},O.Nodup->jz dp K σ ρ G O B->i∈O->i<ρ.length->i<σ.length->(ρ[i]?).join=none->j4 dp K G d' v B1 ->
  ∃ B',jz dp K (σ.set i (some v)) (ρ.set i (some d')) G O B'/\B'.Perm (B1++B)
 | [],_,_,_,hi,_,_,_,_=>by cases hi
 | j::O,B,f7,h,hi,hl,Ln,hn,ob=>by
  have GN:=a9.mp f7
  by_cases vT:j=i
  ·subst vT
   have ma:∀ k∈O,(ρ.set j (some d'))[k]?=ρ[k]?/\(σ.set j (some v))[k]?=σ[k]?:=fun k hk=>by
    have:j≠k:=fun z=>GN.1 (z▸hk)
    exact⟨av this,av this⟩
   rcases h with ⟨a,b⟩ | ⟨d,u,Ba,Bb,a,c,rfl,ob1,t⟩
   ·exact⟨B1++B,.inr ⟨d',v,B1,B,aM hl,aM Ln,rfl,ob,b.other ma⟩,List.Perm.refl _⟩
   ·rw [a] at hn;cases hn
  ·have En:=(ah.mp hi).resolve_left (Ne.symm vT)
   rcases h with ⟨a,b⟩ | ⟨d,u,Ba,Bb,a,c,rfl,ob1,t⟩
   ·obtain⟨B',e1,e2⟩:=jz.ins GN.2 b En hl Ln hn ob
    exact⟨B',.inl ⟨by rw [av (Ne.symm vT)];exact a,e1⟩,e2⟩
   ·obtain⟨B',e1,e2⟩:=jz.ins GN.2 t En hl Ln hn ob
    refine⟨Ba++B',.inr ⟨d,u,Ba,B',by rw [av (Ne.symm vT)];exact a,by rw [av (Ne.symm vT)];exact c,rfl,ob1,e1⟩,(e2.append_left _).trans ?_⟩
    rw [← aN,← aN]
    exact dm _ aU
theorem iz.new (f7:O.Nodup)(h:iz O K σ ρ H G){d':PyData}{B1:List (Addr×HO)}(hi:i∈O)(hl:i<ρ.length)(ob:j4 (kM O) K G d' v B1)(f1:kl H B1) :
  ∃ G',fV G G'/\iz O K (σ.set i (some v)) (ρ.set i (some d')) (fO H B1) G':=by
 obtain⟨G1,s1,h1⟩:=h.drop f7 hi
 obtain⟨B,eH,f,own⟩:=h1.ex
 have ZF:i<(ρ.set i none).length:=by simpa using hl
 obtain⟨B',e1,e2⟩:=own.ins f7 hi ZF (by rw [h1.len];exact ZF) (by rw [aM hl];rfl) (ob.same s1)
 rw [List.set_set] at e1
 subst eH
 have f2:kl G1 (B1++B):=f.join f1
 have f3:kl G1 B':=f2.perm e2.symm e1.oO
 refine⟨G1,s1,by simpa using h.len,⟨B',?_,f3,e1⟩,fun j d q hj=>?_⟩
 ·rw [ja f3.nd e2,iI]
 ·have vT:j≠i:=fun z=>hj (z▸hi)
  rw [av (Ne.symm vT)] at q
  obtain⟨v,a,b⟩:=h1.lJ j d (by rw [av (Ne.symm vT)];exact q) hj
  exact⟨v,by rw [av (Ne.symm vT)];exact a,b⟩
end
def mY:PyData->PyData->Bool
 | .int a,.int b=>decide (a=b)
 | .str a,.str b=>decide (a=b)
 | _,_=>false
theorem j5 (a b:Key):mY (kr a) (kr b)=decide (a=b):=by
 cases a<;>cases b<;>simp [kr,mY]
def sg:PyData->Option Key
 | .int i=>some (.inl i)
 | .str x=>some (.inr x)
 | _=>none
theorem js {k:Key}(h:sg d=some k):d=kr k:=by
 cases d<;>simp [sg] at h<;>subst h<;>rfl
theorem jO {K:Fg}{k:Key}(h:fM K H (kr k) v):v=kV k:=by
 cases k with
 | inl i=>exact fM.fZ.mp h
 | inr x=>exact fM.gw.mp h
def ku (k:PyData):List (PyData×PyData)->Od
 | []=>none
 | (y,d)::r=>if mY y k=true then some d else ku k r
def Ex (k v:PyData)(fE:List (PyData×PyData)):List (PyData×PyData) :=
 if (fE.any fun x=>mY x.1 k)=true then fE.map (fun x=>if mY x.1 k=true then (x.1,v) else x) else fE++[(k,v)]
def hW:List (PyData×PyData)->Bool
 | (.none,_)::_=>true
 | _=>false
section
variable {K:Fg} 
theorem fM.rA (h:fM K H (.dict fE) v)(hi:hW fE=false):∃ p kv,v=.ref p/\H p=some (.dK kv)/\gY K H fE kv:=by
 obtain⟨p,e1,⟨kv,e2,e3⟩ | ⟨c,C,dx,fs,e2,e3,e4⟩⟩:=fM.oT.mp h
 ·exact⟨p,kv,e1,e2,e3⟩
 ·cases fE with
  | nil=>exact(qQ.gn.mp e4).elim
  | cons x r =>
   obtain⟨k,d⟩:=x
   obtain⟨rfl,_,_⟩:=qQ.fT.mp e4
   cases hi
theorem fM.MG {c:Str}(h:fM K H (.dict ((.none,.str c)::r)) v):∃ p C dx fs,v=.ref p/\mX K c C/\H p=some (.ins C dx fs)/\ly K H r fs:=by
 obtain⟨p,e1,⟨kv,e2,e3⟩ | ⟨c',C,dx,fs,e2,e3,e4⟩⟩:=fM.oT.mp h
 ·obtain⟨y,_,_,_,e,_⟩:=gY.fT.mp e3
  cases y<;>cases e
 ·obtain⟨_,e5,e6⟩:=qQ.fT.mp e4
  cases e5
  exact⟨p,C,dx,fs,e1,e2,e3,e6⟩
theorem gY.val {y:Key}:∀ {fE:List (PyData×PyData)}{kv:List (Key×V)},gY K H fE kv ->
  (ku (kr y) fE=none/\qP kv y=none)∨∃ d v,ku (kr y) fE=some d/\qP kv y=some v/\fM K H d v
 | [],_,h=>by rw [gY.gn.mp h];exact .inl ⟨rfl,rfl⟩
 | (k,d)::r,_,h=>by
  obtain⟨z,v,r',rfl,rfl,i,t⟩:=gY.fT.mp h
  by_cases e:z=y
  ·right
   exact⟨d,v,by simp [ku,j5,e],uW e,i⟩
  ·rcases gY.val (y:=y) t with ⟨a,b⟩ | ⟨d',v',a,b,c⟩
   ·exact .inl ⟨by simp [ku,j5,e,a],by rw [r8 (p:=(z,v)) e];exact b⟩
   ·exact .inr ⟨d',v',by simp [ku,j5,e,a],by rw [r8 (p:=(z,v)) e];exact b,c⟩
theorem gY.any {y:Key}:∀ {fE:List (PyData×PyData)}{kv:List (Key×V)},gY K H fE kv->(kv.any fun x=>decide (x.1=y))=fE.any fun x=>mY x.1 (kr y)
 | [],_,h=>by rw [gY.gn.mp h];rfl
 | (k,d)::r,_,h=>by
  obtain⟨z,v,r',rfl,rfl,i,t⟩:=gY.fT.mp h
  rw [bG,bG,gY.any t,j5]
theorem gY.GF {y:Key}{d:PyData}{v:V}(i:fM K H d v):∀ {fE:List (PyData×PyData)}{kv:List (Key×V)},gY K H fE kv ->
  gY K H (fE.map fun x=>if mY x.1 (kr y)=true then (x.1,d) else x) (kv.map fun x=>if x.1=y then (x.1,v) else x)
 | [],_,h=>by rw [gY.gn.mp h];exact gY.gn.mpr rfl
 | (k',d')::r,_,h=>by
  obtain⟨z,v',r',rfl,rfl,i',t⟩:=gY.fT.mp h
  rw [aa,aa,j5]
  by_cases e:z=y
  ·rw [ai e,ai (bf e)];exact gY.fT.mpr ⟨_,_,_,rfl,rfl,i,gY.GF i t⟩
  ·rw [ao e,ao (by simp [e])];exact gY.fT.mpr ⟨_,_,_,rfl,rfl,i',gY.GF i t⟩
theorem gY.snoc {y:Key}{d:PyData}{v:V}(i:fM K H d v):∀ {fE:List (PyData×PyData)}{kv:List (Key×V)},gY K H fE kv->gY K H (fE++[(kr y,d)]) (kv++[(y,v)])
 | [],_,h=>by rw [gY.gn.mp h];exact gY.fT.mpr ⟨_,_,_,rfl,rfl,i,gY.gn.mpr rfl⟩
 | (k',d')::r,_,h=>by
  obtain⟨z,v',r',rfl,rfl,i',t⟩:=gY.fT.mp h
  exact gY.fT.mpr ⟨_,_,_,rfl,rfl,i',gY.snoc i t⟩
theorem gY.put {kv:List (Key×V)}{y:Key}(h:gY K H fE kv)(i:fM K H d v):gY K H (Ex (kr y) d fE) (pE kv y v):=by
 unfold Ex pE
 rw [h.any]
 by_cases e:(fE.any fun x=>mY x.1 (kr y))=true
 ·rw [ai e,ai e];exact h.GF i
 ·rw [ao e,ao e];exact h.snoc i
theorem gY.length:∀ {fE:List (PyData×PyData)}{kv:List (Key×V)},gY K H fE kv->fE.length=kv.length
 | [],_,h=>by rw [gY.gn.mp h];rfl
 | (k,d)::r,_,h=>by
  obtain⟨z,v,r',rfl,rfl,i,t⟩:=gY.fT.mp h
  simp [gY.length t]
end
section
variable {a b i:Expr}{fa fb:fu->Od}{apos gJ:Pos}
theorem PE.or {t u:TE}(h:PE X e t)(h':PE X e u):PE X e (fun σ H Q=>t σ H Q∨u σ H Q):=fun pins s σ H Q I q=>q.elim (@h pins s σ H Q I) (@h' pins s σ H Q I)
def Ja (x k:PyData):Od:=match x with
 | .dict fE=>if hW fE=true then none else (sg k).bind fun _=>ku k fE
 | _=>none
theorem P1 (hu:X.A.units+64<cLine)(ha:PD X a fa)(hb:PD X b fb)(hs:GH b):PD X (.Subscript a b pos) (d2 Ja fa fb) :=
 PE.imp (IP (by omega) ha hb hs) fun σ H Q h=>by
  obtain⟨ρ,d,hs,e,k⟩:=h
  obtain⟨x,e1,e⟩:=bind_some e
  obtain⟨y,e2,e⟩:=bind_some e
  refine⟨ρ,x,hs,e1,fun v H1 s1 i1=>⟨ρ,y,hs.same s1,e2,fun u H2 s2 i2=>?_⟩⟩
  obtain⟨fE,rfl⟩:∃ fE,x=.dict fE:=by cases x<;>first|exact⟨_,rfl⟩|(simp [Ja] at e)
  unfold Ja at e
  by_cases hi:hW fE=true
  ·dsimp only at e;rw [ai hi] at e;cases e
  ·dsimp only at e;rw [ao hi] at e
   obtain⟨ky,e3,e4⟩:=bind_some e
   obtain⟨p,kv,rfl,e5,e6⟩:=(i1.same s2).rA (by simpa using hi)
   have:=js e3
   subst this
   rw [jO i2]
   rcases e6.val (y:=ky) with ⟨q1,_⟩ | ⟨d',v',q1,q2,q3⟩
   ·rw [q1] at e4;cases e4
   ·rw [q1] at e4;cases e4
    exact⟨p,v',rfl,by rw [← q2];exact r9.k e5,k.later (s1.trans s2) |>.here q3⟩
def gR (x k:PyData):Od:=match x with
 | .dict fE=>Ja (.dict fE) k
 | x=>Zu x k
theorem UD (hu:X.A.units+64<cLine)(ha:PD X a fa)(hb:PD X b fb)(hs:uU b)(DY:GH b):PD X (.Subscript a b pos) (d2 gR fa fb) :=
 PE.imp (PE.or (Xh ixD ha hb hs) (P1 hu ha hb DY)) fun σ H Q h=>by
  obtain⟨ρ,d,hs,e,k⟩:=h
  obtain⟨x,e1,e'⟩:=bind_some e
  obtain⟨y,e2,e3⟩:=bind_some e'
  cases x with
  | dict fE=>exact .inr ⟨ρ,d,hs,by show (fa ρ).bind _=_;rw [e1];show (fb ρ).bind _=_;rw [e2];exact e3,k⟩
  | _=>exact .inl ⟨ρ,d,hs,by show (fa ρ).bind _=_;rw [e1];show (fb ρ).bind _=_;rw [e2];exact e3,k⟩
def qg (x k:PyData):Od:=match x with
 | .dict fE=>if hW fE=true then none else (sg k).bind fun _=>some ((ku k fE).getD .none)
 | _=>none
theorem oU (hu:X.A.units+64<cLine)(ha:PD X o fa)(hb:PD X e fb)(m:M1 X o "get" apos e gJ):PD X (.Call (.Attribute o "get" apos) [e] [] gJ) (d2 qg fa fb) :=
 PE.imp (Ml (by omega) ha hb m) fun σ H Q h=>by
  obtain⟨ρ,d,hs,e,k⟩:=h
  obtain⟨x,e1,e⟩:=bind_some e
  obtain⟨y,e2,e⟩:=bind_some e
  refine⟨ρ,x,hs,e1,fun v H1 s1 i1=>?_⟩
  obtain⟨fE,rfl⟩:∃ fE,x=.dict fE:=by cases x<;>first|exact⟨_,rfl⟩|(simp [qg] at e)
  unfold qg at e
  by_cases hi:hW fE=true
  ·dsimp only at e;rw [ai hi] at e;cases e
  ·dsimp only at e;rw [ao hi] at e
   obtain⟨ky,e3,e4⟩:=bind_some e
   obtain⟨p,kv,rfl,e5,e6⟩:=i1.rA (by simpa using hi)
   refine⟨p,rfl,.inl ⟨kv,.inl e5⟩,ρ,y,hs.same s1,e2,fun u H2 s2 i2=>?_⟩
   have:=js e3
   subst this
   rw [jO i2]
   refine⟨_,r9.k (s2 _ _ e5),?_⟩
   have e6':=e6.same s2
   have k':=k.later (s1.trans s2)
   rcases e6'.val (y:=ky) with ⟨q1,q2⟩ | ⟨d',v',q1,q2,q3⟩
   ·rw [q1] at e4;cases e4
    rw [q2]
    exact k'.here (fM.jE.mpr rfl)
   ·rw [q1] at e4;cases e4
    rw [q2]
    exact k'.here q3
theorem MH (hu:X.A.units+64<cLine):mU X (compareOp .In) (fun x y H Q=>∃ p kv k,x=kV k/\y=.ref p/\H p=some (.dK kv)/\Q (.bl (qP kv k).isSome) H):=by
 intro pins s σ H x y v u Q I rx ry h
 obtain⟨p,kv,k,rfl,rfl,hp,q⟩:=h
 cases ry
 exact aaG (by omega) I (r9.k hp) rx fun s3 I3=>⟨.bl _,H,I3,rfl,q⟩
theorem Ey (hu:X.A.units+64<cLine):mU X (compareOp .NotIn) (fun x y H Q=>∃ p kv k,x=kV k/\y=.ref p/\H p=some (.dK kv)/\Q (.bl (!(qP kv k).isSome)) H):=by
 intro pins s σ H x y v u Q I rx ry h
 obtain⟨p,kv,k,rfl,rfl,hp,q⟩:=h
 cases ry
 exact Pm (by omega) I (r9.k hp) rx fun s3 I3=>⟨.bl _,H,I3,rfl,q⟩
theorem u4 (I:fW X pins σ H s){x:PyData}(hx:SeqAt.shaped x=true)(ix:fM X.K H x v)(ru:gH v u)(hu:A.units+x.depth<cLine) :
  ∀ {ds:Lp}{vs:List V}{us:Lw},(∀ d∈ds,SeqAt.shaped d=true)->fz X.K H ds vs->gE vs us->∃ e:Value->Bool,(∀ y∈us,SeqAt.EqAt A s y u (e y))/\us.any e=ds.any fun d=>PyData.eqv d x:=by
 obtain⟨as,rx⟩:=I.qR (aR hx) ix ru
 let e:Value->Bool:=fun y=>@decide (∃ d bs,Reads s.heap y d bs/\SeqAt.shaped d=true/\PyData.eqv d x=true) (Classical.propDecidable _)
 have he:∀ (d:PyData) (bs:List Addr) (y:Value),Reads s.heap y d bs->SeqAt.shaped d=true->e y=PyData.eqv d x:=fun d bs y r hd=>by
  cases q:PyData.eqv d x with
  | true=>exact @decide_eq_true _ (Classical.propDecidable _) ⟨d,bs,r,hd,q⟩
  | false =>
   refine @decide_eq_false _ (Classical.propDecidable _) fun ⟨d',mZ,r',LF,q'⟩=>?_
   have:=SeqAt.Reads.unique d d' y _ _ (aR hd) r r'
   subst this
   rw [q] at q';cases q'
 intro ds
 have main:∀ {ds:Lp}{vs:List V}{us:Lw},(∀ d∈ds,SeqAt.shaped d=true)->fz X.K H ds vs->gE vs us->(∀ y∈us,SeqAt.EqAt A s y u (e y))/\us.any e=ds.any fun d=>PyData.eqv d x:=by
  intro ds
  induction ds with
  | nil =>
   intro vs us _ i r
   rw [fz.gn.mp i] at r
   cases r
   exact⟨(fun y hy=>by cases hy),rfl⟩
  | cons d ds ih =>
   intro vs us hs i r
   obtain⟨v',r',rfl,i1,i2⟩:=fz.fT.mp i
   cases r with
   | cons r1 r2 =>
    obtain⟨a1,a2⟩:=ih (fun d hd=>hs d (af _ hd)) i2 r2
    have hd:=hs d (by simp)
    obtain⟨bs,rd⟩:=I.qR (aR hd) i1 r1
    have ed:=he d bs _ rd hd
    refine⟨fun y hy=>?_,by rw [bG,bG,ed,a2]⟩
    rcases ah.mp hy with q|q
    ·subst q
     rw [ed]
     refine SeqAt.eqAt_reads d x A s _ _ bs as rd rx (aR hd) (aR hx) ?_
     have:min d.depth x.depth<=x.depth:=eN _ _
     omega
    ·exact a1 y q
 intro vs us h1 h2 h3
 exact⟨e,main h1 h2 h3⟩
def mq:PyData->PyData->Option Bool
 | x,.list xs=>if SeqAt.shaped x=true/\xs.all SeqAt.shaped=true/\x.depth<=60 then some (xs.any fun y=>PyData.eqv y x) else none
 | x,.tuple xs=>if SeqAt.shaped x=true/\xs.all SeqAt.shaped=true/\x.depth<=60 then some (xs.any fun y=>PyData.eqv y x) else none
 | x,.dict fE=>if hW fE=true then none else (sg x).map fun _=>(ku x fE).isSome
 | .str x,.str y=>some (!(Builtin.Str.occurrences y x 0 y.length 1).isEmpty)
 | _,_=>none
def qh (x y:PyData):Od:=(mq x y).map .bool
def kQ (x y:PyData):Od:=(mq x y).map fun b=>.bool (!b)
theorem P2 (hu:X.A.units+64<cLine):mU X (compareOp .In) (fun x y H Q=>∃ p d ds vs,y=.ref p/\(qd X.K H p vs∨tm X.K H p vs)/\fM X.K H d x/\fz X.K H ds vs/\SeqAt.shaped d=true/\ds.all SeqAt.shaped=true/\d.depth<=60 /\
  Q (.bl (ds.any fun y=>PyData.eqv y d)) H):=by
 intro pins s σ H x y v u Q I rx ry h
 obtain⟨p,d,ds,vs,rfl,hq,ix,is,hd,O8,Ai,q⟩:=h
 cases ry
 have MI:∀ d∈ds,SeqAt.shaped d=true:=aL.mp O8
 have Xz:X.A.in1.units+d.depth<cLine:=by show X.A.units+1+d.depth<cLine;omega
 rcases hq with hq|hq
 ·obtain⟨its,r,pl,hz⟩:=I.list hq
  obtain⟨e,e1,e2⟩:=u4 I (A:=X.A.in1) hd ix rx Xz MI is r
  refine SeqAt.in_listAt e pl.isList (fun y hy=>e1 y (by simpa using hy)) ⟨.bl _,H,I,rfl,?_⟩
  rw [show its.toArray.any e=its.any e by simp,e2]
  exact q
 ·obtain⟨its,r,pl,hz⟩:=I.tuple hq
  obtain⟨e,e1,e2⟩:=u4 I (A:=X.A.in1) hd ix rx Xz MI is r
  refine SeqAt.in_tupleAt e pl (fun y hy=>e1 y (by simpa using hy)) ⟨.bl _,H,I,rfl,?_⟩
  rw [show its.toArray.any e=its.any e by simp,e2]
  exact q
theorem GO (hu:X.A.units+64<cLine):mU X (compareOp .NotIn) (fun x y H Q=>∃ p d ds vs,y=.ref p/\(qd X.K H p vs∨tm X.K H p vs)/\fM X.K H d x/\fz X.K H ds vs/\SeqAt.shaped d=true/\ds.all SeqAt.shaped=true/\d.depth<=60 /\
  Q (.bl (!(ds.any fun y=>PyData.eqv y d))) H):=by
 intro pins s σ H x y v u Q I rx ry h
 obtain⟨p,d,ds,vs,rfl,hq,ix,is,hd,O8,Ai,q⟩:=h
 cases ry
 have MI:∀ d∈ds,SeqAt.shaped d=true:=aL.mp O8
 have Xz:X.A.in1.units+d.depth<cLine:=by show X.A.units+1+d.depth<cLine;omega
 rcases hq with hq|hq
 ·obtain⟨its,r,pl,hz⟩:=I.list hq
  obtain⟨e,e1,e2⟩:=u4 I (A:=X.A.in1) hd ix rx Xz MI is r
  refine SeqAt.notIn_listAt e pl.isList (fun y hy=>e1 y (by simpa using hy)) ⟨.bl _,H,I,rfl,?_⟩
  rw [show its.toArray.any e=its.any e by simp,e2]
  exact q
 ·obtain⟨its,r,pl,hz⟩:=I.tuple hq
  obtain⟨e,e1,e2⟩:=u4 I (A:=X.A.in1) hd ix rx Xz MI is r
  refine SeqAt.notIn_tupleAt e pl (fun y hy=>e1 y (by simpa using hy)) ⟨.bl _,H,I,rfl,?_⟩
  rw [show its.toArray.any e=its.any e by simp,e2]
  exact q
theorem kF (hu:X.A.units+64<cLine):uY X (compareOp .In) qh:=by
 refine mU.imp ((P2 hu).or ((MH hu).or JU)) fun x y H Q ⟨a,b,c,ia,ib,e,k⟩=>?_
 obtain⟨t,e1,e2⟩:=aj.mp e
 subst e2
 cases b with
 | list ys =>
  dsimp only [mq] at e1
  by_cases hc:SeqAt.shaped a=true/\ys.all SeqAt.shaped=true/\a.depth<=60
  ·rw [ai hc] at e1;cases e1
   obtain⟨p,vs,rfl,e2,e3⟩:=fM.gv.mp ib
   exact .inl ⟨p,a,ys,vs,rfl,.inl e2,ia,e3,hc.1,hc.2.1,hc.2.2,k.here (fM.f9.mpr rfl)⟩
  ·rw [ao hc] at e1;cases e1
 | tuple ys =>
  dsimp only [mq] at e1
  by_cases hc:SeqAt.shaped a=true/\ys.all SeqAt.shaped=true/\a.depth<=60
  ·rw [ai hc] at e1;cases e1
   obtain⟨p,vs,rfl,e2,e3⟩:=ib.iP
   exact .inl ⟨p,a,ys,vs,rfl,.inr e2,ia,e3,hc.1,hc.2.1,hc.2.2,k.here (fM.f9.mpr rfl)⟩
  ·rw [ao hc] at e1;cases e1
 | dict fE =>
  dsimp only [mq] at e1
  by_cases hc:hW fE=true
  ·rw [ai hc] at e1;cases e1
  ·rw [ao hc] at e1
   obtain⟨ky,e3,e4⟩:=aj.mp e1
   subst e4
   obtain⟨p,kv,rfl,e5,e6⟩:=ib.rA (by simpa using hc)
   have:=js e3
   subst this
   refine .inr (.inl ⟨p,kv,ky,jO ia,rfl,e5,?_⟩)
   rcases e6.val (y:=ky) with ⟨q1,q2⟩ | ⟨d',v',q1,q2,_⟩
   ·rw [q2];rw [q1] at k;exact k.here (fM.f9.mpr rfl)
   ·rw [q2];rw [q1] at k;exact k.here (fM.f9.mpr rfl)
 | str z =>
  cases a<;>try (simp [mq] at e1;done)
  rename_i z'
  simp only [mq] at e1
  cases e1
  exact .inr (.inr ⟨z',z,fM.gw.mp ia,fM.gw.mp ib,k.here (fM.f9.mpr rfl)⟩)
 | none=>simp [mq] at e1
 | bool _=>simp [mq] at e1
 | int _=>simp [mq] at e1
theorem mv (hu:X.A.units+64<cLine):uY X (compareOp .NotIn) kQ:=by
 refine mU.imp ((GO hu).or ((Ey hu).or Cd)) fun x y H Q ⟨a,b,c,ia,ib,e,k⟩=>?_
 obtain⟨t,e1,e2⟩:=aj.mp e
 subst e2
 cases b with
 | list ys =>
  dsimp only [mq] at e1
  by_cases hc:SeqAt.shaped a=true/\ys.all SeqAt.shaped=true/\a.depth<=60
  ·rw [ai hc] at e1;cases e1
   obtain⟨p,vs,rfl,e2,e3⟩:=fM.gv.mp ib
   exact .inl ⟨p,a,ys,vs,rfl,.inl e2,ia,e3,hc.1,hc.2.1,hc.2.2,k.here (fM.f9.mpr rfl)⟩
  ·rw [ao hc] at e1;cases e1
 | tuple ys =>
  dsimp only [mq] at e1
  by_cases hc:SeqAt.shaped a=true/\ys.all SeqAt.shaped=true/\a.depth<=60
  ·rw [ai hc] at e1;cases e1
   obtain⟨p,vs,rfl,e2,e3⟩:=ib.iP
   exact .inl ⟨p,a,ys,vs,rfl,.inr e2,ia,e3,hc.1,hc.2.1,hc.2.2,k.here (fM.f9.mpr rfl)⟩
  ·rw [ao hc] at e1;cases e1
 | dict fE =>
  dsimp only [mq] at e1
  by_cases hc:hW fE=true
  ·rw [ai hc] at e1;cases e1
  ·rw [ao hc] at e1
   obtain⟨ky,e3,e4⟩:=aj.mp e1
   subst e4
   obtain⟨p,kv,rfl,e5,e6⟩:=ib.rA (by simpa using hc)
   have:=js e3
   subst this
   refine .inr (.inl ⟨p,kv,ky,jO ia,rfl,e5,?_⟩)
   rcases e6.val (y:=ky) with ⟨q1,q2⟩ | ⟨d',v',q1,q2,_⟩
   ·rw [q2];rw [q1] at k;exact k.here (fM.f9.mpr rfl)
   ·rw [q2];rw [q1] at k;exact k.here (fM.f9.mpr rfl)
 | str z =>
  cases a<;>try (simp [mq] at e1;done)
  rename_i z'
  simp only [mq] at e1
  cases e1
  exact .inr (.inr ⟨z',z,fM.gw.mp ia,fM.gw.mp ib,k.here (fM.f9.mpr rfl)⟩)
 | none=>simp [mq] at e1
 | bool _=>simp [mq] at e1
 | int _=>simp [mq] at e1
def iQ:Lp->Od
 | [.dict fE]=>if hW fE=true then none else some (.int fE.length)
 | ds=>PC ds
theorem P4:yn X (.builtin "len") iQ:=by
 refine jV.imp (jV.or Uq Kf) fun xs H Q ⟨ds,c,i,e,k⟩=>?_
 unfold iQ at e
 split at e
 ·rename_i fE
  by_cases hi:hW fE=true
  ·rw [ai hi] at e;cases e
  ·rw [ao hi] at e;cases e
   obtain⟨v,rfl,h1⟩:=je i
   obtain⟨p,kv,rfl,e5,e6⟩:=h1.rA (by simpa using hi)
   refine .inr ⟨p,kv,rfl,e5,?_⟩
   rw [← e6.length]
   exact k.here (fM.fZ.mpr rfl)
 ·exact .inl ⟨ds,c,i,e,k⟩
def kG (K:Fg)(c f:Str):Prop:=∃ C,mX K c C/\JY K C/\uw K C f
def jP (cs:Lr)(f:Str)(d:PyData):Od:=match d with
 | .dict ((.none,.str c)::r)=>if c∈cs then qz f r else none
 | _=>none
def jt (cs:Lr)(n:Str)(f:fu->Od):fu->Od:=fun ρ=>(f ρ).bind (jP cs n)
theorem UE {cs:Lr}{n:Str}(hC:∀ c∈cs,kG X.K c n)(he:PD X e f)(hb:attributeBase e n X.env (eval e X.env)=eval e X.env:=by rfl):PD X (.Attribute e n pos) (jt cs n f) :=
 PE.imp (LY he hb) fun σ H Q ⟨ρ,d,hs,e,k⟩=>by
  obtain⟨x,e1,e2⟩:=bind_some e
  refine⟨ρ,x,hs,e1,fun v H1 s1 i1=>?_⟩
  unfold jP at e2
  split at e2
  ·rename_i c r
   by_cases hc:c∈cs
   ·rw [ai hc] at e2
    obtain⟨p,C,dx,fs,rfl,h1,h2,h3⟩:=i1.MG
    obtain⟨C',g1,g2,g3⟩:=hC c hc
    have:=h1.uniq g1
    subst this
    obtain⟨u,l,iu⟩:=h3.get e2
    exact⟨p,C,dx,fs,u,rfl,h2,g2,g3,l,(k.later s1).here iu⟩
   ·rw [ao hc] at e2;cases e2
  ·cases e2
end
end L2
local macro_rules
| `(zP $s $m $a) => `(L2.UE (cs := [$s]) (fun c hc => (List.mem_singleton.mp hc) ▸ $m) $a)
| `(zL $m $a) => `(L2.yo L2.P4 rfl $m (by rfl) (L2.ft $a L2.gU))
| `(zN $a) => `(L2.i6 L2.iQ (L2.fx $a L2.fD))
| `(zX $a $b) => `(L2.d2 L2.gR $a $b)
namespace L2
open PySem PySem.Spec PyProof.Rows
inductive Pl where
 | sl (i:Nat)
 | fl (i:Nat) (c f:Str)
def Pl.ix:Pl->Nat
 | .sl i=>i
 | .fl i _ _=>i
def MJ (c f:Str)(d:PyData):Od:=match d with
 | .dict ((.none,.str c')::r)=>if c'=c/\nh c f=true then qz f r else none
 | _=>none
def MK (f:Str)(y d:PyData):PyData:=match d with
 | .dict ((.none,.str c)::r)=>.dict ((.none,.str c)::qU f y r)
 | d=>d
def qB:Pl->fu->Od
 | .sl i,ρ=>(ρ[i]?).join
 | .fl i c f,ρ=>(ρ[i]?).join.bind (MJ c f)
def tS:Pl->PyData->fu->fu
 | .sl i,d,ρ=>ρ.set i (some d)
 | .fl i _ f,d,ρ=>ρ.set i ((ρ[i]?).join.map (MK f d))
def xr (K:Fg)(σ:St)(H:Hp):Pl->Addr->Prop
 | .sl i,q=>σ[i]?=some (some (.ref q))
 | .fl i c f,q=>∃ C p dx fs,σ[i]?=some (some (.ref p))/\mX K c C/\H p=some (.ins C dx fs)/\fs.lookup f=some (.ref q)
def vV:PyData->Bool
 | .list _=>true
 | .dict fE=>!hW fE
 | _=>false
section
variable {K:Fg}   
theorem j4.cont (h:j4 false K G d v B)(hc:vV d=true):∃ q o,v=.ref q/\B=[(q,o)]/\rM K G d q o:=by
 rcases h with ⟨q,o,Bi,a,b,c⟩ | ⟨c,C,p,dx,fs,r,B',rfl,_⟩
 ·exact⟨q,o,a,by rw [b,c.2],c.1⟩
 ·cases hc
theorem j4.UG {q:Addr}{o:HO}(h:rM K G d q o):j4 false K G d (.ref q) [(q,o)]:=.inl ⟨q,o,[],rfl,rfl,h,rfl⟩
def GP:PyData->Bool
 | .list []=>true
 | .dict []=>true
 | _=>false
theorem rM.gen {q:Addr}{o:HO}(h:rM K G d q o)(hd:dp=false∨GP d=true):sf dp K G d q o []:=by
 cases dp with
 | false=>exact⟨h,rfl⟩
 | true =>
  have hd:=hd.resolve_left (by simp)
  rcases h with ⟨ds,vs,rfl,rfl,c⟩ | ⟨fE,kv,rfl,rfl,c⟩
  ·cases ds with
   | nil=>exact .inl ⟨[],vs,rfl,rfl,fz.gn.mp c,rfl⟩
   | cons a l=>cases hd
  ·cases fE with
   | nil=>exact .inr ⟨[],kv,rfl,rfl,gY.gn.mp c,rfl⟩
   | cons a l=>cases hd
theorem sf.UH {q:Addr}{o:HO}{Bi:List (Addr×HO)}{c:Str}(h:sf dp K G (.dict ((.none,.str c)::r)) q o Bi):False:=by
 cases dp with
 | false =>
  rcases h with ⟨⟨_,_,e,_⟩ | ⟨fE,kv,e,_,i⟩,_⟩
  ·cases e
  ·cases e
   obtain⟨y,_,_,_,e,_⟩:=gY.fT.mp i
   cases y<;>cases e
 | true =>
  rcases h with ⟨_,_,e,_⟩ | ⟨fE,kv,e,_,i⟩
  ·cases e
  ·cases e
   obtain⟨y,v,r',B1,B2,a,a2,_⟩:=i
   cases y<;>cases a2
theorem j4.inst {c:Str}(h:j4 dp K G (.dict ((.none,.str c)::r)) v B):∃ C p dx fs B',v=.ref p/\B=(p,.ins C dx fs)::(dx,.own p)::B'/\mX K c C/\kL K G c r fs B':=by
 rcases h with ⟨q,o,Bi,rfl,rfl,h⟩ | ⟨c',C,p,dx,fs,r',B',e,rfl,rfl,a4,a5⟩
 ·exact h.UH.elim
 ·cases e
  exact⟨C,p,dx,fs,B',rfl,rfl,a4,a5⟩
theorem GQ {c f:Str}{x:PyData}(h:MJ c f x=some d):∃ r,x=.dict ((.none,.str c)::r)/\nh c f=true/\qz f r=some d:=by
 unfold MJ at h
 split at h
 ·rename_i c' r
  by_cases hc:c'=c/\nh c f=true
  ·rw [ai hc] at h
   obtain⟨rfl,h2⟩:=hc
   exact⟨r,rfl,h2,h⟩
  ·rw [ao hc] at h;cases h
 ·cases h
def ud (O:List Nat):Pl->Bool
 | .sl _=>kM O
 | .fl _ c f=>qV c f
theorem iz.GS (f7:O.Nodup)(h:iz O K σ ρ H G){π:Pl}(hi:π.ix∈O)(hd:qB π ρ=some d)(hc:vV d=true) :
  ∃ q o Bi Bl Br,xr K σ H π q/\H=fO G (Bl++((q,o)::(Bi++Br)))/\kl G (Bl++((q,o)::(Bi++Br)))/\rQ Bl/\rQ Br/\sf (ud O π) K G d q o Bi /\
   ∀ G' d' o' yx,fV G G'->sf (ud O π) K G' d' q o' yx->kl G' (Bl++((q,o')::(yx++Br)))->iz O K σ (tS π d' ρ) (fO G' (Bl++((q,o')::(yx++Br)))) G':=by
 cases π with
 | sl i =>
  obtain⟨v,Bl,B1,Br,e1,e2,f,ot,k1,k2,cl,_⟩:=h.own f7 hi (join_some hd)
  rcases ot with ⟨q,o,Bi,rfl,rfl,og⟩ | ⟨c,C,p,dx,fs,r,B',rfl,_⟩
  ·exact⟨q,o,Bi,Bl,Br,e1,e2,f,k1,k2,og,fun G' d' o' yx sG og' fm=>cl G' d' ((q,o')::yx) sG (.inl ⟨q,o',yx,rfl,rfl,og'⟩) fm⟩
  ·cases hc
 | fl i c f =>
  obtain⟨x,ex,e0⟩:=bind_some hd
  obtain⟨r,rfl,hof,hg⟩:=GQ e0
  obtain⟨v,Bl,B1,Br,e1,e2,fm,ot,k1,k2,cl,_⟩:=h.own f7 hi (join_some ex)
  obtain⟨C,p,dx,fs,B',rfl,rfl,a4,a5⟩:=ot.inst
  obtain⟨q,o,Bi,Fl,Fr,l1,rfl,m1,m2,oc,XA⟩:=a5.split hof hg
  have e3:∀ (o':HO) (yx:List (Addr×HO)),Bl++(((p,HO.ins C dx fs)::(dx,HO.own p)::(Fl++((q,o')::(yx++Fr))))++Br)=(Bl++(p,HO.ins C dx fs)::(dx,HO.own p)::Fl)++((q,o')::(yx++(Fr++Br))):=fun o' yx=>by simp
  rw [e3] at e2 fm
  refine⟨q,o,Bi,_,_,⟨C,p,dx,fs,e1,a4,?_,l1⟩,e2,fm,k1.append (.ins m1),m2.append k2,oc,fun G' d' o' yx sG ML CB=>?_⟩
  ·rw [e2];exact gL fm.nd (p,.ins C dx fs) (by simp)
  ·have of':=XA G' d' o' yx sG ML
   have UI:j4 (kM O) K G' (.dict ((.none,.str c)::qU f d' r)) (.ref p) ((p,HO.ins C dx fs)::(dx,HO.own p)::(Fl++((q,o')::(yx++Fr)))):=.inr ⟨c,C,p,dx,fs,_,_,rfl,rfl,rfl,a4,of'⟩
   have:=cl G' _ _ sG UI (by rw [e3];exact CB)
   rw [e3] at this
   have es:tS (.fl i c f) d' ρ=ρ.set i (some (.dict ((.none,.str c)::qU f d' r))):=by
    show ρ.set i ((ρ[i]?).join.map (MK f d'))=_
    rw [ex];rfl
   rw [es]
   exact this
theorem iz.place (f7:O.Nodup)(h:iz O K σ ρ H G){π:Pl}(hi:π.ix∈O)(hd:qB π ρ=some d)(hc:vV d=true)(qC:ud O π=false) :
  ∃ q o,xr K σ H π q/\H q=some o/\rM K G d q o/\∀ d' o',rM K G d' q o'->iz O K σ (tS π d' ρ) (upd H q o') G:=by
 obtain⟨q,o,Bi,Bl,Br,r,eH,fm,k1,k2,og,cl⟩:=h.GS f7 hi hd hc
 rw [qC] at og cl
 obtain⟨oc,rfl⟩:=og
 refine⟨q,o,r,by rw [eH];exact gL fm.nd (q,o) (by simp),oc,fun d' o' ML=>?_⟩
 rw [bu] at eH fm
 rw [eH,qA fm.nd]
 exact cl G d' o' [] (.refl G) ⟨ML,rfl⟩ (fm.put (k1.append (.one ML.frm k2)))
end
inductive Md where
 | dat|own|io (dp:Bool) (v0:V)
def KO (K:Fg)(H:Hp)(d:PyData)(Q:VK):Prop:=∀ v G' B',fV H G'->kl G' B'->j4 false K G' d v B'->Q v (fO G' B')
theorem KO.later {K:Fg}{H':Hp}{Q:VK}(k:KO K H d Q)(e:fV H H'):KO K H' d Q:=fun v G' B' s f o=>k v G' B' (e.trans s) f o
structure lN (m:Md) (O:List Nat) (K:Fg) (σ:St) (ρ:fu) (H G:Hp):Prop where
 o:iz O K σ ρ H G
 z:∀ dp v0,m=.io dp v0->0∈O/\σ[0]?=some (some v0)/\kM O=dp
def Sm (m:Md)(K:Fg)(G:Hp)(d:PyData)(Q:VK):Prop:=match m with
 | .dat=>KD K G d Q
 | .own=>KO K G d Q
 | .io dp v0=>∃ x d0,d=.tuple [x,d0]/\∀ v G' B',fV G G'->kl G' B'->j4 dp K G' d0 v0 B'->fM K G' x v->Q v (fO G' B')
theorem Sm.later {m:Md}{K:Fg}{G G':Hp}{d:PyData}{Q:VK}(e:fV G G')(h:Sm m K G d Q):Sm m K G' d Q:=by
 cases m with
 | dat=>exact KD.later h e
 | own=>exact KO.later h e
 | io dp v0 =>
  obtain⟨x,d0,a,b⟩:=h
  exact⟨x,d0,a,fun v G2 B s f o i=>b v G2 B (e.trans s) f o i⟩
def P5 (m:Md)(O:List Nat)(K:Fg)(G:Hp)(D:Gi):gI->Prop
 | .nx ρ=>∀ σ H' G',fV G G'->lN m O K σ ρ H' G'->D.nx σ H'
 | .bk ρ=>∀ σ H' G',fV G G'->lN m O K σ ρ H' G'->D.bk σ H'
 | .ct ρ=>∀ σ H' G',fV G G'->lN m O K σ ρ H' G'->D.ct σ H'
 | .rt d=>Sm m K G d D.rt
theorem P5.later {m:Md}{O:List Nat}{K:Fg}{G G':Hp}{D:Gi}(e:fV G G'):∀ {o:gI},P5 m O K G D o->P5 m O K G' D o
 | .nx _,h=>fun σ H2 G2 e2 q=>h σ H2 G2 (e.trans e2) q
 | .bk _,h=>fun σ H2 G2 e2 q=>h σ H2 G2 (e.trans e2) q
 | .ct _,h=>fun σ H2 G2 e2 q=>h σ H2 G2 (e.trans e2) q
 | .rt _,h=>Sm.later e h
def tO (m:Md)(O:List Nat)(K:Fg)(g:fu->Option gI):TS:=fun D σ H=>∃ ρ o G,lN m O K σ ρ H G/\g ρ=some o/\P5 m O K G D o
def uN (X:Cx)(m:Md)(O:List Nat)(st:Stmt)(g:fu->Option gI):Prop:=PS X st (tO m O X.K g)
def tU (X:Cx)(m:Md)(O:List Nat)(st:List Stmt)(g:fu->Option gI):Prop:=Al X st (tO m O X.K g)
def nO:PyData->Bool
 | .list _=>false
 | .tuple _=>false
 | .dict _=>false
 | _=>true
theorem fM.km {K:Fg}{H':Hp}(h:nO d=true)(i:fM K H d v):fM K H' d v:=by
 cases d<;>first|(cases h;done)|(unfold fM at i ⊢;exact i)
theorem fz.km {K:Fg}{H H':Hp}:∀ {ds:Lp}{vs:List V},ds.all nO=true->fz K H ds vs->fz K H' ds vs
 | [],_,_,i=>by rw [fz.gn.mp i];exact fz.nil
 | d::ds,_,h,i=>by
  obtain⟨v,r,rfl,a,b⟩:=fz.fT.mp i
  simp only [List.all_cons,aX] at h
  exact fz.cons (fM.km h.1 a) (fz.km h.2 b)
section
variable {m:Md}{a b c:Expr}{fa fb fc:fu->Od}{p2:Pos}{rest:List Stmt}{g h:fu->Option gI}{gc:fu->Option Bool}
def PV (X:Cx)(O:List Nat)(e:Expr)(h:fu->Od):Prop:=PE X e (fun σ H Q=>∃ ρ d G,iz O X.K σ ρ H G/\h ρ=some d/\∀ v H' G',fV H H'->fV G G'->iz O X.K σ ρ H' G'->fM X.K G' d v->Q v H')
def gd (O:List Nat)(f:fu->Od):fu->Od:=fun ρ=>f (jb O ρ)
def Gd (f:fu->Od):fu->Od:=fun ρ=>(f ρ).bind fun d=>if nO d=true then some d else none
theorem uz {G':Hp}(nd:(B.map (·.1)).Nodup)(e:fV G G'):fV (fO G B) (fO G' B):=fun a o h=>by
 rcases wU (a:=a) B with ⟨x,hx,rfl⟩|h'
 ·rw [gL nd x hx] at h ⊢;exact h
 ·rw [iy h'] at h ⊢;exact e a o h
theorem fC (he:PD X e f):PV X O e (gd O f) :=
 PE.imp (PE.frame he) fun σ H Q ⟨ρ,d,G,hs,e1,k⟩=>by
  obtain⟨B,eH,fm,own⟩:=hs.ex
  refine⟨G,B,eH,fm,jb O ρ,d,hs.rest,e1,fun v G' sG i CB=>?_⟩
  subst eH
  exact k v _ G' (uz fm.nd sG) sG (iz.vU hs.len own hs.lJ sG CB) i
theorem Ez (h:Gd f ρ=some d):f ρ=some d/\nO d=true:=by
 obtain⟨x,e1,e2⟩:=bind_some h
 by_cases hx:nO x=true
 ·rw [ai hx] at e2;cases e2;exact⟨e1,hx⟩
 ·rw [ao hx] at e2;cases e2
theorem Bq (he:PD X e f):PV X O e (Gd f) :=
 PE.imp he fun σ H Q ⟨ρ,d,G,hs,e1,k⟩=>by
  obtain⟨e2,e3⟩:=Ez e1
  refine⟨ρ,d,hs.full,e2,fun v H' s' i=>?_⟩
  obtain⟨G',sG,_,lZ⟩:=hs.grow s'
  exact k v H' G' s' sG lZ (i.km e3)
def PF (X:Cx)(e:Expr)(f:fu->Od):Prop:=PE X e (fun σ H Q=>∃ ρ d,ka X.K H σ ρ/\f ρ=some d/\KO X.K H d Q)
def XB (X:Cx)(O:List Nat)(e:Expr)(h:fu->Od):Prop:=PE X e (fun σ H Q=>∃ ρ d G,iz O X.K σ ρ H G/\h ρ=some d/\∀ v H' G' B',fV H H'->fV G G'->iz O X.K σ ρ H' G'->kl H' B'->j4 false X.K G' d v B'->Q v (fO H' B'))
theorem jh (he:PF X e f):XB X O e (gd O f) :=
 PE.imp (PE.frame he) fun σ H Q ⟨ρ,d,G,hs,e1,k⟩=>by
  obtain⟨B,eH,fm,own⟩:=hs.ex
  refine⟨G,B,eH,fm,jb O ρ,d,hs.rest,e1,fun v G' B' sG fB ot CB=>?_⟩
  have f1:kl G' (B++B'):=fB.join CB
  have f2:kl G' (B'++B):=f1.perm aU (ot.oO.append fm.ok)
  have e2:fO (fO G' B') B=fO (fO G' B) B':=by rw [← iI,← iI];exact ja f1.nd aU
  rw [e2]
  subst eH
  exact k v _ G' B' (uz fm.nd sG) sG (iz.vU hs.len own hs.lJ sG (f2.Ew fm.ok)) (f2.Eu ot.oO) ot
def As:PyData->Bool
 | .list ds=>ds.all nO
 | _=>false
def MM (f:fu->Od):fu->Od:=fun ρ=>(f ρ).bind fun d=>if As d=true then some d else none
theorem MN (he:PF X e f):XB X O e (MM f) :=
 PE.imp he fun σ H Q ⟨ρ,d,G,hs,e1,k⟩=>by
  obtain⟨x,e2,e3⟩:=bind_some e1
  by_cases hx:As x=true
  ·rw [ai hx] at e3;cases e3
   refine⟨ρ,d,hs.full,e2,fun v G' B' sG fB ot=>?_⟩
   obtain⟨G2,xt,_,lZ⟩:=hs.grow sG
   refine k v G' G2 B' sG xt lZ fB ?_
   cases d<;>try (simp [As] at hx;done)
   rename_i ds
   obtain⟨q,o,rfl,rfl,oc⟩:=ot.cont rfl
   rcases oc with ⟨Wc,vs,e4,rfl,i⟩ | ⟨_,_,e4,_⟩
   ·cases e4
    exact j4.UG (.inl ⟨_,vs,rfl,rfl,i.km hx⟩)
   ·cases e4
  ·rw [ao hx] at e3;cases e3
theorem lu (ha:Ct X es ff):PF X (.List es pos) (fH ff) :=
 PE.imp (L4 ha) fun σ H Q ⟨ρ,d,hs,e,k⟩=>by
  obtain⟨ds,e1,e2⟩:=bind_some e
  refine⟨ρ,ds,hs,e1,fun vs H1 s1 i1=>?_⟩
  by_cases hz:ds.length<=sizeLine
  ·first
   | (rw [ai hz] at e2;cases e2)
   | (cases e2)
   refine⟨by rw [← i1.length];exact hz,fun p hp=>?_⟩
   exact k (.ref p) H1 [(p,.lst vs)] s1 ⟨by simp,(fun x hx=>by simp at hx;subst hx;exact hp),.one aO .nil⟩ (j4.UG (.inl ⟨_,vs,rfl,rfl,i1⟩))
  ·rw [ao hz] at e2;cases e2
theorem yA:PF X (.Dict [] [] pos) (dC (.dict [])) :=
 PE.imp Mg fun σ H Q ⟨ρ,d,hs,e,k⟩=>by
  cases e
  intro p hp
  exact k (.ref p) H [(p,.dK [])] (.refl H) ⟨by simp,(fun x hx=>by simp at hx;subst hx;exact hp),.one aO .nil⟩ (j4.UG (.inr ⟨[],[],rfl,rfl,gY.gn.mpr rfl⟩))
theorem fA:tU X m O [] gK:=Al.imp OT fun D σ H ⟨ρ,o,G,hs,e,k⟩=>by cases e;exact k σ H G (.refl G) hs
theorem fi (h1:uN X m O st g)(h2:tU X m O rest h):tU X m O (st::rest) (fy g h) :=
 Al.imp (LI h1 h2) fun D σ H ⟨ρ,o,G,hs,e,k⟩=>by
  obtain⟨o1,e1,e2⟩:=bind_some e
  refine⟨ρ,o1,G,hs,e1,?_⟩
  cases o1 with
  | nx ρ'=>exact fun σ' H' G' s' lZ=>⟨ρ',o,G',lZ,e2,k.later s'⟩
  | rt d=>cases e2;exact k
  | bk ρ'=>cases e2;exact k
  | ct ρ'=>cases e2;exact k
theorem fo (h1:uN X m O st g):tU X m O [st] g:=Al.imp (OU h1) fun D σ H h=>h
theorem fF (h:PD X e f):uN X .dat O (.Return (some e) pos) (gu f) :=
 PS.imp (x6 h) fun D σ H ⟨ρ,o,G,hs,e,k⟩=>by
  obtain⟨d,e1,rfl⟩:=aj.mp e
  exact⟨ρ,d,hs.o.full,e1,fun v H' s' i=>KD.later k (hs.o.sub.trans s') |>.here i⟩
theorem qD (h:PF X e f):uN X .own O (.Return (some e) pos) (gu f) :=
 PS.imp (x6 h) fun D σ H ⟨ρ,o,G,hs,e,k⟩=>by
  obtain⟨d,e1,rfl⟩:=aj.mp e
  exact⟨ρ,d,hs.o.full,e1,KO.later k hs.o.sub⟩
theorem MO (i:Nat) {ep:Pos} (f7:O.Nodup) (hO:i∈O:=by decide) (qC:kM O=false:=by rfl) (hN:X.N[i]?=some x:=by rfl) (hv:LA X.env.scope x:=by first|exact b5 rfl|exact bO (b5 rfl)|exact bO (bO rfl)) (hd:zg x:=by decide)
  (xR:(x==("__classdict__":Str))=false:=by decide):uN X .own O (.Return (some (.Name x ep)) pos) (gu (fh i)) :=
 PS.imp (x6 (ur hN hv hd xR)) fun D σ H ⟨ρ,o,G,hs,e,k⟩=>by
  obtain⟨d,e1,rfl⟩:=aj.mp e
  obtain⟨v,Bl,B1,Br,e2,eH,f,ot,k1,k2,_,_⟩:=hs.o.own f7 hO (join_some e1)
  rw [qC] at ot
  refine⟨v,e2,?_⟩
  have perm:(Bl++(B1++Br)).Perm (B1++(Bl++Br)):=by
   rw [← aN,← aN]
   exact dm _ aU
  have f2:kl G (B1++(Bl++Br)):=f.perm perm (ot.oO.append (k1.append k2))
  rw [eH,ja f.nd perm,iI]
  have f3:=f2.Ew (k1.append k2)
  exact(show KO X.K G d D.rt from k) v _ B1 f3.same (f2.Eu ot.oO) (ot.same f3.same)
theorem fJ {sa sb:List Stmt}(hc:Gb X c gc)(ha:tU X m O sa g)(hb:tU X m O sb h):uN X m O (.If c sa sb pos) (i9 gc g h) :=
 PS.imp (R8 hc ha hb) fun D σ H ⟨ρ,o,G,hs,e,k⟩=>by
  obtain⟨y,e1,e2⟩:=bind_some e
  refine⟨ρ,y,hs.o.full,e1,fun H1 s1=>?_⟩
  obtain⟨G1,sG,_,Bh⟩:=hs.o.grow s1
  cases y with
  | true=>rw [ai rfl];exact⟨ρ,o,G1,⟨Bh,hs.z⟩,e2,k.later sG⟩
  | false=>rw [ao aQ];exact⟨ρ,o,G1,⟨Bh,hs.z⟩,e2,k.later sG⟩
def yB:fu->Option gI:=fun _=>none
theorem vW:uN X m O st yB:=PS.imp LJ fun D σ H ⟨ρ,o,G,hs,e,k⟩=>by cases e
theorem lN.set {K:Fg}{σ:St}{ρ:fu}{H G:Hp}{i:Nat}{d:PyData}{v:V}(h:lN m O K σ ρ H G)(hi:i∉O)(e:fM K G d v):lN m O K (σ.set i (some v)) (ρ.set i (some d)) H G :=
 ⟨h.o.set hi e,fun dp v0 z=>by
  obtain⟨z1,z2,z3⟩:=h.z dp v0 z
  have h0:i≠0:=fun q=>hi (q▸z1)
  exact⟨z1,by rw [av h0];exact z2,z3⟩⟩
def fL (f:fu->Od)(i:Nat):fu->Option gI:=fun ρ=>(f ρ).map fun d=>.nx (ρ.set i (some d))
theorem fG (i:Nat) {pos':Pos} (hN:X.N.Nodup) (he:PV X O e f) (hO:i∉O:=by decide) (hi:X.N[i]?=some x:=by rfl) (hx:Gg X.env.scope x:=by first|exact b5 rfl|exact bO rfl) (hs:swapsWith e (some (.Name x pos')) pos.line X.env=pure false:=by rfl)
  (hf:X.fn x=true∨X.env.scope.names.lookup x=some .local:=by first|exact .inl rfl|exact .inr rfl|assumption):uN X m O (.Assign [.Name x pos'] e pos) (fL f i) :=
 PS.imp (LM hN hi hx he hs hf) fun D σ H ⟨ρ,o,G,hs,e,k⟩=>by
  obtain⟨d,e1,rfl⟩:=aj.mp e
  exact⟨ρ,d,G,hs.o,e1,fun v H' G' _ sG lZ i'=>k _ H' G' sG (lN.set ⟨lZ,hs.z⟩ hO i')⟩
def jA (f:fu->Od)(i:Nat):fu->Option gI:=fun ρ=>(f ρ).bind fun d=>if i<ρ.length then some (.nx (ρ.set i (some d))) else none
theorem iM (i:Nat) {pos':Pos} (hN:X.N.Nodup) (f7:O.Nodup) (he:XB X O e f) (hO:i∈O:=by decide) (qC:kM O=false:=by rfl) (h0:i≠0∨m=.dat∨m=.own:=by first|exact .inl (by decide)|exact .inr (.inl rfl)|exact .inr (.inr rfl)) (hi:X.N[i]?=some x:=by rfl) (hx:Gg X.env.scope x:=by first|exact b5 rfl|exact bO rfl) (hs:swapsWith e (some (.Name x pos')) pos.line X.env=pure false:=by rfl)
  (hf:X.fn x=true∨X.env.scope.names.lookup x=some .local:=by first|exact .inl rfl|exact .inr rfl|assumption):uN X m O (.Assign [.Name x pos'] e pos) (jA f i) :=
 PS.imp (LM hN hi hx he hs hf) fun D σ H ⟨ρ,o,G,hs,e,k⟩=>by
  obtain⟨d,e1,e2⟩:=bind_some e
  by_cases hz:i<ρ.length
  ·rw [ai hz] at e2;cases e2
   refine⟨ρ,d,G,hs.o,e1,fun v H' G' B' _ sG lZ fB ot=>?_⟩
   rw [← qC] at ot
   obtain⟨G2,s2,h2⟩:=lZ.new f7 hO hz ot fB
   refine k _ _ G2 (sG.trans s2) ⟨h2,fun dp v0 z=>?_⟩
   rcases h0 with h0|h0|h0
   ·rw [av h0];exact hs.z dp v0 z
   ·rw [h0] at z;cases z
   ·rw [h0] at z;cases z
  ·rw [ao hz] at e2;cases e2
def PP (X:Cx)(e:Expr)(π:Pl):Prop:=PE X e (fun σ H Q=>∃ q,xr X.K σ H π q/\Q (.ref q) H)
theorem jB (i:Nat) (hN:X.N[i]?=some x:=by rfl) (hv:LA X.env.scope x:=by first|exact b5 rfl|exact bO (b5 rfl)|exact bO (bO rfl)) (hd:zg x:=by decide)
  (xR:(x==("__classdict__":Str))=false:=by decide):PP X (.Name x pos) (.sl i):=PE.imp (ur hN hv hd xR) fun σ H Q ⟨q,r,k⟩=>⟨_,r,k⟩
theorem Bs (i:Nat) {c n:Str}{ep:Pos} (hC:kG X.K c n) (hN:X.N[i]?=some x:=by rfl) (hv:LA X.env.scope x:=by first|exact b5 rfl|exact bO (b5 rfl)|exact bO (bO rfl)) (hd:zg x:=by decide)
  (xR:(x==("__classdict__":Str))=false:=by decide) (hb:attributeBase (.Name x ep) n X.env (eval (.Name x ep) X.env)=eval (.Name x ep) X.env:=by rfl):PP X (.Attribute (.Name x ep) n pos) (.fl i c n) :=
 PE.imp (LY (ur hN hv hd xR) hb) fun σ H Q ⟨q,⟨C,p,dx,fs,e1,e2,e3,e4⟩,k⟩=>by
  obtain⟨C',g1,g2,g3⟩:=hC
  have:=e2.uniq g1
  subst this
  exact⟨_,e1,p,C,dx,fs,_,rfl,e3,g2,g3,e4,k⟩
theorem rM.lst {K:Fg}{G:Hp}{ds:Lp}{q:Addr}{o:HO}(h:rM K G (.list ds) q o):∃ vs,o=.lst vs/\fz K G ds vs:=by
 rcases h with ⟨Wc,vs,e,e2,i⟩ | ⟨_,_,e,_⟩
 ·cases e;exact⟨vs,e2,i⟩
 ·cases e
theorem rM.dct {K:Fg}{q:Addr}{o:HO}(h:rM K G (.dict fE) q o):∃ kv,o=.dK kv/\gY K G fE kv:=by
 rcases h with ⟨Wc,vs,e,e2,i⟩ | ⟨_,kv,e,e2,i⟩
 ·cases e
 ·cases e;exact⟨kv,e2,i⟩
theorem xr.eq {K:Fg}{H':Hp}{π:Pl}{q q':Addr}(h:xr K σ H π q)(h':xr K σ H' π q')(e:fV H H'):q=q':=by
 cases π with
 | sl i =>
  have e1:σ[i]?=some (some (.ref q)):=h
  have e2:σ[i]?=some (some (.ref q')):=h'
  rw [e1] at e2;cases e2;rfl
 | fl i c f =>
  obtain⟨C,p,dx,fs,a1,a2,a3,a4⟩:=h
  obtain⟨C',p',dx',Ak,b1,b2,b3,b4⟩:=h'
  rw [a1] at b1;cases b1
  rw [e _ _ a3] at b3;cases b3
  rw [a4] at b4;cases b4;rfl
def gz (π:Pl)(f:fu->Od):fu->Option gI:=fun ρ=>(qB π ρ).bind fun l=>(f ρ).bind fun d=>match l with
 | .list ds=>if ds.length<sizeLine then some (.nx (tS π (.list (ds++[d])) ρ)) else none
 | _=>none
theorem gG {π:Pl}{apos gJ:Pos} (f7:O.Nodup) (ho:PP X o π) (he:PV X O e f) (hO:π.ix∈O:=by decide) (qC:ud O π=false:=by rfl) (Af:starEach [e] X.env=(false,eval e X.env)::starEach [] X.env:=by rfl)
  (mf:attributeBase o "append" X.env (eval o X.env)=eval o X.env:=by rfl)
  (yf:((backTo gJ (starEach [e] X.env)).all (fun x=>!x.1)&&(backToKw gJ (keywordEach [] X.env)).all (fun x=>x.1.isSome)&&decide (([e]:Lx).length+([]:List Keyword).length+(if ([]:List Keyword).isEmpty then 0 else 1)<30))=true:=by rfl)
  (mh:(apos.endLine==gJ.line)=true:=by rfl) (oR:(backTo gJ (starEach [] X.env)).any (·.1)=false:=by rfl)
  (hs:swapsWith (.Call (.Attribute o "append" apos) [e] [] gJ) none pos.line X.env=pure false:=by rfl) :
  uN X m O (.Expr (.Call (.Attribute o "append" apos) [e] [] gJ) pos) (gz π f) :=
 PS.imp (qN (Ee bE PySem.F.slot_list_append PySem.F.type_list_append A9 ho (nB he rY Af) mf yf mh Af oR) hs) fun D σ H ⟨ρ,o,G,hs,e,k⟩=>by
  obtain⟨l,e1,ea⟩:=bind_some e
  obtain⟨d,e2,eb⟩:=bind_some ea
  obtain⟨ds,rfl⟩:∃ ds,l=.list ds:=by cases l<;>first|exact⟨_,rfl⟩|cases eb
  dsimp only at eb
  by_cases hz:ds.length<sizeLine
  ·rw [ai hz] at eb
   cases eb
   obtain⟨q,ob,r,hq,oc,_⟩:=hs.o.place f7 hO e1 rfl qC
   obtain⟨vs,rfl,i4⟩:=oc.lst
   refine⟨q,r,.inl ⟨rfl,vs,qd.of hq⟩,ρ,d,G,hs.o,e2,fun v H' G' sH sG lZ i'=>?_⟩
   obtain⟨q',ob',r',DZ,ML,cl⟩:=lZ.place f7 hO e1 rfl qC
   have:=xr.eq r r' sH
   subst this
   obtain⟨Bp,rfl,XC⟩:=ML.lst
   refine⟨q,Bp,v,rfl,rfl,DZ,by rw [← XC.length];exact hz,?_⟩
   exact k _ _ G' sG ⟨cl _ _ (.inl ⟨_,_,rfl,rfl,XC.append (fz.cons i' fz.nil)⟩),hs.z⟩
  ·rw [ao hz] at eb;cases eb
end
section
variable {m:Md}{a b c:Expr}{fa fb fc:fu->Od}{p2:Pos}{rest:List Stmt}{g h:fu->Option gI}{gc:fu->Option Bool}
def Kk (π:Pl):fu->Option gI:=fun ρ=>(qB π ρ).bind fun l=>match l with
 | .list ds=>if ds.isEmpty=true then none else some (.nx (tS π (.list ds.dropLast) ρ))
 | _=>none
theorem fz.dropLast {K:Fg}{H:Hp}{ds:Lp}{vs:List V}(h:fz K H ds vs):fz K H ds.dropLast vs.dropLast:=by
 rw [List.dropLast_eq_take,List.dropLast_eq_take,h.length]
 exact h.take _
theorem Jb {π:Pl}{apos gJ:Pos} (f7:O.Nodup) (ho:PP X o π) (hO:π.ix∈O:=by decide) (qC:ud O π=false:=by rfl)
  (mf:attributeBase o "pop" X.env (eval o X.env)=eval o X.env:=by rfl) (mh:(apos.endLine==gJ.line)=true:=by rfl)
  (hs:swapsWith (.Call (.Attribute o "pop" apos) [] [] gJ) none pos.line X.env=pure false:=by rfl) :
  uN X m O (.Expr (.Call (.Attribute o "pop" apos) [] [] gJ) pos) (Kk π) :=
 PS.imp (qN (GB bE PySem.F.slot_list_pop PySem.F.type_list_pop T6 ho mf mh) hs) fun D σ H ⟨ρ,o,G,hs,e,k⟩=>by
  obtain⟨l,e1,eb⟩:=bind_some e
  obtain⟨ds,rfl⟩:∃ ds,l=.list ds:=by cases l<;>first|exact⟨_,rfl⟩|cases eb
  dsimp only at eb
  by_cases hz:ds.isEmpty=true
  ·rw [ai hz] at eb;cases eb
  ·rw [ao hz] at eb
   cases eb
   obtain⟨q,ob,r,hq,oc,cl⟩:=hs.o.place f7 hO e1 rfl qC
   obtain⟨vs,rfl,i4⟩:=oc.lst
   have hl:vs.length - 1<vs.length:=by
    have:=i4.length
    have:ds≠[]:=fun z=>hz (by rw [z];rfl)
    have:=bt.mpr this
    omega
   exact⟨q,r,.inl ⟨rfl,vs,qd.of hq⟩,q,vs,_,rfl,rfl,hq,aE hl,k _ _ G (.refl G) ⟨cl _ _ (.inl ⟨_,_,rfl,rfl,i4.dropLast⟩),hs.z⟩⟩
def XD:V->V->V->Hp->(Hp->Prop)->Prop:=fun o i v H Q=>∃ p kv k,o=.ref p/\i=kV k/\H p=some (.dK kv)/\kv.length<sizeLine/\Q (upd H p (.dK (pE kv k v)))
theorem UJ (hu:X.A.units+64<cLine):D5 X XD:=by
 intro pins s σ H o i v ov iv u Q I ro ri rv h
 obtain⟨p,kv,k,rfl,rfl,hp,hl,q⟩:=h
 cases ro
 exact Ke (by omega) I (Pk.k hp hl) ri rv fun s4 I4=>⟨_,I4,q⟩
theorem D5.or {t u:OX}(h:D5 X t)(h':D5 X u):D5 X (fun o i v H Q=>t o i v H Q∨u o i v H Q):=fun pins s σ H o i v ov iv uu Q I r1 r2 r3 q=>q.elim (@h pins s σ H o i v ov iv uu Q I r1 r2 r3) (@h' pins s σ H o i v ov iv uu Q I r1 r2 r3)
def vX (k d l:PyData):Od:=match l with
 | .list ds=>match k with
  | .int i=>(Ci ds.length i).map fun j=>.list (ds.set j d)
  | _=>none
 | .dict fE=>if fE.length<sizeLine/\hW fE=false then (sg k).map fun _=>.dict (Ex k d fE) else none
 | _=>none
def si (π:Pl)(fk fv:fu->Od):fu->Option gI:=fun ρ=>(qB π ρ).bind fun l=>(fv ρ).bind fun d=>(fk ρ).bind fun kd=>(vX kd d l).map fun l'=>.nx (tS π l' ρ)
theorem fz.set {K:Fg}{H:Hp}{d:PyData}{v:V}(i:fM K H d v):∀ {ds:Lp}{vs:List V} (j:Nat),fz K H ds vs->fz K H (ds.set j d) (vs.set j v)
 | [],_,_,h=>by rw [fz.gn.mp h];exact fz.nil
 | x::ds,_,j,h=>by
  obtain⟨u,r,rfl,a,b⟩:=fz.fT.mp h
  cases j with
  | zero=>exact fz.cons i b
  | succ j=>exact fz.cons a (fz.set i j b)
theorem nC (hu:X.A.units+64<cLine) {π:Pl}{Cf:Pos} (f7:O.Nodup) (ho:PP X o π) (hk:PV X O a fa) (he:PV X O e f) (hO:π.ix∈O:=by decide) (qC:ud O π=false:=by rfl)
  (ha:∀ v,assign (.Subscript o a Cf) X.env v=(do
   let ov ← holding [v] (eval o X.env)
   let iv ← holding [v,ov] (eval a X.env)
   standAt Cf
   holding [v,ov,iv] (setItem ov iv v)
   release [v,ov,iv] []):=by intro _;rfl)
  (hs:swapsWithSole [.Subscript o a Cf] e pos.line X.env=pure false:=by rfl) (hw:swappedStores [.Subscript o a Cf] e X.env=pure none:=by rfl)
  (h1:(assignEach [.Subscript o a Cf] X.env).map (·.2)=[assign (.Subscript o a Cf) X.env]:=by rfl) :
  uN X m O (.Assign [.Subscript o a Cf] e pos) (si π fa f) :=
 PS.imp (LK he (Tu ho hk (D5.or L8 (UJ hu)) ha) hs hw h1) fun D σ H ⟨ρ,o,G,hs,e,k⟩=>by
  obtain⟨l,e1,ea⟩:=bind_some e
  obtain⟨d,e2,eb⟩:=bind_some ea
  obtain⟨kd,e3,ec⟩:=bind_some eb
  obtain⟨l',e4,rfl⟩:=aj.mp ec
  have hc:vV l=true:=by
   cases l<;>try (simp [vX] at e4;done)
   ·rfl
   ·rename_i fE
    simp only [vX] at e4
    by_cases hz:fE.length<sizeLine/\hW fE=false
    ·show (!hW fE)=true
     rw [hz.2];rfl
    ·rw [ao hz] at e4;cases e4
  refine⟨ρ,d,G,hs.o,e2,fun v H1 G1 _ s1 Bh i1=>?_⟩
  obtain⟨q,ob,r,hq,oc,_⟩:=Bh.place f7 hO e1 hc qC
  refine⟨q,r,ρ,kd,G1,Bh,e3,fun kv H2 G2 sH s2 DY i2=>?_⟩
  obtain⟨q',ob',r',DZ,ML,cl⟩:=DY.place f7 hO e1 hc qC
  have:=xr.eq r r' sH
  subst this
  have i1':=i1.same s2
  cases l with
  | list ds =>
   obtain⟨vs,rfl,i4⟩:=ML.lst
   cases kd<;>try (simp [vX] at e4;done)
   rename_i j
   simp only [vX] at e4
   obtain⟨jj,e5,rfl⟩:=aj.mp e4
   refine .inl ⟨q,vs,j,jj,rfl,fM.fZ.mp i2,DZ,by rw [← i4.length];exact e5,?_⟩
   exact k _ _ G2 (s1.trans s2) ⟨cl _ _ (.inl ⟨_,_,rfl,rfl,i4.set i1' jj⟩),hs.z⟩
  | dict fE =>
   obtain⟨kvv,rfl,i4⟩:=ML.dct
   simp only [vX] at e4
   by_cases hz:fE.length<sizeLine/\hW fE=false
   ·rw [ai hz] at e4
    obtain⟨ky,e5,rfl⟩:=aj.mp e4
    have:=js e5
    subst this
    refine .inr ⟨q,kvv,ky,rfl,jO i2,DZ,by rw [← i4.length];exact hz.1,?_⟩
    exact k _ _ G2 (s1.trans s2) ⟨cl _ _ (.inr ⟨_,_,rfl,rfl,i4.put i1'⟩),hs.z⟩
   ·rw [ao hz] at e4;cases e4
  | _=>cases hc
def CC (π:Pl)(f:fu->Od):fu->Option gI:=fun ρ=>(qB π ρ).bind fun l=>(f ρ).bind fun d=>match l,d with
 | .list ds,.list es=>if ds.length+es.length<=sizeLine then some (.nx (tS π (.list (ds++es)) ρ)) else none
 | _,_=>none
theorem GU {π:Pl}{apos gJ:Pos} (f7:O.Nodup) (ho:PP X o π) (he:XB X O e f) (hO:π.ix∈O:=by decide) (qC:ud O π=false:=by rfl) (Af:starEach [e] X.env=(false,eval e X.env)::starEach [] X.env:=by rfl)
  (mf:attributeBase o "extend" X.env (eval o X.env)=eval o X.env:=by rfl)
  (yf:((backTo gJ (starEach [e] X.env)).all (fun x=>!x.1)&&(backToKw gJ (keywordEach [] X.env)).all (fun x=>x.1.isSome)&&decide (([e]:Lx).length+([]:List Keyword).length+(if ([]:List Keyword).isEmpty then 0 else 1)<30))=true:=by rfl)
  (mh:(apos.endLine==gJ.line)=true:=by rfl) (oR:(backTo gJ (starEach [] X.env)).any (·.1)=false:=by rfl)
  (hs:swapsWith (.Call (.Attribute o "extend" apos) [e] [] gJ) none pos.line X.env=pure false:=by rfl) :
  uN X m O (.Expr (.Call (.Attribute o "extend" apos) [e] [] gJ) pos) (CC π f) :=
 PS.imp (qN (Ee bE PySem.F.slot_list_extend PySem.F.type_list_extend J5 ho (nB he rY Af) mf yf mh Af oR) hs) fun D σ H ⟨ρ,o,G,hs,e,k⟩=>by
  obtain⟨l,e1,ea⟩:=bind_some e
  obtain⟨d,e2,eb⟩:=bind_some ea
  obtain⟨ds,rfl⟩:∃ ds,l=.list ds:=by cases l<;>first|exact⟨_,rfl⟩|(cases d<;>cases eb)
  obtain⟨es,rfl⟩:∃ es,d=.list es:=by cases d<;>first|exact⟨_,rfl⟩|cases eb
  dsimp only at eb
  by_cases hz:ds.length+es.length<=sizeLine
  ·rw [ai hz] at eb
   cases eb
   obtain⟨q,ob,r,hq,oc,_⟩:=hs.o.place f7 hO e1 rfl qC
   obtain⟨vs,rfl,i4⟩:=oc.lst
   refine⟨q,r,.inl ⟨rfl,vs,qd.of hq⟩,ρ,_,G,hs.o,e2,fun v H' G' B' sH sG lZ fB ot=>?_⟩
   obtain⟨b,ob,rfl,rfl,oc2⟩:=ot.cont rfl
   obtain⟨zs,rfl,i5⟩:=oc2.lst
   obtain⟨G2,s2,g2,DY⟩:=lZ.grow fB.same
   obtain⟨q',ob',r',DZ,ML,cl⟩:=DY.place f7 hO e1 rfl qC
   have:=xr.eq r r' (sH.trans fB.same)
   subst this
   obtain⟨Bp,rfl,XC⟩:=ML.lst
   refine⟨q,b,Bp,zs,rfl,rfl,DZ,gL fB.nd (b,.lst zs) (by simp),by rw [← XC.length,← i5.length];exact hz,?_⟩
   exact k _ _ G2 (sG.trans s2) ⟨cl _ _ (.inl ⟨_,_,rfl,rfl,XC.append (i5.same s2)⟩),hs.z⟩
  ·rw [ao hz] at eb;cases eb
def jW (i:Nat)(c n:Str)(f:fu->Od):fu->Option gI:=fun ρ=>(ρ[i]?).join.bind fun x=>(f ρ).bind fun d=>match x with
 | .dict ((.none,.str c')::r)=>if c'=c/\nh c n=false/\r.length<1000 then some (.nx (ρ.set i (some (.dict ((.none,.str c)::qU n d r))))) else none
 | _=>none
theorem jw (i:Nat) {c n:Str}{pos' ep:Pos} (f7:O.Nodup) (hC:kG X.K c n) (he:PV X O e f) (hO:i∈O:=by decide) (hN:X.N[i]?=some x:=by rfl) (hv:LA X.env.scope x:=by first|exact b5 rfl|exact bO (b5 rfl)|exact bO (bO rfl)) (hd:zg x:=by decide)
  (xR:(x==("__classdict__":Str))=false:=by decide) (hs:swapsWith e (some (.Attribute (.Name x ep) n pos')) pos.line X.env=pure false:=by rfl) :
  uN X m O (.Assign [.Attribute (.Name x ep) n pos'] e pos) (jW i c n f) :=
 PS.imp (LZ (ur hN hv hd xR) he hs) fun D σ H ⟨ρ,o,G,hs,e,k⟩=>by
  obtain⟨y,e1,ea⟩:=bind_some e
  obtain⟨d,e2,eb⟩:=bind_some ea
  obtain⟨C',g1,g2,g3⟩:=hC
  split at eb
  ·rename_i c' r
   by_cases hz:c'=c/\nh c n=false/\r.length<1000
   ·rw [ai hz] at eb;cases eb
    obtain⟨rfl,Wd,hz3⟩:=hz
    refine⟨ρ,d,G,hs.o,e2,fun v H' G' _ sG lZ i'=>?_⟩
    obtain⟨v0,Bl,B1,Br,e3,eH,fm,ot,k1,k2,cl,_⟩:=lZ.own f7 hO (join_some e1)
    obtain⟨C,p,dx,fs,B',rfl,rfl,a4,a5⟩:=ot.inst
    have:=a4.uniq g1
    subst this
    have e4:∀ o':HO,Bl++(((p,o')::(dx,HO.own p)::B')++Br)=Bl++(p,o')::((dx,HO.own p)::B'++Br):=fun o'=>by simp
    rw [e4] at eH fm
    refine⟨_,e3,p,C,dx,fs,rfl,by rw [eH];exact gL fm.nd (p,.ins C dx fs) (by simp),g2,g3,by rw [a5.len];exact hz3,?_⟩
    have UI:j4 (kM O) X.K G' (.dict ((.none,.str c')::qU n d r)) (.ref p) ((p,.ins C dx (oQ n v fs))::(dx,.own p)::B'):=.inr ⟨c',C,p,dx,_,_,B',rfl,rfl,rfl,a4,a5.put Wd i'⟩
    rw [eH,qA fm.nd,← e4]
    exact k _ _ G' sG ⟨cl G' _ _ (.refl G') UI (by rw [e4];exact fm.put (by rw [← e4];exact k1.append (UI.oO.append k2))),hs.z⟩
   ·rw [ao hz] at eb;cases eb
  ·cases eb
def EA (i:Nat)(c n:Str)(f:fu->Od):fu->Option gI:=fun ρ=>(ρ[i]?).join.bind fun x=>(f ρ).bind fun d=>match x with
 | .dict ((.none,.str c')::r)=>if c'=c/\nh c n=true/\r.length<1000/\qz n r=none/\vV d=true/\(qV c n=false∨GP d=true) then some (.nx (ρ.set i (some (.dict ((.none,.str c)::qU n d r))))) else none
 | _=>none
theorem u5 (i:Nat) {c n:Str}{pos' ep:Pos} (f7:O.Nodup) (hC:kG X.K c n) (he:XB X O e f) (hO:i∈O:=by decide) (hN:X.N[i]?=some x:=by rfl) (hv:LA X.env.scope x:=by first|exact b5 rfl|exact bO (b5 rfl)|exact bO (bO rfl)) (hd:zg x:=by decide)
  (xR:(x==("__classdict__":Str))=false:=by decide) (hs:swapsWith e (some (.Attribute (.Name x ep) n pos')) pos.line X.env=pure false:=by rfl) :
  uN X m O (.Assign [.Attribute (.Name x ep) n pos'] e pos) (EA i c n f) :=
 PS.imp (LZ (ur hN hv hd xR) he hs) fun D σ H ⟨ρ,o,G,hs,e,k⟩=>by
  obtain⟨y,e1,ea⟩:=bind_some e
  obtain⟨d,e2,eb⟩:=bind_some ea
  obtain⟨C',g1,g2,g3⟩:=hC
  split at eb
  ·rename_i c' r
   by_cases hz:c'=c/\nh c n=true/\r.length<1000/\qz n r=none/\vV d=true/\(qV c n=false∨GP d=true)
   ·rw [ai hz] at eb;cases eb
    obtain⟨rfl,Wd,hz3,hz4,hz5,hz6⟩:=hz
    refine⟨ρ,d,G,hs.o,e2,fun v H' G' B2 _ sG lZ fB We=>?_⟩
    obtain⟨q,ob,rfl,rfl,oc⟩:=We.cont hz5
    obtain⟨v0,Bl,B1,Br,e3,eH,fm,ot,k1,k2,cl,_⟩:=lZ.own f7 hO (join_some e1)
    obtain⟨C,p,dx,fs,B',rfl,rfl,a4,a5⟩:=ot.inst
    have:=a4.uniq g1
    subst this
    have e4:∀ o':HO,Bl++(((p,o')::(dx,HO.own p)::(B'++[(q,ob)]))++Br)=Bl++(p,o')::((dx,HO.own p)::(B'++[(q,ob)])++Br):=fun o'=>by simp
    have perm:((q,ob)::(Bl++(((p,HO.ins C dx fs)::(dx,HO.own p)::B')++Br))).Perm (Bl++(((p,HO.ins C dx fs)::(dx,HO.own p)::(B'++[(q,ob)]))++Br)):=by
     have h1:Bl++(((p,HO.ins C dx fs)::(dx,HO.own p)::(B'++[(q,ob)]))++Br)=(Bl++((p,HO.ins C dx fs)::(dx,HO.own p)::B'))++((q,ob)::Br):=by simp
     have h2:(q,ob)::(Bl++(((p,HO.ins C dx fs)::(dx,HO.own p)::B')++Br))=(q,ob)::((Bl++((p,HO.ins C dx fs)::(dx,HO.own p)::B'))++Br):=by simp
     rw [h1,h2]
     exact List.perm_middle.symm
    have UK:rQ (Bl++(((p,HO.ins C dx fs)::(dx,HO.own p)::(B'++[(q,ob)]))++Br)):=k1.append ((rQ.ins (a5.oO.append (.one oc.frm .nil))).append k2)
    have ZG:kl G' ((q,ob)::(Bl++(((p,HO.ins C dx fs)::(dx,HO.own p)::B')++Br))):=by
     have:=fm.join (A:=[(q,ob)]) (by rw [← eH];exact fB)
     exact this
    have ZH:=ZG.perm perm UK
    have ZI:fO H' [(q,ob)]=fO G' (Bl++(((p,HO.ins C dx fs)::(dx,HO.own p)::(B'++[(q,ob)]))++Br)):=by
     rw [← ja ZG.nd perm,eH];rfl
    rw [e4] at ZI ZH
    rw [ZI]
    refine⟨_,e3,p,C,dx,fs,rfl,gL ZH.nd (p,.ins C dx fs) (by simp),g2,g3,by rw [a5.len];exact hz3,?_⟩
    have UI:j4 (kM O) X.K G' (.dict ((.none,.str c')::qU n d r)) (.ref p) ((p,.ins C dx (oQ n (.ref q) fs))::(dx,.own p)::(B'++[(q,ob)])):=.inr ⟨c',C,p,dx,_,_,_,rfl,rfl,rfl,a4,a5.add Wd (oc.gen hz6) hz4⟩
    rw [qA ZH.nd,← e4]
    exact k _ _ G' sG ⟨cl G' _ _ (.refl G') UI (by rw [e4];exact ZH.put (by rw [← e4];exact k1.append (UI.oO.append k2))),hs.z⟩
   ·rw [ao hz] at eb;cases eb
  ·cases eb
def Kl (i:Nat)(op:Int->Int->Int)(f:fu->Od):fu->Option gI:=fun ρ=>(ρ[i]?).join.bind fun x=>(f ρ).bind fun d=>match x,d with
 | .int a,.int b=>some (.nx (ρ.set i (some (.int (op a b)))))
 | _,_=>none
theorem xS (i:Nat) {pos':Pos}{op:Operator}{o:Int->Int->Int} (hN:X.N.Nodup) (ho:Zj X op (ipI o)) (he:PV X O e f) (hO:i∉O:=by decide) (hi:X.N[i]?=some x:=by rfl) (hx:Gg X.env.scope x:=by first|exact b5 rfl|exact bO rfl)
  (hf:X.fn x=true∨X.env.scope.names.lookup x=some .local:=by first|exact .inl rfl|exact .inr rfl|assumption):uN X m O (.AugAssign (.Name x pos') op e pos) (Kl i o f) :=
 PS.imp (Tw hN hi hx he ho hf) fun D σ H ⟨ρ,oo,G,hs,e,k⟩=>by
  obtain⟨y,e1,ea⟩:=bind_some e
  obtain⟨d,e2,eb⟩:=bind_some ea
  obtain⟨j,rfl⟩:∃ j,y=.int j:=by cases y<;>first|exact⟨_,rfl⟩|(cases d<;>cases eb)
  obtain⟨l,rfl⟩:∃ l,d=.int l:=by cases d<;>first|exact⟨_,rfl⟩|cases eb
  cases eb
  obtain⟨v,e3,e4⟩:=hs.o.lJ i _ (join_some e1) hO
  refine⟨v,e3,ρ,_,G,hs.o,e2,fun u H' G' _ sG lZ i'=>⟨j,l,fM.fZ.mp e4,fM.fZ.mp i',?_⟩⟩
  exact k _ _ G' sG (lN.set ⟨lZ,hs.z⟩ hO (fM.fZ.mpr rfl))
def GV (f:fu->Od):fu->Option gI:=fun ρ=>(f ρ).map fun _=>.nx ρ
theorem MP (h:PD X e f)(hs:swapsWith e none pos.line X.env=pure false:=by rfl):uN X m O (.Expr e pos) (GV f) :=
 PS.imp (qN h hs) fun D σ H ⟨ρ,o,G,hs,e,k⟩=>by
  obtain⟨d,e1,rfl⟩:=aj.mp e
  refine⟨ρ,d,hs.o.full,e1,fun v H1 s1 _=>?_⟩
  obtain⟨G1,sG,_,Bh⟩:=hs.o.grow s1
  exact k σ H1 G1 sG ⟨Bh,hs.z⟩
inductive Tg where
 | one (i:Nat)|many (is:List Nat)
def Tg.free (O:List Nat):Tg->Prop
 | .one i=>i∉O
 | .many is=>∀ i∈is,i∉O
instance {O:List Nat}:(t:Tg)->Decidable (t.free O)
 | .one i=>inferInstanceAs (Decidable (i∉O))
 | .many is=>inferInstanceAs (Decidable (∀ i∈is,i∉O))
def CD:fu->List Nat->Lp->fu
 | ρ,i::is,d::ds=>CD (ρ.set i (some d)) is ds
 | ρ,_,_=>ρ
def rN:Tg->PyData->fu->Option fu
 | .one i,d,ρ=>some (ρ.set i (some d))
 | .many is,.tuple ds,ρ=>if ds.length=is.length then some (CD ρ is ds) else none
 | _,_,_=>none
def CF:St->List Nat->List V->St
 | σ,i::is,v::vs=>CF (σ.set i (some v)) is vs
 | σ,_,_=>σ
def gT (K:Fg):Tg->TG
 | .one i=>Iz i
 | .many is=>fun v σ H Q=>∃ p xs,v=.ref p/\tm K H p xs/\xs.length=is.length/\Q (CF σ is xs) H
theorem lN.MQ {K:Fg}{H G:Hp}:∀ {is:List Nat}{σ:St}{ρ:fu}{ds:Lp}{vs:List V},lN m O K σ ρ H G->(∀ i∈is,i∉O)->fz K G ds vs->lN m O K (CF σ is vs) (CD ρ is ds) H G
 | [],σ,ρ,ds,vs,h,_,_=>by
  cases ds<;>cases vs<;>exact h
 | i::is,σ,ρ,[],vs,h,_,d=>by
  rw [fz.gn.mp d];exact h
 | i::is,σ,ρ,d::ds,vs,h,hi,Wc=>by
  obtain⟨v,r,rfl,i1,i2⟩:=fz.fT.mp Wc
  exact lN.MQ (is:=is) (σ:=σ.set i (some v)) (ρ:=ρ.set i (some d)) (h.set (hi i (by simp)) i1) (fun j hj=>hi j (af _ hj)) i2
theorem lN.bind {K:Fg}{ρ':fu}{tg:Tg}{Q:St->Hp->Prop}(h:lN m O K σ ρ H G)(hf:tg.free O)(i:fM K G d v)(e:rN tg d ρ=some ρ')(k:∀ σ',lN m O K σ' ρ' H G->Q σ' H):gT K tg v σ H Q:=by
 cases tg with
 | one j=>cases e;exact k _ (h.set hf i)
 | many is =>
  cases d<;>try (simp [rN] at e;done)
  rename_i ds
  dsimp only [rN] at e
  by_cases hl:ds.length=is.length
  ·rw [ai hl] at e
   cases e
   obtain⟨p,vs,rfl,e2,e3⟩:=i.iP
   exact⟨p,vs,rfl,h.o.sub.El e2,by rw [← e3.length];exact hl,k _ (h.MQ hf e3)⟩
  ·rw [ao hl] at e;cases e
theorem kH (i:Nat)(hN:X.N.Nodup)(hi:X.N[i]?=some x:=by rfl)(hx:Gg X.env.scope x:=by first|exact b5 rfl|exact bO rfl)(hf:X.fn x=true∨X.env.scope.names.lookup x=some .local:=by first|exact .inl rfl|exact .inr rfl|assumption):PG X (.Name x pos) (gT X.K (.one i)):=pI hN hi hx hf
theorem xT (i j:Nat) {y:Str}{px py:Pos}{kt:Nat} (hc:X.calm=true) (hN:X.N.Nodup) (hi:X.N[i]?=some x:=by rfl) (hj:X.N[j]?=some y:=by rfl) (hx:Gg X.env.scope x:=by first|exact b5 rfl|exact bO rfl) (hy:Gg X.env.scope y:=by first|exact b5 rfl|exact bO rfl)
  (hf:X.fn x=true∨X.env.scope.names.lookup x=some .local:=by first|exact .inl rfl|exact .inr rfl|assumption) (hf2:X.fn y=true∨X.env.scope.names.lookup y=some .local:=by first|exact .inl rfl|exact .inr rfl|assumption)
  (hn:(assignEach [.Name x px,.Name y py] X.env).length=2:=by rfl) (Af:(assignEach [.Name x px,.Name y py] X.env).findIdx? (·.1)=none:=by rfl):PG X (.Tuple [.Name x px,.Name y py] kt pos) (gT X.K (.many [i,j])) :=
 PG.imp (Gj hc (qu (pI hN hi hx hf) (qu (pI hN hj hy hf2) Cc)) hn Af) fun v σ H Q ⟨p,xs,e1,e2,e3,q⟩=>by
  refine⟨p,xs,e1,e2,e3,?_⟩
  match xs,e3 with
  | [v1,v2],_=>exact⟨v1,[v2],rfl,v2,[],rfl,rfl,q⟩
theorem vY (i j l:Nat) {y z:Str}{px py pz:Pos}{kt:Nat} (hc:X.calm=true) (hN:X.N.Nodup) (hi:X.N[i]?=some x:=by rfl) (hj:X.N[j]?=some y:=by rfl) (hl:X.N[l]?=some z:=by rfl) (hx:Gg X.env.scope x:=by first|exact b5 rfl|exact bO rfl) (hy:Gg X.env.scope y:=by first|exact b5 rfl|exact bO rfl) (hz:Gg X.env.scope z:=by first|exact b5 rfl|exact bO rfl)
  (hf:X.fn x=true∨X.env.scope.names.lookup x=some .local:=by first|exact .inl rfl|exact .inr rfl|assumption) (hf2:X.fn y=true∨X.env.scope.names.lookup y=some .local:=by first|exact .inl rfl|exact .inr rfl|assumption) (hf3:X.fn z=true∨X.env.scope.names.lookup z=some .local:=by first|exact .inl rfl|exact .inr rfl|assumption)
  (hn:(assignEach [.Name x px,.Name y py,.Name z pz] X.env).length=3:=by rfl) (Af:(assignEach [.Name x px,.Name y py,.Name z pz] X.env).findIdx? (·.1)=none:=by rfl):PG X (.Tuple [.Name x px,.Name y py,.Name z pz] kt pos) (gT X.K (.many [i,j,l])) :=
 PG.imp (Gj hc (qu (pI hN hi hx hf) (qu (pI hN hj hy hf2) (qu (pI hN hl hz hf3) Cc))) hn Af) fun v σ H Q ⟨p,xs,e1,e2,e3,q⟩=>by
  refine⟨p,xs,e1,e2,e3,?_⟩
  match xs,e3 with
  | [v1,v2,v3],_=>exact⟨v1,[v2,v3],rfl,v2,[v3],rfl,v3,[],rfl,rfl,q⟩
def Bt (f:fu->Od)(tg:Tg):fu->Option gI:=fun ρ=>(f ρ).bind fun d=>(rN tg d ρ).map .nx
theorem CG {t:Tg} (he:PV X O e f) (hg:PG X tg (gT X.K t)) (hO:t.free O) (hs:swapsWithSole [tg] e pos.line X.env=pure false:=by rfl) (hw:swappedStores [tg] e X.env=pure none:=by rfl)
  (h1:(assignEach [tg] X.env).map (·.2)=[assign tg X.env]:=by rfl):uN X m O (.Assign [tg] e pos) (Bt f t) :=
 PS.imp (LK he hg hs hw h1) fun D σ H ⟨ρ,o,G,hs,e,k⟩=>by
  obtain⟨d,e1,e2⟩:=bind_some e
  obtain⟨ρ',e3,rfl⟩:=aj.mp e2
  exact⟨ρ,d,G,hs.o,e1,fun v H' G' _ sG lZ i'=>lN.bind ⟨lZ,hs.z⟩ hO i' e3 fun σ' h'=>k _ H' G' sG h'⟩
end
section
variable {m:Md}{a b c:Expr}{fa fb fc:fu->Od}{p2:Pos}{rest:List Stmt}{g h:fu->Option gI}{gc:fu->Option Bool}
def yC (K:Fg)(J:It)(ds:Lp)(G:Hp):Prop :=
 ∀ H',fV G H'->(J.stop ds.length H')/\∀ (i:Nat) (d:PyData),ds[i]?=some d->J.go i H'/\∀ x H2,J.VW i H' x H2->fV H' H2/\∀ G',fV G G'->(∀ a,H' a=none->G' a=H2 a)->fM K G' d x
def tOI (K:Fg)(q:fu->Option Lp):TI:=fun σ G R=>∃ ρ ds,ka K G σ ρ/\q ρ=some ds/\∀ J G',fV G G'->yC K J ds G'->R J G'
def XE (X:Cx)(tg iter:Expr)(q:fu->Option Lp):Prop:=PI X tg iter (tOI X.K q)
theorem P6 (h:PD X e f):XE X tg e (lL f) :=
 PI.imp (PI.or (IB h) (LQ h)) fun σ H R ⟨ρ,ds,hs,e,k⟩=>by
  obtain⟨d,e1,e2⟩:=bind_some e
  cases d<;>try (simp at e2;done)
  ·cases e2
   refine .inl ⟨ρ,_,hs,e1,fun v H1 s1 i1=>?_⟩
   obtain⟨p,vs,rfl,e2,e3⟩:=fM.gv.mp i1
   refine⟨p,rfl,⟨vs,e2⟩,k _ H1 s1 fun H' s'=>⟨⟨vs,s'.seq e2,by rw [e3.length];exact aD _⟩,fun i d q=>?_⟩⟩
   obtain⟨x,e4,e5⟩:=e3.get q
   refine⟨⟨vs,x,s'.seq e2,e4⟩,fun y H2 ⟨r1,r2⟩=>?_⟩
   have:=r2 vs (s'.seq e2)
   rw [e4] at this;cases this
   subst r1
   exact⟨.refl _,fun G' sG _=>e5.same sG⟩
  ·cases e2
   refine .inr ⟨ρ,_,hs,e1,fun v H1 s1 i1=>?_⟩
   obtain⟨p,vs,rfl,e2,e3⟩:=i1.iP
   refine⟨p,rfl,⟨vs,e2⟩,k _ H1 s1 fun H' s'=>⟨⟨vs,s'.El e2,by rw [e3.length];exact aD _⟩,fun i d q=>?_⟩⟩
   obtain⟨x,e4,e5⟩:=e3.get q
   refine⟨⟨vs,x,s'.El e2,e4⟩,fun y H2 ⟨r1,r2⟩=>?_⟩
   have:=r2 vs (s'.El e2)
   rw [e4] at this;cases this
   subst r1
   exact⟨.refl _,fun G' sG _=>e5.same sG⟩
theorem CH {K:Fg}(lo:Int)(n:Nat)(G:Hp):yC K (WJ lo n) (oq lo n) G:=fun H' s'=>by
 refine⟨by show n<=(oq lo n).length;simp [oq],fun i d q=>?_⟩
 have hi:i<n:=by
  have:=(aJ.mp q).1
  simpa [oq] using this
 refine⟨hi,fun x H2 ⟨r1,r2⟩=>?_⟩
 have:d=.int (lo+(i:Nat)):=by
  unfold oq at q
  rw [aC,List.getElem?_range hi] at q
  cases q;rfl
 subst this r2 r1
 exact⟨.refl _,fun G' _ _=>fM.fZ.mpr rfl⟩
theorem lO {p:Pos}(hg:Gl X "range")(hm:X.mg "range"=none)(h:PD X e f)(hs:starEach [e] X.env=[(false,eval e X.env)]:=by rfl):XE X tg (.Call (.Name "range" p) [e] [] pos) (jG f) :=
 PI.imp (A2 hg hm (nB h rY (by rw [hs];rfl)) hs) fun σ H R ⟨ρ,ds,hs,e,k⟩=>by
  obtain⟨d,e1,e2⟩:=bind_some e
  cases d<;>try (simp at e2;done)
  rename_i j
  dsimp only at e2
  by_cases hj:-(2 ^ 62)<=j/\j<2 ^ 62
  ·rw [ai hj] at e2
   cases e2
   exact⟨ρ,_,hs,e1,fun v H1 s1 i1=>⟨j,by rw [fM.fZ.mp i1],hj.1,hj.2,k _ H1 s1 (CH 0 _ H1)⟩⟩
  ·rw [ao hj] at e2;cases e2
def POJ (X:Cx)(O:List Nat)(tg iter:Expr)(q:fu->Option Lp):Prop:=PI X tg iter (fun σ H R=>∃ ρ ds G,iz O X.K σ ρ H G/\q ρ=some ds/\∀ J H' G',fV H H'->fV G G'->iz O X.K σ ρ H' G'->yC X.K J ds G'->R J H')
def Aj (O:List Nat)(q:fu->Option Lp):fu->Option Lp:=fun ρ=>q (jb O ρ)
theorem kx {iter:Expr}(hi:XE X tg iter q):POJ X O tg iter (Aj O q) :=
 PI.imp (PI.frame hi) fun σ H R ⟨ρ,ds,G,hs,e1,k⟩=>by
  obtain⟨B,eH,fm,own⟩:=hs.ex
  refine⟨G,B,eH,fm,jb O ρ,ds,hs.rest,e1,fun J G' sG w CB=>?_⟩
  subst eH
  exact k J _ G' (uz fm.nd sG) sG (iz.vU hs.len own hs.lJ sG CB) w
def lj (q:fu->Option Lp)(tg:Tg)(g:fu->Option gI):fu->Option gI:=fun ρ=>(q ρ).bind fun ds=>kb (rN tg) g ds ρ
theorem jx {iter:Expr}{t:Tg}{body:List Stmt} (hp:PassesOwn (model X.prog X.w) X.A X.env X.xe) (hc:X.calm=true) (hi:POJ X O tg iter q) (hg:PG X tg (gT X.K t)) (hO:t.free O) (hb:tU X m O body g)
  (hs:∀ x,foldedSetIterable iter X.env x=pure x:=by intro _;rfl):uN X m O (.For tg iter body [] pos) (lj q t g) :=
 PS.imp (TB hp hc hi hg hb hs) fun D σ H ⟨ρ,o,G0,hs,e,k⟩=>by
  obtain⟨ds,e1,e2⟩:=bind_some e
  refine⟨ρ,ds,G0,hs.o,e1,fun J H1 G1 _ s1 h1 w=>?_⟩
  refine⟨fun i mm σ' H'=>mm=ds.length - i/\i<=ds.length/\∃ ρ' G',fV G1 G'/\lN m O X.K σ' ρ' H' G'/\kb (rN t) g (ds.drop i) ρ'=some o,⟨ds.length,by simp,cW _,ρ,G1,.refl _,⟨h1,hs.z⟩,by simpa using e2⟩,?_⟩
  rintro i mm σ' H' ⟨rfl,hi,ρ',G',sG,lZ,e3⟩
  obtain⟨w1,w2⟩:=w H' (sG.trans lZ.o.sub)
  by_cases qt:i<ds.length
  ·right
   have hd:ds[i]?=some ds[i]:=aE qt
   obtain⟨w3,w4⟩:=w2 i _ hd
   rw [cb qt] at e3
   unfold kb at e3
   obtain⟨o1,e4,e5⟩:=bind_some e3
   obtain⟨ρ1,e6,e7⟩:=bind_some e4
   refine⟨w3,fun σ3 H3=>∃ ρ3 G3,fV G1 G3/\lN m O X.K σ3 ρ3 H3 G3/\kb (rN t) g (ds.drop (i+1)) ρ3=some o,fun σ3 H3 ⟨ρ3,G3,s3,h3,e8⟩=>⟨ds.length - (i+1),by omega,rfl,qt,ρ3,G3,s3,h3,e8⟩,fun x H2 y=>?_⟩
   obtain⟨r1,r2⟩:=w4 x H2 y
   obtain⟨G2,s2,g2,DY⟩:=lZ.o.grow r1
   have i4:=r2 G2 (sG.trans s2) g2
   refine lN.bind (m:=m) ⟨DY,lZ.z⟩ hO i4 e6 fun σ5 h5=>⟨ρ1,o1,G2,h5,e7,?_⟩
   have xt:=sG.trans s2
   cases o1 with
   | nx ρ3=>exact fun σ6 H6 G6 s6 h6=>⟨ρ3,G6,xt.trans s6,h6,e5⟩
   | ct ρ3=>exact fun σ6 H6 G6 s6 h6=>⟨ρ3,G6,xt.trans s6,h6,e5⟩
   | bk ρ3 =>
    cases e5
    exact fun σ6 H6 G6 s6 h6=>k σ6 H6 G6 (s1.trans (xt.trans s6)) h6
   | rt d =>
    cases e5
    exact Sm.later (s1.trans xt) k
  ·have e8:i=ds.length:=by omega
   subst e8
   rw [List.drop_length] at e3
   cases e3
   exact .inl ⟨w1,k σ' H' G' (s1.trans sG) lZ⟩
def vZ (c:fu->Option Bool)(g:fu->Option gI):Nat->fu->Option gI
 | 0,_=>none
 | n+1,ρ=>(c ρ).bind fun b=>if b=true then (g ρ).bind fun o=>match o with
  | .nx ρ'=>vZ c g n ρ'
  | .ct ρ'=>vZ c g n ρ'
  | .bk ρ'=>some (.nx ρ')
  | .rt d=>some (.rt d)
  else some (.nx ρ)
def Sn:Nat:=1000000
def MR (c:fu->Option Bool)(g:fu->Option gI):fu->Option gI:=fun ρ=>vZ c g Sn ρ
theorem Km {body:List Stmt}(hp:PassesOwn (model X.prog X.w) X.A X.env X.xe)(hc:Gb X c gc)(hb:tU X m O body g):uN X m O (.While c body [] pos) (MR gc g) :=
 PS.imp (LP hp hc hb) fun D σ H ⟨ρ,o,G0,hs,e,k⟩=>by
  refine⟨fun n σ' H'=>∃ ρ' G',fV G0 G'/\lN m O X.K σ' ρ' H' G'/\vZ gc g n ρ'=some o,⟨Sn,ρ,G0,.refl _,hs,e⟩,?_⟩
  rintro n σ' H' ⟨ρ',G',sG,lZ,e1⟩
  cases n with
  | zero=>cases e1
  | succ n =>
   unfold vZ at e1
   obtain⟨b,e2,e3⟩:=bind_some e1
   refine⟨ρ',b,lZ.o.full,e2,fun H1 s1=>?_⟩
   obtain⟨G1,Wf,_,Bh⟩:=lZ.o.grow s1
   cases b with
   | false =>
    rw [ao aQ] at e3 ⊢
    cases e3
    exact k σ' H1 G1 (sG.trans Wf) ⟨Bh,lZ.z⟩
   | true =>
    rw [ai rfl] at e3 ⊢
    obtain⟨o1,e4,e5⟩:=bind_some e3
    refine⟨fun σ3 H3=>∃ ρ3 G3,fV G0 G3/\lN m O X.K σ3 ρ3 H3 G3/\vZ gc g n ρ3=some o,fun σ3 H3 q=>⟨n,dA n,q⟩,ρ',o1,G1,⟨Bh,lZ.z⟩,e4,?_⟩
    have xt:=sG.trans Wf
    cases o1 with
    | nx ρ3=>exact fun σ6 H6 G6 s6 h6=>⟨ρ3,G6,xt.trans s6,h6,e5⟩
    | ct ρ3=>exact fun σ6 H6 G6 s6 h6=>⟨ρ3,G6,xt.trans s6,h6,e5⟩
    | bk ρ3 =>
     cases e5
     exact fun σ6 H6 G6 s6 h6=>k σ6 H6 G6 (xt.trans s6) h6
    | rt d =>
     cases e5
     exact Sm.later xt k
def MS (dp:Bool)(K:Fg)(n:Nat)(f:Lp->Option (PyData×PyData)):Sp:=fun vs H Q _=>∃ v0 rest d0 ds d So G B,vs=v0::rest/\H=fO G B/\kl G B/\j4 dp K G d0 v0 B/\fz K G ds rest/\ds.length+1=n/\f (d0::ds)=some (d,So) /\
 ∀ v G' B',fV G G'->kl G' B'->j4 dp K G' So v0 B'->fM K G' d v->Q v (fO G' B')
abbrev XF (K:W.Frag)(n:Nat)(f:List PyData->Option (PyData×PyData)):Sp:=MS false K n f
def qE (N:Lr)(g:fu->Option gI):Lp->Option (PyData×PyData):=fun ds=>(g (iD N ds)).bind fun o=>match o with
 | .rt (.tuple [d,d0])=>some (d,d0)
 | .nx ρ=>(ρ[0]?).join.map fun d0=>(.none,d0)
 | _=>none
def ou (f:fu->Od):fu->Option gI:=fun ρ=>(Gd f ρ).bind fun d=>(ρ[0]?).join.map fun d0=>.rt (.tuple [d,d0])
theorem lN.out {v0:V}{K:Fg}{d0:PyData}(f7:O.Nodup)(hs:lN (.io dp v0) O K σ ρ H G)(e:(ρ[0]?).join=some d0):∃ G' B,fV G G'/\H=fO G' B/\kl G' B/\j4 dp K G' d0 v0 B:=by
 obtain⟨z1,z2,z3⟩:=hs.z dp v0 rfl
 obtain⟨v,Bl,B1,Br,e2,eH,f,ot,k1,k2,_,_⟩:=hs.o.own f7 z1 (join_some e)
 rw [z3] at ot
 rw [z2] at e2;cases e2
 have perm:(Bl++(B1++Br)).Perm (B1++(Bl++Br)):=by
  rw [← aN,← aN]
  exact dm _ aU
 have f2:kl G (B1++(Bl++Br)):=f.perm perm (ot.oO.append (k1.append k2))
 have f3:=f2.Ew (k1.append k2)
 exact⟨fO G (Bl++Br),B1,f3.same,by rw [eH,ja f.nd perm,iI],f2.Eu ot.oO,ot.same f3.same⟩
theorem jQ {v0:V}(f7:O.Nodup)(h:PD X e f):uN X (.io dp v0) O (.Return (some e) pos) (ou f) :=
 PS.imp (x6 h) fun D σ H ⟨ρ,o,G,hs,e,k⟩=>by
  obtain⟨d,e1,e2⟩:=bind_some e
  obtain⟨d0,e3,rfl⟩:=aj.mp e2
  obtain⟨e4,e5⟩:=Ez e1
  refine⟨ρ,d,hs.o.full,e4,fun v H' s' i=>?_⟩
  obtain⟨G1,sG,_,Bh⟩:=hs.o.grow s'
  obtain⟨G2,B,s2,eH,fm,ot⟩:=lN.out (σ:=σ) (ρ:=ρ) f7 ⟨Bh,hs.z⟩ e3
  obtain⟨x,So,ex,kk⟩:=k
  cases ex
  rw [eH]
  exact kk v G2 B (sG.trans s2) fm ot (i.km e5)
def MT:fu->Option gI:=fun ρ=>(ρ[0]?).join.map fun d0=>.rt (.tuple [.none,d0])
theorem Kn {v0:V}(f7:O.Nodup):uN X (.io dp v0) O (.Return none pos) MT :=
 PS.imp OV fun D σ H ⟨ρ,o,G,hs,e,k⟩=>by
  obtain⟨d0,e3,rfl⟩:=aj.mp e
  obtain⟨G2,B,s2,eH,fm,ot⟩:=lN.out f7 hs e3
  obtain⟨x,So,ex,kk⟩:=k
  cases ex
  rw [eH]
  exact kk .lJ G2 B s2 fm ot (fM.jE.mpr rfl)
theorem Sq {P:Program}{K:Fg}{base:Heap}{qual:Str}{fa:Addr}{N ps:Lr}{k:Nat} (F:Lo K x qual st fa fd) (S:k6 N ps (gB st)) (hn:n=ps.length) (h1:n≠0) (f7:(0::O).Nodup) (hO:∀ i∈O,n<=i)
  (uR:∀ (v0:V) (mW:Value) (A:Around) (outer:List Env) (s:Shared) (H:Hp) (E:XK),j3 k (A.deeper (envOfC qual (gB st) (zB s) fa mW)) ->
   tU (An Bd P w K mg base N qual (gB st) fa mW A outer s H E).R7 (.io (kM (0::O)) v0) (0::O) (k7 st) g):nN P w K mg base Bd (k+1) fa fd ps (MS (kM (0::O)) K n (qE N g)):=by
 refine F.ok S (fun vs H Q E ⟨v0,rest,d0,ds,d,So,G,B,e1,_,_,_,i,l,_⟩=>by rw [e1,← hn,← l,ar,← i.length]) fun mW A outer s H vs Q E hr ⟨v0,rest,d0,ds,d,So,G,B,e1,eH,fm,ot,i,l,e,k⟩=>⟨_,uR v0 mW A outer s H E hr,?_⟩
 subst e1 eH
 obtain⟨o,e1,e2⟩:=bind_some e
 have XG:fz K (fO G B) (d0::ds) (v0::rest):=fz.cons (ot.Lu fm.same fun x hx=>gL fm.nd x hx) (i.same fm.same)
 have hd:=qS (N:=N) XG
 have Ko:(iD N (d0::ds))[0]?=some (some d0):=rfl
 have u6:∀ j∈O,((iD N (d0::ds))[j]?).join=none:=fun j hj=>by
  have:¬ j<(d0::ds).length:=by have:=hO j hj;rw [ar];omega
  unfold iD
  rw [aV (by simpa using this),bP]
  split<;>rfl
 have own:∀ O':List Nat,(∀ j∈O',j∈O)->jz (kM (0::O)) K (om N (v0::rest)) (iD N (d0::ds)) G O' []:=by
  intro O'
  induction O' with
  | nil=>intro _;rfl
  | cons j O' ih=>exact fun h=>.inl ⟨u6 j (h j (by simp)),ih fun i hi=>h i (af _ hi)⟩
 obtain⟨u0,hu0,abT⟩:=hd.2 0 d0 Ko
 have OH:(om N (v0::rest))[0]?=some (some v0):=rfl
 refine⟨iD N (d0::ds),o,G,⟨⟨hd.1,⟨B,rfl,fm,.inr ⟨d0,v0,B,[],Ko,OH,by simp,ot,own O fun _ h=>h⟩⟩,fun j dj q hj=>?_⟩,fun dp1 v1 z=>⟨by simp,by cases z;exact OH,by cases z;rfl⟩⟩,e1,?_⟩
 ·
  have hj0:j≠0:=fun z=>hj (by rw [z];simp)
  have hd2:=qS (K:=K) (H:=G) (N:=N) (vs:=v0::rest) (ds:=.none::ds)
  have hh:fz K G ds rest:=i
  cases j with
  | zero=>exact absurd rfl hj0
  | succ j =>
   by_cases qt:j<ds.length
   ·have q':ds[j]?=some dj:=by
     unfold iD at q
     rw [aa,bA,bw,bh (by simpa using qt),aC] at q
     cases z:ds[j]? with
     | none=>rw [z] at q;cases q
     | some y=>rw [z] at q;cases q;rfl
    obtain⟨u,a1,a2⟩:=hh.get q'
    refine⟨u,?_,a2⟩
    have Ln:j<rest.length:=(aJ.mp a1).1
    unfold om
    rw [aa,bA,bw,bh (by simpa using Ln),aC,a1]
    rfl
   ·unfold iD at q
    rw [aa,bA,bw,aV (by simpa using qt),bP] at q
    split at q<;>cases q
 ·cases o with
  | rt x =>
   split at e2
   ·rename_i d1 d2 he
    cases he
    cases e2
    exact⟨d,So,rfl,k⟩
   ·rename_i ρ he;cases he
   ·cases e2
  | nx ρ' =>
   obtain⟨d1,e3,e4⟩:=aj.mp e2
   cases e4
   intro σ H' G' sG hs
   obtain⟨G2,B2,s2,eH,ZG,We⟩:=lN.out f7 hs e3
   rw [eH]
   exact k .lJ G2 B2 (sG.trans s2) ZG We (fM.jE.mpr rfl)
  | bk _=>cases e2
  | ct _=>cases e2
theorem GW {P:Program}{K:Fg}{base:Heap}{qual:Str}{fa:Addr}{N ps:Lr}{k:Nat} (F:Lo K x qual st fa fd) (S:k6 N ps (gB st)) (hn:n=ps.length) (hO:∀ i∈O,n<=i)
  (uR:∀ (mW:Value) (A:Around) (outer:List Env) (s:Shared) (H:Hp) (E:XK),j3 k (A.deeper (envOfC qual (gB st) (zB s) fa mW)) ->
   tU (An Bd P w K mg base N qual (gB st) fa mW A outer s H E).R7 .dat O (k7 st) g):nN P w K mg base Bd (k+1) fa fd ps (Ut K n (jq N g)):=by
 refine F.ok S (fun vs H Q E ⟨ds,d,i,l,_⟩=>by rw [← i.length,l,hn]) fun mW A outer s H vs Q E hr ⟨ds,d,i,l,e,k⟩=>⟨_,uR mW A outer s H E hr,?_⟩
 obtain⟨o,e1,e2⟩:=bind_some e
 have hd:=qS (N:=N) i
 have u6:∀ i∈O,((iD N ds)[i]?).join=none:=fun j hj=>by
  have:¬ j<ds.length:=by have:=hO j hj;omega
  unfold iD
  rw [aV (by simpa using this),bP]
  split<;>rfl
 have own:∀ O':List Nat,(∀ i∈O',i∈O)->jz (kM O) K (om N vs) (iD N ds) H O' []:=by
  intro O'
  induction O' with
  | nil=>intro _;rfl
  | cons j O' ih=>exact fun h=>.inl ⟨u6 j (h j (by simp)),ih fun i hi=>h i (af _ hi)⟩
 refine⟨iD N ds,o,H,⟨⟨hd.1,⟨[],rfl,kl.nil,own O fun _ h=>h⟩,fun i d q _=>hd.2 i d q⟩,fun dp v0 z=>nomatch z⟩,e1,?_⟩
 cases o with
 | rt d'=>cases e2;exact k
 | nx ρ'=>cases e2;exact fun σ H' G' s' h'=>k .lJ H' (s'.trans h'.o.sub) (fM.jE.mpr rfl)
 | bk _=>cases e2
 | ct _=>cases e2
def spF (K:Fg)(n:Nat)(f:Lp->Od):Sp:=fun vs H Q _=>∃ ds d,fz K H ds vs/\ds.length=n/\f ds=some d/\KO K H d Q
def CI (N:Lr)(g:fu->Option gI):Lp->Od:=fun ds=>(g (iD N ds)).bind fun o=>match o with
 | .rt d=>some d
 | _=>none
theorem MU {P:Program}{K:Fg}{base:Heap}{qual:Str}{fa:Addr}{N ps:Lr}{k:Nat} (F:Lo K x qual st fa fd) (S:k6 N ps (gB st)) (hn:n=ps.length) (hO:∀ i∈O,n<=i)
  (uR:∀ (mW:Value) (A:Around) (outer:List Env) (s:Shared) (H:Hp) (E:XK),j3 k (A.deeper (envOfC qual (gB st) (zB s) fa mW)) ->
   tU (An Bd P w K mg base N qual (gB st) fa mW A outer s H E).R7 .own O (k7 st) g):nN P w K mg base Bd (k+1) fa fd ps (spF K n (CI N g)):=by
 refine F.ok S (fun vs H Q E ⟨ds,d,i,l,_⟩=>by rw [← i.length,l,hn]) fun mW A outer s H vs Q E hr ⟨ds,d,i,l,e,k⟩=>⟨_,uR mW A outer s H E hr,?_⟩
 obtain⟨o,e1,e2⟩:=bind_some e
 have hd:=qS (N:=N) i
 have u6:∀ i∈O,((iD N ds)[i]?).join=none:=fun j hj=>by
  have:¬ j<ds.length:=by have:=hO j hj;omega
  unfold iD
  rw [aV (by simpa using this),bP]
  split<;>rfl
 have own:∀ O':List Nat,(∀ i∈O',i∈O)->jz (kM O) K (om N vs) (iD N ds) H O' []:=by
  intro O'
  induction O' with
  | nil=>intro _;rfl
  | cons j O' ih=>exact fun h=>.inl ⟨u6 j (h j (by simp)),ih fun i hi=>h i (af _ hi)⟩
 refine⟨iD N ds,o,H,⟨⟨hd.1,⟨[],rfl,kl.nil,own O fun _ h=>h⟩,fun i d q _=>hd.2 i d q⟩,fun dp v0 z=>nomatch z⟩,e1,?_⟩
 cases o with
 | rt d'=>cases e2;exact k
 | nx _=>cases e2
 | bk _=>cases e2
 | ct _=>cases e2
end
structure CJ (P:Program) (w:World) (K:Fg) (mg:Str->Ow) (base:Heap) (x:Str) (k n:Nat) (f:Lp->Od):Prop where
 ex:∃ a fd ps,nN P w K mg base Bd k a fd ps (spF K n f)/\mg x=some (.ref a)/\W.keepIn K (.ref a)=true/\mV K fd ps []
structure GX (dp:Bool) (P:Program) (w:World) (K:Fg) (mg:Str->Ow) (base:Heap) (x:Str) (k n:Nat) (f:Lp->Option (PyData×PyData)):Prop where
 ex:∃ a fd ps,nN P w K mg base Bd k a fd ps (MS dp K n f)/\mg x=some (.ref a)/\W.keepIn K (.ref a)=true/\mV K fd ps []
abbrev EB:=GX false
structure v5 (P:Program) (w:World) (K:Fg) (mg:Str->Ow) (base:Heap) (c:Str) (k n:Nat) (f:Lp->Option (PyData×PyData)):Prop where
 ex:∃ C a fd ps,mX K c C/\mg c=some (.ref C)/\Mk K C a/\nN P w K mg base Bd k a fd ps (XF K n f)/\mV K fd ps []
structure tB (P:Program) (w:World) (K:Fg) (mg:Str->Ow) (base:Heap) (c m:Str) (k n:Nat) (f:Lp->Od):Prop where
 ex:∃ C a fd ps,mX K c C/\JY K C/\JZ K C m a/\nN P w K mg base Bd k a fd ps (Ut K n f)/\mV K fd ps []
section
variable {m:Md}{a b c:Expr}{fa fb fc:fu->Od}{p2 p apos:Pos}{rest:List Stmt}{g h:fu->Option gI}{ga gc:fu->Option Bool}{j k:Nat}
theorem KO.kd {K:Fg}{Q:VK}(h:KD K H d Q):KO K H d Q:=fun v G' B' s fm ot=>h v _ (s.trans fm.same) (ot.Lu fm.same fun x hx=>gL fm.nd x hx)
theorem PF.pd (h:PF X e f):PD X e f:=PE.imp h fun σ H Q ⟨ρ,d,hs,e,k⟩=>⟨ρ,d,hs,e,KO.kd k⟩
theorem CK {F:Lp->Od} (N:CJ X.prog X.w X.K X.mg X.base x j n F) (hr:j3 k X.A) (hg:Gl X x) (ha:Ct X (e::es) ff) (hj:j<=k:=by decide) (tQ:zg x:=by decide)
  (he:zE e es X:=by rfl) (tq:(backTo pos (starEach es X.env)).any (·.1)=false:=by rfl):PF X (.Call (.Name x p) (e::es) [] pos) (jg n F ff):=by
 obtain⟨a,fd,ps,Fn,mm,kp,b⟩:=N.ex
 refine PE.imp (Cg (Fn.mono hj) hr hg mm kp b .nil uV ha tQ he tq) fun σ H Q ⟨ρ,d,hs,e,k⟩=>?_
 obtain⟨ds,e1,e2⟩:=bind_some e
 by_cases hl:ds.length=n
 ·rw [ai hl] at e2
  exact⟨ρ,ds,hs,e1,fun vs H1 s1 i1=>⟨ds,d,by rw [aS];exact i1,hl,e2,k.later s1⟩⟩
 ·rw [ao hl] at e2;cases e2
theorem KO.yl {K:Fg}{Q:VK}(k:KO K H (.list ds) Q)(e:fz K H ds vs):∀ p,H p=none->Q (.ref p) (upd H p (.lst vs)):=fun p h =>
 k (.ref p) H [(p,.lst vs)] (.refl H) ⟨by simp,(fun x hx=>by simp at hx;subst hx;exact h),.one aO .nil⟩ (j4.UG (.inl ⟨_,vs,rfl,rfl,e⟩))
def u7 (f:fu->Od)(l h:FO):fu->Od:=fun ρ=>(f ρ).bind fun x=>(l ρ).bind fun lo=>(h ρ).bind fun hi=>match x with | .list xs=>some (.list (oE xs lo hi))|_=>none
theorem yD {lo hi:Option Expr}{l h:FO}(he:PD X e f)(hl:Wa X lo l)(hu:Wa X hi h):PF X (.Subscript e (.Slice lo hi none p2) pos) (u7 f l h) :=
 PE.imp (Ec IK he hl hu) fun σ H Q ⟨ρ,d,hs,e,k⟩=>by
  obtain⟨x,e1,e2⟩:=bind_some e
  obtain⟨Zv,e3,e4⟩:=bind_some e2
  obtain⟨En,e5,e6⟩:=bind_some e4
  obtain⟨xs,rfl⟩:∃ xs,x=.list xs:=by cases x<;>first|exact⟨_,rfl⟩|cases e6
  cases e6
  refine⟨ρ,_,hs,e1,fun v H1 s1 i1=>⟨ρ,Zv,hs.same s1,e3,fun H2 s2=>⟨ρ,En,hs.same (s1.trans s2),e5,fun H3 s3=>?_⟩⟩⟩
  obtain⟨p,vs,rfl,q2,q3⟩:=fM.gv.mp (i1.same (s2.trans s3))
  exact⟨p,vs,rfl,q2,(k.later (s1.trans (s2.trans s3))).yl (q3.cut Zv En)⟩
theorem P7:jV X (.type "list") (fun xs H Q=>∃ ds c,fz X.K H ds xs/\IT ds=some c/\KO X.K H c Q):=by
 refine jV.imp Cq fun xs H Q ⟨ds,c,i,e,k⟩=>?_
 match ds,e with
 | [.list ys],e =>
  cases e
  obtain⟨v,rfl,h1⟩:=je i
  obtain⟨p,vs,rfl,e2,e3⟩:=fM.gv.mp h1
  exact⟨p,vs,rfl,.inl e2,k.yl e3⟩
 | [.tuple ys],e =>
  cases e
  obtain⟨v,rfl,h1⟩:=je i
  obtain⟨p,vs,rfl,e2,e3⟩:=h1.iP
  exact⟨p,vs,rfl,.inr e2,k.yl e3⟩
def Bu (c:Str)(n:Nat)(F:Lp->Option (PyData×PyData))(ff:fu->Option Lp):fu->Od:=fun ρ=>(ff ρ).bind fun ds=>if ds.length+1=n then (F (.dict [(.none,.str c)]::ds)).bind fun r=>match r with|(.none,d)=>some d|_=>none else none
theorem Jc {K:Fg}{c:Str}{C:Addr}(hC:mX K c C){F:Lp->Option (PyData×PyData)}{Q:VK}{E:XK}(i1:fz K H ds vs)(hl:ds.length+1=n)(e2:(F (.dict [(.none,.str c)]::ds)).bind (fun r=>match r with|(.none,d)=>some d|_=>none)=some d)(k:KO K H d Q) :
  ∀ x dx,H x=none->H dx=none->dx≠x->XF K n F (.ref x::(vs++[])) (upd (upd H dx (.own x)) x (.ins C dx [])) (fun v H2=>v=.lJ/\Q (.ref x) H2) E:=by
 intro x dx hx hdx Et
 obtain⟨r,e3,e4⟩:=bind_some e2
 obtain⟨r1,r2⟩:=r
 have er:r1=.none/\r2=d:=by
  cases r1<;>first|(cases e4;exact⟨rfl,rfl⟩)|cases e4
 obtain⟨rfl,rfl⟩:=er
 refine⟨.ref x,vs++[],.dict [(.none,.str c)],ds,.none,r2,H,[(x,.ins C dx []),(dx,.own x)],rfl,rfl,⟨?_,fun y hy=>?_,.ins .nil⟩,.inr ⟨c,C,x,dx,[],[],[],rfl,rfl,rfl,hC,rfl,rfl⟩,by rw [aS];exact i1,hl,e3,fun v G' B' s' fm ot iv=>⟨fM.jE.mp iv,k _ G' B' s' fm ot⟩⟩
 ·simp [Ne.symm Et]
 ·rcases ah.mp hy with e|hy
  ·rw [e];exact hx
  ·have:y=(dx,HO.own x):=by simpa using hy
   rw [this];exact hdx
theorem Jd {cn:Str}{F:Lp->Option (PyData×PyData)} (N:v5 X.prog X.w X.K X.mg X.base cn j n F) (hr:j3 (k+1) X.A) (hg:Gl X cn) (ha:Ct X (e::es) ff) (hj:j<=k:=by decide) (tQ:zg cn:=by decide)
  (he:zE e es X:=by rfl) (tq:(backTo pos (starEach es X.env)).any (·.1)=false:=by rfl):PF X (.Call (.Name cn p) (e::es) [] pos) (Bu cn n F ff):=by
 obtain⟨C,a,fd,ps,hC,mm,M,Fn,b⟩:=N.ex
 refine PE.imp (O5 M (Fn.mono hj) hr hg mm b .nil uV ha tQ he tq) fun σ H Q ⟨ρ,d,hs,e,k⟩=>?_
 obtain⟨ds,e1,e2⟩:=bind_some e
 by_cases hl:ds.length+1=n
 ·rw [ai hl] at e2
  exact⟨ρ,ds,hs,e1,fun vs H1 s1 i1=>Jc hC i1 hl e2 (k.later s1)⟩
 ·rw [ao hl] at e2;cases e2
theorem MV {cn:Str}{F:Lp->Option (PyData×PyData)}(N:v5 X.prog X.w X.K X.mg X.base cn j n F)(hr:j3 (k+1) X.A)(hg:Gl X cn)(hj:j<=k:=by decide)(tQ:zg cn:=by decide):PF X (.Call (.Name cn p) [] [] pos) (Bu cn n F fD):=by
 obtain⟨C,a,fd,ps,hC,mm,M,Fn,b⟩:=N.ex
 refine PE.imp (L6 M (Fn.mono hj) hr hg mm b .nil uV tQ) fun σ H Q ⟨ρ,d,hs,e,k⟩=>?_
 obtain⟨ds,e1,e2⟩:=bind_some e
 cases e1
 by_cases hl:([]:Lp).length+1=n
 ·rw [ai hl] at e2
  exact Jc hC fz.nil hl e2 k
 ·rw [ao hl] at e2;cases e2
def mw (c mn:Str)(d:PyData):Bool:=match d with
 | .dict ((.none,.str c')::r)=>decide (c'=c)&&(qz mn r).isNone
 | _=>false
def oV (c mn:Str)(n:Nat)(F:Lp->Od)(f:fu->Od)(ff:fu->Option Lp):fu->Od:=fun ρ=>(f ρ).bind fun d=>if mw c mn d=true then (ff ρ).bind fun ds=>if ds.length+1=n then F (d::ds) else none else none
theorem u9 {K:Fg}{c mn:Str}(h:mw c mn d=true)(i:fM K H d v):∃ p C dx fs,v=.ref p/\mX K c C/\H p=some (.ins C dx fs)/\fs.lookup mn=none:=by
 unfold mw at h
 split at h
 ·rename_i c' r
  simp only [aX,bc,Option.isNone_iff_eq_none] at h
  obtain⟨rfl,h2⟩:=h
  obtain⟨p,C,dx,fs,e1,e2,e3,e4⟩:=i.MG
  exact⟨p,C,dx,fs,e1,e2,e3,e4.none h2⟩
 ·cases h
theorem P8 {cn mn:Str}{F:Lp->Od}{pl:Sem Bool} (N:tB X.prog X.w X.K X.mg X.base cn mn j n F) (ho:PD X o f) (hr:j3 k X.A) (ha:Ct X (e::es) ff) (hj:j<=k:=by decide)
  (Af:zE e es X:=by rfl) (tq:(backTo pos (starEach es X.env)).any (·.1)=false:=by rfl)
  (ht:eval (.Call (.Attribute o mn apos) (e::es) [] pos) X.env=(do
   let ov ← eval o X.env
   standAt apos.atName
   let (f,first) ← holding [ov] (getMethod ov mn pl)
   callWith pos f first (backTo pos (starEach (e::es) X.env)) (backToKw pos (keywordEach [] X.env))):=by rfl):PD X (.Call (.Attribute o mn apos) (e::es) [] pos) (oV cn mn n F f ff):=by
 obtain⟨C,a,fd,ps,hC,uM,hm,Fn,b⟩:=N.ex
 refine PE.imp (ID (pl:=pl) ho uM hm (Fn.mono hj) hr b .nil uV ha Af tq ht) fun σ H Q ⟨ρ,d,hs,e,k⟩=>?_
 obtain⟨x,e1,e2⟩:=bind_some e
 by_cases hx:mw cn mn x=true
 ·rw [ai hx] at e2
  obtain⟨ds,e3,e4⟩:=bind_some e2
  by_cases hl:ds.length+1=n
  ·rw [ai hl] at e4
   refine⟨ρ,x,hs,e1,fun v H1 s1 i1=>?_⟩
   obtain⟨p,C',dx,fs,rfl,h1,h2,h3⟩:=u9 hx i1
   have:=h1.uniq hC
   subst this
   exact⟨p,dx,fs,rfl,h2,h3,ρ,ds,hs.same s1,e3,fun vs H2 s2 i2=>⟨x::ds,d,by rw [aS];exact fz.cons (i1.same s2) i2,by simpa using hl,e4,k.later (s1.trans s2)⟩⟩
  ·rw [ao hl] at e4;cases e4
 ·rw [ao hx] at e2;cases e2
theorem yE {cn mn:Str}{F:Lp->Od}{pl:Sem Bool} (N:tB X.prog X.w X.K X.mg X.base cn mn j n F) (ho:PD X o f) (hr:j3 k X.A) (hj:j<=k:=by decide)
  (ht:eval (.Call (.Attribute o mn apos) [] [] pos) X.env=(do
   let ov ← eval o X.env
   standAt apos.atName
   let (f,first) ← holding [ov] (getMethod ov mn pl)
   callWith pos f first (backTo pos (starEach [] X.env)) (backToKw pos (keywordEach [] X.env))):=by rfl):PD X (.Call (.Attribute o mn apos) [] [] pos) (oV cn mn n F f fD):=by
 obtain⟨C,a,fd,ps,hC,uM,hm,Fn,b⟩:=N.ex
 refine PE.imp (D8 (pl:=pl) ho uM hm (Fn.mono hj) hr b .nil uV ht) fun σ H Q ⟨ρ,d,hs,e,k⟩=>?_
 obtain⟨x,e1,e2⟩:=bind_some e
 by_cases hx:mw cn mn x=true
 ·rw [ai hx] at e2
  obtain⟨ds,e3,e4⟩:=bind_some e2
  cases e3
  by_cases hl:([]:Lp).length+1=n
  ·rw [ai hl] at e4
   refine⟨ρ,x,hs,e1,fun v H1 s1 i1=>?_⟩
   obtain⟨p,C',dx,fs,rfl,h1,h2,h3⟩:=u9 hx i1
   have:=h1.uniq hC
   subst this
   exact⟨p,dx,fs,rfl,h2,h3,[x],d,fz.cons i1 fz.nil,by simpa using hl,e4,k.later s1⟩
  ·rw [ao hl] at e4;cases e4
 ·rw [ao hx] at e2;cases e2
def PX (X:Cx)(O:List Nat)(e:Expr)(h:fu->Option (PyData×fu)):Prop:=PE X e (fun σ H Q=>∃ ρ d ρ' G,iz O X.K σ ρ H G/\h ρ=some (d,ρ')/\∀ v H' G',fV G G'->iz O X.K σ ρ' H' G'->(∀ F,fM X.K F d v)->Q v H')
def yF (O:List Nat)(i n:Nat)(F:Lp->Option (PyData×PyData))(ff:fu->Option Lp):fu->Option (PyData×fu):=fun ρ=>(ρ[i]?).join.bind fun d0=>(ff (jb O ρ)).bind fun ds=>if ds.length+1=n then (F (d0::ds)).bind fun r=>if nO r.1=true then some (r.1,ρ.set i (some r.2)) else none else none
theorem va (i:Nat) {y:Str}{ep:Pos}{F:Lp->Option (PyData×PyData)} (N:GX dp X.prog X.w X.K X.mg X.base x j n F) (f7:O.Nodup) (hr:j3 k X.A) (hg:Gl X x) (ha:Ct X es ff) (hO:i∈O:=by decide) (hj:j<=k:=by decide) (qC:kM O=dp:=by rfl)
  (hN:X.N[i]?=some y:=by rfl) (hv:LA X.env.scope y:=by first|exact b5 rfl|exact bO (b5 rfl)|exact bO (bO rfl)) (hd:zg y:=by decide) (xR:(y==("__classdict__":Str))=false:=by decide) (tQ:zg x:=by decide)
  (he:starEach (.Name y ep::es) X.env=(false,eval (.Name y ep) X.env)::starEach es X.env:=by rfl) (tq:(backTo pos (starEach es X.env)).any (·.1)=false:=by rfl):PX X O (.Call (.Name x p) (.Name y ep::es) [] pos) (yF O i n F ff):=by
 obtain⟨a,fd,ps,Fn,mm,kp,b⟩:=N.ex
 refine PE.imp (PE.frame (Cg (Fn.mono hj) hr hg mm kp b .nil uV (nB (ur hN hv hd xR) (PA.frame ha) he) tQ he tq)) fun σ H Q ⟨ρ,d,ρ',G,hs,e,k⟩=>?_
 obtain⟨d0,e1,e2⟩:=bind_some e
 obtain⟨ds,e3,e4⟩:=bind_some e2
 by_cases hl:ds.length+1=n
 ·rw [ai hl] at e4
  obtain⟨r,e5,e6⟩:=bind_some e4
  obtain⟨r1,r2⟩:=r
  by_cases XH:nO r1=true
  ·rw [ai XH] at e6;cases e6
   obtain⟨v0,Bl,B1,Br,e7,eH,fm,ot,k1,k2,cl,_⟩:=hs.own f7 hO (join_some e1)
   rw [qC] at ot cl
   have perm:(Bl++(B1++Br)).Perm ((Bl++Br)++B1):=by
    rw [aN]
    exact cL _ aU
   have f2:kl G ((Bl++Br)++B1):=fm.perm perm ((k1.append k2).append ot.oO)
   have fB1:=f2.Ew ot.oO
   refine⟨fO G B1,Bl++Br,by rw [eH,ja fm.nd perm,iI],f2.Eu (k1.append k2),v0,e7,G,B1,rfl,fB1,jb O ρ,ds,hs.rest,e3,fun vs G1 s1 i1 aaY=>?_⟩
   refine⟨v0,vs++[],d0,ds,r1,r2,G1,B1,rfl,rfl,aaY,ot.same s1,by rw [aS];exact i1,hl,e5,fun v G2 B2 s2 fB2 We iv fR=>?_⟩
   have sG:fV G G2:=s1.trans s2
   have f3:kl G2 ((Bl++Br)++B2):=fB2.join fR
   have Sr:((Bl++Br)++B2).Perm (Bl++(B2++Br)):=by
    rw [aN]
    exact cL _ aU
   have f4:kl G2 (Bl++(B2++Br)):=f3.perm Sr (k1.append (We.oO.append k2))
   have ZI:fO (fO G2 B2) (Bl++Br)=fO G2 (Bl++(B2++Br)):=by rw [← iI,ja f3.nd Sr]
   rw [ZI]
   exact k v _ G2 sG (cl G2 r2 B2 sG We f4) fun F=>iv.km XH
  ·rw [ao XH] at e6;cases e6
 ·rw [ao hl] at e4;cases e4
def GY (h:fu->Option (PyData×fu)):fu->Option gI:=fun ρ=>(h ρ).map fun r=>.nx r.2
theorem Kp {h:fu->Option (PyData×fu)}(he:PX X O e h)(hs:swapsWith e none pos.line X.env=pure false:=by rfl):uN X m O (.Expr e pos) (GY h) :=
 PS.imp (qN he hs) fun D σ H ⟨ρ,o,G,hs,e,k⟩=>by
  obtain⟨r,e1,rfl⟩:=aj.mp e
  exact⟨ρ,r.1,r.2,G,hs.o,e1,fun v H' G' sG lZ _=>k σ H' G' sG ⟨lZ,hs.z⟩⟩
def EC (h:fu->Option (PyData×fu)):fu->Option gI:=fun ρ=>(h ρ).bind fun r=>(r.2[0]?).join.map fun d0=>.rt (.tuple [r.1,d0])
theorem yG {v0:V}{h:fu->Option (PyData×fu)}(f7:O.Nodup)(he:PX X O e h):uN X (.io dp v0) O (.Return (some e) pos) (EC h) :=
 PS.imp (x6 he) fun D σ H ⟨ρ,o,G,hs,e,k⟩=>by
  obtain⟨r,e1,e2⟩:=bind_some e
  obtain⟨d0,e3,rfl⟩:=aj.mp e2
  refine⟨ρ,r.1,r.2,G,hs.o,e1,fun v H' G' sG lZ iv=>?_⟩
  obtain⟨G2,B,s2,eH,fm,ot⟩:=lN.out (σ:=σ) (ρ:=r.2) f7 ⟨lZ,hs.z⟩ e3
  obtain⟨x,So,ex,kk⟩:=k
  cases ex
  rw [eH]
  exact kk v G2 B (sG.trans s2) fm ot (iv G2)
def tXT (O:List Nat)(K:Fg)(h:fu->Option (Bool×fu)):TT:=fun σ H Q=>∃ ρ b ρ' G,iz O K σ ρ H G/\h ρ=some (b,ρ')/\∀ H' G',fV G G'->iz O K σ ρ' H' G'->Q b H'
def Wg (X:Cx)(O:List Nat)(e:Expr)(h:fu->Option (Bool×fu)):Prop:=PT X e (tXT O X.K h)
def ZJ (X:Cx)(O:List Nat)(e:Expr)(h:fu->Option (Bool×fu)):Prop:=PW X e (tXT O X.K h)
def hT (h:fu->Option (PyData×fu)):fu->Option (Bool×fu):=fun ρ=>(h ρ).bind fun r=>match r with|(.bool b,ρ')=>some (b,ρ')|_=>none
theorem P9 {h:fu->Option (PyData×fu)}(he:PX X O e h)(ht:∀ whole,isTrue e X.env whole=(do let v ← whole;standAt e.pos;holding [v] (truthy v)):=by intro _;rfl):Wg X O e (hT h) :=
 PT.imp (D7 he ht) fun σ H Q ⟨ρ,b,ρ',G,hs,e,k⟩=>by
  obtain⟨r,e1,e2⟩:=bind_some e
  obtain⟨d,ρ2⟩:=r
  have er:d=.bool b/\ρ2=ρ':=by cases d<;>first|(cases e2;exact⟨rfl,rfl⟩)|cases e2
  obtain⟨rfl,rfl⟩:=er
  exact⟨ρ,_,_,G,hs,e1,fun v H' G' sG lZ iv=>⟨b,Mr (iv H') rfl,k H' G' sG lZ⟩⟩
def UL (h:fu->Option (Bool×fu)):fu->Option (Bool×fu):=fun ρ=>(h ρ).map fun r=>(!r.1,r.2)
theorem Qa {h:fu->Option (Bool×fu)}(ha:Wg X O a h):Wg X O (.UnaryOp .Not a pos) (UL h) :=
 PT.imp (LH ha) fun σ H Q ⟨ρ,b,ρ',G,hs,e,k⟩=>by
  obtain⟨r,e1,e2⟩:=aj.mp e
  cases e2
  exact⟨ρ,r.1,r.2,G,hs,e1,fun H' G' sG lZ=>k H' G' sG lZ⟩
def ZK (g:fu->Option Bool)(h:fu->Option (Bool×fu)):fu->Option (Bool×fu):=fun ρ=>(g ρ).bind fun b=>if b=true then some (true,ρ) else h ρ
theorem Qb {h:fu->Option (Bool×fu)}(ha:Wg X O a h):ZJ X O (.BoolOp .Or [a] pos) h:=LG ha
theorem UM {rs:Lx}{h:fu->Option (Bool×fu)}(ha:Gb X a ga)(hb:ZJ X O (.BoolOp .Or (b::rs) pos) h):ZJ X O (.BoolOp .Or (a::b::rs) pos) (ZK ga h) :=
 PW.imp (R6 ha hb) fun σ H Q ⟨ρ,b,ρ',G,hs,e,k⟩=>by
  obtain⟨y,e1,e2⟩:=bind_some e
  refine⟨ρ,y,hs.full,e1,fun H1 s1=>?_⟩
  obtain⟨G1,sG,_,Bh⟩:=hs.grow s1
  cases y with
  | false=>rw [ao aQ] at e2 ⊢;exact⟨ρ,b,ρ',G1,Bh,e2,fun H2 G2 s2 DY=>k H2 G2 (sG.trans s2) DY⟩
  | true=>rw [ai rfl] at e2 ⊢;cases e2;exact k H1 G1 sG Bh
theorem XI {h:fu->Option (Bool×fu)}(ha:ZJ X O e h):Wg X O e h:=ha.pt
def Qc (c:fu->Option (Bool×fu))(g h:fu->Option gI):fu->Option gI:=fun ρ=>(c ρ).bind fun r=>if r.1=true then g r.2 else h r.2
theorem Qd {sa sb:List Stmt}{hh:fu->Option (Bool×fu)}(hc:Wg X O c hh)(ha:tU X m O sa g)(hb:tU X m O sb h):uN X m O (.If c sa sb pos) (Qc hh g h) :=
 PS.imp (R8 hc ha hb) fun D σ H ⟨ρ,o,G,hs,e,k⟩=>by
  obtain⟨r,e1,e2⟩:=bind_some e
  obtain⟨b,ρ'⟩:=r
  refine⟨ρ,b,ρ',G,hs.o,e1,fun H1 G1 sG Bh=>?_⟩
  cases b with
  | true=>rw [ai rfl] at e2 ⊢;exact⟨ρ',o,G1,⟨Bh,hs.z⟩,e2,k.later sG⟩
  | false=>rw [ao aQ] at e2 ⊢;exact⟨ρ',o,G1,⟨Bh,hs.z⟩,e2,k.later sG⟩
end
end L2
namespace L2
open PySem PySem.Spec PyProof.Rows PySem.Builtin PySem.Builtin.Str
theorem Bv:∀ (l:List (Str×Tok)),gE ((l.map (·.1)).map V.str) (strValues l)
 | []=>.nil
 | (x,t)::l=>.cons ⟨t,rfl⟩ (Bv l)
theorem Bw:∀ {xs:Lr}{its:Lw},gE (xs.map V.str) its->∃ l:List (Str×Tok),its=strValues l/\l.map (·.1)=xs
 | [],_,r=>by cases r;exact⟨[],rfl,rfl⟩
 | x::xs,_,r=>by
  rw [aa] at r
  cases r with
  | cons h t =>
   obtain⟨tk,rfl⟩:=h
   obtain⟨l,rfl,e⟩:=Bw t
   exact⟨(x,tk)::l,rfl,by simp [e]⟩
def qi:Lp->Option Lr
 | []=>some []
 | .str x::r=>(qi r).map (x::·)
 | _::_=>none
theorem wV:∀ {ds:Lp}{xs:Lr},qi ds=some xs->ds=xs.map .str
 | [],_,h=>by cases h;rfl
 | d::r,xs,h=>by
  cases d<;>try (simp [qi] at h;done)
  obtain⟨ys,e,rfl⟩:=aj.mp (show (qi r).map _=some xs from h)
  rw [wV e];rfl
theorem qW:∀ xs:Lr,qi (xs.map .str)=some xs
 | []=>rfl
 | x::xs=>by show (qi (xs.map .str)).map _=_;rw [qW xs];rfl
theorem Bx {K:Fg}{H:Hp}:∀ {xs:Lr}{vs:List V},fz K H (xs.map .str) vs->vs=xs.map .str
 | [],_,h=>fz.gn.mp h
 | x::xs,_,h=>by
  obtain⟨v,r,rfl,a,b⟩:=fz.fT.mp h
  rw [fM.gw.mp a,Bx b];rfl
theorem oF {K:Fg}{H:Hp}:∀ (xs:Lr),fz K H (xs.map .str) (xs.map .str)
 | []=>fz.nil
 | x::xs=>fz.cons (fM.gw.mpr rfl) (oF xs)
section
variable {a b c:Expr}{fa fb fc:fu->Od}{p2 p apos gJ:Pos}{ga gc:fu->Option Bool} 
def rO (g:PyData->Lp->Od)(f:fu->Od)(ff:fu->Option Lp):fu->Od:=fun ρ=>(f ρ).bind fun d=>(ff ρ).bind fun ds=>match d with | .str z=>g (.str z) ds|_=>none
theorem CL {name:Str}{id:String}{g:PyData->Lp->Od} (slot:Slot "str" name id) (Mb:typeOf (.builtin id)=pure (.type "method_descriptor")) (hm:Sd X id (fun x vs H Q=>∃ d ds c,fM X.K H d x/\fz X.K H ds vs/\g d ds=some c/\KD X.K H c Q)) (ho:PD X o f) (ha:Ct X (e::es) ff)
  (mf:attributeBase o name X.env (eval o X.env)=eval o X.env:=by rfl)
  (yf:((backTo gJ (starEach (e::es) X.env)).all (fun x=>!x.1)&&(backToKw gJ (keywordEach [] X.env)).all (fun x=>x.1.isSome)
  &&decide ((e::es).length+([]:List Keyword).length+(if ([]:List Keyword).isEmpty then 0 else 1)<30))=true:=by rfl)
  (mh:(apos.endLine==gJ.line)=true:=by rfl) (hs:zE e es X:=by rfl) (oR:(backTo gJ (starEach es X.env)).any (·.1)=false:=by rfl) :
  PD X (.Call (.Attribute o name apos) (e::es) [] gJ) (rO g f ff) :=
 PE.imp (Ee PySem.F.plainAttrs_str slot Mb hm ho ha mf yf mh hs oR) fun σ H Q ⟨ρ,d,hs,e,k⟩=>by
  obtain⟨x,e1,e2⟩:=bind_some e
  obtain⟨ds,e3,e4⟩:=bind_some e2
  obtain⟨z,rfl⟩:∃ z,x=.str z:=by cases x<;>first|exact⟨_,rfl⟩|cases e4
  refine⟨ρ,_,hs,e1,fun v H1 s1 i1=>⟨?_,ρ,ds,hs.same s1,e3,fun vs H2 s2 i2=>⟨_,ds,d,i1.same s2,i2,e4,k.later (s1.trans s2)⟩⟩⟩
  rw [fM.gw.mp i1];rfl
def lP (d:PyData)(ds:Lp):Od:=match d,ds with
 | .str x,[.str y]=>if (y.length==0)=false/\x.length<=sizeLine/\(partsBetween x (occurrences x y 0 x.length (x.length+1)) y.length).length<=sizeLine then some (.list ((Txt.split x y).map .str)) else none
 | _,_=>none
theorem MW:Sd X "str.split" (fun x vs H Q=>∃ d ds c,fM X.K H d x/\fz X.K H ds vs/\lP d ds=some c/\KD X.K H c Q):=by
 intro pins s σ H v vs u us Q I rx rv h
 obtain⟨d,ds,cc,i1,i2,e,k⟩:=h
 unfold lP at e
 split at e
 ·rename_i x y
  by_cases hz:(y.length==0)=false/\x.length<=sizeLine/\(partsBetween x (occurrences x y 0 x.length (x.length+1)) y.length).length<=sizeLine
  ·rw [ai hz] at e;cases e
   obtain⟨hy,hsz,XJ⟩:=hz
   rw [fM.gw.mp i1] at rx
   obtain⟨t,rfl⟩:=rx
   obtain⟨v2,rfl,i3⟩:=je i2
   rw [fM.gw.mp i3] at rv
   obtain⟨u',rfl,t',rfl⟩:=rv.one
   have fin:∀ (l:List (Str×Tok)) (tk:Nat),l.map (·.1)=Txt.split x y->l.length<=sizeLine->EP X pins σ Q (.ref (zB s)) { s with heap:=s.heap.push { cls:=.type "list",data:=.seq (strValues l).toArray },toks:=tk }:=fun l tk hl hlen=>by
    have I':=I.T5 (t':=tk) (ys:=(l.map (·.1)).map V.str) (Bv l) (by simpa using hlen)
    refine⟨.ref (zB s),_,I',rfl,k.yl ?_ _ I.fresh⟩
    rw [hl]
    exact oF _
   cases h1:(decide (x.length<y.length)||decide (strKind x<strKind y))
   ·cases hf:(occurrences x y 0 x.length (x.length+1)).isEmpty
    ·refine b7 eP (dF _ _ _) eI (d9 _ _) (meets_str_split_sep x y t t' h1 hy hf hsz XJ) ?_
     show EP X pins σ Q _ { s with toks:=_,heap:=s.heap.push { cls:=.type "list",data:=.seq (strsFrom s.toks (partsBetween x (occurrences x y 0 x.length (x.length+1)) y.length)).toArray } }
     rw [strsFrom_eq]
     refine fin _ _ ((numbered_texts _ _).trans ((ao (dU h1)).trans (ao (dU hf))).symm) ?_
     have:=bQ List.length (numbered_texts s.toks (partsBetween x (occurrences x y 0 x.length (x.length+1)) y.length))
     rw [ae] at this
     rw [this];exact XJ
    ·exact b7 eP (dF _ _ _) eI (d9 _ _) (meets_str_split_not_found x y t t' h1 hy hf)
      (fin [(x,t)] s.toks ((ao (dU h1)).trans (ai hf)).symm (by show 1<=sizeLine;decide))
   ·exact b7 eP (dF _ _ _) eI (d9 _ _) (meets_str_split_cannot_occur x y t t' h1)
     (fin [(x,t)] s.toks (ai h1).symm (by show 1<=sizeLine;decide))
  ·rw [ao hz] at e;cases e
 ·cases e
def jX (d:PyData)(ds:Lp):Od:=match d,ds with
 | .str x,[.list ts]=>(qi ts).bind fun texts=>if JoinOk x texts=true then some (.str (Txt.join x texts)) else none
 | _,_=>none
theorem Qe:Sd X "str.join" (fun x vs H Q=>∃ d ds c,fM X.K H d x/\fz X.K H ds vs/\jX d ds=some c/\KD X.K H c Q):=by
 intro pins s σ H v vs u us Q I rx rv h
 obtain⟨d,ds,cc,i1,i2,e,k⟩:=h
 unfold jX at e
 split at e
 ·rename_i x ts
  obtain⟨texts,e1,e2⟩:=bind_some e
  by_cases hz:JoinOk x texts=true
  ·rw [ai hz] at e2;cases e2
   have:=wV e1
   subst this
   rw [fM.gw.mp i1] at rx
   obtain⟨t,rfl⟩:=rx
   obtain⟨v2,rfl,i3⟩:=je i2
   obtain⟨p,ws,rfl,sq,iw⟩:=fM.gv.mp i3
   obtain⟨u',rfl,ru⟩:=rv.one
   cases ru
   rw [Bx iw] at sq
   obtain⟨its,r,pl,_⟩:=I.list sq
   obtain⟨l,rfl,el⟩:=Bw r
   exact SC.join pl.isList el hz fun t' tk=>⟨.str _,H,I.tok tk,⟨t',rfl⟩,k.here (fM.gw.mpr rfl)⟩
  ·rw [ao hz] at e2;cases e2
 ·cases e
def lQ (d:PyData)(ds:Lp):Od:=match d,ds with
 | .str x,[.str y]=>if (y.length==0)=false/\x.length<=sizeLine then some (match occurrences x y 0 x.length 1 with
  | i::_=>.tuple [.str (strSub x 0 i),.str y,.str (strSub x (i+y.length) x.length)]
  | []=>.tuple [.str x,.str Str.empty,.str Str.empty]) else none
 | _,_=>none
theorem vb:Sd X "str.partition" (fun x vs H Q=>∃ d ds c,fM X.K H d x/\fz X.K H ds vs/\lQ d ds=some c/\KD X.K H c Q):=by
 intro pins s σ H v vs u us Q I rx rv h
 obtain⟨d,ds,cc,i1,i2,e,k⟩:=h
 unfold lQ at e
 split at e
 ·rename_i x y
  by_cases hz:(y.length==0)=false/\x.length<=sizeLine
  ·rw [ai hz] at e;cases e
   rw [fM.gw.mp i1] at rx
   obtain⟨t,rfl⟩:=rx
   obtain⟨v2,rfl,i3⟩:=je i2
   rw [fM.gw.mp i3] at rv
   obtain⟨u',rfl,t',rfl⟩:=rv.one
   refine b7 F.slot_str_partition (dF _ _ _) F.entry_str_partition (F.args_str_partition_2 _ _) (meets_str_partition x y t t' hz.1 hz.2) ?_
   have fin:∀ (its:Lw) (xs:Lr) (tk:Nat),gE (xs.map V.str) its->xs.length=3->KD X.K H (.tuple (xs.map .str)) Q->EP X pins σ Q (.ref (zB s)) { s with heap:=s.heap.push { cls:=.type "tuple",data:=.seq its.toArray },toks:=tk }:=fun its xs tk hv hl kk=>by
    have I':=I.laid (a:=(zB s)) (o:=.tup (xs.map V.str)) (t':=tk) (h':=s.heap.push { cls:=.type "tuple",data:=.seq its.toArray }) (fun _ _ q=>ak _ q) (aD _) ⟨by rw [ae,hl];decide,its,hv,_,aF _ rfl,rfl,0,rfl⟩
    exact⟨.ref (zB s),_,I',rfl,kk.Pw (oF _) _ I.fresh⟩
   revert k
   cases occurrences x y 0 x.length 1 with
   | nil=>exact fun k=>fin _ [x,Str.empty,Str.empty] _ (.cons ⟨_,rfl⟩ (.cons ⟨_,rfl⟩ (.cons ⟨_,rfl⟩ .nil))) rfl k
   | cons i r=>exact fun k=>fin _ [strSub x 0 i,y,strSub x (i+y.length) x.length] _ (.cons ⟨_,rfl⟩ (.cons ⟨_,rfl⟩ (.cons ⟨_,rfl⟩ .nil))) rfl k
  ·rw [ao hz] at e;cases e
 ·cases e
def ue (x y:PyData):Od:=match x,y with
 | .str z,.int n=>if 0<=n/\n<=64/\z.length<=64 then some (.str (Txt.mul z n)) else none
 | x,y=>Ul x y
theorem ED {z:Str}{n:Int}(h:0<=n/\n<=64/\z.length<=64):MulOk z n:=mulOk_of 64 64 (by omega) (by omega) (by omega) (by decide) (by decide)
theorem Qf:mU X (binaryOp .Mult) (fun x y H Q=>∃ z n,x=.str z/\y=.int n/\(0<=n/\n<=64/\z.length<=64)/\Q (.str (Txt.mul z n)) H):=by
 intro pins s σ H x y v u Q I rx ry h
 obtain⟨z,n,rfl,rfl,hz,q⟩:=h
 obtain⟨t,rfl⟩:=rx
 obtain⟨t',rfl⟩:=ry
 exact SB.mul (ED hz) fun t2 k=>⟨.str _,H,I.tok _,⟨t2,rfl⟩,q⟩
theorem xU:uY X (binaryOp .Mult) ue:=by
 refine mU.imp (mU.or Um Qf) fun x y H Q ⟨a,b,d,ia,ib,e,k⟩=>?_
 unfold ue at e
 split at e
 ·rename_i z n
  by_cases hz:0<=n/\n<=64/\z.length<=64
  ·rw [ai hz] at e;cases e
   exact .inr ⟨z,n,fM.gw.mp ia,fM.fZ.mp ib,hz,k.here (fM.gw.mpr rfl)⟩
  ·rw [ao hz] at e;cases e
 ·exact .inl ⟨a,b,d,ia,ib,e,k⟩
def vc (x y:PyData):Od:=match x,y with
 | .str a,.str b=>some (.bool (!decide (b.cps.toList<a.cps.toList)))
 | x,y=>Zt x y
theorem Kq:mU X (compareOp .LtE) (fun x y H Q=>∃ i j,x=.str i/\y=.str j/\Q (.bl (!decide (j.cps.toList<i.cps.toList))) H):=by
 intro pins s σ H x y v u Q I rx ry h
 obtain⟨i,j,rfl,rfl,q⟩:=h
 obtain⟨t,rfl⟩:=rx
 obtain⟨t',rfl⟩:=ry
 exact PySem.P.le_str (x9 I q rfl)
theorem CM:uY X (compareOp .LtE) vc:=by
 refine mU.imp (mU.or Xi Kq) fun x y H Q ⟨a,b,d,ia,ib,e,k⟩=>?_
 unfold vc at e
 split at e
 ·rename_i z n
  cases e
  exact .inr ⟨z,n,fM.gw.mp ia,fM.gw.mp ib,k.here (fM.f9.mpr rfl)⟩
 ·exact .inl ⟨a,b,d,ia,ib,e,k⟩
def yH (g g':PyData->PyData->Od)(fa fb fc:fu->Od):fu->Option Bool:=fun ρ=>(fa ρ).bind fun x=>(fb ρ).bind fun y=>(g x y).bind fun r=>(UN r).bind fun k=>if k=true then (fc ρ).bind fun z=>(g' y z).bind UN else some false
where UN:PyData->Option Bool | .bool b=>some b|_=>none
theorem By {b:Bool}(h:yH.UN d=some b):d=.bool b:=by cases d<;>first|(cases h;rfl)|cases h
theorem Kr {op TN:CmpOp}{g g':PyData->PyData->Od} (ho:uY X (compareOp op) g) (LD:uY X (compareOp TN) g') (ha:PD X a fa) (hb:PD X b fb) (hc:PD X c fc)
  (hm:lastMarks [op,TN] [b,c]=false:=by with_unfolding_all rfl):Gb X (.Compare a [op,TN] [b,c] pos) (yH g g' fa fb fc) :=
 PT.imp (LV ho LD ha hb hc hm) fun σ H Q ⟨ρ,b,hs,e,k⟩=>by
  obtain⟨x,e1,q1⟩:=bind_some e
  obtain⟨y,e2,q2⟩:=bind_some q1
  obtain⟨r,e3,q3⟩:=bind_some q2
  obtain⟨kk,e4,q4⟩:=bind_some q3
  have:=By e4
  subst this
  clear e q1 q2 q3
  refine⟨ρ,x,hs,e1,fun v H1 s1 i1=>⟨ρ,y,hs.same s1,e2,fun u H2 s2 i2=>⟨x,y,.bool kk,i1.same s2,i2,e3,fun w H3 s3 i3=>⟨kk,fM.f9.mp i3,?_⟩⟩⟩⟩
  cases kk with
  | false =>
   rw [ao aQ] at q4 ⊢
   cases q4
   exact⟨false,rfl,k H3 (s1.trans (s2.trans s3))⟩
  | true =>
   rw [ai rfl] at q4 ⊢
   obtain⟨z,e5,q5⟩:=bind_some q4
   obtain⟨r2,e6,e7⟩:=bind_some q5
   have:=By e7
   subst this
   exact⟨ρ,z,hs.same (s1.trans (s2.trans s3)),e5,fun w2 H4 s4 i4=>⟨y,z,.bool b,i2.same (s3.trans s4),i4,e6,fun w3 H5 s5 i5=>⟨b,fM.f9.mp i5,k H5 (s1.trans (s2.trans (s3.trans (s4.trans s5))))⟩⟩⟩
def XM (f:fu->Od):fu->Od:=fun ρ=>(f ρ).bind fun d=>match d with | .str x=>if x.length<=sizeLine then some (.str x) else none|_=>none
theorem MX (h:XM f ρ=some d):∃ x,f ρ=some (.str x)/\d=.str x/\x.length<=sizeLine:=by
 obtain⟨x,e1,e2⟩:=bind_some h
 obtain⟨y,rfl⟩:∃ y,x=.str y:=by cases x<;>first|exact⟨_,rfl⟩|cases e2
 dsimp only at e2
 by_cases hy:y.length<=sizeLine
 ·rw [ai hy] at e2;cases e2;exact⟨y,e1,rfl,hy⟩
 ·rw [ao hy] at e2;cases e2
theorem Ss (he:PD X e f):PD X (.FormattedValue e (-1) none pos) (XM f):=by
 intro pins s σ H Q I ⟨ρ,d,hs,e1,k⟩
 obtain⟨x,e2,rfl,hx⟩:=MX e1
 refine wpAny_FormattedValue_plain (jl (@he pins s σ H (fun v H'=>v=.str x/\fV H H') I ⟨ρ,_,hs,e2,fun v H' s' i=>⟨fM.gw.mp i,s'⟩⟩) fun v s1 ⟨y,H1,I1,r1,q1,q2⟩=>?_)
 subst q1
 obtain⟨t,rfl⟩:=r1
 have fin:∀ t' tk,EP X pins σ Q (.str x t') { s1 with toks:=tk }:=fun t' tk=>⟨.str x,H1,I1.tok tk,⟨t',rfl⟩,(k.later q2).here (fM.gw.mpr rfl)⟩
 exact wpAny_formatField_str (fin t s1.toks) (fin _ _) hx
def PJ (X:Cx)(es:Lx)(fj:fu->Option Str):Prop :=
 ∀ (acc:Str) (pins:Ax) (s:Shared) (σ:St) (H:Hp) (Q:Str->Shared->Prop),fW X pins σ H s->(∃ ρ z,ka X.K H σ ρ/\fj ρ=some z/\(acc++z).length<=sizeLine/\∀ H' s',fV H H'->fW X pins σ H' s'->Q (acc++z) s') ->
  Joins (model X.prog X.w) X.A X.xe (evalEach es X.env) acc Q s
theorem yI (a:Str):a++Str.empty=a:=by
 cases a with|mk c=>show Str.mk (c++#[])=Str.mk c;rw [Array.append_empty]
theorem qF (a b c:Str):a++b++c=a++(b++c):=by
 cases a with|mk x=>cases b with|mk y=>cases c with|mk z=>show Str.mk (x++y++z)=Str.mk (x++(y++z));rw [Array.append_assoc]
theorem pM (a b:Str):(a++b).length=a.length+b.length:=strLen_append ..
theorem UO:PJ X [] (fun _=>some Str.empty):=by
 intro acc pins s σ H Q I ⟨ρ,z,hs,e,hz,k⟩
 cases e
 have:=k H s (.refl H) I
 rw [yI] at this
 exact this
def EE (f:fu->Od)(g:fu->Option Str):fu->Option Str:=fun ρ=>(f ρ).bind fun d=>(g ρ).bind fun z=>match d with | .str y=>some (y++z)|_=>none
theorem CN (he:PD X e f){fj:fu->Option Str}(hr:PJ X es fj)(hev:evalEach (e::es) X.env=eval e X.env::evalEach es X.env:=by rfl):PJ X (e::es) (EE f fj):=by
 intro acc pins s σ H Q I ⟨ρ,z,hs,e1,hz,k⟩
 obtain⟨d,e2,e3⟩:=bind_some e1
 obtain⟨z',e4,e5⟩:=bind_some e3
 obtain⟨y,rfl⟩:∃ y,d=.str y:=by cases d<;>first|exact⟨_,rfl⟩|cases e5
 cases e5
 rw [hev]
 refine jl (@he pins s σ H (fun v H'=>v=.str y/\fV H H') I ⟨ρ,_,hs,e2,fun v H' s' i=>⟨fM.gw.mp i,s'⟩⟩) fun v s1 ⟨x,H1,I1,r1,q1,q2⟩=>?_
 subst q1
 obtain⟨t,rfl⟩:=r1
 have hl:(acc++y).length<=sizeLine:=by rw [pM] at hz ⊢;rw [pM] at hz;omega
 refine⟨y,t,rfl,hl,hr (acc++y) pins s1 σ H1 Q I1 ⟨ρ,z',hs.same q2,e4,by rw [qF];exact hz,fun H' s' sH I'=>?_⟩⟩
 rw [qF]
 exact k H' s' (q2.trans sH) I'
def dFs (fj:fu->Option Str):fu->Od:=fun ρ=>(fj ρ).bind fun z=>if z.length<=sizeLine then some (.str z) else none
theorem Qg {v1 v2:Expr}{rest:Lx}{fj:fu->Option Str}(hj:PJ X (v1::v2::rest) fj):PD X (.JoinedStr (v1::v2::rest) pos) (dFs fj):=by
 intro pins s σ H Q I ⟨ρ,d,hs,e1,k⟩
 obtain⟨z,e2,e3⟩:=bind_some e1
 by_cases hz:z.length<=sizeLine
 ·rw [ai hz] at e3;cases e3
  have e0:Str.empty++z=z:=by cases z with|mk c=>show Str.mk (#[]++c)=Str.mk c;rw [Array.empty_append]
  refine wpAny_JoinedStr (hj Str.empty pins s σ H _ I ⟨ρ,z,hs,e2,by rw [e0];exact hz,fun H' s' sH I'=>?_⟩)
  rw [e0]
  exact⟨hz,.str z,H',I'.tok _,⟨_,rfl⟩,(k.later sH).here (fM.gw.mpr rfl)⟩
 ·rw [ao hz] at e3;cases e3
def qX (p:PyData->Bool):Lp->Nat->Option Nat
 | [],_=>none
 | d::ds,k=>if p d=true then some k else qX p ds (k+1)
def yJ (l:PyData)(ds:Lp):Od:=match l,ds with
 | .list xs,[x]=>if SeqAt.shaped x=true/\xs.all SeqAt.shaped=true/\x.depth<=60/\xs.length<=sizeLine then (qX (fun y=>PyData.eqv y x) xs 0).map fun (j:Nat)=>PyData.int (j:Int) else none
 | _,_=>none
theorem vd {p:PyData->Bool}:∀ {ds:Lp}{k j:Nat},qX p ds k=some j->k<=j/\j - k<ds.length/\(∃ d,ds[j - k]?=some d/\p d=true)/\∀ i d,i<j - k->ds[i]?=some d->p d=false
 | [],_,_,h=>by cases h
 | x::ds,k,j,h=>by
  unfold qX at h
  by_cases hx:p x=true
  ·rw [ai hx] at h;cases h
   refine⟨aD _,by simp,⟨x,by simp,hx⟩,fun i d hi=>by omega⟩
  ·rw [ao hx] at h
   obtain⟨h1,h2,⟨d,h3,h4⟩,h5⟩:=vd h
   have e:j - k=(j - (k+1))+1:=by omega
   refine⟨by omega,by rw [e];simpa using h2,⟨d,by rw [e];simpa using h3,h4⟩,fun i y hi hy=>?_⟩
   cases i with
   | zero=>simp at hy;subst hy;simpa using hx
   | succ i=>exact h5 i y (by omega) (by simpa using hy)
end
end L2
local macro_rules
| `(zT $a $b) => `(L2.CL PySem.F.slot_str_split PySem.F.type_str_split L2.MW $a $b)
| `(zJ $a $b) => `(L2.CL PySem.F.slot_str_join PySem.F.type_str_join L2.Qe $a $b)
namespace PySem
open Builtin
theorem v7:typeLookup (.type "list") "keys"=pure none:=by rw [eV,dy];kernel_rfl
theorem CO {prog:Program}{hp:Heap}{gs:Array GenState}{dr:Drawn}{tk:Nat}{os:OsState}{sl:Array Ow}{its:Array Value}{nm:Str}{Q:Ow->Shared->Prop}
    (ha:hp.get? a=some { cls:=.type "list",dict:=none,data:=.seq its n,slots:=sl }) (XN:typeLookup (.type "list") nm=pure none) (plain:(["__module__","__name__","__qualname__","__doc__","__annotations__"]:Lr).contains nm=false) (calm:A.handled=none) (short:nm.length+100<=sizeLine)
    (k:∀ Uw ZL x,Heap.NewExcOf hp Uw x "AttributeError"->Q none ⟨Uw,gs,dr,ZL,os⟩):wpAny (model prog w) A (getAttr? (.ref a) nm) Q E ⟨hp,gs,dr,tk,os⟩:=by
  have ty:∀ t,Shared.TypeIs ⟨hp,gs,dr,t,os⟩ (.ref a) "list":=fun t=>⟨_,ha,rfl⟩
  have c1:=sub_AttributeError
  have c2:=F.slot_list_getattribute.lookup
  have c3:=F.slot_list_getattribute.bind (.ref a)
  have c4:=am_list_getattr_none
  unfold getAttr? getAttrBy? getAttrBy
  repeat (any_goals (first
    | assumption
    | exact ty _
    | ((with_reducible show wpAny _ _ (call (Value.builtin "list.__getattribute__") _ _) _ _ _)
       refine b7 F.slot_list_getattribute (ty _) am_entry_list_getattribute (F.args_list_getattribute_2 _ _) (meets_getattribute_miss_list a its n sl nm _ XN plain short) ⟨ha,calm,fun Uw ZL x new=>?_⟩)
    | wp_step))
  obtain⟨_,_,there⟩:=new.there
  show wpAny _ _ (getattributeRaised _ _ _ _ _ _ _) _ _ _
  unfold getattributeRaised
  repeat (any_goals (first|assumption|wp_step))
  exact k _ _ _ new.of
namespace F
theorem lA:entryFor table "dict.update.loop"=some Builtin.«dict.update.loop»:=entryFor_of_tree (zK 0)
theorem iN:plainId "dict.update.loop"=true:=by decide +kernel
end F
section
variable {prog:Program}{K:Type} [DecidableEq K] {knd:KeyKind prog w K}   
inductive nE (knd:KeyKind prog w K) (h:Heap):Lw->List (K×Value)->Prop
 | nil:nE knd h [] []
 | cons {T:Addr}{key v:Value}{k:K}{vs:Lw}{ps:List (K×Value)}:h.IsTuple T #[key,v]->knd.is k key=true->nE knd h vs ps->nE knd h (.ref T::vs) ((k,v)::ps)
theorem nE.keep {h h':Heap}{vs:Lw}{ps:List (K×Value)}(x:nE knd h vs ps)(k:∀ b o xs n,h.get? b=some o->o.data=.seq xs n->h'.get? b=some o):nE knd h' vs ps:=by
 induction x with
 | nil=>exact .nil
 | cons a b c ih =>
  obtain⟨o,e1,e2,n,e3⟩:=a
  exact .cons ⟨o,k _ _ _ _ e1 e3,e2,n,e3⟩ b ih
def EF (acc ps:List (K×Value)):List (K×Value):=ps.foldl (fun a p=>stored a p.1 p.2) acc
theorem GZ (a:List (K×Value))(k:K)(v:Value):(stored a k v).length<=a.length+1:=by
 unfold stored
 split<;>simp
theorem MY {D I l:Addr}{items:Array Value}{R:Result->Shared->Prop}(hh:A.in1.handled=none)(Qh:D≠I)(h₀:Heap)(XO:h₀.get? D=none)(UP:h₀.get? I=none) :
  ∀ (vs:Lw) (ps:List (K×Value)) (i:Nat) (s:Shared) (acc:List (K×Value)),items.toList.drop i=vs->nE knd s.heap vs ps->(∀ b o,h₀.get? b=some o->s.heap.get? b=some o)->s.heap.IsListIter I l i->s.heap.IsList l items->s.heap.DictOf knd D acc->acc.length+ps.length<=sizeLine ->
  (∀ h' tk,h'.DictOf knd D (EF acc ps)->(∀ b o,h₀.get? b=some o->h'.get? b=some o)->R (.ok (.ret .none)) { s with heap:=h',toks:=tk }) ->
  codeAny (model prog w) A (.builtin "dict.update.loop" ⟨[.ref D,.ref I,rawInt i,.none],[]⟩) R s
 | [],_,i,s,acc,hv,hp,h0,hI,hl,hd,hz,hR=>by
  cases hp
  refine cg F.lA ?_
  rw [bV F.iN _]
  show wpAny _ A.in1 (pyNext (.ref I)>>=_) _ _ s
  have hn:items[i]?=none:=by
   have:=List.drop_eq_nil_iff.mp hv
   simp at this ⊢;omega
  refine ab (du hh hI hl hn fun h' eb=>?_)
  show wpAny _ A.in1 (Builtin.Dict.addKeywords D []>>=_) _ _ _
  refine ab (aw (aw ?_))
  obtain⟨o,es,ep,hg,r⟩:=hd
  exact hR h' s.toks ⟨o,es,ep,eb _ _ Qh hg,r⟩ fun b o e=>eb b o (fun z=>by rw [z,UP] at e;cases e) (h0 b o e)
 | v::vs,_,i,s,acc,hv,hp,h0,hI,hl,hd,hz,hR=>by
  cases hp with
  | @cons T key val k _ ps ht hk hp =>
   refine cg F.lA ?_
   rw [bV F.iN _]
   show wpAny _ A.in1 (pyNext (.ref I)>>=_) _ _ s
   have qt:i<items.size:=by
    have:=bQ List.length hv
    simp at this;omega
   have hx:items[i]?=some (.ref T):=by
    have:=bQ (·[0]?) hv
    simpa using this
   have hv2:items.toList.drop (i+1)=vs:=by
    have e:=cb (l:=items.toList) (i:=i) (by simpa using qt)
    rw [hv] at e
    injection e with _ e2
    exact e2.symm
   refine ab (da hI hl hx fun h' hI' sb=>?_)
   have Wh:h'.IsTuple T #[key,val]:=by
    obtain⟨o,e1,e2,n,e3⟩:=ht
    refine⟨o,(sb.2 _ fun z=>?_).trans e1,e2,n,e3⟩
    subst z
    obtain⟨oi,ei,ci,di⟩:=hI
    rw [e1] at ei;cases ei
    rw [e3] at di;cases di
   obtain⟨ot,et1,et2,nt,et3⟩:=id Wh
   show wpAny _ A.in1 (holding [.ref T] _>>=_) _ _ _
   refine ab (bx ?_)
   refine ab (wpAny_tryCatch ?_)
   unfold Builtin.Dict.pairItems
   refine ab (cF (T:="tuple") ⟨ot,et1,et2⟩ ?_)
   have hc1:((Value.type "tuple"==Value.type "list")||(Value.type "tuple"==Value.type "tuple"))=true:=by decide
   simp only [hc1,cE]
   refine ab ?_
   unfold seqItems?
   refine ab (wpAny_load et1 ?_)
   rw [et3]
   refine aw (aw ?_)
   show wpAny _ _ (holding [key,val] (dictSet D key val)) _ _ _
   have LF:h'.DictOf knd D acc:=by
    obtain⟨o,es,ep,hg,r⟩:=id hd
    exact⟨o,es,ep,(sb.2 _ Qh).trans hg,r⟩
   have nI:∀ b o xs n,s.heap.get? b=some o->o.data=.seq xs n->b≠I:=fun b o xs n e1 e2 z=>by
    subst z
    obtain⟨oi,ei,ci,di⟩:=hI
    rw [e1] at ei;cases ei
    rw [e2] at di;cases di
   have nD:∀ b o xs n,s.heap.get? b=some o->o.data=.seq xs n->b≠D:=fun b o xs n e1 e2 z=>by
    subst z
    obtain⟨o',es,ep,hg,hx2,Ai,_⟩:=hd
    rw [e1] at hg;cases hg
    rw [e2] at Ai;cases Ai
   refine bx (wpAny_dictSet_pairs hk LF (fun h2 hd2 Bz=>?_) (hsz:=by simp at hz;omega))
   refine aw ⟨cI F.iN _,?_⟩
   have ei:((i:Int)+1)=((i+1:Nat):Int):=by omega
   rw [ei]
   have Ln:h2.IsList l items:=by
    obtain⟨o,e1,e2,n,e3⟩:=hl
    exact⟨o,(Bz.2 _ (nD _ _ _ _ e1 e3)).trans ((sb.2 _ (nI _ _ _ _ e1 e3)).trans e1),e2,n,e3⟩
   have hI2:h2.IsListIter I l (i+1):=hI'.at fun o e=>(Bz.2 _ (Ne.symm Qh)).trans e
   refine MY hh Qh h₀ XO UP vs ps (i+1) { s with heap:=h2,toks:=s.toks+1 } (stored acc k val) hv2 (hp.keep fun b o xs n e1 e2=>(Bz.2 _ (nD b o xs n e1 e2)).trans ((sb.2 _ (nI b o xs n e1 e2)).trans e1)) (fun b o e=>?_) hI2 Ln hd2 ?_ fun h3 tk UQ k3=>hR h3 tk UQ k3
   ·have b1:b≠I:=fun z=>by rw [z,UP] at e;cases e
    have b2:b≠D:=fun z=>by rw [z,XO] at e;cases e
    exact(Bz.2 b b2).trans ((sb.2 b b1).trans (h0 b o e))
   ·have:=GZ acc k val
    simp at hz ⊢
    omega
theorem xu {l:Addr}{o:Obj}{items:Array Value}{ps:List (K×Value)}{Q:Px} (hh:A.handled=none) (hx:s.heap.get? l=some o) (hc:o.cls=.type "list") (CP:o.data=.seq items n) (Ai:o.dict=none)
  (hp:nE knd s.heap items.toList ps) (hsz:ps.length<=sizeLine)
  (h:∀ h' tk,h'.DictOf knd (zB s) (EF [] ps)->(∀ b o,s.heap.get? b=some o->h'.get? b=some o)->Q (.ref (zB s)) { s with heap:=h',toks:=tk }) :
  wpAny (model prog w) A (call (.type "dict") [.ref l]) Q E s:=by
 refine callType_codes (Q₁:=fun obj s₁=>obj=.ref (zB s)/\s₁={ s with heap:=s.heap.push { cls:=.type "dict",data:=.dict #[] } }) F.kt_called_dict (F.kt_typeCall_dict_1 _) F.entry_dict_init (kt_code_dict_new _ ⟨rfl,rfl⟩) ?_
 rintro obj s₁ ⟨rfl,rfl⟩
 have Me:(s.heap.push { cls:=.type "dict",data:=.dict #[] }).DictOf knd (zB s) []:=Heap.DictOf.new s.heap
 obtain⟨oc,od,oda,Ll⟩:=o
 simp only at hc CP Ai
 subst hc CP Ai
 have ZM:=ak { cls:=.type "dict",data:=.dict #[] } hx
 refine⟨Me.typeIs,F.args_dict_init_2 _ _,?_⟩
 unfold Builtin.«dict.__init__»
 refine ab ?_
 unfold Builtin.Dict.selfAndRest
 refine ab (wpAny_notOrdered_dict Me.typeIs ?_)
 show wpAny _ _ (pure ((zB s),[Value.ref l])) _ _ _
 refine aw ?_
 show wpAny _ _ (Builtin.Dict.updateFrom "dict.__init__" (zB s) (.ref l) [] .none) _ _ _
 unfold Builtin.Dict.updateFrom
 refine ab (cF (T:="list") ⟨_,ZM,rfl⟩ ?_)
 rw [ai (by decide)]
 refine ab (CO ZM v7 (zD 0) (show A.in1.in1.handled=none from hh) (by decide) fun h1 tk1 e1 ne=>?_)
 rw [ai (show (none:Ow).isNone=true from rfl)]
 refine ab (e9 ?_)
 have ZF:h1.IsList l items:=⟨_,ne.keeps _ _ ZM,rfl,n,rfl⟩
 refine ab (de ZF ?_)
 refine aw ⟨cI F.iN _,?_⟩
 have XQ:(zB s)<h1.objs.size:=ay (ne.keeps _ _ (aF s.heap (o:={ cls:=.type "dict",data:=.dict #[] }) rfl))
 have kp:∀ b ob,s.heap.get? b=some ob->(h1.push { cls:=.type "list_iterator",data:=.fields #[.ref l,.int 0 0] }).get? b=some ob:=fun b ob e=>ak _ (ne.keeps _ _ (ak _ e))
 have hd2:(h1.push { cls:=.type "list_iterator",data:=.fields #[.ref l,.int 0 0] }).DictOf knd (zB s) []:=by
  obtain⟨o',es,ep,hg,r⟩:=Me
  exact⟨o',es,ep,ak _ (ne.keeps _ _ hg),r⟩
 have Ln:(h1.push { cls:=.type "list_iterator",data:=.fields #[.ref l,.int 0 0] }).IsList l items:=⟨_,ak _ (ne.keeps _ _ ZM),rfl,n,rfl⟩
 exact MY (knd:=knd) (s:={ s with heap:=h1.push { cls:=.type "list_iterator",data:=.fields #[.ref l,.int 0 0] },toks:=tk1 }) (show A.in1.in1.handled=none from hh) (aP XQ) s.heap (by
   cases q:s.heap.get? (zB s) with
   | none=>rfl
   | some z=>exact absurd (ay q) (a7 _)) (by
   cases q:s.heap.get? h1.objs.size with
   | none=>rfl
   | some z=>exact absurd (eS (ay q) XQ) (a7 _)) items.toList ps 0 [] rfl (hp.keep fun b ob xs m e _=>kp b ob e) kp ⟨_,aF _ rfl,rfl,rfl⟩ Ln hd2 (by simpa using hsz)
  fun h3 tk3 UQ k3=>⟨rfl,h h3 tk3 UQ k3⟩
end
end PySem
namespace L2
open PySem PySem.Spec PyProof.Rows
def ve:Lp->Option (List (Key×PyData))
 | []=>some []
 | .tuple [k,d]::r=>(sg k).bind fun y=>(ve r).map ((y,d)::·)
 | _::_=>none
def Su (ps:List (Key×PyData))(a:List (PyData×PyData)):List (PyData×PyData):=ps.foldl (fun a p=>Ex (kr p.1) p.2 a) a
def uf (ps:List (Key×V))(a:List (Key×V)):List (Key×V):=ps.foldl (fun a p=>pE a p.1 p.2) a
def CQ:Lp->Od
 | [.list ds]=>(ve ds).bind fun ps=>if ps.length<=sizeLine then some (.dict (Su ps [])) else none
 | _=>none
section
theorem EG (I:fW X pins σ H s):∀ {ds:Lp}{ps:List (Key×PyData)}{vs:List V}{us:Lw},ve ds=some ps->fz X.K H ds vs->gE vs us ->
  ∃ (fE:List (Key×V)) (ws:List (Key×Value)),nE (gS X.prog X.w) s.heap us ws/\KV fE ws/\fE.length=ps.length/\∀ a b,gY X.K H a b->gY X.K H (Su ps a) (uf fE b)
 | [],_,_,_,e,i,r=>by
  cases e
  rw [fz.gn.mp i] at r
  cases r
  exact⟨[],[],.nil,.nil,rfl,fun a b h=>h⟩
 | d::ds,_,_,_,e,i,r=>by
  obtain⟨v,vs,rfl,i1,i2⟩:=fz.fT.mp i
  obtain⟨k,d2,rfl⟩:∃ k d2,d=.tuple [k,d2]:=by
   unfold ve at e
   split at e
   ·rename_i z;cases z
   ·rename_i k d2 r z;injection z with z1 z2;exact⟨k,d2,z1⟩
   ·cases e
  obtain⟨y,e1,e2⟩:=bind_some (show (sg k).bind (fun y=>(ve ds).map ((y,d2)::·))=some _ from e)
  obtain⟨ps,e3,rfl⟩:=aj.mp e2
  cases r with
  | cons r1 r2 =>
   obtain⟨fE,ws,a1,a2,a3,a4⟩:=EG I e3 i2 r2
   obtain⟨T,ts,rfl,sq,it⟩:=i1.iP
   cases r1
   obtain⟨v1,v2,rfl,j1,j2⟩:=Ms it
   obtain⟨its,rv,pl,_⟩:=I.tuple sq
   have:=js e1
   subst this
   rw [jO j1] at rv
   cases rv with
   | @cons _ w1 _ _ q1 t1 =>
    cases t1 with
    | @cons _ w2 _ _ q2 t2 =>
     cases t2
     exact⟨(y,v2)::fE,(y,w2)::ws,nE.cons pl (qx q1) a1,Paired.cons ⟨rfl,q2⟩ a2,by rw [ar,ar,a3],fun a b h=>a4 _ _ (h.put j2)⟩
theorem KV.aaZ {ps:List (Key×V)}{ws:List (Key×Value)}(r:KV ps ws):∀ {a:List (Key×V)}{b:List (Key×Value)},KV a b->KV (uf ps a) (EF b ws):=by
 induction r with
 | nil=>exact fun h=>h
 | @cons p q ps qs h t ih =>
  intro a b hab
  obtain⟨h1,h2⟩:=h
  have:=hab.put p.1 h2
  rw [show uf (p::ps) a=uf ps (pE a p.1 p.2) from rfl,show EF b (q::qs)=EF (stored b q.1 q.2) qs from rfl,← h1]
  exact ih this
theorem BA:∀ (ps:List (Key×V)) (a:List (Key×V)),(uf ps a).length<=a.length+ps.length
 | [],a=>by simp [uf]
 | p::ps,a=>by
  have h1:=BA ps (pE a p.1 p.2)
  have h2:=pL a p.1 p.2
  rw [show uf (p::ps) a=uf ps (pE a p.1 p.2) from rfl,ar]
  omega
theorem Qi (hc:X.calm=true):yn X (.type "dict") CQ:=by
 intro pins s σ H xs us Q I r h
 obtain⟨ds,c,i,e,k⟩:=h
 unfold CQ at e
 split at e
 ·rename_i ls
  obtain⟨ps,e1,e2⟩:=bind_some e
  by_cases hz:ps.length<=sizeLine
  ·rw [ai hz] at e2;cases e2
   obtain⟨v,rfl,h1⟩:=je i
   obtain⟨u,rfl,ru⟩:=uQ r
   obtain⟨p,vs,rfl,sq,iv⟩:=fM.gv.mp h1
   cases ru
   obtain⟨its,rv,⟨o,n,ho,uM,Ai,CP⟩,_⟩:=I.list sq
   obtain⟨fE,ws,a1,a2,a3,a4⟩:=EG I e1 iv rv
   have hw:ws.length=ps.length:=by rw [← a2.length,a3]
   refine xu (knd:=gS X.prog X.w) (I.ok.hd hc) ho uM CP Ai (by simpa using a1) (by rw [hw];exact hz) fun h' tk hd kp=>?_
   have hl:(uf fE []).length<=sizeLine:=by have:=BA fE [];simp at this;omega
   have I':=I.laid (a:=(zB s)) (o:=.dK (uf fE [])) (t':=tk) kp (aD _) (GG hl (aW.mpr (Ne.symm (aP I.big))) (KV.aaZ a2 .nil) hd)
   refine⟨.ref (zB s),_,I',rfl,k _ _ (kO I.fresh) (fM.oT.mpr ⟨_,rfl,.inl ⟨_,gp,?_⟩⟩)⟩
   exact(a4 [] [] (gY.gn.mpr rfl)).same (kO I.fresh)
  ·rw [ao hz] at e2;cases e2
 ·cases e
end
end L2
namespace PySem
open Builtin
section
variable {prog:Program}    
abbrev aa0 (prog:Program)(w:World)(A:Around)(R:Result->Shared->Prop):Fin->Shared->Prop:=fun fin s'=>match fin with
 | .done f=>R (.ok f) s'
 | .again c'=>c'.quiet=true/\codeAny (model prog w) A c' R s'
theorem wW {x:Value}{Q:Px}
  (go:∀ h2 c,h2.get? (zB s)=some (zl #[] c)->(∀ b o,s.heap.get? b=some o->h2.get? b=some o) ->
   wpAny (model prog w) A.in1.in1 (Builtin.List.listExtendWith (.ref (zB s)) x .none) (aa0 prog w A.in1 (wants (fun r s₂=>r=.none/\Q (.ref (zB s)) s₂) E)) (fun e s'=>wants (fun r s₂=>r=.none/\Q (.ref (zB s)) s₂) E (.error e) s') { s with heap:=h2 }) :
  wpAny (model prog w) A (call (.type "list") [x]) Q E s:=by
 refine callType_codes (Q₁:=fun obj s₁=>obj=.ref (zB s)/\s₁={ s with heap:=s.heap.push { cls:=.type "list",data:=.seq #[] } }) F.called_list (F.typeCall_list_1 _) F.entry_list_init (code_list_new _ ⟨rfl,rfl⟩) fun obj s₁ h₁=>?_
 obtain⟨rfl,rfl⟩:=h₁
 have v8:(s.heap.push { cls:=.type "list",data:=.seq #[] }).get? (zB s)=some { cls:=.type "list",data:=.seq #[] }:=aF _ rfl
 refine⟨⟨_,v8,rfl⟩,F.args_list_init_2 _ _,?_⟩
 show wpAny _ A.in1.in1 (do
  let old ← Builtin.List.listItems (.ref (zB s))
  Builtin.List.listUpdate (.ref (zB s)) (fun _=>#[])
  letGo old.toList.reverse
  Builtin.List.listExtendWith (.ref (zB s)) x .none) _ _ _
 refine ab ?_
 unfold Builtin.List.listItems
 refine ab (eY v8 rfl (aw ?_))
 show wpAny _ A.in1.in1 (updateSeq (zB s) (fun _=>#[])>>=_) _ _ _
 refine ab (cj v8 rfl (ab (wpAny_letGo ?_)))
 refine go _ _ (bB (Obj.mapSeq fun _=>(#[]:Array Value)) v8 rfl) fun b o e=>?_
 have hb:(zB s)≠b:=fun z=>a7 _ (by have:=ay e;rw [← z] at this;exact this)
 exact(bj _ _ hb).trans (ak _ e)
variable {K:Type} [DecidableEq K] {knd:KeyKind prog w K}
theorem yK {d:Addr}{fE:List (K×Value)}{Q:Px} (hh:A.handled=none) (hS:(d==sysModules)=false) (hd:s.heap.DictOf knd d fE) (hn:fE.length<=sizeLine)
  (h:∀ h' tk its c,its.size=fE.length->(∀ (j:Nat) v,its[j]?=some v->∃ k x,fE[j]?=some (k,x)/\knd.is k v=true)->h'.get? (zB s)=some (zl its c)->(∀ b o,s.heap.get? b=some o->h'.get? b=some o)->Q (.ref (zB s)) { s with heap:=h',toks:=tk }) :
  wpAny (model prog w) A (call (.type "list") [.ref d]) Q E s:=by
 obtain⟨ep,MZ⟩:=hd.dictAt
 have ZN:d<(zB s):=MZ.lt_size
 refine wW fun h2 c at2 kp=>?_
 have Qj:h2.DictAt knd d fE ep:=MZ.at' fun o e=>kp _ _ e
 have ty:Shared.TypeIs { s with heap:=h2 } (.ref d) "dict":=Qj.dictOf.typeIs
 have UR:(zB s)<h2.objs.size:=ay at2
 unfold Builtin.List.listExtendWith
 refine ab (cF ty ?_)
 have n1:Builtin.List.listSameRef (.ref (zB s)) (.ref d)=false:=by simp [Builtin.List.listSameRef,dZ ZN]
 have n2:(Value.type "dict"==Value.type "list")=false:=by decide
 have n3:(Value.type "dict"==Value.type "tuple")=false:=by decide
 simp only [n1,n2,n3,cT,b9,eO]
 refine ab (wpAny_pyIter_dict hS Qj ?_)
 refine ab (bx ?_)
 have ty3:Shared.TypeIs { s with heap:=h2.push { cls:=.type "dict_keyiterator",data:=.fields #[.ref d,.int 0 0,.int fE.length 0,.int ep 0] } } (.ref d) "dict":=(Qj.push _).dictOf.typeIs
 unfold Builtin.List.listLengthHint
 refine ab (dO ty3 F.slot_dict_len.lookup ?_)
 have sp:splitId "dict.__len__"=some ("dict","__len__"):=by kernel_rfl
 dsimp only
 rw [sp]
 dsimp only
 refine ab (wpAny_isInstance ty3 isSubtype_dict_dict ?_)
 rw [ao (by decide),ai (by decide)]
 refine ab (cF ty3 ?_)
 show wpAny _ _ (pure false) _ _ _
 refine aw ?_
 rw [ai (by decide)]
 refine ab (e9 (ab ?_))
 show wpAny _ _ (updateSeq (zB s) (·.push .none)>>=fun _=>updateSeq (zB s) (·.pop)) _ _ _
 have ZO:(h2.push { cls:=.type "dict_keyiterator",data:=.fields #[.ref d,.int 0 0,.int fE.length 0,.int ep 0] }).get? (zB s)=some (zl #[] c):=ak _ at2
 refine ab (cj ZO rfl ?_)
 have XR:=bB (Obj.mapSeq (·.push Value.none)) ZO rfl
 refine cj (hz:=by seq_fits) XR rfl ?_
 have at5:=bB (Obj.mapSeq (·.pop)) XR rfl
 have ma:∀ b o,b≠(zB s)->(h2.push { cls:=.type "dict_keyiterator",data:=.fields #[.ref d,.int 0 0,.int fE.length 0,.int ep 0] }).get? b=some o->(((h2.push { cls:=.type "dict_keyiterator",data:=.fields #[.ref d,.int 0 0,.int fE.length 0,.int ep 0] }).update (zB s) (Obj.mapSeq (·.push Value.none))).update (zB s) (Obj.mapSeq (·.pop))).get? b=some o :=
  fun b o hb e=>(bj _ _ (Ne.symm hb)).trans ((bj _ _ (Ne.symm hb)).trans e)
 have hSI:(zB s)∉[h2.objs.size,d]:=by
  intro m
  rcases ah.mp m with e|m
  ·exact absurd e (aP UR)
  ·exact absurd (by simpa using m) (dZ ZN)
 have dI:d≠h2.objs.size:=aP (eS ZN UR)
 refine aw ⟨cI bY _,codeAny_extend_loopS (Walks.dictKeys (knd:=knd) (show A.in1.in1.handled=none from hh) h2.objs.size d dI fE ep).toS hn _ hSI _ fE.length 0 _ _ _ rfl (cW _) ⟨?_,?_⟩ at5 (ItemsOf.nil _) fun s' acc c' hm US XS=>?_⟩
 ·exact Heap.IsKeyIter.at ⟨_,aF _ rfl,rfl,rfl⟩ fun o e=>ma _ _ (Ne.symm (aP UR)) e
 ·exact(Qj.push _).at' fun o e=>ma _ _ (aP ZN) e
 ·obtain⟨h',g',d',ZL,os'⟩:=s'
  have eg:g'=s.gens:=hm.gens
  have ed:d'=s.drawn:=hm.drawn
  have eo:os'=s.os:=hm.os
  subst eg ed eo
  refine⟨rfl,h h' ZL acc c' XS.1 (fun j v e=>XS.2 j v e) US fun b o e=>?_⟩
  have bS:b≠(zB s):=fun z=>a7 _ (by have:=ay e;rw [z] at this;exact this)
  have bI:b≠h2.objs.size:=fun z=>a7 h2.objs.size (eS (by have:=ay e;rw [z] at this;exact this) UR)
  refine hm.heap b o (by simp [bS,bI]) (ma b o bS (ak _ (kp b o e)))
end
end PySem
namespace PySem
open Builtin
section
variable {prog:Program}    
theorem Qk {M:Model}{Q:Option Obj->Shared->Prop}(h:Q (s.heap.get? a) s):wpAny M A (loadIfAlive a) Q E s:=fun Γ p hΓ=>by
 show Sem.wp M Γ (Sem.loadIfAlive a _) _ _ p s
 rw [Sem.wp_loadIfAlive]
 exact h
abbrev v9 (h:Heap)(z TI TO T:Addr)(b:Bool):Prop:=h.get? z=some { cls:=.type "zip",dict:=none,data:=.fields #[rawInt T,.bool b,.bool false,.ref TI,.ref TO],slots:=#[] }
theorem wX {z TI TO T:Addr}{b:Bool}{ot:Obj}{Q:Bool->Shared->Prop} (hz:v9 s.heap z TI TO T b) (ht:s.heap.get? T=some ot)
  (k:∀ h',v9 h' z TI TO T true->Heap.SameBut z s.heap h'->Q false { s with heap:=h' }):wpAny (model prog w) A (Builtin.SmallTypes.ownedTupleIsFree (.ref z)) Q E s:=by
 unfold Builtin.SmallTypes.ownedTupleIsFree
 refine ab (cC hz rfl (x:=rawInt T) rfl ?_)
 show wpAny _ _ (loadIfAlive ((T:Int)).toNat>>=_) _ _ _
 refine ab (Qk ?_)
 rw [show ((T:Int)).toNat=T from dn T,ht]
 rw [ao (by simp)]
 refine ab (cC hz rfl (x:=.bool b) rfl ?_)
 cases b with
 | true =>
  rw [ao (by decide)]
  exact aw (k _ hz (Heap.SameBut.refl _ _))
 | false =>
  rw [ai (by decide)]
  refine ab (wpAny_setField_rec hz (by simp) fun h' XT sb=>aw (k h' XT sb))
theorem G4 {z TI TO T i1 i2 l1 l2:Addr}{b:Bool}{ot:Obj}{k1 k2:Nat}{xs ys:Array Value}{x y:Value}{Q:Px} (D:ZipApart z TI TO i1 i2 l1 l2) (hz:v9 s.heap z TI TO T b) (ht:s.heap.get? T=some ot) (EH:IsPair s.heap TI (.ref i1) (.ref i2))
  (j1:s.heap.IsListIter i1 l1 k1) (j2:s.heap.IsListIter i2 l2 k2) (m1:s.heap.IsList l1 xs) (m2:s.heap.IsList l2 ys) (hx:xs[k1]?=some x) (hy:ys[k2]?=some y)
  (k:∀ h',v9 h' z TI TO T true->h'.IsListIter i1 l1 (k1+1)->h'.IsListIter i2 l2 (k2+1)->IsPair h' (zB s) x y->(∀ c o,c≠z->c≠i1->c≠i2->s.heap.get? c=some o->h'.get? c=some o)->Q (.ref (zB s)) { s with heap:=h' }) :
  wpAny (model prog w) A (Builtin.«zip.__next__» ⟨[.ref z],[]⟩) (fun fin s'=>∃ v,fin=.done (.ret v)/\Q v s') E s:=by
 show wpAny _ _ (field (.ref z) 2>>=_) _ _ _
 refine ab (cC hz rfl (x:=.bool false) rfl ?_)
 show wpAny _ _ (field (.ref z) 3>>=_) _ _ _
 refine ab (cC hz rfl (x:=.ref TI) rfl (ab (eY EH rfl ?_)))
 show wpAny _ _ (Builtin.SmallTypes.ownedTupleIsFree (.ref z)>>=_) _ _ _
 refine ab (wX hz ht fun h1 hz1 G5=>?_)
 rw [ao aQ]
 refine ab ?_
 rw [← Array.forIn_toList]
 simp only [dP,d8]
 refine ab (ab (bx ?_))
 show wpAny _ _ (Builtin.SmallTypes.nextOf (.ref i1)>>=_) _ _ _
 refine ab (dq (j1.extBut G5.extBut D.i1z) (m1.extBut G5.extBut D.l1z) hx fun h2 j12 Bz=>aw (aw ?_))
 dsimp only
 refine ab (ab (bx ?_))
 show wpAny _ _ (Builtin.SmallTypes.nextOf (.ref i2)>>=_) _ _ _
 refine ab (dq ((j2.extBut G5.extBut D.i2z).extBut Bz.extBut D.i12.symm) ((m2.extBut G5.extBut D.l2z).extBut Bz.extBut D.l2i1) hy fun h3 j23 Wi=>aw (aw (aw ?_)))
 have sz:h3.objs.size=(zB s):=by rw [Wi.1,Bz.1,G5.1]
 have kp:∀ c o,c≠z->c≠i1->c≠i2->s.heap.get? c=some o->h3.get? c=some o:=fun c o c1 c2 c3 e=>Wi.extBut _ _ c3 (Bz.extBut _ _ c2 (G5.extBut _ _ c1 e))
 refine ab (wpAny_newTuple (aw ⟨_,rfl,?_⟩) (by show 2<=sizeLine;decide))
 show Q (.ref h3.objs.size) _
 rw [sz]
 have pk:∀ c o,h3.get? c=some o->(h3.push { cls:=.type "tuple",data:=.seq #[x,y] }).get? c=some o:=fun c o e=>ak _ e
 refine k _ (pk _ _ (Wi.extBut _ _ D.i2z.symm (Bz.extBut _ _ D.i1z.symm hz1))) ((j12.extBut Wi.extBut D.i12).at fun o e=>pk _ _ e) (j23.at fun o e=>pk _ _ e) (by rw [← sz];exact aF _ rfl) fun c o c1 c2 c3 e=>pk _ _ (kp c o c1 c2 c3 e)
theorem Ha {z TI TO T i1 i2 l1 l2:Addr}{b:Bool}{ot:Obj}{k1 k2:Nat}{xs ys:Array Value}{Q:Fin->Shared->Prop} (hh:A.handled=none) (D:ZipApart z TI TO i1 i2 l1 l2) (hz:v9 s.heap z TI TO T b) (ht:s.heap.get? T=some ot) (EH:IsPair s.heap TI (.ref i1) (.ref i2))
  (j1:s.heap.IsListIter i1 l1 k1) (j2:s.heap.IsListIter i2 l2 k2) (m1:s.heap.IsList l1 xs) (m2:s.heap.IsList l2 ys) (over:xs[k1]?=none∨ys[k2]?=none)
  (k:∀ h' e,(∀ c o,c≠z->c≠i1->c≠i2->s.heap.get? c=some o->h'.get? c=some o)->(∃ o,h'.get? e=some o/\o.cls=.type "StopIteration")->E (.ref e) { s with heap:=h' }) :
  wpAny (model prog w) A (Builtin.«zip.__next__» ⟨[.ref z],[]⟩) Q E s:=by
 show wpAny _ _ (field (.ref z) 2>>=_) _ _ _
 refine ab (cC hz rfl (x:=.bool false) rfl ?_)
 show wpAny _ _ (field (.ref z) 3>>=_) _ _ _
 refine ab (cC hz rfl (x:=.ref TI) rfl (ab (eY EH rfl ?_)))
 show wpAny _ _ (Builtin.SmallTypes.ownedTupleIsFree (.ref z)>>=_) _ _ _
 refine ab (wX hz ht fun h1 hz1 G5=>?_)
 rw [ao aQ]
 refine ab ?_
 rw [← Array.forIn_toList]
 simp only [dP,d8]
 refine ab (ab (bx ?_))
 show wpAny _ _ (Builtin.SmallTypes.nextOf (.ref i1)>>=_) _ _ _
 cases hx:xs[k1]? with
 | none =>
  exact ab (wpAny_nextOf_list_end hh (j1.extBut G5.extBut D.i1z) (m1.extBut G5.extBut D.l1z) hx fun h2 e Bz he=>k h2 e (fun c o c1 c2 _ q=>Bz _ _ c2 (G5.extBut _ _ c1 q)) he)
 | some x =>
  have hy:ys[k2]?=none:=over.resolve_left (by rw [hx];exact fun q=>nomatch q)
  refine ab (dq (j1.extBut G5.extBut D.i1z) (m1.extBut G5.extBut D.l1z) hx fun h2 j12 Bz=>aw (aw ?_))
  dsimp only
  refine ab (ab (bx ?_))
  show wpAny _ _ (Builtin.SmallTypes.nextOf (.ref i2)>>=_) _ _ _
  exact ab (wpAny_nextOf_list_end hh ((j2.extBut G5.extBut D.i2z).extBut Bz.extBut D.i12.symm) ((m2.extBut G5.extBut D.l2z).extBut Bz.extBut D.l2i1) hy fun h3 e Wi he=>k h3 e (fun c o c1 c2 c3 q=>Wi _ _ c3 (Bz.extBut _ _ c2 (G5.extBut _ _ c1 q))) he)
def CS (S:Addr)(h:Heap)(xs ys acc:Array Value):Prop:=∀ (j:Nat) v,acc[j]?=some v->∃ T x y,v=.ref T/\xs[j]?=some x/\ys[j]?=some y/\IsPair h T x y/\S<T
theorem CT {S z TI TO T i1 i2 l1 l2:Addr}{xs ys:Array Value}(h₀:Heap)(hh:A.in1.handled=none)(D:ZipApart z TI TO i1 i2 l1 l2)(n0:h₀.get? S=none/\h₀.get? z=none/\h₀.get? i1=none/\h₀.get? i2=none)(Ko:(∃ o,h₀.get? l1=some o)/\∃ o,h₀.get? l2=some o)(hn:min xs.size ys.size<=sizeLine) :
    ∀ (m i:Nat) (s:Shared) (acc:Array Value) (c:Nat) (b:Bool),min xs.size ys.size - i=m->i<=min xs.size ys.size->acc.size=i->(∃ ot,s.heap.get? T=some ot/\∃ v n,ot.cls=.type "tuple"/\ot.data=.seq v n)->v9 s.heap z TI TO T b->IsPair s.heap TI (.ref i1) (.ref i2)->s.heap.IsListIter i1 l1 i->s.heap.IsListIter i2 l2 i->s.heap.IsList l1 xs->s.heap.IsList l2 ys ->
      s.heap.get? S=some (zl acc c)->CS S s.heap xs ys acc->(∀ b o,h₀.get? b=some o->s.heap.get? b=some o) ->
      (∀ h' its c',its.size=min xs.size ys.size->CS S h' xs ys its->h'.get? S=some (zl its c')->(∀ b o,h₀.get? b=some o->h'.get? b=some o)->R (.ok (.ret .none)) { s with heap:=h' }) ->
      codeAny (model prog w) A (.builtin "list.extend.loop" ⟨[.ref S,.ref z,.none],[]⟩) R s
:=by
  intro m
  induction m using Nat.strongRecOn with
  | _ m ih =>
    rintro i s acc c b hm hi ha ⟨ot,ht,tv,tn,tc,td⟩ hz EH j1 j2 m1 m2 hS ht2 Wj hR
    have tz:s.TypeIs (.ref z) "zip":=⟨_,hz,rfl⟩
    refine cg F.entry_extend_loop ?_
    rw [bV bY _]
    show wpAny _ A.in1 (pyNext (.ref z)>>=_) _ _ s
    refine ab ?_
    unfold pyNext
    have nz:∀ a o v n,s.heap.get? a=some o->o.data=.seq v n->a≠z:=fun a o v n e1 e2 q=>by
      subst q;rw [hz] at e1;cases e1;cases e2
    have ni1:∀ a o v n,s.heap.get? a=some o->o.data=.seq v n->a≠i1:=fun a o v n e1 e2 q=>by
      subst q;obtain⟨o',e3,_,e4⟩:=j1;rw [e1] at e3;cases e3;rw [e2] at e4;cases e4
    have ZP:∀ a o v n,s.heap.get? a=some o->o.data=.seq v n->a≠i2:=fun a o v n e1 e2 q=>by
      subst q;obtain⟨o',e3,_,e4⟩:=j2;rw [e1] at e3;cases e3;rw [e2] at e4;cases e4
    by_cases qt:i<min xs.size ys.size
    · obtain⟨x,hx⟩:∃ x,xs[i]?=some x:=⟨xs[i]'(by omega),by simp⟩
      obtain⟨y,hy⟩:∃ y,ys[i]?=some y:=⟨ys[i]'(by omega),by simp⟩
      refine ab (wpAny_attempt (cz (name:=zZ "__next__") tz dQ
        (dE dQ tz F.entry_zip_next (G4 D hz ht EH j1 j2 m1 m2 hx hy fun h' XT j1' j2' Wh kp=>aw ?_) (F.args_zip_next_1 _))))
      have CU:∀ a o v n,s.heap.get? a=some o->o.data=.seq v n->h'.get? a=some o:=fun a o v n e1 e2=>kp a o (nz a o v n e1 e2) (ni1 a o v n e1 e2) (ZP a o v n e1 e2) e1
      have US:=CU _ _ _ _ hS rfl
      show wpAny _ A.in1 (updateSeq S (·.push (.ref (zB s)))>>=_) _ _ _
      refine ab (cj US rfl ?_ (by rw [ha];omega))
      have UT:=bB (Obj.mapSeq (·.push (Value.ref (zB s)))) US rfl
      have ma:∀ a o,a≠S->h'.get? a=some o->(h'.update S (Obj.mapSeq (·.push (Value.ref (zB s))))).get? a=some o:=fun a o q e=>(bj _ _ (Ne.symm q)).trans e
      refine aw ⟨cI bY _,?_⟩
      have nS:∀ a o,s.heap.get? a=some o->o.cls≠.type "list"->a≠S:=fun a o e1 e2 q=>by
        subst q;rw [hS] at e1;cases e1;exact e2 rfl
      have l1S:l1≠S:=fun q=>by obtain⟨o,e⟩:=Ko.1;rw [q,n0.1] at e;cases e
      have l2S:l2≠S:=fun q=>by obtain⟨o,e⟩:=Ko.2;rw [q,n0.1] at e;cases e
      have zS:z≠S:=nS z _ hz (by intro q;injection q with q;revert q;decide)
      have TS:T≠S:=nS T _ ht (by rw [tc];intro q;injection q with q;revert q;decide)
      have TIS:TI≠S:=nS TI _ EH (by intro q;injection q with q;revert q;decide)
      have XU:i1≠S:=by obtain⟨o,e1,e2,e3⟩:=id j1;exact nS i1 o e1 (by rw [e2];intro q;injection q with q;revert q;decide)
      have XW:i2≠S:=by obtain⟨o,e1,e2,e3⟩:=id j2;exact nS i2 o e1 (by rw [e2];intro q;injection q with q;revert q;decide)
      have Ql:(zB s)≠S:=fun q=>by have:=ay hS;rw [← q] at this;exact a7 _ this
      refine ih (min xs.size ys.size - (i+1)) (by omega) (i+1) _ (acc.push (.ref (zB s))) _ true rfl qt (by rw [Array.size_push,ha]) ⟨ot,ma _ _ TS (CU _ _ _ _ ht td),tv,tn,tc,td⟩ (ma _ _ zS XT) (ma _ _ TIS (CU _ _ _ _ EH rfl)) (j1'.at fun o e=>ma _ _ XU e) (j2'.at fun o e=>ma _ _ XW e)
        ?_ ?_ UT ?_ (fun a o e=>?_) fun h2 its c' q1 q2 q3 q4=>hR h2 its c' q1 q2 q3 q4
      · obtain⟨o,e1,e2,n,e3⟩:=m1
        exact⟨o,ma _ _ l1S (CU _ _ _ _ e1 e3),e2,n,e3⟩
      · obtain⟨o,e1,e2,n,e3⟩:=m2
        exact⟨o,ma _ _ l2S (CU _ _ _ _ e1 e3),e2,n,e3⟩
      · intro j v e
        by_cases hj:j<acc.size
        · have e':acc[j]?=some v:=by rw [dW] at e;rw [ao (aP hj)] at e;exact e
          obtain⟨T',x',y',r1,r2,r3,r4,r5⟩:=ht2 j v e'
          exact⟨T',x',y',r1,r2,r3,ma _ _ (nS _ _ r4 (by intro q;injection q with q;revert q;decide)) (CU _ _ _ _ r4 rfl),r5⟩
        · have hj2:j=acc.size:=by
            by_cases q:j=acc.size
            · exact q
            · rw [dW,ao q] at e
              have:acc[j]?=none:=by simp;omega
              rw [this] at e;cases e
          subst hj2
          rw [dW,ai rfl] at e
          cases e
          rw [ha]
          exact⟨_,x,y,rfl,hx,hy,ma _ _ Ql Wh,ay hS⟩
      · have a1:a≠S:=fun q=>by rw [q,n0.1] at e;cases e
        have a2:a≠z:=fun q=>by rw [q,n0.2.1] at e;cases e
        have a3:a≠i1:=fun q=>by rw [q,n0.2.2.1] at e;cases e
        have a4:a≠i2:=fun q=>by rw [q,n0.2.2.2] at e;cases e
        exact ma a o a1 (kp a o a2 a3 a4 (Wj a o e))
    · have over:xs[i]?=none∨ys[i]?=none:=by
        by_cases q:xs.size<=i
        · exact .inl (by simp;omega)
        · exact .inr (by simp;omega)
      refine ab (wpAny_attempt (cz (name:=zZ "__next__") tz dQ
        (dE dQ tz F.entry_zip_next (Ha hh D hz ht EH j1 j2 m1 m2 over fun h' e kp he=>?_) (F.args_zip_next_1 _))))
      obtain⟨o,ho,hc⟩:=he
      refine ab (wpAny_isInstance (T:="StopIteration") (b:=true) ⟨o,ho,hc⟩ isSubtype_stop (aw ?_))
      have CU:∀ a o v n,s.heap.get? a=some o->o.data=.seq v n->h'.get? a=some o:=fun a o v n e1 e2=>kp a o (nz a o v n e1 e2) (ni1 a o v n e1 e2) (ZP a o v n e1 e2) e1
      show wpAny _ A.in1 (ret Value.none) _ _ _
      refine aw (hR h' acc c (by omega) (fun j v e=>?_) (CU _ _ _ _ hS rfl) fun a o e=>?_)
      · obtain⟨T',x',y',r1,r2,r3,r4,r5⟩:=ht2 j v e
        exact⟨T',x',y',r1,r2,r3,CU _ _ _ _ r4 rfl,r5⟩
      · have a2:a≠z:=fun q=>by rw [q,n0.2.1] at e;cases e
        have a3:a≠i1:=fun q=>by rw [q,n0.2.2.1] at e;cases e
        have a4:a≠i2:=fun q=>by rw [q,n0.2.2.2] at e;cases e
        exact kp a o a2 a3 a4 (Wj a o e)
theorem Au {S z TI TO i1 i2 l1 l2:Addr}{xs ys:Array Value}{a b:Value}{c:Nat} (h₀:Heap) (hh:A.in1.handled=none) (D:ZipApart z TI TO i1 i2 l1 l2) (n0:h₀.get? S=none/\h₀.get? z=none/\h₀.get? i1=none/\h₀.get? i2=none) (nTO:h₀.get? TO=none) (Ko:(∃ o,h₀.get? l1=some o)/\∃ o,h₀.get? l2=some o) (hn:min xs.size ys.size<=sizeLine)
  (hz:IsZip s.heap z TI TO .none) (EH:IsPair s.heap TI (.ref i1) (.ref i2)) (UU:IsPair s.heap TO a b) (j1:s.heap.IsListIter i1 l1 0) (j2:s.heap.IsListIter i2 l2 0) (m1:s.heap.IsList l1 xs) (m2:s.heap.IsList l2 ys)
  (hS:s.heap.get? S=some (zl #[] c)) (Wj:∀ b o,h₀.get? b=some o->s.heap.get? b=some o)
  (hR:∀ h' its c',its.size=min xs.size ys.size->CS S h' xs ys its->h'.get? S=some (zl its c')->(∀ b o,h₀.get? b=some o->h'.get? b=some o)->R (.ok (.ret .none)) { s with heap:=h' }) :
  codeAny (model prog w) A (.builtin "list.extend.loop" ⟨[.ref S,.ref z,.none],[]⟩) R s:=by
 refine cg F.entry_extend_loop ?_
 rw [bV bY _]
 show wpAny _ A.in1 (pyNext (.ref z)>>=_) _ _ s
 have nS:∀ a o,s.heap.get? a=some o->o.cls≠.type "list"->a≠S:=fun a o e1 e2 q=>by
  subst q;rw [hS] at e1;cases e1;exact e2 rfl
 have l1S:l1≠S:=fun q=>by obtain⟨o,e⟩:=Ko.1;rw [q,n0.1] at e;cases e
 have l2S:l2≠S:=fun q=>by obtain⟨o,e⟩:=Ko.2;rw [q,n0.1] at e;cases e
 have zS:z≠S:=nS z _ hz (by intro q;injection q with q;revert q;decide)
 have TIS:TI≠S:=nS TI _ EH (by intro q;injection q with q;revert q;decide)
 have TOS:TO≠S:=nS TO _ UU (by intro q;injection q with q;revert q;decide)
 have XU:i1≠S:=by obtain⟨o,e1,e2,e3⟩:=id j1;exact nS i1 o e1 (by rw [e2];intro q;injection q with q;revert q;decide)
 have XW:i2≠S:=by obtain⟨o,e1,e2,e3⟩:=id j2;exact nS i2 o e1 (by rw [e2];intro q;injection q with q;revert q;decide)
 have kept:∀ h':Heap,(∀ c o,c≠z->c≠TO->c≠i1->c≠i2->s.heap.get? c=some o->h'.get? c=some o)->∀ a o,h₀.get? a=some o->h'.get? a=some o:=fun h' kp a o e =>
  kp a o (fun q=>by rw [q,n0.2.1] at e;cases e) (fun q=>by rw [q,nTO] at e;cases e) (fun q=>by rw [q,n0.2.2.1] at e;cases e) (fun q=>by rw [q,n0.2.2.2] at e;cases e) (Wj a o e)
 by_cases qt:0<min xs.size ys.size
 ·obtain⟨x,hx⟩:∃ x,xs[0]?=some x:=⟨xs[0]'(by omega),by simp⟩
  obtain⟨y,hy⟩:∃ y,ys[0]?=some y:=⟨ys[0]'(by omega),by simp⟩
  refine ab (wpAny_pyNext_zip_item D hz EH UU j1 j2 m1 m2 hx hy fun h' XT abU j1' j2' Wh sz kp=>?_)
  have US:h'.get? S=some (zl #[] c):=kp S _ (Ne.symm zS) (Ne.symm TOS) (Ne.symm XU) (Ne.symm XW) hS
  show wpAny _ A.in1 (updateSeq S (·.push (.ref (zB s)))>>=_) _ _ _
  refine ab (cj US rfl ?_)
  have UT:=bB (Obj.mapSeq (·.push (Value.ref (zB s)))) US rfl
  have ma:∀ a o,a≠S->h'.get? a=some o->(h'.update S (Obj.mapSeq (·.push (Value.ref (zB s))))).get? a=some o:=fun a o q e=>(bj _ _ (Ne.symm q)).trans e
  have Ql:(zB s)≠S:=fun q=>by have:=ay hS;rw [← q] at this;exact a7 _ this
  refine aw ⟨cI bY _,CT (T:=(zB s)) h₀ hh D n0 Ko hn (min xs.size ys.size - 1) 1 _ #[.ref (zB s)] _ false rfl qt rfl ⟨_,ma _ _ Ql Wh,_,_,rfl,rfl⟩ (ma _ _ zS XT) (ma _ _ TIS (kp TI _ D.TIz D.TITO D.TIi1 D.TIi2 EH)) (j1'.at fun o e=>ma _ _ XU e) (j2'.at fun o e=>ma _ _ XW e) ?_ ?_ UT ?_ (fun a o e=>?_) fun h2 its c' q1 q2 q3 q4=>hR h2 its c' q1 q2 q3 q4⟩
  ·obtain⟨o,e1,e2,n,e3⟩:=m1
   exact⟨o,ma _ _ l1S (kp _ _ D.l1z D.l1TO D.l1i1 D.l1i2 e1),e2,n,e3⟩
  ·obtain⟨o,e1,e2,n,e3⟩:=m2
   exact⟨o,ma _ _ l2S (kp _ _ D.l2z D.l2TO D.l2i1 D.l2i2 e1),e2,n,e3⟩
  ·intro j v e
   cases j with
   | zero=>cases e;exact⟨_,x,y,rfl,hx,hy,ma _ _ Ql Wh,ay hS⟩
   | succ j=>simp at e
  ·exact ma a o (fun q=>by rw [q,n0.1] at e;cases e) (kept h' kp a o e)
 ·have over:xs[0]?=none∨ys[0]?=none:=by
   by_cases q:xs.size<=0
   ·exact .inl (cG (by omega))
   ·exact .inr (cG (by omega))
  refine ab (wpAny_pyNext_zip_end hh D hz EH UU j1 j2 m1 m2 over fun h' kp=>?_)
  show wpAny _ A.in1 (ret Value.none) _ _ _
  exact aw (hR h' #[] c (by show 0=_;omega) (fun j v e=>by simp at e) (kp S _ (Ne.symm zS) (Ne.symm TOS) (Ne.symm XU) (Ne.symm XW) hS) (kept h' kp))
theorem CV:typeLookup (.type "zip") "__len__"=pure none:=by rw [eV,dy];kernel_rfl
theorem Av:typeLookup (.type "zip") "__length_hint__"=pure none:=by rw [eV,dy];kernel_rfl
theorem Aw {z TI TO i1 i2 l1 l2:Addr}{xs ys:Array Value}{a b:Value}{Q:Px} (h₀:Heap) (hh:A.handled=none) (D:ZipApart z TI TO i1 i2 l1 l2) (n0:h₀.get? z=none/\h₀.get? i1=none/\h₀.get? i2=none) (nTO:h₀.get? TO=none) (Ko:(∃ o,h₀.get? l1=some o)/\∃ o,h₀.get? l2=some o) (hn:min xs.size ys.size<=sizeLine) (h0s:h₀.objs.size<=(zB s))
  (hz:IsZip s.heap z TI TO .none) (EH:IsPair s.heap TI (.ref i1) (.ref i2)) (UU:IsPair s.heap TO a b) (j1:s.heap.IsListIter i1 l1 0) (j2:s.heap.IsListIter i2 l2 0) (m1:s.heap.IsList l1 xs) (m2:s.heap.IsList l2 ys) (Wj:∀ b o,h₀.get? b=some o->s.heap.get? b=some o)
  (h:∀ h' its c,its.size=min xs.size ys.size->CS (zB s) h' xs ys its->h'.get? (zB s)=some (zl its c)->(∀ b o,h₀.get? b=some o->h'.get? b=some o)->Q (.ref (zB s)) { s with heap:=h' }) :
  wpAny (model prog w) A (call (.type "list") [.ref z]) Q E s:=by
 have zlt:z<(zB s):=ay hz
 refine wW fun h2 c at2 kp=>?_
 have Wd:IsZip h2 z TI TO .none:=kp _ _ hz
 have ty:Shared.TypeIs { s with heap:=h2 } (.ref z) "zip":=⟨_,Wd,rfl⟩
 unfold Builtin.List.listExtendWith
 refine ab (cF ty ?_)
 have n1:Builtin.List.listSameRef (.ref (zB s)) (.ref z)=false:=by simp [Builtin.List.listSameRef,dZ zlt]
 have n2:(Value.type "zip"==Value.type "list")=false:=by decide
 have n3:(Value.type "zip"==Value.type "tuple")=false:=by decide
 simp only [n1,n2,n3,cT,b9,eO]
 refine ab (wpAny_pyIter_zip Wd (ab (bx ?_)))
 unfold Builtin.List.listLengthHint
 refine ab (dO ty CV ?_)
 dsimp only
 rw [ao (by decide),ao (by decide)]
 refine ab (dO ty Av ?_)
 show wpAny _ _ (pure true) _ _ _
 refine aw ?_
 rw [ai (by decide)]
 refine ab (e9 (ab ?_))
 show wpAny _ _ (updateSeq (zB s) (·.push .none)>>=fun _=>updateSeq (zB s) (·.pop)) _ _ _
 refine ab (cj at2 rfl ?_)
 have XR:=bB (Obj.mapSeq (·.push Value.none)) at2 rfl
 refine cj (hz:=by seq_fits) XR rfl ?_
 have at5:=bB (Obj.mapSeq (·.pop)) XR rfl
 have ma:∀ b o,s.heap.get? b=some o->((h2.update (zB s) (Obj.mapSeq (·.push Value.none))).update (zB s) (Obj.mapSeq (·.pop))).get? b=some o :=
  fun b o e=>by
   have hb:(zB s)≠b:=fun q=>by have:=ay e;rw [← q] at this;exact a7 _ this
   exact(bj _ _ hb).trans ((bj _ _ hb).trans (kp b o e))
 have nS:h₀.get? (zB s)=none:=by
  cases q:h₀.get? (zB s) with
  | none=>rfl
  | some o=>have:=ay q;exact absurd (aG this h0s) (a7 _)
 refine aw ⟨cI bY _,Au h₀ (show A.in1.in1.handled=none from hh) D ⟨nS,n0⟩ nTO Ko hn (ma _ _ hz) (ma _ _ EH) (ma _ _ UU) (j1.at fun o e=>ma _ _ e) (j2.at fun o e=>ma _ _ e) (m1.at fun o e=>ma _ _ e) (m2.at fun o e=>ma _ _ e) at5 (fun b o e=>ma b o (Wj b o e)) fun h' its c' q1 q2 q3 q4=>⟨rfl,h h' its c' q1 q2 q3 q4⟩⟩
end
end PySem
namespace L2
open PySem PySem.Spec PyProof.Rows PySem.Builtin PySem.Builtin.Str
section
variable {h':Heap}
theorem fW.Qm {t':Nat}{i1 i2:Addr}(I:fW X pins σ H s)(k:∀ b o,b≠i1->b≠i2->s.heap.get? b=some o->h'.get? b=some o)(f1:rW X pins H i1)(f2:rW X pins H i2):fW X pins σ H { s with heap:=h',toks:=t' }:=by
 obtain⟨n1,l1,_,x1,c1,p1⟩:=f1
 obtain⟨n2,l2,_,x2,c2,p2⟩:=f2
 have out:∀ b u,H b=some u->b≠i1/\b≠i2:=fun b u e=>⟨(fun z=>by rw [z,n1] at e;cases e),(fun z=>by rw [z,n2] at e;cases e)⟩
 have mem:∀ b,b∉[i1,i2]->b≠i1/\b≠i2:=fun b hb=>⟨fun z=>hb (by simp [z]),fun z=>hb (by simp [z])⟩
 refine I.step (g':=s.gens) (d':=s.drawn) (ch:=[i1,i2]) ?_ (fun b o _ _ hc e _=>k b o (mem b hc).1 (mem b hc).2 e) (fun b o _ _ hc e _=>⟨o.slots,k b o (mem b hc).1 (mem b hc).2 e⟩) (fun _ _ _ _ n=>n)
  (fun b o hc e=>⟨o,k b o (mem b hc).1 (mem b hc).2 e⟩) (fun _ _ e=>e) (fun _ _ _ e=>e) (fun b ps e=>⟨#[],by rw [e];simp⟩) ?_ ?_ I.bare
 ·intro b hb
  rcases ah.mp hb with e|hb
  ·subst e;exact⟨x1,l1,c1,p1⟩
  ·have e:b=i2:=by simpa using hb
   subst e;exact⟨x2,l2,c2,p2⟩
 ·rintro m ⟨o,es,ep,ho,r⟩
  exact⟨o,es,ep,k _ o (Ne.symm l1) (Ne.symm l2) ho,r⟩
 ·intro b u e
  refine(I.jd b u e).xn (fun c v hc q=>?_) (fun _ q=>q) fun _ _ q=>q
  rcases hc with z|z
  ·rw [z] at q ⊢;exact k _ _ (out b u e).1 (out b u e).2 q
  ·exact k _ _ (out c _ z).1 (out c _ z).2 q
end
def Ite (K:Fg)(l:Addr):It where
 go:=fun i H=>∃ xs x,qd K H l xs/\xs[i]?=some x
 VW:=fun i H y H'=>∃ T x,y=.ref T/\H T=none/\(∀ ys,qd K H l ys->ys[i]?=some x)/\H'=upd H T (.tup [.int (i:Nat),x])
 stop:=fun i H=>∃ xs,qd K H l xs/\xs.length<=i
theorem Ks {P:Program}{K:Fg}{elts:Lx}{kt:Nat}{tp:Pos}(l en it:Addr)(Et:en≠it):JR P w K (.Tuple elts kt tp) (Ite K l) [en,it] en (fun i h=>(∃ old,IsEnum h en it (i:Nat) old)/\h.IsListIter it l i) where
 mem:=by simp
 obj:=fun i h st b hb=>by
  obtain⟨⟨old,he⟩,hi⟩:=st
  rcases ah.mp hb with e|hb
  ·subst e;exact⟨_,he,fun v z=>by cases z⟩
  ·have e:b=it:=by simpa using hb
   subst e
   obtain⟨o,e,c,d⟩:=hi
   exact⟨o,e,fun v z=>by rw [d] at z;cases z⟩
 keep:=fun i h h' st k=>⟨let ⟨old,he⟩:=st.1;⟨old,k en (by simp) _ he⟩,st.2.at fun o e=>k it (by simp) o e⟩
 item:=by
  intro X hP hw hK hc i pins s σ H E I hf st hg
  subst hP hw hK
  obtain⟨⟨old,he⟩,hi⟩:=st
  obtain⟨xs,x,hq,hx⟩:=hg
  obtain⟨its,rv,p,hz⟩:=I.list hq
  obtain⟨u,hu,ru⟩:=rv.get hx
  refine wpAny_pyNext_enum_item he hi p.isList (x:=u) (by simpa using hu) Et fun h1 RY hi1 aa1 hsz kp=>⟨_,rfl,?_⟩
  refine wpAny_letOwnedTupleGo_enum RY fun h2 he2 sb=>?_
  have aa2:en<(zB s):=ay he
  have aa3:it<(zB s):=by obtain⟨o,e,_⟩:=hi;exact ay e
  have I1:=I.laid (a:=(zB s)) (o:=.tup [.int (i:Nat),x]) (t':=s.toks+1) (h':=s.heap.push { cls:=.type "tuple",data:=.seq #[.int i s.toks,u] }) (fun _ _ q=>ak _ q) (aD _) ⟨by show 2<=sizeLine;decide,[.int i s.toks,u],.cons ⟨_,rfl⟩ (.cons ru .nil),_,aF _ rfl,rfl,0,rfl⟩
  have fp1:∀ b∈[en,it],rW X pins (upd H (zB s) (.tup [.int (i:Nat),x])) b:=fun b hb=>by
   obtain⟨g1,g2⟩:=hf b hb
   refine⟨?_,g2⟩
   have:b≠(zB s):=by
    rcases ah.mp hb with e|hb
    ·rw [e];exact aP aa2
    ·rw [show b=it by simpa using hb];exact aP aa3
   rw [fU this];exact g1
  have I2:=I1.Qm (h':=h2) (t':=s.toks+1) (i1:=en) (i2:=it) (fun b o b1 b2 e=>(sb.2 b b1).trans (by
   by_cases hb:b=(zB s)
   ·subst hb
    have e':some o=some { cls:=.type "tuple",data:=.seq #[.int i s.toks,u] }:=e.symm.trans (aF _ rfl)
    cases e'
    exact aa1
   ·have qt:=ay e
    rw [d6] at qt
    have abV:b<(zB s):=Nat.lt_of_le_of_ne (Nat.le_of_lt_succ qt) hb
    have q:s.heap.get? b=some o:=(Heap.get?_push_ne _ _ _ hb).symm.trans e
    exact kp b o b1 b2 q)) (fp1 en (by simp)) (fp1 it (by simp))
  exact⟨.ref (zB s),_,I2,rfl,⟨_,x,rfl,I.fresh,fun ys hy=>by rw [I.D4 hy hq];exact hx,rfl⟩,⟨⟨u,he2⟩,hi1.at fun o e=>(sb.2 _ (Ne.symm Et)).trans e⟩,fun b hb=>(fp1 b hb).1⟩
 done:=by
  intro X hP hw hK hc i pins s σ H E I hf st hg
  subst hP hw hK
  obtain⟨⟨old,he⟩,hi⟩:=st
  obtain⟨xs,hq,hx⟩:=hg
  obtain⟨its,rv,p,hz⟩:=I.list hq
  obtain⟨f0,f1,f2,f3,f4,f5⟩:=hf it (by simp)
  have hl:=rv.length
  exact wpAny_pyNext_enum_end (I.ok.hd hc) he hi p.isList (by simp;omega) fun h' eb=>⟨rfl,I.turned (t':=s.toks) (fun b o hb e=>eb b o hb e) f0 f1 f3 f4 f5⟩
 self:=fun _ _ _ _ _ st h=>let ⟨old,he⟩:=st.1;wpAny_pyIter_enum he h
section
variable {a b c:Expr}{fa fb fc:fu->Od}{p2 p apos gJ:Pos} 
def XX (K:Fg)(te:TE):TI:=fun σ H R=>te σ H fun v H1=>∃ l xs,v=.ref l/\qd K H1 l xs/\R (Ite K l) H1
theorem Qn {elts:Lx}{kt:Nat}{tp:Pos}{te:TE}(hg:Gl X "enumerate")(hm:X.mg "enumerate"=none)(he:PE X e te)(hs:starEach [e] X.env=[(false,eval e X.env)]:=by rfl):PI X (.Tuple elts kt tp) (.Call (.Name "enumerate" p) [e] [] pos) (XX X.K te):=by
 intro pins s σ H R I h
 refine bz (qM I hg hm (by rfl) ?_)
 refine bD ?_ (by rw [hs];rfl) (by rfl)
 rw [hs]
 refine bq (jl (@he pins s σ H _ I h) fun v s1 ⟨x,H1,I1,r1,l,xs,ex,hq,q⟩=>bL ?_)
 subst ex
 cases r1
 obtain⟨its,rv,pl,hz⟩:=I1.list hq
 refine call_enumerate_list pl.isList fun h' Sv En sz kp=>?_
 refine wpAny_pyIter_enum Sv ?_
 have I2:fW X pins σ H1 { s1 with heap:=h' }:=I1.kept (t':=s1.toks) kp
 have fr:∀ b,(zB s1)<=b->rW X pins H1 b:=fun b hb=>I1.JQ hb (I1.jd.fresh hb)
 exact⟨_,[(zB s1)+1,(zB s1)],_,_,H1,rfl,I2,Ks l _ _ (dZ (dA _)),⟨⟨_,Sv⟩,En⟩,fun b hb=>fr b (by
  rcases ah.mp hb with z|hb
  ·rw [z];exact Nat.le_succ _
  ·rw [show b=(zB s1) by simpa using hb];exact aD _),q⟩
def ug (ds:Lp):Lp:=ds.zipIdx.map fun x=>.tuple [.int x.2,x.1]
def Je (f:fu->Od):fu->Option Lp:=fun ρ=>(f ρ).bind fun d=>match d with | .list ds=>some (ug ds)|_=>none
theorem Kt (h:(ug ds)[i]?=some d):∃ x,ds[i]?=some x/\d=.tuple [.int (i:Nat),x]:=by
 unfold ug at h
 rw [aC,List.getElem?_zipIdx] at h
 cases q:ds[i]? with
 | none=>rw [q] at h;cases h
 | some x=>rw [q] at h;simp at h;exact⟨x,rfl,h.symm⟩
theorem EI {K:Fg}{H1:Hp}{l:Addr}(e2:qd K H1 l vs)(e3:fz K H1 ds vs):yC K (Ite K l) (ug ds) H1:=fun H' s'=>by
 have hl:(ug ds).length=ds.length:=by simp [ug]
 refine⟨⟨vs,s'.seq e2,by rw [hl,e3.length];exact aD _⟩,fun i d q=>?_⟩
 obtain⟨x,ex,rfl⟩:=Kt q
 obtain⟨v,e4,e5⟩:=e3.get ex
 refine⟨⟨vs,v,s'.seq e2,e4⟩,fun y H2 ⟨T,z,r1,r2,r3,r5⟩=>?_⟩
 have r4:=r3 vs (s'.seq e2)
 rw [e4] at r4;cases r4
 subst r1 r5
 refine⟨kO r2,fun G' sG g=>fM.nc.mpr ⟨T,_,rfl,tm.of (by rw [g T r2];exact gp),fz.cons (fM.fZ.mpr rfl) (fz.cons (e5.same sG) fz.nil)⟩⟩
end
end L2
namespace L2
open PySem PySem.Spec PyProof.Rows PySem.Builtin PySem.Builtin.Str
def Its (x:Str):It where
 go:=fun i _=>i<x.cps.size
 VW:=fun i H y H'=>H'=H/\∃ c,x.cps[i]?=some c/\y=.str ⟨#[c]⟩
 stop:=fun i _=>x.cps.size<=i
theorem EJ {P:Program}{K:Fg}{ty:String}(Mb:ty="str_ascii_iterator"∨ty="str_iterator")(x:Str)(t:Tok)(it:Addr):JR P w K tg (Its x) [it] it (fun i h=>h.IsStrIter it ty x t i) where
 mem:=by simp
 obj:=fun i h st b hb=>by
  have e:b=it:=by simpa using hb
  subst e
  obtain⟨o,e,c,d⟩:=st
  exact⟨o,e,fun v z=>by rw [d] at z;cases z⟩
 keep:=fun i h h' st k=>by
  obtain⟨o,e,r⟩:=st
  exact⟨o,k it (by simp) o e,r⟩
 item:=by
  intro X hP hw hK hc i pins s σ H E I hf st hg
  subst hP hw hK
  obtain⟨f0,f1,f2,f3,f4,f5⟩:=hf it (by simp)
  have hx:x.cps[i]?=some (x.cps[i]'hg):=Array.getElem?_eq_getElem hg
  rcases Mb with rfl|rfl
  ·refine wpAny_pyNext_ascii_item st hx fun h' IA sb=>?_
   have I1:fW X pins σ H { s with heap:=h',toks:=s.toks+1 }:=I.turned (t':=s.toks+1) (fun b o hb e=>(sb.2 b hb).trans e) f0 f1 f3 f4 f5
   obtain⟨o,e,c,d⟩:=id IA
   exact⟨_,rfl,D6 (s:={ s with heap:=h',toks:=s.toks+1 }) e c d (by decide) ⟨.str _,H,I1,⟨_,rfl⟩,⟨rfl,_,hx,rfl⟩,IA,fun b hb=>(hf b hb).1⟩⟩
  ·refine wpAny_pyNext_wide_item st hx fun h' IA sb=>?_
   have I1:fW X pins σ H { s with heap:=h',toks:=s.toks+1 }:=I.turned (t':=s.toks+1) (fun b o hb e=>(sb.2 b hb).trans e) f0 f1 f3 f4 f5
   obtain⟨o,e,c,d⟩:=id IA
   exact⟨_,rfl,D6 (s:={ s with heap:=h',toks:=s.toks+1 }) e c d (by decide) ⟨.str _,H,I1,⟨_,rfl⟩,⟨rfl,_,hx,rfl⟩,IA,fun b hb=>(hf b hb).1⟩⟩
 done:=by
  intro X hP hw hK hc i pins s σ H E I hf st hg
  subst hP hw hK
  obtain⟨f0,f1,f2,f3,f4,f5⟩:=hf it (by simp)
  have hx:x.cps[i]?=none:=cG hg
  rcases Mb with rfl|rfl
  ·exact wpAny_pyNext_ascii_end (I.ok.hd hc) st hx fun h' eb=>⟨rfl,I.turned (t':=s.toks) (fun b o hb e=>eb b o hb e) f0 f1 f3 f4 f5⟩
  ·exact wpAny_pyNext_wide_end (I.ok.hd hc) st hx fun h' eb=>⟨rfl,I.turned (t':=s.toks) (fun b o hb e=>eb b o hb e) f0 f1 f3 f4 f5⟩
 self:=fun _ _ _ _ _ st h=>by
  rcases Mb with rfl|rfl
  ·exact wpAny_pyIter_striter_ascii st h
  ·exact wpAny_pyIter_striter_wide st h
section
variable {a b c:Expr}{fa fb fc:fu->Od}{p2 p apos gJ:Pos} 
theorem UW {te:TE}(he:PE X e te):PI X tg e (fun σ H R=>te σ H fun v H1=>∃ x,v=.str x/\R (Its x) H1):=by
 intro pins s σ H R I h
 refine jl (@he pins s σ H _ I h) fun v s1 ⟨y,H1,I1,r1,x,ex,q⟩=>?_
 subst ex
 obtain⟨t,rfl⟩:=r1
 have fp:∀ b∈[(zB s1)],rW X pins H1 b:=fun b hb=>by
  rw [show b=(zB s1) by simpa using hb]
  exact I1.JQ (aD _) (I1.jd.fresh (aD _))
 cases ha:x.cps.all (·<128)
 ·exact wpAny_pyIter_wide ha ⟨_,[(zB s1)],_,_,H1,rfl,I1.kept (t':=s1.toks) fun b o e=>ak _ e,EJ (.inr rfl) x t _,⟨_,aF _ rfl,rfl,rfl⟩,fp,q⟩
 ·exact wpAny_pyIter_ascii ha ⟨_,[(zB s1)],_,_,H1,rfl,I1.kept (t':=s1.toks) fun b o e=>ak _ e,EJ (.inl rfl) x t _,⟨_,aF _ rfl,rfl,rfl⟩,fp,q⟩
def uA (x:Str):Lp:=x.cps.toList.map fun c=>.str ⟨#[c]⟩
def sj (f:fu->Od):fu->Option Lp:=fun ρ=>(f ρ).bind fun d=>match d with | .list ds=>some ds | .tuple ds=>some ds | .str x=>some (uA x)|_=>none
theorem Hc {K:Fg}(x:Str)(G:Hp):yC K (Its x) (uA x) G:=fun H' s'=>by
 have hl:(uA x).length=x.cps.size:=by simp [uA]
 refine⟨by show x.cps.size<=_;rw [hl];exact aD _,fun i d q=>?_⟩
 have hi:i<x.cps.size:=by have:=(aJ.mp q).1;omega
 refine⟨hi,fun y H2 ⟨r1,c,r2,r3⟩=>?_⟩
 subst r1 r3
 have:d=.str ⟨#[c]⟩:=by
  unfold uA at q
  rw [aC,Array.getElem?_toList,r2] at q
  cases q;rfl
 subst this
 exact⟨.refl _,fun G' _ _=>fM.gw.mpr rfl⟩
theorem mx (h:PD X e f):XE X tg e (sj f) :=
 PI.imp (PI.or (P6 h) (UW h)) fun σ H R ⟨ρ,ds,hs,e,k⟩=>by
  obtain⟨d,e1,e2⟩:=bind_some e
  cases d with
  | list xs=>exact .inl ⟨ρ,ds,hs,by show (f ρ).bind _=_;rw [e1];exact e2,k⟩
  | tuple xs=>exact .inl ⟨ρ,ds,hs,by show (f ρ).bind _=_;rw [e1];exact e2,k⟩
  | str x =>
   cases e2
   exact .inr ⟨ρ,_,hs,e1,fun v H1 s1 i1=>⟨x,fM.gw.mp i1,k _ H1 s1 (Hc x H1)⟩⟩
  | _=>cases e2
theorem EK {elts:Lx}{kt:Nat}{tp:Pos}(hg:Gl X "enumerate")(hm:X.mg "enumerate"=none)(h:PD X e f)(hs:starEach [e] X.env=[(false,eval e X.env)]:=by rfl):XE X (.Tuple elts kt tp) (.Call (.Name "enumerate" p) [e] [] pos) (Je f) :=
 PI.imp (Qn hg hm h hs) fun σ H R ⟨ρ,ds,hs,e,k⟩=>by
  obtain⟨d,e1,e2⟩:=bind_some e
  obtain⟨xs,rfl⟩:∃ xs,d=.list xs:=by cases d<;>first|exact⟨_,rfl⟩|cases e2
  cases e2
  refine⟨ρ,_,hs,e1,fun v H1 s1 i1=>?_⟩
  obtain⟨l,vs,rfl,e3,e4⟩:=fM.gv.mp i1
  exact⟨l,vs,rfl,e3,k _ H1 s1 (EI e3 e4)⟩
def lR:Lp->Od
 | [.dict fE]=>if hW fE=true then none else some (.list (fE.map (·.1)))
 | ds=>IT ds
theorem Ku {P:Program}{k:Key}{v:Value}(h:(gS P w).is k v=true):gH (kV k) v:=by
 rcases jk h with ⟨i,t,rfl,rfl⟩ | ⟨x,t,rfl,rfl⟩
 ·exact⟨t,rfl⟩
 ·exact⟨t,rfl⟩
theorem BB {K:Fg}{H H':Hp}:∀ {fE:List (PyData×PyData)}{kv:List (Key×V)},gY K H fE kv->fz K H' (fE.map (·.1)) (kv.map fun x=>kV x.1)
 | [],_,h=>by rw [gY.gn.mp h];exact fz.nil
 | (k,d)::r,_,h=>by
  obtain⟨y,v,r',rfl,rfl,i,t⟩:=gY.fT.mp h
  refine fz.cons ?_ (BB t)
  cases y with
  | inl i=>exact fM.fZ.mpr rfl
  | inr x=>exact fM.gw.mpr rfl
theorem BC {P:Program}{w:World}:∀ {kv:List (Key×V)}{vs:List (Key×Value)}{its:Lw},KV kv vs->its.length=vs.length->(∀ (j:Nat) v,its[j]?=some v->∃ k x,vs[j]?=some (k,x)/\(gS P w).is k v=true)->gE (kv.map fun x=>kV x.1) its
 | _,_,its,.nil,hl,_=>by
  cases its with
  | nil=>exact .nil
  | cons _ _=>simp at hl
 | _,_,its,.cons (a:=p) (b:=q) h t,hl,hi=>by
  cases its with
  | nil=>simp at hl
  | cons u us =>
   obtain⟨k,x,e1,e2⟩:=hi 0 u rfl
   have e3:q=(k,x):=by simpa using e1
   refine .cons ?_ (BC t (by simpa using hl) fun j v e=>hi (j+1) v (by simpa using e))
   show gH (kV p.1) u
   rw [h.1,e3]
   exact Ku e2
theorem M0 (hc:X.calm=true):jV X (.type "list") (fun xs H Q=>∃ ds c,fz X.K H ds xs/\lR ds=some c/\KO X.K H c Q):=by
 have hd:jV X (.type "list") (fun xs H Q=>∃ fE kv p,xs=[V.ref p]/\H p=some (.dK kv)/\gY X.K H fE kv/\KO X.K H (.list (fE.map (·.1))) Q):=by
  intro pins s σ H xs us Q I r h
  obtain⟨fE,kv,p,rfl,hp,ik,k⟩:=h
  obtain⟨u,rfl,ru⟩:=uQ r
  cases ru
  obtain⟨z,hS,vs,rel,dd⟩:=rA I.jd hp
  refine yK (knd:=gS X.prog X.w) (I.ok.hd hc) hS dd (by rw [← rel.length];exact z) fun h' tk its cc hl hi MZ kp=>?_
  have hv:=BC (P:=X.prog) (w:=X.w) (its:=its.toList) rel (by simpa using hl) (fun j v e=>hi j v (by simpa using e))
  have I':=I.laid (a:=(zB s)) (o:=.lst (kv.map fun x=>kV x.1)) (t':=tk) kp (aD _) ⟨by rw [ae];exact z,its.toList,cc,hv,by simpa using MZ⟩
  exact⟨.ref (zB s),_,I',rfl,k.yl (BB ik) _ I.fresh⟩
 refine jV.imp (jV.or P7 hd) fun xs H Q ⟨ds,c,i,e,k⟩=>?_
 unfold lR at e
 split at e
 ·rename_i fE
  by_cases hi:hW fE=true
  ·rw [ai hi] at e;cases e
  ·rw [ao hi] at e;cases e
   obtain⟨v,rfl,h1⟩:=je i
   obtain⟨p,kv,rfl,e5,e6⟩:=h1.rA (by simpa using hi)
   exact .inr ⟨fE,kv,p,rfl,e5,e6,k⟩
 ·exact .inl ⟨ds,c,i,e,k⟩
theorem pN (hc:X.calm=true)(hg:Gl X "list")(hm:X.mg "list"=none)(ha:Ct X (e::es) ff)(he:zE e es X:=by rfl)(tq:(backTo pos (starEach es X.env)).any (·.1)=false:=by rfl) :
  PF X (.Call (.Name "list" p) (e::es) [] pos) (i6 lR ff) :=
 PE.imp (A7 (M0 hc) hg hm (by rfl) ha (by decide) (by decide) he tq) fun σ H Q ⟨ρ,d,hs,e,k⟩=>by
  obtain⟨ds,e1,e2⟩:=bind_some e
  exact⟨ρ,ds,hs,e1,fun vs H1 s1 i1=>⟨ds,d,i1,e2,k.later s1⟩⟩
def XY (xs ys:Lp):Lp:=(xs.zip ys).map fun p=>.tuple [p.1,p.2]
def XZ (x y:PyData):Od:=match x,y with
 | .list xs,.list ys=>some (.list (XY xs ys))
 | _,_=>none
theorem fW.Sw {a:Addr}{u:HO}(I:fW X pins σ H s)(f:rW X pins H a)(new:j9 X.prog X.w (upd H a u) s.heap a u):fW X pins σ (upd H a u) s:=by
 obtain⟨n1,l1,_,x1,c1,p1⟩:=f
 have up:∀ b v,H b=some v->upd H a u b=some v:=fun b v e=>by rw [fU (gP e n1)];exact e
 have:=I.step (g':=s.gens) (d':=s.drawn) (t':=s.toks) (h':=s.heap) (H':=upd H a u) (ch:=[a]) (fun b hb=>by rw [show b=a by simpa using hb];exact⟨x1,l1,c1,p1⟩) (fun b o _ _ _ e _=>e) (fun b o _ _ _ e _=>⟨o.slots,e⟩) (fun b o hc _ n=>by rw [fU (fun z=>hc (by simp [z]))];exact n)
  (fun b o _ e=>⟨o,e⟩) (fun b xs e=>up b _ e) (fun b o v e=>up b _ e) (fun b ps e=>⟨#[],by rw [up b _ e];simp⟩) (fun m hm=>hm) ?_ I.bare
 ·exact this
 ·intro b v e
  by_cases hb:b=a
  ·subst hb;rw [gp] at e;cases e;exact new
  ·rw [fU hb] at e
   exact(I.jd b v e).xn (fun _ _ _ q=>q) (fun c q=>up c _ q) fun c xs q=>up c _ q
theorem gH.uniq {x y:V}(a:gH x u)(b:gH y u):x=y:=by
 have h1:=a.abs
 rw [b.abs] at h1
 exact(bF h1).symm
theorem Jf {pins:Ax}{σ:St}:∀ (ps:List (V×V)) (us:Lw) {H:Hp}{s:Shared},fW X pins σ H s->us.length=ps.length ->
  (∀ (j:Nat) (v:Value) (p:V×V),us[j]?=some v->ps[j]?=some p->∃ T x y,v=.ref T/\IsPair s.heap T x y/\gH p.1 x/\gH p.2 y/\(rW X pins H T∨∃ x' y' v1 v2,IsPair s.heap T x' y'/\gH v1 x'/\gH v2 y'/\H T=some (.tup [v1,v2]))) ->
  ∃ H' rs,fV H H'/\fW X pins σ H' s/\gE rs us/\(∀ a,H a=none->H' a=none∨.ref a∈us)/\∀ (j:Nat) (p:V×V),ps[j]?=some p->∃ T,rs[j]?=some (.ref T)/\H' T=some (.tup [p.1,p.2])
 | [],us,H,s,I,hl,_=>by
  cases us with
  | nil=>exact⟨H,[],.refl H,I,.nil,(fun a h=>.inl h),fun j p e=>by simp at e⟩
  | cons _ _=>simp at hl
 | p::ps,us,H,s,I,hl,hi=>by
  cases us with
  | nil=>simp at hl
  | cons v us =>
   obtain⟨T,x,y,rfl,hp,r1,r2,alt⟩:=hi 0 v p rfl rfl
   have first:∃ H1,fV H H1/\fW X pins σ H1 s/\H1 T=some (.tup [p.1,p.2])/\∀ a,a≠T->H1 a=H a:=by
    rcases alt with f | ⟨x',y',v1,v2,Uw,q1,q2,hT⟩
    ·refine⟨upd H T (.tup [p.1,p.2]),kO f.1,I.Sw f ⟨by show 2<=sizeLine;decide,[x,y],.cons r1 (.cons r2 .nil),_,hp,rfl,0,rfl⟩,gp,fun a ha=>fU ha⟩
    ·have e:(#[x',y']:Array Value)=#[x,y]:=by
      have h1:s.heap.get? T=some { cls:=.type "tuple",data:=.seq #[x',y'] }:=Uw
      have h2:s.heap.get? T=some { cls:=.type "tuple",data:=.seq #[x,y] }:=hp
      rw [h1] at h2
      injection h2 with h2
      injection h2 with _ _ h2 _
      injection h2
     have e':[x',y']=[x,y]:=by simpa using bQ Array.toList e
     injection e' with e1 e2
     injection e2 with e2 _
     subst e1 e2
     rw [q1.uniq r1,q2.uniq r2] at hT
     exact⟨H,.refl H,I,hT,fun a _=>rfl⟩
   obtain⟨H1,s1,I1,hT,ma⟩:=first
   obtain⟨H2,rs,s2,I2,rv,fr,at2⟩:=Jf ps us (H:=H1) I1 (by simpa using hl) fun j v q e1 e2=>by
    obtain⟨T',x',y',a1,a2,a3,a4,aa4⟩:=hi (j+1) v q (by simpa using e1) (by simpa using e2)
    refine⟨T',x',y',a1,a2,a3,a4,?_⟩
    by_cases hTT:T'=T
    ·subst hTT;exact .inr ⟨x,y,p.1,p.2,hp,r1,r2,hT⟩
    ·rcases aa4 with f | ⟨x2,y2,v1,v2,b1,b2,b3,b4⟩
     ·exact .inl ⟨by rw [ma T' hTT];exact f.1,f.2⟩
     ·exact .inr ⟨x2,y2,v1,v2,b1,b2,b3,s1 _ _ b4⟩
   refine⟨H2,.ref T::rs,s1.trans s2,I2,.cons rfl rv,fun a ha=>?_,fun j q e=>?_⟩
   ·by_cases haT:a=T
    ·exact .inr (by simp [haT])
    ·rcases fr a (by rw [ma a haT];exact ha) with h|h
     ·exact .inl h
     ·exact .inr (af _ h)
   ·cases j with
    | zero=>simp at e;subst e;exact⟨T,rfl,s2 _ _ hT⟩
    | succ j =>
     obtain⟨T',b1,b2⟩:=at2 j q (by simpa using e)
     exact⟨T',by simpa using b1,b2⟩
theorem He {Hf pz:Pos} (hc:X.calm=true) (hgl:Gl X "list") (hml:X.mg "list"=none) (hgz:Gl X "zip") (hmz:X.mg "zip"=none) (ha:PD X a fa) (hb:PD X b fb)
  (s1:starEach [.Call (.Name "zip" pz) [a,b] [] Hf] X.env=[(false,eval (.Call (.Name "zip" pz) [a,b] [] Hf) X.env)]:=by rfl) (s2:starEach [a,b] X.env=[(false,eval a X.env),(false,eval b X.env)]:=by rfl) (s3:starEach [b] X.env=[(false,eval b X.env)]:=by rfl) :
  PF X (.Call (.Name "list" p) [.Call (.Name "zip" pz) [a,b] [] Hf] [] pos) (d2 XZ fa fb):=by
 intro pins s σ H Q I ⟨ρ,d,hs,e,k⟩
 obtain⟨x,e1,q1⟩:=bind_some e
 obtain⟨y,e2,q2⟩:=bind_some q1
 obtain⟨xs,rfl⟩:∃ xs,x=.list xs:=by cases x<;>first|exact⟨_,rfl⟩|(cases y<;>cases q2)
 obtain⟨ys,rfl⟩:∃ ys,y=.list ys:=by cases y<;>first|exact⟨_,rfl⟩|cases q2
 cases q2
 refine bz (qM I hgl hml (by rfl) ?_)
 refine bD ?_ (by rw [s1];rfl) (by rfl)
 rw [s1]
 refine bq ?_
 refine bz (qM I hgz hmz (by rfl) ?_)
 refine bD ?_ (by rw [s2,s3]) (by rw [s3];rfl)
 rw [s2]
 refine bq (jl (@ha pins s σ H (fun v H1=>fV H H1/\fM X.K H1 (.list xs) v) I ⟨ρ,_,hs,e1,fun v H1 sH i=>⟨sH,i⟩⟩) fun u1 t1 ⟨v1,H1,I1,r1,ZQ,i1⟩=>?_)
 refine bq (jl (@hb pins t1 σ H1 (fun v H2=>fV H1 H2/\fM X.K H2 (.list ys) v) I1 ⟨ρ,_,hs.same ZQ,e2,fun v H2 sH i=>⟨sH,i⟩⟩) fun u2 t2 ⟨v2,H2,I2,r2,sH2,i2⟩=>bL ?_)
 obtain⟨l1,M3,rfl,sq1,PU⟩:=fM.gv.mp (i1.same sH2)
 obtain⟨l2,Kv,rfl,sq2,id2⟩:=fM.gv.mp i2
 cases r1
 cases r2
 obtain⟨X0,rv1,ZR,z1⟩:=I2.list sq1
 obtain⟨uT,rv2,Sg,z2⟩:=I2.list sq2
 have b1:l1<(zB t2):=by obtain⟨o,n,e,_⟩:=ZR;exact ay e
 have b2:l2<(zB t2):=by obtain⟨o,n,e,_⟩:=Sg;exact ay e
 have fr:∀ j,(zB t2)<=j->t2.heap.get? j=none:=fun j hj=>by
  cases q:t2.heap.get? j with
  | none=>rfl
  | some o=>exact absurd (aG (ay q) hj) (a7 _)
 have hn:min X0.toArray.size uT.toArray.size<=sizeLine:=by rw [ax,ax,← rv1.length];omega
 refine call_zip_2 ZR.isList Sg.isList fun h' hz EH UU j1 j2 sz kp=>bL ?_
 refine Aw t2.heap (I2.ok.hd hc) (zipApart_new b1 b2) ⟨fr _ (b6 _ _),fr _ (aD _),fr _ (b6 _ _)⟩ (fr _ (b6 _ _)) ⟨let ⟨o,_,e,_⟩:=ZR;⟨o,e⟩,let ⟨o,_,e,_⟩:=Sg;⟨o,e⟩⟩ hn (by show _<=h'.objs.size;rw [sz];exact b6 _ _) hz EH UU j1 j2 (Heap.IsList.at ZR.isList fun o e=>kp _ _ e) (Heap.IsList.at Sg.isList fun o e=>kp _ _ e) kp fun h2 its cc hl rT MZ kp2=>?_
 have I3:fW X pins σ H2 { t2 with heap:=h2 }:=I2.kept (t':=t2.toks) kp2
 have X1:its.toList.length=(M3.zip Kv).length:=by
  rw [List.length_zip,rv1.length,rv2.length,cy,hl,ax,ax]
 have young:∀ b,(zB t2)<=b->rW X pins H2 b:=fun b hb=>I2.JQ hb (I2.jd.fresh hb)
 obtain⟨H3,rs,sH3,I4,UX,Ga,ZO⟩:=Jf (M3.zip Kv) its.toList I3 X1 fun j v q g1 g2=>by
  obtain⟨T,x,y,t1',t2',t3',t4',t5'⟩:=rT j v (by simpa using g1)
  obtain⟨w1,w2⟩:=q
  obtain⟨g3,g4⟩:=List.getElem?_zip_eq_some.mp g2
  obtain⟨x',gx,rx⟩:=rv1.get g3
  obtain⟨y',gy,ry⟩:=rv2.get g4
  have ex:x'=x:=by have:X0.toArray[j]?=some x:=t2';rw [List.getElem?_toArray,gx] at this;cases this;rfl
  have ey:y'=y:=by have:uT.toArray[j]?=some y:=t3';rw [List.getElem?_toArray,gy] at this;cases this;rfl
  subst ex ey
  exact⟨T,x',y',t1',t4',rx,ry,.inl (young T (by have:h'.objs.size<T:=t5';rw [sz] at this;exact bH (b6 _ _) (dY this)))⟩
 have Sx:H3 h'.objs.size=none:=by
  rcases Ga h'.objs.size (I2.jd.fresh (by rw [sz];exact b6 _ _)) with g|g
  ·exact g
  ·obtain⟨j,gj⟩:=List.mem_iff_getElem?.mp g
   obtain⟨T,x,y,t1',_,_,_,t5'⟩:=rT j _ (by simpa using gj)
   cases t1'
   exact absurd t5' (a7 _)
 have fS:rW X pins H3 h'.objs.size:=⟨Sx,(young _ (by rw [sz];exact b6 _ _)).2⟩
 have rl:rs.length<=sizeLine:=by rw [UX.length,cy,hl];exact hn
 have I5:=I4.Sw fS (u:=.lst rs) ⟨rl,its.toList,cc,UX,by simpa using MZ⟩
 refine⟨.ref h'.objs.size,_,I5,rfl,?_⟩
 refine(k.later (ZQ.trans (sH2.trans sH3))).yl ?_ _ Sx
 have go:∀ (X2 UY:Lp) (a1 a2:List V) (rr:List V),fz X.K H2 X2 a1->fz X.K H2 UY a2->rr.length=(a1.zip a2).length->(∀ (j:Nat) (q:V×V),(a1.zip a2)[j]?=some q->∃ T,rr[j]?=some (.ref T)/\H3 T=some (.tup [q.1,q.2]))->fz X.K H3 (XY X2 UY) rr:=by
  intro X2
  induction X2 with
  | nil =>
   intro UY a1 a2 rr h1 h2 hl _
   rw [fz.gn.mp h1] at hl
   have:rr=[]:=by simpa using hl
   subst this
   exact fz.nil
  | cons d1 X2 ih =>
   intro UY a1 a2 rr h1 h2 hl MZ
   obtain⟨w1,a1',rfl,g1,g2⟩:=fz.fT.mp h1
   cases UY with
   | nil =>
    rw [fz.gn.mp h2] at hl
    have:rr=[]:=by simpa using hl
    subst this
    exact fz.nil
   | cons d2 UY =>
    obtain⟨w2,a2',rfl,g3,g4⟩:=fz.fT.mp h2
    cases rr with
    | nil=>simp at hl
    | cons r rr =>
     obtain⟨T,t1,t2⟩:=MZ 0 (w1,w2) rfl
     have er:r=.ref T:=by simpa using t1
     subst er
     refine fz.cons (fM.nc.mpr ⟨T,_,rfl,tm.of t2,fz.cons (g1.same sH3) (fz.cons (g3.same sH3) fz.nil)⟩) (ih UY a1' a2' rr g2 g4 (by simpa using hl) fun j q e=>?_)
     obtain⟨T',u1,u2⟩:=MZ (j+1) q (by simpa using e)
     exact⟨T',by simpa using u1,u2⟩
 exact go xs ys M3 Kv rs PU id2 (by rw [UX.length];exact X1) ZO
end
end L2
namespace PySem
open Builtin
theorem qG:entryFor table "set.update.loop"=some Builtin.«set.update.loop»:=entryFor_of_tree (zK 0)
theorem ni:plainId "set.update.loop"=true:=by decide +kernel
section
variable {prog:Program}{K:Type} [DecidableEq K] {knd:KeyKind prog w K}   
def uB (acc:List K)(k:K):List K:=if k∈acc then acc else acc++[k]
def ow (acc ks:List K):List K:=ks.foldl uB acc
theorem EL (acc:List K)(k:K):(uB acc k).length<=acc.length+1:=by unfold uB;split<;>simp
inductive wa (knd:KeyKind prog w K):Lw->List K->Prop
 | nil:wa knd [] []
 | cons {v:Value}{k:K}{vs:Lw}{ks:List K}:knd.is k v=true->v.scannable=true->wa knd vs ks->wa knd (v::vs) (k::ks)
theorem yL {D I l:Addr}{items:Array Value}{R:Result->Shared->Prop}(hh:A.in1.handled=none)(Qh:D≠I)(h₀:Heap)(XO:h₀.get? D=none)(UP:h₀.get? I=none) :
  ∀ (vs:Lw) (ks:List K) (i:Nat) (s:Shared) (acc:List K),items.toList.drop i=vs->wa knd vs ks->(∀ b o,h₀.get? b=some o->s.heap.get? b=some o)->s.heap.IsListIter I l i->s.heap.IsList l items->s.heap.SetOf knd D (fun k=>decide (k∈acc)) acc.length->acc.length+ks.length+1<scanBound ->
  (∀ h' tk,h'.SetOf knd D (fun k=>decide (k∈ow acc ks)) (ow acc ks).length->(∀ b o,h₀.get? b=some o->h'.get? b=some o)->R (.ok (.ret .none)) { s with heap:=h',toks:=tk }) ->
  codeAny (model prog w) A (.builtin "set.update.loop" ⟨[.ref D,.ref I],[]⟩) R s
 | [],_,i,s,acc,hv,hp,h0,hI,hl,hd,hz,hR=>by
  cases hp
  refine cg qG ?_
  rw [bV ni _]
  show wpAny _ A.in1 (pyNext (.ref I)>>=_) _ _ s
  have hn:items[i]?=none:=by
   have:=List.drop_eq_nil_iff.mp hv
   exact cG (by simpa using this)
  refine ab (du hh hI hl hn fun h' eb=>?_)
  show wpAny _ A.in1 (ret Value.none) _ _ _
  refine aw ?_
  obtain⟨o,es,ep,t,hg,r⟩:=hd
  exact hR h' s.toks ⟨o,es,ep,t,eb _ _ Qh hg,r⟩ fun b o e=>eb b o (fun z=>by rw [z,UP] at e;cases e) (h0 b o e)
 | v::vs,_,i,s,acc,hv,hp,h0,hI,hl,hd,hz,hR=>by
  cases hp with
  | @cons _ k _ ks hk XH hp =>
   refine cg qG ?_
   rw [bV ni _]
   show wpAny _ A.in1 (pyNext (.ref I)>>=_) _ _ s
   have qt:i<items.size:=by
    have:=bQ List.length hv
    simp at this;omega
   have hx:items[i]?=some v:=by
    have:=bQ (·[0]?) hv
    simpa using this
   have hv2:items.toList.drop (i+1)=vs:=by
    have e:=cb (l:=items.toList) (i:=i) (by simpa using qt)
    rw [hv] at e
    injection e with _ e2
    exact e2.symm
   refine ab (da hI hl hx fun h' hI' sb=>?_)
   have LF:h'.SetOf knd D (fun k=>decide (k∈acc)) acc.length:=by
    obtain⟨o,es,ep,t,hg,r⟩:=id hd
    exact⟨o,es,ep,t,(sb.2 _ Qh).trans hg,r⟩
   have nI:∀ b o xs n,s.heap.get? b=some o->o.data=.seq xs n->b≠I:=fun b o xs n e1 e2 z=>by
    subst z
    obtain⟨oi,ei,ci,di⟩:=hI
    rw [e1] at ei;cases ei
    rw [e2] at di;cases di
   have nD:∀ b o xs n,s.heap.get? b=some o->o.data=.seq xs n->b≠D:=fun b o xs n e1 e2 z=>by
    subst z
    obtain⟨o',es,ep,t,hg,_,Ai,_⟩:=hd
    rw [e1] at hg;cases hg
    rw [e2] at Ai;cases Ai
   show wpAny _ A.in1 (holding [v] (setAdd D v)>>=_) _ _ _
   refine ab (bx ?_)
   unfold setAdd
   refine bx (ab (knd.pyHash hk ?_))
   simp only [ar] at hz
   refine wpAny_setAddHashed_of (knd:=knd) (s:={ s with heap:=h',toks:=s.toks+1 }) hk XH LF (by omega) fun h2 Bz hd2=>?_
   have UQ:h2.SetOf knd D (fun k'=>decide (k'∈uB acc k)) (uB acc k).length:=by
    have e1:(fun k'=>decide (k'∈acc)||decide (k'=k))=fun k'=>decide (k'∈uB acc k):=by
     funext k'
     unfold uB
     by_cases q:k∈acc
     ·rw [ai q]
      by_cases q2:k'=k
      ·subst q2;simp [q]
      ·simp [q2]
     ·rw [ao q];simp
    have e2:(if decide (k∈acc)=true then acc.length else acc.length+1)=(uB acc k).length:=by
     unfold uB
     by_cases q:k∈acc
     ·simp [q]
     ·simp [q]
    rw [← e1,← e2]
    exact hd2
   refine aw ⟨cI ni _,?_⟩
   have Ln:h2.IsList l items:=by
    obtain⟨o,e1,e2,n,e3⟩:=hl
    exact⟨o,(Bz.2 _ (nD _ _ _ _ e1 e3)).trans ((sb.2 _ (nI _ _ _ _ e1 e3)).trans e1),e2,n,e3⟩
   have hI2:h2.IsListIter I l (i+1):=hI'.at fun o e=>(Bz.2 _ (Ne.symm Qh)).trans e
   refine yL hh Qh h₀ XO UP vs ks (i+1) { s with heap:=h2,toks:=s.toks+1 } (uB acc k) hv2 hp (fun b o e=>?_) hI2 Ln UQ ?_ fun h3 tk UQ k3=>hR h3 tk UQ k3
   ·have b1:b≠I:=fun z=>by rw [z,UP] at e;cases e
    have b2:b≠D:=fun z=>by rw [z,XO] at e;cases e
    exact(Bz.2 b b2).trans ((sb.2 b b1).trans (h0 b o e))
   ·have:=EL acc k
    omega
theorem Ay {l:Addr}{o:Obj}{items:Array Value}{ks:List K}{Q:Px} (hh:A.handled=none) (hx:s.heap.get? l=some o) (hc:o.cls=.type "list") (CP:o.data=.seq items n)
  (hp:wa knd items.toList ks) (hsz:ks.length+1<scanBound)
  (h:∀ h' tk,h'.SetOf knd (zB s) (fun k=>decide (k∈ow [] ks)) (ow [] ks).length->(∀ b o,s.heap.get? b=some o->h'.get? b=some o)->Q (.ref (zB s)) { s with heap:=h',toks:=tk }) :
  wpAny (model prog w) A (call (.type "set") [.ref l]) Q E s:=by
 obtain⟨oc,od,oda,Ll⟩:=o
 simp only at hc CP
 subst hc CP
 have w1:=F.called_set.made
 have w2:=F.called_set.sub
 have w3:=F.called_set.notType
 have w4:=F.called_set.canCreate
 have w5:=F.typeCall_set_1 (.ref l)
 obtain⟨mc,mt,w6⟩:=F.called_set.mro
 refine wpAny_call (codeAny_of_tree ?_)
 show wpAny _ _ (callAny (.type "set") _) _ _ _
 refine aw ⟨Code.quiet_builtin _ (zD 0),cg F.entry_type_call ?_⟩
 rw [Around.under_plain (weight_type_call_type "set" [.ref l] []) rfl]
 repeat (any_goals (first|assumption|wp_step))
 refine df (code_set_new_1 (.ref l) (E:=E) (Q₁:=fun v t=>∃ led:Bool,v=.ref (zB s)/\t={ s with heap:=s.heap.push { cls:=.type "set",dict:=none,data:=.set #[] 0 (.fresh 0 0 led) } }) fun led=>⟨led,rfl,rfl⟩) fun r1 t1 g1=>?_
 match r1,g1 with
 | .error e,g1=>exact g1
 | .ok .next,g1=>exact g1.elim
 | .ok .brk,g1=>exact g1.elim
 | .ok .cont,g1=>exact g1.elim
 | .ok (.ret v),⟨led,e1,e2⟩ =>
  subst e1 e2
  have Ge:(s.heap.push { cls:=.type "set",dict:=none,data:=.set #[] 0 (.fresh 0 0 led) }).get? (zB s)=some { cls:=.type "set",dict:=none,data:=.set #[] 0 (.fresh 0 0 led) }:=aF _ rfl
  have at2:(s.heap.push { cls:=.type "set",dict:=none,data:=.set #[] 0 (.fresh 0 0 led) }).get? l=some { cls:=.type "list",dict:=od,data:=.seq items n,slots:=Ll }:=ak _ hx
  have ty:Shared.TypeIs { s with heap:=s.heap.push { cls:=.type "set",dict:=none,data:=.set #[] 0 (.fresh 0 0 led) } } (.ref (zB s)) "set":=⟨_,Ge,rfl⟩
  have w7:=F.called_set.init.lookup
  have w8:=F.called_set.init.bind (.ref (zB s))
  repeat (any_goals (first|assumption|wp_step))
  refine df (codeAny_call_builtin (R:=wants (fun r t=>r=.none/\∃ h' tk,t={ s with heap:=h',toks:=tk }/\h'.SetOf knd (zB s) (fun k=>decide (k∈ow [] ks)) (ow [] ks).length/\∀ b o,s.heap.get? b=some o->h'.get? b=some o) E) F.called_set.init.plain F.entry_set_init (check_set_init_1 ty ?_)) fun r2 t2 g2=>?_
  ·have v1:=F.sub_list_set
   have v2:=F.sub_list_frozenset
   have v3:(Value.type "list"==Value.type "dict")=false:=by decide
   have il:(s.heap.push { cls:=.type "set",dict:=none,data:=.set #[] 0 (.fresh 0 0 led) }).IsList l items:=⟨_,at2,rfl,n,rfl⟩
   unfold Builtin.«set.__init__» noKeywords Builtin.Frozenset.updateFrom
   generalize walks:pyIter=walk
   wp_walk
   subst walks
   refine de il (ab (wpAny_runValue ?_))
   have UR:(zB s)<(s.heap.push { cls:=.type "set",dict:=none,data:=.set #[] 0 (.fresh 0 0 led) }).objs.size:=ay Ge
   have free:∀ j,(zB s)<=j->s.heap.get? j=none:=fun j hj=>by
    cases q:s.heap.get? j with
    | none=>rfl
    | some z=>exact absurd (aG (ay q) hj) (a7 _)
   have kp:∀ b o,s.heap.get? b=some o->((s.heap.push { cls:=.type "set",dict:=none,data:=.set #[] 0 (.fresh 0 0 led) }).push { cls:=.type "list_iterator",data:=.fields #[.ref l,.int 0 0] }).get? b=some o:=fun b o e=>ak _ (ak _ e)
   have UZ:((s.heap.push { cls:=.type "set",dict:=none,data:=.set #[] 0 (.fresh 0 0 led) }).push { cls:=.type "list_iterator",data:=.fields #[.ref l,.int 0 0] }).SetOf knd (zB s) (fun k=>decide (k∈([]:List K))) ([]:List K).length :=
    (funext fun k=>by simp:(fun _:K=>false)=fun k=>decide (k∈([]:List K)))▸(PyProof.Rows.setObjOf_fresh (knd:=knd) led).setOf (ak _ Ge) (by unfold scanBound;omega)
   refine yL (knd:=knd) (show A.in1.in1.in1.handled=none from hh) (aP UR) s.heap (free _ (aD _)) (free _ (dY UR)) items.toList ks 0 _ [] rfl hp kp ⟨_,aF _ rfl,rfl,rfl⟩ (il.push _) UZ (by simpa using hsz) fun h' tk hd k'=>?_
   show wpAny _ _ _ _ _ _
   refine aw ?_
   show wpAny _ _ (ret Value.none) _ _ _
   exact aw ⟨rfl,h',tk,rfl,hd,k'⟩
  ·match r2,g2 with
   | .error e,g2=>exact g2
   | .ok .next,g2=>exact g2.elim
   | .ok .brk,g2=>exact g2.elim
   | .ok .cont,g2=>exact g2.elim
   | .ok (.ret v),⟨e3,h',tk,e4,hd,kp⟩ =>
    subst e3 e4
    repeat (any_goals (first|assumption|wp_step))
    exact h _ _ hd kp
end
end PySem
namespace L2
open PySem PySem.Spec PyProof.Rows PySem.Builtin PySem.Builtin.Str
def uC:Lp->Option (List Key)
 | []=>some []
 | d::r=>(sg d).bind fun k=>(uC r).map (k::·)
theorem Jg {P:Program}{w:World}{K:Fg}{H:Hp}:∀ {ds:Lp}{ks:List Key}{vs:List V}{us:Lw},uC ds=some ks->fz K H ds vs->gE vs us->wa (gS P w) us ks
 | [],_,_,_,e,i,r=>by
  cases e
  rw [fz.gn.mp i] at r
  cases r
  exact .nil
 | d::ds,_,_,_,e,i,r=>by
  obtain⟨k,e1,e2⟩:=bind_some e
  obtain⟨ks,e3,rfl⟩:=aj.mp e2
  obtain⟨v,vs,rfl,i1,i2⟩:=fz.fT.mp i
  cases r with
  | cons r1 r2 =>
   have:=js e1
   subst this
   rw [jO i1] at r1
   refine .cons (qx r1) ?_ (Jg e3 i2 r2)
   cases k with
   | inl i=>obtain⟨t,rfl⟩:=r1;rfl
   | inr x=>obtain⟨t,rfl⟩:=r1;rfl
section
variable {a b c:Expr}{fa fb fc:fu->Od}{p2 p apos gJ:Pos} 
def CW (f:fu->Od):fu->Od:=fun ρ=>(f ρ).bind fun d=>match d with
 | .list ds=>(uC ds).bind fun ks=>if ks.length+1<4096 then some (.int (ow [] ks).length) else none
 | _=>none
theorem BE {K:Type}[DecidableEq K]:∀ (ks acc:List K),(ow acc ks).length<=acc.length+ks.length
 | [],acc=>by simp [ow]
 | k::ks,acc=>by
  have h1:=BE ks (uB acc k)
  have h2:=EL acc k
  rw [show ow acc (k::ks)=ow (uB acc k) ks from rfl,ar]
  omega
theorem Kw {Hf pz:Pos} (hc:X.calm=true) (hgl:Gl X "len") (hml:X.mg "len"=none) (hgz:Gl X "set") (hmz:X.mg "set"=none) (ha:PD X e f)
  (s1:starEach [.Call (.Name "set" pz) [e] [] Hf] X.env=[(false,eval (.Call (.Name "set" pz) [e] [] Hf) X.env)]:=by rfl) (s2:starEach [e] X.env=[(false,eval e X.env)]:=by rfl) :
  PD X (.Call (.Name "len" p) [.Call (.Name "set" pz) [e] [] Hf] [] pos) (CW f):=by
 intro pins s σ H Q I ⟨ρ,d,hs,e,k⟩
 obtain⟨x,e1,q1⟩:=bind_some e
 obtain⟨xs,rfl⟩:∃ xs,x=.list xs:=by cases x<;>first|exact⟨_,rfl⟩|cases q1
 obtain⟨ks,e2,q2⟩:=bind_some (show (uC xs).bind (fun ks=>if ks.length+1<4096 then some (PyData.int (ow [] ks).length) else none)=some d from q1)
 by_cases hz:ks.length+1<4096
 ·rw [ai hz] at q2;cases q2
  refine bz (qM I hgl hml PySem.boot_len ?_)
  refine dD ?_ (by rw [s1];rfl) (by rfl)
  rw [s1]
  refine bq ?_
  refine bz (qM I hgz hmz (by rfl) ?_)
  refine bD ?_ (by rw [s2];rfl) (by rfl)
  rw [s2]
  refine bq (jl (@ha pins s σ H (fun v H1=>fV H H1/\fM X.K H1 (.list xs) v) I ⟨ρ,_,hs,e1,fun v H1 sH i=>⟨sH,i⟩⟩) fun u1 t1 ⟨v1,H1,I1,r1,ZQ,i1⟩=>bL ?_)
  obtain⟨l,ws,rfl,sq,PU⟩:=fM.gv.mp i1
  cases r1
  obtain⟨its,rv,⟨o,n,ho,uM,_,CP⟩,z1⟩:=I1.list sq
  refine Ay (knd:=gS X.prog X.w) (I1.ok.hd hc) ho uM CP (by simpa using Jg e2 PU rv) (by unfold scanBound;exact hz) fun h' tk hd kp=>bL ?_
  obtain⟨o',Wy,ep,t,g1,g2,g3,g4,g5,g6,g7,g8⟩:=hd
  have hlen:Wy.size=(ow [] ks).length:=g8
  have hle:=BE ks ([]:List Key)
  refine call_len_set g1 g2 g3 g7 (by rw [hlen];simp at hle;omega) ?_
  rw [hlen]
  exact⟨.int _,H1,(I1.kept (t':=tk) kp).tok _,⟨_,rfl⟩,(k.later ZQ).here (fM.fZ.mpr rfl)⟩
 ·rw [ao hz] at q2;cases q2
theorem M4 (I:fW X pins σ H s){x:PyData}(hx:SeqAt.shaped x=true)(ix:fM X.K H x v)(ru:gH v u)(hu:A.units+x.depth<cLine) :
  ∃ e:Value->Bool,∀ (d:PyData) (w:V) (y:Value),SeqAt.shaped d=true->fM X.K H d w->gH w y->SeqAt.EqAt A s y u (e y)/\e y=PyData.eqv d x:=by
 obtain⟨as,rx⟩:=I.qR (aR hx) ix ru
 refine⟨fun y=>@decide (∃ d bs,Reads s.heap y d bs/\SeqAt.shaped d=true/\PyData.eqv d x=true) (Classical.propDecidable _),fun d w y hd iw Cm=>?_⟩
 obtain⟨bs,rd⟩:=I.qR (aR hd) iw Cm
 have ed:@decide (∃ d bs,Reads s.heap y d bs/\SeqAt.shaped d=true/\PyData.eqv d x=true) (Classical.propDecidable _)=PyData.eqv d x:=by
  cases q:PyData.eqv d x with
  | true=>exact @decide_eq_true _ (Classical.propDecidable _) ⟨d,bs,rd,hd,q⟩
  | false =>
   refine @decide_eq_false _ (Classical.propDecidable _) fun ⟨d',mZ,r',LF,q'⟩=>?_
   have:=SeqAt.Reads.unique d d' y _ _ (aR hd) rd r'
   subst this
   rw [q] at q';cases q'
 refine⟨?_,ed⟩
 show SeqAt.EqAt A s y u (@decide _ (Classical.propDecidable _))
 rw [ed]
 refine SeqAt.eqAt_reads d x A s _ _ bs as rd rx (aR hd) (aR hx) ?_
 have:min d.depth x.depth<=x.depth:=eN _ _
 omega
theorem EM (hu:X.A.units+64<cLine):Sd X "list.index" (fun x vs H Q=>∃ d ds c,fM X.K H d x/\fz X.K H ds vs/\yJ d ds=some c/\KD X.K H c Q):=by
 intro pins s σ H v vs u us Q I rx rv h
 obtain⟨d,ds,cc,i1,i2,e,k⟩:=h
 unfold yJ at e
 split at e
 ·rename_i xs x
  by_cases hz:SeqAt.shaped x=true/\xs.all SeqAt.shaped=true/\x.depth<=60/\xs.length<=sizeLine
  ·rw [ai hz] at e
   obtain⟨j,e1,rfl⟩:=aj.mp e
   obtain⟨h1,h2,⟨dj,h3,h4⟩,h5⟩:=vd e1
   simp only [Nat.sub_zero] at h2 h3 h5
   obtain⟨p,ws,rfl,sq,iw⟩:=fM.gv.mp i1
   cases rx
   obtain⟨v2,rfl,i3⟩:=je i2
   obtain⟨u2,rfl,ru2⟩:=rv.one
   obtain⟨its,UX,⟨⟨cls,dd,data,sl⟩,n,ho,hc,Ai,hd⟩,z1⟩:=I.list sq
   simp only at hc hd
   subst hc hd
   obtain⟨ee,he⟩:=M4 I (A:=X.A.in1) hz.1 i3 ru2 (by show X.A.units+1+x.depth<cLine;omega)
   have sh:∀ d∈xs,SeqAt.shaped d=true:=aL.mp hz.2.1
   have look:∀ (i:Nat) (y:Value),its[i]?=some y->∃ d,xs[i]?=some d/\SeqAt.EqAt X.A.in1 s y u2 (ee y)/\ee y=PyData.eqv d x:=fun i y hy=>by
    have qt:i<ws.length:=by rw [UX.length];exact(aJ.mp hy).1
    have hw:ws[i]?=some ws[i]:=aE qt
    obtain⟨y',VZ,Cm⟩:=UX.get hw
    rw [hy] at VZ;cases VZ
    obtain⟨d,hd,iwd⟩:=iw.get' hw
    obtain⟨a1,a2⟩:=he d _ y (sh d (cu hd)) iwd Cm
    exact⟨d,hd,a1,a2⟩
   have hj:j<its.toArray.size:=by rw [ax,← UX.length,← iw.length];exact h2
   refine b7 F.slot_list_index ⟨_,ho,rfl⟩ F.entry_list_index (F.args_list_index_2 _ _) (SeqAt.list_indexAt p its.toArray n dd sl u2 ee j hj ?_ ?_ ?_) ⟨ho,fun y hy=>?_,?_⟩
   ·have h6:=hz.2.2.2
    have h7:sizeLine<2 ^ 62:=by decide
    omega
   ·obtain⟨d,a1,_,a3⟩:=look j (its.toArray[j]) (by simp)
    rw [h3] at a1;cases a1
    rw [a3];exact h4
   ·intro m hm hmj
    obtain⟨d,a1,_,a3⟩:=look m (its.toArray[m]) (by simp)
    rw [a3];exact h5 m d hmj a1
   ·obtain⟨i,hi⟩:=List.mem_iff_getElem?.mp (show y∈its by simpa using hy)
    obtain⟨d,_,a2,_⟩:=look i y hi
    exact a2
   ·exact⟨.int _,H,I.tok _,⟨_,rfl⟩,k.here (fM.fZ.mpr rfl)⟩
  ·rw [ao hz] at e;cases e
 ·cases e
def Qo (g:PyData->Lp->Od)(f:fu->Od)(ff:fu->Option Lp):fu->Od:=fun ρ=>(f ρ).bind fun d=>(ff ρ).bind fun ds=>match d with | .list z=>g (.list z) ds|_=>none
theorem M5 {name:Str}{id:String}{g:PyData->Lp->Od} (slot:Slot "list" name id) (Mb:typeOf (.builtin id)=pure (.type "method_descriptor")) (hm:Sd X id (fun x vs H Q=>∃ d ds c,fM X.K H d x/\fz X.K H ds vs/\g d ds=some c/\KD X.K H c Q)) (ho:PD X o f) (ha:Ct X (e::es) ff)
  (mf:attributeBase o name X.env (eval o X.env)=eval o X.env:=by rfl)
  (yf:((backTo gJ (starEach (e::es) X.env)).all (fun x=>!x.1)&&(backToKw gJ (keywordEach [] X.env)).all (fun x=>x.1.isSome)
  &&decide ((e::es).length+([]:List Keyword).length+(if ([]:List Keyword).isEmpty then 0 else 1)<30))=true:=by rfl)
  (mh:(apos.endLine==gJ.line)=true:=by rfl) (hs:zE e es X:=by rfl) (oR:(backTo gJ (starEach es X.env)).any (·.1)=false:=by rfl) :
  PD X (.Call (.Attribute o name apos) (e::es) [] gJ) (Qo g f ff) :=
 PE.imp (Ee bE slot Mb hm ho ha mf yf mh hs oR) fun σ H Q ⟨ρ,d,hs,e,k⟩=>by
  obtain⟨x,e1,e2⟩:=bind_some e
  obtain⟨ds,e3,e4⟩:=bind_some e2
  obtain⟨z,rfl⟩:∃ z,x=.list z:=by cases x<;>first|exact⟨_,rfl⟩|cases e4
  refine⟨ρ,_,hs,e1,fun v H1 s1 i1=>?_⟩
  obtain⟨p,vs,rfl,q2,q3⟩:=fM.gv.mp i1
  exact⟨.inl ⟨rfl,vs,q2⟩,ρ,ds,hs.same s1,e3,fun Bp H2 s2 i2=>⟨_,ds,d,i1.same s2,i2,e4,k.later (s1.trans s2)⟩⟩
end
end L2
namespace L2
open PySem PySem.Spec PyProof.Rows
section
def yM (g:fu->Option Bool)(f:fu->Od)(ρc:fu):Lp->Option Lp
 | []=>some []
 | d::ds=>match d with
  | .tuple [a,b]=>(g (some a::some b::ρc)).bind fun c=>if c then (f (some a::some b::ρc)).bind fun y=>(yM g f ρc ds).bind fun ys=>some (y::ys) else yM g f ρc ds
  | _=>none
def CY (q:fu->Option Lp)(caps:List (Nat×Str))(g:fu->Option Bool)(f:fu->Od):fu->Od:=fun ρ =>
 (q ρ).bind fun ds=>if ds.length<=sizeLine then (yM g f (qT caps ρ) ds).map .list else none
theorem M6 {elt iter:Expr}{x2:Str}{px Sy pt:Pos}{kt:Nat}{ifs:Lx}     
  (hc:X.calm=true) (S:kE scope x) (S2:scope.names.lookup x2=some .local) (uM:∀ p∈scope.names,p.2=.free->∃ c,X.env.cells.lookup p.1=some c) (oS:lM X scope caps) (yp:(x::x2::caps.map (·.2)).Nodup)
  (hi:Ls X (.Tuple [.Name x px,.Name x2 Sy] kt pt) iter q)
  (ht:∀ C s H fp,xq (lY X scope C (x::x2::caps.map (·.2)) s H fp) ifs g)
  (he:∀ C s H fp,PD (lY X scope C (x::x2::caps.map (·.2)) s H fp) elt f):Ki X (.ListComp elt [⟨.Tuple [.Name x px,.Name x2 Sy] kt pt,iter,ifs,0⟩] scope pos) scope iter (tD X.K (CY q caps g f)):=
 (Es (bd:=PK 2 (Mt (IV 0) (Mt (IV 1) Xn))) (fun _ G ds vs=>fz X.K G ds vs) fz.length (fun h s=>h.same s) [x,x2] (yM g f) hc S uM oS hi (fun C s H fp=>PL rfl (Bg (yq 0 yp rfl (.inl (bU S.var)) (.inr (bU S.var))) (Bg (yq 1 yp rfl (.inl (bU S2)) (.inr (bU S2))) Mu))) ht (fun C s H fp=>IY (he C s H fp) rfl) Bn (fun _ _ e=>by cases e;rfl) fun c d ds ys h=>by
  unfold yM at h
  split at h
  ·obtain⟨z,ez,e⟩:=bind_some h
   exact⟨[some _,some _],z,rfl,rfl,ez,IW e⟩
  ·cases h).data
theorem Ki.pe2 {elt iter:Expr}{x2:Str}{px Sy pt:Pos}{kt:Nat}{ifs:Lx}{t:TE} (h:Ki X (.ListComp elt [⟨.Tuple [.Name x px,.Name x2 Sy] kt pt,iter,ifs,0⟩] scope pos) scope iter t) (S:kE scope x) (uM:∀ p∈scope.names,p.2=.free->∃ c,X.env.cells.lookup p.1=some c)
  (hs:∀ x,foldedSetIterable iter X.env x=pure x:=by intro _;rfl):PE X (.ListComp elt [⟨.Tuple [.Name x px,.Name x2 Sy] kt pt,iter,ifs,0⟩] scope pos) t:=by
 intro pins s σ H Q I hQ
 rw [eval_ListComp]
 refine cU (use:=none) rfl hs (qf uM) S.kind S.loc (@h pins s σ H Q (compPost (model X.prog X.w) X.A X.xe none (EP X pins σ Q)) I hQ ?_)
 intro D C s9 H9 oC m I9 hn hp hz q
 exact⟨m,hn,fun h' lZ=>⟨.ref D,H9,I9.yu hp hz lZ,rfl,q⟩⟩
end
section
variable {a b c:Expr}{rest:Lx}{fa fb fc:fu->Od}{p2:Pos}
def X3 (d:PyData):Option Bool:=match d with | .bool b=>some b|_=>none
def rB (f g:fu->Od):fu->Od:=fun ρ=>(f ρ).bind fun d=>(X3 d).bind fun b=>if b then g ρ else some (.bool false)
theorem M7 {b:Bool}(h:X3 d=some b):d=.bool b:=by
 cases d<;>first|(cases h;rfl)|cases h
theorem vf {op:BoolOp}(h:PD X a f):PD X (.BoolOp op [a] pos) f:=Tq h
theorem qY (ha:PD X a fa)(hb:PD X (.BoolOp .And (b::rest) pos) fb):PD X (.BoolOp .And (a::b::rest) pos) (rB fa fb) :=
 PE.imp (Tr ha hb) fun σ H Q ⟨ρ,d,hs,e,k⟩=>by
  obtain⟨x,e1,e2⟩:=bind_some e
  obtain⟨y,e3,e4⟩:=bind_some e2
  cases M7 e3
  refine⟨ρ,_,hs,e1,fun v H1 s1 i1=>⟨y,fM.f9.mp i1,?_⟩⟩
  cases y with
  | true=>rw [ai rfl] at e4 ⊢;exact⟨ρ,d,hs.same s1,e4,k.later s1⟩
  | false=>rw [ao aQ] at e4 ⊢;cases e4;exact k _ H1 s1 (fM.f9.mpr rfl)
def dIs (x y:PyData):Od:=match x,y with | .bool a,.bool b=>some (.bool (a==b))|_,_=>none
def Hg (x y:PyData):Od:=match x,y with | .bool a,.bool b=>some (.bool (a != b))|_,_=>none
theorem X4:uY X (compareOp .Is) dIs:=by
 intro pins s σ H x y v u Q I rx ry ⟨d,d',c,i1,i2,e,k⟩
 cases d<;>cases d'<;>try (simp [dIs] at e;done)
 cases e
 rw [fM.f9.mp i1] at rx
 rw [fM.f9.mp i2] at ry
 cases rx;cases ry
 exact is_bool ⟨.bl _,H,I,rfl,k.here (fM.f9.mpr rfl)⟩
theorem M8:uY X (compareOp .IsNot) Hg:=by
 intro pins s σ H x y v u Q I rx ry ⟨d,d',c,i1,i2,e,k⟩
 cases d<;>cases d'<;>try (simp [Hg] at e;done)
 cases e
 rw [fM.f9.mp i1] at rx
 rw [fM.f9.mp i2] at ry
 cases rx;cases ry
 exact isnot_bool ⟨.bl _,H,I,rfl,k.here (fM.f9.mpr rfl)⟩
def pO:Lp->Option (List Bool)
 | []=>some []
 | .bool b::r=>(pO r).map (b::·)
 | _::_=>none
theorem vg:∀ {ds:Lp}{bs:List Bool},pO ds=some bs->ds=bs.map .bool
 | [],bs,h=>by cases h;rfl
 | d::r,bs,h=>by
  cases d<;>try (simp [pO] at h;done)
  obtain⟨cs,e,rfl⟩:=aj.mp h
  rw [vg e];rfl
def abW:Lp->Od | [.list ds]=>(pO ds).map fun bs=>.bool (bs.any id)|_=>none
def Qp:Lp->Od | [.list ds]=>(pO ds).map fun bs=>.bool (bs.all id)|_=>none
theorem Hh {K:Fg}{bs:List Bool}{its:Lw}(i:fz K H (bs.map .bool) vs)(r:gE vs its){j:Nat}{v:Value}(e:its[j]?=some v):∃ b,bs[j]?=some b/\v=.bool b:=by
 have hj:j<its.length:=(aJ.mp e).1
 have l1:=r.length
 have l2:=i.length
 have hb:j<bs.length:=by simpa [l1,l2] using (by rw [ae] at l2;omega:j<bs.length)
 have q:(bs.map PyData.bool)[j]?=some (.bool bs[j]):=by rw [aC,aE hb];rfl
 obtain⟨x,e1,e2⟩:=i.get q
 obtain⟨u,e3,e4⟩:=r.get e1
 rw [e] at e3;cases e3
 rw [fM.f9.mp e2] at e4
 exact⟨_,aE hb,e4⟩
theorem M9 (hc:X.calm=true):yn X (.builtin "all") Qp:=by
 intro pins s σ H xs us Q I r ⟨ds,c,i,e,k⟩
 match ds,e with
 | [.list ys],e =>
  obtain⟨bs,e1,rfl⟩:=aj.mp e
  cases vg e1
  obtain⟨v,rfl,h1⟩:=je i
  obtain⟨p,vs,rfl,e2,e3⟩:=fM.gv.mp h1
  obtain⟨u,rfl,ru⟩:=uQ r
  cases ru
  obtain⟨its,r',pl,hz⟩:=I.list e2
  have hl:=pl.isList
  have qt:p<(zB s):=by obtain⟨_,e,_⟩:=hl;exact ay e
  refine call_all_walk (de hl ?_)
  refine⟨(zB s),[(zB s),p],[(zB s)],its.toArray.size,_,_,fun i=>(bs[i]?).getD true,rfl,Walks.list (A:=X.A.in1) (I.ok.hd hc) _ p (aP qt) its.toArray,
   ⟨⟨_,aF _ rfl,rfl,rfl⟩,hl.push _⟩,fun i v s' Q' E' hP hQ=>?_,fun h' tk hk=>?_⟩
  ·obtain⟨b,e,rfl⟩:=Hh e3 r' (by simpa using hP)
   simp only [e,Option.getD_some] at hQ
   exact cq hQ
  ·have e:((List.range its.toArray.size).all fun i=>(bs[i]?).getD true)=bs.all id:=by
    have l1:=r'.length
    have l2:=e3.length
    rw [ae] at l2
    rw [ax,show its.length=bs.length by omega];exact LSm.range_all bs
   rw [e]
   refine⟨.bl _,H,I.kept fun b x e=>?_,rfl,k.here (fM.f9.mpr rfl)⟩
   exact hk b x (fun hm=>by rw [List.mem_singleton.mp hm] at e;exact a7 _ (ay e)) (ak _ e)
def wb (X:Cx)(scope:Scope):Bool:=scope.names.all fun p=>p.2 != .free||(X.env.kindOf p.1==some .cell||X.env.kindOf p.1==some .free)
theorem my {elt iter:Expr}{px:Pos}{ifs:Lx} (caps:List (Nat×Str))   
  (hi:Ls X (.Name x px) iter q)
  (ht:∀ C s H fp,xq (lY X scope C (x::caps.map (·.2)) s H fp) ifs g)
  (he:∀ C s H fp,PD (lY X scope C (x::caps.map (·.2)) s H fp) elt f)
  (hc:X.calm=true:=by rfl) (S:kE scope x:=by exact⟨rfl,by decide +kernel,by decide +kernel,rfl,aO⟩) (Hj:wb X scope=true:=by rfl) (oS:lM X scope caps:=by repeat' (first|exact aO|refine⟨⟨rfl,.inl rfl,rfl⟩,?_⟩|refine⟨⟨rfl,.inr rfl,rfl⟩,?_⟩)) (yp:(x::caps.map (·.2)).Nodup:=by decide +kernel)
  (hs:∀ x,foldedSetIterable iter X.env x=pure x:=by intro _;rfl):PD X (.ListComp elt [⟨.Name x px,iter,ifs,0⟩] scope pos) (iL q caps g f):=by
 intro pins s σ H Q I hQ
 refine PZ hc S (fun p hp e=>I.ok.has p.1 ?_) oS yp hi ht he hs s σ H Q I hQ
 have:=aL.mp Hj p hp
 simp only [eW,bne_iff_ne,ne_eq,cD] at this
 rcases this with h|h
 ·exact absurd e h
 ·exact h
theorem kR (I:fW X pins σ H s)(Hj:wb X scope=true):∀ p∈scope.names,p.2=.free->∃ c,X.env.cells.lookup p.1=some c:=fun p hp e=>I.ok.has p.1 (by
 have:=aL.mp Hj p hp
 simp only [eW,bne_iff_ne,ne_eq,cD] at this
 rcases this with h|h
 ·exact absurd e h
 ·exact h)
end
section
variable {m:Md}{a b c i:Expr}{fa fb fc:fu->Od}{p2 p apos gJ:Pos}  
def k9 (d:PyData):Option Bool:=match d with
 | .dict fE=>if hW fE=true then none else some (!fE.isEmpty)
 | d=>GJ d
def yN (f:fu->Od):fu->Option Bool:=fun ρ=>(f ρ).bind k9
theorem iH (h:PD X e f)(he:∀ whole,isTrue e X.env whole=(do let v ← whole;standAt e.pos;holding [v] (truthy v)):=by intro _;rfl):Gb X e (yN f) :=
 PT.imp (D7 h he) fun σ H Q ⟨ρ,b,hs,e,k⟩=>by
  obtain⟨d,e1,e2⟩:=bind_some e
  refine⟨ρ,d,hs,e1,fun v H1 s1 i1=>⟨b,?_,k H1 s1⟩⟩
  cases d with
  | dict fE =>
   unfold k9 at e2
   by_cases hi:hW fE=true
   ·dsimp only at e2;rw [ai hi] at e2;cases e2
   ·dsimp only at e2;rw [ao hi] at e2;cases e2
    obtain⟨p,kv,rfl,q1,q2⟩:=i1.rA (by simpa using hi)
    refine .inr (.inr ⟨kv,q1,?_⟩)
    have:=q2.length
    cases fE<;>cases kv<;>first|rfl|(simp at this)
  | _=>exact Mr i1 e2
def CZ:PyData->Bool
 | .none=>true
 | _=>false
def Qq (x y:PyData):Od:=match y with
 | .none=>some (.bool (CZ x))
 | y=>dIs x y
def pP (x y:PyData):Od:=match y with
 | .none=>some (.bool (!CZ x))
 | y=>Hg x y
theorem Sz {K:Fg}(i:fM K H d v):decide (v=.lJ)=CZ d:=by
 cases d with
 | none=>rw [fM.jE.mp i];rfl
 | bool b=>rw [fM.f9.mp i];rfl
 | int j=>rw [fM.fZ.mp i];rfl
 | str x=>rw [fM.gw.mp i];rfl
 | list xs=>obtain⟨p,vs,rfl,_⟩:=fM.gv.mp i;rfl
 | tuple xs=>obtain⟨p,vs,rfl,_⟩:=i.iP;rfl
 | dict fE=>obtain⟨p,rfl,_⟩:=fM.oT.mp i;rfl
theorem Na:uY X (compareOp .Is) Qq:=by
 refine mU.imp (mU.or X4 TL) fun x y H Q ⟨a,b,d,ia,ib,e,k⟩=>?_
 cases b with
 | none=>cases e;exact .inr ⟨fM.jE.mp ib,k.here (fM.f9.mpr (by rw [Sz ia]))⟩
 | _=>exact .inl ⟨a,_,d,ia,ib,e,k⟩
theorem wc:uY X (compareOp .IsNot) pP:=by
 refine mU.imp (mU.or M8 O0) fun x y H Q ⟨a,b,d,ia,ib,e,k⟩=>?_
 cases b with
 | none=>cases e;exact .inr ⟨fM.jE.mp ib,k.here (fM.f9.mpr (by rw [Sz ia]))⟩
 | _=>exact .inl ⟨a,_,d,ia,ib,e,k⟩
structure Kx (K:Fg) (mg:Str->Ow) (x:Str) (d:PyData):Prop where
 ex:∃ u v,mg x=some u/\gH v u/\∀ H:Hp,fM K H d v
theorem C0 (c:Kx X.K X.mg x d)(hg:Gl X x)(hd:zg x:=by decide):PD X (.Name x pos) (dC d):=by
 obtain⟨u,v,h1,h2,h3⟩:=c.ex
 exact PE.imp (Iy hg h1 h2 hd) fun σ H Q ⟨ρ,d',hs,e,k⟩=>by cases e;exact k.here (h3 H)
structure pQ (P:Program) (w:World) (K:Fg) (mg:Str->Ow) (x:Str) (fE:List (PyData×PyData)):Prop where
 ex:∃ (a:Addr) (vs:List (Key×Value)),mg x=some (.ref a)/\(a==sysModules)=false/\(∀ h:Heap,K.In h->h.DictOf (gS P w) a vs) /\
  ∀ k:Key,(ku (kr k) fE=none/\valueAt vs k=none)∨∃ d v u,ku (kr k) fE=some d/\valueAt vs k=some u/\gH v u/\∀ H:Hp,fM K H d v
def SA (fE:List (PyData×PyData))(k:PyData):Od:=(sg k).map fun _=>(ku k fE).getD .none
theorem Qr (hC:pQ X.prog X.w X.K X.mg x fE)(hg:Gl X x)(hb:PD X e fb)(mm:M1 X (.Name x p) "get" apos e gJ)(tQ:zg x:=by decide):PD X (.Call (.Attribute (.Name x p) "get" apos) [e] [] gJ) (fun ρ=>(fb ρ).bind (SA fE)):=by
 obtain⟨a,vs,h1,h2,h3,h4⟩:=hC.ex
 intro pins s σ H Q I ⟨ρ,d,hs,e1,k⟩
 obtain⟨y,e2,e3⟩:=bind_some e1
 obtain⟨ky,e4,e5⟩:=aj.mp e3
 have:=js e4
 subst this
 have dd:=h3 s.heap I.xo
 refine eG mm.base mm.Zr mm.line cZ bC dw (tj I hg h1 ?_ tQ)
 refine⟨dd.typeIs,fun b q=>?_,?_⟩
 ·cases q
  obtain⟨ob,_,_,g1,g2,_⟩:=dd
  exact⟨ob,g1,g2.2.1⟩
 rw [mm.trees]
 refine bZ rfl (cO (bq (jl (@hb pins s σ H (fun v H1=>fV H H1/\fM X.K H1 (kr ky) v) I ⟨ρ,_,hs,e2,fun v H1 sH i=>⟨sH,i⟩⟩) fun iv t ⟨v,H1,I1,r1,sH,iv1⟩=>bL ?_)))
 rw [jO iv1] at r1
 have Lm:=h3 t.heap I1.xo
 refine d4 bC Lm.typeIs b0 (cY _ _) (meets_dict_get (gS X.prog X.w) a (qx r1) h2) ⟨_,Lm.mapOf,?_⟩
 have k':=k.later sH
 rcases h4 ky with ⟨g1,g2⟩ | ⟨d',v',u',g1,g2,g3,g4⟩
 ·rw [g1] at e5
  subst e5
  rw [g2]
  exact⟨.lJ,H1,I1.tok _,rfl,k'.here (fM.jE.mpr rfl)⟩
 ·rw [g1] at e5
  subst e5
  rw [g2]
  exact⟨v',H1,I1.tok _,g3,k'.here (g4 H1)⟩
def Nb (fE:List (PyData×PyData))(k:PyData):Od:=(sg k).map fun _=>.bool (ku k fE).isSome
def Nc (fE:List (PyData×PyData))(k:PyData):Od:=(sg k).bind fun _=>ku k fE
theorem U0 (hC:pQ X.prog X.w X.K X.mg x fE)(hg:Gl X x)(hb:PD X i fb)(lZ:GH i)(tQ:zg x:=by decide):PD X (.Subscript (.Name x p) i pos) (fun ρ=>(fb ρ).bind (Nc fE)):=by
 obtain⟨ad,vs,h1,h2,h3,h4⟩:=hC.ex
 intro pins s σ H Q I ⟨ρ,d,hs,e1,k⟩
 obtain⟨y,e2,e3⟩:=bind_some e1
 obtain⟨ky,e4,e5⟩:=bind_some e3
 have:=js e4
 subst this
 refine IM PySem.F.slot_dict_getitem.lookup lZ (tj I hg h1 (jl (@hb pins s σ H (fun v H1=>fV H H1/\fM X.K H1 (kr ky) v) I ⟨ρ,_,hs,e2,fun v H1 sH i=>⟨sH,i⟩⟩) fun iv t ⟨v,H1,I1,r1,sH,iv1⟩=>?_) tQ)
 rw [jO iv1] at r1
 have Lm:=h3 t.heap I1.xo
 refine⟨Lm.typeIs,?_⟩
 rcases h4 ky with ⟨g1,_⟩ | ⟨d',v',u',g1,g2,g3,g4⟩
 ·rw [g1] at e5;cases e5
 ·rw [g1] at e5;cases e5
  exact wpAny_getItem_of (qx r1) Lm.mapOf g2 ⟨v',H1,I1.tok _,g3,(k.later sH).here (g4 H1)⟩
end
theorem aa5 {K:Fg}{n:Int}{t:Tok}(h:mg x=some (.int n t)):Kx K mg x (.int n):=⟨_,.int n,h,⟨t,rfl⟩,fun H=>fM.fZ.mpr rfl⟩
theorem X5 {K:Fg}{its:Array Value}{xs:List V}(h:K.lookup a=some (zy its n))(hz:its.size<=sizeLine)(hv:gE xs its.toList)(H:Hp):tm K H a xs:=.inr ⟨_,its,n,h,rfl,rfl,hz,hv⟩
theorem pF {K:Fg}{its:Array Value}{xs:Lr}(h:K.lookup a=some (zy its n))(hz:its.size<=sizeLine)(hv:gE (xs.map V.str) its.toList)(H:Hp):fM K H (.tuple (xs.map .str)) (.ref a) :=
 fM.nc.mpr ⟨a,_,rfl,X5 h hz hv H,oF xs⟩
def U1 (P:Params)(x:Str)(t:Tok)(v:Value):DictEntry:={ hash:=PyData.keyHash P x,key:=.str x t,val:=v }
theorem EN (w:World)(x:Str):PyData.keyHash w.params x=S9 w (.inr x):=by
 first
 | rfl
 | (unfold PyData.keyHash S9 hashStr;rfl)
theorem BF {P:Program}{w:World}:∀ (l:List (Str×Tok×Value×PyData)),Pairs (gS P w) (l.map fun q=>U1 w.params q.1 q.2.1 q.2.2.1) (l.map fun q=>((.inr q.1:Key),q.2.2.1))
 | []=>.nil
 | q::l=>.cons (rS P w q.1 q.2.1) rfl (BF l)
theorem EO {K:Fg}(k:Key):∀ (l:List (Str×Tok×Value×PyData)),(∀ q∈l,∃ v,gH v q.2.2.1/\∀ H:Hp,fM K H q.2.2.2 v) ->
  (ku (kr k) (l.map fun q=>(.str q.1,q.2.2.2))=none/\valueAt (l.map fun q=>((.inr q.1:Key),q.2.2.1)) k=none)∨∃ d v u,ku (kr k) (l.map fun q=>(.str q.1,q.2.2.2))=some d/\valueAt (l.map fun q=>((.inr q.1:Key),q.2.2.1)) k=some u/\gH v u/\∀ H:Hp,fM K H d v
 | [],_=>.inl ⟨rfl,rfl⟩
 | q::l,hv=>by
  by_cases e:(.inr q.1:Key)=k
  ·right
   obtain⟨v,r1,r2⟩:=hv q (by simp)
   have e1:mY (.str q.1) (kr k)=true:=by rw [show PyData.str q.1=kr (.inr q.1) from rfl,j5];exact bf e
   exact⟨q.2.2.2,v,q.2.2.1,by simp [ku,e1],by simp [valueAt,bM,e],r1,r2⟩
  ·have e1:¬ mY (.str q.1) (kr k)=true:=by rw [show PyData.str q.1=kr (.inr q.1) from rfl,j5];simp [e]
   rcases EO k l (fun z hz=>hv z (af _ hz)) with ⟨a1,a2⟩ | ⟨d,v,u,a1,a2,a3⟩
   ·exact .inl ⟨by rw [aa];unfold ku;rw [ao e1];exact a1,by simp only [valueAt,aa,bM,aH e];exact a2⟩
   ·exact .inr ⟨d,v,u,by rw [aa];unfold ku;rw [ao e1];exact a1,by simp only [valueAt,aa,bM,aH e];exact a2,a3⟩
theorem Jh {P:Program}{K:Fg}{l:List (Str×Tok×Value×PyData)} (hm:mg x=some (.ref a)) (hS:(a==sysModules)=false)
  (hk:K.lookup a=some { cls:=.type "dict",data:=.dict (l.map fun q=>U1 w.params q.1 q.2.1 q.2.2.1).toArray n }) (nd:(l.map (·.1)).Nodup) (hv:∀ q∈l,∃ v,gH v q.2.2.1/\∀ H:Hp,fM K H q.2.2.2 v) :
  pQ P w K mg x (l.map fun q=>(.str q.1,q.2.2.2)):=by
 refine⟨a,l.map fun q=>(.inr q.1,q.2.2.1),hm,hS,fun h KI=>?_,fun k=>EO k l hv⟩
 refine⟨_,_,n,KI a _ hk,⟨rfl,rfl,rfl⟩,rfl,fun e he=>?_,by simpa using BF l,?_⟩
 ·have Sv:e∈l.map fun q=>U1 w.params q.1 q.2.1 q.2.2.1:=by simpa using he
  obtain⟨q,_,rfl⟩:=ag.mp Sv
  exact⟨.inr q.1,rS P w q.1 q.2.1,EN w q.1⟩
 ·rw [cH]
  have:((fun x:Key×Value=>x.1)∘fun q:Str×Tok×Value×PyData=>((.inr q.1:Key),q.2.2.1))=(fun z:Str=>(.inr z:Key))∘(·.1):=rfl
  rw [this,← cH]
  exact List.Pairwise.map _ (fun a b h z=>h (by injection z)) nd
section
variable {m:Md}{a b c i:Expr}{fa fb fc:fu->Od}{p2 p apos gJ:Pos}{rest:List Stmt}{g h:fu->Option gI}
theorem PS.frame {t:TS}(h:PS X st t):PS X st (fun D σ H=>∃ G B,H=fO G B/\kl G B/\t { nx:=fun σ' G'=>kl G' B->D.nx σ' (fO G' B),rt:=fun v G'=>kl G' B->D.rt v (fO G' B),bk:=fun σ' G'=>kl G' B->D.bk σ' (fO G' B),ct:=fun σ' G'=>kl G' B->D.ct σ' (fO G' B) } σ G):=by
 intro pins s σ H D I ⟨G,B,eH,f,ht⟩
 subst eH
 obtain⟨PB,I1,_,_,back⟩:=I0 f.ok I f
 refine jl (@h _ s σ G _ I1 ht) fun fl s' q=>?_
 cases fl with
 | next=>obtain⟨σ',G',J,q⟩:=q;obtain⟨f',J'⟩:=back G' s' σ' J;exact⟨σ',_,J',q f'⟩
 | brk=>obtain⟨σ',G',J,q⟩:=q;obtain⟨f',J'⟩:=back G' s' σ' J;exact⟨σ',_,J',q f'⟩
 | cont=>obtain⟨σ',G',J,q⟩:=q;obtain⟨f',J'⟩:=back G' s' σ' J;exact⟨σ',_,J',q f'⟩
 | ret u=>obtain⟨v,σ',G',J,r,q⟩:=q;obtain⟨f',J'⟩:=back G' s' σ' J;exact⟨v,σ',_,J',r,q f'⟩
theorem sk (i:Nat) {y:Str}{py se:Pos}{elt iter:Expr}{px:Pos}{ifs:Lx} (caps:List (Nat×Str)) {g:fu->Option Bool} (hN:X.N.Nodup)
  (hi:Ls X (.Name x px) iter q)
  (ht:∀ C s H fp,xq (lY X scope C (x::caps.map (·.2)) s H fp) ifs g)
  (he:∀ C s H fp,PD (lY X scope C (x::caps.map (·.2)) s H fp) elt f) (hO:i∉O:=by decide)
  (hc:X.calm=true:=by rfl) (S:kE scope x:=by exact⟨rfl,by decide +kernel,by decide +kernel,rfl,aO⟩) (Hj:wb X scope=true:=by rfl) (oS:lM X scope caps:=by repeat' (first|exact aO|refine⟨⟨rfl,.inl rfl,rfl⟩,?_⟩|refine⟨⟨rfl,.inr rfl,rfl⟩,?_⟩)) (yp:(x::caps.map (·.2)).Nodup:=by decide +kernel)
  (X6:X.N[i]?=some y:=by rfl) (hy:X.env.scope.names.lookup y=some .local:=by rfl) (Ux:swapsWith (.ListComp elt [⟨.Name x px,iter,ifs,0⟩] scope pos) (some (.Name y py)) se.line X.env=pure true:=by rfl)
  (hs:∀ x,foldedSetIterable iter X.env x=pure x:=by intro _;rfl):uN X m O (.Assign [.Name y py] (.ListComp elt [⟨.Name x px,iter,ifs,0⟩] scope pos) se) (fL (gd O (iL q caps g f)) i):=by
 intro pins s σ H D I hQ
 refine PS.imp (PS.frame (CA (IZ hc S (kR I Hj) oS yp hi ht he) S (kR I Hj) hN X6 hy Ux hs)) (fun D σ H ⟨ρ,o,G,hs,e,k⟩=>?_) s σ H D I hQ
 obtain⟨d,e1,rfl⟩:=aj.mp e
 obtain⟨B,eH,fm,own⟩:=hs.o.ex
 refine⟨G,B,eH,fm,jb O ρ,d,hs.o.rest,e1,fun v G' sG i' CB=>?_⟩
 exact k _ _ G' sG (lN.set ⟨iz.vU hs.o.len own hs.o.lJ sG CB,hs.z⟩ hO i')
theorem BG {elt iter:Expr}{x2:Str}{px Sy pt:Pos}{kt:Nat}{ifs:Lx} (caps:List (Nat×Str)) {g:fu->Option Bool} 
  (hi:Ls X (.Tuple [.Name x px,.Name x2 Sy] kt pt) iter q)
  (ht:∀ C s H fp,xq (lY X scope C (x::x2::caps.map (·.2)) s H fp) ifs g)
  (he:∀ C s H fp,PD (lY X scope C (x::x2::caps.map (·.2)) s H fp) elt f)
  (hc:X.calm=true:=by rfl) (S:kE scope x:=by exact⟨rfl,by decide +kernel,by decide +kernel,rfl,aO⟩) (S2:scope.names.lookup x2=some .local:=by rfl) (Hj:wb X scope=true:=by rfl) (oS:lM X scope caps:=by repeat' (first|exact aO|refine⟨⟨rfl,.inl rfl,rfl⟩,?_⟩|refine⟨⟨rfl,.inr rfl,rfl⟩,?_⟩)) (yp:(x::x2::caps.map (·.2)).Nodup:=by decide +kernel)
  (hs:∀ x,foldedSetIterable iter X.env x=pure x:=by intro _;rfl):PD X (.ListComp elt [⟨.Tuple [.Name x px,.Name x2 Sy] kt pt,iter,ifs,0⟩] scope pos) (CY q caps g f):=by
 intro pins s σ H Q I hQ
 exact Ki.pe2 (M6 hc S S2 (kR I Hj) oS yp hi ht he) S (kR I Hj) hs s σ H Q I hQ
section
variable {K:Fg}{O':List Nat}{j:Nat}
theorem jz.snoc {dp:Bool}(hn:(ρ[j]?).join=none):∀ {O':List Nat}{B:List (Addr×HO)},jz dp K σ ρ G O' B↔jz dp K σ ρ G (O'++[j]) B
 | [],B=>⟨fun h=>.inl ⟨hn,h⟩,fun h=>by
   rcases h with ⟨_,h⟩ | ⟨d,v,B1,B2,a,_⟩
   ·exact h
   ·rw [a] at hn;cases hn⟩
 | i::O',B=>by
  constructor
  ·rintro(⟨a,b⟩ | ⟨d,v,B1,B2,a,b,c,q,t⟩)
   ·exact .inl ⟨a,(jz.snoc hn).mp b⟩
   ·exact .inr ⟨d,v,B1,B2,a,b,c,q,(jz.snoc hn).mp t⟩
  ·rintro(⟨a,b⟩ | ⟨d,v,B1,B2,a,b,c,q,t⟩)
   ·exact .inl ⟨a,(jz.snoc hn).mpr b⟩
   ·exact .inr ⟨d,v,B1,B2,a,b,c,q,(jz.snoc hn).mpr t⟩
theorem iz.freeze (nd:(O'++[j]).Nodup)(qC:kM (O'++[j])=kM O')(h:iz (O'++[j]) K σ ρ H G):∃ G',fV G G'/\iz O' K σ ρ H G':=by
 have hj:j∉O':=by
  rw [a0] at nd
  exact fun z=>nd.2.2 j z j (by simp) rfl
 cases hd:(ρ[j]?).join with
 | none =>
  obtain⟨B,eH,f,own⟩:=h.ex
  rw [qC] at own
  refine⟨G,.refl G,h.len,⟨B,eH,f,(jz.snoc hd).mpr own⟩,fun i d q hi=>?_⟩
  by_cases SD:i=j
  ·subst SD;rw [q] at hd;cases hd
  ·exact h.lJ i d q (by simp [hi,SD])
 | some d =>
  have hdj:=join_some hd
  obtain⟨v,Bl,B1,Br,e1,e2,f,ot,k1,k2,_,cl⟩:=h.own nd (by simp) hdj
  have perm:(Bl++(B1++Br)).Perm ((Bl++Br)++B1):=by
   rw [aN]
   exact cL _ aU
  have f2:kl G ((Bl++Br)++B1):=f.perm perm ((k1.append k2).append ot.oO)
  have fB:=f2.Ew ot.oO
  have hc:=cl (fO G B1) fB.same (f2.Eu (k1.append k2))
  have eH:H=fO (fO G B1) (Bl++Br):=by rw [e2,ja f.nd perm,iI]
  rw [← eH] at hc
  have hl:j<ρ.length:=(aJ.mp hdj).1
  obtain⟨B,eB,fmB,own⟩:=hc.ex
  rw [qC] at own
  have hnj:((ρ.set j none)[j]?).join=none:=by rw [aM hl];rfl
  refine⟨fO G B1,fB.same,h.len,⟨B,eB,fmB,((jz.snoc hnj).mpr own).other fun i hi=>?_⟩,fun i d' q hi=>?_⟩
  ·have:j≠i:=fun z=>hj (z▸hi)
   exact⟨(av this).symm,rfl⟩
  ·by_cases SD:i=j
   ·subst SD
    rw [hdj] at q;cases q
    exact⟨v,e1,ot.Lu fB.same fun x hx=>gL fB.nd x hx⟩
   ·exact hc.lJ i d' (by rw [av (Ne.symm SD)];exact q) (by simp [hi,SD])
theorem iz.Nd (hj:j∉O')(qC:kM (O'++[j])=kM O')(h:iz O' K σ ρ H G):iz (O'++[j]) K σ (ρ.set j none) H G:=by
 obtain⟨B,eH,f,own⟩:=h.ex
 rw [← qC] at own
 have hnj:((ρ.set j none)[j]?).join=none:=by
  by_cases hl:j<ρ.length
  ·rw [aM hl];rfl
  ·rw [cK (by simpa using hl)];rfl
 refine⟨by simpa using h.len,⟨B,eH,f,(jz.snoc hnj).mp (own.other fun i hi=>?_)⟩,fun i d q hi=>?_⟩
 ·have:j≠i:=fun z=>hj (z▸hi)
  exact⟨av this,rfl⟩
 ·have hi1:i∉O':=fun z=>hi (by simp [z])
  have hi2:j≠i:=fun z=>hi (by simp [z])
  rw [av hi2] at q
  exact h.lJ i d q hi1
end
def Hl (j:Nat):gI->gI
 | .nx ρ=>.nx (ρ.set j none)
 | .bk ρ=>.bk (ρ.set j none)
 | .ct ρ=>.ct (ρ.set j none)
 | .rt d=>.rt d
def Qs (j:Nat)(g:fu->Option gI):fu->Option gI:=fun ρ=>(g ρ).map (Hl j)
theorem wY {O':List Nat}(j:Nat){sts:List Stmt}(nd:(O'++[j]).Nodup)(h0:j≠0)(h:tU X m O' sts g)(qC:kM (O'++[j])=kM O':=by rfl):tU X m (O'++[j]) sts (Qs j g) :=
 Al.imp h fun D σ H ⟨ρ,o,G,hs,e,k⟩=>by
  have hj:j∉O':=by
   rw [a0] at nd
   exact fun z=>nd.2.2 j z j (by simp) rfl
  obtain⟨o1,e1,rfl⟩:=aj.mp e
  obtain⟨G',sG,lZ⟩:=hs.o.freeze nd qC
  have z':∀ (σ':St),(∀ dp v0,m=.io dp v0->0∈O'++[j]/\σ'[0]?=some (some v0)/\kM (O'++[j])=dp)->∀ dp v0,m=.io dp v0->0∈O'/\σ'[0]?=some (some v0)/\kM O'=dp:=fun σ' hz dp v0 q=>by
   obtain⟨a1,a2,a3⟩:=hz dp v0 q
   refine⟨?_,a2,qC▸a3⟩
   rcases au.mp a1 with z|z
   ·exact z
   ·exact absurd (by simpa using z:0=j).symm h0
  have up:∀ (σ':St) (ρ':fu) (H' G2:Hp),lN m O' X.K σ' ρ' H' G2->lN m (O'++[j]) X.K σ' (ρ'.set j none) H' G2:=fun σ' ρ' H' G2 q=>⟨q.o.Nd hj qC,fun dp v0 z=>⟨by simp [(q.z dp v0 z).1],(q.z dp v0 z).2.1,qC▸(q.z dp v0 z).2.2⟩⟩
  refine⟨ρ,o1,G',⟨lZ,z' σ hs.z⟩,e1,?_⟩
  cases o1 with
  | nx ρ'=>exact fun σ' H' G2 s2 q=>k σ' H' G2 (sG.trans s2) (up _ _ _ _ q)
  | bk ρ'=>exact fun σ' H' G2 s2 q=>k σ' H' G2 (sG.trans s2) (up _ _ _ _ q)
  | ct ρ'=>exact fun σ' H' G2 s2 q=>k σ' H' G2 (sG.trans s2) (up _ _ _ _ q)
  | rt d=>exact Sm.later sG k
end
section
variable {m:Md}{a b c i:Expr}{fa fb fc:fu->Od}{p2 p apos gJ:Pos}  
theorem oG {n:Int}{j:Nat}{q:Pos}:PD X (.UnaryOp .USub (.Constant (.int n) j q) pos) (zI (-n)) :=
 PE.imp (WN TK fq) fun σ H Q ⟨ρ,d,hs,e,k⟩=>by
  cases e
  exact⟨ρ,_,hs,rfl,fun v H1 s1 i1=>⟨_,fM.fZ.mp i1,k _ H1 s1 (fM.fZ.mpr rfl)⟩⟩
theorem Qt (hC:pQ X.prog X.w X.K X.mg x fE)(hg:Gl X x)(ha:PD X a fa)(hm:behindInMarks .In (.Name x p)=false:=by with_unfolding_all rfl)(tQ:zg x:=by decide):Gb X (.Compare a [.In] [.Name x p] pos) (fB (fun ρ=>(fa ρ).bind (Nb fE))):=by
 obtain⟨ad,vs,h1,h2,h3,h4⟩:=hC.ex
 have op:mU X (compareOp .In) (fun y z H Q=>∃ k:Key,y=kV k/\z=.ref ad/\Q (.bl (valueAt vs k).isSome) H):=by
  intro pins s σ H y z v u Q I ry rz ⟨k,e1,e2,q⟩
  subst e1 e2
  cases rz
  exact wpAny_in_of (qx ry) h2 (h3 s.heap I.xo).mapOf ⟨.bl _,H,I.tok _,rfl,q⟩
 refine PT.imp (IC op ha (Iy (v:=.ref ad) hg h1 rfl tQ) hm) fun σ H Q ⟨ρ,d,hs,e1,k⟩=>?_
 obtain⟨y,e2,e3⟩:=bind_some (IS e1)
 obtain⟨ky,e4,e5⟩:=aj.mp e3
 have:=js e4
 subst this
 refine⟨ρ,_,hs,e2,fun v H1 sH i=>⟨ky,jO i,rfl,?_⟩⟩
 have k':=k H1 sH
 cases e5
 rcases h4 ky with ⟨g1,g2⟩ | ⟨d',v',u',g1,g2,g3,g4⟩
 ·rw [g1] at k';rw [g2];exact⟨_,rfl,k'⟩
 ·rw [g1] at k';rw [g2];exact⟨_,rfl,k'⟩
theorem X7 (he:PF X e f):PV X O e (MM f) :=
 PE.imp he fun σ H Q ⟨ρ,d,G,hs,e1,k⟩=>by
  obtain⟨x,e2,e3⟩:=bind_some e1
  by_cases hx:As x=true
  ·rw [ai hx] at e3;cases e3
   refine⟨ρ,d,hs.full,e2,fun v G' B' sG fB ot=>?_⟩
   have sJ:fV H (fO G' B'):=sG.trans fB.same
   obtain⟨G2,xt,g0,lZ⟩:=hs.grow sJ
   refine k v _ G2 sJ xt lZ ?_
   cases d<;>try (simp [As] at hx;done)
   rename_i ds
   obtain⟨q,o,rfl,rfl,oc⟩:=ot.cont rfl
   rcases oc with ⟨Wc,vs,e4,rfl,i⟩ | ⟨_,_,e4,_⟩
   ·cases e4
    have hq:H q=none:=by
     cases hh:H q with
     | none=>rfl
     | some z=>have:=sG _ _ hh;rw [fB.free (q,.lst vs) (by simp)] at this;cases this
    exact fM.gv.mpr ⟨q,vs,rfl,.inl (.inl (by rw [g0 q hq];exact gL fB.nd (q,.lst vs) (by simp))),i.km hx⟩
   ·cases e4
  ·rw [ao hx] at e3;cases e3
end
section
open PySem.AutoSeq1 Builtin
end
section
variable {m:Md}{a b c i:Expr}{fa fb fc:fu->Od}{p2 p apos gJ:Pos}  
def Hm:Lp->Od
 | [.int i]=>some (.int i)
 | [.bool b]=>some (.int (if b then 1 else 0))
 | _=>none
theorem U2:yn X (.type "int") Hm:=by
 refine jV.imp JV fun xs H Q ⟨ds,c,i,e,k⟩=>?_
 match ds,e with
 | [.int j],e =>
  cases e
  obtain⟨v,rfl,h1⟩:=je i
  exact .inl ⟨j,by rw [fM.fZ.mp h1],k.here (fM.fZ.mpr rfl)⟩
 | [.bool b],e =>
  cases e
  obtain⟨v,rfl,h1⟩:=je i
  exact .inr ⟨b,by rw [fM.f9.mp h1],k.here (fM.fZ.mpr rfl)⟩
def ER (x y:PyData):Od:=match x,y with
 | .list xs,.list ys=>if xs.length+ys.length<=sizeLine then some (.list (xs++ys)) else none
 | _,_=>none
theorem U3 (ha:PD X a fa)(hb:PD X b fb):PF X (.BinOp a .Add b pos) (d2 ER fa fb) :=
 PE.imp (LS IQ ha hb) fun σ H Q ⟨ρ,d,hs,e,k⟩=>by
  obtain⟨u,e1,e2⟩:=bind_some e
  obtain⟨v,e3,e4⟩:=bind_some e2
  obtain⟨xs,rfl⟩:∃ xs,u=.list xs:=by cases u<;>first|exact⟨_,rfl⟩|(cases v<;>cases e4)
  obtain⟨ys,rfl⟩:∃ ys,v=.list ys:=by cases v<;>first|exact⟨_,rfl⟩|cases e4
  dsimp only [ER] at e4
  by_cases hz:xs.length+ys.length<=sizeLine
  ·rw [ai hz] at e4;cases e4
   refine⟨ρ,_,hs,e1,fun v H1 s1 i1=>⟨ρ,_,hs.same s1,e3,fun w H2 s2 i2=>?_⟩⟩
   obtain⟨p,vs,rfl,q2,q3⟩:=fM.gv.mp (i1.same s2)
   obtain⟨q,ws,rfl,f2,f3⟩:=fM.gv.mp i2
   exact⟨p,q,vs,ws,rfl,rfl,q2,f2,by rw [← q3.length,← f3.length];exact hz,(k.later (s1.trans s2)).yl (q3.append f3)⟩
  ·rw [ao hz] at e4;cases e4
def Hn (π:Pl):fu->Option gI:=fun ρ=>(qB π ρ).bind fun l=>match l with
 | .list _=>some (.nx (tS π (.list []) ρ))
 | _=>none
theorem Ky {π:Pl} (f7:O.Nodup) (ho:PP X o π) (hO:π.ix∈O:=by decide) (qC:ud O π=false:=by rfl)
  (mf:attributeBase o "clear" X.env (eval o X.env)=eval o X.env:=by rfl) (mh:(apos.endLine==gJ.line)=true:=by rfl)
  (hs:swapsWith (.Call (.Attribute o "clear" apos) [] [] gJ) none pos.line X.env=pure false:=by rfl) :
  uN X m O (.Expr (.Call (.Attribute o "clear" apos) [] [] gJ) pos) (Hn π) :=
 PS.imp (qN (GB bE PySem.F.slot_list_clear PySem.F.type_list_clear Eg ho mf mh) hs) fun D σ H ⟨ρ,o,G,hs,e,k⟩=>by
  obtain⟨l,e1,eb⟩:=bind_some e
  obtain⟨ds,rfl⟩:∃ ds,l=.list ds:=by cases l<;>first|exact⟨_,rfl⟩|cases eb
  cases eb
  obtain⟨q,ob,r,hq,oc,cl⟩:=hs.o.place f7 hO e1 rfl qC
  obtain⟨vs,rfl,i4⟩:=oc.lst
  exact⟨q,r,.inl ⟨rfl,vs,qd.of hq⟩,q,vs,rfl,rfl,hq,k _ _ G (.refl G) ⟨cl _ _ (.inl ⟨_,_,rfl,rfl,fz.nil⟩),hs.z⟩⟩
end
section
variable {m:Md}{a b c:Expr}{fa fb fc:fu->Od}{p2 p apos gJ:Pos} 
def aa6 (f:fu->Od):fu->Option Lp:=fun ρ=>(f ρ).bind fun d=>match d with | .list ds=>some ds.reverse|_=>none
end
end L2
namespace L2
open PySem PySem.Spec PyProof.Rows PySem.Builtin PySem.Builtin.Str
section
variable {m:Md}{a:Expr}{p2:Pos}{sts:List Stmt}
def aa7 (f:fu->Od):fu->Od:=fun ρ=>(f ρ).bind fun d=>match d with | .list xs=>some (.list xs.reverse)|_=>none
end
end L2
namespace L2
open PySem PySem.Spec PyProof.Rows
def Nf (k v:PyData):List (PyData×PyData)->List (PyData×PyData)
 | []=>[]
 | (y,d)::r=>if mY y k=true then (y,v)::r else (y,d)::Nf k v r
section
variable {K:Fg}   
theorem Ar.split {us:Lp}:∀ {ds:Lp}{vs:List V}{B:List (Addr×HO)}{j:Nat},Ar K G ds vs B->ds[j]?=some (.list us) ->
  ∃ p ws B1 B2,vs[j]?=some (.ref p)/\B=B1++(p,.lst ws)::B2/\fz K G us ws/\∀ xV rR,fz K G xV rR->Ar K G (ds.set j (.list xV)) vs (B1++(p,.lst rR)::B2)
 | [],_,_,_,_,e=>by simp at e
 | d::ds,_,_,0,⟨v,Bp,B1,B2,a,b,c,t⟩,e=>by
  rw [a8] at e;cases e
  subst a b
  rcases c with ⟨c,_⟩ | ⟨xV,p,ws,e1,rfl,rfl,i⟩
  ·cases c
  ·cases e1
   exact⟨p,ws,[],B2,rfl,rfl,i,fun xV rR i'=>⟨_,_,[(p,.lst rR)],B2,rfl,rfl,.inr ⟨xV,p,rR,rfl,rfl,rfl,i'⟩,t⟩⟩
 | d::ds,_,_,j+1,⟨v,Bp,B1,B2,a,b,c,t⟩,e=>by
  rw [bw] at e
  subst a b
  obtain⟨p,ws,C1,C2,e1,rfl,i,cl⟩:=Ar.split t e
  exact⟨p,ws,B1++C1,C2,e1,by simp,i,fun xV rR i'=>⟨_,_,B1,C1++(p,.lst rR)::C2,rfl,by simp,c,cl xV rR i'⟩⟩
theorem Ar.length:∀ {ds:Lp}{vs:List V}{B:List (Addr×HO)},Ar K G ds vs B->ds.length=vs.length
 | [],_,_,h=>by rw [h.1];rfl
 | _::_,_,_,⟨v,Bp,B1,B2,a,b,c,t⟩=>by rw [a,ar,ar,t.length]
theorem I8.split {us:Lp}{y:Key}:∀ {fE:List (PyData×PyData)}{kv:List (Key×V)}{B:List (Addr×HO)},I8 K G fE kv B->ku (kr y) fE=some (.list us) ->
  ∃ p ws B1 B2,qP kv y=some (.ref p)/\B=B1++(p,.lst ws)::B2/\fz K G us ws/\∀ xV rR,fz K G xV rR->I8 K G (Nf (kr y) (.list xV) fE) kv (B1++(p,.lst rR)::B2)
 | [],_,_,_,e=>by cases e
 | (k,d)::r,_,_,⟨z,v,r',B1,B2,a,a2,b,c,t⟩,e=>by
  subst a a2 b
  rw [ku] at e
  by_cases q:z=y
  ·subst q
   have hk:mY (kr z) (kr z)=true:=by rw [j5];simp
   rw [ai hk] at e;cases e
   rcases c with ⟨c,_⟩ | ⟨xV,p,ws,e1,rfl,rfl,i⟩
   ·cases c
   ·cases e1
    refine⟨p,ws,[],B2,by simp [qP],rfl,i,fun xV rR i'=>?_⟩
    rw [Nf,ai hk]
    exact⟨z,_,r',[(p,.lst rR)],B2,rfl,rfl,rfl,.inr ⟨xV,p,rR,rfl,rfl,rfl,i'⟩,t⟩
  ·have hk:¬ mY (kr z) (kr y)=true:=by rw [j5];simpa using q
   rw [ao hk] at e
   obtain⟨p,ws,C1,C2,e1,rfl,i,cl⟩:=I8.split t e
   refine⟨p,ws,B1++C1,C2,?_,by simp,i,fun xV rR i'=>?_⟩
   ·unfold qP at e1 ⊢
    rw [bM,aH q]
    exact e1
   ·rw [Nf,ao hk]
    exact⟨z,v,r',B1,C1++(p,.lst rR)::C2,rfl,rfl,by simp,c,cl xV rR i'⟩
end
def X8:Od->Option Lp
 | some (.list us)=>some us
 | _=>none
theorem ES {o:Od}{us:Lp}(h:X8 o=some us):o=some (.list us):=by
 cases o with
 | none=>cases h
 | some d=>cases d<;>first|(cases h;rfl)|cases h
def Ho (l kd:PyData):Option Lp:=match l with
 | .list ds=>match kd with | .int i=>X8 (ux ds i)|_=>none
 | .dict fE=>if hW fE=true then none else (sg kd).bind fun _=>X8 (ku kd fE)
 | _=>none
def BH (l kd:PyData)(us:Lp):PyData:=match l,kd with
 | .list ds,.int i=>match Ci ds.length i with|some j=>.list (ds.set j (.list us))|none=>l
 | .dict fE,kd=>.dict (Nf kd (.list us) fE)
 | l,_=>l
section
variable {m:Md}{a b c:Expr}{fa fb fc fk:fu->Od}{p2 p apos gJ:Pos}
def X9 (K:Fg)(σ:St)(H:Hp)(kd:PyData)(q p:Addr):Prop:=(∃ xs i,H q=some (.lst xs)/\kd=.int i/\ux xs i=some (.ref p))∨∃ kv y,H q=some (.dK kv)/\kd=kr y/\qP kv y=some (.ref p)
theorem X9.eq {K:Fg}{H':Hp}{kd:PyData}{q p p':Addr}(a1:X9 K σ H kd q p)(a2:X9 K σ H' kd q p')(e:fV H H'):p=p':=by
 rcases a1 with ⟨xs,i,b1,b2,b3⟩ | ⟨kv,y,b1,b2,b3⟩
 ·rcases a2 with ⟨xs',i',c1,c2,c3⟩ | ⟨kv',y',c1,c2,c3⟩
  ·rw [e _ _ b1] at c1;cases c1
   rw [b2] at c2;cases c2
   rw [b3] at c3;cases c3;rfl
  ·rw [e _ _ b1] at c1;cases c1
 ·rcases a2 with ⟨xs',i',c1,c2,c3⟩ | ⟨kv',y',c1,c2,c3⟩
  ·rw [e _ _ b1] at c1;cases c1
  ·rw [e _ _ b1] at c1;cases c1
   have:=Mn (b2.symm.trans c2)
   subst this
   rw [b3] at c3;cases c3;rfl
theorem iz.inner {K:Fg}(f7:O.Nodup)(h:iz O K σ ρ H G){π:Pl}{l kd:PyData}{us:Lp}(hi:π.ix∈O)(qC:ud O π=true)(hd:qB π ρ=some l)(hu:Ho l kd=some us) :
  ∃ q p ws,xr K σ H π q/\H p=some (.lst ws)/\fz K G us ws/\X9 K σ H kd q p /\
   ∀ xV rR,fz K G xV rR->iz O K σ (tS π (BH l kd xV) ρ) (upd H p (.lst rR)) G:=by
 cases l<;>try (simp [Ho] at hu;done)
 ·rename_i ds
  cases kd<;>try (simp [Ho] at hu;done)
  rename_i i
  have ha:=ES (show X8 (ux ds i)=some us from hu)
  obtain⟨q,ob,Bi,Bl,Br,r,eH,fm,k1,k2,og,cl⟩:=h.GS f7 hi hd rfl
  rw [qC] at og cl
  rcases og with ⟨Wc,vs,e1,rfl,ZS⟩ | ⟨_,_,e1,_⟩
  ·cases e1
   have hl:=ZS.length
   unfold ux at ha
   cases hj:Ci ds.length i with
   | none=>rw [hj] at ha;cases ha
   | some j =>
    rw [hj] at ha
    obtain⟨p,ws,B1,B2,e2,rfl,iw,XA⟩:=ZS.split (show ds[j]?=_ from ha)
    have e3:∀ rR:List V,Bl++((q,HO.lst vs)::((B1++(p,HO.lst rR)::B2)++Br))=(Bl++(q,HO.lst vs)::B1)++(p,HO.lst rR)::(B2++Br):=fun rR=>by simp
    have MZ:ux vs i=some (.ref p):=by unfold ux;rw [← hl,hj];exact e2
    have hq:H q=some (.lst vs):=by rw [eH];exact gL fm.nd (q,.lst vs) (by simp)
    rw [e3] at eH fm
    refine⟨q,p,ws,r,by rw [eH];exact gL fm.nd (p,.lst ws) (by simp),iw,.inl ⟨vs,i,hq,rfl,MZ⟩,fun xV rR i'=>?_⟩
    have d':=XA xV rR i'
    have ep:BH (.list ds) (.int i) xV=.list (ds.set j (.list xV)):=by simp only [BH,hj]
    have ok:rQ (Bl++((q,HO.lst vs)::((B1++(p,HO.lst rR)::B2)++Br))):=k1.append (.one aO (d'.oO.append k2))
    have CB:kl G ((Bl++(q,HO.lst vs)::B1)++(p,HO.lst rR)::(B2++Br)):=fm.put (by rw [← e3];exact ok)
    rw [eH,qA fm.nd,ep,← e3]
    exact cl G _ _ _ (.refl G) (.inl ⟨_,vs,rfl,rfl,d'⟩) (by rw [e3];exact CB)
  ·cases e1
 ·rename_i fE
  unfold Ho at hu
  dsimp only at hu
  by_cases hn:hW fE=true
  ·rw [ai hn] at hu;cases hu
  rw [ao hn] at hu
  obtain⟨y,e0,ha⟩:=bind_some hu
  have ha:=ES ha
  have:=js e0
  subst this
  obtain⟨q,ob,Bi,Bl,Br,r,eH,fm,k1,k2,og,cl⟩:=h.GS f7 hi hd (by show (!hW fE)=true;simpa using hn)
  rw [qC] at og cl
  rcases og with ⟨_,_,e1,_⟩ | ⟨abX,kv,e1,rfl,ZS⟩
  ·cases e1
  ·cases e1
   obtain⟨p,ws,B1,B2,e2,rfl,iw,XA⟩:=ZS.split ha
   have e3:∀ rR:List V,Bl++((q,HO.dK kv)::((B1++(p,HO.lst rR)::B2)++Br))=(Bl++(q,HO.dK kv)::B1)++(p,HO.lst rR)::(B2++Br):=fun rR=>by simp
   have hq:H q=some (.dK kv):=by rw [eH];exact gL fm.nd (q,.dK kv) (by simp)
   rw [e3] at eH fm
   refine⟨q,p,ws,r,by rw [eH];exact gL fm.nd (p,.lst ws) (by simp),iw,.inr ⟨kv,y,hq,rfl,e2⟩,fun xV rR i'=>?_⟩
   have d':=XA xV rR i'
   have ok:rQ (Bl++((q,HO.dK kv)::((B1++(p,HO.lst rR)::B2)++Br))):=k1.append (.one aO (d'.oO.append k2))
   have CB:kl G ((Bl++(q,HO.dK kv)::B1)++(p,HO.lst rR)::(B2++Br)):=fm.put (by rw [← e3];exact ok)
   rw [eH,qA fm.nd,← e3]
   exact cl G _ _ _ (.refl G) (.inr ⟨_,kv,rfl,rfl,d'⟩) (by rw [e3];exact CB)
def Hq (π:Pl)(fk f:fu->Od):fu->Option gI:=fun ρ=>(qB π ρ).bind fun l=>(fk ρ).bind fun kd=>(Ho l kd).bind fun us=>(f ρ).bind fun d=>if us.length<sizeLine then some (.nx (tS π (BH l kd (us++[d])) ρ)) else none
theorem Kz (hu:X.A.units+64<cLine) {π:Pl}{k:Expr}{se:Pos} (f7:O.Nodup) (ho:PP X o π) (hk:PV X O k fk) (he:PV X O e f) (ZT:uU k) (aa8:GH k) (hO:π.ix∈O:=by decide) (qC:ud O π=true:=by rfl)
  (Af:starEach [e] X.env=(false,eval e X.env)::starEach [] X.env:=by rfl)
  (mf:attributeBase (.Subscript o k se) "append" X.env (eval (.Subscript o k se) X.env)=eval (.Subscript o k se) X.env:=by rfl)
  (yf:((backTo gJ (starEach [e] X.env)).all (fun x=>!x.1)&&(backToKw gJ (keywordEach [] X.env)).all (fun x=>x.1.isSome)&&decide (([e]:Lx).length+([]:List Keyword).length+(if ([]:List Keyword).isEmpty then 0 else 1)<30))=true:=by rfl)
  (mh:(apos.endLine==gJ.line)=true:=by rfl) (oR:(backTo gJ (starEach [] X.env)).any (·.1)=false:=by rfl)
  (hs:swapsWith (.Call (.Attribute (.Subscript o k se) "append" apos) [e] [] gJ) none pos.line X.env=pure false:=by rfl) :
  uN X m O (.Expr (.Call (.Attribute (.Subscript o k se) "append" apos) [e] [] gJ) pos) (Hq π fk f) :=
 PS.imp (qN (Ee bE PySem.F.slot_list_append PySem.F.type_list_append A9 (PE.or (Se IJ ho hk ZT) (IP (by omega) ho hk aa8)) (nB he rY Af) mf yf mh Af oR) hs) fun D σ H ⟨ρ,o,G,hs,e,kk⟩=>by
  obtain⟨l,e1,ea⟩:=bind_some e
  obtain⟨kd,e2,eb⟩:=bind_some ea
  obtain⟨us,e3,ec⟩:=bind_some eb
  obtain⟨d,e4,ed⟩:=bind_some ec
  by_cases hz:us.length<sizeLine
  ·rw [ai hz] at ed;cases ed
   obtain⟨q,p,ws,r,hp,iw,al,_⟩:=hs.o.inner f7 hO qC e1 e3
   have tail:∀ (p1:Addr) (H1 G1:Hp),fV H H1->fV G G1->iz O X.K σ ρ H1 G1->X9 X.K σ H1 kd q p1->(∃ M3,H1 p1=some (.lst M3))/\∀ (u:V) (H2 G2:Hp),fV H1 H2->fV G1 G2->iz O X.K σ ρ H2 G2->fM X.K G2 d u ->
     ∃ Kv,H2 p1=some (.lst Kv)/\Kv.length<sizeLine/\D.nx σ (upd H2 p1 (.lst (Kv++[u]))):=fun p1 H1 G1 sH sG h1 a1=>by
    obtain⟨q1,p2,M3,r1,Uz,iw1,b1,_⟩:=h1.inner f7 hO qC e1 e3
    have:=xr.eq r r1 sH
    subst this
    have:=a1.eq b1 (.refl H1)
    subst this
    refine⟨⟨M3,Uz⟩,fun u H2 G2 s2 xt h2 i2=>?_⟩
    obtain⟨q2,p3,Kv,r2,Kd,iw2,b2,cl⟩:=h2.inner f7 hO qC e1 e3
    have:=xr.eq r1 r2 s2
    subst this
    have:=a1.eq b2 s2
    subst this
    exact⟨Kv,Kd,by rw [← iw2.length];exact hz,kk _ _ G2 (sG.trans xt) ⟨cl _ _ (iw2.append (fz.cons i2 fz.nil)),hs.z⟩⟩
   rcases al with ⟨xs,i,b1,b2,b3⟩ | ⟨kv,y,b1,b2,b3⟩
   ·subst b2
    refine .inl ⟨q,r,ρ,.int i,G,hs.o,e2,fun v H1 G1 sH sG h1 i1=>⟨q,xs,i,.ref p,rfl,fM.fZ.mp i1,qd.of (sH _ _ b1),b3,?_⟩⟩
    obtain⟨⟨M3,Uz⟩,tl⟩:=tail p H1 G1 sH sG h1 (.inl ⟨xs,i,sH _ _ b1,rfl,b3⟩)
    refine⟨.inl ⟨rfl,M3,qd.of Uz⟩,ρ,d,G1,h1,e4,fun u H2 G2 s2 xt h2 i2=>?_⟩
    obtain⟨Kv,c1,c2,c3⟩:=tl u H2 G2 s2 xt h2 i2
    exact⟨p,Kv,u,rfl,rfl,c1,c2,c3⟩
   ·subst b2
    refine .inr ⟨q,r,ρ,kr y,G,hs.o,e2,fun v H1 G1 sH sG h1 i1=>⟨q,.ref p,rfl,by rw [jO i1,← b3];exact r9.k (sH _ _ b1),?_⟩⟩
    obtain⟨⟨M3,Uz⟩,tl⟩:=tail p H1 G1 sH sG h1 (.inr ⟨kv,y,sH _ _ b1,rfl,b3⟩)
    refine⟨.inl ⟨rfl,M3,qd.of Uz⟩,ρ,d,G1,h1,e4,fun u H2 G2 s2 xt h2 i2=>?_⟩
    obtain⟨Kv,c1,c2,c3⟩:=tl u H2 G2 s2 xt h2 i2
    exact⟨p,Kv,u,rfl,rfl,c1,c2,c3⟩
  ·rw [ao hz] at ed;cases ed
theorem SE (nd:(B.map (·.1)).Nodup)(hB:∀ x∈B,H x.1=some x.2):∃ G,H=fO G B/\(∀ x∈B,G x.1=none)/\∀ a,(∀ x∈B,x.1≠a)->G a=H a:=by
 let G:Hp:=fun a=>if (∃ x∈B,x.1=a) then none else H a
 have g1:∀ a,(∀ x∈B,x.1≠a)->G a=H a:=fun a ha=>ao fun ⟨x,hx,z⟩=>ha x hx z
 have g2:∀ x∈B,G x.1=none:=fun x hx=>ai ⟨x,hx,rfl⟩
 exact⟨G,tw nd hB fun a ha=>(g1 a ha).symm,g2,g1⟩
end
section
variable {m:Md}{a b c:Expr}{fa fb fc:fu->Od}{p2 p apos gJ:Pos}
def so (x k z:PyData):Od:=match x with
 | .dict fE=>if hW fE=true then none else (sg k).bind fun _=>some ((ku k fE).getD z)
 | _=>none
def d3 (g:PyData->PyData->PyData->Od)(fa fb fc:fu->Od):fu->Od:=fun ρ=>(fa ρ).bind fun x=>(fb ρ).bind fun y=>(fc ρ).bind fun z=>g x y z
theorem ET (hu:X.A.units+64<cLine)(ha:PD X o fa)(hb:PD X e fb)(hc:PD X c fc)(m:M2 X o "get" apos e c gJ):PD X (.Call (.Attribute o "get" apos) [e,c] [] gJ) (d3 so fa fb fc) :=
 PE.imp (Mm (by omega) ha hb hc m) fun σ H Q h=>by
  obtain⟨ρ,d,hs,e,k⟩:=h
  obtain⟨x,e1,e⟩:=bind_some e
  obtain⟨y,e2,e⟩:=bind_some e
  obtain⟨z,e0,e⟩:=bind_some e
  refine⟨ρ,x,hs,e1,fun v H1 s1 i1=>?_⟩
  obtain⟨fE,rfl⟩:∃ fE,x=.dict fE:=by cases x<;>first|exact⟨_,rfl⟩|(simp [so] at e)
  unfold so at e
  by_cases hi:hW fE=true
  ·dsimp only at e;rw [ai hi] at e;cases e
  ·dsimp only at e;rw [ao hi] at e
   obtain⟨ky,e3,e4⟩:=bind_some e
   obtain⟨p,kv,rfl,e5,e6⟩:=i1.rA (by simpa using hi)
   refine⟨p,rfl,.inl ⟨kv,.inl e5⟩,ρ,y,hs.same s1,e2,fun u H2 s2 i2=>⟨ρ,z,hs.same (s1.trans s2),e0,fun w H3 s3 i3=>?_⟩⟩
   have:=js e3
   subst this
   rw [jO i2]
   refine⟨_,r9.k (s3 _ _ (s2 _ _ e5)),?_⟩
   have e6':=e6.same (s2.trans s3)
   have k':=k.later (s1.trans (s2.trans s3))
   rcases e6'.val (y:=ky) with ⟨q1,q2⟩ | ⟨d',v',q1,q2,q3⟩
   ·rw [q1] at e4;cases e4
    rw [q2]
    exact k'.here i3
   ·rw [q1] at e4;cases e4
    rw [q2]
    exact k'.here q3
end
section
variable {m:Md}{a b c:Expr}{fa fb fc:fu->Od}{p2 p apos gJ:Pos}
def AD (K:Fg)(b G:Hp)(ds:Lp)(vs:List V):Prop:=∃ G0 B,G=fO G0 B/\kl G0 B/\fV b G0/\Ar K G0 ds vs B
theorem Ar.snoc {K:Fg}{G:Hp}{d:PyData}{v:V}{B':List (Addr×HO)}(i:OG K G d v B'):∀ {ds:Lp}{vs:List V}{B:List (Addr×HO)},Ar K G ds vs B->Ar K G (ds++[d]) (vs++[v]) (B++B')
 | [],_,_,h=>by
  obtain⟨rfl,rfl⟩:=h
  exact⟨v,[],B',[],rfl,by simp,i,rfl,rfl⟩
 | x::ds,_,_,⟨u,Bp,B1,B2,a,b,c,t⟩=>by
  subst a b
  exact⟨u,_,B1,B2++B',rfl,by simp,c,Ar.snoc i t⟩
theorem AD.len {K:Fg}{b:Hp}(h:AD K b G ds vs):ds.length=vs.length:=by
 obtain⟨G0,B,_,_,_,d⟩:=h
 exact d.length
theorem AD.same {K:Fg}{b G G':Hp}{ds:Lp}{vs:List V}(h:AD K b G ds vs)(e:fV G G'):AD K b G' ds vs:=by
 obtain⟨G0,B,rfl,f,s,d⟩:=h
 have hB:∀ x∈B,G' x.1=some x.2:=fun x hx=>e _ _ (gL f.nd x hx)
 obtain⟨G1,e1,f1,g1⟩:=SE f.nd hB
 have s1:fV G0 G1:=fun a oo ga=>by
  have ha:∀ x∈B,x.1≠a:=fun x hx z=>by
   have:=f.free x hx
   rw [z,ga] at this;cases this
  rw [g1 a ha]
  exact e _ _ (by rw [iy ha];exact ga)
 exact⟨G1,B,e1,⟨f.nd,f1,f.ok⟩,s.trans s1,d.same s1⟩
theorem KA (i:Nat) {y:Str}{py se:Pos}{elt iter:Expr}{px:Pos}{ifs:Lx} (caps:List (Nat×Str)) (hN:X.N.Nodup) (f7:O.Nodup)
  (hi:Ls X (.Name x px) iter q)
  (ht:∀ C s H fp,xq (lY X scope C (x::caps.map (·.2)) s H fp) ifs g)
  (he:∀ C s H fp,PF (lY X scope C (x::caps.map (·.2)) s H fp) elt f) (hO:i∈O:=by decide) (qC:kM O=true:=by rfl) (h0:i≠0∨m=.dat∨m=.own:=by first|exact .inl (by decide)|exact .inr (.inl rfl)|exact .inr (.inr rfl))
  (hc:X.calm=true:=by rfl) (S:kE scope x:=by exact⟨rfl,by decide +kernel,by decide +kernel,rfl,aO⟩) (Hj:wb X scope=true:=by rfl) (oS:lM X scope caps:=by repeat' (first|exact aO|refine⟨⟨rfl,.inl rfl,rfl⟩,?_⟩|refine⟨⟨rfl,.inr rfl,rfl⟩,?_⟩)) (yp:(x::caps.map (·.2)).Nodup:=by decide +kernel)
  (X6:X.N[i]?=some y:=by rfl) (hy:X.env.scope.names.lookup y=some .local:=by rfl) (Ux:swapsWith (.ListComp elt [⟨.Name x px,iter,ifs,0⟩] scope pos) (some (.Name y py)) se.line X.env=pure true:=by rfl)
  (hs:∀ x,foldedSetIterable iter X.env x=pure x:=by intro _;rfl):uN X m O (.Assign [.Name y py] (.ListComp elt [⟨.Name x px,iter,ifs,0⟩] scope pos) se) (jA (gd O (iL q caps g (MM f))) i):=by
 intro pins s σ H D I hQ
 have Sv:∀ C s H fp,PE (lY X scope C (x::caps.map (·.2)) s H fp) elt (fun σ G Q=>∃ ρ yd,ka X.K G σ ρ/\MM f ρ=some yd/\∀ v G',fV G G'->(∀ b ds vs,AD X.K b G ds vs->AD X.K b G' (ds++[yd]) (vs++[v]))->Q v G'):=fun C s H fp =>
  PE.imp (he C s H fp) fun σ G Q ⟨ρ,yd,hs,e,k⟩=>by
   obtain⟨d,e1,e2⟩:=bind_some e
   by_cases hx:As d=true
   ·rw [ai hx] at e2;cases e2
    refine⟨ρ,yd,hs,e1,fun v G1 B1 sG fB ot=>?_⟩
    cases yd<;>try (simp [As] at hx;done)
    rename_i us
    obtain⟨p,ob,rfl,rfl,oc⟩:=ot.cont rfl
    obtain⟨ws,rfl,iw⟩:=oc.lst
    refine k _ _ (sG.trans fB.same) fun b ds vs ad=>?_
    obtain⟨G0,B,rfl,f0,s0,d0⟩:=AD.same ad sG
    have f1:kl G0 ([(p,HO.lst ws)]++B):=f0.join fB
    have pm:([(p,HO.lst ws)]++B).Perm (B++[(p,HO.lst ws)]):=aU
    refine⟨G0,B++[(p,HO.lst ws)],?_,f1.perm pm (d0.oO.append (.one aO .nil)),s0,d0.snoc (.inr ⟨us,p,ws,rfl,rfl,rfl,iw.km hx⟩)⟩
    rw [← iI]
    exact ja f1.nd pm
   ·rw [ao hx] at e2;cases e2
 refine PS.imp (PS.frame (CA (yw (AD X.K) AD.len AD.same hc S (kR I Hj) oS yp hi ht Sv) S (kR I Hj) hN X6 hy Ux hs)) (fun D σ H ⟨ρ,o,G,hs,e,k⟩=>?_) s σ H D I hQ
 obtain⟨d,e1,e2⟩:=bind_some e
 by_cases hl:i<ρ.length
 ·rw [ai hl] at e2;cases e2
  obtain⟨B,eH,fm,own⟩:=hs.o.ex
  refine⟨G,B,eH,fm,jb O ρ,d,hs.o.rest,e1,⟨G,[],rfl,kl.nil,.refl G,rfl,rfl⟩,fun ys G' Dp vs ed sG hD hA CB=>?_⟩
  subst ed
  obtain⟨G0,B1,rfl,f0,s0,d0⟩:=hA
  have hDf:kl (fO G0 B1) [(Dp,HO.lst vs)]:=⟨by simp,(fun x hx=>by simp at hx;subst hx;exact hD),.one aO .nil⟩
  have f1:kl G0 ((Dp,HO.lst vs)::B1):=f0.join hDf
  have eu:upd (fO G0 B1) Dp (.lst vs)=fO G0 ((Dp,HO.lst vs)::B1):=rfl
  rw [eu] at CB ⊢
  have f2:kl G0 (B++((Dp,HO.lst vs)::B1)):=f1.join CB
  have ot:j4 (kM O) X.K G0 (.list ys) (.ref Dp) ((Dp,HO.lst vs)::B1):=by rw [qC];exact .inl ⟨Dp,_,B1,rfl,rfl,.inl ⟨ys,vs,rfl,rfl,d0⟩⟩
  have f3:kl G0 (((Dp,HO.lst vs)::B1)++B):=f2.perm aU (ot.oO.append fm.ok)
  have e3:fO (fO G0 ((Dp,HO.lst vs)::B1)) B=fO (fO G0 B) ((Dp,HO.lst vs)::B1):=by rw [← iI,← iI];exact ja f2.nd aU
  have h1:iz O X.K σ ρ (fO G0 B) G0:=iz.vU hs.o.len own hs.o.lJ s0 (f3.Ew fm.ok)
  obtain⟨G2,s2,h2⟩:=h1.new f7 hO hl ot (f3.Eu ot.oO)
  rw [e3]
  refine k _ _ G2 (s0.trans s2) ⟨h2,fun dp v0 z=>?_⟩
  rcases h0 with h0|h0|h0
  ·rw [av h0];exact hs.z dp v0 z
  ·rw [h0] at z;cases z
  ·rw [h0] at z;cases z
 ·rw [ao hl] at e2;cases e2
end
structure sr (P:Program) (w:World) (K:Fg) (mg:Str->Ow) (base:Heap) (c m:Str) (k n:Nat) (f:Lp->Od):Prop where
 ex:∃ C a fd ps,mX K c C/\JY K C/\JZ K C m a/\nN P w K mg base Bd k a fd ps (spF K n f)/\mV K fd ps []
section
variable {m:Md}{a b c:Expr}{fa fb fc:fu->Od}{p2 p apos gJ:Pos}{j k:Nat}
theorem Qu {cn mn:Str}{F:Lp->Od}{pl:Sem Bool} (N:sr X.prog X.w X.K X.mg X.base cn mn j n F) (ho:PD X o f) (hr:j3 k X.A) (ha:Ct X (e::es) ff) (hj:j<=k:=by decide)
  (Af:zE e es X:=by rfl) (tq:(backTo pos (starEach es X.env)).any (·.1)=false:=by rfl)
  (ht:eval (.Call (.Attribute o mn apos) (e::es) [] pos) X.env=(do
   let ov ← eval o X.env
   standAt apos.atName
   let (f,first) ← holding [ov] (getMethod ov mn pl)
   callWith pos f first (backTo pos (starEach (e::es) X.env)) (backToKw pos (keywordEach [] X.env))):=by rfl):PF X (.Call (.Attribute o mn apos) (e::es) [] pos) (oV cn mn n F f ff):=by
 obtain⟨C,a,fd,ps,hC,uM,hm,Fn,b⟩:=N.ex
 refine PE.imp (ID (pl:=pl) ho uM hm (Fn.mono hj) hr b .nil uV ha Af tq ht) fun σ H Q ⟨ρ,d,hs,e,k⟩=>?_
 obtain⟨x,e1,e2⟩:=bind_some e
 by_cases hx:mw cn mn x=true
 ·rw [ai hx] at e2
  obtain⟨ds,e3,e4⟩:=bind_some e2
  by_cases hl:ds.length+1=n
  ·rw [ai hl] at e4
   refine⟨ρ,x,hs,e1,fun v H1 s1 i1=>?_⟩
   obtain⟨p,C',dx,fs,rfl,h1,h2,h3⟩:=u9 hx i1
   have:=h1.uniq hC
   subst this
   exact⟨p,dx,fs,rfl,h2,h3,ρ,ds,hs.same s1,e3,fun vs H2 s2 i2=>⟨x::ds,d,by rw [aS];exact fz.cons (i1.same s2) i2,by simpa using hl,e4,k.later (s1.trans s2)⟩⟩
  ·rw [ao hl] at e4;cases e4
 ·rw [ao hx] at e2;cases e2
theorem EU {cn mn:Str}{F:Lp->Od}{pl:Sem Bool} (N:sr X.prog X.w X.K X.mg X.base cn mn j n F) (ho:PD X o f) (hr:j3 k X.A) (hj:j<=k:=by decide)
  (ht:eval (.Call (.Attribute o mn apos) [] [] pos) X.env=(do
   let ov ← eval o X.env
   standAt apos.atName
   let (f,first) ← holding [ov] (getMethod ov mn pl)
   callWith pos f first (backTo pos (starEach [] X.env)) (backToKw pos (keywordEach [] X.env))):=by rfl):PF X (.Call (.Attribute o mn apos) [] [] pos) (oV cn mn n F f fD):=by
 obtain⟨C,a,fd,ps,hC,uM,hm,Fn,b⟩:=N.ex
 refine PE.imp (D8 (pl:=pl) ho uM hm (Fn.mono hj) hr b .nil uV ht) fun σ H Q ⟨ρ,d,hs,e,k⟩=>?_
 obtain⟨x,e1,e2⟩:=bind_some e
 by_cases hx:mw cn mn x=true
 ·rw [ai hx] at e2
  obtain⟨ds,e3,e4⟩:=bind_some e2
  cases e3
  by_cases hl:([]:Lp).length+1=n
  ·rw [ai hl] at e4
   refine⟨ρ,x,hs,e1,fun v H1 s1 i1=>?_⟩
   obtain⟨p,C',dx,fs,rfl,h1,h2,h3⟩:=u9 hx i1
   have:=h1.uniq hC
   subst this
   exact⟨p,dx,fs,rfl,h2,h3,[x],d,fz.cons i1 fz.nil,by simpa using hl,e4,k.later s1⟩
  ·rw [ao hl] at e4;cases e4
 ·rw [ao hx] at e2;cases e2
def Ng (x y:PyData):Od:=match x,y with
 | .list xs,.int k=>if 0<=k/\k<=1000/\xs.length<=1000 then some (.list (List.replicate k.toNat xs).flatten) else none
 | _,_=>none
theorem fz.rep {K:Fg}{H:Hp}{ds:Lp}{vs:List V}(h:fz K H ds vs):∀ k:Nat,fz K H (List.replicate k ds).flatten (List.replicate k vs).flatten
 | 0=>fz.nil
 | k+1=>by
  rw [bK,bK,cv,cv]
  exact h.append (fz.rep h k)
theorem U4 (ha:PF X a fa)(hb:PD X b fb):PF X (.BinOp a .Mult b pos) (d2 Ng fa fb) :=
 PE.imp (LS T8 ha hb) fun σ H Q ⟨ρ,d,hs,e,k⟩=>by
  obtain⟨x,e1,e⟩:=bind_some e
  obtain⟨y,e2,e3⟩:=bind_some e
  obtain⟨xs,rfl⟩:∃ xs,x=.list xs:=by cases x<;>first|exact⟨_,rfl⟩|(cases y<;>cases e3)
  obtain⟨n,rfl⟩:∃ n,y=.int n:=by cases y<;>first|exact⟨_,rfl⟩|cases e3
  dsimp only [Ng] at e3
  by_cases hz:0<=n/\n<=1000/\xs.length<=1000
  ·rw [ai hz] at e3;cases e3
   refine⟨ρ,_,hs,e1,fun v G1 B1 s1 fB ot=>?_⟩
   obtain⟨q,ob,rfl,rfl,oc⟩:=ot.cont rfl
   obtain⟨vs,rfl,iv⟩:=oc.lst
   refine⟨ρ,_,hs.same (s1.trans fB.same),e2,fun u H2 s2 i2=>?_⟩
   have hq:H2 q=some (.lst vs):=s2 _ _ (gL fB.nd (q,.lst vs) (by simp))
   have hl:=iv.length
   have h63:(2:Int) ^ 63=9223372036854775808:=by decide
   have hsz:vs.length*n.toNat<=sizeLine:=by
    have h1:vs.length<=1000:=by omega
    have h2:n.toNat<=1000:=by omega
    exact bH (Nat.mul_le_mul h1 h2) (by decide)
   have iv2:=(iv.same (fB.same.trans s2)).rep n.toNat
   refine⟨q,n,vs,rfl,fM.fZ.mp i2,hq,by rw [h63];omega,by rw [h63];omega,hsz,fun p hp=>?_⟩
   exact k (.ref p) H2 [(p,.lst (List.replicate n.toNat vs).flatten)] (s1.trans (fB.same.trans s2)) ⟨by simp,(fun x hx=>by simp at hx;subst hx;exact hp),.one aO .nil⟩ (j4.UG (.inl ⟨_,_,rfl,rfl,iv2⟩))
  ·rw [ao hz] at e3;cases e3
def C3 (f:fu->Od):fu->Od:=fun ρ=>(f ρ).bind fun d=>match d with | .list _=>some .none|_=>none
theorem KC (ho:PF X o f)(mf:attributeBase o "clear" X.env (eval o X.env)=eval o X.env:=by rfl)(mh:(apos.endLine==gJ.line)=true:=by rfl):PD X (.Call (.Attribute o "clear" apos) [] [] gJ) (C3 f) :=
 PE.imp (GB bE PySem.F.slot_list_clear PySem.F.type_list_clear Eg ho mf mh) fun σ H Q ⟨ρ,d,hs,e,k⟩=>by
  obtain⟨x,e1,e2⟩:=bind_some e
  obtain⟨xs,rfl⟩:∃ xs,x=.list xs:=by cases x<;>first|exact⟨_,rfl⟩|cases e2
  cases e2
  refine⟨ρ,_,hs,e1,fun v G1 B1 s1 fB ot=>?_⟩
  obtain⟨q,ob,rfl,rfl,oc⟩:=ot.cont rfl
  obtain⟨vs,rfl,iv⟩:=oc.lst
  have hq:fO G1 [(q,HO.lst vs)] q=some (.lst vs):=gL fB.nd (q,.lst vs) (by simp)
  have hn:G1 q=none:=fB.free (q,.lst vs) (by simp)
  refine⟨.inl ⟨rfl,vs,qd.of hq⟩,q,vs,rfl,rfl,hq,k _ _ (fun a oo ga=>?_) (fM.jE.mpr rfl)⟩
  have ha:a≠q:=gP (s1 _ _ ga) hn
  rw [fU ha]
  exact fB.same _ _ (s1 _ _ ga)
def ZU (X:Cx)(O:List Nat)(es:Lx)(ff:fu->Option Lp):Prop:=PA X es (fun σ H Q=>∃ ρ ds G,iz O X.K σ ρ H G/\ff ρ=some ds/\∀ vs H' G',fV H H'->fV G G'->iz O X.K σ ρ H' G'->fz X.K G' ds vs->Q vs H')
theorem Qv:ZU X O [] fD:=PA.imp rY fun σ H Q ⟨ρ,ds,G,hs,e,k⟩=>by cases e;exact k [] H G (.refl H) (.refl G) hs fz.nil
theorem EV (ha:PV X O e f)(hr:ZU X O es ff)(hs:zE e es X:=by rfl):ZU X O (e::es) (fx f ff) :=
 PA.imp (nB ha hr hs) fun σ H Q ⟨ρ,ds,G,hs,e,k⟩=>by
  obtain⟨x,e1,e⟩:=bind_some e
  obtain⟨xs,e2,e⟩:=bind_some e
  cases e
  exact⟨ρ,x,G,hs,e1,fun v H1 G1 s1 Wf h1 i1=>⟨ρ,xs,G1,h1,e2,fun vs H2 G2 s2 xt h2 i2=>k _ H2 G2 (s1.trans s2) (Wf.trans xt) h2 (fz.cons (i1.same xt) i2)⟩⟩
theorem U5 {x1}(h:ZU X O es ff):PV X O (.Tuple es x1 pos) (jy ff) :=
 PE.imp (L3 h) fun σ H Q ⟨ρ,d,G,hs,e,k⟩=>by
  obtain⟨xs,e1,e⟩:=bind_some e
  by_cases hz:xs.length<=sizeLine
  ·rw [ai hz] at e
   cases e
   refine⟨ρ,xs,G,hs,e1,fun vs H1 G1 s1 Wf h1 i1=>⟨by rw [← i1.length];exact hz,fun p hp=>?_⟩⟩
   have s2:fV H1 (upd H1 p (.tup vs)):=kO hp
   obtain⟨G2,xt,g2,h2⟩:=h1.grow s2
   refine k (.ref p) _ G2 (s1.trans s2) (Wf.trans xt) h2 (fM.nc.mpr ⟨p,vs,rfl,tm.of (by rw [g2 p hp];exact gp),i1.same xt⟩)
  ·rw [ao hz] at e;cases e
theorem KG (i:Nat) {y:Str}{py se:Pos}{elt iter:Expr}{px:Pos}{ifs:Lx} (caps:List (Nat×Str)) (hN:X.N.Nodup) (f7:O.Nodup)
  (hi:Ls X (.Name x px) iter q)
  (ht:∀ C s H fp,xq (lY X scope C (x::caps.map (·.2)) s H fp) ifs g)
  (he:∀ C s H fp,PD (lY X scope C (x::caps.map (·.2)) s H fp) elt f) (hO:i∈O:=by decide) (qC:kM O=false:=by rfl) (h0:i≠0∨m=.dat∨m=.own:=by first|exact .inl (by decide)|exact .inr (.inl rfl)|exact .inr (.inr rfl))
  (hc:X.calm=true:=by rfl) (S:kE scope x:=by exact⟨rfl,by decide +kernel,by decide +kernel,rfl,aO⟩) (Hj:wb X scope=true:=by rfl) (oS:lM X scope caps:=by repeat' (first|exact aO|refine⟨⟨rfl,.inl rfl,rfl⟩,?_⟩|refine⟨⟨rfl,.inr rfl,rfl⟩,?_⟩)) (yp:(x::caps.map (·.2)).Nodup:=by decide +kernel)
  (X6:X.N[i]?=some y:=by rfl) (hy:X.env.scope.names.lookup y=some .local:=by rfl) (Ux:swapsWith (.ListComp elt [⟨.Name x px,iter,ifs,0⟩] scope pos) (some (.Name y py)) se.line X.env=pure true:=by rfl)
  (hs:∀ x,foldedSetIterable iter X.env x=pure x:=by intro _;rfl):uN X m O (.Assign [.Name y py] (.ListComp elt [⟨.Name x px,iter,ifs,0⟩] scope pos) se) (jA (gd O (iL q caps g f)) i):=by
 intro pins s σ H D I hQ
 have Sv:∀ C s H fp,PE (lY X scope C (x::caps.map (·.2)) s H fp) elt (fun σ G Q=>∃ ρ yd,ka X.K G σ ρ/\f ρ=some yd/\∀ v G',fV G G'->(∀ (b:Hp) ds vs,fz X.K G ds vs->fz X.K G' (ds++[yd]) (vs++[v]))->Q v G'):=fun C s H fp =>
  PE.imp (he C s H fp) fun σ G Q ⟨ρ,yd,hs,e,k⟩=>⟨ρ,yd,hs,e,fun v G1 sG iv=>k v G1 sG fun b ds vs iw=>(iw.same sG).append (fz.cons iv fz.nil)⟩
 refine PS.imp (PS.frame (CA (yw (fun _ G ds vs=>fz X.K G ds vs) (fun h=>h.length) (fun h e=>h.same e) hc S (kR I Hj) oS yp hi ht Sv) S (kR I Hj) hN X6 hy Ux hs)) (fun D σ H ⟨ρ,o,G,hs,e,k⟩=>?_) s σ H D I hQ
 obtain⟨d,e1,e2⟩:=bind_some e
 by_cases hl:i<ρ.length
 ·rw [ai hl] at e2;cases e2
  obtain⟨B,eH,fm,own⟩:=hs.o.ex
  refine⟨G,B,eH,fm,jb O ρ,d,hs.o.rest,e1,fz.nil,fun ys G0 Dp vs ed s0 hD hA CB=>?_⟩
  subst ed
  have f1:kl G0 [(Dp,HO.lst vs)]:=⟨by simp,(fun x hx=>by simp at hx;subst hx;exact hD),.one aO .nil⟩
  have eu:upd G0 Dp (.lst vs)=fO G0 [(Dp,HO.lst vs)]:=rfl
  rw [eu] at CB ⊢
  have f2:kl G0 (B++[(Dp,HO.lst vs)]):=f1.join CB
  have ot:j4 (kM O) X.K G0 (.list ys) (.ref Dp) [(Dp,HO.lst vs)]:=by rw [qC];exact j4.UG (.inl ⟨ys,vs,rfl,rfl,hA⟩)
  have f3:kl G0 ([(Dp,HO.lst vs)]++B):=f2.perm aU (ot.oO.append fm.ok)
  have e3:fO (fO G0 [(Dp,HO.lst vs)]) B=fO (fO G0 B) [(Dp,HO.lst vs)]:=by rw [← iI,← iI];exact ja f2.nd aU
  have h1:iz O X.K σ ρ (fO G0 B) G0:=iz.vU hs.o.len own hs.o.lJ s0 (f3.Ew fm.ok)
  obtain⟨G2,s2,h2⟩:=h1.new f7 hO hl ot (f3.Eu ot.oO)
  rw [e3]
  refine k _ _ G2 (s0.trans s2) ⟨h2,fun dp v0 z=>?_⟩
  rcases h0 with h0|h0|h0
  ·rw [av h0];exact hs.z dp v0 z
  ·rw [h0] at z;cases z
  ·rw [h0] at z;cases z
 ·rw [ao hl] at e2;cases e2
end
section
variable {a b:Expr}{fa fb:fu->Od} 
def SF (k v:PyData):Od:=(sg k).bind fun _=>if nO v=true then some (.dict [(k,v)]) else none
theorem Nh (hk:PD X a fa)(hv:PD X b fb):PF X (.Dict [some a] [b] pos) (d2 SF fa fb) :=
 PE.imp (Pp (Mi hk hv Po) rfl rfl (by simp) (by simp)) fun σ H Q ⟨ρ,d,hs,e,k⟩=>by
  obtain⟨x,e1,e⟩:=bind_some e
  obtain⟨y,e2,e⟩:=bind_some e
  obtain⟨ky,e3,e4⟩:=bind_some e
  have:=js e3
  subst this
  by_cases hz:nO y=true
  ·rw [ai hz] at e4;cases e4
   intro p hp
   have s0:fV H (upd H p (.dK [])):=kO hp
   refine⟨ρ,_,hs.same s0,e1,fun v H1 s1 i1=>⟨ρ,y,hs.same (s0.trans s1),e2,fun u H2 s2 i2=>?_⟩⟩
   have Kd:H2 p=some (.dK []):=s2 _ _ (s1 _ _ gp)
   refine⟨Kd,[(ky,u)],by rw [jO i1];rfl,by simp,?_⟩
   have em:vR [] [(ky,u)]=[(ky,u)]:=rfl
   rw [em]
   obtain⟨G',eH,fr,g'⟩:=SE (H:=upd H2 p (.dK [(ky,u)])) (B:=[(p,HO.dK [(ky,u)])]) (by simp) (fun x hx=>by simp at hx;subst hx;exact gp)
   rw [eH]
   refine k (.ref p) G' [(p,.dK [(ky,u)])] (fun c oo gc=>?_) ⟨by simp,fr,.one aO .nil⟩ (j4.UG (.inr ⟨_,[(ky,u)],rfl,rfl,gY.fT.mpr ⟨ky,u,[],rfl,rfl,i2.km hz,gY.gn.mpr rfl⟩⟩))
   have hc:c≠p:=gP gc hp
   rw [g' c (fun x hx=>by simp at hx;subst hx;exact Ne.symm hc),fU hc]
   exact s2 _ _ (s1 _ _ (s0 _ _ gc))
  ·rw [ao hz] at e4;cases e4
end
def Qw:Nat->(Lw->Prop)->Prop
 | 0,p=>p []
 | n+1,p=>∀ v,Qw n fun us=>p (v::us)
theorem Qw.all:∀ {n:Nat}{p:Lw->Prop},Qw n p->∀ us:Lw,us.length=n->p us
 | 0,_,h,[],_=>h
 | _+1,_,h,v::us,e=>(h v).all us (Nat.succ.inj e)
def Qx (x q:Str)(st:Stmt)(ps:Lr):Prop:=∀ (kV doc pm:Value) (an:Option Addr) (mW ct:Value),Qw ps.length fun us=>bindArgs (W.fnOf x q (pK st) (k7 st) (gB st) .none kV doc pm an mW ct) ⟨us,[]⟩=pure (ps.zip us)
theorem Qx.to {K:Fg}{q:Str}{ps:Lr}(h:Qx x q st ps)(F:Lo K x q st a fd):mV K fd ps []:=F.binds fun kV doc pm an mW ct us e=>(h kV doc pm an mW ct).all us e
def ju (K:Fg)(mg:Str->Ow)(x:Str)(st:Stmt):Prop:=∃ a fd,mg x=some (.ref a)/\Lo K x x st a fd
def EW (K:Fg)(c m q:Str)(st:Stmt):Prop:=∃ C a fd,mX K c C/\JY K C/\JZ K C m a/\Lo K m q st a fd
def Ni (K:Fg)(mg:Str->Ow)(c q:Str)(st:Stmt):Prop:=∃ C a fd,mX K c C/\mg c=some (.ref C)/\Mk K C a/\Lo K "__init__" q st a fd
section
variable {K:Fg}{h:Heap}{c m q:Str}{C f:Addr}{od an:Option Addr}{sl:Array Ow}{oc kV dc pm cd ct:Value}
theorem fnAt (X:K.In h)(G:h.Ns mainGlobals mg)(a:W.nsIn K mainGlobals x=some (some (.ref f)))(l:K.lookup f=some ⟨oc,od,.func (W.fnOf x x (pK st) (k7 st) (gB st) .none kV dc pm an cd ct),sl⟩)(c:W.codeIn K cd x=true)(k:W.keepIn K (.ref f)=true):ju K mg x st :=
 ⟨f,_,W.mg_of X G a,GD l c k⟩
theorem intAt {n:Int}{t:Tok}(X:K.In h)(G:h.Ns mainGlobals mg)(a:W.nsIn K mainGlobals x=some (some (.int n t))):Kx K mg x (.int n):=aa5 (W.mg_of X G a)
theorem Ya (a:W.nsIn K mainGlobals c=some (some (.ref C))) (p:W.plainGet K C Str.empty=true) (d:W.hasDictIn K C=true) (o:W.plainOver K C=true) (s:W.findIn K (.ref C) "__setattr__"=some (some (.builtin "object.__setattr__")))
  (n:W.findIn K (.ref C) x=some none):kG K c x:=⟨C,a,⟨p,d,o,s⟩,n⟩
theorem aa9 (a:W.nsIn K mainGlobals c=some (some (.ref C))) (p:W.plainGet K C Str.empty=true) (d:W.hasDictIn K C=true) (o:W.plainOver K C=true) (s:W.findIn K (.ref C) "__setattr__"=some (some (.builtin "object.__setattr__")))
  (n:W.findIn K (.ref C) m=some (some (.ref f))) (i:W.isFn K (.ref f)=true) (l:K.lookup f=some ⟨oc,od,.func (W.fnOf m q (pK st) (k7 st) (gB st) .none kV dc pm an cd ct),sl⟩) (e:W.codeIn K cd q=true) (k:W.keepIn K (.ref f)=true):EW K c m q st :=
 ⟨C,f,_,a,⟨p,d,o,s⟩,⟨n,i,k⟩,GD l e k⟩
theorem U6 (X:K.In h) (G:h.Ns mainGlobals mg) (a:W.nsIn K mainGlobals c=some (some (.ref C))) (m:W.makesIn K C=true) (kc:W.keepIn K (.ref C)=true)
  (n:W.findIn K (.ref C) "__init__"=some (some (.ref f))) (i:W.isFn K (.ref f)=true) (l:K.lookup f=some ⟨oc,od,.func (W.fnOf "__init__" q (pK st) (k7 st) (gB st) .none kV dc pm an cd ct),sl⟩) (e:W.codeIn K cd q=true) (k:W.keepIn K (.ref f)=true):Ni K mg c q st :=
 ⟨C,f,_,a,W.mg_of X G a,⟨m,n,i,kc⟩,GD l e k⟩
end
section
variable {P:Program}{K:Fg}{base:Heap}{c m q:Str}{N:Lr}{k:Nat}{g:fu->Option gI}{fa:Addr}
abbrev yO (P:Program)(w:World)(K:W.Frag)(mg:Str->Option Value)(base:Heap)(q:Str)(st:Stmt)(N:List Str)(k:Nat)(md:V->Md)(O:List Nat)(g:fu->Option gI):Prop :=
 ∀ {v0:V}{fa:Addr}{mW:Value}{A:Around}{outer:List Env}{s:Shared}{H:Hp}{E:XK},j3 k (A.deeper (envOfC q (gB st) (zB s) fa mW))->(A.deeper (envOfC q (gB st) (zB s) fa mW)).units+64<cLine->N.Nodup->O.Nodup ->
  tU (An Bd P w K mg base N q (gB st) fa mW A outer s H E).R7 (md v0) O (k7 st) g
theorem g9 (O:List Nat) (F:ju K mg x st) (hb:yO P w K mg base x st N k (fun _=>.dat) O g) (S:k6 N (N.take n) (gB st):=by exact⟨rfl,rfl,rfl,by decide +kernel,rfl,by decide +kernel,by decide +kernel⟩) (hn:n=(N.take n).length:=by rfl) (hO:∀ i∈O,n<=i:=by decide) (f7:O.Nodup:=by decide)
  (bd:Qx x x st (N.take n):=by intro _ _ _ _ _ _;(repeat' intro _);exact rfl):rL P w K mg base x (k+1) n (jq N g):=by
 obtain⟨a,fd,h1,F⟩:=F
 exact⟨a,fd,N.take n,GW F S hn hO fun mW A outer s H E hr=>hb (v0:=.lJ) hr hr.units S.nd f7,h1,F.kp,bd.to F⟩
theorem Nj (O:List Nat) (F:ju K mg x st) (hb:yO P w K mg base x st N k (fun _=>.own) O g) (S:k6 N (N.take n) (gB st):=by exact⟨rfl,rfl,rfl,by decide +kernel,rfl,by decide +kernel,by decide +kernel⟩) (hn:n=(N.take n).length:=by rfl) (hO:∀ i∈O,n<=i:=by decide) (f7:O.Nodup:=by decide)
  (bd:Qx x x st (N.take n):=by intro _ _ _ _ _ _;(repeat' intro _);exact rfl):CJ P w K mg base x (k+1) n (CI N g):=by
 obtain⟨a,fd,h1,F⟩:=F
 exact⟨a,fd,N.take n,MU F S hn hO fun mW A outer s H E hr=>hb (v0:=.lJ) hr hr.units S.nd f7,h1,F.kp,bd.to F⟩
theorem EX (O:List Nat) (F:ju K mg x st) (hb:yO P w K mg base x st N k (.io (kM (0::O))) (0::O) g) (S:k6 N (N.take n) (gB st):=by exact⟨rfl,rfl,rfl,by decide +kernel,rfl,by decide +kernel,by decide +kernel⟩) (hn:n=(N.take n).length:=by rfl) (hO:∀ i∈O,n<=i:=by decide) (f7:(0::O).Nodup:=by decide) (h1:n≠0:=by decide)
  (bd:Qx x x st (N.take n):=by intro _ _ _ _ _ _;(repeat' intro _);exact rfl):GX (kM (0::O)) P w K mg base x (k+1) n (qE N g):=by
 obtain⟨a,fd,e1,F⟩:=F
 exact⟨a,fd,N.take n,Sq F S hn h1 f7 hO fun v0 mW A outer s H E hr=>hb hr hr.units S.nd f7,e1,F.kp,bd.to F⟩
theorem C4 (O:List Nat) (F:Ni K mg c q st) (hb:yO P w K mg base q st N k (.io (kM (0::O))) (0::O) g) (S:k6 N (N.take n) (gB st):=by exact⟨rfl,rfl,rfl,by decide +kernel,rfl,by decide +kernel,by decide +kernel⟩) (hn:n=(N.take n).length:=by rfl) (hO:∀ i∈O,n<=i:=by decide) (f7:(0::O).Nodup:=by decide) (h1:n≠0:=by decide) (hd:kM (0::O)=false:=by rfl)
  (bd:Qx "__init__" q st (N.take n):=by intro _ _ _ _ _ _;(repeat' intro _);exact rfl):v5 P w K mg base c (k+1) n (qE N g):=by
 obtain⟨C,a,fd,e1,e2,M,F⟩:=F
 have F':=Sq F S hn h1 f7 hO fun v0 mW A outer s H E hr=>hb hr hr.units S.nd f7
 rw [hd] at F'
 exact⟨C,a,fd,N.take n,e1,e2,M,F',bd.to F⟩
theorem Nk (O:List Nat) (F:EW K c m q st) (hb:yO P w K mg base q st N k (fun _=>.dat) O g) (S:k6 N (N.take n) (gB st):=by exact⟨rfl,rfl,rfl,by decide +kernel,rfl,by decide +kernel,by decide +kernel⟩) (hn:n=(N.take n).length:=by rfl) (hO:∀ i∈O,n<=i:=by decide) (f7:O.Nodup:=by decide)
  (bd:Qx m q st (N.take n):=by intro _ _ _ _ _ _;(repeat' intro _);exact rfl):tB P w K mg base c m (k+1) n (jq N g):=by
 obtain⟨C,a,fd,e1,e2,M,F⟩:=F
 exact⟨C,a,fd,N.take n,e1,e2,M,GW F S hn hO fun mW A outer s H E hr=>hb (v0:=.lJ) hr hr.units S.nd f7,bd.to F⟩
theorem Nl (O:List Nat) (F:EW K c m q st) (hb:yO P w K mg base q st N k (fun _=>.own) O g) (S:k6 N (N.take n) (gB st):=by exact⟨rfl,rfl,rfl,by decide +kernel,rfl,by decide +kernel,by decide +kernel⟩) (hn:n=(N.take n).length:=by rfl) (hO:∀ i∈O,n<=i:=by decide) (f7:O.Nodup:=by decide)
  (bd:Qx m q st (N.take n):=by intro _ _ _ _ _ _;(repeat' intro _);exact rfl):sr P w K mg base c m (k+1) n (CI N g):=by
 obtain⟨C,a,fd,e1,e2,M,F⟩:=F
 exact⟨C,a,fd,N.take n,e1,e2,M,MU F S hn hO fun mW A outer s H E hr=>hb (v0:=.lJ) hr hr.units S.nd f7,bd.to F⟩
theorem U7 {x0:Str} (O:List Nat) (hfa:mg x=some (.ref fa)) (F:ju K mg x st) (hb:∀ base:Heap,yO P w K mg base x st (x0::N) k (fun _=>.dat) O g) (S:k6 (x0::N) [x0] (gB st):=by exact⟨rfl,rfl,rfl,by decide +kernel,rfl,by decide +kernel,by decide +kernel⟩) (hO:∀ i∈O,1<=i:=by decide) (f7:O.Nodup:=by decide)
  (bd:Qx x x st [x0]:=by intro _ _ _ _ _ _;(repeat' intro _);exact rfl):∃ fd:FuncData,(∀ (s:Shared) (u:Value),BindsTo s fd ⟨[u],[]⟩ [(x0,u)])/\∀ base:Heap,K.In base->base.Ns mainGlobals mg->nN P w K mg base Bd (k+1) fa fd [x0] (Ut K 1 (jq (x0::N) g)):=by
 obtain⟨a,fd,h1,F⟩:=F
 cases hfa.symm.trans h1
 refine⟨fd,fun s u=>?_,fun base _ _=>GW F S rfl hO fun mW A outer s H E hr=>hb base (v0:=.lJ) hr hr.units S.nd f7⟩
 obtain⟨oc,od,kV,doc,pm,an,mW,ct,Ll,rfl,lk,xR⟩:=F.ex
 exact .of_eq (bd kV doc pm an mW ct u)
variable {a b:Expr}{fa fb:fu->Od} 
theorem hU (hu:X.A.units+64<cLine)(ha:PD X a fa)(hb:PD X b fb)(hs:uU b:=by exact fun _ _=>rfl)(DY:GH b:=by exact fun _ _=>rfl):PD X (.Subscript a b pos) (zX fa fb):=UD hu ha hb hs DY
theorem gq {op:CmpOp}{g:PyData->PyData->Od}(ho:uY X (compareOp op) g)(ha:PD X a fa)(hb:PD X b fb)(hm:behindInMarks op b=false:=by first|exact LU _|with_unfolding_all rfl):Gb X (.Compare a [op] [b] pos) (fB (d2 g fa fb)):=Py ho ha hb hm
theorem su {op:CmpOp}{g:PyData->PyData->Od}(ho:uY X (compareOp op) g)(ha:PD X a fa)(hb:PD X b fb)(hm:behindInMarks op b=false:=by first|exact LU _|with_unfolding_all rfl):PD X (.Compare a [op] [b] pos) (d2 g fa fb):=Uj ho ha hb hm
def Nm:Lx->Option Lr
 | []=>some []
 | .Constant (.str x) _ _::es=>(Nm es).map (x::·)
 | _=>none
def SG:Lr->fu->Option Lp
 | []=>fD
 | x::xs=>fx (zA x) (SG xs)
theorem mz (xs:Lr)(h:Nm es=some xs):Ct X es (SG xs):=by
 induction es generalizing xs with
 | nil=>cases h;exact gU
 | cons e es ih =>
  unfold Nm at h
  split at h
  ·rename_i z;cases z
  ·rename_i z
   cases z
   obtain⟨ys,e,rfl⟩:=aj.mp h
   exact ft fw (ih ys e)
  ·cases h
end
end L2
namespace K01
open PySem L2
def nZ (i:Nat):Stmt:=PySem.Challenge.pw_pointsure_k01_read_and_shown.main.body.getD i (.Pass ⟨0,0,0,0⟩)
def C5:List (PyData×PyData):=[((.str "new"),(.tuple [(.str "X"),(.str "KIND")])),((.str "row"),(.tuple [(.str "X")])),((.str "func"),(.tuple [(.str "X"),(.str "FUNCTION"),(.str "A")])),((.str "copy"),(.tuple [(.str "X"),(.str "Y")])),((.str "take"),(.tuple [(.str "X"),(.str "Y"),(.str "FIELD")])),((.str "put"),(.tuple [(.str "Y"),(.str "FIELD"),(.str "X")])),((.str "push"),(.tuple [(.str "Y"),(.str "X")])),((.str "pull"),(.tuple [(.str "X"),(.str "Y")])),((.str "do"),(.tuple [(.str "X"),(.str "Y"),(.str "A")])),((.str "ask"),(.tuple [(.str "X"),(.str "Y"),(.str "METHOD"),(.str "A")])),((.str "straight"),(.tuple [(.str "X"),(.str "Y"),(.str "KIND"),(.str "METHOD"),(.str "A")])),((.str "give"),(.tuple [(.str "X")])),((.str "tell"),(.tuple [(.str "X")])),((.str "rest"),(.tuple [])),((.str "check"),(.tuple [(.str "Y"),(.str "FIELD")])),((.str "fresh"),(.tuple [(.str "X"),(.str "KIND")])),((.str "own"),(.tuple [(.str "X"),(.str "Y"),(.str "FIELD")])),((.str "place"),(.tuple [(.str "Y"),(.str "FIELD"),(.str "X")]))]
def oH:List (PyData×PyData):=[((.str "choose"),(.tuple [])),((.str "some"),(.tuple [(.str "X")])),((.str "same"),(.tuple [(.str "X"),(.str "Y")]))]
abbrev Hr:Stmt:=nZ 39
def jm:fu->Option gI :=
(fy (fL (gd [2] (d2 gW (d2 f6 (d2 ue (fh 3) (zI 48271)) (fh 4)) (zI 2147483647))) 3)
(i9 (jJ (yN (fh 1)) (fB (d2 kQ (fh 0) (jy (fx (zI 0) (zQ (zI (-1))))))))
(fy (gz (.sl 2) (gd [2] (d2 gW (fh 0) (zI 5040))))
(fL (gd [2] (d2 yh (fh 0) (zI 5040))) 0))
(gz (.sl 2) (gd [2] (d2 gW (d2 ue (d2 gW (d2 ue (fh 3) (zI 69621)) (zI 99991)) (zI 16807)) (zI 99989))))))
def Hs:fu->Option gI :=
(fy (jA (gd [2] (fH fD)) 2)
(fy (fL (gd [2] (d2 f6 (d2 gW (fh 0) (zI 1000000007)) (zI 1))) 3)
(fy (lj (Aj [2] (jG (zI 14))) (.one 4) jm)
(gu (fh 2)))))
def nj:Lp->Od:=jq ["_law_cell","_law_digits","_law_found","_law_number","_law_k"] Hs
abbrev EY:Stmt:=nZ 40
def iR:fu->Option Bool:=(Ah (fB (d2 Qq (fh 1) (dC .none))) (fB (d2 qh (fh 0) (jy (zC "g" (zC "h" fD))))))
def iS:fu->Od:=(fh 0)
def iT:fu->Option gI :=
(fy (fL (gd [1] (dC .none)) 3)
(fy (i9 (jJ (fB (d2 Ap (fh 2) (zI 0))) (fB (d2 Ap (d2 gW (zX (fh 0) (fh 2)) (zI 3)) (zI 0))))
(fL (gd [1] (zX (fH (zC "ka" (zC "kb" fD))) (d2 gW (zX (fh 0) (d2 f6 (zI 2) (fh 2))) (fh 2)))) 3)
gK)
(fy (fL (gd [1] (gX (zX (fH (fx (fH (zC "f" (zC "u" fD))) (fx (fH (zC "g" (zC "f" fD))) (zQ (fH (zC "h" (zC "u" fD))))))) (fh 2)) iK (ig (d2 gW (zX (fh 0) (d2 f6 (zI 5) (fh 2))) (zI 3))))) 4)
(fy (fL (gd [1] (iL (lL (fh 4)) [(3,"_law_elder")] iR iS)) 4)
(gz (.sl 1) (gd [1] (jy (fx (zX (fH (zC "ka" (zC "kb" (zC "kc" fD)))) (fh 2)) (fx (fh 3) (zQ (fh 4)))))))))))
def sv:fu->Option gI :=
(fy (jA (gd [1] (fH fD)) 1)
(fy (lj (Aj [1] (jG (d2 f6 (zI 1) (d2 gW (zX (fh 0) (zI 0)) (zI 3))))) (.one 2) iT)
(gu (fh 1))))
def nP:Lp->Od:=jq ["_law_draw_here","_law_kinds_here","_law_k","_law_elder","_law_own"] sv
abbrev EZ:Stmt:=nZ 41
def mB:fu->Option Bool:=(fun _=>some true)
def mD:fu->Od:=(zX (fh 0) (zI 0))
def oW:fu->Option gI :=
(fy (fL (gd [2] (gX (fH (zC "p" (zC "q" fD))) iK (ig (d2 gW (zX (fh 0) (d2 f6 (zI 1) (fh 3))) (zI 3))))) 4)
(fy (fL (gd [2] (d2 f6 (d2 f6 (zX (zX (fh 1) (d2 gW (zX (fh 0) (d2 f6 (zI 4) (fh 3))) (zN (fh 1)))) (zI 0)) (zA ".")) (zX (fH (zC "m" (zC "n" fD))) (d2 gW (zX (fh 0) (d2 f6 (zI 7) (fh 3))) (zI 2))))) 5)
(i9 (jJ (fB (d2 jC (d2 gW (zX (fh 0) (d2 f6 (zI 10) (fh 3))) (zI 2)) (zI 0))) (fB (d2 kQ (fh 5) (iL (lL (fh 2)) [] mB mD))))
(gz (.sl 2) (gd [2] (jy (fx (fh 5) (fx (fh 4) (zQ (fH fD)))))))
(gz (.sl 2) (gd [2] (jy (fx (zX (fH (zC "fa" (zC "fb" (zC "fc" fD)))) (fh 3)) (fx (fh 4) (zQ (gX (fH (zC "k" (zC "l" fD))) iK (ig (d2 gW (zX (fh 0) (d2 f6 (zI 7) (fh 3))) (zI 3)))))))))))))
def sx:fu->Option gI :=
(fy (jA (gd [2] (fH fD)) 2)
(fy (lj (Aj [2] (jG (d2 gW (zX (fh 0) (zI 0)) (zI 4)))) (.one 3) oW)
(gu (fh 2))))
def pR:Lp->Od:=jq ["_law_draw_here","_law_kinds_here","_law_heads_here","_law_k","_law_params","_law_method"] sx
abbrev E1:Stmt:=nZ 51
def mE:fu->Option Bool:=(fun _=>some true)
def mH:fu->Od:=(MM (fH fD))
def oX:fu->Option gI :=
(fy (i9 (jJ (fB (d2 jC (d2 gW (zX (fh 4) (zI 13)) (zI 6)) (zI 5))) (fB (d2 Ag (fh 3) (fh 1))))
(fL (gd [2,99] (d2 f6 (fh 3) (zI 1))) 3)
gK)
(Hq (.sl 2) (gd [2,99] (fh 3)) (gd [2,99] (fh 4))))
def sy:fu->Option gI :=
(fy (jA (gd [2,99] (iL (jG (d2 f6 (fh 1) (zI 1))) [] mE mH)) 2)
(fy (fL (gd [2,99] (zI 0)) 3)
(fy (lj (Aj [2,99] (sj (fh 0))) (.one 4) oX)
(gu (fh 2)))))
def pS:Lp->Od:=jq ["_law_draws","_law_many","_law_parts_here","_law_at","_law_draw_here"] sy
abbrev E2:Stmt:=nZ 49
def oY:fu->Option Bool:=(fB (d2 kQ (zA ".") (zX (fh 0) (zI 0))))
def oZ:fu->Od:=(fh 0)
def sC:fu->Option gI :=
(fy (i9 (fB (d2 oB (zX (fh 0) (zI 0)) (zA "main")))
(gu (fH fD))
gK)
(fy (jA (gd [4] (fH (zQ (fH (zC "new" (zC "x" (zQ (zX (zX (fh 2) (d2 gW (zX (fh 1) (zI 0)) (zN (fh 2)))) (zI 0))))))))) 4)
(fy (fL (gd [4] (iL (lL (fh 3)) [] oY oZ)) 5)
(fy (i9 (fB (d2 oB (fh 5) (fH fD)))
(fy (fL (gd [4] (zX (fh 5) (d2 gW (zX (fh 1) (zI 1)) (zN (fh 5))))) 6)
(gz (.sl 4) (gd [4] (d2 f6 (fH (zC "func" (zC "y" (zQ (zX (fh 6) (zI 0)))))) (gX (fH (zC "x" (zC "z" fD))) iK (ig (zN (zX (fh 6) (zI 2)))))))))
gK)
(gu (fh 4))))))
def lV:Lp->Od:=jq ["_law_head","_law_draw_here","_law_kinds_here","_law_heads_here","_law_rows","_law_funcs","_law_one"] sC
abbrev Az:Stmt:=nZ 38
def qj:fu->Option gI :=
(fy (i9 (fB (d2 Ag (fh 1) (zN (fh 0))))
(gu (zX (fh 0) (fh 1)))
gK)
(gu (zI 0)))
def hZ:Lp->Od:=jq ["_law_script","_law_k"] qj
abbrev yP:Stmt:=nZ 42
def o4:fu->Option gI :=
(fy (i9 (fB (d2 qh (zA ".") (zX (fh 0) (zI 0))))
(fy (Bt (gd [] (rO lQ (zX (fh 0) (zI 0)) (zC "." fD))) (.many [1,2,3]))
(gu (rO jX (zA " ") (zQ (d2 f6 (fH (zC "method" (fx (fh 1) (zQ (fh 3))))) (zX (fh 0) (zI 1)))))))
gK)
(fy (fL (gd [] (d2 f6 (fH (zC "func" (zQ (zX (fh 0) (zI 0))))) (zX (fh 0) (zI 1)))) 4)
(fy (i9 (fB (d2 oB (zX (fh 0) (zI 2)) (fH fD)))
(fL (gd [] (d2 f6 (d2 f6 (fh 4) (fH (zC "keeps" fD))) (zX (fh 0) (zI 2)))) 4)
gK)
(gu (rO jX (zA " ") (zQ (fh 4)))))))
def iU:Lp->Od:=jq ["_law_head","_law_kind","_law_dot","_law_method","_law_row"] o4
abbrev E3:Stmt:=nZ 43
def sD:fu->Option gI :=
(fy (fL (gd [] (d2 f6 (d2 f6 (zX (fh 0) (zI 1)) (zX (fh 0) (zI 2))) (fH (zC "x" (zC "y" (zC "z" fD)))))) 1)
(fy (i9 (fB (d2 qh (zA ".") (zX (fh 0) (zI 0))))
(fL (gd [] (d2 f6 (fh 1) (fH (zC "self" fD)))) 1)
gK)
(gu (fh 1))))
def jY:Lp->Od:=jq ["_law_head","_law_names_here"] sD
abbrev Ht:Stmt:=nZ 48
def uD:fu->Option gI :=
(fy (fL (gd [] (fH (zC "new" (zC "copy" (zC "take" (zC "put" (zC "ask" (zC "do" (zC "new" (zC "func" (zC "tell" (zC "if" (zC "while" (zC "end" (zC "else" (zC "push" fD)))))))))))))))) 2)
(fy (fL (gd [] (d2 f6 (fh 2) (fH (zC "pull" (zC "row" (zC "give" (zC "take" (zC "put" (zC "ask" (zC "do" (zC "end" (zC "rest" (zC "copy" fD))))))))))))) 2)
(fy (i9 (yN (fh 1))
(fL (gd [] (d2 f6 (fh 2) (fH (zC "straight" (zC "check" (zC "fresh" (zC "own" (zC "place" fD)))))))) 2)
gK)
(gu (zX (fh 2) (d2 gW (zX (fh 0) (zI 0)) (zN (fh 2))))))))
def lS:Lp->Od:=jq ["_law_draw_here","_law_wide","_law_some"] uD
abbrev xw:Stmt:=nZ 47
def n4:fu->Option gI :=
(fy (fL (gd [] (zX (fh 1) (d2 gW (zX (fh 0) (zI 1)) (zN (fh 1))))) 2)
(fy (i9 (fB (d2 jC (d2 gW (zX (fh 0) (zI 3)) (zI 3)) (zI 0)))
(gu (fH (zC "choose" fD)))
gK)
(fy (i9 (fB (d2 jC (d2 gW (zX (fh 0) (zI 3)) (zI 3)) (zI 1)))
(gu (fH (zC "some" (zQ (fh 2)))))
gK)
(gu (fH (zC "same" (fx (fh 2) (zQ (zX (fh 1) (d2 gW (zX (fh 0) (zI 2)) (zN (fh 1))))))))))))
def iF:Lp->Od:=jq ["_law_draw_here","_law_names_here","_law_x"] n4
abbrev C6:Stmt:=nZ 44
def n5:fu->Option Bool:=(fun _=>some true)
def lF:fu->Od:=(zX (fh 1) (d2 gW (d2 f6 (zX (fh 2) (d2 f6 (zI 8) (fh 0))) (d2 ue (zI 5) (fh 0))) (zN (fh 1))))
def oI:fu->Option gI :=
(gu (iL (jG (fh 2)) [(1,"_law_names_here"),(0,"_law_draw_here")] n5 lF))
def iO:Lp->Od:=jq ["_law_draw_here","_law_names_here","_law_many"] oI
abbrev C7:Stmt:=nZ 45
def kf:fu->Option Bool:=(fB (d2 qh (zA ".") (zX (fh 0) (zI 0))))
def kh:fu->Od:=(zX (fh 0) (zI 0))
def qZ:fu->Option gI :=
(fy (fL (gd [] (zX (fh 2) (d2 gW (zX (fh 1) (zI 1)) (zN (fh 2))))) 4)
(fy (fL (gd [] (zX (fh 2) (d2 gW (zX (fh 1) (zI 2)) (zN (fh 2))))) 5)
(fy (fL (gd [] (zX (fH (fx (zI 0) (fx (zI 1) (fx (zI 1) (zQ (zI 2)))))) (d2 gW (zX (fh 1) (zI 7)) (zI 4)))) 6)
(fy (fL (gd [] (iL (lL (fh 3)) [] kf kh)) 7)
(fy (i9 (fB (d2 jC (fh 0) (zA "ask")))
(gu (d2 f6 (fH (zC "ask" (fx (fh 4) (fx (fh 5) (zQ (zX (fH (zC "m" (zC "n" fD))) (d2 gW (zX (fh 1) (zI 5)) (zI 2)))))))) (jg 3 iO (fx (fh 1) (fx (fh 2) (zQ (fh 6)))))))
gK)
(fy (i9 (jJ (fB (d2 jC (fh 0) (zA "straight"))) (fB (d2 oB (fh 7) (fH fD))))
(fy (Bt (gd [] (rO lQ (zX (fh 7) (d2 gW (zX (fh 1) (zI 5)) (zN (fh 7)))) (zC "." fD))) (.many [8,9,10]))
(gu (d2 f6 (fH (zC "straight" (fx (fh 4) (fx (fh 5) (fx (fh 8) (zQ (fh 10))))))) (jg 3 iO (fx (fh 1) (fx (fh 2) (zQ (fh 6))))))))
gK)
(gu (d2 f6 (fH (zC "do" (fx (fh 4) (zQ (fh 5))))) (jg 3 iO (fx (fh 1) (fx (fh 2) (zQ (fh 6)))))))))))))
def j6:Lp->Od:=jq ["_law_word_here","_law_draw_here","_law_names_here","_law_heads_here","_law_x","_law_y","_law_many","_law_methods","_law_kind","_law_dot","_law_method"] qZ
abbrev E4:Stmt:=nZ 46
def mI:fu->Option Bool:=(fB (d2 kQ (zA ".") (zX (fh 0) (zI 0))))
def o5:fu->Od:=(fh 0)
def pT:fu->Option gI :=
(fy (fL (gd [] (zX (fh 2) (d2 gW (zX (fh 1) (zI 1)) (zN (fh 2))))) 5)
(fy (fL (gd [] (zX (fh 2) (d2 gW (zX (fh 1) (zI 2)) (zN (fh 2))))) 6)
(fy (fL (gd [] (zX (fH (zC "f" (zC "g" (zC "h" (zC "u" (zC "v" fD)))))) (d2 gW (zX (fh 1) (zI 4)) (zI 5)))) 7)
(fy (fL (gd [] (iL (lL (fh 4)) [] mI o5)) 8)
(fy (i9 (fB (d2 qh (fh 0) (jy (zC "new" (zC "fresh" fD)))))
(gu (fH (fx (fh 0) (fx (fh 5) (zQ (zX (zX (fh 3) (d2 gW (zX (fh 1) (zI 5)) (zN (fh 3)))) (zI 0)))))))
gK)
(fy (i9 (jJ (fB (d2 jC (fh 0) (zA "func"))) (fB (d2 oB (fh 8) (fH fD))))
(fy (fL (gd [] (zX (fh 8) (d2 gW (zX (fh 1) (zI 5)) (zN (fh 8))))) 9)
(gu (d2 f6 (fH (zC "func" (fx (fh 5) (zQ (zX (fh 9) (zI 0)))))) (jg 3 iO (fx (fh 1) (fx (fh 2) (zQ (zN (zX (fh 9) (zI 2))))))))))
gK)
(fy (i9 (fB (d2 qh (fh 0) (jy (zC "row" (zC "give" (zC "tell" fD))))))
(gu (fH (fx (fh 0) (zQ (fh 5)))))
gK)
(fy (i9 (fB (d2 qh (fh 0) (jy (zC "take" (zC "own" fD)))))
(gu (fH (fx (fh 0) (fx (fh 5) (fx (fh 6) (zQ (fh 7)))))))
gK)
(fy (i9 (fB (d2 qh (fh 0) (jy (zC "put" (zC "place" fD)))))
(gu (fH (fx (fh 0) (fx (fh 6) (fx (fh 7) (zQ (fh 5)))))))
gK)
(fy (i9 (fB (d2 jC (fh 0) (zA "check")))
(gu (fH (zC "check" (fx (fh 6) (zQ (fh 7))))))
gK)
(fy (i9 (fB (d2 qh (fh 0) (jy (zC "push" (zC "pull" fD)))))
(gu (fH (fx (fh 0) (fx (fh 5) (zQ (fh 6))))))
gK)
(fy (i9 (fB (d2 jC (fh 0) (zA "rest")))
(gu (fH (zC "rest" fD)))
gK)
(gu (fH (zC "copy" (fx (fh 5) (zQ (fh 6))))))))))))))))))
def kS:Lp->Od:=jq ["_law_word_here","_law_draw_here","_law_names_here","_law_kinds_here","_law_heads_here","_law_x","_law_y","_law_field","_law_funcs","_law_head"] pT
abbrev Hu:Stmt:=nZ 50
def nF:fu->Option Bool:=(fun _=>some true)
def nH:fu->Od:=(rO jX (zA " ") (zQ (fh 0)))
def nJ:fu->Option gI :=
(fy (fL (gd [7,8] (jg 2 lS (fx (fh 9) (zQ (fh 4))))) 10)
(i9 (jJ (fB (d2 qh (fh 10) (jy (zC "if" (zC "while" fD))))) (fB (d2 Ag (zN (fh 8)) (zI 8))))
(fy (gz (.sl 7) (gd [7,8] (rO jX (zA " ") (zQ (d2 f6 (fH (zQ (fh 10))) (jg 2 iF (fx (fh 9) (zQ (fh 6)))))))))
(gz (.sl 8) (gd [7,8] (fh 10))))
(i9 (jJ (fB (d2 jC (fh 10) (zA "end"))) (fB (d2 oB (fh 8) (fH fD))))
(fy (Kk (.sl 8))
(gz (.sl 7) (gd [7,8] (zA "end"))))
(i9 (jJ (fB (d2 jC (fh 10) (zA "else"))) (jJ (fB (d2 oB (fh 8) (fH fD))) (fB (d2 jC (zX (fh 8) (zI (-1))) (zA "if")))))
(fy (si (.sl 8) (gd [7,8] (zI (-1))) (gd [7,8] (zA "else")))
(gz (.sl 7) (gd [7,8] (zA "else"))))
(i9 (fB (d2 qh (fh 10) (jy (zC "ask" (zC "do" (zC "straight" fD))))))
(gz (.sl 7) (gd [7,8] (rO jX (zA " ") (zQ (jg 4 j6 (fx (fh 10) (fx (fh 9) (fx (fh 6) (zQ (fh 3))))))))))
(gz (.sl 7) (gd [7,8] (rO jX (zA " ") (zQ (jg 5 kS (fx (fh 10) (fx (fh 9) (fx (fh 6) (fx (fh 2) (zQ (fh 3))))))))))))))))
def uE:fu->Option gI :=
(fy (fL (gd [7,8] (jg 1 jY (zQ (fh 0)))) 6)
(fy (jA (gd [7,8] (iL (lL (fh 5)) [] nF nH)) 7)
(fy (jA (gd [7,8] (fH fD)) 8)
(fy (lj (Aj [7,8] (sj (fh 1))) (.one 9) nJ)
(gu (d2 f6 (fh 7) (d2 Ng (fH (zC "end" fD)) (zN (fh 8)))))))))
def lT:Lp->Od:=jq ["_law_head","_law_draws","_law_kinds_here","_law_heads_here","_law_wide","_law_begun_here","_law_names_here","_law_rows","_law_nest","_law_draw_here","_law_word_here"] uE
abbrev E5:Stmt:=nZ 52
def mJ:fu->Option Bool:=(fun _=>some true)
def kT:fu->Od:=(jg 2 nj (fx (fh 0) (zQ (fh 1))))
def o6:fu->Option gI :=
(fy (fL (gd [9] (fH (zC "kind" (zQ (fh 10))))) 13)
(fy (i9 (fB (d2 pP (fh 11) (dC .none)))
(fL (gd [9] (d2 f6 (fh 13) (fH (zC "of" (zQ (fh 11)))))) 13)
gK)
(gz (.sl 9) (gd [9] (rO jX (zA " ") (zQ (d2 f6 (d2 f6 (fh 13) (gX (fH (zC "fields" fD)) iK (ig (zN (fh 12))))) (fh 12))))))))
def o7:fu->Option gI :=
(fy (gz (.sl 9) (gd [9] (jg 1 iU (zQ (zX (fh 7) (fh 15))))))
(jA (MM (d2 ER (d2 f6 (fh 9) (jg 6 lT (fx (zX (fh 7) (fh 15)) (fx (zX (fh 8) (d2 f6 (fh 15) (zI 1))) (fx (fh 6) (fx (fh 7) (fx (fh 3) (zQ (fH fD))))))))) (fH (zC "end" fD)))) 9))
def sE:fu->Option gI :=
(fy (fL (gd [9] (d2 jC (d2 gW (jg 2 hZ (fx (fh 0) (zQ (zI 0)))) (zI 2)) (zI 0))) 4)
(fy (fL (gd [9] (jg 2 nj (fx (d2 yh (jg 2 hZ (fx (fh 0) (zQ (zI 0)))) (zI 2)) (zQ (fh 4))))) 5)
(fy (fL (gd [9] (jg 1 nP (zQ (fh 5)))) 6)
(fy (fL (gd [9] (jg 2 pR (fx (jg 2 nj (fx (jg 2 hZ (fx (fh 0) (zQ (zI 1)))) (zQ (fh 4)))) (zQ (fh 6))))) 7)
(fy (fL (gd [9] (jg 2 pS (fx (iL (lL (gX (fh 0) (ig (fh 1)) (ig (fh 2)))) [(4,"_law_digits")] mJ kT) (zQ (zN (fh 7)))))) 8)
(fy (jA (gd [9] (fH fD)) 9)
(fy (lj (Aj [9] (sj (fh 6))) (.many [10,11,12]) o6)
(fy (fL (gd [9] (jy (zC "main" (fx (fH fD) (zQ (fH fD)))))) 14)
(fy (lj (Aj [9] (jG (zN (fh 7)))) (.one 15) o7)
(fy (fL (gd [9] (jg 4 lV (fx (fh 14) (fx (fh 5) (fx (fh 6) (zQ (fh 7))))))) 16)
(gu (d2 f6 (d2 f6 (d2 f6 (fh 9) (fH (zC "main" fD))) (jg 6 lT (fx (fh 14) (fx (zX (fh 8) (zI 0)) (fx (fh 6) (fx (fh 7) (fx (fh 3) (zQ (fh 16))))))))) (fH (zC "end" fD))))))))))))))
def pU:Lp->Od:=jq ["_law_script","_law_start","_law_stop","_law_wide","_law_digits","_law_first","_law_kinds_here","_law_heads_here","_law_parts_here","_law_lines_here","_law_name","_law_elder","_law_own","_law_row","_law_main","_law_k","_law_begun_here"] sE
abbrev yQ:Stmt:=pJ (nZ 26) 0
def yR:fu->Option gI :=
(fy (EA 0 "Reading" "fields" (gd [0] (dC (.dict []))))
(fy (EA 0 "Reading" "heads" (gd [0] (dC (.dict []))))
(fy (jW 0 "Reading" "body" (gd [0] (dC .none)))
(fy (EA 0 "Reading" "blocks" (gd [0] (fH fD)))
(fy (jW 0 "Reading" "over" (gd [0] (dC (.bool false))))
(EA 0 "Reading" "later" (gd [0] (fH fD))))))))
def o8:Lp->Option (PyData×PyData):=qE ["self"] yR
abbrev AA:Stmt:=nZ 7
def ql:fu->Option gI :=
(gu (dFs (EE (XM (fh 0)) (EE (zA ".") (EE (XM (fh 1)) (fun _=>some Str.empty))))))
def kn:Lp->Od:=jq ["kind","method"] ql
abbrev E6:Stmt:=nZ 8
def sF:fu->Option gI :=
(fy (i9 (fB (d2 jC (zX (fh 0) (zI 0)) (zA "method")))
(gu (jg 2 kn (fx (zX (fh 0) (zI 1)) (zQ (zX (fh 0) (zI 2))))))
gK)
(fy (i9 (fB (d2 jC (zX (fh 0) (zI 0)) (zA "func")))
(gu (zX (fh 0) (zI 1)))
gK)
(gu (zA "main"))))
def iA:Lp->Od:=jq ["head"] sF
abbrev xx:Stmt:=nZ 23
def gk:fu->Option gI :=
(fy (fL (gd [1] (rO lP (fh 5) (zC " " fD))) 6)
(i9 (fB (d2 jC (zX (fh 6) (zI 0)) (zA "end")))
(Kl 3 (fun i j=>i - j) (gd [1] (zI 1)))
(i9 (fB (d2 Ap (fh 3) (zI 0)))
(fy (i9 (fB (d2 oB (zX (fh 6) (zI 0)) (zA "else")))
(si (.sl 1) (Gd (zN (fh 1))) (gd [1] (jy (fx (fh 4) (fx (fh 6) (zQ (fh 2)))))))
gK)
(i9 (fB (d2 qh (zX (fh 6) (zI 0)) (dC (.tuple [(.str "if"),(.str "while")]))))
(Kl 3 (fun i j=>i+j) (gd [1] (zI 1)))
gK))
(i9 (fB (d2 oB (zX (fh 6) (zI 0)) (zA "kind")))
(fy (fL (gd [1] (jg 1 iA (zQ (fh 6)))) 2)
(fL (gd [1] (zI 1)) 3))
gK))))
def rD:fu->Option gI :=
(fy (jA (gd [1] (dC (.dict []))) 1)
(fy (fL (gd [1] (dC .none)) 2)
(fy (fL (gd [1] (zI 0)) 3)
(fy (lj (Aj [1] (Je (rO lP (fh 0) (zC "\n" fD)))) (.many [4,5]) gk)
(gu (fh 1))))))
def ki:Lp->Od:=jq ["text","rows","body","depth","line","row","words"] rD
abbrev xy:Stmt:=pJ (nZ 22) 1
def rE:fu->Option gI :=
(gu (jt ["Program"] "text" (fh 0)))
def jD:Lp->Od:=jq ["self"] rE
abbrev xA:Stmt:=nZ 9
def o9:fu->Option Bool:=(fun _=>some true)
def pb:fu->Od:=(rO lP (fh 0) (zC " " fD))
def rF:fu->Option gI :=
(gu (iL (lL (rO lP (oV "Program" "shown" 1 jD (fh 0) fD) (zC "\n" fD))) [] o9 pb))
def lG:Lp->Od:=jq ["program"] rF
abbrev C8:Stmt:=nZ 10
def gC:fu->Option gI :=
(i9 (fB (d2 jC (zX (fh 3) (zI 0)) (zA "end")))
(Kl 2 (fun i j=>i - j) (gd [1] (zI 1)))
(i9 (jJ (fB (d2 jC (fh 2) (zI 0))) (fB (d2 oB (zX (fh 3) (zI 0)) (zA "kind"))))
(fy (si (.sl 1) (gd [1] (jg 1 iA (zQ (fh 3)))) (gd [1] (fh 3)))
(fL (gd [1] (zI 1)) 2))
(i9 (fB (d2 qh (zX (fh 3) (zI 0)) (jy (zC "if" (zC "while" fD)))))
(Kl 2 (fun i j=>i+j) (gd [1] (zI 1)))
gK)))
def vh:fu->Option gI :=
(fy (jA (gd [1] (dC (.dict []))) 1)
(fy (fL (gd [1] (zI 0)) 2)
(fy (lj (Aj [1] (sj (jg 1 lG (zQ (fh 0))))) (.one 3) gC)
(gu (fh 1)))))
def mK:Lp->Od:=jq ["program","heads","depth","words"] vh
abbrev yS:Stmt:=pJ (nZ 22) 0
def sI:fu->Option gI :=
(fy (jW 0 "Program" "text" (gd [0] (fh 1)))
(fy (jW 0 "Program" "numbered" (gd [0] (jg 1 ki (zQ (fh 1)))))
(jW 0 "Program" "body_texts" (MM (i6 lR (zQ (jg 1 mK (zQ (fh 0)))))))))
def kU:Lp->Option (PyData×PyData):=qE ["self","text"] sI
abbrev E7:Stmt:=nZ 6
def pV:fu->Option gI :=
(fy (i9 (Ah (fB (d2 oB (zX (fh 0) (zI 0)) (zA "func"))) (fB (d2 kQ (zA "keeps") (gX (fh 0) (ig (zI 2)) iK))))
(gu (fH fD))
gK)
(fy (fL (gd [] (i6 lR (zQ (gX (fh 0) (ig (zI 2)) iK)))) 1)
(gu (u7 (fh 1) (ig (d2 f6 (Qo yJ (fh 1) (zC "keeps" fD)) (zI 1))) iK))))
def iV:Lp->Od:=CI ["head","names"] pV
abbrev sL:Stmt:=nZ 36
def kW:fu->Option gI :=
(fy (i9 (fB (d2 jC (jt ["Row"] "word" (fh 1)) (zA "straight")))
(gu (d2 qh (jg 2 kn (fx (jt ["Row"] "kind" (fh 1)) (zQ (jt ["Row"] "method" (fh 1))))) (jt ["Reading"] "heads" (fh 0))))
gK)
(fy (i9 (Ah (fB (d2 jC (jt ["Row"] "function" (fh 1)) (zA "main"))) (fB (d2 kQ (jt ["Row"] "function" (fh 1)) (jt ["Reading"] "heads" (fh 0)))))
(gu (dC (.bool false)))
gK)
(gu (d2 jC (zN (jg 1 iV (zQ (zX (jt ["Reading"] "heads" (fh 0)) (jt ["Row"] "function" (fh 1)))))) (zN (jt ["Row"] "handed" (fh 1)))))))
def iW:Lp->Od:=jq ["reading","row"] kW
abbrev KH:Stmt:=nZ 19
def KJ:fu->Option gI :=
(fy (i9 (fB (d2 qh (zX (fh 0) (zI 0)) (dC (.tuple [(.str "if"),(.str "while")]))))
(fy (i9 (jJ (fB (d2 Ap (zN (fh 0)) (zI 1))) (fB (fun ρ=>((zX (fh 0) (zI 1)) ρ).bind (Nb oH))))
(gu (d2 f6 (jy (zC "CONDITION" fD)) (fun ρ=>((zX (fh 0) (zI 1)) ρ).bind (Nc oH))))
gK)
(gu (dC .none)))
gK)
(gu (fun ρ=>((zX (fh 0) (zI 0)) ρ).bind (SA C5))))
def tE:Lp->Od:=jq ["words"] KJ
abbrev Hv:Stmt:=nZ 20
def AB:fu->Option gI :=
(gz (.sl 1) (gd [1] (zA "A")))
def Hw:fu->Option gI :=
(fy (jA (gd [1] (i6 lR (zQ (jg 1 tE (zQ (fh 0)))))) 1)
(fy (MR (fB (d2 Ag (zN (fh 1)) (d2 Pt (zN (fh 0)) (zI 1)))) AB)
(gu (d2 XZ (fh 1) (gX (fh 0) (ig (zI 1)) iK)))))
def q8:Lp->Od:=jq ["words","form"] Hw
abbrev Hx:Stmt:=pJ (nZ 15) 0
def AE:fu->Option Bool:=(fB (d2 jC (fh 0) (zA "A")))
def AF:fu->Od:=(fh 1)
def AG:fu->Option Bool:=(fB (d2 qh (fh 0) (jy (zC "X" (zC "Y" (zC "A" fD))))))
def AH:fu->Od:=(fh 1)
def Hy:fu->Option gI :=
(fy (fL (gd [0] (i6 CQ (zQ (jg 1 q8 (zQ (fh 1)))))) 2)
(fy (jW 0 "Row" "word" (gd [0] (zX (fh 1) (zI 0))))
(fy (jW 0 "Row" "condition" (gd [0] (d2 qg (fh 2) (zA "CONDITION"))))
(fy (jW 0 "Row" "x" (gd [0] (d2 qg (fh 2) (zA "X"))))
(fy (jW 0 "Row" "y" (gd [0] (d2 qg (fh 2) (zA "Y"))))
(fy (jW 0 "Row" "kind" (gd [0] (d2 qg (fh 2) (zA "KIND"))))
(fy (jW 0 "Row" "field" (gd [0] (d2 qg (fh 2) (zA "FIELD"))))
(fy (jW 0 "Row" "method" (gd [0] (d2 qg (fh 2) (zA "METHOD"))))
(fy (jW 0 "Row" "function" (gd [0] (d2 qg (fh 2) (zA "FUNCTION"))))
(fy (jW 0 "Row" "handed" (gd [0] (CY (lL (jg 1 q8 (zQ (fh 1)))) [] AE AF)))
(jW 0 "Row" "names" (gd [0] (CY (lL (jg 1 q8 (zQ (fh 1)))) [] AG AH)))))))))))))
def uF:Lp->Option (PyData×PyData):=qE ["self","words","parts"] Hy
abbrev AI:Stmt:=nZ 34
def nK:fu->Option gI :=
(fy (i9 (yN (jt ["Reading"] "blocks" (fh 0)))
(fy (Kk (.fl 0 "Reading" "blocks"))
MT)
gK)
(fy (jW 0 "Reading" "over" (Gd (d2 jC (jt ["Reading"] "body" (fh 0)) (zA "main"))))
(jW 0 "Reading" "body" (gd [0] (dC .none)))))
def ko:Lp->Option (PyData×PyData):=qE ["reading"] nK
abbrev xB:Stmt:=nZ 35
def n6:fu->Option gI :=
(fy (i9 (Ah (vS (yN (jt ["Reading"] "blocks" (fh 0)))) (fB (d2 oB (zX (jt ["Reading"] "blocks" (fh 0)) (zI (-1))) (zA "if"))))
(ou (dC (.bool false)))
gK)
(fy (si (.fl 0 "Reading" "blocks") (gd [0] (zI (-1))) (gd [0] (zA "else")))
(ou (dC (.bool true)))))
def lH:Lp->Option (PyData×PyData):=qE ["reading"] n6
abbrev C9:Stmt:=nZ 16
def kj:fu->Option gI :=
(i9 (vS (yH vc vc (zA "a") (fh 1) (zA "z")))
(gu (dC (.bool false)))
gK)
def vi:fu->Option gI :=
(fy (lj (Aj [] (sj (fh 0))) (.one 1) kj)
(gu (d2 oB (fh 0) (zA ""))))
def oJ:Lp->Od:=jq ["word","sign"] vi
abbrev KL:Stmt:=nZ 17
def BI:fu->Option gI :=
(gu (rB (d2 vc (zN (fh 0)) (zI 8)) (jg 1 oJ (zQ (fh 0)))))
def oP:Lp->Od:=jq ["word"] BI
abbrev Nn:Stmt:=nZ 18
def wZ:fu->Option Bool:=(fun _=>some true)
def w9:fu->Od:=(jg 1 oP (zQ (fh 0)))
def Np:fu->Option gI :=
(fy (i9 (Ah (vS (yN (fh 0))) (vS (yN (i6 Qp (zQ (iL (lL (fh 0)) [] wZ w9))))))
(gu (dC (.bool false)))
gK)
(fy (fL (gd [] (jg 1 tE (zQ (fh 0)))) 1)
(fy (i9 (fB (d2 Qq (fh 1) (dC .none)))
(gu (dC (.bool false)))
gK)
(fy (i9 (jJ (yN (fh 1)) (fB (d2 jC (zX (fh 1) (zI (-1))) (zA "A"))))
(gu (d2 dGe (zN (fh 0)) (zN (fh 1))))
gK)
(gu (d2 jC (zN (fh 0)) (d2 f6 (zN (fh 1)) (zI 1))))))))
def vj:Lp->Od:=jq ["words","form"] Np
abbrev yT:Stmt:=nZ 33
def jR:fu->Option gI :=
(fy (i9 (fB (d2 jC (fh 2) (fH (zC "end" fD))))
(fy (GY (yF [0] 0 1 ko fD))
(ou (dC (.bool true))))
gK)
(fy (i9 (fB (d2 jC (fh 2) (fH (zC "else" fD))))
(EC (yF [0] 0 1 lH fD))
gK)
(fy (i9 (vS (yN (jg 1 vj (zQ (fh 2)))))
(ou (dC (.bool false)))
gK)
(fy (fL (gd [0] (Bu "Row" 2 uF (zQ (fh 2)))) 3)
(fy (i9 (jJ (fB (d2 pP (jt ["Row"] "kind" (fh 3)) (dC .none))) (fB (d2 kQ (jt ["Row"] "kind" (fh 3)) (jt ["Reading"] "fields" (fh 0)))))
(ou (dC (.bool false)))
gK)
(fy (i9 (fB (d2 qh (jt ["Row"] "word" (fh 3)) (dC (.tuple [(.str "if"),(.str "while")]))))
(gz (.fl 0 "Reading" "blocks") (gd [0] (jt ["Row"] "word" (fh 3))))
gK)
(fy (i9 (fB (d2 qh (jt ["Row"] "word" (fh 3)) (jy (zC "func" (zC "straight" fD)))))
(gz (.fl 0 "Reading" "later") (gd [0] (jy (fx (fh 1) (zQ (fh 3))))))
gK)
(ou (d2 vc (zN (jt ["Reading"] "blocks" (fh 0))) (zI 8))))))))))
def hG:Lp->Option (PyData×PyData):=qE ["reading","line","words","row"] jR
abbrev Hz:Stmt:=nZ 32
def yU:fu->Option gI :=
(gu (d2 jC (CW (fh 0)) (zN (fh 0))))
def nq:Lp->Od:=jq ["names"] yU
abbrev Dc:Stmt:=nZ 29
def q9:fu->Option gI :=
(fy (i9 (Ah (yN (jt ["Reading"] "heads" (fh 0))) (Ah (fB (d2 Ag (zN (fh 1)) (zI 2))) (fB (d2 qh (zX (fh 1) (zI 1)) (jt ["Reading"] "fields" (fh 0))))))
(ou (dC (.bool false)))
gK)
(fy (fL (gd [0,3] (gX (fh 1) (ig (zI 2)) iK)) 2)
(fy (jA (gd [0,3] (fH fD)) 3)
(fy (i9 (jJ (yN (fh 2)) (fB (d2 jC (zX (fh 2) (zI 0)) (zA "of"))))
(fy (i9 (Ah (fB (d2 Ag (zN (fh 2)) (zI 2))) (fB (d2 kQ (zX (fh 2) (zI 1)) (jt ["Reading"] "fields" (fh 0)))))
(ou (dC (.bool false)))
gK)
(fy (jA (MM (i6 lR (zQ (zX (jt ["Reading"] "fields" (fh 0)) (zX (fh 2) (zI 1)))))) 3)
(fL (gd [0,3] (gX (fh 2) (ig (zI 2)) iK)) 2)))
gK)
(fy (i9 (jJ (yN (fh 2)) (Ah (fB (d2 oB (zX (fh 2) (zI 0)) (zA "fields"))) (fB (d2 Ag (zN (fh 2)) (zI 2)))))
(ou (dC (.bool false)))
gK)
(fy (CC (.sl 3) (gd [0,3] (u7 (fh 2) (ig (zI 1)) iK)))
(Qs 3 (fy (si (.fl 0 "Reading" "fields") (gd [0] (zX (fh 1) (zI 1))) (gd [0] (fh 3)))
(ou (jg 1 nq (zQ (fh 3))))))))))))
def oK:Lp->Option (PyData×PyData):=qE ["reading","words","behind","fields"] q9
abbrev AJ:Stmt:=nZ 5
def nL:fu->Option gI :=
(fy (i9 (fB (d2 jC (zX (fh 0) (zI 0)) (zA "method")))
(gu (i6 lR (zQ (gX (fh 0) (ig (zI 3)) iK))))
gK)
(fy (jA (gd [1] (i6 lR (zQ (gX (fh 0) (ig (zI 2)) iK)))) 1)
(fy (i9 (fB (d2 qh (zA "keeps") (fh 1)))
(gu (u7 (fh 1) iK (ig (Qo yJ (fh 1) (zC "keeps" fD)))))
gK)
(gu (fh 1)))))
def jL:Lp->Od:=CI ["head","names"] nL
abbrev vk:Stmt:=nZ 31
def kI:fu->Option gI :=
(fy (i9 (jJ (fB (d2 jC (zX (fh 0) (zI 0)) (zA "func"))) (jJ (fB (d2 qh (zA "keeps") (gX (fh 0) (ig (zI 2)) iK))) (vS (yN (jg 1 iV (zQ (fh 0)))))))
(gu (dC (.bool false)))
gK)
(fy (fL (gd [] (d2 f6 (jg 1 jL (zQ (fh 0))) (jg 1 iV (zQ (fh 0))))) 1)
(gu (rB (d2 kQ (zA "self") (fh 1)) (jg 1 nq (zQ (fh 1)))))))
def gM:Lp->Od:=jq ["words","names"] kI
abbrev KN:Stmt:=nZ 30
def we:fu->Option gI :=
(fy (i9 (fB (d2 jC (zX (fh 1) (zI 0)) (zA "func")))
(gu (rB (d2 Ap (zN (fh 1)) (zI 1)) (rB (d2 oB (zX (fh 1) (zI 1)) (zA "main")) (jg 1 gM (zQ (fh 1))))))
gK)
(fy (i9 (fB (d2 jC (zX (fh 1) (zI 0)) (zA "method")))
(gu (rB (d2 Ap (zN (fh 1)) (zI 2)) (rB (d2 qh (zX (fh 1) (zI 1)) (jt ["Reading"] "fields" (fh 0))) (jg 1 gM (zQ (fh 1))))))
gK)
(gu (d2 jC (fh 1) (fH (zC "main" fD))))))
def nu:Lp->Od:=jq ["reading","words"] we
abbrev E8:Stmt:=nZ 28
def nQ:fu->Option gI :=
(fy (i9 (yN (jt ["Reading"] "over" (fh 0)))
(ou (dC (.bool false)))
gK)
(fy (i9 (fB (d2 pP (jt ["Reading"] "body" (fh 0)) (dC .none)))
(EC (yF [0] 0 3 hG (fx (fh 1) (zQ (fh 2)))))
gK)
(fy (i9 (fB (d2 jC (zX (fh 2) (zI 0)) (zA "kind")))
(EC (yF [0] 0 2 oK (zQ (fh 2))))
gK)
(fy (i9 (Ah (vS (yN (jg 2 nu (fx (fh 0) (zQ (fh 2)))))) (fB (d2 qh (jg 1 iA (zQ (fh 2))) (jt ["Reading"] "heads" (fh 0)))))
(ou (dC (.bool false)))
gK)
(fy (jW 0 "Reading" "body" (gd [0] (jg 1 iA (zQ (fh 2)))))
(fy (si (.fl 0 "Reading" "heads") (Gd (jt ["Reading"] "body" (fh 0))) (gd [0] (fh 2)))
(ou (dC (.bool true)))))))))
def iB:Lp->Option (PyData×PyData):=qE ["reading","line","words"] nQ
abbrev yV:Stmt:=nZ 27
def pW:fu->Option Bool:=(fun _=>some true)
def pX:fu->Od:=(rO lP (fh 0) (zC " " fD))
def pY:fu->Option Bool:=(fun _=>some true)
def pZ:fu->Od:=(jg 1 oP (zQ (fh 0)))
def jH:fu->Option gI :=
(Qc (ZK (vS (yN (i6 Qp (zQ (iL (lL (fh 4)) [] pY pZ))))) (UL (hT (yF [1] 1 3 iB (fx (fh 3) (zQ (fh 4)))))))
yB
gK)
def kJ:fu->Option gI :=
(i9 (vS (yN (jg 2 iW (fx (fh 1) (zQ (fh 5))))))
yB
gK)
def sM:fu->Option gI :=
(fy (jA (gd [1] (Bu "Reading" 1 o8 fD)) 1)
(fy (fL (gd [1] (iL (lL (rO lP (fh 0) (zC "\n" fD))) [] pW pX)) 2)
(fy (lj (Aj [1] (Je (fh 2))) (.many [3,4]) jH)
(fy (i9 (vS (yN (jt ["Reading"] "over" (fh 1))))
yB
gK)
(Qs 1 (fy (lj (Aj [] (sj (jt ["Reading"] "later" (fh 1)))) (.many [3,5]) kJ)
(gu (Bu "Program" 2 kU (zQ (fh 0))))))))))
def jS:Lp->Od:=jq ["text","reading","rows","line","words","row"] sM
abbrev Dd:Stmt:=nZ 54
def lI:fu->Option gI :=
(si (.sl 4) (gd [4,6] (zX (fh 2) (fh 5))) (gd [4,6] (zX (fh 3) (d2 gW (d2 f6 (fh 5) (fh 1)) (zI 19)))))
def rG:fu->Option Bool:=(fun _=>some true)
def rH:fu->Od:=(d3 so (fh 1) (fh 0) (fh 0))
def n8:fu->Option gI :=
(fy (fL (gd [4,6] (rO lP (fh 7) (zC " " fD))) 8)
(gz (.sl 6) (Gd (rO jX (zA " ") (zQ (d2 f6 (gX (fh 8) iK (ig (zI 1))) (iL (lL (gX (fh 8) (ig (zI 1)) iK)) [(4,"_law_names_here")] rG rH)))))))
def rf:fu->Option gI :=
(fy (fL (gd [4,6] (fH (zC "ka" (zC "kb" (zC "kc" (zC "fa" (zC "fb" (zC "fc" (zC "f" (zC "g" (zC "h" (zC "u" (zC "v" (zC "m" (zC "n" (zC "p" (zC "q" (zC "l" (zC "x" (zC "y" (zC "z" (zC "k" fD)))))))))))))))))))))) 2)
(fy (fL (gd [4,6] (fH (zC "end" (zC "else" (zC "if" (zC "while" (zC "row" (zC "of" (zC "fields" (zC "choose" (zC "some" (zC "same" (zC "new" (zC "kind" (zC "func" fD))))))))))))))) 3)
(fy (fL (gd [4,6] (d2 f6 (fh 3) (fH (zC "method" (zC "rest" (zC "copy" (zC "abcdefgh" (zC "z" (zC "ka" fD))))))))) 3)
(fy (jA (gd [4,6] (d2 SF (zA "k") (zA "keeps"))) 4)
(fy (lj (Aj [4,6] (jG (zI 19))) (.one 5) lI)
(fy (jA (gd [4,6] (fH fD)) 6)
(fy (lj (Aj [4,6] (sj (fh 0))) (.one 7) n8)
(gu (fh 6)))))))))
def mO:Lp->Od:=jq ["_law_lines_here","_law_cell","_law_plain_here","_law_others","_law_names_here","_law_k","_law_turned_here","_law_line","_law_words"] rf
abbrev E9:Stmt:=nZ 53
def sN:fu->Option gI :=
(fy (fL (gd [3,7] (zX (zA "abcdefghijklmnopqrst") (fh 5))) 6)
(si (.sl 3) (gd [3,7] (zX (fh 2) (fh 5))) (gd [3,7] (d2 f6 (d2 f6 (gX (zA "strands") iK (ig (fh 4))) (fh 6)) (gX (zA "strands") (ig (fh 4)) iK)))))
def sO:fu->Option Bool:=(fun _=>some true)
def sP:fu->Od:=(d3 so (fh 1) (fh 0) (fh 0))
def pf:fu->Option gI :=
(fy (fL (gd [3,7] (rO lP (fh 8) (zC " " fD))) 9)
(gz (.sl 7) (Gd (rO jX (zA " ") (zQ (d2 f6 (gX (fh 9) iK (ig (zI 1))) (iL (lL (gX (fh 9) (ig (zI 1)) iK)) [(3,"_law_names_here")] sO sP)))))))
def nR:fu->Option gI :=
(fy (fL (gd [3,7] (fH (zC "ka" (zC "kb" (zC "kc" (zC "fa" (zC "fb" (zC "fc" (zC "f" (zC "g" (zC "h" (zC "u" (zC "v" (zC "m" (zC "n" (zC "p" (zC "q" (zC "l" (zC "x" (zC "y" (zC "z" (zC "k" fD)))))))))))))))))))))) 2)
(fy (i9 (fB (d2 jC (d2 gW (d2 yh (fh 1) (zI 8)) (zI 2)) (zI 0)))
(gu (fh 0))
gK)
(fy (jA (gd [3,7] (dC (.dict []))) 3)
(fy (fL (gd [3,7] (d2 gW (fh 1) (zI 8))) 4)
(fy (lj (Aj [3,7] (jG (zI 20))) (.one 5) sN)
(fy (jA (gd [3,7] (fH fD)) 7)
(fy (lj (Aj [3,7] (sj (fh 0))) (.one 8) pf)
(gu (fh 7)))))))))
def lW:Lp->Od:=jq ["_law_lines_here","_law_cell","_law_plain_here","_law_names_here","_law_at","_law_k","_law_sign","_law_turned_here","_law_line","_law_words"] nR
abbrev wg:Stmt:=nZ 55
def ox:fu->Option Bool:=(fun _=>some true)
def oy:fu->Od:=(rO lP (fh 0) (zC " " fD))
def qH:fu->Option gI :=
(gu (iL (lL (fh 0)) [] ox oy))
def lg:Lp->Od:=jq ["_law_lines_here"] qH
abbrev HA:Stmt:=nZ 56
def gA:fu->Option gI :=
(i9 (jJ (fB (d2 jC (fh 3) (zI 0))) (fB (d2 oB (zX (fh 4) (zI 0)) (zA "kind"))))
(fy (gz (.sl 1) (gd [1,2] (zA "main")))
(fy (i9 (fB (d2 jC (zX (fh 4) (zI 0)) (zA "func")))
(si (.sl 1) (gd [1,2] (zI (-1))) (gd [1,2] (zX (fh 4) (zI 1))))
gK)
(fy (i9 (fB (d2 jC (zX (fh 4) (zI 0)) (zA "method")))
(si (.sl 1) (gd [1,2] (zI (-1))) (gd [1,2] (d2 f6 (d2 f6 (zX (fh 4) (zI 1)) (zA ".")) (zX (fh 4) (zI 2)))))
gK)
(fL (gd [1,2] (zI 1)) 3))))
(i9 (fB (d2 jC (fh 4) (fH (zC "end" fD))))
(fL (gd [1,2] (d2 Pt (fh 3) (zI 1))) 3)
(i9 (jJ (fB (d2 Ap (fh 3) (zI 0))) (fB (d2 oB (fh 4) (fH (zC "else" fD)))))
(fy (gz (.sl 2) (jy (fx (gd [1,2] (fh 4)) (zQ (Gd (zX (fh 1) (zI (-1))))))))
(fL (gd [1,2] (d2 f6 (fh 3) (i6 Hm (zQ (d2 qh (zX (fh 4) (zI 0)) (jy (zC "if" (zC "while" fD)))))))) 3))
gK)))
def yW:fu->Option gI :=
(fy (jA (gd [1,2] (fH fD)) 1)
(fy (jA (gd [1,2] (fH fD)) 2)
(fy (fL (gd [1,2] (zI 0)) 3)
(fy (lj (Aj [1,2] (sj (jg 1 lg (zQ (fh 0))))) (.one 4) gA)
(gu (jy (fx (fh 1) (zQ (fh 2)))))))))
def ph:Lp->Od:=jq ["_law_lines_here","_law_bodies","_law_rows","_law_depth","_law_words"] yW
abbrev tV:Stmt:=pJ (nZ 22) 4
def oz:fu->Option gI :=
(gu (i6 lR (zQ (zX (zX (jt ["Program"] "numbered" (fh 0)) (fh 1)) (zI 1)))))
def jN:Lp->Od:=CI ["self","number"] oz
abbrev wj:Stmt:=pJ (nZ 22) 2
def qI:fu->Option gI :=
(gu (i6 lR (zQ (jt ["Program"] "body_texts" (fh 0)))))
def jv:Lp->Od:=CI ["self"] qI
abbrev tW:Stmt:=pJ (nZ 22) 3
def oA:fu->Option gI :=
(gu (zN (jt ["Program"] "numbered" (fh 0))))
def jf:Lp->Od:=jq ["self"] oA
abbrev uG:Stmt:=pJ (nZ 22) 5
def pj:fu->Option gI :=
(gu (zX (zX (jt ["Program"] "numbered" (fh 0)) (fh 1)) (zI 2)))
def j7:Lp->Od:=jq ["self","number"] pj
abbrev Fb:Stmt:=nZ 57
def kX:fu->Option gI :=
(fy (jA (gd [5] (oV "Program" "row_words" 2 jN (fh 0) (zQ (fh 4)))) 5)
(fy (i9 (Ah (vS (yN (Ur "list" (fh 5)))) (Ah (fB (d2 oB (fh 5) (zX (zX (fh 3) (fh 4)) (zI 0)))) (fB (d2 oB (oV "Program" "row_body" 2 j7 (fh 0) (zQ (fh 4))) (zX (zX (fh 3) (fh 4)) (zI 1))))))
(gu (dC (.bool false)))
gK)
(Hn (.sl 5))))
def Fc:fu->Option gI :=
(fy (Bt (gd [5] (jg 1 ph (zQ (fh 1)))) (.many [2,3]))
(fy (i9 (Ah (fB (d2 oB (oV "Program" "shown" 1 jD (fh 0) fD) (rO jX (zA "\n") (zQ (fh 1))))) (Ah (fB (d2 oB (oV "Program" "bodies" 1 jv (fh 0) fD) (fh 2))) (fB (d2 oB (oV "Program" "many_rows" 1 jf (fh 0) fD) (zN (fh 3))))))
(gu (dC (.bool false)))
gK)
(fy (lj (Aj [5] (jG (zN (fh 3)))) (.one 4) kX)
(fy (GV (C3 (oV "Program" "bodies" 1 jv (fh 0) fD)))
(gu (dC (.bool true)))))))
def jZ:Lp->Od:=jq ["_law_program","_law_lines_here","_law_bodies","_law_rows","_law_k","_law_words"] Fc
abbrev Yb:Stmt:=nZ 58
def Yc:fu->Option gI :=
(fy (fL (gd [] (jg 4 pU (fx (fh 0) (fx (zI 3) (fx (zI 63) (zQ (dC (.bool true)))))))) 1)
(fy (fL (gd [] (jg 2 hZ (fx (fh 0) (zQ (zI 2))))) 2)
(fy (i9 (fB (d2 jC (d2 gW (fh 2) (zI 2)) (zI 1)))
(fL (gd [] (jg 2 mO (fx (fh 1) (zQ (d2 yh (fh 2) (zI 2)))))) 1)
(fL (gd [] (jg 2 lW (fx (fh 1) (zQ (d2 yh (fh 2) (zI 2)))))) 1))
(fy (fL (gd [] (jg 1 jS (zQ (rO jX (zA "\n") (zQ (fh 1)))))) 3)
(gu (rB (jg 2 jZ (fx (fh 3) (zQ (fh 1)))) (jg 2 jZ (fx (fh 3) (zQ (fh 1))))))))))
def Nq:Lp->Od:=jq ["_law_script","_law_lines_here","_law_cell","_law_program"] Yc
structure Md (P:Program) (w:World) (K:Fg) (mg:Str->Ow):Prop where
 all:mg "all"=none
 dict:mg "dict"=none
 enumerate:mg "enumerate"=none
 int:mg "int"=none
 isinstance:mg "isinstance"=none
 len:mg "len"=none
 list:mg "list"=none
 range:mg "range"=none
 set:mg "set"=none
 zip:mg "zip"=none
 nT:kG K "Program" "body_texts"
 j8:kG K "Program" "numbered"
 sQ:kG K "Program" "text"
 iC:kG K "Reading" "blocks"
 jT:kG K "Reading" "body"
 iJ:kG K "Reading" "fields"
 jc:kG K "Reading" "heads"
 n9:kG K "Reading" "later"
 mP:kG K "Reading" "over"
 xC:kG K "Row" "condition"
 Fd:kG K "Row" "field"
 mQ:kG K "Row" "function"
 vm:kG K "Row" "handed"
 rg:kG K "Row" "kind"
 vn:kG K "Row" "method"
 Fe:kG K "Row" "names"
 pq:kG K "Row" "word"
 Qy:kG K "Row" "x"
 Qz:kG K "Row" "y"
 qm:Kx K mg "BLOCK_WORDS" (.tuple [(.str "if"),(.str "while")])
 vo:pQ P w K mg "CONDITIONS" oH
 QA:pQ P w K mg "FORMS" C5
 AK:Kx K mg "MOST_BLOCKS" (.int 8)
 HB:ju K mg "_law_draw" Hr
 Ff:ju K mg "_law_kinds" EY
 Fi:ju K mg "_law_heads" EZ
 Fj:ju K mg "_law_parts" E1
 Fm:ju K mg "_law_begun" E2
 AL:ju K mg "_law_cell_at" Az
 yX:ju K mg "_law_head_row" yP
 Fo:ju K mg "_law_names" E3
 HC:ju K mg "_law_word" Ht
 xD:ju K mg "_law_condition" xw
 De:ju K mg "_law_handed" C6
 Df:ju K mg "_law_caller" C7
 Fp:ju K mg "_law_plain" E4
 HD:ju K mg "_law_body" Hu
 Fq:ju K mg "_law_lines" E5
 yY:Ni K mg "Reading" "Reading.__init__" yQ
 AM:ju K mg "method_body" AA
 Fs:ju K mg "head_body" E6
 xE:ju K mg "numbered_rows" xx
 xF:EW K "Program" "shown" "Program.shown" xy
 xG:ju K mg "rows_of_words" xA
 Dg:ju K mg "body_heads" C8
 yZ:Ni K mg "Program" "Program.__init__" yS
 Ft:ju K mg "head_kept" E7
 sR:ju K mg "names_what_is_told" sL
 KP:ju K mg "form_of" KH
 HE:ju K mg "parts_of" Hv
 HF:Ni K mg "Row" "Row.__init__" Hx
 AN:ju K mg "close_block" AI
 xH:ju K mg "turns_to_else" xB
 Dh:ju K mg "is_letters" C9
 KQ:ju K mg "is_name" KL
 Nr:ju K mg "is_row" Nn
 y0:ju K mg "reads_within" yT
 HG:ju K mg "are_once" Hz
 Di:ju K mg "reads_kind" Dc
 AO:ju K mg "head_params" AJ
 vp:ju K mg "are_heads_names" vk
 KS:ju K mg "is_head" KN
 Fv:ju K mg "reads_row" E8
 y1:ju K mg "read_program" yV
 Dj:ju K mg "_law_turned" Dd
 Fw:ju K mg "_law_named" E9
 wm:ju K mg "_law_kept_words" wg
 HJ:ju K mg "_law_told" HA
 tX:EW K "Program" "row_words" "Program.row_words" tV
 wo:EW K "Program" "bodies" "Program.bodies" wj
 tY:EW K "Program" "many_rows" "Program.many_rows" tW
 uH:EW K "Program" "row_body" "Program.row_body" uG
 Fx:ju K mg "_law_right" Fb
 Yd:ju K mg "law" Yb
section
variable {P:Program}{K:Fg}{base:Heap} (M:Md P w K mg)
include M
theorem sS:rL P w K mg base "_law_draw" 1 2 nj :=
 g9 [2] M.HB fun hr hu nd f7=>(fi (iM 2 nd f7 (jh (lu gU)))
  (fi (fG 3 nd (fC (fK gm (fK gQ (fg 0) fq) fq)))
  (fi (jx aY rfl (kx (lO rfl M.range fq)) (kH 4 nd) (by decide)
  (fi (fG 3 nd (fC (fK gQ (fK gm (fK xU (fg 3) fq) (fg 4)) fq)))
  (fo (fJ (jF (iZ (iH (fg 1)) (iG (gq (mv hu) (fg 0) (jK (ft fq (zO oG)))))))
  (fi (gG f7 (jB 2) (fC (fK gQ (fg 0) fq)))
  (fo (fG 0 nd (fC (fK yi (fg 0) fq)))))
  (fo (gG f7 (jB 2) (fC (fK gQ (fK xU (fK gQ (fK xU (fg 3) fq) fq) fq) fq))))))))
  (fo (fF (fg 2))))))
theorem Dk:rL P w K mg base "_law_kinds" 1 1 nP :=
 g9 [1] M.Ff fun hr hu nd f7=>(fi (iM 1 nd f7 (jh (lu gU)))
  (fi (jx aY rfl (kx (lO rfl M.range (fK gm fq (fK gQ (hU hu (fg 0) fq) fq)))) (kH 2 nd) (by decide)
  (fi (fG 3 nd (fC qe))
  (fi (fJ (jF (iZ (gq yk (fg 2) fq) (iG (gq yk (fK gQ (hU hu (fg 0) (fg 2)) fq) fq))))
  (fo (fG 3 nd (fC (hU hu (fP (ft fw (zO fw))) (fK gQ (hU hu (fg 0) (fK gm fq (fg 2))) (fg 2))))))
  fA)
  (fi (fG 4 nd (fC (iq (hU hu (fP (ft (fP (ft fw (zO fw))) (ft (fP (ft fw (zO fw))) (zO (fP (ft fw (zO fw))))))) (fg 2)) hJ (gZ (fK gQ (hU hu (fg 0) (fK gm fq (fg 2))) fq)))))
  (fi (sk 4 [(3,"_law_elder")] nd (jM (fg 4)) (fun _ _ _ _=>(qy (jF (mj (gq Na (fg 1) qe) (mi (gq (kF hu) (fg 0) (jK (ft fw (zO fw))))))))) (fun _ _ _ _=>(fg 0)))
  (fo (gG f7 (jB 1) (fC (jK (ft (hU hu (fP (mz ["ka","kb","kc"] rfl)) (fg 2)) (ft (fg 3) (zO (fg 4)))))))))))))
  (fo (fF (fg 1)))))
theorem Dl:rL P w K mg base "_law_heads" 1 2 pR :=
 g9 [2] M.Fi fun hr hu nd f7=>(fi (iM 2 nd f7 (jh (lu gU)))
  (fi (jx aY rfl (kx (lO rfl M.range (fK gQ (hU hu (fg 0) fq) fq))) (kH 3 nd) (by decide)
  (fi (fG 4 nd (fC (iq (fP (ft fw (zO fw))) hJ (gZ (fK gQ (hU hu (fg 0) (fK gm fq (fg 3))) fq)))))
  (fi (fG 5 nd (fC (fK gm (fK gm (hU hu (hU hu (fg 1) (fK gQ (hU hu (fg 0) (fK gm fq (fg 3))) (zL M.len (fg 1)))) fq) fw) (hU hu (fP (ft fw (zO fw))) (fK gQ (hU hu (fg 0) (fK gm fq (fg 3))) fq)))))
  (fo (fJ (jF (iZ (gq (ij hu) (fK gQ (hU hu (fg 0) (fK gm fq (fg 3))) fq) fq) (iG (gq (mv hu) (fg 5) (my [] (jM (fg 2)) (fun _ _ _ _=>ke) (fun _ _ _ _=>(hU hu (fg 0) fq)))))))
  (fo (gG f7 (jB 2) (fC (jK (ft (fg 5) (ft (fg 4) (zO (fP gU))))))))
  (fo (gG f7 (jB 2) (fC (jK (ft (hU hu (fP (mz ["fa","fb","fc"] rfl)) (fg 3)) (ft (fg 4) (zO (iq (fP (ft fw (zO fw))) hJ (gZ (fK gQ (hU hu (fg 0) (fK gm fq (fg 3))) fq)))))))))))))))
  (fo (fF (fg 2)))))
theorem Dm:rL P w K mg base "_law_parts" 1 2 pS :=
 g9 [2,99] M.Fj fun hr hu nd f7=>(fi (KA 2 [] nd f7 (yr rfl M.range (fK gm (fg 1) fq)) (fun _ _ _ _=>ke) (fun _ _ _ _=>(lu gU)))
  (fi (fG 3 nd (fC fq))
  (fi (jx aY rfl (kx (mx (fg 0))) (kH 4 nd) (by decide)
  (fi (fJ (jF (iZ (gq (ij hu) (fK gQ (hU hu (fg 4) fq) fq) fq) (iG (gq yj (fg 3) (fg 1)))))
  (fo (fG 3 nd (fC (fK gm (fg 3) fq))))
  fA)
  (fo (Kz hu f7 (jB 2) (fC (fg 3)) (fC (fg 4)) (fun _ _=>rfl) (fun _ _=>rfl)))))
  (fo (fF (fg 2))))))
theorem Dn:rL P w K mg base "_law_begun" 1 4 lV :=
 g9 [4] M.Fm fun hr hu nd f7=>(fi (fJ (gq (lh hu) (hU hu (fg 0) fq) fw)
  (fo (fF (fP gU)))
  fA)
  (fi (iM 4 nd f7 (jh (lu (zO (fP (ft fw (ft fw (zO (hU hu (hU hu (fg 2) (fK gQ (hU hu (fg 1) fq) (zL M.len (fg 2)))) fq)))))))))
  (fi (sk 5 [] nd (jM (fg 3)) (fun _ _ _ _=>(qy (gq (mv hu) fw (hU hu (fg 0) fq)))) (fun _ _ _ _=>(fg 0)))
  (fi (fJ (gq (lh hu) (fg 5) (fP gU))
  (fi (fG 6 nd (fC (hU hu (fg 5) (fK gQ (hU hu (fg 1) fq) (zL M.len (fg 5))))))
  (fo (gG f7 (jB 4) (fC (fK gm (fP (ft fw (ft fw (zO (hU hu (fg 6) fq))))) (iq (fP (ft fw (zO fw))) hJ (gZ (zL M.len (hU hu (fg 6) fq)))))))))
  fA)
  (fo (fF (fg 4)))))))
theorem mR:rL P w K mg base "_law_cell_at" 1 2 hZ :=
 g9 [] M.AL fun hr hu nd f7=>(fi (fJ (gq yj (fg 1) (zL M.len (fg 0)))
  (fo (fF (hU hu (fg 0) (fg 1))))
  fA)
  (fo (fF fq)))
theorem xI:rL P w K mg base "_law_head_row" 1 1 iU :=
 g9 [] M.yX fun hr hu nd f7=>(fi (fJ (gq (kF hu) fw (hU hu (fg 0) fq))
  (fi (CG (fC (CL ej eA vb (hU hu (fg 0) fq) (zO fw))) (vY 1 2 3 rfl nd) (by decide))
  (fo (fF (zJ fw (zO (fK gm (fP (ft fw (ft (fg 1) (zO (fg 3))))) (hU hu (fg 0) fq)))))))
  fA)
  (fi (fG 4 nd (fC (fK gm (fP (ft fw (zO (hU hu (fg 0) fq)))) (hU hu (fg 0) fq))))
  (fi (fJ (gq (lh hu) (hU hu (fg 0) fq) (fP gU))
  (fo (fG 4 nd (fC (fK gm (fK gm (fg 4) (fP (zO fw))) (hU hu (fg 0) fq)))))
  fA)
  (fo (fF (zJ fw (zO (fg 4))))))))
theorem Dq:rL P w K mg base "_law_names" 1 1 jY :=
 g9 [] M.Fo fun hr hu nd f7=>(fi (fG 1 nd (fC (fK gm (fK gm (hU hu (fg 0) fq) (hU hu (fg 0) fq)) (fP (mz ["x","y","z"] rfl)))))
  (fi (fJ (gq (kF hu) fw (hU hu (fg 0) fq))
  (fo (fG 1 nd (fC (fK gm (fg 1) (fP (zO fw))))))
  fA)
  (fo (fF (fg 1)))))
theorem Fy:rL P w K mg base "_law_word" 1 2 lS :=
 g9 [] M.HC fun hr hu nd f7=>(fi (fG 2 nd (fC (fP (mz ["new","copy","take","put","ask","do","new","func","tell","if","while","end","else","push"] rfl))))
  (fi (fG 2 nd (fC (fK gm (fg 2) (fP (mz ["pull","row","give","take","put","ask","do","end","rest","copy"] rfl)))))
  (fi (fJ (iH (fg 1))
  (fo (fG 2 nd (fC (fK gm (fg 2) (fP (mz ["straight","check","fresh","own","place"] rfl))))))
  fA)
  (fo (fF (hU hu (fg 2) (fK gQ (hU hu (fg 0) fq) (zL M.len (fg 2)))))))))
theorem wq:rL P w K mg base "_law_condition" 1 2 iF :=
 g9 [] M.xD fun hr hu nd f7=>(fi (fG 2 nd (fC (hU hu (fg 1) (fK gQ (hU hu (fg 0) fq) (zL M.len (fg 1))))))
  (fi (fJ (gq (ij hu) (fK gQ (hU hu (fg 0) fq) fq) fq)
  (fo (fF (fP (zO fw))))
  fA)
  (fi (fJ (gq (ij hu) (fK gQ (hU hu (fg 0) fq) fq) fq)
  (fo (fF (fP (ft fw (zO (fg 2))))))
  fA)
  (fo (fF (fP (ft fw (ft (fg 2) (zO (hU hu (fg 1) (fK gQ (hU hu (fg 0) fq) (zL M.len (fg 1)))))))))))))
theorem nM:rL P w K mg base "_law_handed" 1 3 iO :=
 g9 [] M.De fun hr hu nd f7=>(fo (fF (my [(1,"_law_names_here"),(0,"_law_draw_here")] (yr rfl M.range (fg 2)) (fun _ _ _ _=>ke) (fun _ _ _ _=>(hU hu (fg 1) (fK gQ (fK gm (hU hu (fg 2) (fK gm fq (fg 0))) (fK xU fq (fg 0))) (zL M.len (fg 1))))))))
theorem AQ:rL P w K mg base "_law_caller" 2 4 j6 :=
 g9 [] M.Df fun hr hu nd f7=>(fi (fG 4 nd (fC (hU hu (fg 2) (fK gQ (hU hu (fg 1) fq) (zL M.len (fg 2))))))
  (fi (fG 5 nd (fC (hU hu (fg 2) (fK gQ (hU hu (fg 1) fq) (zL M.len (fg 2))))))
  (fi (fG 6 nd (fC (hU hu (fP (ft fq (ft fq (ft fq (zO fq))))) (fK gQ (hU hu (fg 1) fq) fq))))
  (fi (sk 7 [] nd (jM (fg 3)) (fun _ _ _ _=>(qy (gq (kF hu) fw (hU hu (fg 0) fq)))) (fun _ _ _ _=>(hU hu (fg 0) fq)))
  (fi (fJ (gq (ij hu) (fg 0) fw)
  (fo (fF (fK gm (fP (ft fw (ft (fg 4) (ft (fg 5) (zO (hU hu (fP (ft fw (zO fw))) (fK gQ (hU hu (fg 1) fq) fq))))))) (gi (nM M) hr rfl (ft (fg 1) (ft (fg 2) (zO (fg 6))))))))
  fA)
  (fi (fJ (jF (iZ (gq (ij hu) (fg 0) fw) (iG (gq (lh hu) (fg 7) (fP gU)))))
  (fi (CG (fC (CL ej eA vb (hU hu (fg 7) (fK gQ (hU hu (fg 1) fq) (zL M.len (fg 7)))) (zO fw))) (vY 8 9 10 rfl nd) (by decide))
  (fo (fF (fK gm (fP (ft fw (ft (fg 4) (ft (fg 5) (ft (fg 8) (zO (fg 10))))))) (gi (nM M) hr rfl (ft (fg 1) (ft (fg 2) (zO (fg 6)))))))))
  fA)
  (fo (fF (fK gm (fP (ft fw (ft (fg 4) (zO (fg 5))))) (gi (nM M) hr rfl (ft (fg 1) (ft (fg 2) (zO (fg 6))))))))))))))
theorem Dr:rL P w K mg base "_law_plain" 2 5 kS :=
 g9 [] M.Fp fun hr hu nd f7=>(fi (fG 5 nd (fC (hU hu (fg 2) (fK gQ (hU hu (fg 1) fq) (zL M.len (fg 2))))))
  (fi (fG 6 nd (fC (hU hu (fg 2) (fK gQ (hU hu (fg 1) fq) (zL M.len (fg 2))))))
  (fi (fG 7 nd (fC (hU hu (fP (mz ["f","g","h","u","v"] rfl)) (fK gQ (hU hu (fg 1) fq) fq))))
  (fi (sk 8 [] nd (jM (fg 4)) (fun _ _ _ _=>(qy (gq (mv hu) fw (hU hu (fg 0) fq)))) (fun _ _ _ _=>(fg 0)))
  (fi (fJ (gq (kF hu) (fg 0) (jK (ft fw (zO fw))))
  (fo (fF (fP (ft (fg 0) (ft (fg 5) (zO (hU hu (hU hu (fg 3) (fK gQ (hU hu (fg 1) fq) (zL M.len (fg 3)))) fq)))))))
  fA)
  (fi (fJ (jF (iZ (gq (ij hu) (fg 0) fw) (iG (gq (lh hu) (fg 8) (fP gU)))))
  (fi (fG 9 nd (fC (hU hu (fg 8) (fK gQ (hU hu (fg 1) fq) (zL M.len (fg 8))))))
  (fo (fF (fK gm (fP (ft fw (ft (fg 5) (zO (hU hu (fg 9) fq))))) (gi (nM M) hr rfl (ft (fg 1) (ft (fg 2) (zO (zL M.len (hU hu (fg 9) fq))))))))))
  fA)
  (fi (fJ (gq (kF hu) (fg 0) (jK (mz ["row","give","tell"] rfl)))
  (fo (fF (fP (ft (fg 0) (zO (fg 5))))))
  fA)
  (fi (fJ (gq (kF hu) (fg 0) (jK (ft fw (zO fw))))
  (fo (fF (fP (ft (fg 0) (ft (fg 5) (ft (fg 6) (zO (fg 7))))))))
  fA)
  (fi (fJ (gq (kF hu) (fg 0) (jK (ft fw (zO fw))))
  (fo (fF (fP (ft (fg 0) (ft (fg 6) (ft (fg 7) (zO (fg 5))))))))
  fA)
  (fi (fJ (gq (ij hu) (fg 0) fw)
  (fo (fF (fP (ft fw (ft (fg 6) (zO (fg 7)))))))
  fA)
  (fi (fJ (gq (kF hu) (fg 0) (jK (ft fw (zO fw))))
  (fo (fF (fP (ft (fg 0) (ft (fg 5) (zO (fg 6)))))))
  fA)
  (fi (fJ (gq (ij hu) (fg 0) fw)
  (fo (fF (fP (zO fw))))
  fA)
  (fo (fF (fP (ft fw (ft (fg 5) (zO (fg 6)))))))))))))))))))
theorem xa:rL P w K mg base "_law_body" 3 6 lT :=
 g9 [7,8] M.HD fun hr hu nd f7=>(fi (fG 6 nd (fC (gi (Dq M) hr rfl (zO (fg 0)))))
  (fi (KG 7 [] nd f7 (jM (fg 5)) (fun _ _ _ _=>ke) (fun _ _ _ _=>(zJ fw (zO (fg 0)))))
  (fi (iM 8 nd f7 (jh (lu gU)))
  (fi (jx aY rfl (kx (mx (fg 1))) (kH 9 nd) (by decide)
  (fi (fG 10 nd (fC (gi (Fy M) hr rfl (ft (fg 9) (zO (fg 4))))))
  (fo (fJ (jF (iZ (gq (kF hu) (fg 10) (jK (ft fw (zO fw)))) (iG (gq yj (zL M.len (fg 8)) fq))))
  (fi (gG f7 (jB 7) (fC (zJ fw (zO (fK gm (fP (zO (fg 10))) (gi (wq M) hr rfl (ft (fg 9) (zO (fg 6)))))))))
  (fo (gG f7 (jB 8) (fC (fg 10)))))
  (fo (fJ (jF (iZ (gq (ij hu) (fg 10) fw) (iG (gq (lh hu) (fg 8) (fP gU)))))
  (fi (Jb f7 (jB 8))
  (fo (gG f7 (jB 7) (fC fw))))
  (fo (fJ (jF (iZ (gq (ij hu) (fg 10) fw) (iZ (gq (lh hu) (fg 8) (fP gU)) (iG (gq (ij hu) (hU hu (fg 8) oG) fw)))))
  (fi (nC hu f7 (jB 8) (fC oG) (fC fw))
  (fo (gG f7 (jB 7) (fC fw))))
  (fo (fJ (gq (kF hu) (fg 10) (jK (mz ["ask","do","straight"] rfl)))
  (fo (gG f7 (jB 7) (fC (zJ fw (zO (gi (AQ M) hr rfl (ft (fg 10) (ft (fg 9) (ft (fg 6) (zO (fg 3)))))))))))
  (fo (gG f7 (jB 7) (fC (zJ fw (zO (gi (Dr M) hr rfl (ft (fg 10) (ft (fg 9) (ft (fg 6) (ft (fg 2) (zO (fg 3))))))))))))))))))))))
  (fo (fF (fK gm (fg 7) (PF.pd (U4 (lu (zO fw)) (zL M.len (fg 8)))))))))))
theorem Ds:rL P w K mg base "_law_lines" 4 4 pU :=
 g9 [9] M.Fq fun hr hu nd f7=>(fi (fG 4 nd (fC (su (ij hu) (fK gQ (gi (mR M) hr rfl (ft (fg 0) (zO fq))) fq) fq)))
  (fi (fG 5 nd (fC (gi (sS M) hr rfl (ft (fK yi (gi (mR M) hr rfl (ft (fg 0) (zO fq))) fq) (zO (fg 4))))))
  (fi (fG 6 nd (fC (gi (Dk M) hr rfl (zO (fg 5)))))
  (fi (fG 7 nd (fC (gi (Dl M) hr rfl (ft (gi (sS M) hr rfl (ft (gi (mR M) hr rfl (ft (fg 0) (zO fq))) (zO (fg 4)))) (zO (fg 6))))))
  (fi (fG 8 nd (fC (gi (Dm M) hr rfl (ft (my [(4,"_law_digits")] (jM (iq (fg 0) (gZ (fg 1)) (gZ (fg 2)))) (fun _ _ _ _=>ke) (fun _ _ _ _=>(gi (sS M) hr rfl (ft (fg 0) (zO (fg 1)))))) (zO (zL M.len (fg 7)))))))
  (fi (iM 9 nd f7 (jh (lu gU)))
  (fi (jx aY rfl (kx (mx (fg 6))) (vY 10 11 12 rfl nd) (by decide)
  (fi (fG 13 nd (fC (fP (ft fw (zO (fg 10))))))
  (fi (fJ (gq wc (fg 11) qe)
  (fo (fG 13 nd (fC (fK gm (fg 13) (fP (ft fw (zO (fg 11))))))))
  fA)
  (fo (gG f7 (jB 9) (fC (zJ fw (zO (fK gm (fK gm (fg 13) (iq (fP (zO fw)) hJ (gZ (zL M.len (fg 12))))) (fg 12))))))))))
  (fi (fG 14 nd (fC (jK (ft fw (ft (fP gU) (zO (fP gU)))))))
  (fi (jx aY rfl (kx (lO rfl M.range (zL M.len (fg 7)))) (kH 15 nd) (by decide)
  (fi (gG f7 (jB 9) (fC (gi (xI M) hr rfl (zO (hU hu (fg 7) (fg 15))))))
  (fo (iM 9 nd f7 (MN (U3 (fK gm (fg 9) (gi (xa M) hr rfl (ft (hU hu (fg 7) (fg 15)) (ft (hU hu (fg 8) (fK gm (fg 15) fq)) (ft (fg 6) (ft (fg 7) (ft (fg 3) (zO (fP gU))))))))) (fP (zO fw))))))))
  (fi (fG 16 nd (fC (gi (Dn M) hr rfl (ft (fg 14) (ft (fg 5) (ft (fg 6) (zO (fg 7))))))))
  (fo (fF (fK gm (fK gm (fK gm (fg 9) (fP (zO fw))) (gi (xa M) hr rfl (ft (fg 14) (ft (hU hu (fg 8) fq) (ft (fg 6) (ft (fg 7) (ft (fg 3) (zO (fg 16))))))))) (fP (zO fw)))))))))))))))
theorem xJ:v5 P w K mg base "Reading" 1 1 o8 :=
 C4 [] M.yY fun hr hu nd f7=>(fi (u5 0 (c:="Reading") f7 M.iJ (jh yA))
  (fi (u5 0 (c:="Reading") f7 M.jc (jh yA))
  (fi (jw 0 (c:="Reading") f7 M.jT (fC qe))
  (fi (u5 0 (c:="Reading") f7 M.iC (jh (lu gU)))
  (fi (jw 0 (c:="Reading") f7 M.mP (fC lz))
  (fo (u5 0 (c:="Reading") f7 M.n9 (jh (lu gU)))))))))
theorem sT:rL P w K mg base "method_body" 1 2 kn :=
 g9 [] M.AM fun hr hu nd f7=>(fo (fF (Qg (CN (Ss (fg 0)) (CN fw (CN (Ss (fg 1)) UO))))))
theorem oM:rL P w K mg base "head_body" 2 1 iA :=
 g9 [] M.Fs fun hr hu nd f7=>(fi (fJ (gq (ij hu) (hU hu (fg 0) fq) fw)
  (fo (fF (gi (sT M) hr rfl (ft (hU hu (fg 0) fq) (zO (hU hu (fg 0) fq))))))
  fA)
  (fi (fJ (gq (ij hu) (hU hu (fg 0) fq) fw)
  (fo (fF (hU hu (fg 0) fq)))
  fA)
  (fo (fF fw))))
theorem wt:rL P w K mg base "numbered_rows" 3 1 ki :=
 g9 [1] M.xE fun hr hu nd f7=>(fi (iM 1 nd f7 (jh yA))
  (fi (fG 2 nd (fC qe))
  (fi (fG 3 nd (fC fq))
  (fi (jx aY rfl (kx (EK rfl M.enumerate (zT (fg 0) (zO fw)))) (xT 4 5 rfl nd) (by decide)
  (fi (fG 6 nd (fC (zT (fg 5) (zO fw))))
  (fo (fJ (gq (ij hu) (hU hu (fg 6) fq) fw)
  (fo (xS 3 nd LO (fC fq)))
  (fo (fJ (gq yk (fg 3) fq)
  (fi (fJ (gq (lh hu) (hU hu (fg 6) fq) fw)
  (fo (nC hu f7 (jB 1) (Bq (zL M.len (fg 1))) (fC (jK (ft (fg 4) (ft (fg 6) (zO (fg 2))))))))
  fA)
  (fo (fJ (gq (kF hu) (hU hu (fg 6) fq) (C0 M.qm rfl))
  (fo (xS 3 nd LN (fC fq)))
  fA)))
  (fo (fJ (gq (lh hu) (hU hu (fg 6) fq) fw)
  (fi (fG 2 nd (fC (gi (oM M) hr rfl (zO (fg 6)))))
  (fo (fG 3 nd (fC fq))))
  fA))))))))
  (fo (fF (fg 1)))))))
theorem qJ:tB P w K mg base "Program" "shown" 1 1 jD :=
 Nk [] M.xF fun hr hu nd f7=>(fo (fF (zP "Program" M.sQ (fg 0))))
theorem wu:rL P w K mg base "rows_of_words" 2 1 lG :=
 g9 [] M.xG fun hr hu nd f7=>(fo (fF (my [] (jM (zT (yE (qJ M) (fg 0) hr) (zO fw))) (fun _ _ _ _=>ke) (fun _ _ _ _=>(zT (fg 0) (zO fw))))))
theorem AR:rL P w K mg base "body_heads" 3 1 mK :=
 g9 [1] M.Dg fun hr hu nd f7=>(fi (iM 1 nd f7 (jh yA))
  (fi (fG 2 nd (fC fq))
  (fi (jx aY rfl (kx (mx (gi (wu M) hr rfl (zO (fg 0))))) (kH 3 nd) (by decide)
  (fo (fJ (gq (ij hu) (hU hu (fg 3) fq) fw)
  (fo (xS 2 nd LO (fC fq)))
  (fo (fJ (jF (iZ (gq (ij hu) (fg 2) fq) (iG (gq (lh hu) (hU hu (fg 3) fq) fw))))
  (fi (nC hu f7 (jB 1) (fC (gi (oM M) hr rfl (zO (fg 3)))) (fC (fg 3)))
  (fo (fG 2 nd (fC fq))))
  (fo (fJ (gq (kF hu) (hU hu (fg 3) fq) (jK (ft fw (zO fw))))
  (fo (xS 2 nd LN (fC fq)))
  fA)))))))
  (fo (fF (fg 1))))))
theorem xK:v5 P w K mg base "Program" 4 2 kU :=
 C4 [] M.yZ fun hr hu nd f7=>(fi (jw 0 (c:="Program") f7 M.sQ (fC (fg 1)))
  (fi (jw 0 (c:="Program") f7 M.j8 (fC (gi (wt M) hr rfl (zO (fg 1)))))
  (fo (jw 0 (c:="Program") f7 M.nT (X7 (pN rfl rfl M.list (zO (gi (AR M) hr rfl (zO (fg 0))))))))))
theorem rh:CJ P w K mg base "head_kept" 1 1 iV :=
 Nj [] M.Ft fun hr hu nd f7=>(fi (fJ (jF (mj (gq (lh hu) (hU hu (fg 0) fq) fw) (mi (gq (mv hu) fw (iq (fg 0) (gZ fq) hJ)))))
  (fo (qD (lu gU)))
  fA)
  (fi (fG 1 nd (fC (PF.pd (pN rfl rfl M.list (zO (iq (fg 0) (gZ fq) hJ))))))
  (fo (qD (yD (fg 1) (gZ (fK gm (M5 PySem.F.slot_list_index PySem.F.type_list_index (EM hu) (fg 1) (zO fw)) fq)) hJ)))))
theorem rP:rL P w K mg base "names_what_is_told" 2 2 iW :=
 g9 [] M.sR fun hr hu nd f7=>(fi (fJ (gq (ij hu) (zP "Row" M.pq (fg 1)) fw)
  (fo (fF (su (kF hu) (gi (sT M) hr rfl (ft (zP "Row" M.rg (fg 1)) (zO (zP "Row" M.vn (fg 1))))) (zP "Reading" M.jc (fg 0)))))
  fA)
  (fi (fJ (jF (mj (gq (ij hu) (zP "Row" M.mQ (fg 1)) fw) (mi (gq (mv hu) (zP "Row" M.mQ (fg 1)) (zP "Reading" M.jc (fg 0))))))
  (fo (fF lz))
  fA)
  (fo (fF (su (ij hu) (zL M.len (PF.pd (CK (rh M) hr rfl (zO (hU hu (zP "Reading" M.jc (fg 0)) (zP "Row" M.mQ (fg 1))))))) (zL M.len (zP "Row" M.vm (fg 1))))))))
theorem y3:rL P w K mg base "form_of" 1 1 tE :=
 g9 [] M.KP fun hr hu nd f7=>(fi (fJ (gq (kF hu) (hU hu (fg 0) fq) (C0 M.qm rfl))
  (fi (fJ (jF (iZ (gq yk (zL M.len (fg 0)) fq) (iG (Qt M.vo rfl (hU hu (fg 0) fq)))))
  (fo (fF (fK gm (jK (zO fw)) (U0 M.vo rfl (hU hu (fg 0) fq) (fun _ _=>rfl)))))
  fA)
  (fo (fF qe)))
  fA)
  (fo (fF (Qr M.QA rfl (hU hu (fg 0) fq) ⟨rfl,rfl,rfl,rfl⟩))))
theorem sU:rL P w K mg base "parts_of" 2 1 q8 :=
 g9 [1] M.HE fun hr hu nd f7=>(fi (iM 1 nd f7 (jh (pN rfl rfl M.list (zO (gi (y3 M) hr rfl (zO (fg 0)))))))
  (fi (Km aY (gq yj (zL M.len (fg 1)) (fK Mp (zL M.len (fg 0)) fq))
  (fo (gG f7 (jB 1) (fC fw))))
  (fo (fF (PF.pd (He rfl rfl M.list rfl M.zip (fg 1) (iq (fg 0) (gZ fq) hJ)))))))
theorem Fz:v5 P w K mg base "Row" 3 2 uF :=
 C4 [] M.HF fun hr hu nd f7=>(fi (fG 2 nd (fC (Bf (Qi rfl) rfl M.dict (by rfl) (zO (gi (sU M) hr rfl (zO (fg 1)))))))
  (fi (jw 0 (c:="Row") f7 M.pq (fC (hU hu (fg 1) fq)))
  (fi (jw 0 (c:="Row") f7 M.xC (fC (oU hu (fg 2) fw ⟨rfl,rfl,rfl,rfl⟩)))
  (fi (jw 0 (c:="Row") f7 M.Qy (fC (oU hu (fg 2) fw ⟨rfl,rfl,rfl,rfl⟩)))
  (fi (jw 0 (c:="Row") f7 M.Qz (fC (oU hu (fg 2) fw ⟨rfl,rfl,rfl,rfl⟩)))
  (fi (jw 0 (c:="Row") f7 M.rg (fC (oU hu (fg 2) fw ⟨rfl,rfl,rfl,rfl⟩)))
  (fi (jw 0 (c:="Row") f7 M.Fd (fC (oU hu (fg 2) fw ⟨rfl,rfl,rfl,rfl⟩)))
  (fi (jw 0 (c:="Row") f7 M.vn (fC (oU hu (fg 2) fw ⟨rfl,rfl,rfl,rfl⟩)))
  (fi (jw 0 (c:="Row") f7 M.mQ (fC (oU hu (fg 2) fw ⟨rfl,rfl,rfl,rfl⟩)))
  (fi (jw 0 (c:="Row") f7 M.vm (fC (BG [] (jM (gi (sU M) hr rfl (zO (fg 1)))) (fun _ _ _ _=>(qy (gq (ij hu) (fg 0) fw))) (fun _ _ _ _=>(fg 1)))))
  (fo (jw 0 (c:="Row") f7 M.Fe (fC (BG [] (jM (gi (sU M) hr rfl (zO (fg 1)))) (fun _ _ _ _=>(qy (gq (kF hu) (fg 0) (jK (mz ["X","Y","A"] rfl))))) (fun _ _ _ _=>(fg 1))))))))))))))))
theorem y4:EB P w K mg base "close_block" 1 1 ko :=
 EX [] M.AN fun hr hu nd f7=>(fi (fJ (iH (zP "Reading" M.iC (fg 0)))
  (fi (Jb f7 (Bs 0 (c:="Reading") M.iC))
  (fo (Kn f7)))
  fA)
  (fi (jw 0 (c:="Reading") f7 M.mP (Bq (su (ij hu) (zP "Reading" M.jT (fg 0)) fw)))
  (fo (jw 0 (c:="Reading") f7 M.jT (fC qe)))))
theorem wx:EB P w K mg base "turns_to_else" 1 1 lH :=
 EX [] M.xH fun hr hu nd f7=>(fi (fJ (jF (mj (ml (iH (zP "Reading" M.iC (fg 0)))) (mi (gq (lh hu) (hU hu (zP "Reading" M.iC (fg 0)) oG) fw))))
  (fo (jQ f7 lz))
  fA)
  (fi (nC hu f7 (Bs 0 (c:="Reading") M.iC) (fC oG) (fC fw))
  (fo (jQ f7 lz))))
theorem AU:rL P w K mg base "is_letters" 1 1 oJ :=
 g9 [] M.Dh fun hr hu nd f7=>(fi (jx aY rfl (kx (mx (fg 0))) (kH 1 nd) (by decide)
  (fo (fJ (ml (Kr CM CM fw (fg 1) fw))
  (fo (fF lz))
  fA)))
  (fo (fF (su (lh hu) (fg 0) fw))))
theorem y7:rL P w K mg base "is_name" 2 1 oP :=
 g9 [] M.KQ fun hr hu nd f7=>(fo (fF (qY (su CM (zL M.len (fg 0)) fq) (vf (gi (AU M) hr rfl (zO (fg 0)))))))
theorem KU:rL P w K mg base "is_row" 3 1 vj :=
 g9 [] M.Nr fun hr hu nd f7=>(fi (fJ (jF (mj (ml (iH (fg 0))) (mi (ml (iH (yo (M9 rfl) rfl M.all (by rfl) (zO (my [] (jM (fg 0)) (fun _ _ _ _=>ke) (fun _ _ _ _=>(gi (y7 M) hr rfl (zO (fg 0))))))))))))
  (fo (fF lz))
  fA)
  (fi (fG 1 nd (fC (gi (y3 M) hr rfl (zO (fg 0)))))
  (fi (fJ (gq Na (fg 1) qe)
  (fo (fF lz))
  fA)
  (fi (fJ (jF (iZ (iH (fg 1)) (iG (gq (ij hu) (hU hu (fg 1) oG) fw))))
  (fo (fF (su Xj (zL M.len (fg 0)) (zL M.len (fg 1)))))
  fA)
  (fo (fF (su (ij hu) (zL M.len (fg 0)) (fK gm (zL M.len (fg 1)) fq))))))))
theorem xM:EB P w K mg base "reads_within" 5 3 hG :=
 EX [] M.y0 fun hr hu nd f7=>(fi (fJ (gq (ij hu) (fg 2) (fP (zO fw)))
  (fi (Kp (va 0 (y4 M) f7 hr rfl gU))
  (fo (jQ f7 lz)))
  fA)
  (fi (fJ (gq (ij hu) (fg 2) (fP (zO fw)))
  (fo (yG f7 (va 0 (wx M) f7 hr rfl gU)))
  fA)
  (fi (fJ (ml (iH (gi (KU M) hr rfl (zO (fg 2)))))
  (fo (jQ f7 lz))
  fA)
  (fi (fG 3 nd (fC (PF.pd (Jd (Fz M) hr rfl (zO (fg 2))))))
  (fi (fJ (jF (iZ (gq wc (zP "Row" M.rg (fg 3)) qe) (iG (gq (mv hu) (zP "Row" M.rg (fg 3)) (zP "Reading" M.iJ (fg 0))))))
  (fo (jQ f7 lz))
  fA)
  (fi (fJ (gq (kF hu) (zP "Row" M.pq (fg 3)) (C0 M.qm rfl))
  (fo (gG f7 (Bs 0 (c:="Reading") M.iC) (fC (zP "Row" M.pq (fg 3)))))
  fA)
  (fi (fJ (gq (kF hu) (zP "Row" M.pq (fg 3)) (jK (ft fw (zO fw))))
  (fo (gG f7 (Bs 0 (c:="Reading") M.n9) (fC (jK (ft (fg 1) (zO (fg 3)))))))
  fA)
  (fo (jQ f7 (su CM (zL M.len (zP "Reading" M.iC (fg 0))) (C0 M.AK rfl)))))))))))
theorem xb:rL P w K mg base "are_once" 1 1 nq :=
 g9 [] M.HG fun hr hu nd f7=>(fo (fF (su (ij hu) (Kw rfl rfl M.len rfl M.set (fg 0)) (zL M.len (fg 0)))))
theorem AV:EB P w K mg base "reads_kind" 2 2 oK :=
 EX [3] M.Di fun hr hu nd f7=>(fi (fJ (jF (mj (iH (zP "Reading" M.jc (fg 0))) (mj (gq yj (zL M.len (fg 1)) fq) (mi (gq (kF hu) (hU hu (fg 1) fq) (zP "Reading" M.iJ (fg 0)))))))
  (fo (jQ f7 lz))
  fA)
  (fi (fG 2 nd (fC (iq (fg 1) (gZ fq) hJ)))
  (fi (iM 3 nd f7 (jh (lu gU)))
  (fi (fJ (jF (iZ (iH (fg 2)) (iG (gq (ij hu) (hU hu (fg 2) fq) fw))))
  (fi (fJ (jF (mj (gq yj (zL M.len (fg 2)) fq) (mi (gq (mv hu) (hU hu (fg 2) fq) (zP "Reading" M.iJ (fg 0))))))
  (fo (jQ f7 lz))
  fA)
  (fi (iM 3 nd f7 (MN (pN rfl rfl M.list (zO (hU hu (zP "Reading" M.iJ (fg 0)) (hU hu (fg 2) fq))))))
  (fo (fG 2 nd (fC (iq (fg 2) (gZ fq) hJ))))))
  fA)
  (fi (fJ (jF (iZ (iH (fg 2)) (iG (jF (mj (gq (lh hu) (hU hu (fg 2) fq) fw) (mi (gq yj (zL M.len (fg 2)) fq)))))))
  (fo (jQ f7 lz))
  fA)
  (fi (GU f7 (jB 3) (jh (yD (fg 2) (gZ fq) hJ)))
  (wY (O':=[0]) 3 (by decide) (by decide)
  (have f7:([0]:List Nat).Nodup:=by decide
  (fi (nC hu f7 (Bs 0 (c:="Reading") M.iJ) (fC (hU hu (fg 1) fq)) (fC (fg 3)))
  (fo (jQ f7 (gi (xb M) hr rfl (zO (fg 3))))))))))))))
theorem y8:CJ P w K mg base "head_params" 1 1 jL :=
 Nj [1] M.AO fun hr hu nd f7=>(fi (fJ (gq (ij hu) (hU hu (fg 0) fq) fw)
  (fo (qD (pN rfl rfl M.list (zO (iq (fg 0) (gZ fq) hJ)))))
  fA)
  (fi (iM 1 nd f7 (jh (pN rfl rfl M.list (zO (iq (fg 0) (gZ fq) hJ)))))
  (fi (fJ (gq (kF hu) fw (fg 1))
  (fo (qD (yD (fg 1) hJ (gZ (M5 PySem.F.slot_list_index PySem.F.type_list_index (EM hu) (fg 1) (zO fw))))))
  fA)
  (fo (MO 1 f7)))))
theorem pv:rL P w K mg base "are_heads_names" 2 1 gM :=
 g9 [] M.vp fun hr hu nd f7=>(fi (fJ (jF (iZ (gq (ij hu) (hU hu (fg 0) fq) fw) (iZ (gq (kF hu) fw (iq (fg 0) (gZ fq) hJ)) (iG (ml (iH (PF.pd (CK (rh M) hr rfl (zO (fg 0))))))))))
  (fo (fF lz))
  fA)
  (fi (fG 1 nd (fC (fK gm (PF.pd (CK (y8 M) hr rfl (zO (fg 0)))) (PF.pd (CK (rh M) hr rfl (zO (fg 0)))))))
  (fo (fF (qY (su (mv hu) fw (fg 1)) (vf (gi (xb M) hr rfl (zO (fg 1)))))))))
theorem HK:rL P w K mg base "is_head" 3 2 nu :=
 g9 [] M.KS fun hr hu nd f7=>(fi (fJ (gq (ij hu) (hU hu (fg 1) fq) fw)
  (fo (fF (qY (su yk (zL M.len (fg 1)) fq) (qY (su (lh hu) (hU hu (fg 1) fq) fw) (vf (gi (pv M) hr rfl (zO (fg 1))))))))
  fA)
  (fi (fJ (gq (ij hu) (hU hu (fg 1) fq) fw)
  (fo (fF (qY (su yk (zL M.len (fg 1)) fq) (qY (su (kF hu) (hU hu (fg 1) fq) (zP "Reading" M.iJ (fg 0))) (vf (gi (pv M) hr rfl (zO (fg 1))))))))
  fA)
  (fo (fF (su (ij hu) (fg 1) (fP (zO fw)))))))
theorem Dt:EB P w K mg base "reads_row" 6 3 iB :=
 EX [] M.Fv fun hr hu nd f7=>(fi (fJ (iH (zP "Reading" M.mP (fg 0)))
  (fo (jQ f7 lz))
  fA)
  (fi (fJ (gq wc (zP "Reading" M.jT (fg 0)) qe)
  (fo (yG f7 (va 0 (xM M) f7 hr rfl (ft (fg 1) (zO (fg 2))))))
  fA)
  (fi (fJ (gq (ij hu) (hU hu (fg 2) fq) fw)
  (fo (yG f7 (va 0 (AV M) f7 hr rfl (zO (fg 2)))))
  fA)
  (fi (fJ (jF (mj (ml (iH (gi (HK M) hr rfl (ft (fg 0) (zO (fg 2)))))) (mi (gq (kF hu) (gi (oM M) hr rfl (zO (fg 2))) (zP "Reading" M.jc (fg 0))))))
  (fo (jQ f7 lz))
  fA)
  (fi (jw 0 (c:="Reading") f7 M.jT (fC (gi (oM M) hr rfl (zO (fg 2)))))
  (fi (nC hu f7 (Bs 0 (c:="Reading") M.jc) (Bq (zP "Reading" M.jT (fg 0))) (fC (fg 2)))
  (fo (jQ f7 lz))))))))
theorem xN:rL P w K mg base "read_program" 7 1 jS :=
 g9 [1] M.y1 fun hr hu nd f7=>(fi (iM 1 nd f7 (jh (MV (xJ M) hr rfl)))
  (fi (sk 2 [] nd (jM (zT (fg 0) (zO fw))) (fun _ _ _ _=>ke) (fun _ _ _ _=>(zT (fg 0) (zO fw))))
  (fi (jx aY rfl (kx (EK rfl M.enumerate (fg 2))) (xT 3 4 rfl nd) (by decide)
  (fo (Qd (XI (UM (ml (iH (yo (M9 rfl) rfl M.all (by rfl) (zO (my [] (jM (fg 4)) (fun _ _ _ _=>ke) (fun _ _ _ _=>(gi (y7 M) hr rfl (zO (fg 0))))))))) (Qb (Qa (P9 (va 1 (Dt M) f7 hr rfl (ft (fg 3) (zO (fg 4)))))))))
  (fo vW)
  fA)))
  (fi (fJ (ml (iH (zP "Reading" M.mP (fg 1))))
  (fo vW)
  fA)
  (wY (O':=[]) 1 (by decide) (by decide)
  (have f7:([]:List Nat).Nodup:=by decide
  (fi (jx aY rfl (kx (mx (zP "Reading" M.n9 (fg 1)))) (xT 3 5 rfl nd) (by decide)
  (fo (fJ (ml (iH (gi (rP M) hr rfl (ft (fg 1) (zO (fg 5))))))
  (fo vW)
  fA)))
  (fo (fF (PF.pd (Jd (xK M) hr rfl (zO (fg 0)))))))))))))
theorem AW:rL P w K mg base "_law_turned" 1 2 mO :=
 g9 [4,6] M.Dj fun hr hu nd f7=>(fi (fG 2 nd (fC (fP (mz ["ka","kb","kc","fa","fb","fc","f","g","h","u","v","m","n","p","q","l","x","y","z","k"] rfl))))
  (fi (fG 3 nd (fC (fP (mz ["end","else","if","while","row","of","fields","choose","some","same","new","kind","func"] rfl))))
  (fi (fG 3 nd (fC (fK gm (fg 3) (fP (mz ["method","rest","copy","abcdefgh","z","ka"] rfl)))))
  (fi (iM 4 nd f7 (jh (Nh fw fw)))
  (fi (jx aY rfl (kx (lO rfl M.range fq)) (kH 5 nd) (by decide)
  (fo (nC hu f7 (jB 4) (fC (hU hu (fg 2) (fg 5))) (fC (hU hu (fg 3) (fK gQ (fK gm (fg 5) (fg 1)) fq))))))
  (fi (iM 6 nd f7 (jh (lu gU)))
  (fi (jx aY rfl (kx (mx (fg 0))) (kH 7 nd) (by decide)
  (fi (fG 8 nd (fC (zT (fg 7) (zO fw))))
  (fo (gG f7 (jB 6) (Bq (zJ fw (zO (fK gm (iq (fg 8) hJ (gZ fq)) (my [(4,"_law_names_here")] (jM (iq (fg 8) (gZ fq) hJ)) (fun _ _ _ _=>ke) (fun _ _ _ _=>(ET hu (fg 1) (fg 0) (fg 0) ⟨rfl,rfl,rfl,rfl⟩)))))))))))
  (fo (fF (fg 6))))))))))
theorem Du:rL P w K mg base "_law_named" 1 2 lW :=
 g9 [3,7] M.Fw fun hr hu nd f7=>(fi (fG 2 nd (fC (fP (mz ["ka","kb","kc","fa","fb","fc","f","g","h","u","v","m","n","p","q","l","x","y","z","k"] rfl))))
  (fi (fJ (gq (ij hu) (fK gQ (fK yi (fg 1) fq) fq) fq)
  (fo (fF (fg 0)))
  fA)
  (fi (iM 3 nd f7 (jh yA))
  (fi (fG 4 nd (fC (fK gQ (fg 1) fq)))
  (fi (jx aY rfl (kx (lO rfl M.range fq)) (kH 5 nd) (by decide)
  (fi (fG 6 nd (fC (hU hu fw (fg 5))))
  (fo (nC hu f7 (jB 3) (fC (hU hu (fg 2) (fg 5))) (fC (fK gm (fK gm (iq fw hJ (gZ (fg 4))) (fg 6)) (iq fw (gZ (fg 4)) hJ)))))))
  (fi (iM 7 nd f7 (jh (lu gU)))
  (fi (jx aY rfl (kx (mx (fg 0))) (kH 8 nd) (by decide)
  (fi (fG 9 nd (fC (zT (fg 8) (zO fw))))
  (fo (gG f7 (jB 7) (Bq (zJ fw (zO (fK gm (iq (fg 9) hJ (gZ fq)) (my [(3,"_law_names_here")] (jM (iq (fg 9) (gZ fq) hJ)) (fun _ _ _ _=>ke) (fun _ _ _ _=>(ET hu (fg 1) (fg 0) (fg 0) ⟨rfl,rfl,rfl,rfl⟩)))))))))))
  (fo (fF (fg 7))))))))))
theorem vq:rL P w K mg base "_law_kept_words" 1 1 lg :=
 g9 [] M.wm fun hr hu nd f7=>(fo (fF (my [] (jM (fg 0)) (fun _ _ _ _=>ke) (fun _ _ _ _=>(zT (fg 0) (zO fw))))))
theorem FA:rL P w K mg base "_law_told" 2 1 ph :=
 g9 [1,2] M.HJ fun hr hu nd f7=>(fi (iM 1 nd f7 (jh (lu gU)))
  (fi (iM 2 nd f7 (jh (lu gU)))
  (fi (fG 3 nd (fC fq))
  (fi (jx aY rfl (kx (mx (gi (vq M) hr rfl (zO (fg 0))))) (kH 4 nd) (by decide)
  (fo (fJ (jF (iZ (gq (ij hu) (fg 3) fq) (iG (gq (lh hu) (hU hu (fg 4) fq) fw))))
  (fi (gG f7 (jB 1) (fC fw))
  (fi (fJ (gq (ij hu) (hU hu (fg 4) fq) fw)
  (fo (nC hu f7 (jB 1) (fC oG) (fC (hU hu (fg 4) fq))))
  fA)
  (fi (fJ (gq (ij hu) (hU hu (fg 4) fq) fw)
  (fo (nC hu f7 (jB 1) (fC oG) (fC (fK gm (fK gm (hU hu (fg 4) fq) fw) (hU hu (fg 4) fq)))))
  fA)
  (fo (fG 3 nd (fC fq))))))
  (fo (fJ (gq (ij hu) (fg 4) (fP (zO fw)))
  (fo (fG 3 nd (fC (fK Mp (fg 3) fq))))
  (fo (fJ (jF (iZ (gq yk (fg 3) fq) (iG (gq (lh hu) (fg 4) (fP (zO fw))))))
  (fi (gG f7 (jB 2) (U5 (EV (fC (fg 4)) (EV (Bq (hU hu (fg 1) oG)) Qv))))
  (fo (fG 3 nd (fC (fK gm (fg 3) (Bf U2 rfl M.int (by rfl) (zO (su (kF hu) (hU hu (fg 4) fq) (jK (ft fw (zO fw)))))))))))
  fA)))))))
  (fo (fF (jK (ft (fg 1) (zO (fg 2))))))))))
theorem sV:sr P w K mg base "Program" "row_words" 1 2 jN :=
 Nl [] M.tX fun hr hu nd f7=>(fo (qD (pN rfl rfl M.list (zO (hU hu (hU hu (zP "Program" M.j8 (fg 0)) (fg 1)) fq)))))
theorem p6:sr P w K mg base "Program" "bodies" 1 1 jv :=
 Nl [] M.wo fun hr hu nd f7=>(fo (qD (pN rfl rfl M.list (zO (zP "Program" M.nT (fg 0))))))
theorem sW:tB P w K mg base "Program" "many_rows" 1 1 jf :=
 Nk [] M.tY fun hr hu nd f7=>(fo (fF (zL M.len (zP "Program" M.j8 (fg 0)))))
theorem tZ:tB P w K mg base "Program" "row_body" 1 2 j7 :=
 Nk [] M.uH fun hr hu nd f7=>(fo (fF (hU hu (hU hu (zP "Program" M.j8 (fg 0)) (fg 1)) fq)))
theorem vt:rL P w K mg base "_law_right" 3 2 jZ :=
 g9 [5] M.Fx fun hr hu nd f7=>(fi (CG (fC (gi (FA M) hr rfl (zO (fg 1)))) (xT 2 3 rfl nd) (by decide))
  (fi (fJ (jF (mj (gq (lh hu) (yE (qJ M) (fg 0) hr) (zJ fw (zO (fg 1)))) (mj (gq (lh hu) (PF.pd (EU (p6 M) (fg 0) hr)) (fg 2)) (mi (gq (lh hu) (yE (sW M) (fg 0) hr) (zL M.len (fg 3)))))))
  (fo (fF lz))
  fA)
  (fi (jx aY rfl (kx (lO rfl M.range (zL M.len (fg 3)))) (kH 4 nd) (by decide)
  (fi (iM 5 nd f7 (jh (Qu (sV M) (fg 0) hr (zO (fg 4)))))
  (fi (fJ (jF (mj (ml (iH (Kg (bO (b5 rfl)) (fg 5) rfl M.isinstance rfl M.list (by rfl)))) (mj (gq (lh hu) (fg 5) (hU hu (hU hu (fg 3) (fg 4)) fq)) (mi (gq (lh hu) (P8 (tZ M) (fg 0) hr (zO (fg 4))) (hU hu (hU hu (fg 3) (fg 4)) fq))))))
  (fo (fF lz))
  fA)
  (fo (Ky f7 (jB 5))))))
  (fi (MP (KC (EU (p6 M) (fg 0) hr)))
  (fo (fF lz))))))
theorem U8 {fa:Addr}(hfa:mg "law"=some (.ref fa)):∃ fd:FuncData,(∀ (s:Shared) (u:Value),BindsTo s fd ⟨[u],[]⟩ [("_law_script",u)])/\∀ base:Heap,K.In base->base.Ns mainGlobals mg->nN P w K mg base Bd 8 fa fd ["_law_script"] (Ut K 1 Nq) :=
 U7 [] hfa M.Yd fun _=>fun hr hu nd f7=>(fi (fG 1 nd (fC (gi (Ds M) hr rfl (ft (fg 0) (ft fq (ft fq (zO lz)))))))
  (fi (fG 2 nd (fC (gi (mR M) hr rfl (ft (fg 0) (zO fq)))))
  (fi (fJ (gq (ij hu) (fK gQ (fg 2) fq) fq)
  (fo (fG 1 nd (fC (gi (AW M) hr rfl (ft (fg 1) (zO (fK yi (fg 2) fq)))))))
  (fo (fG 1 nd (fC (gi (Du M) hr rfl (ft (fg 1) (zO (fK yi (fg 2) fq))))))))
  (fi (fG 3 nd (fC (gi (xN M) hr rfl (zO (zJ fw (zO (fg 1)))))))
  (fo (fF (qY (gi (vt M) hr rfl (ft (fg 3) (zO (fg 1)))) (vf (gi (vt M) hr rfl (ft (fg 3) (zO (fg 1))))))))))))
end
section
variable {P:Program}{K:Fg}{h:Heap}{A:Addr}{N:Nat}
theorem xO {t0 t1:Tok}(X:K.In h)(G:h.Ns mainGlobals mg)(k:W.nsIn K mainGlobals "BLOCK_WORDS"=some (some (.ref A)))(l:K.lookup A=some (zy #[.str "if" t0,.str "while" t1] N)):Kx K mg "BLOCK_WORDS" (.tuple [(.str "if"),(.str "while")]) :=
 ⟨.ref A,.ref A,W.mg_of X G k,rfl,pF (xs:=["if","while"]) l (by show 2<=sizeLine;decide) (.cons ⟨_,rfl⟩ (.cons ⟨_,rfl⟩ .nil))⟩
theorem y9 {V0 V1 V2:Addr}{m0 m1 m2:Nat}{t0 t1 U9 t2 Va Vb:Tok} (X:K.In h) (G:h.Ns mainGlobals mg) (k:W.nsIn K mainGlobals "CONDITIONS"=some (some (.ref A))) (z:(A==sysModules)=false) (l:K.lookup A=some { cls:=.type "dict",data:=.dict #[⟨PyData.keyHash w.params "choose",.str "choose" t0,.ref V0⟩,⟨PyData.keyHash w.params "some",.str "some" t1,.ref V1⟩,⟨PyData.keyHash w.params "same",.str "same" t2,.ref V2⟩] N })
  (l0:K.lookup V0=some (zy #[] m0))
  (l1:K.lookup V1=some (zy #[.str "X" U9] m1))
  (l2:K.lookup V2=some (zy #[.str "X" Va,.str "Y" Vb] m2)):pQ P w K mg "CONDITIONS" oH :=
 Jh (P:=P) (l:=[("choose",t0,.ref V0,.tuple (([]:Lr).map .str)),("some",t1,.ref V1,.tuple ((["X"]:Lr).map .str)),("same",t2,.ref V2,.tuple ((["X","Y"]:Lr).map .str))]) (W.mg_of X G k) z l (by show (["choose","some","same"]:Lr).Nodup;decide +kernel) (aB.mpr ⟨⟨.ref V0,rfl,pF (xs:=[]) l0 (by show 0<=sizeLine;decide) .nil⟩,aB.mpr ⟨⟨.ref V1,rfl,pF (xs:=["X"]) l1 (by show 1<=sizeLine;decide) (.cons ⟨_,rfl⟩ .nil)⟩,aB.mpr ⟨⟨.ref V2,rfl,pF (xs:=["X","Y"]) l2 (by show 2<=sizeLine;decide) (.cons ⟨_,rfl⟩ (.cons ⟨_,rfl⟩ .nil))⟩,List.forall_mem_nil _⟩⟩⟩)
theorem KW {V0 V1 V2 V3 V4 V5 V6 V7 V8 V9 ZV ZW ZX ZY ZZ Z0 Z1 Z2:Addr}{m0 m1 m2 m3 m4 m5 m6 m7 m8 m9 m10 m11 m12 m13 m14 m15 m16 m17:Nat}{t0 aba abb t1 U9 t2 Va Vb abc t3 abd abe t4 abf abg abh t5 abi abj abk t6 abl abm t7 abn abo t8 abp abq abr t9 abt abu abv abw t10 Ye Yf Yg Yh Yi t11 Yj t12 Yk t13 t14 Yl Ym t15 Yn Yo t16 Yp Yq Yr t17 Ys Yt Yu:Tok} (X:K.In h) (G:h.Ns mainGlobals mg) (k:W.nsIn K mainGlobals "FORMS"=some (some (.ref A))) (z:(A==sysModules)=false) (l:K.lookup A=some { cls:=.type "dict",data:=.dict #[⟨PyData.keyHash w.params "new",.str "new" t0,.ref V0⟩,⟨PyData.keyHash w.params "row",.str "row" t1,.ref V1⟩,⟨PyData.keyHash w.params "func",.str "func" t2,.ref V2⟩,⟨PyData.keyHash w.params "copy",.str "copy" t3,.ref V3⟩,⟨PyData.keyHash w.params "take",.str "take" t4,.ref V4⟩,⟨PyData.keyHash w.params "put",.str "put" t5,.ref V5⟩,⟨PyData.keyHash w.params "push",.str "push" t6,.ref V6⟩,⟨PyData.keyHash w.params "pull",.str "pull" t7,.ref V7⟩,⟨PyData.keyHash w.params "do",.str "do" t8,.ref V8⟩,⟨PyData.keyHash w.params "ask",.str "ask" t9,.ref V9⟩,⟨PyData.keyHash w.params "straight",.str "straight" t10,.ref ZV⟩,⟨PyData.keyHash w.params "give",.str "give" t11,.ref ZW⟩,⟨PyData.keyHash w.params "tell",.str "tell" t12,.ref ZX⟩,⟨PyData.keyHash w.params "rest",.str "rest" t13,.ref ZY⟩,⟨PyData.keyHash w.params "check",.str "check" t14,.ref ZZ⟩,⟨PyData.keyHash w.params "fresh",.str "fresh" t15,.ref Z0⟩,⟨PyData.keyHash w.params "own",.str "own" t16,.ref Z1⟩,⟨PyData.keyHash w.params "place",.str "place" t17,.ref Z2⟩] N })
  (l0:K.lookup V0=some (zy #[.str "X" aba,.str "KIND" abb] m0))
  (l1:K.lookup V1=some (zy #[.str "X" U9] m1))
  (l2:K.lookup V2=some (zy #[.str "X" Va,.str "FUNCTION" Vb,.str "A" abc] m2))
  (l3:K.lookup V3=some (zy #[.str "X" abd,.str "Y" abe] m3))
  (l4:K.lookup V4=some (zy #[.str "X" abf,.str "Y" abg,.str "FIELD" abh] m4))
  (l5:K.lookup V5=some (zy #[.str "Y" abi,.str "FIELD" abj,.str "X" abk] m5))
  (l6:K.lookup V6=some (zy #[.str "Y" abl,.str "X" abm] m6))
  (l7:K.lookup V7=some (zy #[.str "X" abn,.str "Y" abo] m7))
  (l8:K.lookup V8=some (zy #[.str "X" abp,.str "Y" abq,.str "A" abr] m8))
  (l9:K.lookup V9=some (zy #[.str "X" abt,.str "Y" abu,.str "METHOD" abv,.str "A" abw] m9))
  (l10:K.lookup ZV=some (zy #[.str "X" Ye,.str "Y" Yf,.str "KIND" Yg,.str "METHOD" Yh,.str "A" Yi] m10))
  (l11:K.lookup ZW=some (zy #[.str "X" Yj] m11))
  (l12:K.lookup ZX=some (zy #[.str "X" Yk] m12))
  (l13:K.lookup ZY=some (zy #[] m13))
  (l14:K.lookup ZZ=some (zy #[.str "Y" Yl,.str "FIELD" Ym] m14))
  (l15:K.lookup Z0=some (zy #[.str "X" Yn,.str "KIND" Yo] m15))
  (l16:K.lookup Z1=some (zy #[.str "X" Yp,.str "Y" Yq,.str "FIELD" Yr] m16))
  (l17:K.lookup Z2=some (zy #[.str "Y" Ys,.str "FIELD" Yt,.str "X" Yu] m17)):pQ P w K mg "FORMS" C5 :=
 Jh (P:=P) (l:=[("new",t0,.ref V0,.tuple ((["X","KIND"]:Lr).map .str)),("row",t1,.ref V1,.tuple ((["X"]:Lr).map .str)),("func",t2,.ref V2,.tuple ((["X","FUNCTION","A"]:Lr).map .str)),("copy",t3,.ref V3,.tuple ((["X","Y"]:Lr).map .str)),("take",t4,.ref V4,.tuple ((["X","Y","FIELD"]:Lr).map .str)),("put",t5,.ref V5,.tuple ((["Y","FIELD","X"]:Lr).map .str)),("push",t6,.ref V6,.tuple ((["Y","X"]:Lr).map .str)),("pull",t7,.ref V7,.tuple ((["X","Y"]:Lr).map .str)),("do",t8,.ref V8,.tuple ((["X","Y","A"]:Lr).map .str)),("ask",t9,.ref V9,.tuple ((["X","Y","METHOD","A"]:Lr).map .str)),("straight",t10,.ref ZV,.tuple ((["X","Y","KIND","METHOD","A"]:Lr).map .str)),("give",t11,.ref ZW,.tuple ((["X"]:Lr).map .str)),("tell",t12,.ref ZX,.tuple ((["X"]:Lr).map .str)),("rest",t13,.ref ZY,.tuple (([]:Lr).map .str)),("check",t14,.ref ZZ,.tuple ((["Y","FIELD"]:Lr).map .str)),("fresh",t15,.ref Z0,.tuple ((["X","KIND"]:Lr).map .str)),("own",t16,.ref Z1,.tuple ((["X","Y","FIELD"]:Lr).map .str)),("place",t17,.ref Z2,.tuple ((["Y","FIELD","X"]:Lr).map .str))]) (W.mg_of X G k) z l (by show (["new","row","func","copy","take","put","push","pull","do","ask","straight","give","tell","rest","check","fresh","own","place"]:Lr).Nodup;decide +kernel) (aB.mpr ⟨⟨.ref V0,rfl,pF (xs:=["X","KIND"]) l0 (by show 2<=sizeLine;decide) (.cons ⟨_,rfl⟩ (.cons ⟨_,rfl⟩ .nil))⟩,aB.mpr ⟨⟨.ref V1,rfl,pF (xs:=["X"]) l1 (by show 1<=sizeLine;decide) (.cons ⟨_,rfl⟩ .nil)⟩,aB.mpr ⟨⟨.ref V2,rfl,pF (xs:=["X","FUNCTION","A"]) l2 (by show 3<=sizeLine;decide) (.cons ⟨_,rfl⟩ (.cons ⟨_,rfl⟩ (.cons ⟨_,rfl⟩ .nil)))⟩,aB.mpr ⟨⟨.ref V3,rfl,pF (xs:=["X","Y"]) l3 (by show 2<=sizeLine;decide) (.cons ⟨_,rfl⟩ (.cons ⟨_,rfl⟩ .nil))⟩,aB.mpr ⟨⟨.ref V4,rfl,pF (xs:=["X","Y","FIELD"]) l4 (by show 3<=sizeLine;decide) (.cons ⟨_,rfl⟩ (.cons ⟨_,rfl⟩ (.cons ⟨_,rfl⟩ .nil)))⟩,aB.mpr ⟨⟨.ref V5,rfl,pF (xs:=["Y","FIELD","X"]) l5 (by show 3<=sizeLine;decide) (.cons ⟨_,rfl⟩ (.cons ⟨_,rfl⟩ (.cons ⟨_,rfl⟩ .nil)))⟩,aB.mpr ⟨⟨.ref V6,rfl,pF (xs:=["Y","X"]) l6 (by show 2<=sizeLine;decide) (.cons ⟨_,rfl⟩ (.cons ⟨_,rfl⟩ .nil))⟩,aB.mpr ⟨⟨.ref V7,rfl,pF (xs:=["X","Y"]) l7 (by show 2<=sizeLine;decide) (.cons ⟨_,rfl⟩ (.cons ⟨_,rfl⟩ .nil))⟩,aB.mpr ⟨⟨.ref V8,rfl,pF (xs:=["X","Y","A"]) l8 (by show 3<=sizeLine;decide) (.cons ⟨_,rfl⟩ (.cons ⟨_,rfl⟩ (.cons ⟨_,rfl⟩ .nil)))⟩,aB.mpr ⟨⟨.ref V9,rfl,pF (xs:=["X","Y","METHOD","A"]) l9 (by show 4<=sizeLine;decide) (.cons ⟨_,rfl⟩ (.cons ⟨_,rfl⟩ (.cons ⟨_,rfl⟩ (.cons ⟨_,rfl⟩ .nil))))⟩,aB.mpr ⟨⟨.ref ZV,rfl,pF (xs:=["X","Y","KIND","METHOD","A"]) l10 (by show 5<=sizeLine;decide) (.cons ⟨_,rfl⟩ (.cons ⟨_,rfl⟩ (.cons ⟨_,rfl⟩ (.cons ⟨_,rfl⟩ (.cons ⟨_,rfl⟩ .nil)))))⟩,aB.mpr ⟨⟨.ref ZW,rfl,pF (xs:=["X"]) l11 (by show 1<=sizeLine;decide) (.cons ⟨_,rfl⟩ .nil)⟩,aB.mpr ⟨⟨.ref ZX,rfl,pF (xs:=["X"]) l12 (by show 1<=sizeLine;decide) (.cons ⟨_,rfl⟩ .nil)⟩,aB.mpr ⟨⟨.ref ZY,rfl,pF (xs:=[]) l13 (by show 0<=sizeLine;decide) .nil⟩,aB.mpr ⟨⟨.ref ZZ,rfl,pF (xs:=["Y","FIELD"]) l14 (by show 2<=sizeLine;decide) (.cons ⟨_,rfl⟩ (.cons ⟨_,rfl⟩ .nil))⟩,aB.mpr ⟨⟨.ref Z0,rfl,pF (xs:=["X","KIND"]) l15 (by show 2<=sizeLine;decide) (.cons ⟨_,rfl⟩ (.cons ⟨_,rfl⟩ .nil))⟩,aB.mpr ⟨⟨.ref Z1,rfl,pF (xs:=["X","Y","FIELD"]) l16 (by show 3<=sizeLine;decide) (.cons ⟨_,rfl⟩ (.cons ⟨_,rfl⟩ (.cons ⟨_,rfl⟩ .nil)))⟩,aB.mpr ⟨⟨.ref Z2,rfl,pF (xs:=["Y","FIELD","X"]) l17 (by show 3<=sizeLine;decide) (.cons ⟨_,rfl⟩ (.cons ⟨_,rfl⟩ (.cons ⟨_,rfl⟩ .nil)))⟩,List.forall_mem_nil _⟩⟩⟩⟩⟩⟩⟩⟩⟩⟩⟩⟩⟩⟩⟩⟩⟩⟩)
end
open PySem L2 PySem.StrLaws PySem.Builtin PySem.Builtin.Str
open PySem
theorem sX (i:Nat)(ρ:fu):fh i ρ=(ρ[i]?).join:=rfl
theorem vv (d:PyData)(ρ:fu):dC d ρ=some d:=rfl
theorem qo (o:PyData->PyData->Od)(f g:fu->Od)(ρ:fu):d2 o f g ρ=(f ρ).bind fun x=>(g ρ).bind fun y=>o x y:=rfl
theorem AX (n:Nat)(f:Lp->Od)(ff:fu->Option Lp)(ρ:fu):jg n f ff ρ=(ff ρ).bind fun ds=>if ds.length=n then f ds else none:=rfl
theorem za (f:Lp->Od)(ff:fu->Option Lp)(ρ:fu):i6 f ff ρ=(ff ρ).bind f:=rfl
theorem pw (ρ:fu):fD ρ=some []:=rfl
theorem fY (f:fu->Od)(ff:fu->Option Lp)(ρ:fu):fx f ff ρ=(f ρ).bind fun x=>(ff ρ).bind fun xs=>some (x::xs):=rfl
theorem Ji (ff:fu->Option Lp)(ρ:fu):jy ff ρ=(ff ρ).bind fun xs=>if xs.length<=sizeLine then some (.tuple xs) else none:=rfl
theorem vw (ff:fu->Option Lp)(ρ:fu):fH ff ρ=(ff ρ).bind fun xs=>if xs.length<=sizeLine then some (.list xs) else none:=rfl
theorem Dv (f:fu->Od)(l h:FO)(ρ:fu):gX f l h ρ=(f ρ).bind fun x=>(l ρ).bind fun lo=>(h ρ).bind fun hi=>Lq x lo hi:=rfl
theorem Dw (f:fu->Od)(ρ:fu):ig f ρ=(f ρ).bind fun d=>match d with | .int i=>some (some i)|_=>none:=rfl
theorem Dx (ρ:fu):iK ρ=some none:=rfl
theorem Nt (f:fu->Od)(l h:FO)(ρ:fu):u7 f l h ρ=(f ρ).bind fun x=>(l ρ).bind fun lo=>(h ρ).bind fun hi=>match x with | .list xs=>some (.list (oE xs lo hi))|_=>none:=rfl
theorem KY (o:PyData->Lp->Od)(f:fu->Od)(ff:fu->Option Lp)(ρ:fu):rO o f ff ρ=(f ρ).bind fun d=>(ff ρ).bind fun ds=>match d with | .str z=>o (.str z) ds|_=>none:=rfl
theorem Yv (o:PyData->Lp->Od)(f:fu->Od)(ff:fu->Option Lp)(ρ:fu):Qo o f ff ρ=(f ρ).bind fun d=>(ff ρ).bind fun ds=>match d with | .list z=>o (.list z) ds|_=>none:=rfl
theorem SH (cs:Lr)(n:Str)(f:fu->Od)(ρ:fu):jt cs n f ρ=(f ρ).bind (jP cs n):=rfl
theorem HL (q:fu->Option Lp)(caps:List (Nat×Str))(g:fu->Option Bool)(f:fu->Od)(ρ:fu):iL q caps g f ρ=(q ρ).bind fun ds=>if ds.length<=sizeLine then (iE g f (qT caps ρ) ds).map .list else none:=rfl
theorem Nu (f:fu->Od)(ρ:fu):lL f ρ=(f ρ).bind fun d=>match d with | .list ds=>some ds | .tuple ds=>some ds|_=>none:=rfl
theorem Vc (f:fu->Od)(ρ:fu):sj f ρ=(f ρ).bind fun d=>match d with | .list ds=>some ds | .tuple ds=>some ds | .str x=>some (uA x)|_=>none:=rfl
theorem p7 (f:fu->Od)(ρ:fu):gu f ρ=(f ρ).map .rt:=rfl
theorem qp (f:fu->Od)(i:Nat)(ρ:fu):fL f i ρ=(f ρ).map fun d=>.nx (ρ.set i (some d)):=rfl
theorem zb (f:fu->Od)(i:Nat)(ρ:fu):jA f i ρ=(f ρ).bind fun d=>if i<ρ.length then some (.nx (ρ.set i (some d))) else none:=rfl
theorem Yw (ρ:fu):gK ρ=some (.nx ρ):=rfl
theorem lX (O:List Nat)(f:fu->Od)(ρ:fu):gd O f ρ=f (jb O ρ):=rfl
theorem Jj (f:fu->Od)(ρ:fu):Gd f ρ=(f ρ).bind fun d=>if nO d=true then some d else none:=rfl
theorem SI (f:fu->Od)(ρ:fu):MM f ρ=(f ρ).bind fun d=>if As d=true then some d else none:=rfl
theorem Jk (O:List Nat)(f:fu->Option Lp)(ρ:fu):Aj O f ρ=f (jb O ρ):=rfl
theorem oa (f:fu->Od)(ρ:fu):fB f ρ=(f ρ).bind fun d=>match d with | .bool b=>some b|_=>none:=rfl
theorem Yx (f:fu->Od)(ρ:fu):yN f ρ=(f ρ).bind k9:=rfl
theorem Vd (f:fu->Option Bool)(ρ:fu):vS f ρ=(f ρ).map (!·):=rfl
theorem Yy (i:Nat)(o:Int->Int->Int)(f:fu->Od)(ρ:fu):Kl i o f ρ=(ρ[i]?).join.bind fun x=>(f ρ).bind fun d=>match x,d with | .int a,.int b=>some (.nx (ρ.set i (some (.int (o a b)))))|_,_=>none:=rfl
theorem uh (π:Pl)(fk fv:fu->Od)(ρ:fu):si π fk fv ρ=(qB π ρ).bind fun l=>(fv ρ).bind fun d=>(fk ρ).bind fun kd=>(vX kd d l).map fun l'=>.nx (tS π l' ρ):=rfl
theorem Jl (π:Pl)(f:fu->Od)(ρ:fu):gz π f ρ=(qB π ρ).bind fun l=>(f ρ).bind fun d=>match l with | .list ds=>if ds.length<sizeLine then some (.nx (tS π (.list (ds++[d])) ρ)) else none|_=>none:=rfl
theorem Nv (f:fu->Od)(tg:Tg)(ρ:fu):Bt f tg ρ=(f ρ).bind fun d=>(rN tg d ρ).map .nx:=rfl
theorem Jm (q:fu->Option Lp)(tg:Tg)(g:fu->Option gI)(ρ:fu):lj q tg g ρ=(q ρ).bind fun ds=>kb (rN tg) g ds ρ:=rfl
theorem Nw (f:fu->Od)(ρ:fu):ou f ρ=(Gd f ρ).bind fun d=>(ρ[0]?).join.map fun d0=>.rt (.tuple [d,d0]):=rfl
theorem wy (i:Nat)(c n:Str)(f:fu->Od)(ρ:fu):jW i c n f ρ=(ρ[i]?).join.bind fun x=>(f ρ).bind fun d=>match x with | .dict ((.none,.str c')::r)=>if c'=c/\nh c n=false/\r.length<1000 then some (.nx (ρ.set i (some (.dict ((.none,.str c)::qU n d r))))) else none|_=>none:=rfl
theorem Ve (c mn:Str)(n:Nat)(F:Lp->Od)(f:fu->Od)(ff:fu->Option Lp)(ρ:fu):oV c mn n F f ff ρ=(f ρ).bind fun d=>if mw c mn d=true then (ff ρ).bind fun ds=>if ds.length+1=n then F (d::ds) else none else none:=rfl
theorem Vf (c:Str)(n:Nat)(F:Lp->Option (PyData×PyData))(ff:fu->Option Lp)(ρ:fu):Bu c n F ff ρ=(ff ρ).bind fun ds=>if ds.length+1=n then (F (.dict [(.none,.str c)]::ds)).bind fun r=>match r with|(.none,d)=>some d|_=>none else none:=rfl
theorem abx (fj:fu->Option Str)(ρ:fu):dFs fj ρ=(fj ρ).bind fun z=>if z.length<=sizeLine then some (.str z) else none:=rfl
theorem aby (f:fu->Od)(fj:fu->Option Str)(ρ:fu):EE f fj ρ=(f ρ).bind fun d=>(fj ρ).bind fun z=>match d with | .str y=>some (y++z)|_=>none:=rfl
theorem abz (f:fu->Od)(ρ:fu):XM f ρ=(f ρ).bind fun d=>match d with | .str x=>if x.length<=sizeLine then some (.str x) else none|_=>none:=rfl
theorem QB (O:List Nat)(i n:Nat)(F:Lp->Option (PyData×PyData))(ff:fu->Option Lp)(ρ:fu):yF O i n F ff ρ=(ρ[i]?).join.bind fun d0=>(ff (jb O ρ)).bind fun ds=>if ds.length+1=n then (F (d0::ds)).bind fun r=>if nO r.1=true then some (r.1,ρ.set i (some r.2)) else none else none:=rfl
theorem Vg (h:fu->Option (PyData×fu))(ρ:fu):EC h ρ=(h ρ).bind fun r=>(r.2[0]?).join.map fun d0=>.rt (.tuple [r.1,d0]):=rfl
theorem abA (h:fu->Option (PyData×fu))(ρ:fu):hT h ρ=(h ρ).bind fun r=>match r with|(.bool b,ρ')=>some (b,ρ')|_=>none:=rfl
theorem Vh (h:fu->Option (Bool×fu))(ρ:fu):UL h ρ=(h ρ).map fun r=>(!r.1,r.2):=rfl
theorem QC (ρ:fu):yB ρ=none:=rfl
theorem Yz (T:String)(f:fu->Od)(ρ:fu):Ur T f ρ=(f ρ).bind fun d=>if IU d then none else some (.bool (OE d==T||(OE d=="bool"&&T=="int"))):=rfl
theorem abB (f:fu->Od)(ρ:fu):jG f ρ=(f ρ).bind fun d=>match d with | .int j=>if -(2 ^ 62)<=j/\j<2 ^ 62 then some (oq 0 j.toNat) else none|_=>none:=rfl
theorem Vi (f:fu->Od)(ρ:fu):Je f ρ=(f ρ).bind fun d=>match d with | .list ds=>some (ug ds)|_=>none:=rfl
theorem YA (f:fu->Od)(ρ:fu):aa7 f ρ=(f ρ).bind fun d=>match d with | .list xs=>some (.list xs.reverse)|_=>none:=rfl
theorem Vj (f:fu->Od)(ρ:fu):aa6 f ρ=(f ρ).bind fun d=>match d with | .list ds=>some ds.reverse|_=>none:=rfl
theorem YB (π:Pl)(f:fu->Od)(ρ:fu):CC π f ρ=(qB π ρ).bind fun l=>(f ρ).bind fun d=>match l,d with | .list ds,.list es=>if ds.length+es.length<=sizeLine then some (.nx (tS π (.list (ds++es)) ρ)) else none|_,_=>none:=rfl
theorem QD (π:Pl)(ρ:fu):Hn π ρ=(qB π ρ).bind fun l=>match l with | .list _=>some (.nx (tS π (.list []) ρ))|_=>none:=rfl
def Z3 (h:fu->Option gI):Option gI->Option gI
 | some (.nx ρ)=>h ρ
 | o=>o
theorem p8 (g h:fu->Option gI)(ρ:fu):fy g h ρ=Z3 h (g ρ):=by
 unfold fy Z3
 cases g ρ with
 | none=>rfl
 | some o=>cases o<;>rfl
theorem rj (h:fu->Option gI)(ρ:fu):Z3 h (some (.nx ρ))=h ρ:=rfl
theorem Nx (h:fu->Option gI)(d:PyData):Z3 h (some (.rt d))=some (.rt d):=rfl
def HM (c:Option Bool)(g h:fu->Option α)(ρ:fu):Option α:=match c with
 | some true=>g ρ
 | some false=>h ρ
 | none=>none
theorem xP (g h:fu->Option α)(ρ:fu):HM (some true) g h ρ=g ρ:=rfl
theorem YC (g h:fu->Option α)(ρ:fu):HM (some false) g h ρ=h ρ:=rfl
theorem Vk (c:fu->Option Bool)(g h:fu->Option gI)(ρ:fu):i9 c g h ρ=HM (c ρ) g h ρ:=by
 unfold i9 HM
 rcases c ρ with _|_|_<;>rfl
theorem p9 (f g:fu->Option Bool)(ρ:fu):jJ f g ρ=HM (f ρ) g (fun _=>some false) ρ:=by
 unfold jJ HM
 rcases f ρ with _|_|_<;>rfl
theorem abC (f g:fu->Option Bool)(ρ:fu):Ah f g ρ=HM (f ρ) (fun _=>some true) g ρ:=by
 unfold Ah HM
 rcases f ρ with _|_|_<;>rfl
theorem Ny (f g:fu->Od)(ρ:fu):rB f g ρ=HM ((f ρ).bind X3) g (fun _=>some (.bool false)) ρ:=by
 unfold rB HM
 rcases f ρ with _|d
 ·rfl
 ·simp only [az]
  rcases X3 d with _|_|_<;>rfl
theorem YD (b:Bool):X3 (.bool b)=some b:=rfl
def pG:Option gI->Od
 | some (.rt d)=>some d
 | some (.nx _)=>some .none
 | _=>none
theorem kY (N:Lr)(g:fu->Option gI)(ds:Lp):jq N g ds=pG (g (iD N ds)):=by
 unfold jq pG
 cases g (iD N ds) with
 | none=>rfl
 | some o=>cases o<;>rfl
theorem ji (d:PyData):pG (some (.rt d))=some d:=rfl
theorem QE (ρ:fu):pG (some (.nx ρ))=some .none:=rfl
def Vl:Option gI->Od
 | some (.rt d)=>some d
 | _=>none
theorem Vm (N:Lr)(g:fu->Option gI)(ds:Lp):CI N g ds=Vl (g (iD N ds)):=by
 unfold CI Vl
 cases g (iD N ds) with
 | none=>rfl
 | some o=>cases o<;>rfl
theorem QF (d:PyData):Vl (some (.rt d))=some d:=rfl
def HN:Option gI->Option (PyData×PyData)
 | some (.rt (.tuple [d,d0]))=>some (d,d0)
 | some (.nx ρ)=>(ρ[0]?).join.map fun d0=>(.none,d0)
 | _=>none
theorem wz (N:Lr)(g:fu->Option gI)(ds:Lp):qE N g ds=HN (g (iD N ds)):=by
 unfold qE
 cases g (iD N ds) with
 | none=>rfl
 | some o=>cases o<;>first|rfl|(rename_i d;cases d<;>first|rfl|(rename_i l;rcases l with _ | ⟨a,_ | ⟨b,_ | ⟨c,l⟩⟩⟩<;>rfl))
theorem vx (a b:PyData):HN (some (.rt (.tuple [a,b])))=some (a,b):=rfl
theorem QG (ρ:fu):HN (some (.nx ρ))=(ρ[0]?).join.map fun d0=>(.none,d0):=rfl
theorem ie (N:Lr)(ds:Lp):iD N ds=ds.map some++List.replicate (N.length - ds.length) none:=rfl
theorem ui (ρ:fu):jb [] ρ=ρ:=rfl
theorem uO (i:Nat)(O:List Nat)(ρ:fu):jb (i::O) ρ=(jb O ρ).set i none:=rfl
theorem SJ (i:Nat)(ρ:fu):qB (.sl i) ρ=(ρ[i]?).join:=rfl
theorem SK (i:Nat)(d:PyData)(ρ:fu):tS (.sl i) d ρ=ρ.set i (some d):=rfl
theorem sizeLine_eq:sizeLine=16777216:=by decide
local macro_rules
  | `(tactic| simp? only [$a,*]) => `(tactic| simp only [$a,*, sX, vv, qo, AX, za, pw, fY, Ji, vw, Dv, Dw, Dx, Nt, KY, Yv, SH, HL, Nu, Vc, p7, qp, zb, Yw, lX, Jj, SI, Jk, oa, Yx, Vd, Yy, Jl, Nv, Jm, Nw, Ve, Vf, abx, aby, abz, QB, Vg, abA, Vh, QC, Yz, Vi, YA, Vj, YB, QD, p8, rj, Nx, xP, YC, Vk, p9, abC, Ny, YD, kY, ji, QE, Vm, QF, wz, vx, QG, ie, ui, uO, SJ, SK, sizeLine_eq, List.map_cons, List.map_nil, List.length_cons, List.length_nil, List.cons_append, List.nil_append, List.getElem?_cons_zero, List.getElem?_cons_succ, List.getElem?_nil, Option.join_some, Option.join_none, Option.bind_some, Option.bind_none, Option.map_some, Option.map_none, List.set_cons_zero, List.set_cons_succ, List.replicate_zero, List.replicate_succ, Nat.reduceAdd, Nat.reduceSub, Nat.reduceLeDiff, Nat.reduceLT, Nat.reduceEqDiff, Nat.zero_add, ↓reduceIte, if_true, if_false, Bool.not_true, Bool.not_false, reduceCtorEq, and_self, and_true, true_and, Nat.zero_le])
theorem Nz:zZ "\n"=⟨#[10]⟩:=by decide +kernel
theorem qq:zZ " "=⟨#[32]⟩:=by decide +kernel
theorem QH:zZ "."=⟨#[46]⟩:=by decide +kernel
theorem Dy {c:Nat}:∀ (l1 l2 r1 r2:List Nat),c∉l1->c∉l2->l1++c::r1=l2++c::r2->l1=l2/\r1=r2
 | [],[],_,_,_,_,h=>by simp at h;exact⟨rfl,h⟩
 | [],a::l2,_,_,_,h2,h=>by simp at h;exact absurd h.1 (by intro e;subst e;simp at h2)
 | a::l1,[],_,_,h1,_,h=>by simp at h;exact absurd h.1 (by intro e;subst e;simp at h1)
 | a::l1,b::l2,r1,r2,h1,h2,h=>by
  simp only [bA,List.cons.injEq] at h
  simp only [ah,not_or] at h1 h2
  obtain⟨e1,e2⟩:=Dy l1 l2 r1 r2 h1.2 h2.2 h.2
  exact⟨by rw [h.1,e1],e2⟩
theorem NA {c:Nat}(l1 l2 r2:List Nat)(h1:c∉l1)(h:l1=l2++c::r2):False:=h1 (by rw [h];simp)
theorem tF (c:Nat)(a b:Str)(r:Lr):(Str.join ⟨#[c]⟩ (a::b::r)).cps.toList=a.cps.toList++c::(Str.join ⟨#[c]⟩ (b::r)).cps.toList:=by
 show (a++(⟨#[c]⟩:Str)++Str.join ⟨#[c]⟩ (b::r)).cps.toList=_
 simp [eZ]
theorem FC (c:Nat):∀ (as bs:Lr),as≠[]->bs≠[]->(∀ p∈as,c∉p.cps.toList)->(∀ p∈bs,c∉p.cps.toList)->Str.join ⟨#[c]⟩ as=Str.join ⟨#[c]⟩ bs->as=bs
 | [],_,h,_,_,_,_=>absurd rfl h
 | _::_,[],_,h,_,_,_=>absurd rfl h
 | [a],[b],_,_,_,_,h=>by
  have:a=b:=h
  rw [this]
 | [a],b::b2::r,_,_,h1,_,h=>by
  have e:=bQ (fun z:Str=>z.cps.toList) h
  simp only [tF] at e
  exact(NA _ _ _ (h1 a (by simp)) e).elim
 | a::a2::r,[b],_,_,_,h2,h=>by
  have e:=bQ (fun z:Str=>z.cps.toList) h
  simp only [tF] at e
  exact(NA _ _ _ (h2 b (by simp)) e.symm).elim
 | a::a2::r,b::b2::t,_,_,h1,h2,h=>by
  have e:=bQ (fun z:Str=>z.cps.toList) h
  simp only [tF] at e
  obtain⟨e1,e2⟩:=Dy _ _ _ _ (h1 a (by simp)) (h2 b (by simp)) e
  have ea:a=b:=Str.ext' (dH.mp e1)
  have er:=FC c (a2::r) (b2::t) (by simp) (by simp) (fun p hp=>h1 p (by simp [hp])) (fun p hp=>h2 p (by simp [hp])) (Str.ext' (dH.mp e2))
  rw [ea,er]
theorem NB (x y:Str):Txt.split x y≠[]:=by
 unfold Txt.split
 split
 ·simp
 ·split
  ·simp
  ·rw [partsBetween_eq]
   obtain⟨p,r,e⟩:=partsFrom_ne x y.length 0 (occurrences x y 0 x.length (x.length+1))
   rw [e];simp
theorem HP (c:Nat)(ps:Lr)(h0:ps≠[])(h:∀ p∈ps,c∉p.cps.toList):Txt.split (Str.join ⟨#[c]⟩ ps) ⟨#[c]⟩=ps :=
 FC c _ _ (NB _ _) h0 (fun p hp=>split_free _ c p hp) h (join_split _ _)
theorem uj (x:Str)(w:Nat):∀ (YE:List Nat) (a:Nat),(partsFrom x w a YE).length=YE.length+1
 | [],_=>rfl
 | c::r,a=>by
  show (strSub x a c::partsFrom x w (c+w) r).length=_
  simp [uj x w r]
abbrev wl (ws:List Str):PyData:=.list (ws.map .str)
theorem Jn (c:Nat)(ps:Lr)(h0:ps≠[])(h:∀ p∈ps,c∉p.cps.toList)(hl:(Str.join ⟨#[c]⟩ ps).length<=1000000) :
  lP (.str (Str.join ⟨#[c]⟩ ps)) [.str ⟨#[c]⟩]=some (wl ps):=by
 have h1:=occ_length_le_len (Str.join ⟨#[c]⟩ ps) ⟨#[c]⟩ 0 (Str.join ⟨#[c]⟩ ps).length ((Str.join ⟨#[c]⟩ ps).length+1)
 show (if _ then _ else none)=_
 rw [ai ⟨rfl,by rw [sizeLine_eq];omega,by rw [partsBetween_eq,uj,sizeLine_eq];omega⟩,HP c ps h0 h]
theorem qW:∀ ps:Lr,qi (ps.map .str)=some ps
 | []=>rfl
 | p::ps=>by show (qi (ps.map .str)).map (p::·)=_;rw [qW ps];rfl
theorem NC (c:Nat)(ps:Lr){B:Nat}(hB:∀ y∈ps,y.length<=B)(h:ps.length*B+ps.length<=1000000) :
  jX (.str ⟨#[c]⟩) [wl ps]=some (.str (Str.join ⟨#[c]⟩ ps)):=by
 show (qi (ps.map .str)).bind (fun texts=>if JoinOk ⟨#[c]⟩ texts=true then some (PyData.str (Txt.join ⟨#[c]⟩ texts)) else none)=_
 rw [qW]
 have:JoinOk ⟨#[c]⟩ ps=true:=by
  unfold JoinOk
  rw [joinFits hB (by show _+ps.length*1<=_;omega)];rfl
 show (if JoinOk ⟨#[c]⟩ ps=true then some (PyData.str (glued ⟨#[c]⟩ ps)) else none)=_
 rw [ai this,glued_eq_join]
theorem FD (c:Nat)(ps:Lr){B:Nat}(hB:∀ y∈ps,y.length<=B):(Str.join ⟨#[c]⟩ ps).length<=ps.length*B+ps.length:=by
 have h1:=join_length_le ⟨#[c]⟩ ps
 have h2:=sumLen_le ps hB
 have:(⟨#[c]⟩:Str).length=1:=rfl
 rw [this] at h1
 omega
theorem BJ (c k:Nat)(hk:k≠c):∀ ps:Lr,(∀ p∈ps,k∉p.cps.toList)->k∉(Str.join ⟨#[c]⟩ ps).cps.toList
 | [],_=>by simp [Str.join,Str.empty]
 | [a],h=>h a (by simp)
 | a::b::r,h=>by
  rw [tF]
  have:=BJ c k hk (b::r) (fun p hp=>h p (by simp [hp]))
  have h1:=h a (by simp)
  simp only [au,ah,not_or]
  exact⟨h1,hk,this⟩
def nY (x:Str):Bool:=decide (1<=x.length)&&decide (x.length<=8)&&x.cps.toList.all fun c=>decide (97<=c)&&decide (c<=122)
theorem nv:nY x=true↔1<=x.length/\x.length<=8/\∀ c∈x.cps.toList,97<=c/\c<=122:=by
 simp only [nY,aX,bc,aL,and_assoc]
theorem vy (h:nY x=true){c:Nat}(hc:c<97):c∉x.cps.toList:=fun hm=>by
 have:=((nv.mp h).2.2 c hm).1
 omega
theorem pA (h:nY x=true):PyData.strOk x=true:=by
 unfold PyData.strOk
 rw [Array.all_eq_true_iff_forall_mem]
 intro c hc
 have:=((nv.mp h).2.2 c (by simpa using hc)).2
 simp;omega
theorem jI (h:PyData.strOk x=true):SeqAt.shaped (.str x)=true:=by simp [SeqAt.shaped,PyData.canLay0,PyData.depth,h]
theorem Dz (a b:Str):PyData.eqv (.str a) (.str b)=(a==b):=by rw [PyData.eqv]
theorem QI {a b:Str}(ha:PyData.strOk a=true)(hb:PyData.strOk b=true):jC (.str a) (.str b)=some (.bool (a==b)):=by
 rw [jC,ai ⟨jI ha,jI hb⟩,Dz]
theorem ND {a b:Str}(ha:PyData.strOk a=true)(hb:PyData.strOk b=true):oB (.str a) (.str b)=some (.bool (!(a==b))):=by
 rw [oB,ai ⟨jI ha,jI hb⟩,Dz]
theorem uI:∀ ws:Lr,PyData.depthAll (ws.map .str)=0
 | []=>by simp [PyData.depthAll]
 | w::ws=>by simp [PyData.depthAll,PyData.depth,uI ws]
theorem tG {ws:Lr}(h:∀ w∈ws,PyData.strOk w=true):SeqAt.shaped (wl ws)=true:=by
 have:PyData.canLayAll0 (ws.map .str)=true:=by rw [dR];simpa using h
 simp [SeqAt.shaped,PyData.canLay0,PyData.depth,this,uI]
theorem xc:∀ as bs:Lr,PyData.eqvAll (as.map .str) (bs.map .str)=decide (as=bs)
 | [],[]=>by rw [aZ,PyData.eqvAll];rfl
 | [],b::bs=>by rw [aZ,aa,PyData.eqvAll];simp
 | a::as,[]=>by rw [aZ,aa,PyData.eqvAll];simp
 | a::as,b::bs=>by
  rw [aa,aa,PyData.eqvAll,Dz,xc as bs]
  by_cases e:a=b
  ·subst e;simp
  ·simp [e]
theorem NF (as bs:Lr):PyData.eqv (wl as) (wl bs)=decide (as=bs):=by
 rw [PyData.eqv,xc]
theorem DA {as bs:Lr}(ha:∀ w∈as,PyData.strOk w=true)(hb:∀ w∈bs,PyData.strOk w=true):jC (wl as) (wl bs)=some (.bool (decide (as=bs))):=by
 rw [jC,ai ⟨tG ha,tG hb⟩,NF]
theorem DB {as bs:Lr}(ha:∀ w∈as,PyData.strOk w=true)(hb:∀ w∈bs,PyData.strOk w=true):oB (wl as) (wl bs)=some (.bool (!decide (as=bs))):=by
 rw [oB,ai ⟨tG ha,tG hb⟩,NF]
theorem FE (x:Str):∀ ys:Lr,(ys.map PyData.str).any (fun y=>PyData.eqv y (.str x))=decide (x∈ys)
 | []=>by simp
 | y::ys=>by
  rw [aa,bG,Dz,FE x ys]
  by_cases e:y=x
  ·subst e;simp
  ·have e':¬ x=y:=fun z=>e z.symm
   simp [e,e']
theorem vz {ys:Lr}(hx:PyData.strOk x=true)(hy:∀ w∈ys,PyData.strOk w=true):mq (.str x) (wl ys)=some (decide (x∈ys)):=by
 show (if _ then _ else none)=_
 rw [ai ⟨jI hx,by rw [List.all_map,aL];intro w hw;exact jI (hy w hw),by simp [PyData.depth]⟩,FE]
theorem lt1 (c d:Nat):decide (([c]:List Nat)<[d])=decide (c<d):=by
 rw [lt_cons_cons];simp
theorem YF:zZ "a"=⟨#[97]⟩:=by decide +kernel
theorem YG:zZ "z"=⟨#[122]⟩:=by decide +kernel
theorem KZ {c:Nat}(h:97<=c/\c<=122)(x:PyData):kj [some x,some (.str ⟨#[c]⟩)]=some (.nx [some x,some (.str ⟨#[c]⟩)]):=by
 have e1:vc (.str ⟨#[97]⟩) (.str ⟨#[c]⟩)=some (.bool true):=by
  show some (PyData.bool (!decide (([c]:List Nat)<[97])))=_
  rw [lt1,aH (by omega)];rfl
 have e2:vc (.str ⟨#[c]⟩) (.str ⟨#[122]⟩)=some (.bool true):=by
  show some (PyData.bool (!decide (([122]:List Nat)<[c])))=_
  rw [lt1,aH (by omega)];rfl
 have e3:yH vc vc (zA "a") (fh 1) (zA "z") [some x,some (.str ⟨#[c]⟩)]=some true:=by
  simp only [yH,dC,fh,YF,YG,bw,a8,bT,az,e1,e2]
  rfl
 simp? only [kj,e3]
theorem zc (x:PyData):∀ (l:List Nat) (o:Od),(∀ c∈l,97<=c/\c<=122)->∃ o',kb (rN (.one 1)) kj (l.map fun c=>.str ⟨#[c]⟩) [some x,o]=some (.nx [some x,o'])
 | [],o,_=>⟨o,rfl⟩
 | c::l,o,h=>by
  obtain⟨o',e⟩:=zc x l (some (.str ⟨#[c]⟩)) fun z hz=>h z (by simp [hz])
  refine⟨o',?_⟩
  rw [aa,kb]
  show ((kj [some x,some (.str ⟨#[c]⟩)])).bind _=_
  rw [KZ (h c (by simp))]
  exact e
theorem FF:PyData.strOk (zZ "")=true:=by decide +kernel
theorem QJ (h:nY x=true):oP [.str x]=some (.bool true):=by
 obtain⟨h1,h2,h3⟩:=nv.mp h
 obtain⟨o',e⟩:=zc (.str x) x.cps.toList none h3
 have Et:(x==zZ "")=false:=by
  rw [aW]
  intro z;subst z
  exact absurd h1 (zD 0)
 have hl:oJ [.str x]=some (.bool true):=by
  simp? only [oJ,vi]
  rw [show uA x=x.cps.toList.map fun c=>PyData.str ⟨#[c]⟩ from rfl,e]
  simp? only [ND (pA h) FF,Et]
 have h2':(x.length:Int)<=8:=by omega
 have hz:x.length<=16777216:=by omega
 have e8:vc (.int x.length) (.int 8)=some (.bool true):=by simp [vc,Zt,dI,h2']
 simp? only [oP,BI,iQ,PC,ai hz,hl,e8]
theorem iX (a b:String):jC (.str (zZ a)) (.str (zZ b))=some (.bool (a==b)):=by
 rw [QI (fI a) (fI b),k8]
theorem lC (a b:String):oB (.str (zZ a)) (.str (zZ b))=some (.bool (!(a==b))):=by
 rw [ND (fI a) (fI b),k8]
theorem tH (l:Lp)(i:Int):gR (.list l) (.int i)=ux l i:=rfl
theorem Vn (l:Lp)(i:Int):gR (.tuple l) (.int i)=ux l i:=rfl
theorem v8 (a:α)(l:List α):ux (a::l) 0=some a:=by
 have:(0:Int)<((l.length:Nat):Int)+1:=by omega
 simp [ux,Ci,this]
theorem Ge (a b:α)(l:List α):ux (a::b::l) 1=some b:=by
 have:(1:Int)<((l.length:Nat):Int)+1+1:=by omega
 simp [ux,Ci,this]
theorem at2 (a b c:α)(l:List α):ux (a::b::c::l) 2=some c:=by
 have:(2:Int)<((l.length:Nat):Int)+1+1+1:=by omega
 simp [ux,Ci,this]
theorem zd (n d:Nat)(v:Int):HT.k5 n d (some v)=if v<0 then (v+(n:Int)).toNat else min v.toNat n:=rfl
theorem sY (l:List α)(k:Nat)(hk:k<=l.length):oE l (some (k:Int)) none=l.drop k:=by
 unfold oE
 rw [zd,ao (by omega)]
 simp only [HT.k5]
 rw [dn,Nat.min_eq_left hk,List.take_of_length_le]
 simp
theorem NG (l:List α)(k:Nat)(hk:k<=l.length):oE l none (some (k:Int))=l.take k:=by
 unfold oE
 rw [zd,ao (by omega)]
 simp only [HT.k5]
 rw [dn,Nat.min_eq_left hk]
 simp
theorem DC (a b:α)(l:List α):oE (a::b::l) (some 2) none=l:=by
 have:=sY (a::b::l) 2 (by simp)
 simpa using this
theorem abD (a b c:α)(l:List α):oE (a::b::c::l) (some 3) none=l:=by
 have:=sY (a::b::c::l) 3 (by simp)
 simpa using this
theorem qa (l:Lp):lR [.list l]=some (.list l):=rfl
theorem K0 (l:Lp)(lo hi:Option Int):Lq (.list l) lo hi=some (.list (oE l lo hi)):=rfl
theorem oe (l:Lp):iQ [.list l]=some (.int l.length):=rfl
theorem vA (x:Str)(r:Lr):∀ (ps:Lr) (n:Nat),x∉ps->qX (fun y=>PyData.eqv y (.str x)) ((ps++x::r).map .str) n=some (n+ps.length)
 | [],n,_=>by
  rw [bu,aa,qX,Dz]
  simp
 | p::ps,n,h=>by
  simp only [ah,not_or] at h
  rw [bA,aa,qX,Dz,vA x r ps (n+1) h.2]
  have:¬ (p==x)=true:=by simpa using fun z:p=x=>h.1 z.symm
  rw [ao this]
  simp only [ar]
  congr 1;omega
theorem BL {ps r:Lr}(hx:PyData.strOk x=true)(hy:∀ w∈ps++x::r,PyData.strOk w=true)(h:x∉ps)(hl:(ps++x::r).length<=1000) :
  yJ (.list ((ps++x::r).map .str)) [.str x]=some (.int ps.length):=by
 show (if _ then _ else none)=_
 rw [ai ⟨jI hx,by rw [List.all_map,aL];intro w hw;exact jI (hy w hw),by simp [PyData.depth],by rw [ae,sizeLine_eq];omega⟩,vA x r ps 0 h]
 simp
theorem jU (x y:PyData):qh x y=(mq x y).map .bool:=rfl
theorem mS (x y:PyData):kQ x y=(mq x y).map fun b=>.bool (!b):=rfl
def kw (ks:Lr):Lr:=if ks=[] then [] else zZ "keeps"::ks
theorem Jo (f:Str)(r:Lr):iA [wl (zZ "func"::f::r)]=some (.str f):=by
 have e1:("func"=="method")=false:=by decide
 have e2:("func"=="func")=true:=by decide
 simp? only [iA,sF,wl,tH,v8,Ge,iX,e1,e2]
theorem Jp (k m:Str)(r:Lr)(hk:k.length<=8)(hm:m.length<=8):iA [wl (zZ "method"::k::m::r)]=some (.str (k++(zZ "."++m))):=by
 have e1:("method"=="method")=true:=by decide
 have h1:k.length<=16777216:=by omega
 have h2:m.length<=16777216:=by omega
 have h3:(k++(zZ "."++m)).length<=16777216:=by
  rw [cw,cw,show (zZ ".").length=1 by decide +kernel];omega
 simp? only [iA,sF,kn,ql,wl,tH,v8,Ge,at2,iX,e1,ai h1,ai h2,ai h3,Str.append_empty]
theorem Jq:iA [wl ["main"]]=some (.str "main"):=by kernel_rfl
theorem QK (k m:Str)(r:Lr):jL [wl (zZ "method"::k::m::r)]=some (wl r):=by
 have e1:("method"=="method")=true:=by decide
 simp? only [jL,nL,wl,tH,v8,iX,e1,K0,abD,qa]
theorem QL (k m:Str)(r:Lr):iV [wl (zZ "method"::k::m::r)]=some (wl []):=by
 have e1:("method"=="func")=false:=by decide
 simp? only [iV,pV,wl,tH,v8,lC,e1]
theorem NH {ks:Lr}(h:∀ w∈ks,PyData.strOk w=true):∀ w∈kw ks,PyData.strOk w=true:=by
 intro w hw
 unfold kw at hw
 split at hw
 ·simp at hw
 ·rcases ah.mp hw with rfl|hw
  ·exact fI _
  ·exact h w hw
theorem QM (f:Str){ps ks:Lr}(hp:∀ w∈ps,PyData.strOk w=true)(hk:∀ w∈ks,PyData.strOk w=true)(hn:zZ "keeps"∉ps)(hl:ps.length+ks.length<=900) :
  jL [wl (zZ "func"::f::(ps++kw ks))]=some (wl ps):=by
 have e1:("func"=="method")=false:=by decide
 have hN:∀ w∈ps++kw ks,PyData.strOk w=true:=fun w hw=>(au.mp hw).elim (hp w) (NH hk w)
 have hi:=vz (fI "keeps") hN
 by_cases q:ks=[]
 ·subst q
  have ek:ps++kw []=ps:=by simp [kw]
  rw [ek] at hi ⊢
  rw [aH hn] at hi
  simp? only [jL,nL,wl,tH,v8,iX,e1,K0,DC,qa,jU,hi]
 ·have ek:kw ks=zZ "keeps"::ks:=by simp [kw,q]
  rw [ek] at hi hN ⊢
  rw [bf (by simp)] at hi
  have hx:=BL (fI "keeps") hN hn (by simp;omega)
  have hc:oE ((ps++zZ "keeps"::ks).map PyData.str) none (some (ps.length:Int))=ps.map .str:=by
   rw [NG _ _ (by simp)];simp
  simp? only [jL,nL,wl,tH,v8,iX,e1,K0,DC,qa,jU,hi,hx,hc]
theorem Jr (f:Str){ps ks:Lr}(hp:∀ w∈ps,PyData.strOk w=true)(hk:∀ w∈ks,PyData.strOk w=true)(hn:zZ "keeps"∉ps)(hl:ps.length+ks.length<=900) :
  iV [wl (zZ "func"::f::(ps++kw ks))]=some (wl ks):=by
 have e1:("func"=="func")=true:=by decide
 have hN:∀ w∈ps++kw ks,PyData.strOk w=true:=fun w hw=>(au.mp hw).elim (hp w) (NH hk w)
 have hi:=vz (fI "keeps") hN
 by_cases q:ks=[]
 ·subst q
  have ek:ps++kw []=ps:=by simp [kw]
  rw [ek] at hi ⊢
  rw [aH hn] at hi
  simp? only [iV,pV,wl,tH,v8,lC,e1,K0,DC,qa,mS,hi]
 ·have ek:kw ks=zZ "keeps"::ks:=by simp [kw,q]
  rw [ek] at hi hN ⊢
  rw [bf (by simp)] at hi
  have hx:=BL (fI "keeps") hN hn (by simp;omega)
  have hd:f6 (.int (ps.length:Int)) (.int 1)=some (.int ((ps.length+1:Nat):Int)):=rfl
  have hc:oE ((ps++zZ "keeps"::ks).map PyData.str) (some ((ps.length+1:Nat):Int)) none=ks.map .str:=by
   rw [sY _ _ (by simp),← List.map_drop]
   congr 1
   simp [List.drop_append]
  simp? only [iV,pV,wl,tH,v8,lC,e1,K0,DC,qa,mS,hi,hx,hd,hc]
theorem BM:∀ ws:Lr,uC (ws.map .str)=some (ws.map .inr)
 | []=>rfl
 | w::ws=>by
  show ((sg (.str w)).bind fun k=>(uC (ws.map .str)).map (k::·))=_
  rw [BM ws];rfl
theorem ze {K:Type}[DecidableEq K]:∀ (ks acc:List K),(acc++ks).Nodup->ow acc ks=acc++ks
 | [],acc,_=>by simp [ow]
 | k::ks,acc,h=>by
  have hk:k∉acc:=fun z=>by
   rw [a0] at h
   exact h.2.2 k z k (by simp) rfl
  show ow (uB acc k) ks=_
  have e:uB acc k=acc++[k]:=by simp [uB,hk]
  rw [e,ze ks (acc++[k]) (by simpa using h)]
  simp
theorem Js {ns:Lr}(h:ns.Nodup)(hl:ns.length<=900):nq [wl ns]=some (.bool true):=by
 have hk:(ns.map (Sum.inr:Str->Key)).Nodup:=by
  unfold List.Nodup at h ⊢
  exact List.Pairwise.map _ (fun a b q z=>q (by injection z)) h
 have e1:CW (fh 0) [some (.list (ns.map .str))]=some (.int ns.length):=by
  show (uC (ns.map .str)).bind _=_
  rw [BM]
  show (if _ then _ else none)=_
  rw [ai (by rw [ae];omega),ze _ _ (by simpa using hk)]
  simp
 have e2:jC (.int (ns.length:Int)) (.int (ns.length:Int))=some (.bool true):=by
  rw [jC,ai ⟨by rfl,by rfl⟩,PyData.eqv];simp
 simp? only [nq,yU,wl,e1,oe,ae,e2]
def gD (H:List (Str×PyData)):PyData:=.dict (H.map fun p=>(.str p.1,p.2))
theorem BN {t:Str}:∀ {H:List (Str×PyData)},t∉H.map (·.1)->ku (.str t) (H.map fun p=>(.str p.1,p.2))=none
 | [],_=>rfl
 | p::H,h=>by
  simp only [aa,ah,not_or] at h
  rw [aa,ku,ao (by show ¬ (decide (p.1=t))=true;simpa using fun z:p.1=t=>h.1 z.symm)]
  exact BN h.2
theorem BO {t:Str}{d:PyData}:∀ {H:List (Str×PyData)},(H.map (·.1)).Nodup->(t,d)∈H->ku (.str t) (H.map fun p=>(.str p.1,p.2))=some d
 | [],_,h=>by simp at h
 | p::H,nd,h=>by
  rw [aa,a9] at nd
  rw [aa,ku]
  rcases ah.mp h with e|e
  ·subst e
   rw [ai (by show (decide (t=t))=true;simp)]
  ·have:p.1≠t:=fun z=>nd.1 (by rw [z];exact ag.mpr ⟨(t,d),e,rfl⟩)
   rw [ao (by show ¬ (decide (p.1=t))=true;simpa using this)]
   exact BO nd.2 e
theorem FG {t:Str}:∀ {H:List (Str×PyData)},t∉H.map (·.1)->((H.map fun p=>((.str p.1:PyData),p.2)).any fun x=>mY x.1 (.str t))=false
 | [],_=>rfl
 | p::H,h=>by
  simp only [aa,ah,not_or] at h
  rw [aa,bG,FG h.2]
  have:mY (.str p.1) (.str t)=false:=by show decide (p.1=t)=false;simpa using fun z:p.1=t=>h.1 z.symm
  rw [this];rfl
theorem vB (H:List (Str×PyData)):hW (H.map fun p=>((.str p.1:PyData),p.2))=false:=by cases H<;>rfl
theorem DD {H:List (Str×PyData)}(h:t∉H.map (·.1))(hl:H.length<=900):vX (.str t) d (gD H)=some (gD (H++[(t,d)])):=by
 show (if _ then _ else none)=_
 rw [ai ⟨by rw [ae,sizeLine_eq];omega,vB H⟩]
 show some (PyData.dict (Ex (.str t) d _))=_
 rw [Ex,ao (by rw [FG h];simp)]
 simp [gD]
theorem Jt {t:Str}:∀ {H:List (Str×PyData)},t∈H.map (·.1)->(ku (.str t) (H.map fun p=>(.str p.1,p.2))).isSome=true
 | [],h=>by simp at h
 | p::H,h=>by
  rw [aa,ku]
  by_cases q:p.1=t
  ·rw [ai (by show (decide (p.1=t))=true;simpa using q)];rfl
  ·rw [ao (by show ¬ (decide (p.1=t))=true;simpa using q)]
   refine Jt ?_
   rw [aa] at h
   rcases ah.mp h with e|e
   ·exact absurd e.symm q
   ·exact e
theorem zf {H:List (Str×PyData)}:mq (.str t) (gD H)=some (decide (t∈H.map (·.1))):=by
 show (if hW _=true then none else _)=_
 rw [ao (by rw [vB];simp)]
 show some (ku (.str t) _).isSome=_
 by_cases h:t∈H.map (·.1)
 ·rw [bf h,Jt h]
 ·rw [aH h,BN h];rfl
theorem SM {H:List (Str×PyData)}(nd:(H.map (·.1)).Nodup)(h:(t,d)∈H):gR (gD H) (.str t)=some d:=by
 show (if hW _=true then none else _)=_
 rw [ao (by rw [vB];simp)]
 exact BO nd h
theorem QN (H:List (Str×PyData)):lR [gD H]=some (wl (H.map (·.1))):=by
 show (if hW _=true then none else _)=_
 rw [ao (by rw [vB];simp)]
 simp [wl,cN]
theorem DE:pP .none .none=some (.bool false):=rfl
theorem DF (t:Str):pP (.str t) .none=some (.bool true):=rfl
theorem wA (b:Bool):k9 (.bool b)=some b:=rfl
theorem mT (b:Bool):nO (.bool b)=true:=rfl
theorem HQ (b:Str):nO (.str b)=true:=rfl
theorem Vo (b:Int):nO (.int b)=true:=rfl
theorem Ju:nO .none=true:=rfl
theorem DG (ws:Lr):As (wl ws)=true:=by simp [As,wl,nO]
theorem QO (l:List α)(a:α):ux (l++[a]) (-1)=some a:=by
 have h1:(1:Int)<=(l.length:Int)+1:=by omega
 have h2:(-1+((l.length:Int)+1)).toNat=l.length:=by omega
 simp [ux,Ci,h1,h2]
theorem gO {bd:BD}{g:fu->Option gI}{ρ1:fu}(h:(bd d ρ).bind g=some (.nx ρ1)):kb bd g (d::ds) ρ=kb bd g ds ρ1:=by
 rw [kb,h];rfl
theorem fX {A B:fu->Option gI}{ρ0 ρ1:fu}{o:Option gI}(h1:A ρ0=some (.nx ρ1))(h2:B ρ1=o):fy A B ρ0=o:=by rw [p8,h1,rj,h2]
theorem nA {c:fu->Option Bool}{A B:fu->Option gI}{o:Option gI}(h1:c ρ=some true)(h2:A ρ=o):i9 c A B ρ=o:=by rw [Vk,h1,xP,h2]
theorem kz {c:fu->Option Bool}{A B:fu->Option gI}{o:Option gI}(h1:c ρ=some false)(h2:B ρ=o):i9 c A B ρ=o:=by rw [Vk,h1,YC,h2]
local macro_rules
| `(zF $a) => `(fX (kz (by kernel_rfl) rfl) $a)
theorem gF (h:f (jb O ρ)=some d):fL (gd O f) i ρ=some (.nx (ρ.set i (some d))):=by
 rw [qp,lX,h];rfl
theorem rJ {acc:Lp}{x:PyData}(h1:(ρ[i]?).join=some (.list acc))(hl:acc.length<=1000)(h:f ρ=some x):gz (.sl i) f ρ=some (.nx (ρ.set i (some (.list (acc++[x]))))):=by
 rw [Jl,SJ,h1,h]
 have z:acc.length<sizeLine:=by rw [sizeLine_eq];omega
 simp only [az,ai z,SK]
theorem abE {N:Lr}{A B C E:fu->Option gI}{ρ0 ρ1 ρ2 ρ3:fu}(h0:iD N ds=ρ0)(h1:A ρ0=some (.nx ρ1))(h2:B ρ1=some (.nx ρ2))(h3:C ρ2=some (.nx ρ3))(h4:E ρ3=some (.rt d)):jq N (fy A (fy B (fy C E))) ds=some d:=by
 rw [kY,h0,p8,h1,rj,p8,h2,rj,p8,h3,rj,h4,ji]
theorem YH {N:Lr}{A B C D E:fu->Option gI}{ρ0 ρ1 ρ2 ρ3 ρ4:fu}(h0:iD N ds=ρ0)(h1:A ρ0=some (.nx ρ1))(h2:B ρ1=some (.nx ρ2))(h3:C ρ2=some (.nx ρ3))(h4:D ρ3=some (.nx ρ4))(h5:E ρ4=some (.rt d)):jq N (fy A (fy B (fy C (fy D E)))) ds=some d:=by
 rw [kY,h0,p8,h1,rj,p8,h2,rj,p8,h3,rj,p8,h4,rj,h5,ji]
theorem tI {tg:Tg}{g:fu->Option gI}{o:Option gI}(h:q (ρ.set i none)=some ds)(e:kb (rN tg) g ds ρ=o):lj (Aj [i] q) tg g ρ=o:=by
 rw [Jm,Jk,uO,ui,h];exact e
theorem vC {j:Nat}{tg:Tg}{g:fu->Option gI}{o:Option gI}(h:q ((ρ.set j none).set i none)=some ds)(e:kb (rN tg) g ds ρ=o):lj (Aj [i,j] q) tg g ρ=o:=by
 rw [Jm,Jk,uO,uO,ui,h];exact e
theorem oN {T:fu->Option Bool}{C:fu->Od}{ys:Lp}(h1:q ρ=some ds)(h2:ds.length<=1000)(h3:iE T C (qT caps ρ) ds=some ys):iL q caps T C ρ=some (.list ys):=by
 rw [HL,h1]
 simp only [az]
 rw [ai (by rw [sizeLine_eq];omega),h3];rfl
theorem DH (a b:Str)(h:a.length+b.length<=1000):f6 (.str a) (.str b)=some (.str (a++b)):=by
 show (if _ then _ else none)=_
 rw [ai (by rw [sizeLine_eq];omega)]
theorem SN (i j:Int):jC (.int i) (.int j)=some (.bool (i==j)):=by
 rw [jC,ai ⟨by rfl,by rfl⟩,PyData.eqv]
theorem neI (i j:Int):oB (.int i) (.int j)=some (.bool (!(i==j))):=by
 rw [oB,ai ⟨by rfl,by rfl⟩,PyData.eqv]
def kA (k m:Str):Str:=k++(zZ "."++m)
def ln (ws:Lr):Str:=Str.join ⟨#[32]⟩ ws
def GR (ws:Lr):Prop:=ws≠[]/\(∀ w∈ws,nY w=true)/\ws.length<=12
theorem GR.len {ws:Lr}(h:GR ws):(Str.join ⟨#[32]⟩ ws).length<=108:=by
 have:=FD 32 ws (B:=8) fun w hw=>(nv.mp (h.2.1 w hw)).2.1
 have:=h.2.2
 omega
theorem GR.split {ws:Lr}(h:GR ws):lP (.str (Str.join ⟨#[32]⟩ ws)) [.str ⟨#[32]⟩]=some (wl ws) :=
 Jn 32 ws h.1 (fun w hw=>vy (h.2.1 w hw) (by decide)) (by have:=h.len;omega)
theorem GR.ok {ws:Lr}(h:GR ws):∀ w∈ws,PyData.strOk w=true:=fun w hw=>pA (h.2.1 w hw)
structure Hb (t:Str) (ws:Lr):Prop where
 hd:(∃ r,ws=zZ "func"::t::r)∨(∃ k m r,ws=zZ "method"::k::m::r/\t=kA k m/\k.length<=8/\m.length<=8)∨(ws=[zZ "main"]/\t=zZ "main")
 tok:PyData.strOk t=true
theorem Hb.YI {ws:Lr}(h:Hb t ws):iA [wl ws]=some (.str t):=by
 rcases h.hd with ⟨r,rfl⟩ | ⟨k,m,r,rfl,rfl,h1,h2⟩ | ⟨rfl,rfl⟩
 ·exact Jo t r
 ·exact Jp k m r h1 h2
 ·exact Jq
theorem Hb.w0 {t:Str}{ws:Lr}(h:Hb t ws):∃ (w0:String) (r:Lr),ws=zZ w0::r/\(w0="func"∨w0="method"∨w0="main"):=by
 rcases h.hd with ⟨r,rfl⟩ | ⟨k,m,r,rfl,_⟩ | ⟨rfl,_⟩
 ·exact⟨"func",_,rfl,.inl rfl⟩
 ·exact⟨"method",_,rfl,.inr (.inl rfl)⟩
 ·exact⟨"main",_,rfl,.inr (.inr rfl)⟩
inductive Wk:Nat->Str->List Lr->List (Str×Lr)->List (Lr×Str)->Prop
 | nil (b:Str):Wk 0 b [] [] []
 | kind (b:Str) (r:Lr) {rest:List Lr}{hs:List (Str×Lr)}{ns:List (Lr×Str)}:Wk 0 b rest hs ns->Wk 0 b ((zZ "kind"::r)::rest) hs ns
 | head (b:Str) {t:Str}{ws:Lr}{rest:List Lr}{hs:List (Str×Lr)}{ns:List (Lr×Str)}:Hb t ws->Wk 1 t rest hs ns->Wk 0 b (ws::rest) ((t,ws)::hs) ns
 | fin {d:Nat}{b:Str}{rest:List Lr}{hs:List (Str×Lr)}{ns:List (Lr×Str)}:Wk d b rest hs ns->Wk (d+1) b ([zZ "end"]::rest) hs ns
 | Jv {d:Nat}{b:Str}{rest:List Lr}{hs:List (Str×Lr)}{ns:List (Lr×Str)}:Wk (d+1) b rest hs ns->Wk (d+1) b ([zZ "else"]::rest) hs ns
 | row {d:Nat}{b:Str} (w0:String) (r:Lr) (bl:Bool) {rest:List Lr}{hs:List (Str×Lr)}{ns:List (Lr×Str)}:(w0=="end")=false->(w0=="else")=false->(w0=="if"||w0=="while")=bl ->
   Wk (if bl then d+2 else d+1) b rest hs ns->Wk (d+1) b ((zZ w0::r)::rest) hs ((zZ w0::r,b)::ns)
theorem xf (w0:String):mq (.str (zZ w0)) (.tuple [.str (zZ "if"),.str (zZ "while")])=some (w0=="if"||w0=="while"):=by
 show (if _ then _ else none)=_
 rw [ai ⟨jI (fI _),by simp [jI (fI _)],by simp [PyData.depth]⟩]
 simp only [bG,List.any_nil,cT,Dz,k8]
 congr 1
 rw [cJ,cJ (b:="while")]
abbrev uk:=Int×(List Str×Str)
def NI (i:Nat)(x:uk):PyData×PyData:=(.int (i:Int),.tuple [.int x.1,wl x.2.1,.str x.2.2])
def tJ:Nat->List uk->List (PyData×PyData)
 | _,[]=>[]
 | i,x::r=>NI i x::tJ (i+1) r
theorem Jw:∀ (E:List uk) (i:Nat) (x:uk),tJ i (E++[x])=tJ i E++[NI (i+E.length) x]
 | [],i,x=>rfl
 | y::E,i,x=>by
  rw [bA,tJ,tJ,Jw E (i+1) x,bA,ar]
  congr 4;omega
theorem DI:∀ (E:List uk) (i:Nat),(tJ i E).length=E.length
 | [],_=>rfl
 | y::E,i=>by rw [tJ,ar,DI E,ar]
theorem zi (E:List uk)(i:Nat):hW (tJ i E)=false:=by cases E<;>rfl
theorem Jx:∀ (E:List uk) (i n:Nat),i+E.length<=n->((tJ i E).any fun x=>mY x.1 (.int (n:Int)))=false
 | [],_,_,_=>rfl
 | y::E,i,n,h=>by
  rw [ar] at h
  rw [tJ,bG,Jx E (i+1) n (by omega)]
  have:mY (.int (i:Int)) (.int (n:Int))=false:=by show decide ((i:Int)=(n:Int))=false;exact aH (by omega)
  show (mY (.int (i:Int)) (.int (n:Int))||false)=false
  rw [this];rfl
theorem Jy:∀ (E:List uk) (i k:Nat) (x:uk),E[k]?=some x->ku (.int ((i+k:Nat):Int)) (tJ i E)=some (.tuple [.int x.1,wl x.2.1,.str x.2.2])
 | [],_,_,_,h=>by simp at h
 | y::E,i,0,x,h=>by
  rw [a8] at h;cases h
  rw [tJ,NI,ku,ai (by show decide ((i:Int)=((i+0:Nat):Int))=true;simp)]
 | y::E,i,k+1,x,h=>by
  rw [bw] at h
  rw [tJ,NI,ku,ao (by show ¬ decide ((i:Int)=((i+(k+1):Nat):Int))=true;simp;omega)]
  have:=Jy E (i+1) k x h
  rwa [show i+1+k=i+(k+1) by omega] at this
theorem NJ (E:List uk):iQ [.dict (tJ 0 E)]=some (.int (E.length:Int)):=by
 show (if hW _=true then none else some (PyData.int ((tJ 0 E).length:Int)))=_
 rw [ao (by rw [zi];simp),DI]
theorem Vp (E:List uk)(x:uk)(hl:E.length<=900):vX (.int (E.length:Int)) (.tuple [.int x.1,wl x.2.1,.str x.2.2]) (.dict (tJ 0 E))=some (.dict (tJ 0 (E++[x]))):=by
 show (if _ then _ else none)=_
 rw [ai ⟨by rw [DI,sizeLine_eq];omega,zi E 0⟩]
 show some (PyData.dict (Ex _ _ _))=_
 rw [Ex,ao (by rw [Jx E 0 E.length (by omega)];simp),Jw,NI,fe]
theorem SO {E:List uk}{k:Nat}{x:uk}(h:E[k]?=some x):gR (.dict (tJ 0 E)) (.int (k:Int))=some (.tuple [.int x.1,wl x.2.1,.str x.2.2]):=by
 show (if hW _=true then none else _)=_
 rw [ao (by rw [zi];simp)]
 have:=Jy E 0 k x h
 rw [fe] at this
 exact this
theorem Vq:Ap (.int 0) (.int 0)=some (.bool false):=by kernel_rfl
theorem Wl (d:Nat):Ap (.int ((d+1:Nat):Int)) (.int 0)=some (.bool true):=by
 show some (PyData.bool (decide ((0:Int)<((d+1:Nat):Int))))=_
 rw [bf (by omega)]
theorem K1:jC (.int 0) (.int 0)=some (.bool true):=by kernel_rfl
theorem Vr (d:Nat):jC (.int ((d+1:Nat):Int)) (.int 0)=some (.bool false):=by
 rw [SN]
 congr 2
theorem wB (d:Nat):(((d+1:Nat):Int) - 1)=(d:Int):=by omega
theorem wC (d:Nat):((d:Nat):Int)+1=((d+1:Nat):Int):=by omega
def wD (k:Nat)(rows:List Lr):Lp:=((rows.map fun ws=>PyData.str (Str.join ⟨#[32]⟩ ws)).zipIdx k).map fun x=>.tuple [.int x.2,x.1]
theorem nU (k:Nat)(ws:Lr)(rows:List Lr):wD k (ws::rows)=.tuple [.int (k:Int),.str (Str.join ⟨#[32]⟩ ws)]::wD (k+1) rows:=by
 simp [wD,List.zipIdx_cons]
theorem nV (w0:Str)(r:Lr):gR (wl (w0::r)) (.int 0)=some (.str w0):=by simp only [wl,aa,tH,v8]
theorem QP (tx:PyData):∀ {d:Nat}{b:Str}{rows:List Lr}{hs:List (Str×Lr)}{ns:List (Lr×Str)},Wk d b rows hs ns->∀ (k:Nat) (E:List uk) (bd:PyData) (l r w:Od),(0<d->bd=.str b)->E.length+rows.length<=900->(∀ ws∈rows,GR ws) ->
  ∃ E' b' l' r' w',E'.map (·.2)=ns/\kb (rN (.many [4,5])) gk (wD k rows) [some tx,some (.dict (tJ 0 E)),some bd,some (.int (d:Int)),l,r,w]=some (.nx [some tx,some (.dict (tJ 0 (E++E'))),b',some (.int 0),l',r',w']):=by
 intro d b rows hs ns h
 induction h with
 | nil b=>intro k E bd l r w _ _ _;exact⟨[],some bd,l,r,w,rfl,by rw [aS];rfl⟩
 | @kind b r0 rest hs ns hd ih =>
  intro k E bd l r w hb hn hg
  have g:=hg _ (aT ..)
  obtain⟨E',b',l',r',w',en,e⟩:=ih (k+1) E bd (some (.int (k:Int))) (some (.str (Str.join ⟨#[32]⟩ (zZ "kind"::r0)))) (some (wl (zZ "kind"::r0))) (by omega) (by simp at hn ⊢;omega) fun ws hw=>hg ws (af _ hw)
  refine⟨E',b',l',r',w',en,?_⟩
  rw [nU,gO ?_,e]
  show gk [some tx,some (.dict (tJ 0 E)),some bd,some (.int 0),some (.int (k:Int)),some (.str (Str.join ⟨#[32]⟩ (zZ "kind"::r0))),w]=_
  have e1:("kind"=="end")=false:=by decide
  have e2:(!("kind"=="kind"))=false:=by decide
  simp? only [gk,qq,g.split,nV,iX,lC,e1,e2,Vq]
  rfl
 | @head b t ws rest hs ns O hd ih =>
  intro k E bd l r w hb hn hg
  have g:=hg _ (aT ..)
  obtain⟨E',b',l',r',w',en,e⟩:=ih (k+1) E (.str t) (some (.int (k:Int))) (some (.str (Str.join ⟨#[32]⟩ ws))) (some (wl ws)) (fun _=>rfl) (by simp at hn ⊢;omega) fun ws hw=>hg ws (af _ hw)
  refine⟨E',b',l',r',w',en,?_⟩
  rw [nU,gO ?_,e]
  show gk [some tx,some (.dict (tJ 0 E)),some bd,some (.int 0),some (.int (k:Int)),some (.str (Str.join ⟨#[32]⟩ ws)),w]=_
  obtain⟨w0,r,ew,hw⟩:=O.w0
  have h1:(w0=="end")=false:=by rcases hw with rfl|rfl|rfl<;>decide
  have h2:(w0=="kind")=false:=by rcases hw with rfl|rfl|rfl<;>decide
  have e1:gR (wl ws) (.int 0)=some (.str (zZ w0)):=by rw [ew];exact nV _ _
  simp? only [gk,qq,g.split,e1,iX,lC,h1,h2,Vq,O.YI]
  rfl
 | @fin d b rest hs ns hd ih =>
  intro k E bd l r w hb hn hg
  have g:=hg _ (aT ..)
  obtain⟨E',b',l',r',w',en,e⟩:=ih (k+1) E bd (some (.int (k:Int))) (some (.str (Str.join ⟨#[32]⟩ [zZ "end"]))) (some (wl [zZ "end"])) (fun _=>hb (by omega)) (by simp at hn ⊢;omega) fun ws hw=>hg ws (af _ hw)
  refine⟨E',b',l',r',w',en,?_⟩
  rw [nU,gO ?_,e]
  show gk [some tx,some (.dict (tJ 0 E)),some bd,some (.int ((d+1:Nat):Int)),some (.int (k:Int)),some (.str (Str.join ⟨#[32]⟩ [zZ "end"])),w]=_
  have e1:("end"=="end")=true:=by decide
  simp? only [gk,qq,g.split,nV,iX,lC,e1,wB]
 | @Jv d b rest hs ns hd ih =>
  intro k E bd l r w hb hn hg
  have g:=hg _ (aT ..)
  obtain⟨E',b',l',r',w',en,e⟩:=ih (k+1) E bd (some (.int (k:Int))) (some (.str (Str.join ⟨#[32]⟩ [zZ "else"]))) (some (wl [zZ "else"])) (fun _=>hb (by omega)) (by simp at hn ⊢;omega) fun ws hw=>hg ws (af _ hw)
  refine⟨E',b',l',r',w',en,?_⟩
  rw [nU,gO ?_,e]
  show gk [some tx,some (.dict (tJ 0 E)),some bd,some (.int ((d+1:Nat):Int)),some (.int (k:Int)),some (.str (Str.join ⟨#[32]⟩ [zZ "else"])),w]=_
  have e1:("else"=="end")=false:=by decide
  have e2:(!("else"=="else"))=false:=by decide
  have e3:("else"=="if"||"else"=="while")=false:=by decide
  simp? only [gk,qq,g.split,nV,iX,lC,e1,e2,Wl,jU,xf,e3]
 | @row d b w0 r0 bl rest hs ns h1 h2 h3 hd ih =>
  intro k E bd l r w hb hn hg
  have g:=hg _ (aT ..)
  have hbd:=hb (by omega)
  subst hbd
  obtain⟨E',b',l',r',w',en,e⟩:=ih (k+1) (E++[((k:Int),(zZ w0::r0,b))]) (.str b) (some (.int (k:Int))) (some (.str (Str.join ⟨#[32]⟩ (zZ w0::r0)))) (some (wl (zZ w0::r0))) (fun _=>rfl) (by simp at hn ⊢;omega) fun ws hw=>hg ws (af _ hw)
  refine⟨((k:Int),(zZ w0::r0,b))::E',b',l',r',w',by rw [aa,en],?_⟩
  rw [aN,dz] at e
  rw [nU,gO ?_,e]
  show gk [some tx,some (.dict (tJ 0 E)),some (.str b),some (.int ((d+1:Nat):Int)),some (.int (k:Int)),some (.str (Str.join ⟨#[32]⟩ (zZ w0::r0))),w]=_
  have hE:E.length<=900:=by simp at hn;omega
  have pt:=Vp E ((k:Int),(zZ w0::r0,b)) hE
  have nl:=NJ E
  have ib:=xf w0
  rw [h3] at ib
  have put:si (.sl 1) (Gd (zN (fh 1))) (gd [1] (jy (fx (fh 4) (fx (fh 6) (zQ (fh 2)))))) [some tx,some (.dict (tJ 0 E)),some (.str b),some (.int ((d+1:Nat):Int)),some (.int (k:Int)),some (.str (Str.join ⟨#[32]⟩ (zZ w0::r0))),some (wl (zZ w0::r0))] =
    some (.nx [some tx,some (.dict (tJ 0 (E++[((k:Int),(zZ w0::r0,b))]))),some (.str b),some (.int ((d+1:Nat):Int)),some (.int (k:Int)),some (.str (Str.join ⟨#[32]⟩ (zZ w0::r0))),some (wl (zZ w0::r0))]):=by
   simp? only [uh,nl,pt,Vo]
  have h2':(!(w0=="else"))=true:=by rw [h2];rfl
  cases bl with
  | false=>simp? only [gk,qq,g.split,nV,iX,lC,h1,h2,Wl,put,jU,ib,b9]
  | true=>simp? only [gk,qq,g.split,nV,iX,lC,h1,h2,Wl,put,jU,ib,wC]
def hg (hs:List (Str×Lr)):List (Str×PyData):=hs.map fun p=>(p.1,wl p.2)
theorem rm (hs:List (Str×Lr)):(hg hs).map (·.1)=hs.map (·.1):=by simp [hg,cN]
theorem QQ (pr:Od):∀ {d:Nat}{b:Str}{rows:List Lr}{hs:List (Str×Lr)}{ns:List (Lr×Str)},Wk d b rows hs ns->∀ (H:List (Str×PyData)) (w:Od),(H.map (·.1)++hs.map (·.1)).Nodup->H.length+rows.length<=900 ->
  ∃ w',kb (rN (.one 3)) gC (rows.map wl) [pr,some (gD H),some (.int (d:Int)),w]=some (.nx [pr,some (gD (H++hg hs)),some (.int 0),w']):=by
 intro d b rows hs ns h
 induction h with
 | nil b=>intro H w _ _;exact⟨w,by rw [show hg []=[] from rfl,aS];rfl⟩
 | @kind b r0 rest hs ns hd ih =>
  intro H w nd hl
  obtain⟨w',e⟩:=ih H (some (wl (zZ "kind"::r0))) nd (by simp at hl ⊢;omega)
  refine⟨w',?_⟩
  rw [aa,gO ?_,e]
  show gC [pr,some (gD H),some (.int 0),some (wl (zZ "kind"::r0))]=_
  have e1:("kind"=="end")=false:=by decide
  have e2:(!("kind"=="kind"))=false:=by decide
  have e3:("kind"=="if"||"kind"=="while")=false:=by decide
  simp? only [gC,nV,iX,lC,e1,e2,K1,jU,xf,e3]
  rfl
 | @head b t ws rest hs ns O hd ih =>
  intro H w nd hl
  have ht:t∉H.map (·.1):=fun z=>by
   rw [a0] at nd
   exact nd.2.2 t z t (by simp) rfl
  obtain⟨w',e⟩:=ih (H++[(t,wl ws)]) (some (wl ws)) (by simpa using nd) (by simp at hl ⊢;omega)
  refine⟨w',?_⟩
  have eH:H++hg ((t,ws)::hs)=H++[(t,wl ws)]++hg hs:=by simp [hg]
  rw [aa,gO ?_,e,eH]
  show gC [pr,some (gD H),some (.int 0),some (wl ws)]=_
  obtain⟨w0,r,ew,hw⟩:=O.w0
  have h1:(w0=="end")=false:=by rcases hw with rfl|rfl|rfl<;>decide
  have h2:(w0=="kind")=false:=by rcases hw with rfl|rfl|rfl<;>decide
  have e1:gR (wl ws) (.int 0)=some (.str (zZ w0)):=by rw [ew];exact nV _ _
  simp? only [gC,uh,e1,iX,lC,h1,h2,K1,O.YI,DD ht (show H.length<=900 by simp at hl;omega)]
  rfl
 | @fin d b rest hs ns hd ih =>
  intro H w nd hl
  obtain⟨w',e⟩:=ih H (some (wl [zZ "end"])) nd (by simp at hl ⊢;omega)
  refine⟨w',?_⟩
  rw [aa,gO ?_,e]
  show gC [pr,some (gD H),some (.int ((d+1:Nat):Int)),some (wl [zZ "end"])]=_
  have e1:("end"=="end")=true:=by decide
  simp? only [gC,nV,iX,lC,e1,wB]
 | @Jv d b rest hs ns hd ih =>
  intro H w nd hl
  obtain⟨w',e⟩:=ih H (some (wl [zZ "else"])) nd (by simp at hl ⊢;omega)
  refine⟨w',?_⟩
  rw [aa,gO ?_,e]
  show gC [pr,some (gD H),some (.int ((d+1:Nat):Int)),some (wl [zZ "else"])]=_
  have e1:("else"=="end")=false:=by decide
  have e3:("else"=="if"||"else"=="while")=false:=by decide
  simp? only [gC,nV,iX,lC,e1,Vr,jU,xf,e3]
 | @row d b w0 r0 bl rest hs ns h1 h2 h3 hd ih =>
  intro H w nd hl
  obtain⟨w',e⟩:=ih H (some (wl (zZ w0::r0))) nd (by simp at hl ⊢;omega)
  refine⟨w',?_⟩
  rw [aa,gO ?_,e]
  show gC [pr,some (gD H),some (.int ((d+1:Nat):Int)),some (wl (zZ w0::r0))]=_
  have ib:=xf w0
  rw [h3] at ib
  cases bl with
  | false=>simp? only [gC,nV,iX,lC,h1,Vr,jU,ib,b9]
  | true=>simp? only [gC,nV,iX,lC,h1,Vr,jU,ib,wC]
theorem zj (l:Lp)(a d:PyData):vX (.int (-1)) d (.list (l++[a]))=some (.list (l++[d])):=by
 have h1:(1:Int)<=(l.length:Int)+1:=by omega
 have h2:(-1+((l.length:Int)+1)).toNat=l.length:=by omega
 show (Ci _ (-1)).map _=_
 simp [Ci,h1,h2]
def nW (ns:List (Lr×Str)):Lp:=ns.map fun x=>.tuple [wl x.1,.str x.2]
theorem lU (as bs:Lr):wl (as++bs)=.list (as.map .str++bs.map .str):=by simp [wl]
theorem DJ (B:Lr)(b:Str):gR (wl (B++[b])) (.int (-1))=some (.str b):=by rw [lU];exact QO _ _
theorem UK (s:String):∀ w∈[zZ s],PyData.strOk w=true:=by intro w hw;simp at hw;subst hw;exact fI _
theorem zo {a b:String}(h:(a==b)=false):zZ a≠zZ b:=by
 intro z
 have:=k8 a b
 rw [z] at this
 simp at this
 rw [this] at h;simp at h
theorem K2 {ws:Lr}(O:Hb t ws)(g:GR ws)(ls:Od)(B:Lr)(RR:Lp)(hB:B.length<=900) :
  gA [ls,some (wl B),some (.list RR),some (.int 0),some (wl ws)]=some (.nx [ls,some (wl (B++[t])),some (.list RR),some (.int 1),some (wl ws)]):=by
 have ap:∀ ρ:fu,(ρ[1]?).join=some (wl B)->gz (.sl 1) (gd [1,2] (zA "main")) ρ=some (.nx (ρ.set 1 (some (wl (B++[zZ "main"]))))):=fun ρ h=>by
  rw [rJ h (by simp;omega) (show (gd [1,2] (zA "main")) ρ=some (.str "main") from rfl),lU];rfl
 have pl:∀ x:Str,vX (.int (-1)) (.str x) (wl (B++[zZ "main"]))=some (wl (B++[x])):=fun x=>by
  rw [lU,aa,aZ,zj,lU];rfl
 rcases O.hd with ⟨r,rfl⟩ | ⟨k,m,r,rfl,rfl,h1,h2⟩ | ⟨rfl,rfl⟩
 ·have e1:(!("func"=="kind"))=true:=by decide
  have e2:("func"=="func")=true:=by decide
  have e3:("func"=="method")=false:=by decide
  have i1:gR (wl (zZ "func"::t::r)) (.int 1)=some (.str t):=by simp only [wl,aa,tH,Ge]
  simp? only [gA,K1,nV,iX,lC,e1,e2,e3,ap,uh,i1,pl]
 ·have e1:(!("method"=="kind"))=true:=by decide
  have e2:("method"=="func")=false:=by decide
  have e3:("method"=="method")=true:=by decide
  have i1:gR (wl (zZ "method"::k::m::r)) (.int 1)=some (.str k):=by simp only [wl,aa,tH,Ge]
  have i2:gR (wl (zZ "method"::k::m::r)) (.int 2)=some (.str m):=by simp only [wl,aa,tH,at2]
  have ld:(zZ ".").length=1:=by decide +kernel
  have a1:=DH k (zZ ".") (by omega)
  have a2:=DH (k++zZ ".") m (by rw [cw];omega)
  have a3:k++zZ "."++m=kA k m:=by rw [kA,Str.append_assoc]
  rw [a3] at a2
  simp? only [gA,K1,nV,iX,lC,e1,e2,e3,ap,uh,i1,i2,a1,a2,pl]
 ·have e1:(!("main"=="kind"))=true:=by decide
  have e2:("main"=="func")=false:=by decide
  have e3:("main"=="method")=false:=by decide
  simp? only [gA,K1,nV,iX,lC,e1,e2,e3,ap,uh,pl]
theorem NK (b:Bool):Hm [.bool b]=some (.int (if b then 1 else 0)):=rfl
theorem K3 (ls:Od):∀ {d:Nat}{b:Str}{rows:List Lr}{hs:List (Str×Lr)}{ns:List (Lr×Str)},Wk d b rows hs ns->∀ (B:Lr) (RR:Lp) (w:Od),(0<d->∃ B0,B=B0++[b])->B.length+RR.length+rows.length<=900->(∀ ws∈rows,GR ws) ->
  ∃ w',kb (rN (.one 4)) gA (rows.map wl) [ls,some (wl B),some (.list RR),some (.int (d:Int)),w]=some (.nx [ls,some (wl (B++hs.map (·.1))),some (.list (RR++nW ns)),some (.int 0),w']):=by
 intro d b rows hs ns h
 induction h with
 | nil b=>intro B RR w _ _ _;exact⟨w,by rw [show nW []=[] from rfl,aS RR,show B++List.map (fun x:Str×Lr=>x.1) []=B from aS B];rfl⟩
 | @kind b r0 rest hs ns hd ih =>
  intro B RR w hb hl hg
  have g:=hg _ (aT ..)
  obtain⟨w',e⟩:=ih B RR (some (wl (zZ "kind"::r0))) (by omega) (by simp at hl ⊢;omega) fun ws hw=>hg ws (af _ hw)
  refine⟨w',?_⟩
  rw [aa,gO ?_,e]
  show gA [ls,some (wl B),some (.list RR),some (.int 0),some (wl (zZ "kind"::r0))]=_
  have e2:(!("kind"=="kind"))=false:=by decide
  have q:=DA g.ok (UK "end")
  rw [aH (by intro z;injection z with z _;exact zo (by decide) z)] at q
  simp only [wl,aa,aZ] at q
  simp? only [gA,K1,nV,iX,lC,e2,Vq]
  simp? only [wl,aa,q]
  rfl
 | @head b t ws rest hs ns O hd ih =>
  intro B RR w hb hl hg
  obtain⟨w',e⟩:=ih (B++[t]) RR (some (wl ws)) (fun _=>⟨B,rfl⟩) (by simp at hl ⊢;omega) fun ws hw=>hg ws (af _ hw)
  refine⟨w',?_⟩
  rw [aN,dz] at e
  rw [aa,gO (ρ1:=[ls,some (wl (B++[t])),some (.list RR),some (.int 1),some (wl ws)]) ?_,aa]
  ·exact e
  ·exact K2 O (hg _ (aT ..)) ls B RR (by omega)
 | @fin d b rest hs ns hd ih =>
  intro B RR w hb hl hg
  obtain⟨w',e⟩:=ih B RR (some (wl [zZ "end"])) (fun _=>hb (by omega)) (by simp at hl ⊢;omega) fun ws hw=>hg ws (af _ hw)
  refine⟨w',?_⟩
  rw [aa,gO ?_,e]
  show gA [ls,some (wl B),some (.list RR),some (.int ((d+1:Nat):Int)),some (.list [.str (zZ "end")])]=_
  have q:jC (.list [.str (zZ "end")]) (.list [.str (zZ "end")])=some (.bool true):=by kernel_rfl
  have s:Pt (.int ((d+1:Nat):Int)) (.int 1)=some (.int (d:Int)):=by show some (PyData.int _)=_;rw [wB]
  simp? only [gA,Vr,q,s]
  rfl
 | @Jv d b rest hs ns hd ih =>
  intro B RR w hb hl hg
  obtain⟨w',e⟩:=ih B RR (some (wl [zZ "else"])) (fun _=>hb (by omega)) (by simp at hl ⊢;omega) fun ws hw=>hg ws (af _ hw)
  refine⟨w',?_⟩
  rw [aa,gO ?_,e]
  show gA [ls,some (wl B),some (.list RR),some (.int ((d+1:Nat):Int)),some (.list [.str (zZ "else")])]=_
  have q:jC (.list [.str (zZ "else")]) (.list [.str (zZ "end")])=some (.bool false):=by kernel_rfl
  have q2:oB (.list [.str (zZ "else")]) (.list [.str (zZ "else")])=some (.bool false):=by kernel_rfl
  simp? only [gA,Vr,Wl,q,q2]
  rfl
 | @row d b w0 r0 bl rest hs ns h1 h2 h3 hd ih =>
  intro B RR w hb hl hg
  have g:=hg _ (aT ..)
  obtain⟨B0,rfl⟩:=hb (by omega)
  obtain⟨w',e⟩:=ih (B0++[b]) (RR++[.tuple [wl (zZ w0::r0),.str b]]) (some (wl (zZ w0::r0))) (fun _=>⟨B0,rfl⟩) (by simp at hl ⊢;omega) fun ws hw=>hg ws (af _ hw)
  refine⟨w',?_⟩
  rw [aN RR,dz] at e
  rw [aa,gO ?_,e];rfl
  show gA [ls,some (wl (B0++[b])),some (.list RR),some (.int ((d+1:Nat):Int)),some (.list (.str (zZ w0)::r0.map .str))]=_
  have q:=DA g.ok (UK "end")
  rw [aH (by intro z;injection z with z _;exact zo h1 z)] at q
  have q2:=DB g.ok (UK "else")
  rw [aH (by intro z;injection z with z _;exact zo h2 z)] at q2
  simp only [wl,aa,aZ,Bool.not_false] at q q2
  have w0i:gR (.list (.str (zZ w0)::r0.map .str)) (.int 0)=some (.str (zZ w0)):=nV _ _
  have ib:=xf w0
  rw [h3] at ib
  have ap:∀ ρ:fu,(ρ[2]?).join=some (.list RR)->(ρ[1]?).join=some (wl (B0++[b]))->(ρ[4]?).join=some (.list (.str (zZ w0)::r0.map .str))->gz (.sl 2) (jy (fx (gd [1,2] (fh 4)) (zQ (Gd (zX (fh 1) (zI (-1))))))) ρ=some (.nx (ρ.set 2 (some (.list (RR++[.tuple [.list (.str (zZ w0)::r0.map .str),.str b]]))))):=fun ρ h h' h4=>by
   refine rJ h (by omega) ?_
   have h4':((jb [1,2] ρ)[4]?).join=some (.list (.str (zZ w0)::r0.map .str)):=by rw [uO,uO,ui,av (by decide),av (by decide),h4]
   simp only [Ji,fY,pw,lX,sX,h4',Jj,qo,h',vv,az,DJ,HQ,cE]
   rfl
  have ad:∀ i:Int,f6 (.int ((d+1:Nat):Int)) (.int i)=some (.int (((d+1:Nat):Int)+i)):=fun i=>rfl
  cases bl with
  | false =>
   simp? only [gA,Vr,Wl,q,q2,ap,w0i,jU,ib,NK,ad]
   simp
  | true =>
   simp? only [gA,Vr,Wl,q,q2,ap,w0i,jU,ib,NK,ad,cE,wC]
   rfl
def tx (rows:List Lr):Str:=Str.join ⟨#[10]⟩ (rows.map ln)
structure Rt (rows:List Lr) (hs:List (Str×Lr)) (ns:List (Lr×Str)):Prop where
 wk:Wk 0 ⟨#[]⟩ rows hs ns
 gr:∀ ws∈rows,GR ws
 nd:(hs.map (·.1)).Nodup
 tok:∀ w∈hs.map (·.1),PyData.strOk w=true
 len:rows.length<=800
 ne:rows≠[]
def Pr (fs:List (PyData×PyData)):PyData:=.dict ((.none,.str "Program")::fs)
def QR (pr:PyData)(x:Str):Prop:=jP ["Program"] "text" pr=some (.str x)/\mw "Program" "shown" pr=true
theorem FH {pr:PyData}(h:QR pr x):jD [pr]=some (.str x):=by
 simp? only [jD,rE,h.1]
theorem rp (T:fu->Option Bool)(C:fu->Od)(hT:T=fun _=>some true)(hC:C=rO lP (fh 0) (zC (zZ " ") fD)):∀ {rows:List Lr},(∀ ws∈rows,GR ws)->iE T C [] ((rows.map ln).map .str)=some (rows.map wl)
 | [],_=>rfl
 | ws::rows,h=>by
  have ih:=rp T C hT hC fun x (hx:x∈rows)=>h x (by simp [hx])
  have g:=h ws (by simp)
  have e:C [some (.str (ln ws))]=some (wl ws):=by
   rw [hC]
   simp? only [qq]
   exact g.split
  have e0:T [some (.str (ln ws))]=some true:=by rw [hT]
  rw [aa,aa,iE,e0]
  simp? only [e,ih]
theorem GR.line {ws:Lr}(h:GR ws):10∉(ln ws).cps.toList:=BJ 32 10 (by decide) ws fun w hw=>vy (h.2.1 w hw) (by decide)
theorem NL {rows:List Lr}(h:∀ ws∈rows,GR ws):∀ y∈rows.map ln,y.length<=108:=by
 intro y hy
 obtain⟨ws,hw,rfl⟩:=ag.mp hy
 exact(h ws hw).len
theorem zp {rows:List Lr}(h:∀ ws∈rows,GR ws)(hl:rows.length<=800)(ne:rows≠[]):lP (.str (tx rows)) [.str (zZ "\n")]=some (wl (rows.map ln)):=by
 rw [Nz]
 refine Jn 10 (rows.map ln) (by simpa using ne) (fun p hp=>?_) ?_
 ·obtain⟨ws,hw,rfl⟩:=ag.mp hp
  exact(h ws hw).line
 ·have:=FD 10 (rows.map ln) (NL h)
  rw [ae] at this
  omega
theorem Jz {rows:List Lr}(h:∀ ws∈rows,GR ws)(hl:rows.length<=800):jX (.str (zZ "\n")) [wl (rows.map ln)]=some (.str (tx rows)):=by
 rw [Nz]
 exact NC 10 (rows.map ln) (NL h) (by rw [ae];omega)
section
variable {rows:List Lr}  
theorem QS (H:Rt rows hs ns){pr:PyData}(hp:QR pr (tx rows)):lG [pr]=some (.list (rows.map wl)):=by
 have h2:=H.len
 have e1:=zp H.gr H.len H.ne
 have e2:=rp o9 pb rfl rfl H.gr
 have hz:((rows.map ln).map PyData.str).length<=16777216:=by simp;omega
 simp? only [lG,rF,hp.2,FH hp,e1,ai hz,qT,e2]
theorem NM (H:Rt rows hs ns){pr:PyData}(hp:QR pr (tx rows)):mK [pr]=some (gD (hg hs)):=by
 have e1:=QS H hp
 have h2:=H.len
 obtain⟨w',e2⟩:=QQ (some pr) H.wk [] none (by simpa using H.nd) (by simp;omega)
 have hz:PyData.dict []=gD []:=rfl
 rw [bu] at e2
 simp? only [mK,vh,e1,hz]
 rw [show PyData.int 0=.int ((0:Nat):Int) from rfl,e2]
 simp? only [vv]
theorem QT (H:Rt rows hs ns):ph [wl (rows.map ln)]=some (.tuple [wl (hs.map (·.1)),.list (nW ns)]):=by
 have h2:=H.len
 have hz:((rows.map ln).map PyData.str).length<=16777216:=by simp;omega
 have e2:=rp ox oy rfl rfl H.gr
 have e1:lg [wl (rows.map ln)]=some (.list (rows.map wl)):=by
  simp? only [lg,qH,ai hz,qT,e2]
 obtain⟨w',e⟩:=K3 (some (wl (rows.map ln))) H.wk [] [] none (by omega) (by simp;omega) H.gr
 rw [bu,bu] at e
 have hw:PyData.list []=wl []:=rfl
 simp? only [ph,yW,e1]
 rw [show PyData.int 0=.int ((0:Nat):Int) from rfl]
 have e':kb (rN (.one 4)) gA (rows.map wl) [some (wl (rows.map ln)),some (.list []),some (.list []),some (.int ((0:Nat):Int)),none]=_:=e
 rw [e']
 simp? only [vv]
def prog (rows:List Lr)(hs:List (Str×Lr))(E:List uk):PyData:=Pr [(.str "text",.str (tx rows)),(.str "numbered",.dict (tJ 0 E)),(.str "body_texts",wl (hs.map (·.1)))]
theorem FI (H:Rt rows hs ns):∃ E,E.map (·.2)=ns/\ki [.str (tx rows)]=some (.dict (tJ 0 E)):=by
 have h2:=H.len
 have e1:=zp H.gr H.len H.ne
 obtain⟨E,b',l',r',w',en,e⟩:=QP (.str (tx rows)) H.wk 0 [] .none none none none (by omega) (by simp;omega) H.gr
 refine⟨E,en,?_⟩
 have q:ug ((rows.map ln).map PyData.str)=wD 0 rows:=by
  unfold ug wD
  rw [cH];rfl
 rw [bu,show tJ 0 []=[] from rfl,show PyData.int ((0:Nat):Int)=.int 0 from rfl] at e
 simp? only [ki,rD,e1,q,e]
theorem QU {x:PyData}(h:f [some (Pr []),some x]=some d):jW 0 "Program" "text" f [some (Pr []),some x]=some (.nx [some (Pr [(.str "text",d)]),some x]):=by
 rw [wy,h];kernel_rfl
theorem QV {a x:PyData}(h:f [some (Pr [(.str "text",a)]),some x]=some d):jW 0 "Program" "numbered" f [some (Pr [(.str "text",a)]),some x]=some (.nx [some (Pr [(.str "text",a),(.str "numbered",d)]),some x]):=by
 rw [wy,h];kernel_rfl
theorem QW {a b x:PyData}(h:f [some (Pr [(.str "text",a),(.str "numbered",b)]),some x]=some d):jW 0 "Program" "body_texts" f [some (Pr [(.str "text",a),(.str "numbered",b)]),some x]=some (.nx [some (Pr [(.str "text",a),(.str "numbered",b),(.str "body_texts",d)]),some x]):=by
 rw [wy,h];kernel_rfl
theorem QX (H:Rt rows hs ns):∃ E,E.map (·.2)=ns/\kU [Pr [],.str (tx rows)]=some (.none,prog rows hs E):=by
 obtain⟨E,en,e1⟩:=FI H
 refine⟨E,en,?_⟩
 have e2:=NM H (pr:=Pr [(.str "text",.str (tx rows)),(.str "numbered",.dict (tJ 0 E))]) ⟨by kernel_rfl,by kernel_rfl⟩
 have s1:(gd [0] (fh 1)) [some (Pr []),some (.str (tx rows))]=some (.str (tx rows)):=rfl
 have s2:(gd [0] (jg 1 ki (zQ (fh 1)))) [some (Pr [(.str "text",.str (tx rows))]),some (.str (tx rows))]=some (.dict (tJ 0 E)):=by
  simp? only [e1]
 have s3:(MM (i6 lR (zQ (jg 1 mK (zQ (fh 0)))))) [some (Pr [(.str "text",.str (tx rows)),(.str "numbered",.dict (tJ 0 E))]),some (.str (tx rows))]=some (wl (hs.map (·.1))):=by
  simp? only [e2,QN,rm,DG]
 simp? only [kU,sI,wz,ie,p8,QU s1,QV s2,QW s3]
 rfl
theorem QY (E:List uk):QR (prog rows hs E) (tx rows):=⟨by kernel_rfl,by kernel_rfl⟩
theorem K4 (E:List uk):jv [prog rows hs E]=some (wl (hs.map (·.1))):=by
 have e:jP ["Program"] "body_texts" (prog rows hs E)=some (wl (hs.map (·.1))):=by kernel_rfl
 simp? only [jv,qI,e,qa]
theorem zq (E:List uk):jP ["Program"] "numbered" (prog rows hs E)=some (.dict (tJ 0 E)):=by kernel_rfl
theorem QZ (E:List uk):jf [prog rows hs E]=some (.int (E.length:Int)):=by
 simp? only [jf,oA,zq,NJ]
theorem NN {E:List uk}{k:Nat}{x:uk}(h:E[k]?=some x):jN [prog rows hs E,.int (k:Int)]=some (wl x.2.1):=by
 simp? only [jN,oz,zq,SO h,Vn,Ge,qa]
theorem Q0 {E:List uk}{k:Nat}{x:uk}(h:E[k]?=some x):j7 [prog rows hs E,.int (k:Int)]=some (.str x.2.2):=by
 simp? only [j7,pj,zq,SO h,Vn,at2]
end
theorem NO (l:List α)(k:Nat):ux l (k:Int)=l[k]?:=by
 unfold ux Ci
 by_cases h:k<l.length
 ·simp [h]
 ·simp [h]
theorem VU (h:n<=1000):(-(2 ^ 62)<=(n:Int)/\(n:Int)<2 ^ 62):=by
 have e:(2:Int) ^ 62=4611686018427387904:=by decide
 rw [e]
 omega
theorem YJ {j:Int}(h:f ρ=some (.int j))(hj:-(2 ^ 62)<=j/\j<2 ^ 62):jG f ρ=some (oq 0 j.toNat):=by
 rw [abB,h]
 simp only [az]
 rw [ai hj]
theorem HR (n:Nat):oq 0 n=(List.range' 0 n).map fun (i:Nat)=>PyData.int (i:Int):=by
 unfold oq
 rw [List.range_eq_range']
 refine List.map_congr_left fun a _=>?_
 rw [Int.zero_add]
theorem xg (hl:n<=1000)(ρ:fu)(f:fu->Od)(h:f ρ=some (.int (n:Int))):jG f ρ=some ((List.range' 0 n).map fun (i:Nat)=>PyData.int (i:Int)):=by
 rw [YJ h (VU hl),dn,HR]
theorem Q1 (f:fu->Od)(ρ:fu):GV f ρ=(f ρ).map fun _=>.nx ρ:=rfl
theorem NP (f:fu->Od)(ρ:fu):C3 f ρ=(f ρ).bind fun d=>match d with | .list _=>some .none|_=>none:=rfl
theorem YK (l:Lp):(if IU (.list l) then none else some (PyData.bool (OE (.list l)=="list"||(OE (.list l)=="bool"&&"list"=="int"))))=some (.bool true):=by rfl
section
variable {rows:List Lr}  
theorem Wk.body {d:Nat}{b:Str}(h:Wk d b rows hs ns):(0<d->PyData.strOk b=true)->(∀ w∈hs.map (·.1),PyData.strOk w=true)->(∀ ws∈rows,GR ws)->∀ x∈ns,(∀ w∈x.1,PyData.strOk w=true)/\PyData.strOk x.2=true/\x.1≠[]:=by
 induction h with
 | nil b=>intro _ _ _ x hx;simp at hx
 | kind b r hd ih=>intro hb ht hg x hx;exact ih (by omega) ht (fun ws hw=>hg ws (af _ hw)) x hx
 | @head b t ws rest hs ns O hd ih=>intro hb ht hg x hx;exact ih (fun _=>O.tok) (fun w hw=>ht w (by simp at hw ⊢;exact .inr hw)) (fun ws hw=>hg ws (af _ hw)) x hx
 | fin hd ih=>intro hb ht hg x hx;exact ih (fun _=>hb (by omega)) ht (fun ws hw=>hg ws (af _ hw)) x hx
 | Jv hd ih=>intro hb ht hg x hx;exact ih (fun _=>hb (by omega)) ht (fun ws hw=>hg ws (af _ hw)) x hx
 | row w0 r bl h1 h2 h3 hd ih =>
  intro hb ht hg x hx
  rcases ah.mp hx with rfl|hx
  ·exact⟨(hg _ (aT ..)).ok,hb (by omega),by simp⟩
  ·exact ih (fun _=>hb (by omega)) ht (fun ws hw=>hg ws (af _ hw)) x hx
theorem Wk.many {d:Nat}{b:Str}(h:Wk d b rows hs ns):ns.length<=rows.length:=by
 induction h with
 | nil b=>simp
 | kind b r hd ih=>simp;omega
 | head b O hd ih=>simp;omega
 | fin hd ih=>simp;omega
 | Jv hd ih=>simp;omega
 | row w0 r bl h1 h2 h3 hd ih=>simp;omega
theorem Q2 (E:List uk):mw "Program" "row_words" (prog rows hs E)=true:=by kernel_rfl
theorem Vs (E:List uk):mw "Program" "row_body" (prog rows hs E)=true:=by kernel_rfl
theorem FJ (E:List uk):mw "Program" "bodies" (prog rows hs E)=true:=by kernel_rfl
theorem Vt (E:List uk):mw "Program" "many_rows" (prog rows hs E)=true:=by kernel_rfl
theorem Q3 (E:List uk):mw "Program" "shown" (prog rows hs E)=true:=by kernel_rfl
theorem HS (H:Rt rows hs ns){E:List uk}(en:E.map (·.2)=ns){k:Nat}(hk:k<ns.length)(L B:Od)(w:Od) :
  kX [some (prog rows hs E),L,B,some (.list (nW ns)),some (.int (k:Int)),w]=some (.nx [some (prog rows hs E),L,B,some (.list (nW ns)),some (.int (k:Int)),some (.list [])]):=by
 obtain⟨x,hx⟩:∃ x,E[k]?=some x:=by
  have:k<E.length:=by rw [← en,ae] at hk;exact hk
  exact⟨E[k],aE this⟩
 have hn:ns[k]?=some x.2:=by rw [← en,aC,hx];rfl
 have hm:x.2∈ns:=cu hn
 obtain⟨o1,o2,o3⟩:=H.wk.body (by omega) H.tok H.gr x.2 hm
 have r1:gR (.list (nW ns)) (.int (k:Int))=some (.tuple [wl x.2.1,.str x.2.2]):=by
  rw [tH,NO,nW,aC,hn];rfl
 have n1:=DB o1 o1
 have n2:=ND o2 o2
 rw [bf rfl] at n1
 rw [dJ] at n2
 have hw:=NN (rows:=rows) (hs:=hs) hx
 simp only [wl] at *
 simp? only [kX,Q2,Vs,hw,Q0 hx,YK,wA,r1,Vn,v8,Ge,n1,n2,Bool.not_true]
theorem zr (H:Rt rows hs ns){E:List uk}(en:E.map (·.2)=ns)(L B:Od):∀ (n i:Nat) (k w:Od),i+n<=ns.length ->
  ∃ k' w',kb (rN (.one 4)) kX ((List.range' i n).map fun (i:Nat)=>PyData.int (i:Int)) [some (prog rows hs E),L,B,some (.list (nW ns)),k,w]=some (.nx [some (prog rows hs E),L,B,some (.list (nW ns)),k',w'])
 | 0,i,k,w,_=>⟨k,w,rfl⟩
 | n+1,i,k,w,h=>by
  obtain⟨k',w',e⟩:=zr H en L B n (i+1) (some (.int (i:Int))) (some (.list [])) (by omega)
  refine⟨k',w',?_⟩
  rw [cQ,aa,gO (ρ1:=[some (prog rows hs E),L,B,some (.list (nW ns)),some (.int (i:Int)),some (.list [])]) ?_]
  ·exact e
  ·exact HS H en (by omega) L B w
theorem tK {a b:Str}(ha:PyData.strOk a=true)(hb:PyData.strOk b=true):PyData.strOk (a++b)=true:=by
 unfold PyData.strOk at *
 rw [eZ,Array.all_append,ha,hb];rfl
theorem uJ {c:Str}(hc:PyData.strOk c=true):∀ {ws:Lr},(∀ w∈ws,PyData.strOk w=true)->PyData.strOk (Str.join c ws)=true
 | [],_=>FF
 | [a],h=>h a (by simp)
 | a::b::r,h=>tK (tK (h a (by simp)) hc) (uJ hc fun w hw=>h w (by simp [hw]))
theorem SQ (h:∀ ws∈rows,GR ws):PyData.strOk (tx rows)=true:=by
 refine uJ (zD 0) fun y hy=>?_
 obtain⟨ws,hw,rfl⟩:=ag.mp hy
 exact uJ (zD 0) (h ws hw).ok
theorem NQ (H:Rt rows hs ns){E:List uk}(en:E.map (·.2)=ns):jZ [prog rows hs E,wl (rows.map ln)]=some (.bool true):=by
 have h2:=H.len
 have h3:=H.wk.many
 have t1:=QT H
 have j1:=Jz H.gr H.len
 have s1:=FH (QY (rows:=rows) (hs:=hs) E)
 have b1:=K4 (rows:=rows) (hs:=hs) E
 have m1:=QZ (rows:=rows) (hs:=hs) E
 have el:E.length=ns.length:=by rw [← en,ae]
 have n1:=ND (SQ H.gr) (SQ H.gr)
 rw [dJ] at n1
 have n2:=DB H.tok H.tok
 rw [bf rfl] at n2
 have n3:=neI (ns.length:Int) (ns.length:Int)
 rw [dJ] at n3
 have ll:iQ [.list (nW ns)]=some (.int (ns.length:Int)):=by rw [oe,nW,ae]
 rw [el] at m1
 have A:(Bt (gd [5] (jg 1 ph (zQ (fh 1)))) (.many [2,3])) [some (prog rows hs E),some (wl (rows.map ln)),none,none,none,none]=some (.nx [some (prog rows hs E),some (wl (rows.map ln)),some (wl (hs.map (·.1))),some (.list (nW ns)),none,none]):=by
  simp? only [t1]
  rfl
 have B:(i9 (Ah (fB (d2 oB (oV "Program" "shown" 1 jD (fh 0) fD) (rO jX (zA "\n") (zQ (fh 1))))) (Ah (fB (d2 oB (oV "Program" "bodies" 1 jv (fh 0) fD) (fh 2))) (fB (d2 oB (oV "Program" "many_rows" 1 jf (fh 0) fD) (zN (fh 3)))))) (gu (dC (.bool false))) gK) [some (prog rows hs E),some (wl (rows.map ln)),some (wl (hs.map (·.1))),some (.list (nW ns)),none,none]=some (.nx [some (prog rows hs E),some (wl (rows.map ln)),some (wl (hs.map (·.1))),some (.list (nW ns)),none,none]):=by
  simp? only [Q3,FJ,Vt,s1,b1,m1,j1,n1,n2,n3,ll,Bool.not_true]
 obtain⟨k',w',e⟩:=zr H en (some (wl (rows.map ln))) (some (wl (hs.map (·.1)))) ns.length 0 none none (by omega)
 have C:=tI (i:=5) (tg:=.one 4) (g:=kX) (ρ:=[some (prog rows hs E),some (wl (rows.map ln)),some (wl (hs.map (·.1))),some (.list (nW ns)),none,none]) (xg (n:=ns.length) (by omega) _ (zN (fh 3)) (by simp? only [ll])) e
 refine YH (by rw [ie];rfl) A B C (ρ4:=[some (prog rows hs E),some (wl (rows.map ln)),some (wl (hs.map (·.1))),some (.list (nW ns)),k',w']) ?_ rfl
 simp? only [Q1,NP,FJ,b1]
end
section
structure KR where
 nm:Str
 el:Option Str
 own:Lr
def xh:Option Str->Lr
 | none=>[]
 | some j=>[zZ "of",j]
def vD:Lr->Lr
 | []=>[]
 | a::l=>zZ "fields"::a::l
def ic (r:KR):Lr:=zZ "kind"::r.nm::(xh r.el++vD r.own)
theorem abF (a:α)(l:List α):oE (a::l) (some 1) none=l:=by
 have:=sY (a::l) 1 (by simp)
 simpa using this
theorem DK:k9 (.list [])=some false:=rfl
theorem FK (a:PyData)(l:Lp):k9 (.list (a::l))=some true:=rfl
def Rg (fs hs b bl la:PyData)(ov:Bool):PyData:=.dict [(.none,.str "Reading"),(.str "fields",fs),(.str "heads",hs),(.str "body",b),(.str "blocks",bl),(.str "over",.bool ov),(.str "later",la)]
abbrev R0:PyData:=Rg (gD []) (gD []) .none (.list []) (.list []) false
variable {la:PyData}
theorem vE (fs hs b bl:PyData)(ov:Bool):jP ["Reading"] "over" (Rg fs hs b bl la ov)=some (.bool ov):=by kernel_rfl
theorem tL (fs hs b bl:PyData)(ov:Bool):jP ["Reading"] "body" (Rg fs hs b bl la ov)=some b:=by kernel_rfl
theorem vF (fs hs b bl:PyData)(ov:Bool):jP ["Reading"] "heads" (Rg fs hs b bl la ov)=some hs:=by kernel_rfl
theorem qK (fs hs b bl:PyData)(ov:Bool):jP ["Reading"] "fields" (Rg fs hs b bl la ov)=some fs:=by kernel_rfl
theorem tM (fs hs b bl:PyData)(ov:Bool):jP ["Reading"] "blocks" (Rg fs hs b bl la ov)=some bl:=by kernel_rfl
theorem NR (fs hs b bl:PyData)(ov:Bool):jP ["Reading"] "later" (Rg fs hs b bl la ov)=some la:=by kernel_rfl
theorem HU {fs hs b bl:PyData}{ov:Bool}{x y:Od}(h:f [some (Rg fs hs b bl la ov),x,y]=some d) :
  jW 0 "Reading" "body" f [some (Rg fs hs b bl la ov),x,y]=some (.nx [some (Rg fs hs d bl la ov),x,y]):=by
 rw [wy,h];kernel_rfl
theorem FL {fk fv:fu->Od}{fs b bl:PyData}{H:List (Str×PyData)}{ov:Bool}{x y:Od}(h1:fk [some (Rg fs (gD H) b bl la ov),x,y]=some (.str t))(h2:fv [some (Rg fs (gD H) b bl la ov),x,y]=some d)(ht:t∉H.map (·.1))(hl:H.length<=900) :
  si (.fl 0 "Reading" "heads") fk fv [some (Rg fs (gD H) b bl la ov),x,y]=some (.nx [some (Rg fs (gD (H++[(t,d)])) b bl la ov),x,y]):=by
 have e:qB (.fl 0 "Reading" "heads") [some (Rg fs (gD H) b bl la ov),x,y]=some (gD H):=by kernel_rfl
 rw [uh,e,h1,h2]
 simp only [az,DD ht hl,bN]
 kernel_rfl
theorem DL {fk fv:fu->Od}{hs b bl:PyData}{ov:Bool}{x y z:Od}(h1:fk [some (Rg (gD F) hs b bl la ov),x,y,z]=some (.str t))(h2:fv [some (Rg (gD F) hs b bl la ov),x,y,z]=some d)(ht:t∉F.map (·.1))(hl:F.length<=900) :
  si (.fl 0 "Reading" "fields") fk fv [some (Rg (gD F) hs b bl la ov),x,y,z]=some (.nx [some (Rg (gD (F++[(t,d)])) hs b bl la ov),x,y,z]):=by
 have e:qB (.fl 0 "Reading" "fields") [some (Rg (gD F) hs b bl la ov),x,y,z]=some (gD F):=by kernel_rfl
 rw [uh,e,h1,h2]
 simp only [az,DD ht hl,bN]
 kernel_rfl
structure K5 (F:PyData) (t:Str) (ws:Lr):Prop where
 nm:∀ w∈ws,nY w=true
 hd:∃ w0 r,ws=zZ w0::r/\(w0="func"∨w0="method"∨w0="main")
 len:ws.length<=12
 YI:iA [wl ws]=some (.str t)
 ish:∀ hs b bl la ov,nu [Rg F hs b bl la ov,wl ws]=some (.bool true)
 tok:PyData.strOk t=true
theorem Q4 {F:PyData}{ws:Lr}(O:K5 F t ws){H:List (Str×PyData)}(ht:t∉H.map (·.1))(hl:H.length<=900)(i:Int) :
  iB [Rg F (gD H) .none (.list []) la false,.int i,wl ws]=some (.bool true,Rg F (gD (H++[(t,wl ws)])) (.str t) (.list []) la false):=by
 obtain⟨w0,r,ew,hw⟩:=O.hd
 have hk:(w0=="kind")=false:=by rcases hw with rfl|rfl|rfl<;>decide
 have e1:gR (wl ws) (.int 0)=some (.str (zZ w0)):=by rw [ew];simp only [wl,aa,tH,v8]
 have e2:=O.ish (gD H) .none (.list []) la false
 have e3:=zf (t:=t) (H:=H)
 rw [aH ht] at e3
 have e4:(gd [0] (jg 1 iA (zQ (fh 2)))) [some (Rg F (gD H) .none (.list []) la false),some (.int i),some (wl ws)]=some (.str t):=by
  simp? only [O.YI]
 have e5:(Gd (jt ["Reading"] "body" (fh 0))) [some (Rg F (gD H) (.str t) (.list []) la false),some (.int i),some (wl ws)]=some (.str t):=by
  simp? only [tL,HQ]
 have e6:(gd [0] (fh 2)) [some (Rg F (gD H) (.str t) (.list []) la false),some (.int i),some (wl ws)]=some (wl ws):=by
  simp? only [vv]
 simp? only [iB,nQ,vE,tL,vF,wA,DE,e1,iX,hk,e2,O.YI,jU,e3,HU e4,FL e5 e6 ht hl,mT]
theorem Z4 {i j:Int}(h:¬ i<j):Ag (.int i) (.int j)=some (.bool false):=by simp [Ag,dI,h]
theorem Vu:k9 (gD [])=some false:=by kernel_rfl
theorem SR (j:Nat)(g:fu->Option gI)(ρ:fu):Qs j g ρ=(g ρ).map (Hl j):=rfl
theorem Q5 (own:Lr):oE ((vD own).map PyData.str) (some 1) none=own.map .str:=by
 cases own with
 | nil=>rfl
 | cons a l=>rw [vD,aa,abF]
theorem YL {a b c d:Od}{x:PyData}(h:f [none,b,c,none]=some x):fL (gd [0,3] f) 2 [a,b,c,d]=some (.nx [a,b,some x,d]):=by
 rw [qp,lX,uO,uO,ui]
 show (f [none,b,c,none]).map _=_
 rw [h];rfl
theorem NS {r:KR}{hs:PyData}(hn:r.nm∉F.map (·.1))(h0:k9 hs=some false){b bl:PyData}{ov:Bool} :
  (Ah (yN (jt ["Reading"] "heads" (fh 0))) (Ah (fB (d2 Ag (zN (fh 1)) (zI 2))) (fB (d2 qh (zX (fh 1) (zI 1)) (jt ["Reading"] "fields" (fh 0)))))) [some (Rg (gD F) hs b bl la ov),some (wl (ic r)),none,none]=some false:=by
 have e1:gR (wl (ic r)) (.int 1)=some (.str (r.nm)):=by simp only [ic,wl,aa,tH,Ge]
 have e2:iQ [wl (ic r)]=some (.int (((ic r).map PyData.str).length:Int)):=oe _
 have e3:Ag (.int (((ic r).map PyData.str).length:Int)) (.int 2)=some (.bool false):=Z4 (by simp [ic];omega)
 have e4:=zf (t:=r.nm) (H:=F)
 rw [aH hn] at e4
 simp? only [vF,h0,e2,e3,e1,qK,jU,e4]
def Z5 (F:List (Str×PyData))(el:Option Str)(inh:Lr):Prop:=match el with
 | none=>inh=[]
 | some j=>(j,wl inh)∈F
theorem NT {el:Option Str}{own inh:Lr}(nd:(F.map (·.1)).Nodup)(hi:Z5 F el inh){hs b bl w:PyData}{ov:Bool} :
  (i9 (jJ (yN (fh 2)) (fB (d2 jC (zX (fh 2) (zI 0)) (zA "of"))))
   (fy (i9 (Ah (fB (d2 Ag (zN (fh 2)) (zI 2))) (fB (d2 kQ (zX (fh 2) (zI 1)) (jt ["Reading"] "fields" (fh 0)))))
   (ou (dC (.bool false)))
   gK)
   (fy (jA (MM (i6 lR (zQ (zX (jt ["Reading"] "fields" (fh 0)) (zX (fh 2) (zI 1)))))) 3)
   (fL (gd [0,3] (gX (fh 2) (ig (zI 2)) iK)) 2)))
   gK) [some (Rg (gD F) hs b bl la ov),some w,some (wl (xh el++vD own)),some (wl [])]=some (.nx [some (Rg (gD F) hs b bl la ov),some w,some (wl (vD own)),some (wl inh)]):=by
 cases el with
 | none =>
  have En:inh=[]:=hi
  subst En
  refine kz ?_ ?_
  ·cases own with
   | nil=>simp? only [xh,vD,wl,DK]
   | cons a l =>
    have s1:("fields"=="of")=false:=by decide
    simp? only [xh,vD,wl,FK,tH,v8,iX,s1]
  ·rfl
 | some j =>
  have En:(j,wl inh)∈F:=hi
  have s2:("of"=="of")=true:=by decide
  have c0:gR (wl (xh (some j)++vD own)) (.int 0)=some (.str (zZ "of")):=by simp only [xh,wl,bA,aa,tH,v8]
  have c1:gR (wl (xh (some j)++vD own)) (.int 1)=some (.str (j)):=by simp only [xh,wl,bA,aa,tH,Ge]
  have c2:Lq (wl (xh (some j)++vD own)) (some 2) none=some (wl (vD own)):=by simp only [xh,wl,bA,bu,aa,K0,DC]
  have c3:k9 (wl (xh (some j)++vD own))=some true:=rfl
  have c4:iQ [wl (xh (some j)++vD own)]=some (.int (((xh (some j)++vD own).map PyData.str).length:Int)):=oe _
  have c5:Ag (.int (((xh (some j)++vD own).map PyData.str).length:Int)) (.int 2)=some (.bool false):=Z4 (by simp [xh];omega)
  have c6:=zf (t:=j) (H:=F)
  rw [bf (ag.mpr ⟨_,En,rfl⟩)] at c6
  have c7:=SM nd En
  refine nA ?_ (fX (ρ1:=[some (Rg (gD F) hs b bl la ov),some w,some (wl (xh (some j)++vD own)),some (wl [])]) (kz ?_ rfl) (fX (ρ1:=[some (Rg (gD F) hs b bl la ov),some w,some (wl (xh (some j)++vD own)),some (wl inh)]) ?_ (YL ?_)))
  ·simp? only [c3,c0,iX,s2]
  ·simp? only [c4,c5,c1,qK,mS,c6]
  ·simp? only [qK,c1,c7,qa,DG]
  ·simp? only [c2]
theorem Q6 {r:KR}{inh:Lr}{hs:PyData}(nd:(F.map (·.1)).Nodup)(hn:r.nm∉F.map (·.1))(h0:k9 hs=some false)(hi:Z5 F r.el inh)(ho:(inh++r.own).Nodup)(hl:F.length<=900)(h9:inh.length+r.own.length<=900) :
  oK [Rg (gD F) hs .none (.list []) la false,wl (ic r)]=some (.bool true,Rg (gD (F++[(r.nm,wl (inh++r.own))])) hs .none (.list []) la false):=by
 have z:(inh.map PyData.str).length+(r.own.map PyData.str).length<=16777216:=by simp;omega
 have e1:gR (wl (ic r)) (.int 1)=some (.str (r.nm)):=by simp only [ic,wl,aa,tH,Ge]
 have e2:Lq (wl (ic r)) (some 2) none=some (wl (xh r.el++vD r.own)):=by simp only [ic,wl,aa,K0,DC]
 have on:=Js ho (by simpa using h9)
 have g:q9 [some (Rg (gD F) hs .none (.list []) la false),some (wl (ic r)),none,none]=some (.rt (.tuple [.bool true,Rg (gD (F++[(r.nm,wl (inh++r.own))])) hs .none (.list []) la false])):=by
  refine fX (kz (NS hn h0) rfl) (fX (YL (x:=wl (xh r.el++vD r.own)) ?_) (fX (ρ1:=[some (Rg (gD F) hs .none (.list []) la false),some (wl (ic r)),some (wl (xh r.el++vD r.own)),some (wl [])]) ?_ (fX (NT nd hi) (fX (ρ1:=[some (Rg (gD F) hs .none (.list []) la false),some (wl (ic r)),some (wl (vD r.own)),some (wl inh)]) (kz ?_ rfl) (fX (ρ1:=[some (Rg (gD F) hs .none (.list []) la false),some (wl (ic r)),some (wl (vD r.own)),some (wl (inh++r.own))]) ?_ ?_)))))
  ·simp? only [e2]
  ·simp? only [vv];rfl
  ·have hh:r.own=[]∨∃ a l,r.own=a::l:=by cases r.own<;>simp
   rcases hh with q | ⟨a,l,q⟩
   ·rw [q];simp? only [vD,wl,DK]
   ·have s1:(!("fields"=="fields"))=false:=by decide
    have s2:Ag (.int (((l.map PyData.str).length+1+1:Nat):Int)) (.int 2)=some (.bool false):=Z4 (by omega)
    rw [q];simp? only [vD,wl,FK,tH,v8,lC,s1,oe,s2]
  ·simp? only [wl,Q5,ai z,aI]
  ·rw [SR,fX (DL (t:=r.nm) (d:=wl (inh++r.own)) ?_ ?_ hn hl) (o:=some (.rt (.tuple [.bool true,Rg (gD (F++[(r.nm,wl (inh++r.own))])) hs .none (.list []) la false]))) ?_]
   ·rfl
   ·simp? only [e1]
   ·simp? only [vv]
   ·simp? only [on,mT]
 rw [oK,wz]
 show HN (q9 [some (Rg (gD F) hs .none (.list []) la false),some (wl (ic r)),none,none])=_
 rw [g,vx]
theorem Q7 {r:KR}{inh:Lr}{hs:PyData}(nd:(F.map (·.1)).Nodup)(hn:r.nm∉F.map (·.1))(h0:k9 hs=some false)(hi:Z5 F r.el inh)(ho:(inh++r.own).Nodup)(hl:F.length<=900)(h9:inh.length+r.own.length<=900)(i:Int) :
  iB [Rg (gD F) hs .none (.list []) la false,.int i,wl (ic r)]=some (.bool true,Rg (gD (F++[(r.nm,wl (inh++r.own))])) hs .none (.list []) la false):=by
 have s1:("kind"=="kind")=true:=by decide
 have e1:gR (wl (ic r)) (.int 0)=some (.str (zZ "kind")):=by simp only [ic,wl,aa,tH,v8]
 have e2:=Q6 (la:=la) nd hn h0 hi ho hl h9
 simp? only [iB,nQ,vE,tL,wA,DE,e1,iX,s1,e2,mT]
theorem JA (h:fu->Option (PyData×fu))(ρ:fu):GY h ρ=(h ρ).map fun r=>.nx r.2:=rfl
theorem NU {fs hs b bl:PyData}{ov d:Bool}(h:f [some (Rg fs hs b bl la ov)]=some (.bool d)) :
  jW 0 "Reading" "over" f [some (Rg fs hs b bl la ov)]=some (.nx [some (Rg fs hs b bl la d)]):=by
 rw [wy,h];kernel_rfl
theorem NV {fs hs b bl:PyData}{ov:Bool}(h:f [some (Rg fs hs b bl la ov)]=some d) :
  jW 0 "Reading" "body" f [some (Rg fs hs b bl la ov)]=some (.nx [some (Rg fs hs d bl la ov)]):=by
 rw [wy,h];kernel_rfl
theorem NW (h1:PyData.strOk t=true)(F hs:PyData) :
  ko [Rg F hs (.str t) (.list []) la false]=some (.none,Rg F hs .none (.list []) la (t==zZ "main")):=by
 have e1:(Gd (d2 jC (jt ["Reading"] "body" (fh 0)) (zA "main"))) [some (Rg F hs (.str t) (.list []) la false)]=some (.bool (t==zZ "main")):=by
  simp? only [tL,QI h1 (fI _),mT]
 have e2:(gd [0] (dC .none)) [some (Rg F hs (.str t) (.list []) la (t==zZ "main"))]=some .none:=rfl
 simp? only [ko,nK,tM,DK,NU e1,NV e2]
theorem Q8:jC (.list [.str "end"]) (.list [.str "end"])=some (.bool true):=by kernel_rfl
theorem Vv (h1:PyData.strOk t=true)(F hs:PyData)(i:Int) :
  iB [Rg F hs (.str t) (.list []) la false,.int i,wl ["end"]]=some (.bool true,Rg F hs .none (.list []) la (t==zZ "main")):=by
 have e1:hG [Rg F hs (.str t) (.list []) la false,.int i,.list [.str "end"]]=some (.bool true,Rg F hs .none (.list []) la (t==zZ "main")):=by
  simp? only [hG,jR,Q8,JA,NW h1,Ju,mT]
 simp? only [iB,nQ,wl,vE,tL,wA,DF,e1,mT]
theorem wF (T:fu->Option Bool)(C:fu->Od)(hT:T=fun _=>some true)(hC:C=jg 1 oP (zQ (fh 0))):∀ (ws:Lr),(∀ w∈ws,nY w=true)->iE T C [] (ws.map .str)=some (ws.map fun _=>.bool true)
 | [],_=>rfl
 | w::ws,h=>by
  have ih:=wF T C hT hC ws fun z hz=>h z (by simp [hz])
  have e:C [some (.str w)]=some (.bool true):=by
   rw [hC];simp? only [QJ (h w (by simp))]
  have e0:T [some (.str w)]=some true:=by rw [hT]
  rw [aa,iE,e0]
  simp? only [e,ih]
theorem zu {α:Type}:∀ ws:List α,pO (ws.map fun _=>PyData.bool true)=some (ws.map fun _=>true)
 | []=>rfl
 | w::ws=>by show (pO (ws.map fun _=>PyData.bool true)).map (true::·)=_;rw [zu ws];rfl
theorem FN (ws:List α):Qp [.list (ws.map fun _=>PyData.bool true)]=some (.bool true):=by
 show (pO (ws.map fun _=>PyData.bool true)).map _=_
 rw [zu];simp
def Reads:Nat->PyData->List Lr->PyData->Prop
 | _,R,[],R'=>R=R'
 | n,R,ws::r,R'=>∃ R1,(∀ w∈ws,nY w=true)/\iB [R,.int (n:Int),wl ws]=some (.bool true,R1)/\Reads (n+1) R1 r R'
theorem Reads.app:∀ {as bs:List Lr}{n:Nat}{R R1 R2:PyData},Reads n R as R1->Reads (n+as.length) R1 bs R2->Reads n R (as++bs) R2
 | [],_,_,_,_,_,h1,h2=>by cases h1;exact h2
 | _::as,_,n,_,_,_,⟨Q,a,b,c⟩,h2=>⟨Q,a,b,c.app (by rw [ar] at h2;rwa [show n+1+as.length=n+(as.length+1) by omega])⟩
theorem HW:∀ w∈[zZ "end"],nY w=true:=by intro w hw;simp at hw;subst hw;decide +kernel
theorem JB:∀ w∈[zZ "else"],nY w=true:=by intro w hw;simp at hw;subst hw;decide +kernel
def brX (c:Option (Bool×fu))(g h:fu->Option gI):Option gI:=match c with
 | some (true,ρ)=>g ρ
 | some (false,ρ)=>h ρ
 | none=>none
theorem SS (g h:fu->Option gI)(ρ:fu):brX (some (false,ρ)) g h=h ρ:=rfl
theorem YM (c:fu->Option (Bool×fu))(g h:fu->Option gI)(ρ:fu):Qc c g h ρ=brX (c ρ) g h:=by
 unfold Qc brX
 rcases c ρ with _ | ⟨_|_,ρ'⟩<;>rfl
theorem YN (g:fu->Option Bool)(h:fu->Option (Bool×fu))(ρ:fu):ZK g h ρ=HM (g ρ) (fun ρ=>some (true,ρ)) h ρ:=by
 unfold ZK HM
 rcases g ρ with _|_|_<;>rfl
theorem K6 {ws:Lr}{R R' tx rw:PyData}{c:Od}{i:Int}(h:∀ w∈ws,nY w=true)(hw:ws.length<=900)(e:iB [R,.int i,wl ws]=some (.bool true,R')) :
  jH [some tx,some R,some rw,some (.int i),some (wl ws),c]=some (.nx [some tx,some R',some rw,some (.int i),some (wl ws),c]):=by
 have e1:=wF pY pZ rfl rfl ws h
 have e2:=FN ws
 have hz:ws.length<=16777216:=by omega
 simp? only [jH,YM,SS,YN,wl,ae,ai hz,qT,e1,e2,wA]
 rw [show (PyData.list (List.map PyData.str ws))=wl ws from rfl,e]
 simp? only [mT,SS]
theorem BP (tx rw:PyData)(c:Od):∀ (rows:List Lr) (n:Nat) (R R':PyData) (a b:Od),Reads n R rows R'->(∀ ws∈rows,ws.length<=900) ->
  ∃ a' b',kb (rN (.many [3,4])) jH (((rows.map wl).zipIdx n).map fun x=>.tuple [.int x.2,x.1]) [some tx,some R,some rw,a,b,c]=some (.nx [some tx,some R',some rw,a',b',c])
 | [],n,R,R',a,b,h,_=>by cases h;exact⟨a,b,rfl⟩
 | ws::rows,n,R,R',a,b,⟨R1,h1,h2,h3⟩,hl=>by
  obtain⟨a',b',e⟩:=BP tx rw c rows (n+1) R1 R' (some (.int n)) (some (wl ws)) h3 fun x hx=>hl x (by simp [hx])
  refine⟨a',b',?_⟩
  rw [aa,List.zipIdx_cons,aa,kb]
  show (jH [some tx,some R,some rw,some (.int n),some (wl ws),c]).bind _=_
  rw [K6 h1 (hl ws (by simp)) h2]
  exact e
end
theorem gtI {i j:Int}(h:j<i):Ap (.int i) (.int j)=some (.bool true):=by simp [Ap,dI,h]
theorem kK (as bs:Lr)(h:as.length+bs.length<=900):f6 (wl as) (wl bs)=some (wl (as++bs)):=by
 show (if _ then _ else none)=_
 rw [ai (by rw [ae,ae,sizeLine_eq];omega),← aI]
theorem FP {ps ks:Lr}(hk:∀ w∈ps++ks,PyData.strOk w=true)(hs:zZ "self"∉ps++ks)(nd:(ps++ks).Nodup)(hl:ps.length+ks.length<=900){x:PyData} :
  (gu (rB (d2 kQ (zA "self") (fh 1)) (jg 1 nq (zQ (fh 1))))) [x,some (wl (ps++ks))]=some (.rt (.bool true)):=by
 have e1:=vz (fI "self") hk
 rw [aH hs] at e1
 have e2:=Js nd (by simpa using hl)
 simp? only [mS,e1,e2]
theorem NX {ws:Lr}(h:ws≠[]):k9 (wl ws)=some true:=by
 cases ws with
 | nil=>exact absurd rfl h
 | cons a l=>rfl
theorem Q9 (f:Str){ps ks:Lr}(hp:∀ w∈ps,PyData.strOk w=true)(hk:∀ w∈ks,PyData.strOk w=true)(hn:zZ "keeps"∉ps)(hs:zZ "self"∉ps++ks)(nd:(ps++ks).Nodup)(hl:ps.length+ks.length<=900) :
  gM [wl (zZ "func"::f::(ps++kw ks))]=some (.bool true):=by
 have e1:("func"=="func")=true:=by decide
 have hN:∀ w∈ps++kw ks,PyData.strOk w=true:=fun w hw=>(au.mp hw).elim (hp w) (NH hk w)
 have hA:∀ w∈ps++ks,PyData.strOk w=true:=fun w hw=>(au.mp hw).elim (hp w) (hk w)
 have hi:=vz (fI "keeps") hN
 have h1:=QM f hp hk hn hl
 have h2:=Jr f hp hk hn hl
 have h3:=kK ps ks hl
 have h4:=fun x=>FP (x:=x) hA hs nd hl
 by_cases q:ks=[]
 ·have ek:ps++kw ks=ps:=by simp [kw,q]
  rw [ek] at hi h1 h2 ⊢
  rw [aH hn] at hi
  simp only [wl,aa] at h1 h2 h3 h4
  simp? only [gM,kI,kY,ie,p8,h4,wl,tH,v8,iX,e1,K0,DC,jU,hi,h1,h2,h3,h4]
 ·have ek:kw ks=zZ "keeps"::ks:=by simp [kw,q]
  rw [ek] at hi h1 h2 ⊢
  rw [bf (by simp)] at hi
  have ht:=NX q
  simp only [wl,aa] at h1 h2 h3 h4 ht
  simp? only [gM,kI,kY,ie,p8,h4,wl,tH,v8,iX,e1,K0,DC,jU,hi,h1,h2,h3,h4,ht]
theorem Ra (k m:Str){ps:Lr}(hp:∀ w∈ps,PyData.strOk w=true)(hs:zZ "self"∉ps)(nd:ps.Nodup)(hl:ps.length<=900) :
  gM [wl (zZ "method"::k::m::ps)]=some (.bool true):=by
 have e1:("method"=="func")=false:=by decide
 have h1:=QK k m ps
 have h2:=QL k m ps
 have h3:=kK ps [] (by simpa using hl)
 have h4:=fun x=>FP (x:=x) (ps:=ps) (ks:=[]) (by simpa using hp) (by simpa using hs) (by simpa using nd) (by simpa using hl)
 simp only [aS] at h3 h4
 simp only [wl,aa,aZ] at h1 h2 h3 h4
 simp? only [gM,kI,kY,ie,p8,h4,wl,tH,v8,iX,e1,K0,DC,jU,h1,h2,h3,h4]
theorem Rb (f:Str)(r:Lr)(hf:PyData.strOk f=true)(hm:f≠zZ "main")(ha:gM [wl (zZ "func"::f::r)]=some (.bool true))(x:PyData) :
  nu [x,wl (zZ "func"::f::r)]=some (.bool true):=by
 have e1:("func"=="func")=true:=by decide
 have hb:(f==zZ "main")=false:=by simpa using hm
 have e2:Ap (.int ((((r.map PyData.str).length+1+1:Nat)):Int)) (.int 1)=some (.bool true):=gtI (by omega)
 simp only [wl,aa] at ha
 simp? only [nu,we,wl,tH,v8,Ge,iX,e1,oe,e2,ND hf (fI "main"),hb,ha]
theorem Rc (k m:Str)(r:Lr)(hk:k∈F.map (·.1))(ha:gM [wl (zZ "method"::k::m::r)]=some (.bool true))(hs b bl la:PyData)(ov:Bool) :
  nu [Rg (gD F) hs b bl la ov,wl (zZ "method"::k::m::r)]=some (.bool true):=by
 have e1:("method"=="func")=false:=by decide
 have e3:("method"=="method")=true:=by decide
 have e2:Ap (.int ((((r.map PyData.str).length+1+1+1:Nat)):Int)) (.int 2)=some (.bool true):=gtI (by omega)
 have e4:=zf (t:=k) (H:=F)
 rw [bf hk] at e4
 simp only [wl,aa] at ha
 simp? only [nu,we,wl,tH,v8,Ge,iX,e1,e3,oe,e2,qK,jU,e4,ha]
theorem Rf {F:PyData}{f:Str}{ps ks:Lr}(hf:nY f=true)(hm:f≠zZ "main")(hp:∀ w∈ps,nY w=true)(hk:∀ w∈ks,nY w=true)(hn:zZ "keeps"∉ps)(hs:zZ "self"∉ps++ks)(nd:(ps++ks).Nodup)(h1:ps.length<=5)(h2:ks.length<=3) :
  K5 F f (zZ "func"::f::(ps++kw ks)):=by
 have op:=fun w hw=>pA (hp w hw)
 have ok:=fun w hw=>pA (hk w hw)
 have hl:ps.length+ks.length<=900:=by omega
 refine⟨?_,⟨"func",_,rfl,.inl rfl⟩,?_,Jo _ _,fun lZ b bl la ov=>Rb f _ (pA hf) hm (Q9 f op ok hn hs nd hl) _,pA hf⟩
 ·intro w hw
  rcases ah.mp hw with rfl|hw
  ·decide +kernel
  rcases ah.mp hw with rfl|hw
  ·exact hf
  rcases au.mp hw with hw|hw
  ·exact hp w hw
  ·unfold kw at hw
   split at hw
   ·simp at hw
   ·rcases ah.mp hw with rfl|hw
    ·decide +kernel
    ·exact hk w hw
 ·have:(kw ks).length<=ks.length+1:=by unfold kw;split<;>simp
  simp only [ar,aK];omega
theorem DM {k m:Str}(nk:nY k=true)(hm:nY m=true):PyData.strOk (kA k m)=true :=
 tK (pA nk) (tK (fI _) (pA hm))
theorem Rh {k m:Str}{ps:Lr}(hk:k∈F.map (·.1))(nk:nY k=true)(hm:nY m=true)(hp:∀ w∈ps,nY w=true)(hs:zZ "self"∉ps)(nd:ps.Nodup)(h1:ps.length<=5) :
  K5 (gD F) (kA k m) (zZ "method"::k::m::ps):=by
 have op:=fun w hw=>pA (hp w hw)
 have lk:=(nv.mp nk).2.1
 have lm:=(nv.mp hm).2.1
 refine⟨?_,⟨"method",_,rfl,.inr (.inl rfl)⟩,?_,Jp _ _ _ lk lm,fun lZ b bl la ov=>Rc k m ps hk (Ra k m op hs nd (by omega)) _ _ _ _ _,DM nk hm⟩
 ·intro w hw
  rcases ah.mp hw with rfl|hw
  ·decide +kernel
  rcases ah.mp hw with rfl|hw
  ·exact nk
  rcases ah.mp hw with rfl|hw
  ·exact hm
  ·exact hp w hw
 ·simp only [ar];omega
theorem Ri (F:PyData):K5 F (zZ "main") [zZ "main"] :=
 ⟨by intro w hw;simp at hw;subst hw;decide +kernel,⟨"main",[],rfl,.inr (.inr rfl)⟩,by decide,Jq,fun hs b bl la ov=>by kernel_rfl,fI _⟩
def kC (w:String)(c x y k fl m fn:PyData)(ha nm:Lp):PyData:=.dict [(.none,.str "Row"),(.str "word",.str (zZ w)),(.str "condition",c),(.str "x",x),(.str "y",y),(.str "kind",k),(.str "field",fl),(.str "method",m),(.str "function",fn),(.str "handed",.list ha),(.str "names",.list nm)]
theorem pB (w:String)(c x y k fl m fn:PyData)(ha nm:Lp):jP ["Row"] "word" (kC w c x y k fl m fn ha nm)=some (.str (zZ w)):=by kernel_rfl
theorem vG (w:String)(c x y k fl m fn:PyData)(ha nm:Lp):jP ["Row"] "kind" (kC w c x y k fl m fn ha nm)=some k:=by kernel_rfl
theorem zx (w:String)(c x y k fl m fn:PyData)(ha nm:Lp):jP ["Row"] "method" (kC w c x y k fl m fn ha nm)=some m:=by kernel_rfl
theorem zz (w:String)(c x y k fl m fn:PyData)(ha nm:Lp):jP ["Row"] "function" (kC w c x y k fl m fn ha nm)=some fn:=by kernel_rfl
theorem zG (w:String)(c x y k fl m fn:PyData)(ha nm:Lp):jP ["Row"] "handed" (kC w c x y k fl m fn ha nm)=some (.list ha):=by kernel_rfl
def NY:fu->Option gI:=(fy (fL (gd [] (jg 1 tE (zQ (fh 0)))) 1)
(fy (i9 (fB (d2 Qq (fh 1) (dC .none)))
(gu (dC (.bool false)))
gK)
(fy (i9 (jJ (yN (fh 1)) (fB (d2 jC (zX (fh 1) (zI (-1))) (zA "A"))))
(gu (d2 dGe (zN (fh 0)) (zN (fh 1))))
gK)
(gu (d2 jC (zN (fh 0)) (d2 f6 (zN (fh 1)) (zI 1)))))))
theorem HX {ws:Lr}(g:GR ws):vj [wl ws]=pG (NY [some (wl ws),none]):=by
 have e1:=wF wZ w9 rfl rfl ws g.2.1
 have e2:=FN ws
 have hz:(ws.map PyData.str).length<=16777216:=by have:=g.2.2;rw [ae];omega
 have ht:=NX g.1
 show jq _ (fy _ NY) _=_
 rw [kY,ie]
 refine bQ pG (fX (ρ1:=[some (wl ws),none]) ?_ rfl)
 simp only [wl] at ht
 simp? only [wl,ht,ai hz,qT,e1,e2,wA]
local macro_rules
| `(zR 0) => `(⟨⟨_, rfl⟩, fun h => (HX h).trans (by kernel_rfl), by kernel_rfl, vG .., pB ..⟩)
structure i8 (ws:Lr) (w0:String) (kd:Option Str) (row:PyData):Prop where
 hd:∃ r,ws=zZ w0::r
 isr:GR ws->vj [wl ws]=some (.bool true)
 ini:uF [.dict [(.none,.str "Row")],wl ws]=some (.none,row)
 kd:jP ["Row"] "kind" row=some (kd.elim .none .str)
 wd:jP ["Row"] "word" row=some (.str (zZ w0))
theorem Vw (a b:Str):i8 [zZ "new",a,b] "new" (some b) (kC "new" .none (.str (a)) .none (.str (b)) .none .none .none [] [.str a]):=zR 0
theorem Vx (a:Str):i8 [zZ "row",a] "row" none (kC "row" .none (.str (a)) .none .none .none .none .none [] [.str a]):=zR 0
theorem NZ (a b:Str):i8 [zZ "func",a,b] "func" none (kC "func" .none (.str (a)) .none .none .none .none (.str (b)) [] [.str a]):=zR 0
theorem N1 (a b c:Str):i8 [zZ "func",a,b,c] "func" none (kC "func" .none (.str (a)) .none .none .none .none (.str (b)) [.str c] [.str a,.str c]):=zR 0
theorem N2 (a b c d:Str):i8 [zZ "func",a,b,c,d] "func" none (kC "func" .none (.str (a)) .none .none .none .none (.str (b)) [.str c,.str d] [.str a,.str c,.str d]):=zR 0
theorem Rj (a b:Str):i8 [zZ "copy",a,b] "copy" none (kC "copy" .none (.str (a)) (.str (b)) .none .none .none .none [] [.str a,.str b]):=zR 0
theorem Rl (a b c:Str):i8 [zZ "take",a,b,c] "take" none (kC "take" .none (.str (a)) (.str (b)) .none (.str (c)) .none .none [] [.str a,.str b]):=zR 0
theorem Vy (a b c:Str):i8 [zZ "put",a,b,c] "put" none (kC "put" .none (.str (c)) (.str (a)) .none (.str (b)) .none .none [] [.str a,.str c]):=zR 0
theorem Rm (a b:Str):i8 [zZ "push",a,b] "push" none (kC "push" .none (.str (b)) (.str (a)) .none .none .none .none [] [.str a,.str b]):=zR 0
theorem Rn (a b:Str):i8 [zZ "pull",a,b] "pull" none (kC "pull" .none (.str (a)) (.str (b)) .none .none .none .none [] [.str a,.str b]):=zR 0
theorem Vz (a b:Str):i8 [zZ "do",a,b] "do" none (kC "do" .none (.str (a)) (.str (b)) .none .none .none .none [] [.str a,.str b]):=zR 0
theorem VA (a b c:Str):i8 [zZ "do",a,b,c] "do" none (kC "do" .none (.str (a)) (.str (b)) .none .none .none .none [.str c] [.str a,.str b,.str c]):=zR 0
theorem VB (a b c d:Str):i8 [zZ "do",a,b,c,d] "do" none (kC "do" .none (.str (a)) (.str (b)) .none .none .none .none [.str c,.str d] [.str a,.str b,.str c,.str d]):=zR 0
theorem Ro (a b c:Str):i8 [zZ "ask",a,b,c] "ask" none (kC "ask" .none (.str (a)) (.str (b)) .none .none (.str (c)) .none [] [.str a,.str b]):=zR 0
theorem Rp (a b c d:Str):i8 [zZ "ask",a,b,c,d] "ask" none (kC "ask" .none (.str (a)) (.str (b)) .none .none (.str (c)) .none [.str d] [.str a,.str b,.str d]):=zR 0
theorem Rq (a b c d e:Str):i8 [zZ "ask",a,b,c,d,e] "ask" none (kC "ask" .none (.str (a)) (.str (b)) .none .none (.str (c)) .none [.str d,.str e] [.str a,.str b,.str d,.str e]):=zR 0
theorem DN (a b c d:Str):i8 [zZ "straight",a,b,c,d] "straight" (some c) (kC "straight" .none (.str (a)) (.str (b)) (.str (c)) .none (.str (d)) .none [] [.str a,.str b]):=zR 0
theorem DP (a b c d e:Str):i8 [zZ "straight",a,b,c,d,e] "straight" (some c) (kC "straight" .none (.str (a)) (.str (b)) (.str (c)) .none (.str (d)) .none [.str e] [.str a,.str b,.str e]):=zR 0
theorem DQ (a b c d e f:Str):i8 [zZ "straight",a,b,c,d,e,f] "straight" (some c) (kC "straight" .none (.str (a)) (.str (b)) (.str (c)) .none (.str (d)) .none [.str e,.str f] [.str a,.str b,.str e,.str f]):=zR 0
theorem Ru (a:Str):i8 [zZ "give",a] "give" none (kC "give" .none (.str (a)) .none .none .none .none .none [] [.str a]):=zR 0
theorem Rv (a:Str):i8 [zZ "tell",a] "tell" none (kC "tell" .none (.str (a)) .none .none .none .none .none [] [.str a]):=zR 0
theorem Rw:i8 [zZ "rest"] "rest" none (kC "rest" .none .none .none .none .none .none .none [] []):=zR 0
theorem N3 (a b:Str):i8 [zZ "check",a,b] "check" none (kC "check" .none .none (.str (a)) .none (.str (b)) .none .none [] [.str a]):=zR 0
theorem N4 (a b:Str):i8 [zZ "fresh",a,b] "fresh" (some b) (kC "fresh" .none (.str (a)) .none (.str (b)) .none .none .none [] [.str a]):=zR 0
theorem VC (a b c:Str):i8 [zZ "own",a,b,c] "own" none (kC "own" .none (.str (a)) (.str (b)) .none (.str (c)) .none .none [] [.str a,.str b]):=zR 0
theorem N5 (a b c:Str):i8 [zZ "place",a,b,c] "place" none (kC "place" .none (.str (c)) (.str (a)) .none (.str (b)) .none .none [] [.str a,.str c]):=zR 0
theorem DR:i8 [zZ "if",zZ "choose"] "if" none (kC "if" (.str (zZ "choose")) .none .none .none .none .none .none [] []):=zR 0
theorem HY (a:Str):i8 [zZ "if",zZ "some",a] "if" none (kC "if" (.str (zZ "some")) (.str (a)) .none .none .none .none .none [] [.str a]):=zR 0
theorem HZ (a b:Str):i8 [zZ "if",zZ "same",a,b] "if" none (kC "if" (.str (zZ "same")) (.str (a)) (.str (b)) .none .none .none .none [] [.str a,.str b]):=zR 0
theorem xQ:i8 [zZ "while",zZ "choose"] "while" none (kC "while" (.str (zZ "choose")) .none .none .none .none .none .none [] []):=zR 0
theorem AY (a:Str):i8 [zZ "while",zZ "some",a] "while" none (kC "while" (.str (zZ "some")) (.str (a)) .none .none .none .none .none [] [.str a]):=zR 0
theorem AZ (a b:Str):i8 [zZ "while",zZ "same",a,b] "while" none (kC "while" (.str (zZ "same")) (.str (a)) (.str (b)) .none .none .none .none [] [.str a,.str b]):=zR 0
theorem DS {fs hs b la:PyData}{bs:Lr}{ov:Bool}{w:Str}{x y z:Od}(h:f [some (Rg fs hs b (wl bs) la ov),x,y,z]=some (.str w))(hl:bs.length<=900) :
  gz (.fl 0 "Reading" "blocks") f [some (Rg fs hs b (wl bs) la ov),x,y,z]=some (.nx [some (Rg fs hs b (wl (bs++[w])) la ov),x,y,z]):=by
 have e:qB (.fl 0 "Reading" "blocks") [some (Rg fs hs b (wl bs) la ov),x,y,z]=some (.list (bs.map .str)):=by kernel_rfl
 have z:(bs.map PyData.str).length<sizeLine:=by rw [sizeLine_eq,ae];omega
 rw [Jl,e,h]
 simp only [az,ai z,lU,aa,aZ]
 kernel_rfl
theorem FQ {fs hs b bl:PyData}{L:Lp}{ov:Bool}{x y z:Od}(h:f [some (Rg fs hs b bl (.list L) ov),x,y,z]=some d)(hl:L.length<=900) :
  gz (.fl 0 "Reading" "later") f [some (Rg fs hs b bl (.list L) ov),x,y,z]=some (.nx [some (Rg fs hs b bl (.list (L++[d])) ov),x,y,z]):=by
 have e:qB (.fl 0 "Reading" "later") [some (Rg fs hs b bl (.list L) ov),x,y,z]=some (.list L):=by kernel_rfl
 have z:L.length<sizeLine:=by rw [sizeLine_eq];omega
 rw [Jl,e,h]
 simp only [az,ai z]
 kernel_rfl
theorem YO (w0:String):mq (.str (zZ w0)) (.tuple [.str (zZ "func"),.str (zZ "straight")])=some (w0=="func"||w0=="straight"):=by
 show (if _ then _ else none)=_
 rw [ai ⟨jI (fI _),by simp [jI (fI _)],by simp [PyData.depth]⟩]
 simp only [bG,List.any_nil,cT,Dz,k8]
 congr 1
 rw [cJ,cJ (b:="straight")]
theorem le8 (h:n<=8):vc (.int (n:Int)) (.int 8)=some (.bool true):=by
 have:(n:Int)<=8:=by omega
 simp [vc,Zt,dI,this]
section
variable {hs:PyData}{bs:Lr}{L:Lp}
theorem Rx {row w:PyData}{i:Int}{kd:Option Str}(h:jP ["Row"] "kind" row=some (kd.elim .none .str))(hk:∀ k,kd=some k->k∈F.map (·.1)){R:PyData}(hR:jP ["Reading"] "fields" R=some (gD F)) :
  (jJ (fB (d2 pP (jt ["Row"] "kind" (fh 3)) (dC .none))) (fB (d2 kQ (jt ["Row"] "kind" (fh 3)) (jt ["Reading"] "fields" (fh 0))))) [some R,some (.int i),some w,some row]=some false:=by
 cases kd with
 | none=>simp only [Option.elim] at h;simp? only [h,DE]
 | some k =>
  simp only [Option.elim] at h
  have e:=zf (t:=k) (H:=F)
  rw [bf (hk k rfl)] at e
  simp? only [h,DF,hR,mS,e]
theorem BQ {ws:Lr}{w0:String}{kd:Option Str}{row:PyData}(O:i8 ws w0 kd row)(g:GR ws)(h1:(w0=="end")=false)(h2:(w0=="else")=false)(hk:∀ k,kd=some k->k∈F.map (·.1)){b1 b2:Bool}(ib:(w0=="if"||w0=="while")=b1)(il:(w0=="func"||w0=="straight")=b2)(hb:(if b1 then bs++[zZ w0] else bs).length<=8)(hL:L.length<=900)(i:Int) :
  hG [Rg (gD F) hs (.str t) (wl bs) (.list L) false,.int i,wl ws]=some (.bool true,Rg (gD F) hs (.str t) (wl (if b1 then bs++[zZ w0] else bs)) (.list (if b2 then L++[.tuple [.int i,row]] else L)) false):=by
 obtain⟨r,ew⟩:=O.hd
 have q:=DA g.ok (UK "end")
 rw [aH (by intro z;rw [ew] at z;injection z with z _;exact zo h1 z)] at q
 have q2:=DA g.ok (UK "else")
 rw [aH (by intro z;rw [ew] at z;injection z with z _;exact zo h2 z)] at q2
 have q':jC (wl ws) (.list [.str (zZ "end")])=some (.bool false):=q
 have q2':jC (wl ws) (.list [.str (zZ "else")])=some (.bool false):=q2
 have i1:=xf w0
 have i2:=YO w0
 rw [ib] at i1
 rw [il] at i2
 have hb0:bs.length<=900:=by cases b1<;>simp at hb<;>omega
 have ini:=O.ini
 have gg:jR [some (Rg (gD F) hs (.str t) (wl bs) (.list L) false),some (.int i),some (wl ws),none]=some (.rt (.tuple [.bool true,Rg (gD F) hs (.str t) (wl (if b1 then bs++[zZ w0] else bs)) (.list (if b2 then L++[.tuple [.int i,row]] else L)) false])):=by
  refine fX (kz (by simp? only [q']) rfl) (fX (kz (by simp? only [q2']) rfl) (fX (kz (by simp? only [O.isr g,wA]) rfl) (fX (ρ1:=[some (Rg (gD F) hs (.str t) (wl bs) (.list L) false),some (.int i),some (wl ws),some row]) ?_ (fX (kz (Rx O.kd hk (qK ..)) rfl) (fX (ρ1:=[some (Rg (gD F) hs (.str t) (wl (if b1 then bs++[zZ w0] else bs)) (.list L) false),some (.int i),some (wl ws),some row]) ?_ (fX (ρ1:=[some (Rg (gD F) hs (.str t) (wl (if b1 then bs++[zZ w0] else bs)) (.list (if b2 then L++[.tuple [.int i,row]] else L)) false),some (.int i),some (wl ws),some row]) ?_ ?_))))))
  ·simp? only [ini]
  ·cases b1 with
   | false=>exact kz (by simp? only [O.wd,jU,i1]) rfl
   | true=>exact nA (by simp? only [O.wd,jU,i1]) (DS (by simp? only [O.wd]) hb0)
  ·cases b2 with
   | false=>exact kz (by simp? only [O.wd,jU,i2]) rfl
   | true=>exact nA (by simp? only [O.wd,jU,i2]) (FQ (by simp? only [vv]) hL)
  ·have ll:iQ [wl (if b1 then bs++[zZ w0] else bs)]=some (.int ((if b1 then bs++[zZ w0] else bs).length:Int)):=by rw [oe,ae]
   simp only [Nw,Jj,qo,za,fY,SH,sX,pw,vv,a8,bT,az,tM,ll,le8 hb,mT,cE,bN]
 rw [hG,wz]
 show HN (jR [some (Rg (gD F) hs (.str t) (wl bs) (.list L) false),some (.int i),some (wl ws),none])=_
 rw [gg,vx]
theorem tP {R R1:PyData}{bl la:PyData}{ws:Lr}{i:Int}(hR:R=Rg (gD F) hs (.str t) bl la false)(h:hG [R,.int i,wl ws]=some (.bool true,R1)):iB [R,.int i,wl ws]=some (.bool true,R1):=by
 subst hR
 simp? only [iB,nQ,vE,tL,wA,DF,h,mT]
theorem pC {A B:fu->Option gI}{ρ0:fu}(h1:A ρ0=some (.rt d)):fy A B ρ0=some (.rt d):=by rw [p8,h1,Nx]
theorem FR (as:Lr)(x:Str):k9 (wl (as++[x]))=some true:=by cases as<;>rfl
theorem VD (x:Str)(i:Int):hG [Rg (gD F) hs (.str t) (wl (bs++[x])) (.list L) false,.int i,wl [zZ "end"]]=some (.bool true,Rg (gD F) hs (.str t) (wl bs) (.list L) false):=by
 have c:ko [Rg (gD F) hs (.str t) (wl (bs++[x])) (.list L) false]=some (.none,Rg (gD F) hs (.str t) (wl bs) (.list L) false):=by
  have gg:nK [some (Rg (gD F) hs (.str t) (wl (bs++[x])) (.list L) false)]=some (.rt (.tuple [.none,Rg (gD F) hs (.str t) (wl bs) (.list L) false])):=by
   have p:Kk (.fl 0 "Reading" "blocks") [some (Rg (gD F) hs (.str t) (wl (bs++[x])) (.list L) false)]=some (.nx [some (Rg (gD F) hs (.str t) (wl bs) (.list L) false)]):=by
    have e:qB (.fl 0 "Reading" "blocks") [some (Rg (gD F) hs (.str t) (wl (bs++[x])) (.list L) false)]=some (wl (bs++[x])):=by kernel_rfl
    unfold Kk
    rw [e,lU]
    have n0:(bs.map PyData.str++[PyData.str x]).isEmpty=false:=by simp
    simp only [az,aa,aZ,List.dropLast_concat,n0,b9,eO]
    kernel_rfl
   refine pC (nA ?_ (fX p rfl))
   simp? only [tM,FR]
  rw [ko,wz]
  show HN (nK [some (Rg (gD F) hs (.str t) (wl (bs++[x])) (.list L) false)])=_
  rw [gg,vx]
 have q:jC (wl [zZ "end"]) (.list [.str (zZ "end")])=some (.bool true):=by kernel_rfl
 simp? only [hG,jR,q,JA,c,Ju,mT]
theorem VE (i:Int):hG [Rg (gD F) hs (.str t) (wl (bs++[zZ "if"])) (.list L) false,.int i,wl [zZ "else"]]=some (.bool true,Rg (gD F) hs (.str t) (wl (bs++[zZ "else"])) (.list L) false):=by
 have c:lH [Rg (gD F) hs (.str t) (wl (bs++[zZ "if"])) (.list L) false]=some (.bool true,Rg (gD F) hs (.str t) (wl (bs++[zZ "else"])) (.list L) false):=by
  have e1:(!("if"=="if"))=false:=by decide
  have p:si (.fl 0 "Reading" "blocks") (gd [0] (zI (-1))) (gd [0] (zA "else")) [some (Rg (gD F) hs (.str t) (wl (bs++[zZ "if"])) (.list L) false)]=some (.nx [some (Rg (gD F) hs (.str t) (wl (bs++[zZ "else"])) (.list L) false)]):=by
   have e:qB (.fl 0 "Reading" "blocks") [some (Rg (gD F) hs (.str t) (wl (bs++[zZ "if"])) (.list L) false)]=some (wl (bs++[zZ "if"])):=by kernel_rfl
   rw [uh,e]
   simp? only [lU,zj]
   kernel_rfl
  have gg:n6 [some (Rg (gD F) hs (.str t) (wl (bs++[zZ "if"])) (.list L) false)]=some (.rt (.tuple [.bool true,Rg (gD F) hs (.str t) (wl (bs++[zZ "else"])) (.list L) false])):=by
   refine fX (kz ?_ rfl) (fX p rfl)
   simp? only [tM,FR,DJ,lC,e1]
  rw [lH,wz]
  show HN (n6 [some (Rg (gD F) hs (.str t) (wl (bs++[zZ "if"])) (.list L) false)])=_
  rw [gg,vx]
 have q:jC (wl [zZ "else"]) (.list [.str (zZ "end")])=some (.bool false):=by kernel_rfl
 have q2:jC (wl [zZ "else"]) (.list [.str (zZ "else")])=some (.bool true):=by kernel_rfl
 simp? only [hG,jR,q,q2,c,mT]
end
local macro_rules
| `(zt 0) => `(pC (nA (by kernel_rfl) (by kernel_rfl)))
inductive Rk (K:Lr) (M:List (Str×Str)) (Fu:List (Str×Nat)):String->Lr->Prop
 | new {x k:Str}:k∈K->Rk K M Fu "new" [x,k]
 | fresh {x k:Str}:k∈K->Rk K M Fu "fresh" [x,k]
 | row {x:Str}:Rk K M Fu "row" [x]
 | give {x:Str}:Rk K M Fu "give" [x]
 | tell {x:Str}:Rk K M Fu "tell" [x]
 | take {x y z:Str}:Rk K M Fu "take" [x,y,z]
 | own {x y z:Str}:Rk K M Fu "own" [x,y,z]
 | put {x y z:Str}:Rk K M Fu "put" [x,y,z]
 | place {x y z:Str}:Rk K M Fu "place" [x,y,z]
 | check {x y:Str}:Rk K M Fu "check" [x,y]
 | push {x y:Str}:Rk K M Fu "push" [x,y]
 | pull {x y:Str}:Rk K M Fu "pull" [x,y]
 | copy {x y:Str}:Rk K M Fu "copy" [x,y]
 | rest:Rk K M Fu "rest" []
 | ask {x y m:Str}{hs:Lr}:hs.length<=2->Rk K M Fu "ask" (x::y::m::hs)
 | Z6 {x y:Str}{hs:Lr}:hs.length<=2->Rk K M Fu "do" (x::y::hs)
 | vH {x y k m:Str}{hs:Lr}:hs.length<=2->k∈K->(k,m)∈M->Rk K M Fu "straight" (x::y::k::m::hs)
 | func {x f:Str}{hs:Lr}:hs.length<=2->(f,hs.length)∈Fu->Rk K M Fu "func" (x::f::hs)
inductive Ck:Lr->Prop
 | choose:Ck [zZ "choose"]
 | some {x:Str}:Ck [zZ "some",x]
 | same {x y:Str}:Ck [zZ "same",x,y]
inductive Bk (K:Lr) (M:List (Str×Str)) (Fu:List (Str×Nat)):Lr->List Lr->Lr->Prop
 | nil (bs:Lr):Bk K M Fu bs [] bs
 | row {bs mZ:Lr}{w:String}{r:Lr}{rest:List Lr}:Rk K M Fu w r->Bk K M Fu bs rest mZ->Bk K M Fu bs ((zZ w::r)::rest) mZ
 | VF {bs mZ:Lr}{w:String}{r:Lr}{rest:List Lr}:w="if"∨w="while"->Ck r->bs.length<8->Bk K M Fu (bs++[zZ w]) rest mZ->Bk K M Fu bs ((zZ w::r)::rest) mZ
 | Jv {bs mZ:Lr}{rest:List Lr}:Bk K M Fu (bs++[zZ "else"]) rest mZ->Bk K M Fu (bs++[zZ "if"]) ([zZ "else"]::rest) mZ
 | fin {bs mZ:Lr}{x:Str}{rest:List Lr}:Bk K M Fu bs rest mZ->Bk K M Fu (bs++[x]) ([zZ "end"]::rest) mZ
theorem Bk.app {K:Lr}{M:List (Str×Str)}{Fu:List (Str×Nat)}{a b c:Lr}{as bs:List Lr}(h:Bk K M Fu a as b)(h2:Bk K M Fu b bs c):Bk K M Fu a (as++bs) c:=by
 induction h with
 | nil bs=>exact h2
 | row k _ ih=>exact .row k (ih h2)
 | VF w k l _ ih=>exact .VF w k l (ih h2)
 | Jv _ ih=>exact .Jv (ih h2)
 | fin _ ih=>exact .fin (ih h2)
def Lt (M:List (Str×Str))(Fu:List (Str×Nat))(e:PyData):Prop:=∃ i row,e=.tuple [.int i,row] /\
  ((∃ k m,(k,m)∈M/\jP ["Row"] "word" row=some (.str (zZ "straight"))/\jP ["Row"] "kind" row=some (.str k)/\jP ["Row"] "method" row=some (.str m)) ∨
   (∃ f n ha,(f,n)∈Fu/\jP ["Row"] "word" row=some (.str (zZ "func"))/\jP ["Row"] "function" row=some (.str f)/\jP ["Row"] "handed" row=some (.list ha)/\ha.length=n))
section
variable {K:Lr}{M:List (Str×Str)}{Fu:List (Str×Nat)}
structure Rr (K:Lr) (M:List (Str×Str)) (Fu:List (Str×Nat)) (ws:Lr) (w:String):Prop where
 ok:∃ kd row,i8 ws w kd row/\(∀ k,kd=some k->k∈K)/\∀ i:Int,(w=="func"||w=="straight")=true->Lt M Fu (.tuple [.int i,row])
 e1:(w=="end")=false
 e2:(w=="else")=false
theorem Rk.ok {w:String}{r:Lr}(h:Rk K M Fu w r):Rr K M Fu (zZ w::r) w/\(w=="if"||w=="while")=false:=by
 cases h with
 | new hk=>exact⟨⟨⟨_,_,Vw _ _,fun k e=>by injection e with e;subst e;exact hk,fun i z=>absurd z (by decide)⟩,by decide,by decide⟩,by decide⟩
 | fresh hk=>exact⟨⟨⟨_,_,N4 _ _,fun k e=>by injection e with e;subst e;exact hk,fun i z=>absurd z (by decide)⟩,by decide,by decide⟩,by decide⟩
 | row=>exact⟨⟨⟨_,_,Vx _,by simp,fun i z=>absurd z (by decide)⟩,by decide,by decide⟩,by decide⟩
 | give=>exact⟨⟨⟨_,_,Ru _,by simp,fun i z=>absurd z (by decide)⟩,by decide,by decide⟩,by decide⟩
 | tell=>exact⟨⟨⟨_,_,Rv _,by simp,fun i z=>absurd z (by decide)⟩,by decide,by decide⟩,by decide⟩
 | take=>exact⟨⟨⟨_,_,Rl _ _ _,by simp,fun i z=>absurd z (by decide)⟩,by decide,by decide⟩,by decide⟩
 | own=>exact⟨⟨⟨_,_,VC _ _ _,by simp,fun i z=>absurd z (by decide)⟩,by decide,by decide⟩,by decide⟩
 | put=>exact⟨⟨⟨_,_,Vy _ _ _,by simp,fun i z=>absurd z (by decide)⟩,by decide,by decide⟩,by decide⟩
 | place=>exact⟨⟨⟨_,_,N5 _ _ _,by simp,fun i z=>absurd z (by decide)⟩,by decide,by decide⟩,by decide⟩
 | check=>exact⟨⟨⟨_,_,N3 _ _,by simp,fun i z=>absurd z (by decide)⟩,by decide,by decide⟩,by decide⟩
 | push=>exact⟨⟨⟨_,_,Rm _ _,by simp,fun i z=>absurd z (by decide)⟩,by decide,by decide⟩,by decide⟩
 | pull=>exact⟨⟨⟨_,_,Rn _ _,by simp,fun i z=>absurd z (by decide)⟩,by decide,by decide⟩,by decide⟩
 | copy=>exact⟨⟨⟨_,_,Rj _ _,by simp,fun i z=>absurd z (by decide)⟩,by decide,by decide⟩,by decide⟩
 | rest=>exact⟨⟨⟨_,_,Rw ,by simp,fun i z=>absurd z (by decide)⟩,by decide,by decide⟩,by decide⟩
 | @ask x y m hs hl =>
  rcases hs with _ | ⟨a,_ | ⟨b,_ | ⟨c,l⟩⟩⟩
  ·exact⟨⟨⟨_,_,Ro _ _ _,by simp,fun i z=>absurd z (by decide)⟩,by decide,by decide⟩,by decide⟩
  ·exact⟨⟨⟨_,_,Rp _ _ _ _,by simp,fun i z=>absurd z (by decide)⟩,by decide,by decide⟩,by decide⟩
  ·exact⟨⟨⟨_,_,Rq _ _ _ _ _,by simp,fun i z=>absurd z (by decide)⟩,by decide,by decide⟩,by decide⟩
  ·simp at hl
 | @Z6 x y hs hl =>
  rcases hs with _ | ⟨a,_ | ⟨b,_ | ⟨c,l⟩⟩⟩
  ·exact⟨⟨⟨_,_,Vz _ _,by simp,fun i z=>absurd z (by decide)⟩,by decide,by decide⟩,by decide⟩
  ·exact⟨⟨⟨_,_,VA _ _ _,by simp,fun i z=>absurd z (by decide)⟩,by decide,by decide⟩,by decide⟩
  ·exact⟨⟨⟨_,_,VB _ _ _ _,by simp,fun i z=>absurd z (by decide)⟩,by decide,by decide⟩,by decide⟩
  ·simp at hl
 | @vH x y k m hs hl hk hm =>
  rcases hs with _ | ⟨a,_ | ⟨b,_ | ⟨c,l⟩⟩⟩
  ·exact⟨⟨⟨_,_,DN _ _ _ _,fun k e=>by injection e with e;subst e;exact hk,fun i _=>⟨i,_,rfl,.inl ⟨k,m,hm,pB ..,vG ..,zx ..⟩⟩⟩,by decide,by decide⟩,by decide⟩
  ·exact⟨⟨⟨_,_,DP _ _ _ _ _,fun k e=>by injection e with e;subst e;exact hk,fun i _=>⟨i,_,rfl,.inl ⟨k,m,hm,pB ..,vG ..,zx ..⟩⟩⟩,by decide,by decide⟩,by decide⟩
  ·exact⟨⟨⟨_,_,DQ _ _ _ _ _ _,fun k e=>by injection e with e;subst e;exact hk,fun i _=>⟨i,_,rfl,.inl ⟨k,m,hm,pB ..,vG ..,zx ..⟩⟩⟩,by decide,by decide⟩,by decide⟩
  ·simp at hl
 | @func x f hs hl hm =>
  rcases hs with _ | ⟨a,_ | ⟨b,_ | ⟨c,l⟩⟩⟩
  ·exact⟨⟨⟨_,_,NZ _ _,by simp,fun i _=>⟨i,_,rfl,.inr ⟨f,_,_,hm,pB ..,zz ..,zG ..,rfl⟩⟩⟩,by decide,by decide⟩,by decide⟩
  ·exact⟨⟨⟨_,_,N1 _ _ _,by simp,fun i _=>⟨i,_,rfl,.inr ⟨f,_,_,hm,pB ..,zz ..,zG ..,rfl⟩⟩⟩,by decide,by decide⟩,by decide⟩
  ·exact⟨⟨⟨_,_,N2 _ _ _ _,by simp,fun i _=>⟨i,_,rfl,.inr ⟨f,_,_,hm,pB ..,zz ..,zG ..,rfl⟩⟩⟩,by decide,by decide⟩,by decide⟩
  ·simp at hl
theorem Ck.ok {w:String}(hw:w="if"∨w="while"){r:Lr}(h:Ck r):Rr K M Fu (zZ w::r) w/\(w=="if"||w=="while")=true/\(w=="func"||w=="straight")=false:=by
 rcases hw with rfl|rfl
 ·refine⟨⟨?_,by decide,by decide⟩,by decide,by decide⟩
  cases h with
  | choose=>exact⟨_,_,DR,by simp,fun i z=>absurd z (by decide)⟩
  | some=>exact⟨_,_,HY _,by simp,fun i z=>absurd z (by decide)⟩
  | same=>exact⟨_,_,HZ _ _,by simp,fun i z=>absurd z (by decide)⟩
 ·refine⟨⟨?_,by decide,by decide⟩,by decide,by decide⟩
  cases h with
  | choose=>exact⟨_,_,xQ,by simp,fun i z=>absurd z (by decide)⟩
  | some=>exact⟨_,_,AY _,by simp,fun i z=>absurd z (by decide)⟩
  | same=>exact⟨_,_,AZ _ _,by simp,fun i z=>absurd z (by decide)⟩
end
section
variable {K:Lr}{M:List (Str×Str)}{Fu:List (Str×Nat)} 
theorem FT {ws:Lr}{w:String}(O:Rr K M Fu ws w)(hF:∀ k∈K,k∈F.map (·.1))(g:GR ws){b1:Bool}(ib:(w=="if"||w=="while")=b1){hs:PyData}{bs:Lr}{L:Lp}(hb:(if b1 then bs++[zZ w] else bs).length<=8)(hL:L.length<=900)(hLt:∀ e∈L,Lt M Fu e)(n:Nat) :
  ∃ L1,(∀ e∈L1,Lt M Fu e)/\L1.length<=L.length+1/\iB [Rg (gD F) hs (.str t) (wl bs) (.list L) false,.int (n:Int),wl ws]=some (.bool true,Rg (gD F) hs (.str t) (wl (if b1 then bs++[zZ w] else bs)) (.list L1) false):=by
 obtain⟨kd,row,o,hk,qt⟩:=O.ok
 cases il:(w=="func"||w=="straight") with
 | false=>exact⟨L,hLt,by omega,tP rfl (BQ o g O.e1 O.e2 (fun k e=>hF k (hk k e)) ib il hb hL n)⟩
 | true =>
  refine⟨L++[.tuple [.int (n:Int),row]],fun e he=>?_,by simp,tP rfl (BQ o g O.e1 O.e2 (fun k e=>hF k (hk k e)) ib il hb hL n)⟩
  rcases au.mp he with he|he
  ·exact hLt e he
  ·simp at he;subst he;exact qt n il
theorem H0 {bs mZ:Lr}{rows:List Lr}(h:Bk K M Fu bs rows mZ)(hF:∀ k∈K,k∈F.map (·.1)){hs:PyData}:bs.length<=8->(∀ ws∈rows,GR ws)->∀ (n:Nat) (L:Lp),(∀ e∈L,Lt M Fu e)->L.length+rows.length<=900 ->
  ∃ L',(∀ e∈L',Lt M Fu e)/\L'.length<=L.length+rows.length/\Reads n (Rg (gD F) hs (.str t) (wl bs) (.list L) false) rows (Rg (gD F) hs (.str t) (wl mZ) (.list L') false):=by
 induction h with
 | nil bs=>intro _ _ n L hL _;exact⟨L,hL,by simp,rfl⟩
 | @row bs mZ w r rest k _ ih =>
  intro hb hg n L hL hl
  obtain⟨O,ib⟩:=k.ok
  simp only [ar] at hl
  obtain⟨L1,h1,h2,h3⟩:=FT O hF (hg _ (aT ..)) ib (hs:=hs) (t:=t) (bs:=bs) (L:=L) (by simpa using hb) (by omega) hL n
  obtain⟨L',h4,h5,h6⟩:=ih hb (fun ws hw=>hg ws (af _ hw)) (n+1) L1 h1 (by omega)
  exact⟨L',h4,by simp only [ar];omega,_,(hg _ (aT ..)).2.1,h3,h6⟩
 | @VF bs mZ w r rest hw k hb8 _ ih =>
  intro hb hg n L hL hl
  obtain⟨O,ib,_⟩:=k.ok (K:=K) (M:=M) (Fu:=Fu) hw
  simp only [ar] at hl
  obtain⟨L1,h1,h2,h3⟩:=FT O hF (hg _ (aT ..)) ib (hs:=hs) (t:=t) (bs:=bs) (L:=L) (by simp;omega) (by omega) hL n
  obtain⟨L',h4,h5,h6⟩:=ih (by simp;omega) (fun ws hw=>hg ws (af _ hw)) (n+1) L1 h1 (by omega)
  exact⟨L',h4,by simp only [ar];omega,_,(hg _ (aT ..)).2.1,h3,h6⟩
 | @Jv bs mZ rest _ ih =>
  intro hb hg n L hL hl
  simp only [ar] at hl
  obtain⟨L',h4,h5,h6⟩:=ih (by simpa using hb) (fun ws hw=>hg ws (af _ hw)) (n+1) L hL (by omega)
  exact⟨L',h4,by simp only [ar];omega,_,JB,tP rfl (VE n),h6⟩
 | @fin bs mZ x rest _ ih =>
  intro hb hg n L hL hl
  simp only [ar] at hl
  obtain⟨L',h4,h5,h6⟩:=ih (by simp at hb;omega) (fun ws hw=>hg ws (af _ hw)) (n+1) L hL (by omega)
  exact⟨L',h4,by simp only [ar];omega,_,HW,tP rfl (VD x n),h6⟩
structure Bo where
 t:Str
 hd:Lr
 rows:List Lr
def Bo.txt (b:Bo):List Lr:=b.hd::(b.rows++[[zZ "end"]])
def Bo.ent (b:Bo):Str×Lr:=(b.t,b.hd)
structure K7 (K:Lr) (M:List (Str×Str)) (Fu:List (Str×Nat)) (F:List (Str×PyData)) (b:Bo):Prop where
 hd:K5 (gD F) b.t b.hd
 gr:∀ ws∈b.rows,GR ws
 bk:Bk K M Fu [] b.rows []
 hb:Hb b.t b.hd
 gh:GR b.hd
theorem BR (hF:∀ k∈K,k∈F.map (·.1)){b:Bo}(O:K7 K M Fu F b){H:List (Str×PyData)}(ht:b.t∉H.map (·.1))(hl:H.length<=900)(n:Nat)(L:Lp)(hL:∀ e∈L,Lt M Fu e)(h9:L.length+b.txt.length<=900) :
  ∃ L',(∀ e∈L',Lt M Fu e)/\L'.length<=L.length+b.txt.length/\Reads n (Rg (gD F) (gD H) .none (wl []) (.list L) false) b.txt (Rg (gD F) (gD (H++[(b.t,wl b.hd)])) .none (wl []) (.list L') (b.t==zZ "main")):=by
 have hx:b.txt.length=b.rows.length+2:=by simp [Bo.txt]
 obtain⟨L',h1,h2,h3⟩:=H0 O.bk hF (hs:=gD (H++[(b.t,wl b.hd)])) (t:=b.t) (by simp) O.gr (n+1) L hL (by omega)
 refine⟨L',h1,by omega,_,O.hd.nm,Q4 (la:=.list L) O.hd ht hl n,h3.app ⟨_,HW,Vv O.hd.tok (gD F) _ _,rfl⟩⟩
theorem vI (hF:∀ k∈K,k∈F.map (·.1)):∀ (D1:List Bo) (H:List (Str×PyData)) (n:Nat) (L:Lp),(∀ b∈D1,K7 K M Fu F b/\b.t≠zZ "main")->(H.map (·.1)++D1.map (·.t)).Nodup->H.length+D1.length<=900->(∀ e∈L,Lt M Fu e)->L.length+(D1.flatMap Bo.txt).length<=900 ->
  ∃ L',(∀ e∈L',Lt M Fu e)/\L'.length<=L.length+(D1.flatMap Bo.txt).length/\Reads n (Rg (gD F) (gD H) .none (wl []) (.list L) false) (D1.flatMap Bo.txt) (Rg (gD F) (gD (H++hg (D1.map Bo.ent))) .none (wl []) (.list L') false)
 | [],H,n,L,_,_,_,hL,_=>⟨L,hL,by simp,by rw [aZ,show hg []=[] from rfl,aS];rfl⟩
 | b::D1,H,n,L,ho,nd,hl,hL,h9=>by
  have o:=ho b (by simp)
  have ht:b.t∉H.map (·.1):=fun z=>by
   rw [a0] at nd
   exact nd.2.2 b.t z b.t (by simp) rfl
  rw [bW,aK] at h9
  obtain⟨L1,h1,h2,h3⟩:=BR hF o.1 ht (by omega) n L hL (by omega)
  have e0:(b.t==zZ "main")=false:=by simpa using o.2
  rw [e0] at h3
  obtain⟨L',h4,h5,h6⟩:=vI hF D1 (H++[(b.t,wl b.hd)]) (n+b.txt.length) L1 (fun x hx=>ho x (by simp [hx])) (by simpa using nd) (by simp at hl ⊢;omega) h1 (by omega)
  refine⟨L',h4,by rw [bW,aK];omega,?_⟩
  rw [bW]
  have eH:H++hg ((b::D1).map Bo.ent)=H++[(b.t,wl b.hd)]++hg (D1.map Bo.ent):=by simp [hg,Bo.ent]
  rw [eH]
  exact h3.app h6
theorem Bk.wk {bs mZ:Lr}{rows:List Lr}(h:Bk K M Fu bs rows mZ){rest:List Lr}:∀ {ns:List (Lr×Str)},Wk (mZ.length+1) t rest hs ns->∃ VG,Wk (bs.length+1) t (rows++rest) hs VG:=by
 induction h with
 | nil bs=>intro ns h;exact⟨ns,h⟩
 | @row bs mZ w r rest k _ ih =>
  intro ns h
  obtain⟨O,ib⟩:=k.ok
  obtain⟨VG,e⟩:=ih h
  exact⟨_,.row w r false O.e1 O.e2 ib e⟩
 | @VF bs mZ w r rest hw k hb8 _ ih =>
  intro ns h
  obtain⟨O,ib,_⟩:=k.ok (K:=K) (M:=M) (Fu:=Fu) hw
  obtain⟨VG,e⟩:=ih h
  rw [aK] at e
  exact⟨_,.row w r true O.e1 O.e2 ib e⟩
 | @Jv bs mZ rest _ ih =>
  intro ns h
  obtain⟨VG,e⟩:=ih h
  rw [aK] at e ⊢
  exact⟨_,.Jv e⟩
 | @fin bs mZ x rest _ ih =>
  intro ns h
  obtain⟨VG,e⟩:=ih h
  rw [aK]
  exact⟨_,.fin e⟩
theorem BS:∀ (D1:List Bo) (b:Str),(∀ b∈D1,K7 K M Fu F b)->∃ ns,Wk 0 b (D1.flatMap Bo.txt) (D1.map Bo.ent) ns
 | [],b,_=>⟨[],.nil b⟩
 | x::D1,b,ho=>by
  obtain⟨ns,e⟩:=BS D1 x.t fun y hy=>ho y (by simp [hy])
  have o:=ho x (by simp)
  obtain⟨VG,e'⟩:=o.bk.wk (t:=x.t) (rest:=[zZ "end"]::D1.flatMap Bo.txt) (.fin e)
  refine⟨VG,?_⟩
  rw [bW,aa,Bo.txt,bA,aN]
  exact .head b o.hb e'
theorem FU (b:Str){rest:List Lr}{hs:List (Str×Lr)}{ns:List (Lr×Str)}(h:Wk 0 b rest hs ns):∀ ks:List KR,Wk 0 b (ks.map ic++rest) hs ns
 | []=>h
 | k::ks=>.kind b _ (FU b h ks)
structure Ry (M:List (Str×Str)) (Fu:List (Str×Nat)) (H:List (Str×PyData)):Prop where
 nd:(H.map (·.1)).Nodup
 m:∀ k m,(k,m)∈M->kA k m∈H.map (·.1)/\k.length<=8/\m.length<=8
 f:∀ f n,(f,n)∈Fu->PyData.strOk f=true/\f≠zZ "main"/\∃ ws ks,(f,wl ws)∈H/\iV [wl ws]=some (wl ks)/\ks.length=n
theorem YQ (k m:Str)(hk:k.length<=8)(hm:m.length<=8):kn [.str k,.str m]=some (.str (kA k m)):=by
 have h1:k.length<=16777216:=by omega
 have h2:m.length<=16777216:=by omega
 have h3:(k++(zZ "."++m)).length<=16777216:=by
  rw [cw,cw,show (zZ ".").length=1 by decide +kernel];omega
 simp? only [kn,ql,ai h1,ai h2,ai h3,Str.append_empty,kA]
theorem N6 {H:List (Str×PyData)}(T:Ry M Fu H){e:PyData}(he:Lt M Fu e){F b bl la:PyData}{ov:Bool}:∃ i row,e=.tuple [.int i,row]/\iW [Rg F (gD H) b bl la ov,row]=some (.bool true):=by
 obtain⟨i,row,rfl,h⟩:=he
 refine⟨i,row,rfl,?_⟩
 rcases h with ⟨k,m,hm,h1,h2,h3⟩ | ⟨f,n,ha,hf,h1,h2,h3,h4⟩
 ·obtain⟨a1,a2,a3⟩:=T.m k m hm
  have e1:("straight"=="straight")=true:=by decide
  have e2:=zf (t:=kA k m) (H:=H)
  rw [bf a1] at e2
  simp? only [iW,kW,h1,iX,e1,h2,h3,YQ k m a2 a3,vF,jU,e2]
 ·obtain⟨a1,a2,ws,ks,a3,a4,a5⟩:=T.f f n hf
  have e1:("func"=="straight")=false:=by decide
  have e2:=zf (t:=f) (H:=H)
  rw [bf (ag.mpr ⟨_,a3,rfl⟩)] at e2
  have e3:=SM T.nd a3
  have e4:(f==zZ "main")=false:=by simpa using a2
  have e5:=QI a1 (fI "main")
  rw [e4] at e5
  have e6:iQ [wl ks]=some (.int (n:Int)):=by rw [oe,ae,a5]
  have e7:iQ [.list ha]=some (.int (n:Int)):=by rw [oe,h4]
  have e8:=SN (n:Int) (n:Int)
  rw [dJ] at e8
  simp? only [iW,kW,h1,iX,e1,h2,h3,e5,vF,mS,e2,e3,a4,e6,e7,e8]
theorem zH {H:List (Str×PyData)}(T:Ry M Fu H){F b bl la:PyData}{ov:Bool}(tx rw w:Od):∀ (L:Lp) (a c:Od),(∀ e∈L,Lt M Fu e) ->
  ∃ a' c',kb (rN (.many [3,5])) kJ L [tx,some (Rg F (gD H) b bl la ov),rw,a,w,c]=some (.nx [tx,some (Rg F (gD H) b bl la ov),rw,a',w,c'])
 | [],a,c,_=>⟨a,c,rfl⟩
 | e::L,a,c,h=>by
  obtain⟨i,row,rfl,e1⟩:=N6 T (h e (by simp)) (F:=F) (b:=b) (bl:=bl) (la:=la) (ov:=ov)
  obtain⟨a',c',e2⟩:=zH T tx rw w L (some (.int i)) (some row) fun x hx=>h x (by simp [hx])
  refine⟨a',c',?_⟩
  rw [gO (ρ1:=[tx,some (Rg F (gD H) b bl la ov),rw,some (.int i),w,some row]) ?_]
  ·exact e2
  ·show kJ [tx,some (Rg F (gD H) b bl la ov),rw,some (.int i),w,some row]=_
   simp? only [kJ,e1,wA]
end
theorem Rz {rows:List Lr}(H:Rt rows hs ns){M:List (Str×Str)}{Fu:List (Str×Nat)}{F:PyData}{HH:List (Str×PyData)}{L:Lp}(T:Ry M Fu HH)(hL:∀ e∈L,Lt M Fu e)(hR:Reads 0 R0 rows (Rg F (gD HH) .none (wl []) (.list L) true)) :
  ∃ E,E.map (·.2)=ns/\jS [.str (tx rows)]=some (prog rows hs E):=by
 obtain⟨E,en,e1⟩:=QX H
 refine⟨E,en,?_⟩
 have h2:=H.len
 have e2:=zp H.gr H.len H.ne
 have e3:=rp pW pX rfl rfl H.gr
 have hz:((rows.map ln).map PyData.str).length<=16777216:=by simp;omega
 have e0:o8 [.dict [(.none,.str (zZ "Reading"))]]=some (.none,R0):=by kernel_rfl
 have Sj:kU [.dict [(.none,.str (zZ "Program"))],.str (tx rows)]=some (.none,prog rows hs E):=e1
 obtain⟨a',b',e4⟩:=BP (.str (tx rows)) (.list (rows.map wl)) none rows 0 R0 _ none none hR fun ws hw=>by have:=(H.gr ws hw).2.2;omega
 have q:ug (rows.map wl)=((rows.map wl).zipIdx 0).map fun x=>.tuple [.int x.2,x.1]:=rfl
 obtain⟨a'',c'',e5⟩:=zH T (F:=F) (b:=.none) (bl:=wl []) (la:=.list L) (ov:=true) (some (.str (tx rows))) (some (.list (rows.map wl))) b' L a' none hL
 simp? only [jS,sM,e0,e2,ai hz,qT,e3,q,e4,vE,wA,SR,NR,e5,Sj,Hl]
def kD:Lr:=["ka","kb","kc","fa","fb","fc","f","g","h","u","v","m","n","p","q","l","x","y","z","k"].map Str.ofString
structure Ph (φ:Str->Str):Prop where
 inj:∀ a∈kD,∀ b∈kD,φ a=φ b->a=b
 nm:∀ w,nY w=true->nY (φ w)=true
 fix:∀ w,w∉kD->φ w=w
 main:∀ w∈kD,φ w≠zZ "main"
 self:∀ w∈kD,φ w≠zZ "self"
 kee:∀ w∈kD,φ w=zZ "keeps"->w=zZ "k"
def turn (φ:Str->Str):Lr->Lr
 | []=>[]
 | w::r=>w::r.map φ
theorem GR.turn {φ:Str->Str}(P:Ph φ){ws:Lr}(g:GR ws):GR (turn φ ws):=by
 obtain⟨g1,g2,g3⟩:=g
 cases ws with
 | nil=>exact absurd rfl g1
 | cons w r =>
  refine⟨by simp [K01.turn],fun v hv=>?_,by simpa [K01.turn] using g3⟩
  rcases ah.mp hv with rfl|hv
  ·exact g2 _ (by simp)
  ·obtain⟨u,hu,rfl⟩:=ag.mp hv
   exact P.nm u (g2 u (by simp [hu]))
theorem K8 {φ:Str->Str}(P:Ph φ)(s:String)(h:decide (zZ s∈kD)=false):φ (zZ s)=zZ s:=P.fix _ (by simpa using h)
section
variable {φ:Str->Str} (P:Ph φ) {K:Lr}{M:List (Str×Str)}{Fu:List (Str×Nat)}
def mM (φ:Str->Str)(M:List (Str×Str)):List (Str×Str):=M.map fun p=>(φ p.1,φ p.2)
def mF (φ:Str->Str)(Fu:List (Str×Nat)):List (Str×Nat):=Fu.map fun p=>(φ p.1,p.2)
theorem Rk.turn {w:String}{r:Lr}(h:Rk K M Fu w r):Rk (K.map φ) (mM φ M) (mF φ Fu) w (r.map φ):=by
 have hK:∀ k,k∈K->φ k∈K.map φ:=fun k hk=>ag.mpr ⟨k,hk,rfl⟩
 cases h with
 | new hk=>exact .new (hK _ hk)
 | fresh hk=>exact .fresh (hK _ hk)
 | row=>exact .row
 | give=>exact .give
 | tell=>exact .tell
 | take=>exact .take
 | own=>exact .own
 | put=>exact .put
 | place=>exact .place
 | check=>exact .check
 | push=>exact .push
 | pull=>exact .pull
 | copy=>exact .copy
 | rest=>exact .rest
 | ask hl=>exact .ask (by rw [ae];exact hl)
 | Z6 hl=>exact .Z6 (by rw [ae];exact hl)
 | vH hl hk hm=>exact .vH (by rw [ae];exact hl) (hK _ hk) (ag.mpr ⟨_,hm,rfl⟩)
 | func hl hf=>exact .func (by rw [ae];exact hl) (ag.mpr ⟨_,hf,by rw [ae]⟩)
include P in
theorem Ck.turn {r:Lr}(h:Ck r):Ck (r.map φ):=by
 cases h with
 | choose=>rw [aa,aZ,K8 P "choose" (zD 0)];exact .choose
 | some=>rw [aa,aa,aZ,K8 P "some" (zD 0)];exact .some
 | same=>rw [aa,aa,aa,aZ,K8 P "same" (zD 0)];exact .same
include P in
theorem Bk.turn {bs mZ:Lr}{rows:List Lr}(h:Bk K M Fu bs rows mZ):Bk (K.map φ) (mM φ M) (mF φ Fu) bs (rows.map (turn φ)) mZ:=by
 induction h with
 | nil bs=>exact .nil bs
 | row k _ ih=>exact .row k.turn ih
 | VF w k l _ ih=>exact .VF w (k.turn P) l ih
 | Jv _ ih=>exact .Jv ih
 | fin _ ih=>exact .fin ih
abbrev Fl:=List (Str×List Str)
inductive OI:Fl->List KR->Fl->Prop
 | nil (F:Fl):OI F [] F
 | cons {F F':Fl}{r:KR}{ks:List KR}{inh:Lr}:r.nm∉F.map (·.1)->(match r.el with|none=>inh=[]|some j=>(j,inh)∈F)->(inh++r.own).Nodup->inh.length+r.own.length<=90->r.own.length<=6->OI (F++[(r.nm,inh++r.own)]) ks F'->OI F (r::ks) F'
structure KV (r:KR):Prop where
 nm:r.nm∈kD
 el:∀ j,r.el=some j->j∈kD
 own:∀ w∈r.own,w∈kD
def KR.map (φ:Str->Str)(r:KR):KR:=⟨φ r.nm,r.el.map φ,r.own.map φ⟩
def JC (φ:Str->Str)(F:Fl):Fl:=F.map fun p=>(φ p.1,p.2.map φ)
include P in
theorem BU {l:Lr}(hV:∀ w∈l,w∈kD)(nd:l.Nodup):(l.map φ).Nodup:=by
 induction l with
 | nil=>exact eX
 | cons a l ih =>
  rw [a9] at nd
  rw [aa,a9]
  refine⟨fun z=>?_,ih (fun w hw=>hV w (by simp [hw])) nd.2⟩
  obtain⟨b,hb,e⟩:=ag.mp z
  have:=P.inj b (hV b (by simp [hb])) a (hV a (by simp)) e
  exact nd.1 (this▸hb)
def FV (F:Fl):Prop:=∀ p∈F,p.1∈kD/\∀ w∈p.2,w∈kD
include P in
theorem OI.map {F F':Fl}{ks:List KR}(h:OI F ks F'):FV F->(∀ r∈ks,KV r)->OI (JC φ F) (ks.map (KR.map φ)) (JC φ F')/\FV F':=by
 induction h with
 | nil F=>intro hF _;exact⟨.nil _,hF⟩
 | @cons F F' r ks inh h1 h2 h3 h4 h5 _ ih =>
  intro hF hk
  have v:=hk r (by simp)
  have hin:∀ w∈inh,w∈kD:=by
   cases q:r.el with
   | none=>rw [q] at h2;have:inh=[]:=h2;subst this;simp
   | some j=>rw [q] at h2;exact(hF _ h2).2
  have hF1:FV (F++[(r.nm,inh++r.own)]):=by
   intro p hp
   rcases au.mp hp with hp|hp
   ·exact hF p hp
   ·simp at hp;subst hp
    exact⟨v.nm,fun w hw=>(au.mp hw).elim (hin w) (v.own w)⟩
  obtain⟨i1,i2⟩:=ih hF1 fun x hx=>hk x (by simp [hx])
  refine⟨?_,i2⟩
  refine .cons (inh:=inh.map φ) (F':=JC φ F') ?_ ?_ ?_ (by simpa [KR.map] using h4) (by simpa [KR.map] using h5) ?_
  ·intro z
   obtain⟨p,hp,e⟩:=ag.mp z
   obtain⟨p0,YR,rfl⟩:=ag.mp hp
   exact h1 (ag.mpr ⟨p0,YR,P.inj _ (hF p0 YR).1 _ v.nm e⟩)
  ·unfold KR.map
   cases q:r.el with
   | none=>rw [q] at h2;have:inh=[]:=h2;subst this;rfl
   | some j=>rw [q] at h2;exact ag.mpr ⟨_,h2,rfl⟩
  ·show (inh.map φ++r.own.map φ).Nodup
   rw [← aI]
   exact BU P (fun w hw=>(au.mp hw).elim (hin w) (v.own w)) h3
  ·have e:JC φ (F++[(r.nm,inh++r.own)])=JC φ F++[((r.map φ).nm,inh.map φ++(r.map φ).own)]:=by simp [JC,KR.map]
   rw [e] at i1
   exact i1
include P in
theorem BV (r:KR):ic (r.map φ)=turn φ (ic r):=by
 unfold ic KR.map turn
 have e1:xh (r.el.map φ)=(xh r.el).map φ:=by
  cases r.el with
  | none=>rfl
  | some j=>show [zZ "of",φ j]=[φ (zZ "of"),φ j];rw [K8 P "of" (zD 0)]
 have e2:vD (r.own.map φ)=(vD r.own).map φ:=by
  cases r.own with
  | nil=>rfl
  | cons a l=>show zZ "fields"::φ a::l.map φ=φ (zZ "fields")::φ a::l.map φ;rw [K8 P "fields" (zD 0)]
 rw [e1,e2];simp
theorem FW {F F':Fl}{ks:List KR}(h:OI F ks F'){la:PyData}:(F.map (·.1)).Nodup->(∀ r∈ks,GR (ic r))->F.length+ks.length<=900->∀ n:Nat,Reads n (Rg (gD (hg F)) (gD []) .none (wl []) la false) (ks.map ic) (Rg (gD (hg F')) (gD []) .none (wl []) la false)/\(F'.map (·.1)).Nodup/\F'.map (·.1)=F.map (·.1)++ks.map (·.nm):=by
 induction h with
 | nil F=>intro nd _ _ n;exact⟨rfl,nd,by simp⟩
 | @cons F F' r ks inh h1 h2 h3 h4 h5 _ ih =>
  intro nd hg' hl n
  have Uy:((F++[(r.nm,inh++r.own)]).map (·.1)).Nodup:=by
   rw [aI,a0]
   refine⟨nd,by simp,fun a ha b hb=>?_⟩
   simp at hb;subst hb
   exact fun z=>h1 (z▸ha)
  obtain⟨i1,i2,i3⟩:=ih Uy (fun x hx=>hg' x (by simp [hx])) (by simp at hl ⊢;omega) (n+1)
  have hi:Z5 (hg F) r.el inh:=by
   cases q:r.el with
   | none=>rw [q] at h2;exact h2
   | some j=>rw [q] at h2;exact ag.mpr ⟨_,h2,rfl⟩
  have e:hg (F++[(r.nm,inh++r.own)])=hg F++[(r.nm,wl (inh++r.own))]:=by simp [hg]
  rw [e] at i1
  refine⟨⟨_,(hg' r (by simp)).2.1,Q7 (la:=la) (by rw [rm];exact nd) (by rw [rm];exact h1) Vu hi h3 (by simp [hg] at hl ⊢;omega) (by omega) n,i1⟩,i2,?_⟩
  rw [i3];simp
end
theorem lx:∀ w∈kD,nY w=true:=by
 have:(kD.all fun w=>nY w)=true:=by decide +kernel
 simpa using this
inductive Hk
 | nX (k m:Str)
 | func (f:Str)
def Hk.nm (φ:Str->Str):Hk->Str
 | .nX k m=>kA (φ k) (φ m)
 | .func f=>φ f
structure Hd where
 key:Hk
 ps:Lr
 ks:Lr
def Hd.ws (φ:Str->Str)(h:Hd):Lr:=match h.key with
 | .nX k m=>zZ "method"::φ k::φ m::h.ps.map φ
 | .func f=>zZ "func"::φ f::(h.ps.map φ++kw (h.ks.map φ))
structure HV (K:Lr) (h:Hd):Prop where
 key:match h.key with | .nX k m=>k∈K/\k∈kD/\m∈kD | .func f=>f∈kD
 ps:∀ w∈h.ps,w∈kD
 ks:∀ w∈h.ks,w∈kD
 nd:(h.ps++h.ks).Nodup
 nk:zZ "k"∉h.ps
 lp:h.ps.length<=2
 lk:h.ks.length<=2
theorem FX (k m:Str):(kA k m).cps.toList=k.cps.toList++46::m.cps.toList:=by
 rw [kA,QH]
 simp [eZ]
theorem RA {k m k' m':Str}(h1:nY k=true)(h2:nY k'=true)(h:kA k m=kA k' m'):k=k'/\m=m':=by
 have e:=bQ (fun z:Str=>z.cps.toList) h
 simp only [FX] at e
 obtain⟨a,b⟩:=Dy _ _ _ _ (vy h1 (by decide)) (vy h2 (by decide)) e
 exact⟨Str.ext' (dH.mp a),Str.ext' (dH.mp b)⟩
theorem Ia {k m f:Str}(h:nY f=true):kA k m≠f:=fun z=>by
 have e:=bQ (fun z:Str=>z.cps.toList) z
 simp only [FX] at e
 exact vy h (c:=46) (by decide) (by rw [← e];simp)
section
variable {φ:Str->Str} (P:Ph φ)
include P in
theorem Ib {w:Str}(h:w∈kD):nY (φ w)=true:=P.nm w (lx w h)
include P in
theorem Hd.turn (h:Hd):K01.turn φ (h.ws id)=h.ws φ:=by
 unfold Hd.ws
 cases h.key with
 | nX k m=>simp [K01.turn]
 | func f =>
  have e:(kw h.ks).map φ=kw (h.ks.map φ):=by
   unfold kw
   cases h.ks with
   | nil=>rfl
   | cons a l=>simp [K8 P "keeps" (zD 0)]
  simp [K01.turn,e]
def zU:Hk->Prop
 | .nX k m=>k∈kD/\m∈kD
 | .func f=>f∈kD
include P in
theorem RB {a b:Hk}(ha:zU a)(hb:zU b)(h:a.nm φ=b.nm φ):a=b:=by
 cases a with
 | nX k m =>
  cases b with
  | nX k' m' =>
   obtain⟨e1,e2⟩:=RA (Ib P ha.1) (Ib P hb.1) h
   rw [P.inj _ ha.1 _ hb.1 e1,P.inj _ ha.2 _ hb.2 e2]
  | func f=>exact absurd h (Ia (Ib P hb))
 | func f =>
  cases b with
  | nX k' m'=>exact absurd h.symm (Ia (Ib P ha))
  | func f'=>rw [P.inj _ ha _ hb h]
theorem HV.zU {K:Lr}{h:Hd}(v:HV K h):zU h.key:=by
 have:=v.key
 cases q:h.key with
 | nX k m=>rw [q] at this;exact this.2
 | func f=>rw [q] at this;exact this
include P in
theorem FY {a:Hk}(ha:zU a):a.nm φ≠zZ "main":=by
 cases a with
 | nX k m=>exact Ia (zD 0)
 | func f=>exact P.main f ha
include P in
theorem HV.hd {K:Lr}{h:Hd}(v:HV K h)(hF:∀ k∈K,φ k∈F.map (·.1)):K5 (gD F) (h.key.nm φ) (h.ws φ)/\Hb (h.key.nm φ) (h.ws φ):=by
 have hp:∀ w∈h.ps.map φ,nY w=true:=fun w hw=>by obtain⟨u,hu,rfl⟩:=ag.mp hw;exact Ib P (v.ps u hu)
 have hk:∀ w∈h.ks.map φ,nY w=true:=fun w hw=>by obtain⟨u,hu,rfl⟩:=ag.mp hw;exact Ib P (v.ks u hu)
 have hV:∀ w∈h.ps++h.ks,w∈kD:=fun w hw=>(au.mp hw).elim (v.ps w) (v.ks w)
 have nd:(h.ps.map φ++h.ks.map φ).Nodup:=by rw [← aI];exact BU P hV v.nd
 have hs:zZ "self"∉h.ps.map φ++h.ks.map φ:=fun z=>by
  rw [← aI] at z
  obtain⟨u,hu,e⟩:=ag.mp z
  exact P.self u (hV u hu) e
 have hn:zZ "keeps"∉h.ps.map φ:=fun z=>by
  obtain⟨u,hu,e⟩:=ag.mp z
  have:=P.kee u (v.ps u hu) e
  exact v.nk (this▸hu)
 have lp:=v.lp
 have lk:=v.lk
 have key:=v.key
 unfold Hd.ws
 cases q:h.key with
 | nX k m =>
  rw [q] at key
  have nk:=Ib P key.2.1
  have nm:=Ib P key.2.2
  exact⟨Rh (hF k key.1) nk nm hp (fun z=>hs (aA _ z)) (a0.mp nd).1 (by rw [ae];omega),⟨.inr (.inl ⟨_,_,_,rfl,rfl,(nv.mp nk).2.1,(nv.mp nm).2.1⟩),DM nk nm⟩⟩
 | func f =>
  rw [q] at key
  exact⟨Rf (Ib P key) (P.main f key) hp hk hn hs nd (by rw [ae];omega) (by rw [ae];omega),⟨.inl ⟨_,rfl⟩,pA (Ib P key)⟩⟩
include P in
theorem HV.kept {K:Lr}{h:Hd}(v:HV K h){f:Str}(q:h.key=.func f):iV [wl (h.ws φ)]=some (wl (h.ks.map φ)):=by
 have hp:∀ w∈h.ps.map φ,PyData.strOk w=true:=fun w hw=>by obtain⟨u,hu,rfl⟩:=ag.mp hw;exact pA (Ib P (v.ps u hu))
 have hk:∀ w∈h.ks.map φ,PyData.strOk w=true:=fun w hw=>by obtain⟨u,hu,rfl⟩:=ag.mp hw;exact pA (Ib P (v.ks u hu))
 have hn:zZ "keeps"∉h.ps.map φ:=fun z=>by
  obtain⟨u,hu,e⟩:=ag.mp z
  have:=P.kee u (v.ps u hu) e
  exact v.nk (this▸hu)
 have lp:=v.lp
 have lk:=v.lk
 unfold Hd.ws
 rw [q]
 exact Jr _ hp hk hn (by simp;omega)
end
structure Tx where
 ks:List KR
 hs:List (Hd×List Lr)
 mr:List Lr
def Tx.K (t:Tx):Lr:=t.ks.map (·.nm)
def Wm (h:Hd):Option (Str×Str):=match h.key with | .nX k m=>some (k,m) | .func _=>none
def VH (h:Hd):Option (Str×Nat):=match h.key with | .nX _ _=>none | .func f=>some (f,h.ks.length)
def Tx.M (t:Tx):List (Str×Str):=t.hs.filterMap fun h=>Wm h.1
def Tx.Fu (t:Tx):List (Str×Nat):=t.hs.filterMap fun h=>VH h.1
def lD (hd:Lr)(rows:List Lr):List Lr:=hd::(rows++[[zZ "end"]])
def Tx.rows (t:Tx):List Lr:=t.ks.map ic++(t.hs.flatMap (fun h=>lD (h.1.ws id) h.2)++lD [zZ "main"] t.mr)
structure VI (t:Tx):Prop where
 kd:∃ F',OI [] t.ks F'
 kv:∀ r∈t.ks,KV r
 kg:∀ r∈t.ks,GR (ic r)
 hv:∀ h∈t.hs,HV t.K h.1
 nd:(t.hs.map (·.1.key)).Nodup
 bk:∀ h∈t.hs,Bk t.K t.M t.Fu [] h.2 []
 mb:Bk t.K t.M t.Fu [] t.mr []
 gr:∀ h∈t.hs,∀ ws∈h.2,GR ws
 mg:∀ ws∈t.mr,GR ws
 len:t.rows.length<=700
section
variable {φ:Str->Str} (P:Ph φ) {t:Tx} (T:VI t)
def oh (φ:Str->Str)(h:Hd×List Lr):Bo:=⟨h.1.key.nm φ,h.1.ws φ,h.2.map (turn φ)⟩
def xW (φ:Str->Str)(t:Tx):Bo:=⟨zZ "main",[zZ "main"],t.mr.map (turn φ)⟩
include P in
theorem K9 (t:Tx):t.rows.map (turn φ)=(t.ks.map (KR.map φ)).map ic++(t.hs.map (oh φ)++[xW φ t]).flatMap Bo.txt:=by
 have e0:∀ h r,(lD h r).map (turn φ)=lD (turn φ h) (r.map (turn φ)):=fun h r=>by simp [lD];rfl
 have e1:∀ l:List KR,(l.map ic).map (turn φ)=(l.map (KR.map φ)).map ic:=fun l=>by
  rw [cH,cH]
  exact List.map_congr_left fun r _=>(BV P r).symm
 have e2:∀ l:List (Hd×List Lr),(l.flatMap fun h=>lD (h.1.ws id) h.2).map (turn φ)=(l.map (oh φ)).flatMap Bo.txt:=fun l=>by
  induction l with
  | nil=>rfl
  | cons h l ih=>rw [bW,aI,ih,e0,aa,bW,Hd.turn P];rfl
 rw [Tx.rows,aI,aI,e1,e2,e0,dX,show [xW φ t].flatMap Bo.txt=(xW φ t).txt by simp]
 rfl
include P in
theorem GR.YS {r:KR}(g:GR (ic r)):GR (ic (r.map φ)):=by rw [BV P];exact g.turn P
theorem JD:GR [zZ "main"]:=⟨by simp,by intro w hw;simp at hw;subst hw;decide +kernel,by simp⟩
theorem DT:GR [zZ "end"]:=⟨by simp,HW,by simp⟩
include P T in
theorem RC:((t.hs.map (oh φ)++[xW φ t]).map (·.t)).Nodup:=by
 have e:(t.hs.map (oh φ)++[xW φ t]).map (·.t)=(t.hs.map (·.1.key)).map (Hk.nm φ)++[zZ "main"]:=by simp [oh,xW,cN]
 have hV:∀ a∈t.hs.map (·.1.key),zU a:=fun a ha=>by obtain⟨h,hh,rfl⟩:=ag.mp ha;exact(T.hv h hh).zU
 rw [e,a0]
 refine⟨?_,by simp,fun a ha b hb=>?_⟩
 ·have key:∀ l:List Hk,(∀ a∈l,zU a)->l.Nodup->(l.map (Hk.nm φ)).Nodup:=fun l=>by
   induction l with
   | nil=>intro _ _;exact eX
   | cons a l ih =>
    intro h1 h2
    rw [a9] at h2
    rw [aa,a9]
    refine⟨fun z=>?_,ih (fun w hw=>h1 w (by simp [hw])) h2.2⟩
    obtain⟨b,hb,e⟩:=ag.mp z
    have:=RB P (h1 b (by simp [hb])) (h1 a (by simp)) e
    exact h2.1 (this▸hb)
  exact key _ hV T.nd
 ·simp at hb;subst hb
  obtain⟨a',Z7,rfl⟩:=ag.mp ha
  exact FY P (hV a' Z7)
include P T in
theorem N7:∃ p,jS [.str (tx (t.rows.map (turn φ)))]=some p/\jZ [p,wl ((t.rows.map (turn φ)).map ln)]=some (.bool true):=by
 obtain⟨F',hK⟩:=T.kd
 obtain⟨hK',_⟩:=hK.map P (by intro p hp;simp at hp) T.kv
 have len:=T.len
 have lt:(t.rows.map (turn φ)).length<=700:=by rw [ae];exact len
 have tr:=K9 P t
 have lk:((t.ks.map (KR.map φ)).map ic++(t.hs.map (oh φ)++[xW φ t]).flatMap Bo.txt).length<=700:=by rw [← tr];exact lt
 rw [aK,ae,ae] at lk
 have kg':∀ r∈t.ks.map (KR.map φ),GR (ic r):=fun r hr=>by obtain⟨r0,h0,rfl⟩:=ag.mp hr;exact(T.kg r0 h0).YS P
 obtain⟨R1,nd1,ek⟩:=FW hK' (la:=.list []) (by simp [JC]) kg' (by simp [JC];omega) 0
 have hFk:∀ k∈t.K,φ k∈(hg (JC φ F')).map (·.1):=fun k hk=>by
  rw [rm,ek]
  obtain⟨r,hr,rfl⟩:=ag.mp hk
  refine aq _ ?_
  exact ag.mpr ⟨r.map φ,ag.mpr ⟨r,hr,rfl⟩,rfl⟩
 have hF:∀ k∈t.K.map φ,k∈(hg (JC φ F')).map (·.1):=fun k hk=>by obtain⟨k0,h0,rfl⟩:=ag.mp hk;exact hFk k0 h0
 have bo:∀ h∈t.hs,K7 (t.K.map φ) (mM φ t.M) (mF φ t.Fu) (hg (JC φ F')) (oh φ h):=fun h hh=>by
  obtain⟨o1,o2⟩:=(T.hv h hh).hd P hFk
  refine⟨o1,fun ws hw=>?_,(T.bk h hh).turn P,o2,⟨?_,o1.nm,o1.len⟩⟩
  ·obtain⟨w0,h0,rfl⟩:=ag.mp hw
   exact(T.gr h hh w0 h0).turn P
  ·obtain⟨w0,r,e,_⟩:=o1.hd
   show h.1.ws φ≠[]
   rw [e];simp
 have bm:K7 (t.K.map φ) (mM φ t.M) (mF φ t.Fu) (hg (JC φ F')) (xW φ t):=by
  refine⟨Ri _,fun ws hw=>?_,T.mb.turn P,⟨.inr (.inr ⟨rfl,rfl⟩),fI _⟩,JD⟩
  obtain⟨w0,h0,rfl⟩:=ag.mp hw
  exact(T.mg w0 h0).turn P
 have ba:∀ b∈t.hs.map (oh φ)++[xW φ t],K7 (t.K.map φ) (mM φ t.M) (mF φ t.Fu) (hg (JC φ F')) b:=fun b hb=>by
  rcases au.mp hb with hb|hb
  ·obtain⟨h,hh,rfl⟩:=ag.mp hb;exact bo h hh
  ·simp at hb;subst hb;exact bm
 have nd:=RC P T
 have ndk:((t.hs.map (oh φ)).map (·.t)).Nodup:=by rw [aI,a0] at nd;exact nd.1
 rw [dX,aK] at lk
 have SU:([xW φ t].flatMap Bo.txt)=(xW φ t).txt:=by simp
 rw [SU] at lk
 have lb:(t.hs.map (oh φ)).length<=((t.hs.map (oh φ)).flatMap Bo.txt).length:=by
  generalize t.hs.map (oh φ)=l
  induction l with
  | nil=>simp
  | cons a l ih =>
   rw [bW,aK,ar];have:1<=a.txt.length:=by simp [Bo.txt]
   omega
 rw [ae] at lb
 obtain⟨L1,l1,l2,R2⟩:=vI hF (t.hs.map (oh φ)) [] (0+((t.ks.map (KR.map φ)).map ic).length) [] (fun b hb=>by
  refine⟨ba b (aA _ hb),?_⟩
  obtain⟨h,hh,rfl⟩:=ag.mp hb
  exact FY P (T.hv h hh).zU) (by simpa using ndk) (by rw [cV,ae];omega) (by simp) (by simp only [cV];omega)
 obtain⟨L2,l3,l4,R3⟩:=BR hF bm (H:=[]++hg ((t.hs.map (oh φ)).map Bo.ent)) (by
  rw [bu,rm]
  intro z
  rw [aI,a0] at nd
  refine nd.2.2 (zZ "main") ?_ (zZ "main") (by simp [xW]) rfl
  simpa [Bo.ent,cN,xW] using z) (by rw [bu,hg,ae,ae,ae];omega) (0+((t.ks.map (KR.map φ)).map ic).length+((t.hs.map (oh φ)).flatMap Bo.txt).length) L1 l1 (by simp only [cV] at l2;omega)
 have R:Reads 0 R0 (t.rows.map (turn φ)) (Rg (gD (hg (JC φ F'))) (gD (hg ((t.hs.map (oh φ)++[xW φ t]).map Bo.ent))) .none (wl []) (.list L2) true):=by
  rw [tr,dX,SU]
  refine R1.app (R2.app ?_)
  have e1:((xW φ t).t==zZ "main")=true:=by simp [xW]
  rw [e1] at R3
  have e2:hg ((t.hs.map (oh φ)++[xW φ t]).map Bo.ent)=[]++hg ((t.hs.map (oh φ)).map Bo.ent)++[((xW φ t).t,wl (xW φ t).hd)]:=by simp [hg,Bo.ent]
  rw [e2]
  exact R3
 obtain⟨ns,w1⟩:=BS (t.hs.map (oh φ)++[xW φ t]) ⟨#[]⟩ ba
 have w2:=FU ⟨#[]⟩ w1 (t.ks.map (KR.map φ))
 rw [← tr] at w2
 have JE:((t.hs.map (oh φ)++[xW φ t]).map Bo.ent).map (·.1)=(t.hs.map (oh φ)++[xW φ t]).map (·.t):=by rw [cH];rfl
 have H:Rt (t.rows.map (turn φ)) ((t.hs.map (oh φ)++[xW φ t]).map Bo.ent) ns:=by
  refine⟨w2,?_,by rw [JE];exact nd,?_,by omega,by rw [tr];simp [Bo.txt]⟩
  ·intro ws hw
   rw [tr] at hw
   rcases au.mp hw with hw|hw
   ·obtain⟨r,hr,rfl⟩:=ag.mp hw
    exact kg' r hr
   ·obtain⟨b,hb,hw⟩:=List.mem_flatMap.mp hw
    have o:=ba b hb
    rcases ah.mp hw with rfl|hw
    ·exact o.gh
    ·rcases au.mp hw with hw|hw
     ·exact o.gr ws hw
     ·simp at hw;subst hw;exact DT
  ·intro w hw
   rw [JE] at hw
   obtain⟨b,hb,rfl⟩:=ag.mp hw
   exact(ba b hb).hd.tok
 have Td:Ry (mM φ t.M) (mF φ t.Fu) (hg ((t.hs.map (oh φ)++[xW φ t]).map Bo.ent)):=by
  refine⟨by rw [rm,JE];exact nd,fun k m hm=>?_,fun f n hf=>?_⟩
  ·obtain⟨p,hp,e⟩:=ag.mp hm
   injection e with e1 e2
   subst e1;subst e2
   obtain⟨h,hh,e⟩:=bp.mp hp
   have v:=(T.hv h hh).zU
   unfold Wm at e
   cases q:h.1.key with
   | func f=>rw [q] at e;cases e
   | nX k m =>
    rw [q] at e v
    injection e with e
    subst e
    refine⟨?_,(nv.mp (Ib P v.1)).2.1,(nv.mp (Ib P v.2)).2.1⟩
    rw [rm,JE]
    refine ag.mpr ⟨oh φ h,aA _ (ag.mpr ⟨h,hh,rfl⟩),?_⟩
    show h.1.key.nm φ=_
    rw [q];rfl
  ·obtain⟨p,hp,e⟩:=ag.mp hf
   injection e with e1 e2
   subst e1;subst e2
   obtain⟨h,hh,e⟩:=bp.mp hp
   have v:=(T.hv h hh).zU
   unfold VH at e
   cases q:h.1.key with
   | nX k m=>rw [q] at e;cases e
   | func f =>
    rw [q] at e v
    injection e with e
    subst e
    refine⟨pA (Ib P v),P.main f v,h.1.ws φ,h.1.ks.map φ,?_,(T.hv h hh).kept P q,by simp⟩
    refine ag.mpr ⟨Bo.ent (oh φ h),ag.mpr ⟨_,aA _ (ag.mpr ⟨h,hh,rfl⟩),rfl⟩,?_⟩
    show (h.1.key.nm φ,_)=_
    rw [q];rfl
 obtain⟨E,en,er⟩:=Rz H Td l3 R
 exact⟨_,er,NQ H en⟩
end
theorem abG (g:PyData->PyData->PyData->Od)(fa fb fc:fu->Od)(ρ:fu):d3 g fa fb fc ρ=(fa ρ).bind fun x=>(fb ρ).bind fun y=>(fc ρ).bind fun z=>g x y z:=rfl
def sG (tab:List (Str×Str)):List (Str×PyData):=tab.map fun p=>(p.1,.str p.2)
def qb (tab:List (Str×Str))(w:Str):Str:=(tab.lookup w).getD w
theorem xi (w:Str):∀ tab:List (Str×Str),ku (.str w) ((sG tab).map fun p=>(.str p.1,p.2))=(tab.lookup w).map .str
 | []=>rfl
 | (k,v)::tab=>by
  show ku (.str w) ((.str k,.str v)::(sG tab).map fun p=>(.str p.1,p.2))=_
  rw [ku,a6]
  by_cases h:k=w
  ·subst h
   rw [ai (by show (decide (k=k))=true;simp)]
   simp
  ·have h':(w==k)=false:=by rw [aW];exact fun z=>h z.symm
   rw [ao (by show ¬ (decide (k=w))=true;simpa using h),xi w tab,h']
theorem YT (tab:List (Str×Str))(w:Str):so (gD (sG tab)) (.str w) (.str w)=some (.str (qb tab w)):=by
 show (if hW _=true then none else (sg (.str w)).bind fun _=>some ((ku (.str w) ((sG tab).map fun p=>(.str p.1,p.2))).getD (.str w)))=_
 rw [ao (by rw [vB];simp),xi]
 show some _=_
 unfold qb
 cases tab.lookup w<;>rfl
theorem BW (T:fu->Option Bool)(C:fu->Od)(hT:T=fun _=>some true)(hC:C=d3 so (fh 1) (fh 0) (fh 0))(tab:List (Str×Str)):∀ ws:Lr,iE T C [some (gD (sG tab))] (ws.map .str)=some ((ws.map (qb tab)).map .str)
 | []=>rfl
 | w::ws=>by
  have ih:=BW T C hT hC tab ws
  have e:C [some (.str w),some (gD (sG tab))]=some (.str (qb tab w)):=by
   rw [hC];simp? only [abG,YT]
  have e0:T [some (.str w),some (gD (sG tab))]=some true:=by rw [hT]
  rw [aa,iE,e0]
  simp? only [e,ih]
theorem YU (a:α)(l:List α):oE (a::l) none (some 1)=[a]:=by
 have:=NG (a::l) 1 (by simp)
 simpa using this
theorem YV (a:α)(l:List α):oE (a::l) (some 1) none=l:=by
 have:=sY (a::l) 1 (by simp)
 simpa using this
theorem GR.join {ws:Lr}(g:GR ws):jX (.str (zZ " ")) [wl ws]=some (.str (ln ws)):=by
 rw [qq]
 refine NC 32 ws (B:=8) (fun w hw=>(nv.mp (g.2.1 w hw)).2.1) ?_
 have:=g.2.2
 omega
theorem BX (T:fu->Option Bool)(C:fu->Od)(hT:T=fun _=>some true)(hC:C=d3 so (fh 1) (fh 0) (fh 0))(P:Ph (qb tab)){ws:Lr}(g:GR ws)(i j:Nat)(cp:Str)(hw:(ρ[j]?).join=some (wl ws))(hd:(ρ[i]?).join=some (gD (sG tab))) :
  (Gd (rO jX (zA " ") (zQ (d2 f6 (gX (fh j) iK (ig (zI 1))) (iL (lL (gX (fh j) (ig (zI 1)) iK)) [(i,cp)] T C))))) ρ=some (.str (ln (turn (qb tab) ws))):=by
 cases ws with
 | nil=>exact absurd rfl g.1
 | cons w r =>
  have hl:=g.2.2
  rw [ar] at hl
  have a:=kK [w] (r.map (qb tab)) (by simp;omega)
  have jn:=(g.turn P).join
  have z:(r.map PyData.str).length<=sizeLine:=by rw [sizeLine_eq,ae];omega
  have cm:=BW T C hT hC tab r
  have e:d2 f6 (gX (fh j) iK (ig (zI 1))) (iL (lL (gX (fh j) (ig (zI 1)) iK)) [(i,cp)] T C) ρ=some (wl (turn (qb tab) (w::r))):=by
   simp only [qo,Dv,sX,hw,Dx,Dw,vv,az,wl,aa,K0,YU,YV,HL,Nu,ai z,qT,hd,aZ,cm,bN]
   exact a
  rw [Jj,KY]
  simp only [vv,fY,pw,e,az,jn,HQ,cE]
theorem FZ (P:Ph (qb tab)){ws:Lr}(g:GR ws)(a b c d k w:Od){acc:Lr}(hl:acc.length<=900) :
  n8 [a,b,c,d,some (gD (sG tab)),k,some (wl acc),some (.str (ln ws)),w]=some (.nx [a,b,c,d,some (gD (sG tab)),k,some (wl (acc++[ln (turn (qb tab) ws)])),some (.str (ln ws)),some (wl ws)]):=by
 refine fX (gF (d:=wl ws) ?_) ?_
 ·have:=g.split
  simp? only [qq]
  exact this
 ·have e:=BX rG rH rfl rfl P g 4 8 "_law_names_here" (ρ:=[a,b,c,d,some (gD (sG tab)),k,some (wl acc),some (.str (ln ws)),some (wl ws)]) rfl rfl
  have:=rJ (ρ:=[a,b,c,d,some (gD (sG tab)),k,some (wl acc),some (.str (ln ws)),some (wl ws)]) (i:=6) (acc:=acc.map .str) rfl (by rw [ae];omega) e
  rw [lU]
  exact this
theorem vJ {tab:List (Str×Str)}(P:Ph (qb tab))(a b c d k:Od):∀ (rows:List Lr) (acc:Lr) (l w:Od),(∀ ws∈rows,GR ws)->acc.length+rows.length<=900 ->
  ∃ l' w',kb (rN (.one 7)) n8 ((rows.map ln).map .str) [a,b,c,d,some (gD (sG tab)),k,some (wl acc),l,w]=some (.nx [a,b,c,d,some (gD (sG tab)),k,some (wl (acc++(rows.map (turn (qb tab))).map ln)),l',w'])
 | [],acc,l,w,_,_=>⟨l,w,by simp;rfl⟩
 | ws::rows,acc,l,w,h,hl=>by
  obtain⟨l',w',e⟩:=vJ P a b c d k rows (acc++[ln (turn (qb tab) ws)]) (some (.str (ln ws))) (some (wl ws)) (fun x hx=>h x (by simp [hx])) (by simp at hl ⊢;omega)
  refine⟨l',w',?_⟩
  rw [aN] at e
  rw [aa,aa,gO (ρ1:=[a,b,c,d,some (gD (sG tab)),k,some (wl (acc++[ln (turn (qb tab) ws)])),some (.str (ln ws)),some (wl ws)]) ?_]
  ·exact e
  ·exact FZ P (h ws (by simp)) a b c d k w (by simp at hl;omega)
theorem Ic (P:Ph (qb tab)){ws:Lr}(g:GR ws)(a b c d k s w:Od){acc:Lr}(hl:acc.length<=900) :
  pf [a,b,c,some (gD (sG tab)),d,k,s,some (wl acc),some (.str (ln ws)),w]=some (.nx [a,b,c,some (gD (sG tab)),d,k,s,some (wl (acc++[ln (turn (qb tab) ws)])),some (.str (ln ws)),some (wl ws)]):=by
 refine fX (gF (d:=wl ws) ?_) ?_
 ·have:=g.split
  simp? only [qq]
  exact this
 ·have e:=BX sO sP rfl rfl P g 3 9 "_law_names_here" (ρ:=[a,b,c,some (gD (sG tab)),d,k,s,some (wl acc),some (.str (ln ws)),some (wl ws)]) rfl rfl
  have:=rJ (ρ:=[a,b,c,some (gD (sG tab)),d,k,s,some (wl acc),some (.str (ln ws)),some (wl ws)]) (i:=7) (acc:=acc.map .str) rfl (by rw [ae];omega) e
  rw [lU]
  exact this
theorem xj {tab:List (Str×Str)}(P:Ph (qb tab))(a b c d k s:Od):∀ (rows:List Lr) (acc:Lr) (l w:Od),(∀ ws∈rows,GR ws)->acc.length+rows.length<=900 ->
  ∃ l' w',kb (rN (.one 8)) pf ((rows.map ln).map .str) [a,b,c,some (gD (sG tab)),d,k,s,some (wl acc),l,w]=some (.nx [a,b,c,some (gD (sG tab)),d,k,s,some (wl (acc++(rows.map (turn (qb tab))).map ln)),l',w'])
 | [],acc,l,w,_,_=>⟨l,w,by simp;rfl⟩
 | ws::rows,acc,l,w,h,hl=>by
  obtain⟨l',w',e⟩:=xj P a b c d k s rows (acc++[ln (turn (qb tab) ws)]) (some (.str (ln ws))) (some (wl ws)) (fun x hx=>h x (by simp [hx])) (by simp at hl ⊢;omega)
  refine⟨l',w',?_⟩
  rw [aN] at e
  rw [aa,aa,gO (ρ1:=[a,b,c,some (gD (sG tab)),d,k,s,some (wl (acc++[ln (turn (qb tab) ws)])),some (.str (ln ws)),some (wl ws)]) ?_]
  ·exact e
  ·exact Ic P (h ws (by simp)) a b c d k s w (by simp at hl;omega)
def SV (tab:List (Str×Str)):Bool :=
 decide ((kD.map (qb tab)).Nodup)&&(tab.all fun p=>nY p.2&&decide (p.1∈kD))&&(kD.all fun w=>decide (qb tab w≠zZ "main")&&decide (qb tab w≠zZ "self")&&(decide (qb tab w≠zZ "keeps")||decide (w=zZ "k")))
theorem La {l:Lr}{f:Str->Str}(h:(l.map f).Nodup):∀ a∈l,∀ b∈l,f a=f b->a=b:=by
 induction l with
 | nil=>intro a ha;simp at ha
 | cons x l ih =>
  rw [aa,a9] at h
  intro a ha b hb e
  rcases ah.mp ha with ea|Z7
  ·rcases ah.mp hb with eb|Gf
   ·rw [ea,eb]
   ·exact absurd (ag.mpr ⟨b,Gf,by rw [← e,ea]⟩) h.1
  ·rcases ah.mp hb with eb|Gf
   ·exact absurd (ag.mpr ⟨a,Z7,by rw [e,eb]⟩) h.1
   ·exact ih h.2 a Z7 b Gf e
theorem zV {w v:Str}:∀ {tab:List (Str×Str)},tab.lookup w=some v->(w,v)∈tab
 | [],h=>by simp at h
 | (k,u)::tab,h=>by
  rw [a6] at h
  cases q:w==k with
  | true=>rw [q] at h;injection h with h;subst h;rw [eq_of_beq q];simp
  | false=>rw [q] at h;exact af _ (zV h)
theorem F0 (h:SV tab=true):Ph (qb tab):=by
 unfold SV at h
 rw [aX,aX,bc,aL,aL] at h
 obtain⟨⟨h1,h2⟩,h3⟩:=h
 have lk:∀ w,qb tab w=w∨∃ v,(w,v)∈tab/\qb tab w=v:=fun w=>by
  unfold qb
  cases q:tab.lookup w with
  | none=>exact .inl rfl
  | some v=>exact .inr ⟨v,zV q,rfl⟩
 refine⟨La h1,fun w hw=>?_,fun w hw=>?_,fun w hw=>?_,fun w hw=>?_,fun w hw e=>?_⟩
 ·rcases lk w with e | ⟨v,hv,e⟩
  ·rw [e];exact hw
  ·rw [e];have:=h2 _ hv;rw [aX] at this;exact this.1
 ·rcases lk w with e | ⟨v,hv,e⟩
  ·exact e
  ·have:=h2 _ hv;rw [aX,bc] at this;exact absurd this.2 hw
 ·have:=h3 w hw;simp only [aX,bc] at this;exact this.1.1
 ·have:=h3 w hw;simp only [aX,bc] at this;exact this.1.2
 ·have:=h3 w hw;simp only [aX,eW,bc] at this
  rcases this.2 with z|z
  ·exact absurd e z
  ·exact z
def ma:Lr:=["end","else","if","while","row","of","fields","choose","some","same","new","kind","func","method","rest","copy","abcdefgh","z","ka"].map Str.ofString
def tT (r i:Nat):List (Str×Str):=(zZ "k",zZ "keeps")::(List.range i).map fun k=>(kD.getD k default,ma.getD ((k+r) % 19) default)
def RD (n:Nat)(c:Nat):Str:=⟨((("strands".toList.map (·.toNat)).take n)++[97+c]++(("strands".toList.map (·.toNat)).drop n)).toArray⟩
def tN (n:Nat):List (Str×Str):=(List.range 20).map fun k=>(kD.getD k default,RD n k)
theorem phT:∀ r<19,SV (tT r 19)=true:=by decide +kernel
theorem phN:∀ n<8,SV (tN n)=true:=by decide +kernel
theorem phI:SV []=true:=by decide +kernel
theorem SW {i:Int}(h0:0<=i)(h:i<4294967296):lK i=true:=by
 unfold lK Builtin.Int.intBits
 rw [decide_eq_true_iff]
 split
 ·exact cW _
 ·rename_i q
  have:i.natAbs≠0:=by simpa using q
  rw [Nat.succ_le_iff]
  refine(Nat.log2_lt this).mpr (aG (show i.natAbs<2 ^ 32 by omega) (Nat.pow_le_pow_right (by decide) (by decide)))
theorem RE {i j:Int}(hi:lK i=true)(hj:lK j=true):ue (.int i) (.int j)=some (.int (i*j)):=by
 simp [ue,Ul,dI,hi,hj]
theorem zW {i j:Int}(h:0<j):gW (.int i) (.int j)=some (.int (i % j)):=by simp [gW,dI,h]
theorem RF {i j:Int}(h:0<j)(h':j<1073741824):yh (.int i) (.int j)=some (.int (i / j)):=by simp [yh,dI,h,h']
theorem VJ (i j:Int):f6 (.int i) (.int j)=some (.int (i+j)):=rfl
theorem ZP (c:Int):∃ b,kQ (.int c) (.tuple [.int 0,.int (-1)])=some (.bool b):=by
 refine⟨!([PyData.int 0,.int (-1)].any fun y=>PyData.eqv y (.int c)),?_⟩
 have e:mq (.int c) (.tuple [.int 0,.int (-1)])=some ([PyData.int 0,.int (-1)].any fun y=>PyData.eqv y (.int c)):=by
  rw [mq,ai ⟨by rfl,by rfl,by simp [PyData.depth]⟩]
 rw [mS,e];rfl
theorem Lb {c n k:Int}{dg:Bool}{xs:List Int}(hn:0<=n/\n<=2147483647)(hk:0<=k)(hx:xs.length<=100) :
  ∃ c' n' x,(0<=n'/\n'<=2147483647)/\jm [some (.int c),some (.bool dg),some (.list (xs.map .int)),some (.int n),some (.int k)]=some (.nx [some (.int c'),some (.bool dg),some (.list ((xs++[x]).map .int)),some (.int n'),some (.int k)]):=by
 have m1:=RE (SW hn.1 (by omega)) (show lK 48271=true from SW (by omega) (by omega))
 have m2:=VJ (n*48271) k
 have m3:=zW (i:=n*48271+k) (j:=2147483647) (by omega)
 have Wz:0<=(n*48271+k) % 2147483647/\(n*48271+k) % 2147483647<=2147483647:=by omega
 generalize hN:(n*48271+k) % 2147483647=N at m3 Wz
 have m4:=RE (SW Wz.1 (by omega)) (show lK 69621=true from SW (by omega) (by omega))
 have m5:=zW (i:=N*69621) (j:=99991) (by omega)
 have m6:=RE (i:=N*69621 % 99991) (SW (by omega) (by omega)) (show lK 16807=true from SW (by omega) (by omega))
 have m7:=zW (i:=N*69621 % 99991*16807) (j:=99989) (by omega)
 have m8:=zW (i:=c) (j:=5040) (by omega)
 have m9:=RF (i:=c) (j:=5040) (by omega) (by omega)
 have z:(xs.map PyData.int).length<16777216:=by simp;omega
 obtain⟨b,hb⟩:=ZP c
 have no:∃ c' x,jm [some (.int c),some (.bool dg),some (.list (xs.map .int)),some (.int n),some (.int k)]=some (.nx [some (.int c'),some (.bool dg),some (.list ((xs++[x]).map .int)),some (.int N),some (.int k)]):=by
  cases dg with
  | false =>
   refine⟨c,N*69621 % 99991*16807 % 99989,?_⟩
   simp? only [jm,m1,m2,m3,m4,m5,m6,m7,wA,ai z,aI]
  | true =>
   cases b with
   | false =>
    refine⟨c,N*69621 % 99991*16807 % 99989,?_⟩
    simp? only [jm,m1,m2,m3,m4,m5,m6,m7,wA,hb,ai z,aI]
   | true =>
    refine⟨c / 5040,c % 5040,?_⟩
    simp? only [jm,m1,m2,m3,m8,m9,wA,hb,ai z,aI]
 obtain⟨c',x,e⟩:=no
 exact⟨c',N,x,Wz,e⟩
theorem BY (dg:Bool):∀ (m s:Nat) (c n:Int) (xs:List Int) (k:Od),(0<=n/\n<=2147483647)->xs.length+m<=100 ->
  ∃ (c' n':Od) (ys:List Int) (k':Od),ys.length=xs.length+m/\kb (rN (.one 4)) jm ((List.range' s m).map fun (i:Nat)=>PyData.int (i:Int)) [some (.int c),some (.bool dg),some (.list (xs.map .int)),some (.int n),k]=some (.nx [c',some (.bool dg),some (.list (ys.map .int)),n',k'])
 | 0,s,c,n,xs,k,_,_=>⟨some (.int c),some (.int n),xs,k,rfl,rfl⟩
 | m+1,s,c,n,xs,k,hn,hx=>by
  obtain⟨c1,n1,x,h1,e1⟩:=Lb (c:=c) (n:=n) (k:=(s:Int)) (dg:=dg) (xs:=xs) hn (by omega) (by omega)
  obtain⟨c',n',ys,k',hl,e⟩:=BY dg m (s+1) c1 n1 (xs++[x]) (some (.int s)) h1 (by simp;omega)
  refine⟨c',n',ys,k',by simp at hl;omega,?_⟩
  have Sj:(rN (.one 4) (PyData.int (s:Int)) [some (.int c),some (.bool dg),some (.list (xs.map .int)),some (.int n),k]).bind jm=_:=e1
  rw [cQ,aa,gO Sj,e]
theorem RG (c:Int)(dg:Bool):∃ xs:List Int,xs.length=14/\nj [.int c,.bool dg]=some (.list (xs.map .int)):=by
 have m1:=zW (i:=c) (j:=1000000007) (by omega)
 obtain⟨c',n',ys,k',hl,e⟩:=BY dg 14 0 c (c % 1000000007+1) [] none (by omega) (by simp)
 refine⟨ys,by simpa using hl,?_⟩
 refine abE (ρ0:=[some (.int c),some (.bool dg),none,none,none]) (ρ1:=[some (.int c),some (.bool dg),some (.list []),none,none]) (ρ2:=[some (.int c),some (.bool dg),some (.list []),some (.int (c % 1000000007+1)),none]) (by rw [ie];rfl) ?_ ?_ (tI (xg (n:=14) (by decide) _ _ rfl) e) ?_
 ·simp? only [vv]
 ·simp? only [m1,VJ]
 ·simp? only [vv]
theorem RH (i:Nat)(h:i<20):gR (wl kD) (.int (i:Int))=some (.str (kD.getD i default)):=by
 rw [tH,NO,aC]
 have:kD[i]?=some (kD.getD i default):=by
  rw [cP]
  have h2:i<kD.length:=by rw [show kD.length=20 by decide];exact h
  rw [aE h2];rfl
 rw [this];rfl
theorem RI (i:Nat)(h:i<19):gR (wl ma) (.int (i:Int))=some (.str (ma.getD i default)):=by
 rw [tH,NO,aC]
 have:ma[i]?=some (ma.getD i default):=by
  rw [cP]
  have h2:i<ma.length:=by rw [show ma.length=19 by decide];exact h
  rw [aE h2];rfl
 rw [this];rfl
theorem VL:∀ i<19,decide (kD.getD i default∈zZ "k"::(List.range i).map fun k=>kD.getD k default)=false:=by decide +kernel
theorem RJ (r i:Nat):sG (tT r (i+1))=sG (tT r i)++[(kD.getD i default,.str (ma.getD ((i+r) % 19) default))]:=by
 simp [sG,tT,List.range_succ]
theorem RK (r i:Nat):(sG (tT r i)).map (·.1)=zZ "k"::(List.range i).map fun k=>kD.getD k default:=by simp [sG,tT,cN]
theorem zY {r:Nat}{c:Int}(hr:(r:Int)=c % 19)(a d e f:Od):∀ (n i:Nat) (k:Od),i+n=19 ->
  ∃ k',kb (rN (.one 5)) lI ((List.range' i n).map fun (i:Nat)=>PyData.int (i:Int)) [a,some (.int c),some (wl kD),some (wl ma),some (gD (sG (tT r i))),k,d,e,f]=some (.nx [a,some (.int c),some (wl kD),some (wl ma),some (gD (sG (tT r 19))),k',d,e,f])
 | 0,i,k,h=>by
  have:i=19:=by omega
  subst this;exact⟨k,rfl⟩
 | n+1,i,k,h=>by
  obtain⟨k',e'⟩:=zY hr a d e f n (i+1) (some (.int (i:Int))) (by omega)
  refine⟨k',?_⟩
  rw [cQ,aa,gO (ρ1:=[a,some (.int c),some (wl kD),some (wl ma),some (gD (sG (tT r (i+1)))),some (.int (i:Int)),d,e,f]) ?_]
  ·exact e'
  ·show lI [a,some (.int c),some (wl kD),some (wl ma),some (gD (sG (tT r i))),some (.int (i:Int)),d,e,f]=_
   have m1:=zW (i:=(i:Int)+c) (j:=19) (by omega)
   have m2:((i:Int)+c) % 19=(((i+r) % 19:Nat):Int):=by omega
   rw [m2] at m1
   have g1:=RH i (by omega)
   have g2:=RI ((i+r) % 19) (Nat.mod_lt _ (by decide))
   have nw:=VL i (by omega)
   rw [c9] at nw
   have pt:=DD (t:=kD.getD i default) (d:=.str (ma.getD ((i+r) % 19) default)) (H:=sG (tT r i)) (by rw [RK];exact nw) (by simp [sG,tT];omega)
   rw [RJ]
   simp? only [lI,uh,g1,VJ,m1,g2,pt]
theorem Lc {rows:List Lr}(hg:∀ ws∈rows,GR ws)(hl:rows.length<=800)(c:Int):∃ tab,SV tab=true/\mO [wl (rows.map ln),.int c]=some (wl ((rows.map (turn (qb tab))).map ln)):=by
 have hr:((c % 19).toNat:Int)=c % 19:=cR (by omega)
 have hp:=phT (c % 19).toNat (by omega)
 refine⟨tT (c % 19).toNat 19,hp,?_⟩
 obtain⟨k',e1⟩:=zY hr (some (wl (rows.map ln))) none none none 19 0 none (by omega)
 obtain⟨l',w',e2⟩:=vJ (F0 hp) (some (wl (rows.map ln))) (some (.int c)) (some (wl kD)) (some (wl ma)) k' rows [] none none hg (by simp;omega)
 rw [bu] at e2
 have s1:rf [some (wl (rows.map ln)),some (.int c),none,none,none,none,none,none,none]=some (.rt (wl ((rows.map (turn (qb (tT (c % 19).toNat 19)))).map ln))):=by
  refine fX (ρ1:=[some (wl (rows.map ln)),some (.int c),some (wl kD),none,none,none,none,none,none]) (zK 0) (fX (ρ1:=[some (wl (rows.map ln)),some (.int c),some (wl kD),some (wl (ma.take 13)),none,none,none,none,none]) (zK 0) (fX (ρ1:=[some (wl (rows.map ln)),some (.int c),some (wl kD),some (wl ma),none,none,none,none,none]) (zK 0) (fX (ρ1:=[some (wl (rows.map ln)),some (.int c),some (wl kD),some (wl ma),some (gD (sG (tT (c % 19).toNat 0))),none,none,none,none]) (zK 0) (fX (ρ1:=[some (wl (rows.map ln)),some (.int c),some (wl kD),some (wl ma),some (gD (sG (tT (c % 19).toNat 19))),k',none,none,none]) (vC (xg (n:=19) (by decide) _ _ rfl) e1) (fX (ρ1:=[some (wl (rows.map ln)),some (.int c),some (wl kD),some (wl ma),some (gD (sG (tT (c % 19).toNat 19))),k',some (wl []),none,none]) rfl (fX (vC rfl e2) rfl))))))
 rw [mO,kY,ie]
 show pG (rf [some (wl (rows.map ln)),some (.int c),none,none,none,none,none,none,none])=_
 rw [s1,ji]
theorem Ld:∀ n:Nat,n<8->∀ (a b d e f:Od),∃ s',kb (rN (.one 5)) sN (oq 0 20) [a,b,some (wl kD),some (gD []),some (.int (n:Int)),none,none,d,e,f]=some (.nx [a,b,some (wl kD),some (gD (sG (tN n))),some (.int (n:Int)),some (.int 19),s',d,e,f]):=by
 intro n hn a b d e f
 refine⟨some (.str "t"),?_⟩
 rcases n with _|_|_|_|_|_|_|_|n
 all_goals first|kernel_rfl|omega
theorem map_id (tab:List (Str×Str))(h:tab=[])(rows:List Lr):rows.map (turn (qb tab))=rows:=by
 subst h
 have e:∀ ws:Lr,turn (qb []) ws=ws:=fun ws=>by
  have:qb []=_root_.id:=rfl
  cases ws<;>simp [turn,this]
 rw [show turn (qb [])=_root_.id from funext e,List.map_id]
theorem N8 {rows:List Lr}(hg:∀ ws∈rows,GR ws)(hl:rows.length<=800)(c:Int):∃ tab,SV tab=true/\lW [wl (rows.map ln),.int c]=some (wl ((rows.map (turn (qb tab))).map ln)):=by
 have m1:=RF (i:=c) (j:=8) (by omega) (by omega)
 have m2:=zW (i:=c / 8) (j:=2) (by omega)
 have m3:=zW (i:=c) (j:=8) (by omega)
 have q:=SN (c / 8 % 2) 0
 have A:(fL (gd [3,7] (fH (zC "ka" (zC "kb" (zC "kc" (zC "fa" (zC "fb" (zC "fc" (zC "f" (zC "g" (zC "h" (zC "u" (zC "v" (zC "m" (zC "n" (zC "p" (zC "q" (zC "l" (zC "x" (zC "y" (zC "z" (zC "k" fD)))))))))))))))))))))) 2) [some (wl (rows.map ln)),some (.int c),none,none,none,none,none,none,none,none]=some (.nx [some (wl (rows.map ln)),some (.int c),some (wl kD),none,none,none,none,none,none,none]):=by kernel_rfl
 cases hb:(c / 8 % 2==0) with
 | true =>
  rw [hb] at q
  refine⟨[],phI,?_⟩
  rw [map_id [] rfl]
  have s1:nR [some (wl (rows.map ln)),some (.int c),none,none,none,none,none,none,none,none]=some (.rt (wl (rows.map ln))):=by
   refine fX A (pC (nA ?_ rfl))
   simp? only [m1,m2,q]
  rw [lW,kY,ie]
  show pG (nR [some (wl (rows.map ln)),some (.int c),none,none,none,none,none,none,none,none])=_
  rw [s1,ji]
 | false =>
  rw [hb] at q
  have hn:(c % 8).toNat<8:=by omega
  have hr:((c % 8).toNat:Int)=c % 8:=cR (by omega)
  have hp:=phN (c % 8).toNat hn
  rw [← hr] at m3
  generalize (c % 8).toNat=n at hn hp m3
  refine⟨tN n,hp,?_⟩
  obtain⟨s',e1⟩:=Ld n hn (some (wl (rows.map ln))) (some (.int c)) none none none
  obtain⟨l',w',e2⟩:=xj (F0 hp) (some (wl (rows.map ln))) (some (.int c)) (some (wl kD)) (some (.int (n:Int))) (some (.int 19)) s' rows [] none none hg (by simp;omega)
  rw [bu] at e2
  have s1:nR [some (wl (rows.map ln)),some (.int c),none,none,none,none,none,none,none,none]=some (.rt (wl ((rows.map (turn (qb (tN n)))).map ln))):=by
   refine fX A (fX (kz ?_ rfl) (fX (ρ1:=[some (wl (rows.map ln)),some (.int c),some (wl kD),some (gD []),none,none,none,none,none,none]) rfl (fX (ρ1:=[some (wl (rows.map ln)),some (.int c),some (wl kD),some (gD []),some (.int (n:Int)),none,none,none,none,none]) ?_ (fX (vC (q:=jG (zI 20)) (YJ (j:=20) rfl (VU (n:=20) (by decide))) e1) (fX (ρ1:=[some (wl (rows.map ln)),some (.int c),some (wl kD),some (gD (sG (tN n))),some (.int (n:Int)),some (.int 19),s',some (wl []),none,none]) rfl (fX (vC rfl e2) rfl))))))
   ·simp? only [m1,m2,q]
   ·simp? only [m3]
  rw [lW,kY,ie]
  show pG (nR [some (wl (rows.map ln)),some (.int c),none,none,none,none,none,none,none,none])=_
  rw [s1,ji]
theorem abH (l:List α)(h:l≠[])(x:Int):∃ d∈l,ux l (x % (l.length:Int))=some d:=by
 have hl:0<l.length:=bt.mpr h
 have h1:(((x % (l.length:Int)).toNat:Nat):Int)=x % (l.length:Int):=cR (Int.emod_nonneg _ (by omega))
 have h2:(x % (l.length:Int)).toNat<l.length:=by
  have:=Int.emod_lt_of_pos x (show (0:Int)<(l.length:Int) by omega)
  omega
 have h3:=NO l (x % (l.length:Int)).toNat
 rw [h1,aE h2] at h3
 exact⟨l[(x % (l.length:Int)).toNat],cA h2,h3⟩
theorem JF (l:Lp)(h:l≠[])(x:Int):∃ d∈l,gR (.list l) (.int (x % (l.length:Int)))=some d:=by
 obtain⟨d,h1,h2⟩:=abH l h x
 exact⟨d,h1,h2⟩
theorem z0 (ns:Lr)(h:ns≠[])(x:Int):∃ w∈ns,gR (wl ns) (.int (x % (ns.length:Int)))=some (.str w):=by
 obtain⟨d,h1,h2⟩:=JF (ns.map .str) (by simpa using h) x
 obtain⟨w,hw,rfl⟩:=ag.mp h1
 rw [ae] at h2
 exact⟨w,hw,h2⟩
theorem iY {B C:fu->Od}{x m:Int}(hB:B ρ=some (.int x))(hC:C ρ=some (.int m))(hm:0<m):d2 gW B C ρ=some (.int (x % m)):=by
 rw [qo,hB,hC]
 simp only [az,zW hm]
theorem gf {o:PyData->PyData->Od}{A B:fu->Od}{a b:PyData}(hA:A ρ=some a)(hB:B ρ=some b):d2 o A B ρ=o a b:=by
 rw [qo,hA,hB];rfl
theorem F1 {A B:fu->Od}{a:PyData}{i:Int}(hA:A ρ=some a)(hB:B ρ=some (.int i)):gX A iK (ig B) ρ=Lq a none (some i):=by
 rw [Dv,hA,Dx,Dw,hB];rfl
def BZ (d:PyData):Prop:=∃ xs:List Int,xs.length=14/\d=.list (xs.map .int)
theorem BZ.at (h:BZ d)(i:Nat)(hi:i<14):∃ x:Int,gR d (.int (i:Int))=some (.int x):=by
 obtain⟨xs,hl,rfl⟩:=h
 have:i<xs.length:=by omega
 refine⟨xs[i],?_⟩
 rw [tH,NO,aC,aE this];rfl
theorem lE {A B:fu->Od}{x:Int}(hA:A ρ=some d)(hB:B ρ=some (.int (i:Int)))(hx:gR d (.int (i:Int))=some (.int x)):d2 gR A B ρ=some (.int x):=by
 rw [gf hA hB,hx]
def uP:Option Str->PyData
 | none=>.none
 | some j=>.str j
def xX (r:KR):PyData:=.tuple [.str r.nm,uP r.el,wl r.own]
local macro_rules
| `(zk $k) => `(.list (($k).map xX))
def kN:Lr:=["ka","kb","kc"].map Str.ofString
def qr (a b:String):List Lr:=[[],[zZ a],[zZ a,zZ b]]
theorem z4 (a b:String)(x:Int):∃ own∈qr a b,Lq (wl [zZ a,zZ b]) none (some (x % 3))=some (wl own):=by
 have h:x % 3=0∨x % 3=1∨x % 3=2:=by omega
 rcases h with h|h|h<;>rw [h]
 ·exact⟨[],by simp [qr],by kernel_rfl⟩
 ·exact⟨[zZ a],by simp [qr],by kernel_rfl⟩
 ·exact⟨[zZ a,zZ b],by simp [qr],by kernel_rfl⟩
def VM:List KR:=(qr "f" "u").map fun o=>⟨zZ "ka",none,o⟩
def OJ:List KR:=((qr "g" "f").map fun o=>⟨zZ "kb",none,o⟩)++[⟨zZ "kb",some (zZ "ka"),[]⟩,⟨zZ "kb",some (zZ "ka"),[zZ "g"]⟩]
def Lv:List KR:=((qr "h" "u").map fun o=>⟨zZ "kc",none,o⟩)++[⟨zZ "kc",some (zZ "ka"),[]⟩,⟨zZ "kc",some (zZ "ka"),[zZ "h"]⟩,⟨zZ "kc",some (zZ "kb"),[]⟩,⟨zZ "kc",some (zZ "kb"),[zZ "h"]⟩]
theorem YW (x:Int):Ap (.int x) (.int 0)=some (.bool (decide (0<x))):=rfl
section
variable (hd:BZ d) (acc:Lp) (ha:acc.length<=100)
include ha in
theorem pD {k:Nat}{el:Option Str}{own uK:Lr}{a:Str}{e:Od} (abI:(gX (zX (fH (fx (fH (zC "f" (zC "u" fD))) (fx (fH (zC "g" (zC "f" fD))) (zQ (fH (zC "h" (zC "u" fD))))))) (fh 2)) iK (ig (d2 gW (zX (fh 0) (d2 f6 (zI 5) (fh 2))) (zI 3)))) [some d,none,some (.int (k:Int)),some (uP el),e]=some (wl own))
  (hf:iE iR iS [some (uP el)] (own.map .str)=some (uK.map .str)) (hl:own.length<=10) (hn:gR (wl kN) (.int (k:Int))=some (.str a)) :
  (fy (fL (gd [1] (gX (zX (fH (fx (fH (zC "f" (zC "u" fD))) (fx (fH (zC "g" (zC "f" fD))) (zQ (fH (zC "h" (zC "u" fD))))))) (fh 2)) iK (ig (d2 gW (zX (fh 0) (d2 f6 (zI 5) (fh 2))) (zI 3))))) 4)
  (fy (fL (gd [1] (iL (lL (fh 4)) [(3,"_law_elder")] iR iS)) 4)
  (gz (.sl 1) (gd [1] (jy (fx (zX (fH (zC "ka" (zC "kb" (zC "kc" fD)))) (fh 2)) (fx (fh 3) (zQ (fh 4))))))))) [some d,some (.list acc),some (.int (k:Int)),some (uP el),e]=some (.nx [some d,some (.list (acc++[xX ⟨a,el,uK⟩])),some (.int (k:Int)),some (uP el),some (wl uK)]):=by
 refine fX (ρ1:=[some d,some (.list acc),some (.int (k:Int)),some (uP el),some (wl own)]) (gF abI) (fX (ρ1:=[some d,some (.list acc),some (.int (k:Int)),some (uP el),some (wl uK)]) (gF (oN (ds:=own.map .str) rfl (by rw [ae];omega) hf)) ?_)
 refine rJ (ρ:=[some d,some (.list acc),some (.int (k:Int)),some (uP el),some (wl uK)]) (i:=1) rfl (by omega) ?_
 have e1:d2 gR (fH (zC "ka" (zC "kb" (zC "kc" fD)))) (fh 2) [some d,none,some (.int (k:Int)),some (uP el),some (wl uK)]=some (.str a):=hn
 rw [lX,uO,ui]
 show jy _ [some d,none,some (.int (k:Int)),some (uP el),some (wl uK)]=_
 rw [Ji,fY,e1]
 rfl
include hd in
theorem wG (k:Nat)(a b:String)(hk:k<=8)(hA:∀ e1 e2:Od,(zX (fH (fx (fH (zC "f" (zC "u" fD))) (fx (fH (zC "g" (zC "f" fD))) (zQ (fH (zC "h" (zC "u" fD))))))) (fh 2)) [some d,none,some (.int (k:Int)),e1,e2]=some (wl [zZ a,zZ b])) :
  ∃ own∈qr a b,∀ e1 e2:Od,(gX (zX (fH (fx (fH (zC "f" (zC "u" fD))) (fx (fH (zC "g" (zC "f" fD))) (zQ (fH (zC "h" (zC "u" fD))))))) (fh 2)) iK (ig (d2 gW (zX (fh 0) (d2 f6 (zI 5) (fh 2))) (zI 3)))) [some d,none,some (.int (k:Int)),e1,e2]=some (wl own):=by
 obtain⟨x,hx⟩:=hd.at (5+k) (by omega)
 obtain⟨own,h1,h2⟩:=z4 a b x
 refine⟨own,h1,fun e1 e2=>?_⟩
 rw [F1 (hA e1 e2) (iY (m:=3) (lE (i:=5+k) (A:=fh 0) rfl ?_ hx) rfl (by omega)),h2]
 show some (PyData.int _)=_
 rw [show (5:Int)+(k:Int)=((5+k:Nat):Int) by omega]
theorem sZ (k:Nat)(e o:Od):(fL (gd [1] (dC .none)) 3) [some d,some (.list acc),some (.int (k:Int)),e,o]=some (.nx [some d,some (.list acc),some (.int (k:Int)),some .none,o]):=rfl
include hd ha in
theorem RL (e o:Od):∃ r∈VM,∃ e' o',iT [some d,some (.list acc),some (.int ((0:Nat):Int)),e,o]=some (.nx [some d,some (.list (acc++[xX r])),some (.int ((0:Nat):Int)),e',o']):=by
 obtain⟨own,h1,h2⟩:=wG hd 0 "f" "u" (by omega) (fun _ _=>by kernel_rfl)
 have hf:iE iR iS [some (uP none)] (own.map .str)=some (own.map .str):=by
  simp only [qr,ah,bb,cB] at h1
  rcases h1 with rfl|rfl|rfl<;>kernel_rfl
 have hl:own.length<=10:=by
  simp only [qr,ah,bb,cB] at h1
  rcases h1 with rfl|rfl|rfl<;>simp
 refine⟨⟨zZ "ka",none,own⟩,ag.mpr ⟨own,h1,rfl⟩,_,_,fX (sZ acc 0 e o) (zF (pD acc ha (el:=none) (h2 _ _) hf hl (zK 0)))⟩
include hd ha in
theorem JG (e o:Od):∃ r∈OJ,∃ e' o',iT [some d,some (.list acc),some (.int ((1:Nat):Int)),e,o]=some (.nx [some d,some (.list (acc++[xX r])),some (.int ((1:Nat):Int)),e',o']):=by
 obtain⟨own,h1,h2⟩:=wG hd 1 "g" "f" (by omega) (fun _ _=>by kernel_rfl)
 have hl:own.length<=10:=by
  simp only [qr,ah,bb,cB] at h1
  rcases h1 with rfl|rfl|rfl<;>simp
 obtain⟨x1,Kj⟩:=hd.at 1 (by omega)
 obtain⟨x3,YX⟩:=hd.at 3 (by omega)
 have T:∀ a b:Od,(jJ (fB (d2 Ap (fh 2) (zI 0))) (fB (d2 Ap (d2 gW (zX (fh 0) (fh 2)) (zI 3)) (zI 0)))) [some d,some (.list acc),some (.int ((1:Nat):Int)),a,b]=some (decide (0<x1 % 3)):=fun a b=>by
  have m:=iY (m:=3) (C:=dC (.int 3)) (lE (i:=1) (ρ:=[some d,some (.list acc),some (.int ((1:Nat):Int)),a,b]) (A:=fh 0) (B:=fh 2) rfl rfl Kj) rfl (by omega)
  have g0:Ap (.int ((1:Nat):Int)) (.int 0)=some (.bool true):=by kernel_rfl
  rw [p9,oa,qo,sX,vv]
  simp only [a8,bw,bT,az,g0,xP]
  rw [oa,qo,m,vv]
  simp only [az,YW]
 cases hb:decide (0<x1 % 3) with
 | false =>
  have hf:iE iR iS [some (uP none)] (own.map .str)=some (own.map .str):=by
   simp only [qr,ah,bb,cB] at h1
   rcases h1 with rfl|rfl|rfl<;>kernel_rfl
  exact⟨⟨zZ "kb",none,own⟩,aA _ (ag.mpr ⟨own,h1,rfl⟩),_,_,fX (sZ acc 1 e o) (fX (kz (by rw [T,hb]) rfl) (pD acc ha (el:=none) (h2 _ _) hf hl (zK 0)))⟩
 | true =>
  have E:∀ a b c:Od,(zX (fH (zC "ka" (zC "kb" fD))) (d2 gW (zX (fh 0) (d2 f6 (zI 2) (fh 2))) (fh 2))) [some d,a,some (.int ((1:Nat):Int)),b,c]=some (uP (some (zZ "ka"))):=fun a b c=>by
   have m:=iY (m:=1) (lE (i:=3) (ρ:=[some d,a,some (.int ((1:Nat):Int)),b,c]) (A:=fh 0) (B:=d2 f6 (zI 2) (fh 2)) rfl rfl YX) (show fh 2 [some d,a,some (.int ((1:Nat):Int)),b,c]=some (.int 1) from rfl) (by omega)
   rw [show x3 % 1=0 by omega] at m
   rw [qo,m]
   kernel_rfl
  obtain⟨uK,h3,hf⟩:∃ uK,(⟨zZ "kb",some (zZ "ka"),uK⟩:KR)∈OJ/\iE iR iS [some (uP (some (zZ "ka")))] (own.map .str)=some (uK.map .str):=by
   simp only [qr,ah,bb,cB] at h1
   rcases h1 with rfl|rfl|rfl
   ·exact⟨[],by simp [OJ],by kernel_rfl⟩
   ·exact⟨[zZ "g"],by simp [OJ],by kernel_rfl⟩
   ·exact⟨[zZ "g"],by simp [OJ],by kernel_rfl⟩
  exact⟨_,h3,_,_,fX (sZ acc 1 e o) (fX (ρ1:=[some d,some (.list acc),some (.int ((1:Nat):Int)),some (uP (some (zZ "ka"))),o]) (nA (by rw [T,hb]) (gF (E _ _ _))) (pD acc ha (el:=some (zZ "ka")) (h2 _ _) hf hl (zK 0)))⟩
include hd ha in
theorem RM (e o:Od):∃ r∈Lv,∃ e' o',iT [some d,some (.list acc),some (.int ((2:Nat):Int)),e,o]=some (.nx [some d,some (.list (acc++[xX r])),some (.int ((2:Nat):Int)),e',o']):=by
 obtain⟨own,h1,h2⟩:=wG hd 2 "h" "u" (by omega) (fun _ _=>by kernel_rfl)
 have hl:own.length<=10:=by
  simp only [qr,ah,bb,cB] at h1
  rcases h1 with rfl|rfl|rfl<;>simp
 obtain⟨x1,Kj⟩:=hd.at 2 (by omega)
 obtain⟨x3,YX⟩:=hd.at 4 (by omega)
 have T:∀ a b:Od,(jJ (fB (d2 Ap (fh 2) (zI 0))) (fB (d2 Ap (d2 gW (zX (fh 0) (fh 2)) (zI 3)) (zI 0)))) [some d,some (.list acc),some (.int ((2:Nat):Int)),a,b]=some (decide (0<x1 % 3)):=fun a b=>by
  have m:=iY (m:=3) (C:=dC (.int 3)) (lE (i:=2) (ρ:=[some d,some (.list acc),some (.int ((2:Nat):Int)),a,b]) (A:=fh 0) (B:=fh 2) rfl rfl Kj) rfl (by omega)
  have g0:Ap (.int ((2:Nat):Int)) (.int 0)=some (.bool true):=by kernel_rfl
  rw [p9,oa,qo,sX,vv]
  simp only [a8,bw,bT,az,g0,xP]
  rw [oa,qo,m,vv]
  simp only [az,YW]
 cases hb:decide (0<x1 % 3) with
 | false =>
  have hf:iE iR iS [some (uP none)] (own.map .str)=some (own.map .str):=by
   simp only [qr,ah,bb,cB] at h1
   rcases h1 with rfl|rfl|rfl<;>kernel_rfl
  exact⟨⟨zZ "kc",none,own⟩,aA _ (ag.mpr ⟨own,h1,rfl⟩),_,_,fX (sZ acc 2 e o) (fX (kz (by rw [T,hb]) rfl) (pD acc ha (el:=none) (h2 _ _) hf hl (zK 0)))⟩
 | true =>
  have E:∃ j,(j=zZ "ka"∨j=zZ "kb")/\∀ a b c:Od,(zX (fH (zC "ka" (zC "kb" fD))) (d2 gW (zX (fh 0) (d2 f6 (zI 2) (fh 2))) (fh 2))) [some d,a,some (.int ((2:Nat):Int)),b,c]=some (uP (some j)):=by
   have m:=fun a b c=>iY (m:=2) (lE (i:=4) (ρ:=[some d,a,some (.int ((2:Nat):Int)),b,c]) (A:=fh 0) (B:=d2 f6 (zI 2) (fh 2)) rfl rfl YX) (show fh 2 [some d,a,some (.int ((2:Nat):Int)),b,c]=some (.int 2) from rfl) (by omega)
   have h:x3 % 2=0∨x3 % 2=1:=by omega
   rcases h with h|h<;>rw [h] at m
   ·exact⟨_,.inl rfl,fun a b c=>by rw [qo,m];kernel_rfl⟩
   ·exact⟨_,.inr rfl,fun a b c=>by rw [qo,m];kernel_rfl⟩
  obtain⟨j,hj,E⟩:=E
  obtain⟨uK,h3,hf⟩:∃ uK,(⟨zZ "kc",some j,uK⟩:KR)∈Lv/\iE iR iS [some (uP (some j))] (own.map .str)=some (uK.map .str):=by
   simp only [qr,ah,bb,cB] at h1
   rcases hj with rfl|rfl<;>rcases h1 with rfl|rfl|rfl
   ·exact⟨[],by simp [Lv],by kernel_rfl⟩
   ·exact⟨[zZ "h"],by simp [Lv],by kernel_rfl⟩
   ·exact⟨[zZ "h"],by simp [Lv],by kernel_rfl⟩
   ·exact⟨[],by simp [Lv],by kernel_rfl⟩
   ·exact⟨[zZ "h"],by simp [Lv],by kernel_rfl⟩
   ·exact⟨[zZ "h"],by simp [Lv],by kernel_rfl⟩
  exact⟨_,h3,_,_,fX (sZ acc 2 e o) (fX (ρ1:=[some d,some (.list acc),some (.int ((2:Nat):Int)),some (uP (some j)),o]) (nA (by rw [T,hb]) (gF (E _ _ _))) (pD acc ha (el:=some j) (h2 _ _) hf hl (zK 0)))⟩
end
def z5:Fl->List KR->Option Fl
 | F,[]=>some F
 | F,r::ks=>if decide (r.nm∈F.map (·.1)) then none else match (match r.el with|none=>some []|some j=>F.lookup j) with
  | none=>none
  | some inh=>if decide ((inh++r.own).Nodup)&&decide (inh.length+r.own.length<=90)&&decide (r.own.length<=6) then z5 (F++[(r.nm,inh++r.own)]) ks else none
theorem xk {β:Type}{w:Str}{v:β}:∀ {tab:List (Str×β)},tab.lookup w=some v->(w,v)∈tab
 | [],h=>by simp at h
 | (k,u)::tab,h=>by
  rw [a6] at h
  cases q:w==k with
  | true=>rw [q] at h;injection h with h;subst h;rw [eq_of_beq q];simp
  | false=>rw [q] at h;exact af _ (xk h)
theorem F2:∀ {ks:List KR}{F F':Fl},z5 F ks=some F'->OI F ks F'
 | [],F,F',h=>by injection h with h;subst h;exact .nil F
 | r::ks,F,F',h=>by
  rw [z5] at h
  split at h
  ·cases h
  ·rename_i h1
   split at h
   ·cases h
   ·rename_i inh hi
    split at h
    ·rename_i h2
     simp only [aX,bc] at h2
     refine .cons (inh:=inh) (by simpa using h1) ?_ h2.1.1 h2.1.2 h2.2 (F2 h)
     cases q:r.el with
     | none=>rw [q] at hi;injection hi with hi;exact hi.symm
     | some j=>rw [q] at hi;exact xk hi
    ·cases h
def kvB (r:KR):Bool:=decide (r.nm∈kD)&&(r.el.all fun j=>decide (j∈kD))&&(r.own.all fun w=>decide (w∈kD))&&((ic r).all nY)&&decide ((ic r).length<=12)
theorem SX {r:KR}(h:kvB r=true):KV r/\GR (ic r):=by
 simp only [kvB,aX,bc,aL] at h
 obtain⟨⟨⟨⟨h1,h2⟩,h3⟩,h4⟩,h5⟩:=h
 refine⟨⟨h1,fun j e=>?_,h3⟩,by simp [ic],h4,h5⟩
 rw [e] at h2;simpa using h2
theorem YY:((VM++OJ++Lv).all kvB)=true:=by decide +kernel
theorem kr1:(VM.all fun a=>(z5 [] [a]).isSome)=true:=by decide +kernel
theorem kr2:(VM.all fun a=>OJ.all fun b=>(z5 [] [a,b]).isSome)=true:=by decide +kernel
theorem kr3:(VM.all fun a=>OJ.all fun b=>Lv.all fun c=>(z5 [] [a,b,c]).isSome)=true:=by decide +kernel
structure A0 (ks:List KR):Prop where
 rd:∃ F',OI [] ks F'
 kv:∀ r∈ks,KV r
 gr:∀ r∈ks,GR (ic r)
 ne:ks≠[]
 len:ks.length<=3
 nm:∀ r∈ks,r.nm∈kN
theorem YZ:((VM++OJ++Lv).all fun r=>decide (r.nm∈kN))=true:=by decide +kernel
theorem N9 {ks:List KR}(h1:∀ r∈ks,r∈VM++OJ++Lv)(h2:(z5 [] ks).isSome=true)(h3:ks≠[])(h4:ks.length<=3):A0 ks:=by
 have a:=aL.mp YY
 have b:=aL.mp YZ
 obtain⟨F',hF⟩:=Option.isSome_iff_exists.mp h2
 exact⟨⟨F',F2 hF⟩,fun r hr=>(SX (a r (h1 r hr))).1,fun r hr=>(SX (a r (h1 r hr))).2,h3,h4,fun r hr=>by simpa using b r (h1 r hr)⟩
theorem kZ {tg:Tg}{g:fu->Option gI}{ρ' ρ1:fu}{o:Option gI}(hb:rN tg d ρ=some ρ')(h:g ρ'=some (.nx ρ1))(e:kb (rN tg) g ds ρ1=o):kb (rN tg) g (d::ds) ρ=o:=by
 rw [gO (ρ1:=ρ1) (by rw [hb];exact h),e]
theorem Oa (hd:BZ d):∃ ks,A0 ks/\nP [d]=some (zk ks):=by
 obtain⟨x0,Y0⟩:=hd.at 0 (by omega)
 have m:∀ a b c e:Od,d2 f6 (zI 1) (d2 gW (zX (fh 0) (zI 0)) (zI 3)) [some d,a,b,c,e]=some (.int (1+x0 % 3)):=fun a b c e=>by
  rw [gf (o:=f6) (A:=dC (.int 1)) rfl (iY (m:=3) (lE (i:=0) (A:=fh 0) (B:=dC (.int 0)) rfl rfl Y0) rfl (by omega))];rfl
 obtain⟨r0,h0,e0,o0,s0⟩:=RL hd [] (by simp) none none
 have fin:∀ (n:Nat) (ks:List KR) (k e o:Od),n<=3->(1+x0 % 3=(n:Int))->kb (rN (.one 2)) iT ((List.range' 0 n).map fun (i:Nat)=>PyData.int (i:Int)) [some d,some (.list []),none,none,none]=some (.nx [some d,some (zk ks),k,e,o])->nP [d]=some (zk ks):=fun n ks k e o hn en ef=>by
  have g:sv [some d,none,none,none,none]=some (.rt (zk ks)):=by
   refine fX (ρ1:=[some d,some (.list []),none,none,none]) rfl (fX (tI (xg (n:=n) (by omega) _ _ ?_) ef) rfl)
   rw [← en]
   exact m _ _ _ _
  rw [nP,kY,ie]
  show pG (sv [some d,none,none,none,none])=_
  rw [g,ji]
 have h:x0 % 3=0∨x0 % 3=1∨x0 % 3=2:=by omega
 rcases h with h|h|h
 ·refine⟨[r0],N9 ?_ (aL.mp kr1 r0 h0) (by simp) (by simp),fin 1 [r0] (some (.int 0)) e0 o0 (by omega) (by omega) ?_⟩
  ·intro r hr;simp at hr;subst hr;simp [h0]
  ·show kb (rN (.one 2)) iT [.int ((0:Nat):Int)] _=_
   exact kZ rfl s0 rfl
 ·obtain⟨r1,h1,e1,o1,s1⟩:=JG hd ([]++[xX r0]) (by simp) e0 o0
  refine⟨[r0,r1],N9 ?_ (aL.mp (aL.mp kr2 r0 h0) r1 h1) (by simp) (by simp),fin 2 [r0,r1] (some (.int 1)) e1 o1 (by omega) (by omega) ?_⟩
  ·intro r hr;simp at hr;rcases hr with rfl|rfl<;>simp [h0,h1]
  ·show kb (rN (.one 2)) iT [.int ((0:Nat):Int),.int ((1:Nat):Int)] _=_
   exact kZ rfl s0 (kZ rfl s1 rfl)
 ·obtain⟨r1,h1,e1,o1,s1⟩:=JG hd ([]++[xX r0]) (by simp) e0 o0
  obtain⟨r2,h2,e2,o2,s2⟩:=RM hd ([]++[xX r0]++[xX r1]) (by simp) e1 o1
  refine⟨[r0,r1,r2],N9 ?_ (aL.mp (aL.mp (aL.mp kr3 r0 h0) r1 h1) r2 h2) (by simp) (by simp),fin 3 [r0,r1,r2] (some (.int 2)) e2 o2 (by omega) (by omega) ?_⟩
  ·intro r hr;simp at hr;rcases hr with rfl|rfl|rfl<;>simp [h0,h1,h2]
  ·show kb (rN (.one 2)) iT [.int ((0:Nat):Int),.int ((1:Nat):Int),.int ((2:Nat):Int)] _=_
   exact kZ rfl s0 (kZ rfl s1 (kZ rfl s2 rfl))
def mN:Lr:=["m","n"].map Str.ofString
def fN:Lr:=["fa","fb","fc"].map Str.ofString
def fQ (h:Hd):PyData:=.tuple [.str (h.key.nm _root_.id),wl h.ps,wl h.ks]
local macro_rules
| `(zh $k) => `(.list (($k).map fQ))
def Ob:Hk->Prop
 | .nX k m=>k∈kN/\m∈mN
 | .func f=>f∈fN
structure HI (K:Lr) (n:Nat) (hs:List Hd):Prop where
 len:hs.length=n
 hv:∀ h∈hs,HV K h
 kk:∀ h∈hs,Ob h.key
 nd:(hs.map (·.key)).Nodup
 fn:∀ h∈hs,∀ f,h.key=.func f->f∈fN.take n
theorem Le:∀ w∈kN,w∈kD:=by
 have:(kN.all fun w=>decide (w∈kD))=true:=by decide +kernel
 simpa using this
theorem Oc:∀ w∈mN,w∈kD:=by
 have:(mN.all fun w=>decide (w∈kD))=true:=by decide +kernel
 simpa using this
theorem RN:∀ w∈fN,w∈kD:=by
 have:(fN.all fun w=>decide (w∈kD))=true:=by decide +kernel
 simpa using this
def pkB (ps ks:Lr):Bool:=(ps.all fun w=>decide (w∈kD))&&(ks.all fun w=>decide (w∈kD))&&decide ((ps++ks).Nodup)&&decide (zZ "k"∉ps)&&decide (ps.length<=2)&&decide (ks.length<=2)
theorem VN:((qr "p" "q").all fun ps=>(qr "k" "l").all fun ks=>pkB ps ks)=true:=by decide +kernel
theorem SY {K:Lr}{key:Hk}{ps ks:Lr}(hk:match key with | .nX k m=>k∈K/\k∈kD/\m∈kD | .func f=>f∈kD)(hp:ps∈qr "p" "q")(Wn:ks∈qr "k" "l"):HV K ⟨key,ps,ks⟩:=by
 have h:=aL.mp (aL.mp VN ps hp) ks Wn
 simp only [pkB,aX,bc,aL] at h
 obtain⟨⟨⟨⟨⟨h1,h2⟩,h3⟩,h4⟩,h5⟩,h6⟩:=h
 exact⟨hk,h1,h2,h3,h4,h5,h6⟩
theorem VO (r:KR):gR (xX r) (.int 0)=some (.str r.nm):=by rw [xX,Vn,v8]
theorem OK (h:Hd):gR (fQ h) (.int 0)=some (.str (h.key.nm _root_.id)):=by rw [fQ,Vn,v8]
theorem hd1 (h:Hd):gR (fQ h) (.int 1)=some (wl h.ps):=by rw [fQ,Vn,Ge]
theorem hd2 (h:Hd):gR (fQ h) (.int 2)=some (wl h.ks):=by rw [fQ,Vn,at2]
theorem z6 (T:fu->Option Bool)(C:fu->Od)(hT:T=fun _=>some true)(hC:C=d2 gR (fh 0) (zI 0)):∀ hs:List Hd,iE T C [] (hs.map fQ)=some ((hs.map fun h=>h.key.nm _root_.id).map .str)
 | []=>rfl
 | h::hs=>by
  have ih:=z6 T C hT hC hs
  have e:C [some (fQ h)]=some (.str (h.key.nm _root_.id)):=by rw [hC];simp? only [OK]
  have e0:T [some (fQ h)]=some true:=by rw [hT]
  rw [aa,iE,e0]
  simp? only [e,ih]
theorem Ie {key:Hk}(h:Ob key):PyData.strOk (key.nm _root_.id)=true:=by
 cases key with
 | nX k m=>exact DM (lx _ (Le _ h.1)) (lx _ (Oc _ h.2))
 | func f=>exact pA (lx _ (RN _ h))
theorem wH {ks:List KR}(hk:A0 ks)(x:Int):∃ r∈ks,gR (zk ks) (.int (x % (ks.length:Int)))=some (xX r):=by
 obtain⟨d,h1,h2⟩:=JF (ks.map xX) (by simpa using hk.ne) x
 obtain⟨r,hr,rfl⟩:=ag.mp h1
 rw [ae] at h2
 exact⟨r,hr,h2⟩
theorem wI (ks:List KR):iQ [.list (ks.map xX)]=some (.int (ks.length:Int)):=by rw [oe,ae]
theorem eq2 (x:Int):∃ b,jC (.int (x % 2)) (.int 0)=some (.bool b):=⟨_,SN _ _⟩
section
variable (hd:BZ d) {ks:List KR} (hk:A0 ks)
include hd hk in
theorem Ig (hn:n<3){hs:List Hd}(H:HI (ks.map (·.nm)) n hs)(p m:Od):∃ h,HI (ks.map (·.nm)) (n+1) (hs++[h])/\∃ p' m',oW [some d,some (zk ks),some (zh hs),some (.int (n:Int)),p,m]=some (.nx [some d,some (zk ks),some (.list ((hs++[h]).map fQ)),some (.int (n:Int)),p',m']):=by
 obtain⟨x1,Kj⟩:=hd.at (1+n) (by omega)
 obtain⟨x4,hx4⟩:=hd.at (4+n) (by omega)
 obtain⟨x7,Z8⟩:=hd.at (7+n) (by omega)
 obtain⟨x10,abJ⟩:=hd.at (10+n) (by omega)
 have Y1:∀ (i:Int) (j:Nat) (_:i+(n:Int)=(j:Int)) (x:Int) (a b c e:Od),gR d (.int (j:Int))=some (.int x)->d2 gR (fh 0) (d2 f6 (zI i) (fh 3)) [some d,a,b,some (.int (n:Int)),c,e]=some (.int x):=fun i j SD x a b c e h=>by
  refine lE (i:=j) (A:=fh 0) rfl ?_ h
  show some (PyData.int _)=_
  rw [SD]
 obtain⟨ps,hps,eps⟩:=z4 "p" "q" x1
 obtain⟨kq,hkq,ekq⟩:=z4 "k" "l" x7
 obtain⟨r,hr,er⟩:=wH hk x4
 obtain⟨mm,Y2,em⟩:=z0 mN (by simp [mN]) x7
 have lk:=hk.ne
 have Y3:(0:Int)<(ks.length:Int):=by have:=bt.mpr lk;omega
 have rn:=hk.nm r hr
 have nr:=lx _ (Le _ rn)
 have nm:=lx _ (Oc _ Y2)
 have l1:=(nv.mp nr).2.1
 have l2:=(nv.mp nm).2.1
 have ld:(zZ ".").length=1:=by decide +kernel
 have a1:=DH r.nm (zZ ".") (by omega)
 have a2:=DH (r.nm++zZ ".") mm (by rw [cw];omega)
 have a3:r.nm++zZ "."++mm=kA r.nm mm:=by rw [kA,Str.append_assoc]
 rw [a3] at a2
 have S1:(gd [2] (gX (fH (zC "p" (zC "q" fD))) iK (ig (d2 gW (zX (fh 0) (d2 f6 (zI 1) (fh 3))) (zI 3))))) [some d,some (zk ks),some (zh hs),some (.int (n:Int)),p,m]=some (wl ps):=by
  rw [lX,uO,ui]
  show gX _ _ _ [some d,some (zk ks),none,some (.int (n:Int)),p,m]=_
  exact(F1 (a:=wl [zZ "p",zZ "q"]) rfl (iY (m:=3) (C:=dC (.int 3)) (Y1 1 (1+n) (by omega) x1 _ _ _ _ Kj) rfl (by omega))).trans eps
 have S2:(gd [2] (d2 f6 (d2 f6 (zX (zX (fh 1) (d2 gW (zX (fh 0) (d2 f6 (zI 4) (fh 3))) (zN (fh 1)))) (zI 0)) (zA ".")) (zX (fH (zC "m" (zC "n" fD))) (d2 gW (zX (fh 0) (d2 f6 (zI 7) (fh 3))) (zI 2))))) [some d,some (zk ks),some (zh hs),some (.int (n:Int)),some (wl ps),m]=some (.str (kA r.nm mm)):=by
  rw [lX,uO,ui]
  show d2 _ _ _ [some d,some (zk ks),none,some (.int (n:Int)),some (wl ps),m]=_
  have q1:i6 iQ (zQ (fh 1)) [some d,some (zk ks),none,some (.int (n:Int)),some (wl ps),m]=some (.int (ks.length:Int)):=wI ks
  have q2:=gf (o:=gR) (A:=fh 1) (a:=.list (ks.map xX)) (ρ:=[some d,some (zk ks),none,some (.int (n:Int)),some (wl ps),m]) rfl (iY (Y1 4 (4+n) (by omega) x4 (some (zk ks)) none (some (wl ps)) m hx4) q1 Y3)
  rw [er] at q2
  have q3:=gf (o:=gR) (B:=dC (.int 0)) q2 rfl
  rw [VO] at q3
  have q4:=gf (o:=f6) (B:=dC (.str ".")) q3 rfl
  rw [a1] at q4
  have q5:=gf (o:=gR) (A:=fH (zC "m" (zC "n" fD))) (a:=wl mN) (ρ:=[some d,some (zk ks),none,some (.int (n:Int)),some (wl ps),m]) rfl (iY (m:=2) (C:=dC (.int 2)) (Y1 7 (7+n) (by omega) x7 (some (zk ks)) none (some (wl ps)) m Z8) rfl (by omega))
  have em':gR (wl mN) (.int (x7 % 2))=some (.str mm):=em
  rw [em'] at q5
  rw [gf q4 q5,a2]
 obtain⟨b,hb⟩:=eq2 x10
 have c1:=z6 mB mD rfl rfl hs
 have ZT:=H.len
 have c2:iL (lL (fh 2)) [] mB mD [some d,some (zk ks),some (zh hs),some (.int (n:Int)),some (wl ps),some (.str (kA r.nm mm))]=some (wl (hs.map fun h=>h.key.nm _root_.id)):=oN (ds:=hs.map fQ) rfl (by rw [ae];omega) c1
 have c3:=vz (x:=kA r.nm mm) (ys:=hs.map fun h=>h.key.nm _root_.id) (DM nr nm) (fun w hw=>by obtain⟨h,hh,rfl⟩:=ag.mp hw;exact Ie (H.kk h hh))
 have hkn:r.nm∈ks.map (·.nm):=ag.mpr ⟨r,hr,rfl⟩
 have T:(jJ (fB (d2 jC (d2 gW (zX (fh 0) (d2 f6 (zI 10) (fh 3))) (zI 2)) (zI 0))) (fB (d2 kQ (fh 5) (iL (lL (fh 2)) [] mB mD)))) [some d,some (zk ks),some (zh hs),some (.int (n:Int)),some (wl ps),some (.str (kA r.nm mm))]=some (b&&!decide (kA r.nm mm∈hs.map fun h=>h.key.nm _root_.id)):=by
  have q1:=gf (o:=jC) (B:=dC (.int 0)) (iY (m:=2) (C:=dC (.int 2)) (Y1 10 (10+n) (by omega) x10 (some (zk ks)) (some (zh hs)) (some (wl ps)) (some (.str (kA r.nm mm))) abJ) rfl (by omega)) rfl
  rw [hb] at q1
  have q2:=gf (o:=kQ) (A:=fh 5) (a:=.str (kA r.nm mm)) rfl c2
  rw [mS,c3] at q2
  rw [p9,oa,q1]
  cases b with
  | false=>rfl
  | true=>simp only [az,xP,oa,q2,bN,Bool.true_and]
 cases hB:(b&&!decide (kA r.nm mm∈hs.map fun h=>h.key.nm _root_.id)) with
 | true =>
  refine⟨⟨.nX r.nm mm,ps,[]⟩,?_,some (wl ps),some (.str (kA r.nm mm)),?_⟩
  ·simp only [aX,Bool.not_eq_true',c9] at hB
   refine⟨by simp [ZT],fun h hh=>?_,fun h hh=>?_,?_,fun h hh f e=>?_⟩
   ·rcases au.mp hh with hh|hh
    ·exact H.hv h hh
    ·simp at hh;subst hh
     exact SY ⟨hkn,Le _ rn,Oc _ Y2⟩ hps (by simp [qr])
   ·rcases au.mp hh with hh|hh
    ·exact H.kk h hh
    ·simp at hh;subst hh;exact⟨rn,Y2⟩
   ·rw [aI,a0]
    refine⟨H.nd,by simp,fun a ha b' Gf e=>?_⟩
    simp at Gf
    subst Gf;subst e
    obtain⟨h,hh,e⟩:=ag.mp ha
    exact hB.2 (ag.mpr ⟨h,hh,by rw [e];rfl⟩)
   ·rcases au.mp hh with hh|hh
    ·have:=H.fn h hh f e
     rw [eC];exact aA _ this
    ·simp at hh;subst hh;cases e
  ·refine fX (gF S1) (fX (gF S2) (nA (T.trans (by rw [hB])) ?_))
   rw [aI]
   exact rJ (ρ:=[some d,some (zk ks),some (zh hs),some (.int (n:Int)),some (wl ps),some (.str (kA r.nm mm))]) (i:=2) rfl (by rw [ae];omega) rfl
 | false =>
  have hf:fN[n]?=some (fN.getD n default):=by
   rw [cP]
   have h2:n<fN.length:=by rw [show fN.length=3 by decide];exact hn
   rw [aE h2];rfl
  have Wo:fN.getD n default∈fN:=cu hf
  refine⟨⟨.func (fN.getD n default),ps,kq⟩,?_,some (wl ps),some (.str (kA r.nm mm)),?_⟩
  ·refine⟨by simp [ZT],fun h hh=>?_,fun h hh=>?_,?_,fun h hh f e=>?_⟩
   ·rcases au.mp hh with hh|hh
    ·exact H.hv h hh
    ·simp at hh;subst hh
     exact SY (RN _ Wo) hps hkq
   ·rcases au.mp hh with hh|hh
    ·exact H.kk h hh
    ·simp at hh;subst hh;exact Wo
   ·rw [aI,a0]
    refine⟨H.nd,by simp,fun a ha b' Gf e=>?_⟩
    simp at Gf
    subst Gf;subst e
    obtain⟨h,hh,e⟩:=ag.mp ha
    have h5:=H.fn h hh _ e
    have key:∀ n<3,decide (fN.getD n default∈fN.take n)=false:=by decide +kernel
    have k0:=key n hn
    rw [c9] at k0
    exact k0 h5
   ·rcases au.mp hh with hh|hh
    ·have:=H.fn h hh f e
     rw [eC];exact aA _ this
    ·simp at hh;subst hh
     injection e with e
     subst e
     rw [eC,hf];simp
  ·refine fX (gF S1) (fX (gF S2) (kz (T.trans (by rw [hB])) ?_))
   rw [aI]
   refine rJ (ρ:=[some d,some (zk ks),some (zh hs),some (.int (n:Int)),some (wl ps),some (.str (kA r.nm mm))]) (i:=2) rfl (by rw [ae];omega) ?_
   rw [lX,uO,ui]
   show jy _ [some d,some (zk ks),none,some (.int (n:Int)),some (wl ps),some (.str (kA r.nm mm))]=_
   have q1:d2 gR (fH (zC "fa" (zC "fb" (zC "fc" fD)))) (fh 3) [some d,some (zk ks),none,some (.int (n:Int)),some (wl ps),some (.str (kA r.nm mm))]=some (.str (fN.getD n default)):=by
    rw [gf (a:=wl fN) (b:=.int (n:Int)) rfl rfl,tH,NO,aC,hf];rfl
   have q2:=F1 (A:=fH (zC "k" (zC "l" fD))) (a:=wl [zZ "k",zZ "l"]) rfl (iY (m:=3) (C:=dC (.int 3)) (Y1 7 (7+n) (by omega) x7 (some (zk ks)) none (some (wl ps)) (some (.str (kA r.nm mm))) Z8) rfl (by omega))
   rw [ekq] at q2
   have q2':(gX (fH (zC "k" (zC "l" fD))) iK (ig (d2 gW (zX (fh 0) (d2 f6 (zI 7) (fh 3))) (zI 3)))) [some d,some (zk ks),none,some (.int (n:Int)),some (wl ps),some (.str (kA r.nm mm))]=some (wl kq):=q2
   rw [Ji,fY,q1,fY,fY,q2']
   rfl
include hd hk in
theorem z7:∀ (m n:Nat) (hs:List Hd) (k p q:Od),n+m<=3->HI (ks.map (·.nm)) n hs->∃ lZ,HI (ks.map (·.nm)) (n+m) lZ/\∃ k' p' q',kb (rN (.one 3)) oW ((List.range' n m).map fun (i:Nat)=>PyData.int (i:Int)) [some d,some (zk ks),some (zh hs),k,p,q]=some (.nx [some d,some (zk ks),some (zh lZ),k',p',q'])
 | 0,n,hs,k,p,q,_,H=>⟨hs,H,k,p,q,rfl⟩
 | m+1,n,hs,k,p,q,hn,H=>by
  obtain⟨h,H1,p1,q1,s1⟩:=Ig hd hk (n:=n) (by omega) H p q
  obtain⟨lZ,H2,k',p',q',e⟩:=z7 m (n+1) (hs++[h]) (some (.int (n:Int))) p1 q1 (by omega) H1
  refine⟨lZ,by rwa [show n+(m+1)=n+1+m by omega],k',p',q',?_⟩
  rw [cQ,aa]
  exact kZ rfl s1 e
include hd hk in
theorem DU:∃ hs n,n<=3/\HI (ks.map (·.nm)) n hs/\pR [d,.list (ks.map xX)]=some (zh hs):=by
 obtain⟨x0,Y0⟩:=hd.at 0 (by omega)
 have hr:((x0 % 4).toNat:Int)=x0 % 4:=cR (by omega)
 have hn:(x0 % 4).toNat<=3:=by omega
 obtain⟨hs,H,k',p',q',e⟩:=z7 hd hk (x0 % 4).toNat 0 [] none none none (by omega) ⟨rfl,by simp,by simp,by simp,by simp⟩
 refine⟨hs,_,hn,by rwa [fe] at H,?_⟩
 have g:sx [some d,some (zk ks),none,none,none,none]=some (.rt (zh hs)):=by
  refine fX (ρ1:=[some d,some (zk ks),some (.list []),none,none,none]) rfl (fX (tI (xg (n:=(x0 % 4).toNat) (by omega) _ _ ?_) e) rfl)
  rw [hr]
  exact iY (m:=4) (lE (i:=0) (A:=fh 0) (B:=dC (.int 0)) rfl rfl Y0) rfl (by omega)
 rw [pR,kY,ie]
 show pG (sx [some d,some (zk ks),none,none,none,none])=_
 rw [g,ji]
end
def Y4:Hk->Bool
 | .nX _ _=>true
 | .func _=>false
theorem RO {key:Hk}(h:Ob key):mq (.str (zZ ".")) (.str (key.nm _root_.id))=some (Y4 key):=by
 cases key with
 | nX k m =>
  obtain⟨h1,h2⟩:=h
  simp only [kN,mN,aa,aZ,ah,bb,cB] at h1 h2
  rcases h1 with rfl|rfl|rfl<;>rcases h2 with rfl|rfl<;>kernel_rfl
 | func f =>
  have h1:f∈fN:=h
  simp only [fN,aa,aZ,ah,bb,cB] at h1
  rcases h1 with rfl|rfl|rfl<;>kernel_rfl
theorem F3 {k m:Str}(h:Ob (.nX k m)):lQ (.str (kA k m)) [.str (zZ ".")]=some (.tuple [.str k,.str (zZ "."),.str m]):=by
 obtain⟨h1,h2⟩:=h
 simp only [kN,mN,aa,aZ,ah,bb,cB] at h1 h2
 rcases h1 with rfl|rfl|rfl<;>rcases h2 with rfl|rfl<;>kernel_rfl
def xY (h:Hd):Bool:=Y4 h.key
local macro_rules
| `(zm $k) => `((($k).filter fun h => !xY h).map fQ)
theorem DV {h:Hd}(k:Ob h.key):mq (.str (zZ ".")) (.str (h.key.nm _root_.id))=some (xY h):=RO k
theorem VP {T:fu->Option Bool}{C:fu->Od}{p:Hd->Bool}{f:Hd->PyData}:∀ {hs:List Hd},(∀ h∈hs,T [some (fQ h)]=some (p h)/\C [some (fQ h)]=some (f h))->iE T C [] (hs.map fQ)=some ((hs.filter p).map f)
 | [],_=>rfl
 | h::hs,q=>by
  have ih:=VP (T:=T) (C:=C) (p:=p) (f:=f) fun x (hx:x∈hs)=>q x (by simp [hx])
  obtain⟨q1,q2⟩:=q h (by simp)
  rw [aa,iE,q1]
  cases e:p h with
  | false=>rw [List.filter_cons_of_neg (by simp [e])];simpa using ih
  | true=>rw [List.filter_cons_of_pos e,aa];simp [q2,ih]
theorem B4 {ws:Lr}(h:∀ w∈ws,PyData.strOk w=true):PyData.canLayAll0 (ws.map .str)=true:=by rw [dR];simpa using h
theorem Ih {w:Str}(h:w∈kD):PyData.strOk w=true:=pA (lx w h)
theorem vK {K:Lr}:∀ {hs:List Hd},(∀ h∈hs,HV K h/\Ob h.key)->PyData.canLayAll0 (hs.map fQ)=true/\PyData.depthAll (hs.map fQ)<=2
 | [],_=>by simp [PyData.canLayAll0,PyData.depthAll]
 | h::hs,q=>by
  obtain⟨i1,i2⟩:=vK fun x (hx:x∈hs)=>q x (by simp [hx])
  obtain⟨v,k⟩:=q h (by simp)
  have a:=Ie k
  have b:=B4 fun w hw=>Ih (v.ps w hw)
  have c:=B4 fun w hw=>Ih (v.ks w hw)
  constructor
  ·rw [aa,PyData.canLayAll0,i1]
   simp [fQ,PyData.canLay0,PyData.canLayAll0,a,b,c]
  ·rw [aa,PyData.depthAll]
   have:PyData.depth (fQ h)<=2:=by simp [fQ,PyData.depth,PyData.depthAll,uI]
   omega
theorem F4 {K:Lr}{hs:List Hd}(q:∀ h∈hs,HV K h/\Ob h.key):oB (zh hs) (.list [])=some (.bool (!hs.isEmpty)):=by
 obtain⟨i1,i2⟩:=vK q
 have s1:SeqAt.shaped (zh hs)=true:=by
  have:PyData.depth (zh hs)<=64:=by rw [PyData.depth];omega
  simp [SeqAt.shaped,PyData.canLay0,i1,this]
 have s2:SeqAt.shaped (.list [])=true:=by rfl
 rw [oB,ai ⟨s1,s2⟩]
 cases hs with
 | nil=>rfl
 | cons a l=>rw [aa,PyData.eqv,PyData.eqvAll];rfl
theorem Oe {ws:Lr}(q:∀ w∈ws,PyData.strOk w=true):oB (wl ws) (.list [])=some (.bool (!ws.isEmpty)):=by
 have:=DB (bs:=[]) q (by simp)
 cases ws with
 | nil=>exact this
 | cons a l=>rw [aH (by simp)] at this;exact this
theorem j0 {w:String}{r:Lr}(h:nY (zZ w)=true)(hr:∀ v∈r,nY v=true)(hl:r.length<=11):GR (zZ w::r):=by
 refine⟨by simp,fun v hv=>?_,by simp;omega⟩
 rcases ah.mp hv with rfl|hv
 ·exact h
 ·exact hr v hv
def OL:List String:=["new","copy","take","put","ask","do","new","func","tell","if","while","end","else","push","pull","row","give","take","put","ask","do","end","rest","copy","straight","check","fresh","own","place"]
theorem RP (hd:BZ d):∃ w∈OL,lS [d,.bool true]=some (.str (zZ w)):=by
 obtain⟨x,hx⟩:=hd.at 0 (by omega)
 obtain⟨w,hw,e⟩:=z0 (OL.map Str.ofString) (by simp [OL]) x
 obtain⟨s,hs,rfl⟩:=ag.mp hw
 refine⟨s,hs,?_⟩
 have g:uD [some d,some (.bool true),none]=some (.rt (.str (zZ s))):=by
  refine fX (ρ1:=[some d,some (.bool true),some (wl ((OL.take 14).map Str.ofString))]) (zK 0) (fX (ρ1:=[some d,some (.bool true),some (wl ((OL.take 24).map Str.ofString))]) (zK 0) (fX (ρ1:=[some d,some (.bool true),some (wl (OL.map Str.ofString))]) (zK 0) ?_))
  rw [p7,gf (o:=gR) (A:=fh 2) (a:=wl (OL.map Str.ofString)) rfl (iY (lE (i:=0) (A:=fh 0) (B:=dC (.int 0)) rfl rfl hx) (show i6 iQ (zQ (fh 2)) [some d,some (.bool true),some (wl (OL.map Str.ofString))]=some (.int ((OL.map Str.ofString).length:Int)) by rw [za];kernel_rfl) (by decide)),e]
  rfl
 rw [lS,kY,ie]
 show pG (uD [some d,some (.bool true),none])=_
 rw [g,ji]
section
variable (hd:BZ d) {ns:Lr} (hn:ns≠[]) (hN:∀ w∈ns,nY w=true)
include hd hn in
theorem B5 (i a b:Nat)(hi:i<14)(ii:Int)(hii:ii=(i:Int)):∃ w∈ns,∀ ρ:fu,(ρ[a]?).join=some d->(ρ[b]?).join=some (wl ns)->(gd [] (zX (fh b) (d2 gW (zX (fh a) (zI ii)) (zN (fh b))))) ρ=some (.str w):=by
 subst hii
 obtain⟨x,hx⟩:=hd.at i hi
 obtain⟨w,hw,e⟩:=z0 ns hn x
 refine⟨w,hw,fun ρ h1 h2=>?_⟩
 have hl:0<ns.length:=bt.mpr hn
 have l1:i6 iQ (zQ (fh b)) ρ=some (.int (ns.length:Int)):=by
  rw [za,fY,sX,h2,pw]
  simp only [az,oe,ae]
 rw [lX,ui,gf (A:=fh b) h2 (iY (lE (i:=i) (A:=fh a) (B:=dC (.int (i:Int))) h1 rfl hx) l1 (by omega)),e]
include hd hn in
theorem S0 (k:Nat)(hk:k<2):∃ w∈ns,lF [some (.int (k:Int)),some (wl ns),some d]=some (.str w):=by
 obtain⟨x,hx⟩:=hd.at (8+k) (by omega)
 obtain⟨w,hw,e⟩:=z0 ns hn (x+5*(k:Int))
 refine⟨w,hw,?_⟩
 have hl:0<ns.length:=bt.mpr hn
 have l1:i6 iQ (zQ (fh 1)) [some (.int (k:Int)),some (wl ns),some d]=some (.int (ns.length:Int)):=by
  show iQ [wl ns]=_
  rw [oe,ae]
 have q1:=lE (i:=8+k) (A:=fh 2) (B:=d2 f6 (zI 8) (fh 0)) (ρ:=[some (.int (k:Int)),some (wl ns),some d]) rfl (by show some (PyData.int _)=_;rw [show (8:Int)+(k:Int)=((8+k:Nat):Int) by omega]) hx
 have q2:d2 ue (zI 5) (fh 0) [some (.int (k:Int)),some (wl ns),some d]=some (.int (5*(k:Int))):=RE (SW (by omega) (by omega)) (SW (by omega) (by omega))
 have q3:d2 f6 (zX (fh 2) (d2 f6 (zI 8) (fh 0))) (d2 ue (zI 5) (fh 0)) [some (.int (k:Int)),some (wl ns),some d]=some (.int (x+5*(k:Int))):=gf q1 q2
 rw [lF,gf (A:=fh 1) (a:=wl ns) rfl (iY q3 l1 (by omega)),e]
include hd hn in
theorem B6 (n:Nat)(h:n<=2):∃ ha:Lr,ha.length=n/\(∀ w∈ha,w∈ns)/\iO [d,wl ns,.int (n:Int)]=some (wl ha):=by
 obtain⟨a,ha,ea⟩:=S0 hd hn 0 (by omega)
 obtain⟨b,hb,eb⟩:=S0 hd hn 1 (by omega)
 have key:∀ (ha:Lr),iE n5 lF [some (wl ns),some d] ((List.range' 0 n).map fun (i:Nat)=>PyData.int (i:Int))=some (ha.map .str)->iO [d,wl ns,.int (n:Int)]=some (wl ha):=fun ha e=>by
  have g:oI [some d,some (wl ns),some (.int (n:Int))]=some (.rt (wl ha)):=by
   rw [oI,p7,oN (xg (n:=n) (by omega) _ (fh 2) rfl) (by simp;omega) e]
   rfl
  rw [iO,kY,ie]
  show pG (oI [some d,some (wl ns),some (.int (n:Int))])=_
  rw [g,ji]
 have t:∀ ρ,n5 ρ=some true:=fun _=>rfl
 rcases n with _|_|_|n
 ·exact⟨[],rfl,by simp,key [] rfl⟩
 ·refine⟨[a],rfl,by simpa using ha,key [a] ?_⟩
  show iE _ _ _ [.int ((0:Nat):Int)]=_
  rw [iE,t]
  simp only [az,cE,ea,iE]
  rfl
 ·refine⟨[a,b],rfl,?_,key [a,b] ?_⟩
  ·intro w hw;simp at hw;rcases hw with rfl|rfl
   ·exact ha
   ·exact hb
  ·show iE _ _ _ [.int ((0:Nat):Int),.int ((1:Nat):Int)]=_
   rw [iE,t]
   simp only [az,cE,ea,iE,t,eb]
   rfl
 ·omega
include hd hn hN in
theorem RQ:∃ c,Ck c/\(∀ w∈c,nY w=true)/\c.length<=3/\iF [d,wl ns]=some (wl c):=by
 obtain⟨x3,YX⟩:=hd.at 3 (by omega)
 obtain⟨x,hx,ex⟩:=B5 hd hn 1 0 1 (by omega) 1 rfl
 obtain⟨y,hy,ey⟩:=B5 hd hn 2 0 1 (by omega) 2 rfl
 have m:∀ o:Od,d2 gW (zX (fh 0) (zI 3)) (zI 3) [some d,some (wl ns),o]=some (.int (x3 % 3)):=fun o=>iY (m:=3) (lE (i:=3) (A:=fh 0) (B:=dC (.int 3)) rfl rfl YX) rfl (by omega)
 have t:∀ (j:Int) (o:Od),fB (d2 jC (d2 gW (zX (fh 0) (zI 3)) (zI 3)) (zI j)) [some d,some (wl ns),o]=some (x3 % 3==j):=fun j o=>by
  rw [oa,gf (m o) (show dC (.int j) [some d,some (wl ns),o]=some (.int j) from rfl),SN];rfl
 have fin:∀ c:Lr,n4 [some d,some (wl ns),none]=some (.rt (wl c))->iF [d,wl ns]=some (wl c):=fun c g=>by
  rw [iF,kY,ie]
  show pG (n4 [some d,some (wl ns),none])=_
  rw [g,ji]
 have s0:=ex [some d,some (wl ns),none] rfl rfl
 have ey':=ey [some d,some (wl ns),some (.str x)] rfl rfl
 rw [lX,ui] at ey'
 have h:x3 % 3=0∨x3 % 3=1∨x3 % 3=2:=by omega
 rcases h with h|h|h
 ·refine⟨_,.choose,by intro w hw;simp at hw;subst hw;decide +kernel,by simp,fin _ ?_⟩
  exact fX (ρ1:=[some d,some (wl ns),some (.str x)]) (by rw [qp,s0];rfl) (pC (nA (by rw [t,h];rfl) rfl))
 ·refine⟨[zZ "some",x],.some,?_,by simp,fin _ ?_⟩
  ·intro w hw;simp at hw;rcases hw with rfl|rfl
   ·decide +kernel
   ·exact hN _ hx
  ·exact fX (ρ1:=[some d,some (wl ns),some (.str x)]) (by rw [qp,s0];rfl) (fX (kz (by rw [t,h];rfl) rfl) (pC (nA (by rw [t,h];rfl) rfl)))
 ·refine⟨[zZ "same",x,y],.same,?_,by simp,fin _ ?_⟩
  ·intro w hw;simp at hw;rcases hw with rfl|rfl|rfl
   ·decide +kernel
   ·exact hN _ hx
   ·exact hN _ hy
  ·refine fX (ρ1:=[some d,some (wl ns),some (.str x)]) (by rw [qp,s0];rfl) (fX (kz (by rw [t,h];rfl) rfl) (fX (kz (by rw [t,h];rfl) rfl) ?_))
   show gu _ [some d,some (wl ns),some (.str x)]=_
   rw [p7,vw,fY,fY,fY,ey']
   rfl
end
theorem Z9 {p:α->Prop}{a:α}(h:p a):∀ v∈[a],p v:=aB.2 ⟨h,nofun⟩
theorem Lf {p:α->Prop}{a b:α}(h:p a)(k:p b):∀ v∈[a,b],p v:=aB.2 ⟨h,Z9 k⟩
theorem al3 {p:α->Prop}{a b c:α}(h:p a)(k:p b)(l:p c):∀ v∈[a,b,c],p v:=aB.2 ⟨h,Lf k l⟩
section
variable (hd:BZ d) {ks:List KR} (hk:A0 ks) (vO:n<=3) {hs:List Hd} (Hi:HI (ks.map (·.nm)) n hs) {ns:Lr} (hn:ns≠[]) (hN:∀ w∈ns,nY w=true)
def Ii:fu->Option gI :=
(fy (i9 (fB (d2 qh (fh 0) (jy (zC "new" (zC "fresh" fD)))))
(gu (fH (fx (fh 0) (fx (fh 5) (zQ (zX (zX (fh 3) (d2 gW (zX (fh 1) (zI 5)) (zN (fh 3)))) (zI 0)))))))
gK)
(fy (i9 (jJ (fB (d2 jC (fh 0) (zA "func"))) (fB (d2 oB (fh 8) (fH fD))))
(fy (fL (gd [] (zX (fh 8) (d2 gW (zX (fh 1) (zI 5)) (zN (fh 8))))) 9)
(gu (d2 f6 (fH (zC "func" (fx (fh 5) (zQ (zX (fh 9) (zI 0)))))) (jg 3 iO (fx (fh 1) (fx (fh 2) (zQ (zN (zX (fh 9) (zI 2))))))))))
gK)
(fy (i9 (fB (d2 qh (fh 0) (jy (zC "row" (zC "give" (zC "tell" fD))))))
(gu (fH (fx (fh 0) (zQ (fh 5)))))
gK)
(fy (i9 (fB (d2 qh (fh 0) (jy (zC "take" (zC "own" fD)))))
(gu (fH (fx (fh 0) (fx (fh 5) (fx (fh 6) (zQ (fh 7)))))))
gK)
(fy (i9 (fB (d2 qh (fh 0) (jy (zC "put" (zC "place" fD)))))
(gu (fH (fx (fh 0) (fx (fh 6) (fx (fh 7) (zQ (fh 5)))))))
gK)
(fy (i9 (fB (d2 jC (fh 0) (zA "check")))
(gu (fH (zC "check" (fx (fh 6) (zQ (fh 7))))))
gK)
(fy (i9 (fB (d2 qh (fh 0) (jy (zC "push" (zC "pull" fD)))))
(gu (fH (fx (fh 0) (fx (fh 5) (zQ (fh 6))))))
gK)
(fy (i9 (fB (d2 jC (fh 0) (zA "rest")))
(gu (fH (zC "rest" fD)))
gK)
(gu (fH (zC "copy" (fx (fh 5) (zQ (fh 6))))))))))))))
theorem Of:pT=fy (fL (gd [] (zX (fh 2) (d2 gW (zX (fh 1) (zI 1)) (zN (fh 2))))) 5) (fy (fL (gd [] (zX (fh 2) (d2 gW (zX (fh 1) (zI 2)) (zN (fh 2))))) 6) (fy (fL (gd [] (zX (fH (zC "f" (zC "g" (zC "h" (zC "u" (zC "v" fD)))))) (d2 gW (zX (fh 1) (zI 4)) (zI 5)))) 7) (fy (fL (gd [] (iL (lL (fh 4)) [] mI o5)) 8) Ii))):=rfl
def gN:Lr:=["f","g","h","u","v"].map Str.ofString
theorem Y5:∀ w∈gN,nY w=true:=by
 have:(gN.all nY)=true:=by decide +kernel
 simpa using this
abbrev Mh (hs:List Hd):List (Str×Str):=hs.filterMap Wm
abbrev Fh (hs:List Hd):List (Str×Nat):=hs.filterMap VH
def uL:List String:=["new","fresh","func","row","give","tell","take","own","put","place","check","push","pull","rest","copy","if","while","end","else"]
theorem DW {y f:Str}(hx:nY x=true)(hy:nY y=true)(hf:nY f=true){K:Lr}{M:List (Str×Str)}{Fu:List (Str×Nat)}(a b c e g:Od){w:String}(hw:w∈uL)(h1:w≠"new")(h2:w≠"fresh")(h3:w≠"func"):∃ w' r,Rk K M Fu w' r/\GR (zZ w'::r)/\Ii [some (.str (zZ w)),a,b,c,e,some (.str x),some (.str y),some (.str f),g,none]=some (.rt (wl (zZ w'::r))):=by
 simp only [uL,ah,bb,cB] at hw
 rcases hw with rfl|rfl|rfl|rfl|rfl|rfl|rfl|rfl|rfl|rfl|rfl|rfl|rfl|rfl|rfl|rfl|rfl|rfl|rfl
 ·exact absurd rfl h1
 ·exact absurd rfl h2
 ·exact absurd rfl h3
 ·exact⟨"row",[x],.row,j0 (zD 0) (Z9 ‹_›) (by simp),zF (zF (zt 0))⟩
 ·exact⟨"give",[x],.give,j0 (zD 0) (Z9 ‹_›) (by simp),zF (zF (zt 0))⟩
 ·exact⟨"tell",[x],.tell,j0 (zD 0) (Z9 ‹_›) (by simp),zF (zF (zt 0))⟩
 ·exact⟨"take",[x,y,f],.take,j0 (zD 0) (al3 ‹_› ‹_› ‹_›) (by simp),zF (zF (zF (zt 0)))⟩
 ·exact⟨"own",[x,y,f],.own,j0 (zD 0) (al3 ‹_› ‹_› ‹_›) (by simp),zF (zF (zF (zt 0)))⟩
 ·exact⟨"put",[y,f,x],.put,j0 (zD 0) (al3 ‹_› ‹_› ‹_›) (by simp),zF (zF (zF (zF (zt 0))))⟩
 ·exact⟨"place",[y,f,x],.place,j0 (zD 0) (al3 ‹_› ‹_› ‹_›) (by simp),zF (zF (zF (zF (zt 0))))⟩
 ·exact⟨"check",[y,f],.check,j0 (zD 0) (Lf ‹_› ‹_›) (by simp),zF (zF (zF (zF (zF (zt 0)))))⟩
 ·exact⟨"push",[x,y],.push,j0 (zD 0) (Lf ‹_› ‹_›) (by simp),zF (zF (zF (zF (zF (zF (zt 0))))))⟩
 ·exact⟨"pull",[x,y],.pull,j0 (zD 0) (Lf ‹_› ‹_›) (by simp),zF (zF (zF (zF (zF (zF (zt 0))))))⟩
 ·exact⟨"rest",[],.rest,j0 (zD 0) (by simp) (by simp),zF (zF (zF (zF (zF (zF (zF (zt 0)))))))⟩
 ·exact⟨"copy",[x,y],.copy,j0 (zD 0) (Lf ‹_› ‹_›) (by simp),zF (zF (zF (zF (zF (zF (zF (zF ((zK 0)))))))))⟩
 ·exact⟨"copy",[x,y],.copy,j0 (zD 0) (Lf ‹_› ‹_›) (by simp),zF (zF (zF (zF (zF (zF (zF (zF ((zK 0)))))))))⟩
 ·exact⟨"copy",[x,y],.copy,j0 (zD 0) (Lf ‹_› ‹_›) (by simp),zF (zF (zF (zF (zF (zF (zF (zF ((zK 0)))))))))⟩
 ·exact⟨"copy",[x,y],.copy,j0 (zD 0) (Lf ‹_› ‹_›) (by simp),zF (zF (zF (zF (zF (zF (zF (zF ((zK 0)))))))))⟩
 ·exact⟨"copy",[x,y],.copy,j0 (zD 0) (Lf ‹_› ‹_›) (by simp),zF (zF (zF (zF (zF (zF (zF (zF ((zK 0)))))))))⟩
include Hi in
theorem z8:iE mI o5 [] (hs.map fQ)=some (zm hs):=by
 refine VP fun h hh=>⟨?_,rfl⟩
 have e:=DV (Hi.kk h hh)
 rw [mI,oa,qo,vv,qo,vv,sX]
 simp only [a8,bT,az,OK,mS,e,bN]
theorem Og {F:Lp->Od}{h a b c e f w:PyData}{ks ha l:Lr}(i0:gR h (.int 0)=some (.str t))(i2:gR h (.int 2)=some (wl ks))(eh:F [d,wl ns,.int (ks.length:Int)]=some (wl ha))(ad:f6 (wl [zZ "func",x,t]) (wl ha)=some (wl l)) :
  (gu (d2 f6 (fH (zC "func" (fx (fh 5) (zQ (zX (fh 9) (zI 0)))))) (jg 3 F (fx (fh 1) (fx (fh 2) (zQ (zN (zX (fh 9) (zI 2))))))))) [some w,some d,some (wl ns),some a,some b,some (.str x),some c,some e,some f,some h]=some (.rt (wl l)):=by
 have ll:iQ [wl ks]=some (.int (ks.length:Int)):=by rw [oe,ae]
 have q1:(fH (zC "func" (fx (fh 5) (zQ (zX (fh 9) (zI 0)))))) [some w,some d,some (wl ns),some a,some b,some (.str x),some c,some e,some f,some h]=some (wl [zZ "func",x,t]):=by
  simp? only [i0];rfl
 have q2:(jg 3 F (fx (fh 1) (fx (fh 2) (zQ (zN (zX (fh 9) (zI 2))))))) [some w,some d,some (wl ns),some a,some b,some (.str x),some c,some e,some f,some h]=some (wl ha):=by
  simp? only [i2,ll,eh]
 rw [p7,gf q1 q2,ad];rfl
include hd hk vO Hi hn hN in
theorem Oh {w:String}(hw:w∈uL):∃ w' r,Rk (ks.map (·.nm)) (Mh hs) (Fh hs) w' r/\GR (zZ w'::r)/\kS [.str (zZ w),d,wl ns,.list (ks.map xX),.list (hs.map fQ)]=some (wl (zZ w'::r)):=by
 obtain⟨x,hx,ex⟩:=B5 hd hn 1 1 2 (by omega) 1 rfl
 obtain⟨y,hy,ey⟩:=B5 hd hn 2 1 2 (by omega) 2 rfl
 obtain⟨x4,hx4⟩:=hd.at 4 (by omega)
 obtain⟨x5,Y6⟩:=hd.at 5 (by omega)
 obtain⟨f,hf,ef⟩:=z0 gN (by simp [gN]) x4
 have nx:=hN x hx
 have ny:=hN y hy
 have nf:=Y5 f hf
 have fc:=z8 Hi
 have hl:=Hi.len
 have fin:∀ l:Lr,Ii [some (.str (zZ w)),some d,some (wl ns),some (zk ks),some (zh hs),some (.str x),some (.str y),some (.str f),some (.list (zm hs)),none]=some (.rt (wl l))->kS [.str (zZ w),d,wl ns,.list (ks.map xX),.list (hs.map fQ)]=some (wl l):=fun l e=>by
  have g:pT [some (.str (zZ w)),some d,some (wl ns),some (zk ks),some (zh hs),none,none,none,none,none]=some (.rt (wl l)):=by
   rw [Of]
   refine fX (ρ1:=[some (.str (zZ w)),some d,some (wl ns),some (zk ks),some (zh hs),some (.str x),none,none,none,none]) (by rw [qp,ex _ rfl rfl];rfl) (fX (ρ1:=[some (.str (zZ w)),some d,some (wl ns),some (zk ks),some (zh hs),some (.str x),some (.str y),none,none,none]) (by rw [qp,ey _ rfl rfl];rfl) (fX (ρ1:=[some (.str (zZ w)),some d,some (wl ns),some (zk ks),some (zh hs),some (.str x),some (.str y),some (.str f),none,none]) (gF ?_) (fX (gF (oN (ds:=hs.map fQ) rfl (by rw [ae];omega) fc)) e)))
   exact(gf (o:=gR) (A:=fH (zC "f" (zC "g" (zC "h" (zC "u" (zC "v" fD)))))) (a:=wl gN) rfl (iY (m:=5) (C:=dC (.int 5)) (lE (i:=4) (A:=fh 1) (B:=dC (.int 4)) rfl rfl hx4) rfl (by omega))).trans ef
  rw [kS,kY,ie]
  show pG (pT [some (.str (zZ w)),some d,some (wl ns),some (zk ks),some (zh hs),none,none,none,none,none])=_
  rw [g,ji]
 obtain⟨r,hr,er⟩:=wH hk x5
 have Y3:(0:Int)<(ks.length:Int):=by have:=bt.mpr hk.ne;omega
 have nr:=lx _ (Le _ (hk.nm r hr))
 have hrK:r.nm∈ks.map (·.nm):=ag.mpr ⟨r,hr,rfl⟩
 have q:∀ (a b:PyData) (e g h i j:Od),d2 gR (zX (fh 3) (d2 gW (zX (fh 1) (zI 5)) (zN (fh 3)))) (zI 0) [some a,some d,some b,some (zk ks),e,g,h,i,j,none]=some (.str r.nm):=fun a b e g h i j=>by
  have q1:i6 iQ (zQ (fh 3)) [some a,some d,some b,some (zk ks),e,g,h,i,j,none]=some (.int (ks.length:Int)):=wI ks
  have q2:=gf (o:=gR) (A:=fh 3) (a:=.list (ks.map xX)) (ρ:=[some a,some d,some b,some (zk ks),e,g,h,i,j,none]) rfl (iY (lE (i:=5) (A:=fh 1) (B:=dC (.int 5)) rfl rfl Y6) q1 Y3)
  rw [er] at q2
  rw [gf (o:=gR) (B:=dC (.int 0)) q2 rfl,VO]
 by_cases h1:w="new"
 ·subst h1
  refine⟨"new",[x,r.nm],.new hrK,j0 (zD 0) (Lf ‹_› ‹_›) (by simp),fin _ (pC (nA (zK 0) ?_))⟩
  rw [p7,vw,fY,fY,fY,q]
  rfl
 by_cases h2:w="fresh"
 ·subst h2
  refine⟨"fresh",[x,r.nm],.fresh hrK,j0 (zD 0) (Lf ‹_› ‹_›) (by simp),fin _ (pC (nA (zK 0) ?_))⟩
  rw [p7,vw,fY,fY,fY,q]
  rfl
 by_cases h3:w="func"
 ·subst h3
  have hq:∀ h∈hs.filter fun h=>!xY h,HV (ks.map (·.nm)) h/\Ob h.key:=fun h hh=>by
   have:=(bX.mp hh).1
   exact⟨Hi.hv h this,Hi.kk h this⟩
  have ne:=F4 hq
  have T:∀ b:Bool,(!(hs.filter fun h=>!xY h).isEmpty)=b->(jJ (fB (d2 jC (fh 0) (zA "func"))) (fB (d2 oB (fh 8) (fH fD)))) [some (.str (zZ "func")),some d,some (wl ns),some (zk ks),some (zh hs),some (.str x),some (.str y),some (.str f),some (.list (zm hs)),none]=some b:=fun b hb=>by
   have e1:("func"=="func")=true:=by decide
   rw [hb] at ne
   simp? only [iX,e1,ne]
  cases hb:(!(hs.filter fun h=>!xY h).isEmpty) with
  | false =>
   refine⟨"copy",[x,y],.copy,j0 (zD 0) (Lf ‹_› ‹_›) (by simp),fin _ ?_⟩
   exact zF (fX (kz (T _ hb) rfl) (zF (zF (zF (zF (zF (zF (zK 0))))))))
  | true =>
   have S6:hs.filter (fun h=>!xY h)≠[]:=by intro z;rw [z] at hb;cases hb
   obtain⟨dd,Ai,ed⟩:=JF (zm hs) (by simpa using S6) x5
   obtain⟨h,hh,rfl⟩:=ag.mp Ai
   obtain⟨Oi,S7⟩:=bX.mp hh
   have hv:=Hi.hv h Oi
   have OM:=Hi.kk h Oi
   have lp:(0:Int)<((zm hs).length:Int):=by
    have:0<(zm hs).length:=bt.mpr (by simpa using S6)
    omega
   obtain⟨ha,hal,ham,eh⟩:=B6 hd hn h.ks.length hv.lk
   cases qk:h.key with
   | nX k m=>rw [xY,qk] at S7;cases S7
   | func g =>
    have hg:g∈fN:=by rw [qk] at OM;exact OM
    have ng:=lx _ (RN _ hg)
    have Wo:(g,ha.length)∈Fh hs:=bp.mpr ⟨h,Oi,by rw [VH,qk,hal]⟩
    refine⟨"func",x::g::ha,.func (by rw [hal];exact hv.lk) Wo,j0 (zD 0) (fun v hv=>?_) (by have:=hv.lk;simp;omega),fin _ (zF (pC (nA (T _ hb) (fX (ρ1:=[some (.str (zZ "func")),some d,some (wl ns),some (zk ks),some (zh hs),some (.str x),some (.str y),some (.str f),some (.list (zm hs)),some (fQ h)]) (gF ?_) ?_))))⟩
    ·simp at hv
     rcases hv with rfl|rfl|hv
     ·exact nx
     ·exact ng
     ·exact hN _ (ham _ hv)
    ·have q1:i6 iQ (zQ (fh 8)) [some (.str (zZ "func")),some d,some (wl ns),some (zk ks),some (zh hs),some (.str x),some (.str y),some (.str f),some (.list (zm hs)),none]=some (.int ((zm hs).length:Int)):=oe _
     exact(gf (o:=gR) (A:=fh 8) (a:=.list (zm hs)) rfl (iY (lE (i:=5) (A:=fh 1) (B:=dC (.int 5)) rfl rfl Y6) q1 lp)).trans ed
    ·have i0:=OK h
     rw [qk] at i0
     have VQ:gR (fQ h) (.int 0)=some (.str g):=i0
     have ad:=kK [zZ "func",x,g] ha (by have:=hv.lk;simp;omega)
     exact Og VQ (hd2 h) eh ad
 obtain⟨w',r',k1,k2,k3⟩:=DW (K:=ks.map (·.nm)) (M:=Mh hs) (Fu:=Fh hs) nx ny nf (some d) (some (wl ns)) (some (zk ks)) (some (zh hs)) (some (.list (zm hs))) hw h1 h2 h3
 exact⟨w',r',k1,k2,fin _ k3⟩
end
section
variable (hd:BZ d) {ks:List KR} (hk:A0 ks) (vO:n<=3) {hs:List Hd} (Hi:HI (ks.map (·.nm)) n hs) {ns:Lr} (hn:ns≠[]) (hN:∀ w∈ns,nY w=true)
include Hi in
theorem Ij:iE kf kh [] (hs.map fQ)=some (((hs.filter xY).map fun h=>h.key.nm _root_.id).map .str):=by
 have:=VP (T:=kf) (C:=kh) (p:=xY) (f:=fun h=>.str (h.key.nm _root_.id)) (hs:=hs) fun h hh=>by
  have e:=DV (Hi.kk h hh)
  refine⟨?_,?_⟩
  ·rw [kf,oa,qo,vv,qo,vv,sX]
   simp only [a8,bT,az,OK,jU,e,bN]
  ·rw [kh,gf (A:=fh 0) (B:=dC (.int 0)) (a:=fQ h) rfl rfl,OK]
 rw [this,cH];rfl
def vL:List String:=["ask","do","straight"]
theorem Lg (x:Int):∃ n:Nat,n<=2/\gR (.list [.int 0,.int 1,.int 1,.int 2]) (.int (x % 4))=some (.int (n:Int)):=by
 have h:x % 4=0∨x % 4=1∨x % 4=2∨x % 4=3:=by omega
 rcases h with h|h|h|h<;>rw [h]
 ·exact⟨0,by omega,by kernel_rfl⟩
 ·exact⟨1,by omega,by kernel_rfl⟩
 ·exact⟨1,by omega,by kernel_rfl⟩
 ·exact⟨2,by omega,by kernel_rfl⟩
theorem z9 {F:Lp->Od}{A:fu->Od}{l ha r:Lr}{mn:PyData}(h1:(ρ[1]?).join=some d)(h2:(ρ[2]?).join=some (wl ns))(h6:(ρ[6]?).join=some mn)(hA:A ρ=some (wl l))(eh:F [d,wl ns,mn]=some (wl ha))(ad:f6 (wl l) (wl ha)=some (wl r)) :
  (gu (d2 f6 A (jg 3 F (fx (fh 1) (fx (fh 2) (zQ (fh 6))))))) ρ=some (.rt (wl r)):=by
 have q2:(jg 3 F (fx (fh 1) (fx (fh 2) (zQ (fh 6))))) ρ=some (wl ha):=by
  simp? only [h1,h2,h6,eh]
 rw [p7,gf hA q2,ad];rfl
include hd hk vO Hi hn hN in
theorem Lh {w:String}(hw:w∈vL):∃ w' r,Rk (ks.map (·.nm)) (Mh hs) (Fh hs) w' r/\GR (zZ w'::r)/\j6 [.str (zZ w),d,wl ns,.list (hs.map fQ)]=some (wl (zZ w'::r)):=by
 obtain⟨x,hx,ex⟩:=B5 hd hn 1 1 2 (by omega) 1 rfl
 obtain⟨y,hy,ey⟩:=B5 hd hn 2 1 2 (by omega) 2 rfl
 obtain⟨x7,Z8⟩:=hd.at 7 (by omega)
 obtain⟨x5,Y6⟩:=hd.at 5 (by omega)
 obtain⟨mn,hmn,em⟩:=Lg x7
 obtain⟨ha,hal,ham,eh⟩:=B6 hd hn mn hmn
 have nx:=hN x hx
 have ny:=hN y hy
 have mc:=Ij Hi
 have hl:=Hi.len
 have hfl:(hs.filter xY).length<=hs.length:=List.length_filter_le _ _
 generalize hME:((hs.filter xY).map fun h=>h.key.nm _root_.id)=me at mc
 let ρ0:PyData->fu:=fun w=>[some w,some d,some (wl ns),some (zh hs),some (.str x),some (.str y),some (.int (mn:Int)),some (wl me),none,none,none]
 have pre:∀ (R:fu->Option gI) (l:Lr),R (ρ0 (.str (zZ w)))=some (.rt (wl l))->(fy (fL (gd [] (zX (fh 2) (d2 gW (zX (fh 1) (zI 1)) (zN (fh 2))))) 4) (fy (fL (gd [] (zX (fh 2) (d2 gW (zX (fh 1) (zI 2)) (zN (fh 2))))) 5) (fy (fL (gd [] (zX (fH (fx (zI 0) (fx (zI 1) (fx (zI 1) (zQ (zI 2)))))) (d2 gW (zX (fh 1) (zI 7)) (zI 4)))) 6) (fy (fL (gd [] (iL (lL (fh 3)) [] kf kh)) 7) R)))) [some (.str (zZ w)),some d,some (wl ns),some (zh hs),none,none,none,none,none,none,none]=some (.rt (wl l)):=fun R l e=>by
  refine fX (ρ1:=[some (.str (zZ w)),some d,some (wl ns),some (zh hs),some (.str x),none,none,none,none,none,none]) (by rw [qp,ex _ rfl rfl];rfl) (fX (ρ1:=[some (.str (zZ w)),some d,some (wl ns),some (zh hs),some (.str x),some (.str y),none,none,none,none,none]) (by rw [qp,ey _ rfl rfl];rfl) (fX (ρ1:=[some (.str (zZ w)),some d,some (wl ns),some (zh hs),some (.str x),some (.str y),some (.int (mn:Int)),none,none,none,none]) (gF ?_) (fX (gF (oN (ds:=hs.map fQ) rfl (by rw [ae];omega) mc)) e)))
  exact(gf (o:=gR) (A:=fH (fx (zI 0) (fx (zI 1) (fx (zI 1) (zQ (zI 2)))))) (a:=.list [.int 0,.int 1,.int 1,.int 2]) rfl (iY (m:=4) (C:=dC (.int 4)) (lE (i:=7) (A:=fh 1) (B:=dC (.int 7)) rfl rfl Z8) rfl (by omega))).trans em
 have fin:∀ l:Lr,qZ [some (.str (zZ w)),some d,some (wl ns),some (zh hs),none,none,none,none,none,none,none]=some (.rt (wl l))->j6 [.str (zZ w),d,wl ns,.list (hs.map fQ)]=some (wl l):=fun l g=>by
  rw [j6,kY,ie]
  show pG (qZ [some (.str (zZ w)),some d,some (wl ns),some (zh hs),none,none,none,none,none,none,none])=_
  rw [g,ji]
 have hha:∀ v∈ha,nY v=true:=fun v hv=>hN v (ham v hv)
 have abK:∀ t∈me,PyData.strOk t=true:=fun t ht=>by
  rw [← hME] at ht
  obtain⟨h,hh,rfl⟩:=ag.mp ht
  exact Ie (Hi.kk h (bX.mp hh).1)
 have DO:Rk (ks.map (·.nm)) (Mh hs) (Fh hs) "do" (x::y::ha)/\GR (zZ "do"::x::y::ha)/\(∀ ww:PyData,(gu (d2 f6 (fH (zC "do" (fx (fh 4) (zQ (fh 5))))) (jg 3 iO (fx (fh 1) (fx (fh 2) (zQ (fh 6))))))) (ρ0 ww)=some (.rt (wl (zZ "do"::x::y::ha)))):=by
  refine⟨.Z6 (by omega),j0 (zD 0) (fun v hv=>?_) (by simp;omega),fun ww=>z9 (l:=[zZ "do",x,y]) rfl rfl rfl rfl eh (kK _ _ (by simp;omega))⟩
  simp at hv
  rcases hv with rfl|rfl|hv
  ·exact nx
  ·exact ny
  ·exact hha v hv
 simp only [vL,ah,bb,cB] at hw
 rcases hw with rfl|rfl|rfl
 ·obtain⟨mm,Y2,em5⟩:=z0 mN (by simp [mN]) x5
  have nm:=lx _ (Oc _ Y2)
  refine⟨"ask",x::y::mm::ha,.ask (by omega),j0 (zD 0) (fun v hv=>?_) (by simp;omega),fin _ (pre _ _ (pC (nA (zK 0) (z9 (l:=[zZ "ask",x,y,mm]) rfl rfl rfl ?_ eh (kK _ _ (by simp;omega))))))⟩
  ·simp at hv
   rcases hv with rfl|rfl|rfl|hv
   ·exact nx
   ·exact ny
   ·exact nm
   ·exact hha v hv
  ·have q:(zX (fH (zC "m" (zC "n" fD))) (d2 gW (zX (fh 1) (zI 5)) (zI 2))) (ρ0 (.str (zZ "ask")))=some (.str mm):=(gf (o:=gR) (A:=fH (zC "m" (zC "n" fD))) (a:=wl mN) rfl (iY (m:=2) (C:=dC (.int 2)) (lE (i:=5) (A:=fh 1) (B:=dC (.int 5)) rfl rfl Y6) rfl (by omega))).trans em5
   rw [vw,fY,fY,fY,fY,q]
   rfl
 ·obtain⟨a,b,c⟩:=DO
  exact⟨"do",_,a,b,fin _ (pre _ _ (zF (zF (c _))))⟩
 ·have ne:=Oe abK
  have T:∀ b:Bool,(!me.isEmpty)=b->(jJ (fB (d2 jC (fh 0) (zA "straight"))) (fB (d2 oB (fh 7) (fH fD)))) (ρ0 (.str (zZ "straight")))=some b:=fun b hb=>by
   have e1:("straight"=="straight")=true:=by decide
   rw [hb] at ne
   simp? only [ρ0,iX,e1,ne]
  cases hb:(!me.isEmpty) with
  | false =>
   obtain⟨a,b,c⟩:=DO
   exact⟨"do",_,a,b,fin _ (pre _ _ (zF (fX (kz (T _ hb) rfl) (c _))))⟩
  | true =>
   have S6:me≠[]:=by intro z;rw [z] at hb;cases hb
   obtain⟨t,ht,et⟩:=z0 me S6 x5
   have ht':=ht
   rw [← hME] at ht'
   obtain⟨h,hh,eht⟩:=ag.mp ht'
   obtain⟨Oi,S7⟩:=bX.mp hh
   have OM:=Hi.kk h Oi
   have hv:=Hi.hv h Oi
   cases qk:h.key with
   | func g=>rw [xY,qk] at S7;cases S7
   | nX k m =>
    rw [qk] at OM eht
    have hvk:=hv.key
    rw [qk] at hvk
    have pt:=F3 OM
    have et':t=kA k m:=eht.symm
    have hM:(k,m)∈Mh hs:=bp.mpr ⟨h,Oi,by rw [Wm,qk]⟩
    have lp:(0:Int)<(me.length:Int):=by have:=bt.mpr S6;omega
    have q1:i6 iQ (zQ (fh 7)) (ρ0 (.str (zZ "straight")))=some (.int (me.length:Int)):=by
     show iQ [wl me]=_
     rw [oe,ae]
    have q2:(zX (fh 7) (d2 gW (zX (fh 1) (zI 5)) (zN (fh 7)))) (ρ0 (.str (zZ "straight")))=some (.str (kA k m)):=by
     rw [← et']
     exact(gf (o:=gR) (A:=fh 7) (a:=wl me) rfl (iY (lE (i:=5) (A:=fh 1) (B:=dC (.int 5)) rfl rfl Y6) q1 lp)).trans et
    have q3:(gd [] (rO lQ (zX (fh 7) (d2 gW (zX (fh 1) (zI 5)) (zN (fh 7)))) (zC "." fD))) (ρ0 (.str (zZ "straight")))=some (.tuple [.str k,.str (zZ "."),.str m]):=by
     rw [lX,ui,KY,q2]
     simp only [az,fY,vv,pw,pt]
    refine⟨"straight",x::y::k::m::ha,.vH (by omega) hvk.1 hM,j0 (zD 0) (fun v hv=>?_) (by simp;omega),fin _ (pre _ _ (zF (pC (nA (T _ hb) (fX (ρ1:=[some (.str (zZ "straight")),some d,some (wl ns),some (zh hs),some (.str x),some (.str y),some (.int (mn:Int)),some (wl me),some (.str k),some (.str (zZ ".")),some (.str m)]) ?_ (z9 (l:=[zZ "straight",x,y,k,m]) rfl rfl rfl rfl eh (kK _ _ (by simp;omega))))))))⟩
    ·simp at hv
     rcases hv with rfl|rfl|rfl|rfl|hv
     ·exact nx
     ·exact ny
     ·exact lx _ (Le _ OM.1)
     ·exact lx _ (Oc _ OM.2)
     ·exact hha v hv
    ·rw [Nv,q3];rfl
end
theorem Oj:∀ w∈["x","y","z"].map Str.ofString,nY w=true:=by
 have:((["x","y","z"].map Str.ofString).all nY)=true:=by decide +kernel
 simpa using this
def jo:PyData:=.tuple [.str (zZ "main"),.list [],.list []]
theorem Ik:jY [jo]=some (wl (["x","y","z"].map Str.ofString)):=by kernel_rfl
theorem Li {K:Lr}{h:Hd}(v:HV K h)(k:Ob h.key):∃ ns,ns≠[]/\(∀ w∈ns,nY w=true)/\jY [fQ h]=some (wl ns):=by
 have lp:=v.lp
 have lk:=v.lk
 have a1:=kK h.ps h.ks (by omega)
 have a2:=kK (h.ps++h.ks) (["x","y","z"].map Str.ofString) (by simp;omega)
 have a3:=kK (h.ps++h.ks++["x","y","z"].map Str.ofString) [zZ "self"] (by simp;omega)
 have dt:=DV k
 have hV:∀ w∈h.ps++h.ks++["x","y","z"].map Str.ofString,nY w=true:=fun w hw=>by
  rcases au.mp hw with hw|hw
  ·rcases au.mp hw with hw|hw
   ·exact lx w (v.ps w hw)
   ·exact lx w (v.ks w hw)
  ·exact Oj w hw
 have S1:(fL (gd [] (d2 f6 (d2 f6 (zX (fh 0) (zI 1)) (zX (fh 0) (zI 2))) (fH (zC "x" (zC "y" (zC "z" fD)))))) 1) [some (fQ h),none]=some (.nx [some (fQ h),some (wl (h.ps++h.ks++["x","y","z"].map Str.ofString))]):=by
  refine gF (O:=[]) ?_
  have q1:=gf (o:=gR) (A:=fh 0) (B:=dC (.int 1)) (ρ:=[some (fQ h),none]) (a:=fQ h) rfl rfl
  have q2:=gf (o:=gR) (A:=fh 0) (B:=dC (.int 2)) (ρ:=[some (fQ h),none]) (a:=fQ h) rfl rfl
  rw [hd1] at q1
  rw [hd2] at q2
  have q3:=gf (o:=f6) q1 q2
  rw [a1] at q3
  exact(gf (o:=f6) (B:=fH (zC "x" (zC "y" (zC "z" fD)))) q3 rfl).trans a2
 have T:(fB (d2 qh (zA ".") (zX (fh 0) (zI 0)))) [some (fQ h),some (wl (h.ps++h.ks++["x","y","z"].map Str.ofString))]=some (xY h):=by
  rw [oa,qo,vv,qo,vv,sX]
  simp only [a8,bT,az,OK,jU,dt,bN]
 have fin:∀ l:Lr,sD [some (fQ h),none]=some (.rt (wl l))->jY [fQ h]=some (wl l):=fun l g=>by
  rw [jY,kY,ie]
  show pG (sD [some (fQ h),none])=_
  rw [g,ji]
 cases q:xY h with
 | false =>
  rw [q] at T
  exact⟨_,by simp,hV,fin _ (fX S1 (fX (kz T rfl) rfl))⟩
 | true =>
  rw [q] at T
  refine⟨h.ps++h.ks++["x","y","z"].map Str.ofString++[zZ "self"],by simp,fun w hw=>?_,fin _ (fX S1 (fX (nA T (gF (O:=[]) ((gf (o:=f6) (A:=fh 1) (B:=fH (zC "self" fD)) rfl rfl).trans a3))) rfl))⟩
  rcases au.mp hw with hw|hw
  ·exact hV w hw
  ·simp at hw;subst hw;decide +kernel
theorem Bk.ends {K:Lr}{M:List (Str×Str)}{Fu:List (Str×Nat)}:∀ (n:Nat) (bs:Lr),bs.length=n->Bk K M Fu bs (List.replicate n [zZ "end"]) []
 | 0,bs,h=>by rw [List.length_eq_zero_iff.mp h];exact .nil []
 | n+1,bs,h=>by
  have ne:bs≠[]:=by intro z;rw [z] at h;simp at h
  rw [← dS ne,bK]
  exact .fin (Bk.ends n _ (by simp;omega))
theorem F5 (bs:Lr):bs=[]∨∃ b x,bs=b++[x]:=by
 by_cases h:bs=[]
 ·exact .inl h
 ·exact .inr ⟨_,_,(dS h).symm⟩
theorem Y7 (i j:Int):Ag (.int i) (.int j)=some (.bool (decide (i<j))):=rfl
section
variable {ks:List KR} (hk:A0 ks) (vO:n<=3) {hs:List Hd} (Hi:HI (ks.map (·.nm)) n hs) {ns:Lr} (hn:ns≠[]) (hN:∀ w∈ns,nY w=true)
abbrev BK (ks:List KR)(hs:List Hd):=Bk (ks.map (·.nm)) (Mh hs) (Fh hs)
def wJ (hd dr bg:PyData)(ks:List KR)(hs:List Hd)(ns:Lr)(R:List Lr)(bs:Lr)(d w:Od):fu:=[some hd,some dr,some (zk ks),some (zh hs),some (.bool true),some bg,some (wl ns),some (wl (R.map ln)),some (wl bs),d,w]
variable (hd dr bg:PyData)
theorem vM {R:List Lr}{bs:Lr}{d w:Od}{ws:Lr}(h:f (wJ hd dr bg ks hs ns R bs d w)=some (.str (ln ws)))(hl:R.length<=900):gz (.sl 7) f (wJ hd dr bg ks hs ns R bs d w)=some (.nx (wJ hd dr bg ks hs ns (R++[ws]) bs d w)):=by
 have:=rJ (ρ:=wJ hd dr bg ks hs ns R bs d w) (i:=7) (acc:=(R.map ln).map .str) rfl (by simp;omega) h
 rw [this]
 unfold wJ
 rw [aI,aa,aZ,lU]
 rfl
theorem qc {A:fu->Od}{ws:Lr}(g:GR ws)(h:A ρ=some (wl ws)):(rO jX (zA " ") (zQ A)) ρ=some (.str (ln ws)):=by
 rw [KY,vv,fY,h,pw]
 exact g.join
def wK:fu->Option gI:=(i9 (fB (d2 qh (fh 10) (jy (zC "ask" (zC "do" (zC "straight" fD))))))
(gz (.sl 7) (gd [7,8] (rO jX (zA " ") (zQ (jg 4 j6 (fx (fh 10) (fx (fh 9) (fx (fh 6) (zQ (fh 3))))))))))
(gz (.sl 7) (gd [7,8] (rO jX (zA " ") (zQ (jg 5 kS (fx (fh 10) (fx (fh 9) (fx (fh 6) (fx (fh 2) (zQ (fh 3))))))))))))
def Il:fu->Option gI:=(i9 (jJ (fB (d2 jC (fh 10) (zA "else"))) (jJ (fB (d2 oB (fh 8) (fH fD))) (fB (d2 jC (zX (fh 8) (zI (-1))) (zA "if")))))
(fy (si (.sl 8) (gd [7,8] (zI (-1))) (gd [7,8] (zA "else")))
(gz (.sl 7) (gd [7,8] (zA "else"))))
wK)
def Im:fu->Option gI:=(i9 (jJ (fB (d2 jC (fh 10) (zA "end"))) (fB (d2 oB (fh 8) (fH fD))))
(fy (Kk (.sl 8))
(gz (.sl 7) (gd [7,8] (zA "end"))))
Il)
def tf:fu->Option gI:=(i9 (jJ (fB (d2 qh (fh 10) (jy (zC "if" (zC "while" fD))))) (fB (d2 Ag (zN (fh 8)) (zI 8))))
(fy (gz (.sl 7) (gd [7,8] (rO jX (zA " ") (zQ (d2 f6 (fH (zQ (fh 10))) (jg 2 iF (fx (fh 9) (zQ (fh 6)))))))))
(gz (.sl 8) (gd [7,8] (fh 10))))
Im)
theorem RS:nJ=fy (fL (gd [7,8] (jg 2 lS (fx (fh 9) (zQ (fh 4))))) 10) tf:=rfl
def B7 (g:fu->Option gI)(hd dr bg:PyData)(ks:List KR)(hs:List Hd)(ns:Lr)(R:List Lr)(bs:Lr)(d:PyData)(w:Od):Prop:=∃ ws mZ,BK ks hs bs [ws] mZ/\GR ws/\(∀ b∈mZ,PyData.strOk b=true)/\mZ.length<=8/\∃ w',g (wJ hd dr bg ks hs ns R bs (some d) w)=some (.nx (wJ hd dr bg ks hs ns (R++[ws]) mZ (some d) w'))
variable {R:List Lr}{bs:Lr} (hR:R.length<=900) (hb:∀ b∈bs,PyData.strOk b=true) (h8:bs.length<=8) (D:BZ d)
include hk vO Hi hn hN hR hb h8 D in
theorem Io {w:String}(hw:w∈uL)(t4:∀ ρ:fu,(ρ[10]?).join=some (.str (zZ w))->(fB (d2 qh (fh 10) (jy (zC "ask" (zC "do" (zC "straight" fD)))))) ρ=some false):B7 wK hd dr bg ks hs ns R bs d (some (.str (zZ w))):=by
 obtain⟨w',r,rk,g,e⟩:=Oh D hk vO Hi hn hN hw
 refine⟨_,bs,.row rk (.nil bs),g,hb,h8,some (.str (zZ w)),kz (t4 _ rfl) (vM hd dr bg ?_ hR)⟩
 rw [lX,uO,uO,ui]
 refine qc g ?_
 show jg 5 kS _ [some hd,some dr,some (zk ks),some (zh hs),some (.bool true),some bg,some (wl ns),none,none,some d,some (.str (zZ w))]=_
 simp? only [e]
include hk vO Hi hn hN hR hb h8 D in
theorem Lj {w:String}(hw:w∈vL)(t4:∀ ρ:fu,(ρ[10]?).join=some (.str (zZ w))->(fB (d2 qh (fh 10) (jy (zC "ask" (zC "do" (zC "straight" fD)))))) ρ=some true):B7 wK hd dr bg ks hs ns R bs d (some (.str (zZ w))):=by
 obtain⟨w',r,rk,g,e⟩:=Lh D hk vO Hi hn hN hw
 refine⟨_,bs,.row rk (.nil bs),g,hb,h8,some (.str (zZ w)),nA (t4 _ rfl) (vM hd dr bg ?_ hR)⟩
 rw [lX,uO,uO,ui]
 refine qc g ?_
 show jg 4 j6 _ [some hd,some dr,some (zk ks),some (zh hs),some (.bool true),some bg,some (wl ns),none,none,some d,some (.str (zZ w))]=_
 simp? only [e]
theorem B7.mono {g g':fu->Option gI}{w:Od}(h:B7 g hd dr bg ks hs ns R bs d w)(e:g' (wJ hd dr bg ks hs ns R bs (some d) w)=g (wJ hd dr bg ks hs ns R bs (some d) w)):B7 g' hd dr bg ks hs ns R bs d w:=by
 obtain⟨ws,mZ,a,b,c,c8,w',e'⟩:=h
 exact⟨ws,mZ,a,b,c,c8,w',by rw [e,e']⟩
include hb in
theorem RT:oB (wl bs) (.list [])=some (.bool (!bs.isEmpty)):=Oe hb
include hk vO Hi hn hN hR hb h8 D in
theorem Lk (w:Od):B7 nJ hd dr bg ks hs ns R bs d w:=by
 obtain⟨s,lZ,ew⟩:=RP D
 have S1:(fL (gd [7,8] (jg 2 lS (fx (fh 9) (zQ (fh 4))))) 10) (wJ hd dr bg ks hs ns R bs (some d) w)=some (.nx (wJ hd dr bg ks hs ns R bs (some d) (some (.str (zZ s))))):=by
  refine gF ?_
  show jg 2 lS _ [some hd,some dr,some (zk ks),some (zh hs),some (.bool true),some bg,some (wl ns),none,none,some d,w]=_
  simp? only [ew]
 suffices h:B7 tf hd dr bg ks hs ns R bs d (some (.str (zZ s))) by
  obtain⟨ws,mZ,a,b,c,c8,w',e'⟩:=h
  exact⟨ws,mZ,a,b,c,c8,w',by rw [RS];exact fX S1 e'⟩
 have nn:=RT hb
 have LL:iQ [wl bs]=some (.int (bs.length:Int)):=by rw [oe,ae]
 have Aa:∀ t:String,t∈uL->(∀ ρ:fu,(ρ[10]?).join=some (.str (zZ t))->(fB (d2 qh (fh 10) (jy (zC "ask" (zC "do" (zC "straight" fD)))))) ρ=some false)->B7 wK hd dr bg ks hs ns R bs d (some (.str (zZ t))):=fun t ht t4=>Io hk vO Hi hn hN hd dr bg hR hb h8 D ht t4
 have Y8:∀ t:String,t∈vL->(∀ ρ:fu,(ρ[10]?).join=some (.str (zZ t))->(fB (d2 qh (fh 10) (jy (zC "ask" (zC "do" (zC "straight" fD)))))) ρ=some true)->B7 wK hd dr bg ks hs ns R bs d (some (.str (zZ t))):=fun t ht t4=>Lj hk vO Hi hn hN hd dr bg hR hb h8 D ht t4
 have in1:∀ (t a:String) (ρ:fu),(ρ[10]?).join=some (.str (zZ t))->fB (d2 jC (fh 10) (zA (zZ a))) ρ=some (t==a):=fun t a ρ h=>by
  rw [oa,gf (A:=fh 10) h (show dC (.str (zZ a)) ρ=some (.str (zZ a)) from rfl),iX];rfl
 have in2:∀ (t:String) (ρ:fu),(ρ[10]?).join=some (.str (zZ t))->fB (d2 qh (fh 10) (jy (zC "if" (zC "while" fD)))) ρ=some (t=="if"||t=="while"):=fun t ρ h=>by
  rw [oa,gf (A:=fh 10) h (show jy (zC "if" (zC "while" fD)) ρ=some (.tuple [.str (zZ "if"),.str (zZ "while")]) from rfl),jU,xf];rfl
 have Wq:∀ (t:String) (ρ:fu),(ρ[10]?).join=some (.str (zZ t))->fB (d2 qh (fh 10) (jy (zC "ask" (zC "do" (zC "straight" fD))))) ρ=some (t=="ask"||(t=="do"||t=="straight")):=fun t ρ h=>by
  rw [oa,gf (A:=fh 10) h (show jy (zC "ask" (zC "do" (zC "straight" fD))) ρ=some (.tuple [.str (zZ "ask"),.str (zZ "do"),.str (zZ "straight")]) from rfl),jU]
  have:mq (.str (zZ t)) (.tuple [.str (zZ "ask"),.str (zZ "do"),.str (zZ "straight")])=some (t=="ask"||(t=="do"||t=="straight")):=by
   show (if _ then _ else none)=_
   rw [ai ⟨jI (fI _),by simp [jI (fI _)],by simp [PyData.depth]⟩]
   simp only [bG,List.any_nil,cT,Dz,k8]
   congr 1
   rw [cJ,cJ (b:="do"),cJ (b:="straight")]
  rw [this];rfl
 have F6:(s=="if"||s=="while")=false->B7 Im hd dr bg ks hs ns R bs d (some (.str (zZ s)))->B7 tf hd dr bg ks hs ns R bs d (some (.str (zZ s))):=fun e h=>h.mono hd dr bg (kz (by rw [p9,in2 s _ rfl,e];rfl) rfl)
 have JH:(s=="end")=false->B7 Il hd dr bg ks hs ns R bs d (some (.str (zZ s)))->B7 Im hd dr bg ks hs ns R bs d (some (.str (zZ s))):=fun e h=>h.mono hd dr bg (kz (by rw [p9,in1 s "end" _ rfl,e];rfl) rfl)
 have JI:(s=="else")=false->B7 wK hd dr bg ks hs ns R bs d (some (.str (zZ s)))->B7 Il hd dr bg ks hs ns R bs d (some (.str (zZ s))):=fun e h=>h.mono hd dr bg (kz (by rw [p9,in1 s "else" _ rfl,e];rfl) rfl)
 have plain0:s∈uL->(s=="if"||s=="while")=false->(s=="end")=false->(s=="else")=false->(s=="ask"||(s=="do"||s=="straight"))=false->B7 tf hd dr bg ks hs ns R bs d (some (.str (zZ s))):=fun h1 h2 h3 h4 h5=>F6 h2 (JH h3 (JI h4 (Aa s h1 fun ρ h=>by rw [Wq s ρ h,h5])))
 have Y9:s∈vL->(s=="if"||s=="while")=false->(s=="end")=false->(s=="else")=false->(s=="ask"||(s=="do"||s=="straight"))=true->B7 tf hd dr bg ks hs ns R bs d (some (.str (zZ s))):=fun h1 h2 h3 h4 h5=>F6 h2 (JH h3 (JI h4 (Y8 s h1 fun ρ h=>by rw [Wq s ρ h,h5])))
 have Za:s="if"∨s="while"->B7 tf hd dr bg ks hs ns R bs d (some (.str (zZ s))):=fun OH=>by
  have e1:(s=="if"||s=="while")=true:=by rcases OH with rfl|rfl<;>decide
  have T:(jJ (fB (d2 qh (fh 10) (jy (zC "if" (zC "while" fD))))) (fB (d2 Ag (zN (fh 8)) (zI 8)))) (wJ hd dr bg ks hs ns R bs (some d) (some (.str (zZ s))))=some (decide ((bs.length:Int)<8)):=by
   have q0:i6 iQ (zQ (fh 8)) (wJ hd dr bg ks hs ns R bs (some d) (some (.str (zZ s))))=some (.int (bs.length:Int)):=LL
   rw [p9,in2 s _ rfl,e1,xP,oa,gf (B:=dC (.int 8)) (b:=.int 8) q0 rfl,Y7];rfl
  cases qt:decide ((bs.length:Int)<8) with
  | false =>
   rw [qt] at T
   have h2:(s=="end")=false:=by rcases OH with rfl|rfl<;>decide
   have h3:(s=="else")=false:=by rcases OH with rfl|rfl<;>decide
   have h4:s∈uL:=by rcases OH with rfl|rfl<;>decide
   have h5:(s=="ask"||(s=="do"||s=="straight"))=false:=by rcases OH with rfl|rfl<;>decide
   exact(JH h2 (JI h3 (Aa s h4 fun ρ h=>by rw [Wq s ρ h,h5]))).mono hd dr bg (kz T rfl)
  | true =>
   rw [qt] at T
   rw [bc] at qt
   obtain⟨c,ck,cn,cl,ec⟩:=RQ D hn hN
   have gs:nY (zZ s)=true:=by rcases OH with rfl|rfl<;>decide +kernel
   have g:=j0 gs cn (by omega)
   have a1:=kK [zZ s] c (by simp;omega)
   refine⟨zZ s::c,bs++[zZ s],.VF OH ck (by omega) (.nil _),g,fun b Gf=>?_,by simp;omega,some (.str (zZ s)),nA T (fX (vM hd dr bg (ws:=zZ s::c) ?_ hR) ?_)⟩
   ·rcases au.mp Gf with Gf | Gf
    ·exact hb b Gf
    ·simp at Gf;subst Gf;exact fI _
   ·rw [lX,uO,uO,ui]
    refine qc g ?_
    show d2 f6 (fH (zQ (fh 10))) (jg 2 iF (fx (fh 9) (zQ (fh 6)))) [some hd,some dr,some (zk ks),some (zh hs),some (.bool true),some bg,some (wl ns),none,none,some d,some (.str (zZ s))]=_
    have q2:(jg 2 iF (fx (fh 9) (zQ (fh 6)))) [some hd,some dr,some (zk ks),some (zh hs),some (.bool true),some bg,some (wl ns),none,none,some d,some (.str (zZ s))]=some (wl c):=by
     simp? only [ec]
    exact(gf (a:=wl [zZ s]) rfl q2).trans a1
   ·have:=rJ (ρ:=wJ hd dr bg ks hs ns (R++[zZ s::c]) bs (some d) (some (.str (zZ s)))) (i:=8) (acc:=bs.map .str) (f:=gd [7,8] (fh 10)) (x:=.str (zZ s)) rfl (by simp;omega) rfl
    rw [this]
    unfold wJ
    rw [lU]
    rfl
 have abL:s="end"->B7 tf hd dr bg ks hs ns R bs d (some (.str (zZ s))):=fun e=>by
  subst e
  have T:(jJ (fB (d2 jC (fh 10) (zA "end"))) (fB (d2 oB (fh 8) (fH fD)))) (wJ hd dr bg ks hs ns R bs (some d) (some (.str (zZ "end"))))=some (!bs.isEmpty):=by
   rw [p9,in1 "end" "end" _ rfl,show ("end"=="end")=true by decide,xP,oa,gf (A:=fh 8) (B:=fH fD) (a:=wl bs) (b:=.list []) rfl rfl,nn];rfl
  rcases F5 bs with F7 | ⟨b,x,F7⟩
  ·refine F6 (by decide) ((JI (by decide) (Aa "end" (by decide) fun ρ h=>by rw [Wq "end" ρ h];rfl)).mono hd dr bg (kz (T.trans (by rw [F7];rfl)) rfl))
  ·refine F6 (by decide) ⟨[zZ "end"],b,by rw [F7];exact .fin (.nil b),DT,fun z hz=>hb z (by rw [F7];simp [hz]),by rw [F7] at h8;simp at h8;omega,some (.str (zZ "end")),nA (T.trans (by rw [F7];simp)) (fX (ρ1:=wJ hd dr bg ks hs ns R b (some d) (some (.str (zZ "end")))) ?_ (vM hd dr bg (ws:=[zZ "end"]) rfl hR))⟩
   rw [F7]
   have n0:((b++[x]).map PyData.str).isEmpty=false:=by simp
   show (some (wl (b++[x]))).bind _=_
   simp only [az,n0,b9,eO]
   rw [aI,aa,aZ,List.dropLast_concat]
   rfl
 have Zb:s="else"->B7 tf hd dr bg ks hs ns R bs d (some (.str (zZ s))):=fun e=>by
  subst e
  refine F6 (by decide) (JH (by decide) ?_)
  rcases F5 bs with F7 | ⟨b,x,F7⟩
  ·have T:(jJ (fB (d2 jC (fh 10) (zA "else"))) (jJ (fB (d2 oB (fh 8) (fH fD))) (fB (d2 jC (zX (fh 8) (zI (-1))) (zA "if"))))) (wJ hd dr bg ks hs ns R bs (some d) (some (.str (zZ "else"))))=some false:=by
    rw [p9,in1 "else" "else" _ rfl,show ("else"=="else")=true by decide,xP,p9,oa,gf (A:=fh 8) (B:=fH fD) (a:=wl bs) (b:=.list []) rfl rfl,nn,F7];rfl
   exact(Aa "else" (by decide) fun ρ h=>by rw [Wq "else" ρ h];rfl).mono hd dr bg (kz T rfl)
  ·have hx:=hb x (by rw [F7];simp)
   have li:gR (wl bs) (.int (-1))=some (.str x):=by rw [F7];exact DJ b x
   have T:(jJ (fB (d2 jC (fh 10) (zA "else"))) (jJ (fB (d2 oB (fh 8) (fH fD))) (fB (d2 jC (zX (fh 8) (zI (-1))) (zA "if"))))) (wJ hd dr bg ks hs ns R bs (some d) (some (.str (zZ "else"))))=some (x==zZ "if"):=by
    have q:d2 gR (fh 8) (zI (-1)) (wJ hd dr bg ks hs ns R bs (some d) (some (.str (zZ "else"))))=some (.str x):=(gf (A:=fh 8) (B:=dC (.int (-1))) (a:=wl bs) (b:=.int (-1)) rfl rfl).trans li
    have nn':(!bs.isEmpty)=true:=by rw [F7];simp
    rw [nn'] at nn
    rw [p9,in1 "else" "else" _ rfl,show ("else"=="else")=true by decide,xP,p9,oa,gf (A:=fh 8) (B:=fH fD) (a:=wl bs) (b:=.list []) rfl rfl,nn]
    show HM (some true) _ _ _=_
    rw [xP,oa,gf (B:=dC (.str "if")) (b:=.str (zZ "if")) q rfl,QI hx (fI _)];rfl
   cases hxi:(x==zZ "if") with
   | false =>
    rw [hxi] at T
    exact(Aa "else" (by decide) fun ρ h=>by rw [Wq "else" ρ h];rfl).mono hd dr bg (kz T rfl)
   | true =>
    rw [hxi] at T
    have hx2:x=zZ "if":=eq_of_beq hxi
    subst hx2
    refine⟨[zZ "else"],b++[zZ "else"],by rw [F7];exact .Jv (.nil _),⟨by simp,JB,by simp⟩,fun z hz=>?_,by rw [F7] at h8;simpa using h8,some (.str (zZ "else")),nA T (fX (ρ1:=wJ hd dr bg ks hs ns R (b++[zZ "else"]) (some d) (some (.str (zZ "else")))) ?_ (vM hd dr bg (ws:=[zZ "else"]) rfl hR))⟩
    ·rcases au.mp hz with hz|hz
     ·exact hb z (by rw [F7];simp [hz])
     ·simp at hz;subst hz;exact fI _
    ·rw [F7]
     have p:=zj (b.map .str) (.str (zZ "if")) (.str (zZ "else"))
     have e':vX (.int (-1)) (.str (zZ "else")) (wl (b++[zZ "if"]))=some (wl (b++[zZ "else"])):=by rw [lU,lU];exact p
     rw [uh]
     show (some (wl (b++[zZ "if"]))).bind _=_
     simp only [az]
     show ((some (PyData.str (zZ "else"))).bind fun d=>(some (PyData.int (-1))).bind fun kd=>(vX kd d (wl (b++[zZ "if"]))).map _)=_
     simp only [az,e',bN]
     rfl
 simp only [OL,ah,bb,cB] at lZ
 rcases lZ with h|h|h|h|h|h|h|h|h|h|h|h|h|h|h|h|h|h|h|h|h|h|h|h|h|h|h|h|h
 all_goals first
  | exact Za (.inl h)
  | exact Za (.inr h)
  | exact abL h
  | exact Zb h
  | (subst h;exact plain0 (by decide) (by decide) (by decide) (by decide) (by decide))
  | (subst h;exact Y9 (by decide) (by decide) (by decide) (by decide) (by decide))
end
section
variable {ks:List KR} (hk:A0 ks) (vO:n<=3) {hs:List Hd} (Hi:HI (ks.map (·.nm)) n hs) {ns:Lr} (hn:ns≠[]) (hN:∀ w∈ns,nY w=true) (hd dr bg:PyData)
include hk vO Hi hn hN in
theorem B8:∀ (ds:Lp) (R:List Lr) (bs:Lr) (d w:Od),(∀ x∈ds,BZ x)->R.length+ds.length<=900->(∀ b∈bs,PyData.strOk b=true)->bs.length<=8 ->
  ∃ R' mZ,BK ks hs bs R' mZ/\(∀ ws∈R',GR ws)/\R'.length=ds.length/\mZ.length<=8/\∃ d' w',kb (rN (.one 9)) nJ ds (wJ hd dr bg ks hs ns R bs d w)=some (.nx (wJ hd dr bg ks hs ns (R++R') mZ d' w'))
 | [],R,bs,d,w,_,_,_,h8=>⟨[],bs,.nil bs,by simp,rfl,h8,d,w,by rw [aS];rfl⟩
 | x::ds,R,bs,d,w,hD,hl,hb,h8=>by
  rw [ar] at hl
  obtain⟨ws,bs1,k1,g1,b1,l1,w1,e1⟩:=Lk hk vO Hi hn hN hd dr bg (R:=R) (bs:=bs) (by omega) hb h8 (hD x (by simp)) w
  obtain⟨R',mZ,k2,g2,r2,l2,d',w',e2⟩:=B8 ds (R++[ws]) bs1 (some x) w1 (fun y hy=>hD y (by simp [hy])) (by simp;omega) b1 l1
  refine⟨ws::R',mZ,k1.app k2,fun v hv=>?_,by simp [r2],l2,d',w',?_⟩
  ·rcases ah.mp hv with rfl|hv
   ·exact g1
   ·exact g2 v hv
  ·rw [aN] at e2
   exact kZ (ρ':=wJ hd dr bg ks hs ns R bs (some x) w) rfl e1 e2
theorem B9 (T:fu->Option Bool)(C:fu->Od)(hT:T=fun _=>some true)(hC:C=rO jX (zA (zZ " ")) (zQ (fh 0))):∀ {rows:List Lr},(∀ ws∈rows,GR ws)->iE T C [] (rows.map wl)=some ((rows.map ln).map .str)
 | [],_=>rfl
 | ws::rows,h=>by
  have ih:=B9 T C hT hC fun x (hx:x∈rows)=>h x (by simp [hx])
  have e:C [some (wl ws)]=some (.str (ln ws)):=by
   rw [hC];exact qc (h ws (by simp)) rfl
  have e0:T [some (wl ws)]=some true:=by rw [hT]
  rw [aa,iE,e0]
  simp? only [e,ih]
theorem RU (n:Nat)(h:n<=8):Ng (.list [.str (zZ "end")]) (.int (n:Int))=some (wl ((List.replicate n [zZ "end"]).map ln)):=by
 rcases n with _|_|_|_|_|_|_|_|_|n
 all_goals first|omega|kernel_rfl
include hk vO Hi hn hN in
theorem xl (hD:∀ x∈ds,BZ x)(hl:ds.length<=100){B:List Lr}(hB:∀ ws∈B,GR ws)(kB:BK ks hs [] B [])(lB:B.length<=2)(en:jY [hd]=some (wl ns)) :
  ∃ R,BK ks hs [] R []/\(∀ ws∈R,GR ws)/\R.length<=ds.length+10/\lT [hd,.list ds,.list (ks.map xX),.list (hs.map fQ),.bool true,.list (B.map wl)]=some (wl (R.map ln)):=by
 obtain⟨R',mZ,k1,g1,r1,l1,d',w',e⟩:=B8 hk vO Hi hn hN hd (.list ds) (.list (B.map wl)) ds B [] none none hD (by omega) (by simp) (by simp)
 refine⟨B++R'++List.replicate mZ.length [zZ "end"],(kB.app k1).app (Bk.ends _ mZ rfl),fun ws hw=>?_,by simp [r1];omega,?_⟩
 ·rcases au.mp hw with hw|hw
  ·rcases au.mp hw with hw|hw
   ·exact hB ws hw
   ·exact g1 ws hw
  ·rw [List.mem_replicate] at hw;rw [hw.2];exact DT
 ·have LL:iQ [wl mZ]=some (.int (mZ.length:Int)):=by rw [oe,ae]
  have jr:=B9 nF nH rfl rfl hB
  have ad:=kK ((B++R').map ln) ((List.replicate mZ.length [zZ "end"]).map ln) (by simp;omega)
  have g:uE [some hd,some (.list ds),some (zk ks),some (zh hs),some (.bool true),some (.list (B.map wl)),none,none,none,none,none]=some (.rt (wl ((B++R'++List.replicate mZ.length [zZ "end"]).map ln))):=by
   refine fX (ρ1:=[some hd,some (.list ds),some (zk ks),some (zh hs),some (.bool true),some (.list (B.map wl)),some (wl ns),none,none,none,none]) (gF ?_) (fX (ρ1:=[some hd,some (.list ds),some (zk ks),some (zh hs),some (.bool true),some (.list (B.map wl)),some (wl ns),some (wl (B.map ln)),none,none,none]) ?_ (fX (ρ1:=wJ hd (.list ds) (.list (B.map wl)) ks hs ns B [] none none) rfl (fX (vC rfl e) ?_)))
   ·show jg 1 jY (zQ (fh 0)) [some hd,some (.list ds),some (zk ks),some (zh hs),some (.bool true),some (.list (B.map wl)),none,none,none,none,none]=_
    simp? only [en]
   ·have c:=oN (q:=lL (fh 5)) (caps:=[]) (T:=nF) (C:=nH) (ρ:=[some hd,some (.list ds),some (zk ks),some (zh hs),some (.bool true),some (.list (B.map wl)),some (wl ns),none,none,none,none]) (ds:=B.map wl) rfl (by rw [ae];omega) jr
    rw [zb,lX,uO,uO,ui]
    show (iL (lL (fh 5)) [] nF nH [some hd,some (.list ds),some (zk ks),some (zh hs),some (.bool true),some (.list (B.map wl)),some (wl ns),none,none,none,none]).bind _=_
    rw [c];rfl
   ·have q1:i6 iQ (zQ (fh 8)) (wJ hd (.list ds) (.list (B.map wl)) ks hs ns (B++R') mZ d' w')=some (.int (mZ.length:Int)):=LL
    have q2:d2 Ng (fH (zC "end" fD)) (zN (fh 8)) (wJ hd (.list ds) (.list (B.map wl)) ks hs ns (B++R') mZ d' w')=some (wl ((List.replicate mZ.length [zZ "end"]).map ln)):=(gf (a:=.list [.str (zZ "end")]) rfl q1).trans (RU _ l1)
    have q3:=(gf (o:=f6) (A:=fh 7) (a:=wl ((B++R').map ln)) rfl q2).trans ad
    rw [p7,q3,aI (l₁:=B++R')];rfl
  rw [lT,kY,ie]
  show pG (uE [some hd,some (.list ds),some (zk ks),some (zh hs),some (.bool true),some (.list (B.map wl)),none,none,none,none,none])=_
  rw [g,ji]
end
section
variable {ks:List KR} (hk:A0 ks) (vO:n<=3) {hs:List Hd} (Hi:HI (ks.map (·.nm)) n hs) (D:BZ d)
theorem VR (m:Nat)(h:m<=2):∃ l:Lr,l.length=m/\(∀ w∈l,nY w=true)/\Lq (wl [zZ "x",zZ "z"]) none (some (m:Int))=some (wl l):=by
 rcases m with _|_|_|m
 ·exact⟨[],rfl,by simp,by kernel_rfl⟩
 ·exact⟨[zZ "x"],rfl,by intro w hw;simp at hw;subst hw;decide +kernel,by kernel_rfl⟩
 ·exact⟨[zZ "x",zZ "z"],rfl,by intro w hw;simp at hw;rcases hw with rfl|rfl<;>decide +kernel,by kernel_rfl⟩
 ·omega
include Hi in
theorem Ip:iE oY oZ [] (hs.map fQ)=some (zm hs):=z8 Hi
include hk vO Hi D in
theorem Ol:∃ B,(∀ ws∈B,GR ws)/\BK ks hs [] B []/\B.length<=2/\lV [jo,d,.list (ks.map xX),.list (hs.map fQ)]=some (.list (B.map wl)):=by
 obtain⟨x0,Y0⟩:=D.at 0 (by omega)
 obtain⟨x1,Kj⟩:=D.at 1 (by omega)
 obtain⟨r,hr,er⟩:=wH hk x0
 have Y3:(0:Int)<(ks.length:Int):=by have:=bt.mpr hk.ne;omega
 have nr:=lx _ (Le _ (hk.nm r hr))
 have hrK:r.nm∈ks.map (·.nm):=ag.mpr ⟨r,hr,rfl⟩
 have fc:=Ip Hi
 have hl:=Hi.len
 have g1:GR [zZ "new",zZ "x",r.nm]:=j0 (zD 0) (fun v hv=>by
  simp at hv
  rcases hv with rfl|rfl
  ·decide +kernel
  ·exact nr) (by simp)
 have b1:BK ks hs [] [[zZ "new",zZ "x",r.nm]] []:=.row (.new hrK) (.nil [])
 have q1:i6 iQ (zQ (fh 2)) [some jo,some d,some (zk ks),some (zh hs),none,none,none]=some (.int (ks.length:Int)):=wI ks
 have q2:=gf (o:=gR) (A:=fh 2) (a:=.list (ks.map xX)) (ρ:=[some jo,some d,some (zk ks),some (zh hs),none,none,none]) rfl (iY (lE (i:=0) (A:=fh 1) (B:=dC (.int 0)) rfl rfl Y0) q1 Y3)
 rw [er] at q2
 have q3:=gf (o:=gR) (B:=dC (.int 0)) q2 rfl
 rw [VO] at q3
 have S1:(jA (gd [4] (fH (zQ (fH (zC "new" (zC "x" (zQ (zX (zX (fh 2) (d2 gW (zX (fh 1) (zI 0)) (zN (fh 2)))) (zI 0))))))))) 4) [some jo,some d,some (zk ks),some (zh hs),none,none,none]=some (.nx [some jo,some d,some (zk ks),some (zh hs),some (.list [wl [zZ "new",zZ "x",r.nm]]),none,none]):=by
  rw [zb,lX,uO,ui]
  show (fH _ [some jo,some d,some (zk ks),some (zh hs),none,none,none]).bind _=_
  rw [vw,fY,vw,fY,fY,fY,q3]
  rfl
 have S2:(fL (gd [4] (iL (lL (fh 3)) [] oY oZ)) 5) [some jo,some d,some (zk ks),some (zh hs),some (.list [wl [zZ "new",zZ "x",r.nm]]),none,none]=some (.nx [some jo,some d,some (zk ks),some (zh hs),some (.list [wl [zZ "new",zZ "x",r.nm]]),some (.list (zm hs)),none]):=gF (oN (ds:=hs.map fQ) rfl (by rw [ae];omega) fc)
 have hq:∀ h∈hs.filter fun h=>!xY h,HV (ks.map (·.nm)) h/\Ob h.key:=fun h hh=>by
  have:=(bX.mp hh).1
  exact⟨Hi.hv h this,Hi.kk h this⟩
 have ne:=F4 hq
 have T:(fB (d2 oB (fh 5) (fH fD))) [some jo,some d,some (zk ks),some (zh hs),some (.list [wl [zZ "new",zZ "x",r.nm]]),some (.list (zm hs)),none]=some (!(hs.filter fun h=>!xY h).isEmpty):=by
  rw [oa,gf (A:=fh 5) (B:=fH fD) (a:=.list (zm hs)) (b:=.list []) rfl rfl,ne];rfl
 have fin:∀ l:List Lr,sC [some jo,some d,some (zk ks),some (zh hs),none,none,none]=some (.rt (.list (l.map wl)))->lV [jo,d,.list (ks.map xX),.list (hs.map fQ)]=some (.list (l.map wl)):=fun l g=>by
  rw [lV,kY,ie]
  show pG (sC [some jo,some d,some (zk ks),some (zh hs),none,none,none])=_
  rw [g,ji]
 cases hb:(!(hs.filter fun h=>!xY h).isEmpty) with
 | false =>
  rw [hb] at T
  exact⟨[[zZ "new",zZ "x",r.nm]],by simpa using g1,b1,by simp,fin _ (zF (fX S1 (fX S2 (fX (kz T rfl) rfl))))⟩
 | true =>
  rw [hb] at T
  have S6:hs.filter (fun h=>!xY h)≠[]:=by intro z;rw [z] at hb;cases hb
  obtain⟨dd,Ai,ed⟩:=JF (zm hs) (by simpa using S6) x1
  obtain⟨h,hh,rfl⟩:=ag.mp Ai
  obtain⟨Oi,S7⟩:=bX.mp hh
  have hv:=Hi.hv h Oi
  have OM:=Hi.kk h Oi
  have lp:(0:Int)<((zm hs).length:Int):=by
   have:0<(zm hs).length:=bt.mpr (by simpa using S6)
   omega
  obtain⟨l,hll,hln,el⟩:=VR h.ks.length hv.lk
  cases qk:h.key with
  | nX k m=>rw [xY,qk] at S7;cases S7
  | func g =>
   have hg:g∈fN:=by rw [qk] at OM;exact OM
   have ng:=lx _ (RN _ hg)
   have Wo:(g,l.length)∈Fh hs:=bp.mpr ⟨h,Oi,by rw [VH,qk,hll]⟩
   have lk:=hv.lk
   have g2:GR (zZ "func"::zZ "y"::g::l):=j0 (zD 0) (fun v hv=>by
    simp at hv
    rcases hv with rfl|rfl|hv
    ·decide +kernel
    ·exact ng
    ·exact hln v hv) (by simp;omega)
   have b2:BK ks hs [] [zZ "func"::zZ "y"::g::l] []:=.row (.func (by omega) Wo) (.nil [])
   have i0:=OK h
   rw [qk] at i0
   have VQ:gR (fQ h) (.int 0)=some (.str g):=i0
   have i2:=hd2 h
   have ll:iQ [wl h.ks]=some (.int (h.ks.length:Int)):=by rw [oe,ae]
   have ad:=kK [zZ "func",zZ "y",g] l (by simp;omega)
   refine⟨[[zZ "new",zZ "x",r.nm],zZ "func"::zZ "y"::g::l],Lf ‹_› ‹_›,b1.app b2,by simp,fin _ (zF (fX S1 (fX S2 (fX (ρ1:=[some jo,some d,some (zk ks),some (zh hs),some (.list [wl [zZ "new",zZ "x",r.nm],wl (zZ "func"::zZ "y"::g::l)]),some (.list (zm hs)),some (fQ h)]) (nA T (fX (ρ1:=[some jo,some d,some (zk ks),some (zh hs),some (.list [wl [zZ "new",zZ "x",r.nm]]),some (.list (zm hs)),some (fQ h)]) (gF ?_) ?_)) rfl))))⟩
   ·have p1:i6 iQ (zQ (fh 5)) [some jo,some d,some (zk ks),some (zh hs),none,some (.list (zm hs)),none]=some (.int ((zm hs).length:Int)):=oe _
    exact(gf (o:=gR) (A:=fh 5) (a:=.list (zm hs)) rfl (iY (lE (i:=1) (A:=fh 1) (B:=dC (.int 1)) rfl rfl Kj) p1 lp)).trans ed
   ·refine rJ (ρ:=[some jo,some d,some (zk ks),some (zh hs),some (.list [wl [zZ "new",zZ "x",r.nm]]),some (.list (zm hs)),some (fQ h)]) (i:=4) (acc:=[wl [zZ "new",zZ "x",r.nm]]) rfl (by simp) ?_
    rw [lX,uO,ui]
    show d2 _ _ _ [some jo,some d,some (zk ks),some (zh hs),none,some (.list (zm hs)),some (fQ h)]=_
    have p1:=(gf (o:=gR) (A:=fh 6) (B:=dC (.int 0)) (ρ:=[some jo,some d,some (zk ks),some (zh hs),none,some (.list (zm hs)),some (fQ h)]) (a:=fQ h) rfl rfl).trans VQ
    have p2:=(gf (o:=gR) (A:=fh 6) (B:=dC (.int 2)) (ρ:=[some jo,some d,some (zk ks),some (zh hs),none,some (.list (zm hs)),some (fQ h)]) (a:=fQ h) rfl rfl).trans i2
    have p3:i6 iQ (zQ (zX (fh 6) (zI 2))) [some jo,some d,some (zk ks),some (zh hs),none,some (.list (zm hs)),some (fQ h)]=some (.int (h.ks.length:Int)):=by
     rw [za,fY,p2,pw]
     exact ll
    have p4:=(F1 (A:=fH (zC "x" (zC "z" fD))) (a:=wl [zZ "x",zZ "z"]) rfl p3).trans el
    have p5:(fH (zC "func" (zC "y" (zQ (zX (fh 6) (zI 0)))))) [some jo,some d,some (zk ks),some (zh hs),none,some (.list (zm hs)),some (fQ h)]=some (wl [zZ "func",zZ "y",g]):=by
     rw [vw,fY,fY,fY,p1];rfl
    exact(gf p5 p4).trans ad
end
theorem F8 {K:Lr}{h:Hd}(v:HV K h)(k:Ob h.key)(g:GR (h.ws _root_.id)):iU [fQ h]=some (.str (ln (h.ws _root_.id))):=by
 have lp:=v.lp
 have lk:=v.lk
 have dt:=DV k
 have T:(fB (d2 qh (zA ".") (zX (fh 0) (zI 0)))) [some (fQ h),none,none,none,none]=some (xY h):=by
  rw [oa,qo,vv,qo,vv,sX]
  simp only [a8,bT,az,OK,jU,dt,bN]
 have fin:o4 [some (fQ h),none,none,none,none]=some (.rt (.str (ln (h.ws _root_.id))))->iU [fQ h]=some (.str (ln (h.ws _root_.id))):=fun g=>by
  rw [iU,kY,ie]
  show pG (o4 [some (fQ h),none,none,none,none])=_
  rw [g,ji]
 refine fin ?_
 cases qk:h.key with
 | nX kk m =>
  rw [qk] at k
  have pt:=F3 k
  have e1:xY h=true:=by rw [xY,qk];rfl
  rw [e1] at T
  have i0:=OK h
  rw [qk] at i0
  have VQ:gR (fQ h) (.int 0)=some (.str (kA kk m)):=i0
  have ew:h.ws _root_.id=zZ "method"::kk::m::h.ps:=by unfold Hd.ws;rw [qk];simp
  rw [ew] at g ⊢
  have ad:=kK [zZ "method",kk,m] h.ps (by simp;omega)
  refine pC (nA T (fX (ρ1:=[some (fQ h),some (.str kk),some (.str (zZ ".")),some (.str m),none]) ?_ ?_))
  ·have q:(gd [] (rO lQ (zX (fh 0) (zI 0)) (zC "." fD))) [some (fQ h),none,none,none,none]=some (.tuple [.str kk,.str (zZ "."),.str m]):=by
    rw [lX,ui,KY,gf (A:=fh 0) (B:=dC (.int 0)) (a:=fQ h) rfl rfl,VQ]
    simp only [az,fY,vv,pw,pt]
   rw [Nv,q];rfl
  ·rw [p7,qc g ?_]
   ·rfl
   ·have p2:=(gf (o:=gR) (A:=fh 0) (B:=dC (.int 1)) (ρ:=[some (fQ h),some (.str kk),some (.str (zZ ".")),some (.str m),none]) (a:=fQ h) rfl rfl).trans (hd1 h)
    exact(gf (o:=f6) (A:=fH (zC "method" (fx (fh 1) (zQ (fh 3))))) (a:=wl [zZ "method",kk,m]) rfl p2).trans ad
 | func f =>
  have e1:xY h=false:=by rw [xY,qk];rfl
  rw [e1] at T
  have i0:=OK h
  rw [qk] at i0
  have VQ:gR (fQ h) (.int 0)=some (.str f):=i0
  have ew:h.ws _root_.id=zZ "func"::f::(h.ps++kw h.ks):=by unfold Hd.ws;rw [qk];simp
  rw [ew] at g ⊢
  have ad:=kK [zZ "func",f] h.ps (by simp;omega)
  have S1:(fL (gd [] (d2 f6 (fH (zC "func" (zQ (zX (fh 0) (zI 0))))) (zX (fh 0) (zI 1)))) 4) [some (fQ h),none,none,none,none]=some (.nx [some (fQ h),none,none,none,some (wl ([zZ "func",f]++h.ps))]):=by
   refine gF (O:=[]) ?_
   have p1:=(gf (o:=gR) (A:=fh 0) (B:=dC (.int 0)) (ρ:=[some (fQ h),none,none,none,none]) (a:=fQ h) rfl rfl).trans VQ
   have p2:=(gf (o:=gR) (A:=fh 0) (B:=dC (.int 1)) (ρ:=[some (fQ h),none,none,none,none]) (a:=fQ h) rfl rfl).trans (hd1 h)
   have p3:(fH (zC "func" (zQ (zX (fh 0) (zI 0))))) [some (fQ h),none,none,none,none]=some (wl [zZ "func",f]):=by
    rw [vw,fY,fY,p1];rfl
   exact(gf p3 p2).trans ad
  have ne:=Oe (ws:=h.ks) fun w hw=>Ih (v.ks w hw)
  have i2:=(gf (o:=gR) (A:=fh 0) (B:=dC (.int 2)) (ρ:=[some (fQ h),none,none,none,some (wl ([zZ "func",f]++h.ps))]) (a:=fQ h) rfl rfl).trans (hd2 h)
  have T2:(fB (d2 oB (zX (fh 0) (zI 2)) (fH fD))) [some (fQ h),none,none,none,some (wl ([zZ "func",f]++h.ps))]=some (!h.ks.isEmpty):=by
   rw [oa,gf (B:=fH fD) (b:=.list []) i2 rfl,ne];rfl
  by_cases Wn:h.ks=[]
  ·have e2:zZ "func"::f::(h.ps++kw h.ks)=[zZ "func",f]++h.ps:=by simp [kw,Wn]
   rw [e2] at g ⊢
   refine fX (kz T rfl) (fX S1 (fX (kz (T2.trans (by rw [Wn];rfl)) rfl) ?_))
   rw [p7,qc g rfl];rfl
  ·have e2:zZ "func"::f::(h.ps++kw h.ks)=[zZ "func",f]++h.ps++[zZ "keeps"]++h.ks:=by simp [kw,Wn]
   rw [e2] at g ⊢
   have a1:=kK ([zZ "func",f]++h.ps) [zZ "keeps"] (by simp;omega)
   have a2:=kK ([zZ "func",f]++h.ps++[zZ "keeps"]) h.ks (by simp;omega)
   have e3:(!h.ks.isEmpty)=true:=by cases q:h.ks with
    | nil=>exact absurd q Wn
    | cons a l=>rfl
   refine fX (kz T rfl) (fX S1 (fX (ρ1:=[some (fQ h),none,none,none,some (wl ([zZ "func",f]++h.ps++[zZ "keeps"]++h.ks))]) (nA (T2.trans (by rw [e3])) (gF (O:=[]) ?_)) ?_))
   ·have p1:=(gf (o:=f6) (A:=fh 4) (B:=fH (zC "keeps" fD)) (ρ:=[some (fQ h),none,none,none,some (wl ([zZ "func",f]++h.ps))]) (a:=wl ([zZ "func",f]++h.ps)) (b:=wl [zZ "keeps"]) rfl rfl).trans a1
    exact(gf p1 i2).trans a2
   ·rw [p7,qc g rfl];rfl
structure PI (m k:Nat) (ps:List Lp):Prop where
 len:ps.length=m+1
 le:∀ p∈ps,p.length<=k
 ok:∀ p∈ps,∀ x∈p,BZ x
theorem RV {a:Nat}(h:a<n):Ci n (a:Int)=some a:=by
 unfold Ci
 have h1:(a:Int)<(n:Int):=by omega
 simp [h1]
theorem F9 {ps:List Lp}{a:Nat}(ha:a<ps.length){x:PyData}(hl:∀ p∈ps,p.length<=900)(s m:Od) :
  Hq (.sl 2) (gd [2,99] (fh 3)) (gd [2,99] (fh 4)) [s,m,some (.list (ps.map .list)),some (.int (a:Int)),some x]=some (.nx [s,m,some (.list ((ps.set a (ps[a]++[x])).map .list)),some (.int (a:Int)),some x]):=by
 have i1:Ho (.list (ps.map .list)) (.int (a:Int))=some ps[a]:=by
  show X8 (ux (ps.map .list) (a:Int))=_
  rw [NO,aC,aE ha];rfl
 have i2:BH (.list (ps.map .list)) (.int (a:Int)) (ps[a]++[x])=PyData.list ((ps.set a (ps[a]++[x])).map PyData.list):=by
  show (match Ci (ps.map PyData.list).length (a:Int) with|some j=>PyData.list ((ps.map PyData.list).set j (.list (ps[a]++[x])))|none=>_)=_
  rw [RV (by rw [ae];exact ha)]
  simp only
  rw [List.map_set]
 have z:ps[a].length<sizeLine:=by have:=hl _ (cA ha);rw [sizeLine_eq];omega
 show ((some (PyData.list (ps.map .list))).bind fun l=>(some (PyData.int (a:Int))).bind fun kd=>(Ho l kd).bind fun us=>(some x).bind fun d=>if us.length<sizeLine then some (gI.nx (tS (.sl 2) (BH l kd (us++[d])) [s,m,some (.list (ps.map .list)),some (.int (a:Int)),some x])) else none)=_
 simp only [az,i1,ai z,i2]
 rfl
theorem PI.put {m k a:Nat}{ps:List Lp}(h:PI m k ps)(ha:a<ps.length){x:PyData}(hx:BZ x):PI m (k+1) (ps.set a (ps[a]++[x])):=by
 refine⟨by rw [eU,h.len],fun p hp=>?_,fun p hp y hy=>?_⟩
 ·rcases eD hp with hp|rfl
  ·have:=h.le p hp;omega
  ·have:=h.le _ (cA ha);simp;omega
 ·rcases eD hp with hp|rfl
  ·exact h.ok p hp y hy
  ·rcases au.mp hy with hy|hy
   ·exact h.ok _ (cA ha) y hy
   ·simp at hy;subst hy;exact hx
theorem Iq {m k a:Nat}{ps:List Lp}(h:PI m k ps)(hk:k<=800)(ha:a<=m){x:PyData}(hx:BZ x)(s:Od) :
  ∃ a' VS,a'<=m/\PI m (k+1) VS/\oX [s,some (.int (m:Int)),some (.list (ps.map .list)),some (.int (a:Int)),some x]=some (.nx [s,some (.int (m:Int)),some (.list (VS.map .list)),some (.int (a':Int)),some x]):=by
 obtain⟨y,hy⟩:=hx.at 13 (by omega)
 have hl:∀ p∈ps,p.length<=900:=fun p hp=>by have:=h.le p hp;omega
 have q1:=gf (o:=jC) (B:=dC (.int 5)) (b:=.int 5) (iY (m:=6) (C:=dC (.int 6)) (lE (i:=13) (A:=fh 4) (B:=dC (.int 13)) (ρ:=[s,some (.int (m:Int)),some (.list (ps.map .list)),some (.int (a:Int)),some x]) rfl rfl hy) rfl (by omega)) rfl
 rw [SN] at q1
 have T:(jJ (fB (d2 jC (d2 gW (zX (fh 4) (zI 13)) (zI 6)) (zI 5))) (fB (d2 Ag (fh 3) (fh 1)))) [s,some (.int (m:Int)),some (.list (ps.map .list)),some (.int (a:Int)),some x]=some ((y % 6==5)&&decide ((a:Int)<(m:Int))):=by
  rw [p9,oa,q1]
  cases (y % 6==5) with
  | false=>rfl
  | true =>
   show HM (some true) _ _ _=_
   rw [xP,oa,gf (A:=fh 3) (B:=fh 1) (a:=.int (a:Int)) (b:=.int (m:Int)) rfl rfl,Y7];rfl
 cases hb:((y % 6==5)&&decide ((a:Int)<(m:Int))) with
 | false =>
  rw [hb] at T
  have qt:a<ps.length:=by rw [h.len];omega
  exact⟨a,_,ha,h.put qt hx,fX (kz T rfl) (F9 qt hl _ _)⟩
 | true =>
  rw [hb] at T
  rw [aX,bc] at hb
  have qt:a+1<ps.length:=by rw [h.len];omega
  exact⟨a+1,_,by omega,h.put qt hx,fX (ρ1:=[s,some (.int (m:Int)),some (.list (ps.map .list)),some (.int ((a+1:Nat):Int)),some x]) (nA T rfl) (F9 qt hl _ _)⟩
theorem Ab {m:Nat}(s:Od):∀ (ds:Lp) (k a:Nat) (ps:List Lp) (d:Od),PI m k ps->a<=m->(∀ x∈ds,BZ x)->k+ds.length<=800 ->
  ∃ VS a' d',PI m (k+ds.length) VS/\kb (rN (.one 4)) oX ds [s,some (.int (m:Int)),some (.list (ps.map .list)),some (.int (a:Int)),d]=some (.nx [s,some (.int (m:Int)),some (.list (VS.map .list)),a',d'])
 | [],k,a,ps,d,h,_,_,_=>⟨ps,_,d,h,rfl⟩
 | x::ds,k,a,ps,d,h,ha,hD,hl=>by
  rw [ar] at hl
  obtain⟨a1,ps1,h1,h2,e1⟩:=Iq h (by omega) ha (hD x (by simp)) s
  obtain⟨VS,a',d',h3,e2⟩:=Ab s ds (k+1) a1 ps1 (some x) h2 h1 (fun y hy=>hD y (by simp [hy])) (by omega)
  exact⟨VS,a',d',by rw [ar,show k+(ds.length+1)=k+1+ds.length by omega];exact h3,kZ rfl e1 e2⟩
theorem Om (hD:∀ x∈ds,BZ x)(hl:ds.length<=100){m:Nat}(hm:m<=3):∃ ps,PI m ds.length ps/\pS [.list ds,.int (m:Int)]=some (.list (ps.map .list)):=by
 obtain⟨ps,a',d',h,e⟩:=Ab (m:=m) (some (.list ds)) ds 0 0 (List.replicate (m+1) []) none ⟨by simp,by simp,by simp⟩ (by omega) hD (by omega)
 refine⟨ps,by simpa using h,?_⟩
 have S1:(jA (gd [2,99] (iL (jG (d2 f6 (fh 1) (zI 1))) [] mE mH)) 2) [some (.list ds),some (.int (m:Int)),none,none,none]=some (.nx [some (.list ds),some (.int (m:Int)),some (.list ((List.replicate (m+1) []).map .list)),none,none]):=by
  have c:iE mE mH [] ((List.range' 0 (m+1)).map fun (i:Nat)=>PyData.int (i:Int))=some ((List.replicate (m+1) []).map .list):=by
   rcases m with _|_|_|_|m
   all_goals first|omega|rfl
  rw [zb]
  show (iL (jG (d2 f6 (fh 1) (zI 1))) [] mE mH [some (.list ds),some (.int (m:Int)),none,none,none]).bind _=_
  rw [oN (xg (n:=m+1) (by omega) _ _ rfl) (by simp;omega) c]
  rfl
 have g:sy [some (.list ds),some (.int (m:Int)),none,none,none]=some (.rt (.list (ps.map .list))):=by
  refine fX S1 (fX (ρ1:=[some (.list ds),some (.int (m:Int)),some (.list ((List.replicate (m+1) []).map .list)),some (.int ((0:Nat):Int)),none]) rfl (fX (ρ1:=[some (.list ds),some (.int (m:Int)),some (.list (ps.map .list)),a',d']) ?_ rfl))
  rw [Jm,Jk]
  exact e
 rw [pS,kY,ie]
 show pG (sy [some (.list ds),some (.int (m:Int)),none,none,none])=_
 rw [g,ji]
theorem RW (as bs:Lr)(h:as.length+bs.length<=900):ER (wl as) (wl bs)=some (wl (as++bs)):=by
 show (if _ then _ else none)=_
 rw [ai (by rw [ae,ae,sizeLine_eq];omega),← aI]
theorem DX (ns:List Int)(k:Nat):∃ c:Int,hZ [.list (ns.map .int),.int (k:Int)]=some (.int c):=by
 by_cases h:k<ns.length
 ·refine⟨ns[k],?_⟩
  have h1:Ag (.int (k:Int)) (.int (((ns.map PyData.int).length:Nat):Int))=some (.bool true):=by
   have:(k:Int)<((ns.length:Nat):Int):=by omega
   simp [Ag,dI,this]
  have h2:gR (.list (ns.map .int)) (.int (k:Int))=some (.int ns[k]):=by
   rw [tH,NO,aC,aE h];rfl
  simp? only [hZ,qj,oe,h1,h2]
 ·refine⟨0,?_⟩
  have h1:Ag (.int (k:Int)) (.int (((ns.map PyData.int).length:Nat):Int))=some (.bool false):=Z4 (by simp;omega)
  simp? only [hZ,qj,oe,h1]
theorem Ac (c:Int)(b:Bool):∃ d,BZ d/\nj [.int c,.bool b]=some d:=by
 obtain⟨xs,h1,h2⟩:=RG c b
 exact⟨_,⟨xs,h1,rfl⟩,h2⟩
theorem Ad (b:Bool):∀ ns:List Int,∃ ds:Lp,ds.length=ns.length/\(∀ x∈ds,BZ x)/\iE mJ kT [some (.bool b)] (ns.map .int)=some ds
 | []=>⟨[],rfl,by simp,rfl⟩
 | c::ns=>by
  obtain⟨ds,h1,h2,h3⟩:=Ad b ns
  obtain⟨d,hd,e⟩:=Ac c b
  refine⟨d::ds,by simp [h1],fun x hx=>?_,?_⟩
  ·rcases ah.mp hx with rfl|hx
   ·exact hd
   ·exact h2 x hx
  ·have e0:mJ [some (.int c),some (.bool b)]=some true:=rfl
   have e1:kT [some (.int c),some (.bool b)]=some d:=by
    rw [kT];simp? only [e]
   rw [aa,iE,e0]
   simp? only [e1,h3]
theorem Oo (ns:List Int)(a b:Option Int):∃ l:List Int,l.length<=ns.length/\oE (ns.map PyData.int) a b=l.map .int:=by
 unfold oE
 rw [← List.map_drop,← List.map_take]
 exact⟨_,by simp;omega,rfl⟩
theorem JK (r:KR):ic r=zZ "kind"::r.nm::(xh r.el++vD r.own):=rfl
theorem Ir (own:Lr):Lq (wl [zZ "fields"]) none (some ((own.length:Nat):Int))=some (wl (if own=[] then [] else [zZ "fields"])):=by
 cases own with
 | nil=>kernel_rfl
 | cons a l =>
  rw [ao (by simp),K0]
  congr 2
  have:((((a::l).length:Nat):Int))=(((l.length+1:Nat)):Int):=by simp
  rw [this]
  unfold oE
  rw [zd,ao (by omega)]
  have:min ((((l.length+1:Nat)):Int)).toNat 1=1:=by omega
  simp [HT.k5,this]
theorem Oq (own:Lr):vD own=(if own=[] then [] else [zZ "fields"])++own:=by
 cases own<;>rfl
def lst (A:List Od)(L:List Lr)(B:List Od):fu:=A++some (wl (L.map ln))::B
section
variable (s f kd hd pt:PyData) (b:Bool)
def l1 (L:List Lr)(n e o r:Od):fu:=[some s,some (.int 3),some (.int 63),some (.bool true),some (.bool b),some f,some kd,some hd,some pt,some (wl (L.map ln)),n,e,o,r,none,none,none]
theorem Iu {r:KR}(g:GR (ic r)){L:List Lr}(hl:L.length<=900)(row:Od):∃ abM,o6 (l1 s f kd hd pt b L (some (.str r.nm)) (some (uP r.el)) (some (wl r.own)) row)=some (.nx (l1 s f kd hd pt b (L++[ic r]) (some (.str r.nm)) (some (uP r.el)) (some (wl r.own)) abM)):=by
 have lr:=g.2.2
 rw [JK] at lr
 simp only [ar,aK] at lr
 have lo:r.own.length<=(vD r.own).length:=by rw [Oq];simp
 have S2:∃ ρr:Lr,ρr=zZ "kind"::r.nm::xh r.el/\(i9 (fB (d2 pP (fh 11) (dC .none))) (fL (gd [9] (d2 f6 (fh 13) (fH (zC "of" (zQ (fh 11)))))) 13) gK) (l1 s f kd hd pt b L (some (.str r.nm)) (some (uP r.el)) (some (wl r.own)) (some (wl [zZ "kind",r.nm])))=some (.nx (l1 s f kd hd pt b L (some (.str r.nm)) (some (uP r.el)) (some (wl r.own)) (some (wl ρr)))):=by
  cases q:r.el with
  | none=>exact⟨_,rfl,kz rfl rfl⟩
  | some j =>
   have a:=kK [zZ "kind",r.nm] [zZ "of",j] (by simp)
   exact⟨_,rfl,nA rfl (gF (O:=[9]) ((gf (o:=f6) (A:=fh 13) (B:=fH (zC "of" (zQ (fh 11)))) (a:=wl [zZ "kind",r.nm]) (b:=wl [zZ "of",j]) rfl rfl).trans a))⟩
 obtain⟨ρr,er,S2⟩:=S2
 have LL:iQ [wl r.own]=some (.int (r.own.length:Int)):=by rw [oe,ae]
 refine⟨some (wl ρr),fX (ρ1:=l1 s f kd hd pt b L (some (.str r.nm)) (some (uP r.el)) (some (wl r.own)) (some (wl [zZ "kind",r.nm]))) rfl (fX S2 ?_)⟩
 have X:(gd [9] (rO jX (zA " ") (zQ (d2 f6 (d2 f6 (fh 13) (gX (fH (zC "fields" fD)) iK (ig (zN (fh 12))))) (fh 12))))) (l1 s f kd hd pt b L (some (.str r.nm)) (some (uP r.el)) (some (wl r.own)) (some (wl ρr)))=some (.str (ln (ic r))):=by
  rw [lX,uO,ui]
  refine qc g ?_
  show d2 _ _ _ [some s,some (.int 3),some (.int 63),some (.bool true),some (.bool b),some f,some kd,some hd,some pt,none,some (.str r.nm),some (uP r.el),some (wl r.own),some (wl ρr),none,none,none]=_
  have p1:i6 iQ (zQ (fh 12)) [some s,some (.int 3),some (.int 63),some (.bool true),some (.bool b),some f,some kd,some hd,some pt,none,some (.str r.nm),some (uP r.el),some (wl r.own),some (wl ρr),none,none,none]=some (.int (r.own.length:Int)):=LL
  have p2:=(F1 (A:=fH (zC "fields" fD)) (a:=wl [zZ "fields"]) rfl p1).trans (Ir r.own)
  have fl:(if r.own=[] then [] else [zZ "fields"]).length<=1:=by split<;>simp
  have le:(xh r.el).length<=2:=by cases r.el<;>simp [xh]
  have p3:=(gf (o:=f6) (A:=fh 13) (a:=wl ρr) rfl p2).trans (kK ρr (if r.own=[] then [] else [zZ "fields"]) (by rw [er];simp;omega))
  have p4:=(gf (o:=f6) (B:=fh 12) (b:=wl r.own) p3 rfl).trans (kK (ρr++(if r.own=[] then [] else [zZ "fields"])) r.own (by rw [er];simp;omega))
  rw [p4,er,JK,Oq];simp
 have:=rJ (ρ:=l1 s f kd hd pt b L (some (.str r.nm)) (some (uP r.el)) (some (wl r.own)) (some (wl ρr))) (i:=9) (acc:=(L.map ln).map .str) rfl (by simp;omega) X
 rw [this]
 unfold l1
 rw [aI,aa,aZ,lU]
 rfl
theorem xm:∀ (ks:List KR) (L:List Lr) (n e o r:Od),(∀ r∈ks,GR (ic r))->L.length+ks.length<=900 ->
  ∃ n' e' o' r',kb (rN (.many [10,11,12])) o6 (ks.map xX) (l1 s f kd hd pt b L n e o r)=some (.nx (l1 s f kd hd pt b (L++ks.map ic) n' e' o' r'))
 | [],L,n,e,o,r,_,_=>⟨n,e,o,r,by rw [show L++List.map ic []=L from aS L];rfl⟩
 | k::ks,L,n,e,o,r,hg,hl=>by
  rw [ar] at hl
  obtain⟨r1,e1⟩:=Iu s f kd hd pt b (hg k (by simp)) (L:=L) (by omega) r
  obtain⟨n',e',o',r',e2⟩:=xm ks (L++[ic k]) (some (.str k.nm)) (some (uP k.el)) (some (wl k.own)) r1 (fun x hx=>hg x (by simp [hx])) (by simp;omega)
  refine⟨n',e',o',r',?_⟩
  rw [aN] at e2
  exact kZ (ρ':=l1 s f kd hd pt b L (some (.str k.nm)) (some (uP k.el)) (some (wl k.own)) r) rfl e1 e2
end
theorem Zc:Ph _root_.id:=F0 (tab:=[]) phI
theorem S8 {K:Lr}{h:Hd}(v:HV K h):GR (h.ws _root_.id):=by
 have o:=(v.hd Zc (F:=K.map fun k=>(k,.none)) fun k hk=>ag.mpr ⟨(k,.none),ag.mpr ⟨k,hk,rfl⟩,rfl⟩).1
 refine⟨?_,o.nm,o.len⟩
 obtain⟨w0,r,e,_⟩:=o.hd
 rw [e];simp
section
variable {ks:List KR} (hk:A0 ks) (vO:n<=3) {hs:List Hd} (Hi:HI (ks.map (·.nm)) n hs) {ps:List Lp}{q:Nat} (hq:q<=63) (hp:PI n q ps) (s f:PyData) (b:Bool)
def l2 (s f:PyData)(b:Bool)(ks:List KR)(hs:List Hd)(ps:List Lp)(L:List Lr)(x y z u v:Od):fu:=[some s,some (.int 3),some (.int 63),some (.bool true),some (.bool b),some f,some (zk ks),some (zh hs),some (.list (ps.map .list)),some (wl (L.map ln)),x,y,z,u,some jo,v,none]
include hk vO Hi hq hp in
theorem Iv {h:Hd}(hi:hs[i]?=some h){L:List Lr}(hl:L.length<=700)(x y z u:Od):∃ R,BK ks hs [] R []/\(∀ ws∈R,GR ws)/\R.length<=73/\o7 (l2 s f b ks hs ps L x y z u (some (.int (i:Int))))=some (.nx (l2 s f b ks hs ps (L++lD (h.ws _root_.id) R) x y z u (some (.int (i:Int))))):=by
 have hm:h∈hs:=cu hi
 have v:=Hi.hv h hm
 have kk:=Hi.kk h hm
 have gh:=S8 v
 have qt:i<hs.length:=by
  rcases Nat.lt_or_ge i hs.length with h1|h1
  ·exact h1
  ·rw [cK h1] at hi;cases hi
 rw [Hi.len] at qt
 have hip:i+1<ps.length:=by rw [hp.len];omega
 obtain⟨ns,n1,n2,n3⟩:=Li v kk
 have Wr:=cA hip
 obtain⟨R,k1,k2,k3,k4⟩:=xl hk vO Hi n1 n2 (fQ h) (ds:=ps[i+1]) (hp.ok _ Wr) (by have:=hp.le _ Wr;omega) (B:=[]) (by simp) (.nil []) (by simp) n3
 have lq:=hp.le _ Wr
 refine⟨R,k1,k2,by omega,?_⟩
 have ih:∀ (L9:Od),d2 gR (fh 7) (fh 15) [some s,some (.int 3),some (.int 63),some (.bool true),some (.bool b),some f,some (zk ks),some (zh hs),some (.list (ps.map .list)),L9,x,y,z,u,some jo,some (.int (i:Int)),none]=some (fQ h):=fun L9=>by
  rw [gf (A:=fh 7) (B:=fh 15) (a:=.list (hs.map fQ)) (b:=.int (i:Int)) rfl rfl,tH,NO,aC,hi];rfl
 have hr:=F8 v kk gh
 have S1:(gz (.sl 9) (gd [9] (jg 1 iU (zQ (zX (fh 7) (fh 15)))))) (l2 s f b ks hs ps L x y z u (some (.int (i:Int))))=some (.nx (l2 s f b ks hs ps (L++[h.ws _root_.id]) x y z u (some (.int (i:Int))))):=by
  have X:(gd [9] (jg 1 iU (zQ (zX (fh 7) (fh 15))))) (l2 s f b ks hs ps L x y z u (some (.int (i:Int))))=some (.str (ln (h.ws _root_.id))):=by
   rw [lX,uO,ui]
   show jg 1 iU _ [some s,some (.int 3),some (.int 63),some (.bool true),some (.bool b),some f,some (zk ks),some (zh hs),some (.list (ps.map .list)),none,x,y,z,u,some jo,some (.int (i:Int)),none]=_
   rw [AX,fY,ih,pw]
   exact hr
  have:=rJ (ρ:=l2 s f b ks hs ps L x y z u (some (.int (i:Int)))) (i:=9) (acc:=(L.map ln).map .str) rfl (by simp;omega) X
  rw [this]
  unfold l2
  rw [aI,aa,aZ,lU]
  rfl
 refine fX S1 ?_
 have ip:d2 gR (fh 8) (d2 f6 (fh 15) (zI 1)) (l2 s f b ks hs ps (L++[h.ws _root_.id]) x y z u (some (.int (i:Int))))=some (.list ps[i+1]):=by
  have e:d2 f6 (fh 15) (zI 1) (l2 s f b ks hs ps (L++[h.ws _root_.id]) x y z u (some (.int (i:Int))))=some (.int ((i+1:Nat):Int)):=rfl
  rw [gf (A:=fh 8) (a:=.list (ps.map .list)) rfl e,tH,NO,aC,aE hip];rfl
 have bd:(jg 6 lT (fx (zX (fh 7) (fh 15)) (fx (zX (fh 8) (d2 f6 (fh 15) (zI 1))) (fx (fh 6) (fx (fh 7) (fx (fh 3) (zQ (fH fD)))))))) (l2 s f b ks hs ps (L++[h.ws _root_.id]) x y z u (some (.int (i:Int))))=some (wl (R.map ln)):=by
  rw [AX,fY,show d2 gR (fh 7) (fh 15) (l2 s f b ks hs ps (L++[h.ws _root_.id]) x y z u (some (.int (i:Int))))=some (fQ h) from ih _,fY,ip]
  exact k4
 have a1:=kK ((L++[h.ws _root_.id]).map ln) (R.map ln) (by simp;omega)
 have a2:=RW ((L++[h.ws _root_.id]).map ln++R.map ln) [zZ "end"] (by simp;omega)
 have q1:=(gf (o:=f6) (A:=fh 9) (a:=wl ((L++[h.ws _root_.id]).map ln)) rfl bd).trans a1
 have q2:=(gf (o:=ER) (B:=fH (zC "end" fD)) (b:=wl [zZ "end"]) q1 rfl).trans a2
 rw [zb,SI,q2]
 simp only [az,DG,cE]
 have e:(L++lD (h.ws _root_.id) R).map ln=(L++[h.ws _root_.id]).map ln++R.map ln++[zZ "end"]:=by
  simp [lD];rfl
 unfold l2
 rw [e]
 rfl
def oj (acc:List (Hd×List Lr)):List Lr:=acc.flatMap fun h=>lD (h.1.ws _root_.id) h.2
def Ot (ks:List KR)(hs:List Hd)(acc:List (Hd×List Lr)):Prop:=∀ h∈acc,BK ks hs [] h.2 []/\(∀ ws∈h.2,GR ws)/\h.2.length<=73
theorem Ae {ks:List KR}{hs:List Hd}:∀ {acc:List (Hd×List Lr)},Ot ks hs acc->(oj acc).length<=acc.length*75
 | [],_=>by simp [oj]
 | h::acc,o=>by
  have ih:=Ae fun x (hx:x∈acc)=>o x (by simp [hx])
  have:=(o h (by simp)).2.2
  have e:oj (h::acc)=lD (h.1.ws _root_.id) h.2++oj acc:=rfl
  rw [e,aK,ar]
  have:(lD (h.1.ws _root_.id) h.2).length=h.2.length+2:=by simp [lD]
  omega
include hk vO Hi hq hp in
theorem vN {L0:List Lr}(Ko:L0.length<=3)(x y z u:Od):∀ (m i:Nat) (acc:List (Hd×List Lr)) (v:Od),i+m=n->acc.map (·.1)=hs.take i->Ot ks hs acc ->
  ∃ Ou v',Ou.map (·.1)=hs/\Ot ks hs Ou/\kb (rN (.one 15)) o7 ((List.range' i m).map fun (i:Nat)=>PyData.int (i:Int)) (l2 s f b ks hs ps (L0++oj acc) x y z u v)=some (.nx (l2 s f b ks hs ps (L0++oj Ou) x y z u v'))
 | 0,i,acc,v,hi,ha,ho=>⟨acc,v,by rw [ha,List.take_of_length_le (by rw [Hi.len];omega)],ho,rfl⟩
 | m+1,i,acc,v,hi,ha,ho=>by
  have qt:i<hs.length:=by rw [Hi.len];omega
  have hal:acc.length=i:=by
   have:=bQ List.length ha
   rw [ae,dB] at this
   omega
  have hb:=Ae ho
  have hg:hs[i]?=some hs[i]:=aE qt
  obtain⟨R,k1,k2,k3,e1⟩:=Iv hk vO Hi hq hp s f b hg (L:=L0++oj acc) (by rw [aK];omega) x y z u
  have eL:L0++oj acc++lD (hs[i].ws _root_.id) R=L0++oj (acc++[(hs[i],R)]):=by simp [oj]
  rw [eL] at e1
  obtain⟨Ou,v',h1,h2,e2⟩:=vN Ko x y z u m (i+1) (acc++[(hs[i],R)]) (some (.int (i:Int))) (by omega) (by rw [aI,ha,eC,hg];rfl) (fun h hh=>by
   rcases au.mp hh with hh|hh
   ·exact ho h hh
   ·simp at hh;subst hh;exact⟨k1,k2,k3⟩)
  refine⟨Ou,v',h1,h2,?_⟩
  rw [cQ,aa]
  exact kZ (ρ':=l2 s f b ks hs ps (L0++oj acc) x y z u (some (.int (i:Int)))) rfl e1 e2
end
theorem fn2 {F:Lp->Od}{A B:fu->Od}{a b:PyData}(hA:A ρ=some a)(hB:B ρ=some b):jg 2 F (fx A (zQ B)) ρ=F [a,b]:=by
 rw [AX,fY,hA,fY,hB,pw];rfl
theorem Ov {ns:List Int}(Ua:ns.length<=63):∃ t,VI t/\pU [.list (ns.map .int),.int 3,.int 63,.bool true]=some (wl (t.rows.map ln)):=by
 obtain⟨c0,e0⟩:=DX ns 0
 obtain⟨c1,e1⟩:=DX ns 1
 obtain⟨b,hb⟩:∃ b,jC (.int (c0 % 2)) (.int 0)=some (.bool b):=⟨_,SN _ _⟩
 obtain⟨f,hf,ef⟩:=Ac (c0 / 2) b
 obtain⟨d1,abN,ed1⟩:=Ac c1 b
 obtain⟨ks,hk,ek⟩:=Oa hf
 obtain⟨hs,n,vO,H,eh⟩:=DU abN hk
 obtain⟨l,hll,abO⟩:=Oo ns (some 3) (some 63)
 obtain⟨ds,hdl,hD,ec⟩:=Ad b l
 obtain⟨ps,hp,ep⟩:=Om hD (by omega) vO
 obtain⟨B,B1,B2,B3,eb⟩:=Ol hk vO H hf
 have YR:0<ps.length:=by rw [hp.len];omega
 have Wr:=cA YR
 have lq:=hp.le _ Wr
 obtain⟨R,k1,k2,k3,k4⟩:=xl hk vO H (ns:=["x","y","z"].map Str.ofString) (by simp) Oj jo (ds:=ps[0]) (hp.ok _ Wr) (by omega) B1 B2 B3 Ik
 have hkl:=hk.len
 obtain⟨x,y,z,u,ekk⟩:=xm (.list (ns.map .int)) f (zk ks) (zh hs) (.list (ps.map .list)) b ks [] none none none none hk.gr (by simp;omega)
 obtain⟨acc,v,a1,a2,ebb⟩:=vN hk vO H (q:=ds.length) (by omega) hp (.list (ns.map .int)) f b (L0:=ks.map ic) (by simp;omega) x y z u n 0 [] none (by omega) (by simp) (by intro h hh;simp at hh)
 rw [bu] at ekk
 have hb0:oj ([]:List (Hd×List Lr))=[]:=rfl
 rw [hb0,aS] at ebb
 have al:acc.length<=3:=by
  have:=bQ List.length a1
  rw [ae,H.len] at this
  omega
 have bl:=Ae a2
 let t:Tx:=⟨ks,acc,R⟩
 have eM:t.M=Mh hs:=by
  show acc.filterMap (fun h=>Wm h.1)=hs.filterMap Wm
  rw [← a1,d7];rfl
 have eF:t.Fu=Fh hs:=by
  show acc.filterMap (fun h=>VH h.1)=hs.filterMap VH
  rw [← a1,d7];rfl
 have eR:t.rows=ks.map ic++oj acc++lD [zZ "main"] R:=by
  show ks.map ic++(oj acc++lD [zZ "main"] R)=_
  rw [aN]
 have rl:t.rows.length<=700:=by
  rw [eR]
  have:(lD [zZ "main"] R).length=R.length+2:=by simp [lD]
  simp only [aK,ae,this]
  omega
 have hm:∀ h∈acc,h.1∈hs:=fun h hh=>by rw [← a1];exact ag.mpr ⟨h,hh,rfl⟩
 refine⟨t,⟨hk.rd,hk.kv,hk.gr,fun h hh=>H.hv _ (hm h hh),?_,fun h hh=>?_,?_,fun h hh=>(a2 h hh).2.1,k2,rl⟩,?_⟩
 ·show (acc.map (·.1.key)).Nodup
  have:acc.map (·.1.key)=hs.map (·.key):=by rw [← a1,cH];rfl
  rw [this];exact H.nd
 ·rw [eM,eF];exact(a2 h hh).1
 ·rw [eM,eF];exact k1
 have m0:=zW (i:=c0) (j:=2) (by omega)
 have v0:=RF (i:=c0) (j:=2) (by omega) (by omega)
 have g:sE [some (.list (ns.map .int)),some (.int 3),some (.int 63),some (.bool true),none,none,none,none,none,none,none,none,none,none,none,none,none]=some (.rt (wl (t.rows.map ln))):=by
  have e0':hZ [.list (ns.map .int),.int 0]=some (.int c0):=e0
  have Sj:hZ [.list (ns.map .int),.int 1]=some (.int c1):=e1
  refine fX (ρ1:=[some (.list (ns.map .int)),some (.int 3),some (.int 63),some (.bool true),some (.bool b),none,none,none,none,none,none,none,none,none,none,none,none]) (gF ?_) (fX (ρ1:=[some (.list (ns.map .int)),some (.int 3),some (.int 63),some (.bool true),some (.bool b),some f,none,none,none,none,none,none,none,none,none,none,none]) (gF ?_) (fX (ρ1:=[some (.list (ns.map .int)),some (.int 3),some (.int 63),some (.bool true),some (.bool b),some f,some (zk ks),none,none,none,none,none,none,none,none,none,none]) (gF ?_) (fX (ρ1:=[some (.list (ns.map .int)),some (.int 3),some (.int 63),some (.bool true),some (.bool b),some f,some (zk ks),some (zh hs),none,none,none,none,none,none,none,none,none]) (gF ?_) (fX (ρ1:=[some (.list (ns.map .int)),some (.int 3),some (.int 63),some (.bool true),some (.bool b),some f,some (zk ks),some (zh hs),some (.list (ps.map .list)),none,none,none,none,none,none,none,none]) (gF ?_) (fX (ρ1:=l1 (.list (ns.map .int)) f (zk ks) (zh hs) (.list (ps.map .list)) b [] none none none none) rfl (fX (tI rfl ekk) (fX (ρ1:=l2 (.list (ns.map .int)) f b ks hs ps (ks.map ic) x y z u none) rfl (fX (tI (xg (n:=n) (by omega) _ _ ?_) ebb) (fX (ρ1:=[some (.list (ns.map .int)),some (.int 3),some (.int 63),some (.bool true),some (.bool b),some f,some (zk ks),some (zh hs),some (.list (ps.map .list)),some (wl ((ks.map ic++oj acc).map ln)),x,y,z,u,some jo,v,some (.list (B.map wl))]) ?_ ?_)))))))))
  ·rw [uO,ui]
   simp? only [e0',m0,hb]
  ·rw [uO,ui]
   simp? only [e0',v0,ef]
  ·rw [uO,ui]
   simp? only [ek]
  ·rw [uO,ui]
   simp? only [Sj,ed1,eh]
  ·rw [uO,ui]
   have qs:lL (gX (fh 0) (ig (fh 1)) (ig (fh 2))) [some (.list (ns.map .int)),some (.int 3),some (.int 63),some (.bool true),some (.bool b),some f,some (zk ks),some (zh hs),none,none,none,none,none,none,none,none,none]=some (l.map .int):=by
    simp? only [K0,abO]
   have c:=oN (q:=lL (gX (fh 0) (ig (fh 1)) (ig (fh 2)))) (caps:=[(4,"_law_digits")]) (T:=mJ) (C:=kT) (ρ:=[some (.list (ns.map .int)),some (.int 3),some (.int 63),some (.bool true),some (.bool b),some f,some (zk ks),some (zh hs),none,none,none,none,none,none,none,none,none]) (ds:=l.map .int) qs (by rw [ae];omega) ec
   have hl:i6 iQ (zQ (fh 7)) [some (.list (ns.map .int)),some (.int 3),some (.int 63),some (.bool true),some (.bool b),some f,some (zk ks),some (zh hs),none,none,none,none,none,none,none,none,none]=some (.int (n:Int)):=by
    simp? only [oe,ae,H.len]
   exact(fn2 c hl).trans ep
  ·show iQ [.list (hs.map fQ)]=_
   rw [oe,ae,H.len]
  ·refine gF (O:=[9]) (ρ:=[some (.list (ns.map .int)),some (.int 3),some (.int 63),some (.bool true),some (.bool b),some f,some (zk ks),some (zh hs),some (.list (ps.map .list)),some (wl ((ks.map ic++oj acc).map ln)),x,y,z,u,some jo,v,none]) ?_
   rw [uO,ui]
   show jg 4 lV _ [some (.list (ns.map .int)),some (.int 3),some (.int 63),some (.bool true),some (.bool b),some f,some (zk ks),some (zh hs),some (.list (ps.map .list)),none,x,y,z,u,some jo,v,none]=_
   simp? only [eb]
  ·have bd:(jg 6 lT (fx (fh 14) (fx (zX (fh 8) (zI 0)) (fx (fh 6) (fx (fh 7) (fx (fh 3) (zQ (fh 16)))))))) [some (.list (ns.map .int)),some (.int 3),some (.int 63),some (.bool true),some (.bool b),some f,some (zk ks),some (zh hs),some (.list (ps.map .list)),some (wl ((ks.map ic++oj acc).map ln)),x,y,z,u,some jo,v,some (.list (B.map wl))]=some (wl (R.map ln)):=by
    have ip:d2 gR (fh 8) (zI 0) [some (.list (ns.map .int)),some (.int 3),some (.int 63),some (.bool true),some (.bool b),some f,some (zk ks),some (zh hs),some (.list (ps.map .list)),some (wl ((ks.map ic++oj acc).map ln)),x,y,z,u,some jo,v,some (.list (B.map wl))]=some (.list ps[0]):=by
     rw [gf (A:=fh 8) (B:=dC (.int 0)) (a:=.list (ps.map .list)) (b:=.int ((0:Nat):Int)) rfl rfl,tH,NO,aC,aE YR];rfl
    rw [AX,fY,fY,ip]
    exact k4
   have a3:=kK ((ks.map ic++oj acc).map ln) [zZ "main"] (by simp;omega)
   have a4:=kK ((ks.map ic++oj acc).map ln++[zZ "main"]) (R.map ln) (by simp;omega)
   have a5:=kK ((ks.map ic++oj acc).map ln++[zZ "main"]++R.map ln) [zZ "end"] (by simp;omega)
   have q1:=(gf (o:=f6) (A:=fh 9) (B:=fH (zC "main" fD)) (ρ:=[some (.list (ns.map .int)),some (.int 3),some (.int 63),some (.bool true),some (.bool b),some f,some (zk ks),some (zh hs),some (.list (ps.map .list)),some (wl ((ks.map ic++oj acc).map ln)),x,y,z,u,some jo,v,some (.list (B.map wl))]) (a:=wl ((ks.map ic++oj acc).map ln)) (b:=wl [zZ "main"]) rfl rfl).trans a3
   have q2:=(gf (o:=f6) q1 bd).trans a4
   have q3:=(gf (o:=f6) (B:=fH (zC "end" fD)) (b:=wl [zZ "end"]) q2 rfl).trans a5
   rw [p7,q3,eR]
   have e:(ks.map ic++oj acc++lD [zZ "main"] R).map ln=(ks.map ic++oj acc).map ln++[zZ "main"]++R.map ln++[zZ "end"]:=by
    simp [lD];exact⟨rfl,rfl⟩
   rw [e];rfl
 rw [pU,kY,ie]
 show pG (sE [some (.list (ns.map .int)),some (.int 3),some (.int 63),some (.bool true),none,none,none,none,none,none,none,none,none,none,none,none,none])=_
 rw [g,ji]
theorem Zd {t:Tx}(T:VI t):∀ ws∈t.rows,GR ws:=by
 intro ws hw
 rcases au.mp hw with hw|hw
 ·obtain⟨r,hr,rfl⟩:=ag.mp hw;exact T.kg r hr
 have key:∀ (hd:Lr) (r:List Lr),GR hd->(∀ ws∈r,GR ws)->∀ ws∈lD hd r,GR ws:=fun hd r g h ws hw=>by
  rcases ah.mp hw with rfl|hw
  ·exact g
  ·rcases au.mp hw with hw|hw
   ·exact h ws hw
   ·simp at hw;subst hw;exact DT
 rcases au.mp hw with hw|hw
 ·obtain⟨h,hh,hw⟩:=List.mem_flatMap.mp hw
  exact key _ _ (S8 (T.hv h hh)) (T.gr h hh) ws hw
 ·exact key _ _ JD T.mg ws hw
theorem Ox:∀ ns:List Int,ns.length<=63->(∀ x∈ns,lK x=true)->Nq [.list (ns.map .int)]=some (.bool true):=by
 intro ns Ua _
 obtain⟨t,T,el⟩:=Ov Ua
 obtain⟨c,ec⟩:=DX ns 2
 have ec':hZ [.list (ns.map .int),.int 2]=some (.int c):=ec
 have gr:=Zd T
 have hl:=T.len
 have m:=zW (i:=c) (j:=2) (by omega)
 have v:=RF (i:=c) (j:=2) (by omega) (by omega)
 have q:=SN (c % 2) 1
 obtain⟨abP,p1,et⟩:=Lc gr (by omega) (c / 2)
 obtain⟨abQ,p2,en⟩:=N8 gr (by omega) (c / 2)
 have key:∃ tab,SV tab=true/\(i9 (fB (d2 jC (d2 gW (fh 2) (zI 2)) (zI 1))) (fL (gd [] (jg 2 mO (fx (fh 1) (zQ (d2 yh (fh 2) (zI 2)))))) 1) (fL (gd [] (jg 2 lW (fx (fh 1) (zQ (d2 yh (fh 2) (zI 2)))))) 1)) [some (.list (ns.map .int)),some (wl (t.rows.map ln)),some (.int c),none]=some (.nx [some (.list (ns.map .int)),some (wl ((t.rows.map (turn (qb tab))).map ln)),some (.int c),none]):=by
  have Tt:(fB (d2 jC (d2 gW (fh 2) (zI 2)) (zI 1))) [some (.list (ns.map .int)),some (wl (t.rows.map ln)),some (.int c),none]=some (c % 2==1):=by
   rw [oa,gf (o:=jC) (B:=dC (.int 1)) (b:=.int 1) (iY (m:=2) (B:=fh 2) (C:=dC (.int 2)) (x:=c) rfl rfl (by omega)) rfl,q];rfl
  have dv:d2 yh (fh 2) (zI 2) [some (.list (ns.map .int)),some (wl (t.rows.map ln)),some (.int c),none]=some (.int (c / 2)):=(gf (A:=fh 2) (B:=dC (.int 2)) (a:=.int c) (b:=.int 2) rfl rfl).trans v
  cases hb:(c % 2==1) with
  | true =>
   rw [hb] at Tt
   refine⟨abP,p1,nA Tt (gF ?_)⟩
   rw [ui,AX,fY,fY,dv]
   exact et
  | false =>
   rw [hb] at Tt
   refine⟨abQ,p2,kz Tt (gF ?_)⟩
   rw [ui,AX,fY,fY,dv]
   exact en
 obtain⟨tab,hp,S3⟩:=key
 obtain⟨p,er,rt⟩:=N7 (F0 hp) T
 have gr':∀ ws∈t.rows.map (turn (qb tab)),GR ws:=fun ws hw=>by obtain⟨w0,h0,rfl⟩:=ag.mp hw;exact(gr w0 h0).turn (F0 hp)
 have jn:=Jz gr' (by rw [ae];omega)
 have S4:(fL (gd [] (jg 1 jS (zQ (rO jX (zA "\n") (zQ (fh 1)))))) 3) [some (.list (ns.map .int)),some (wl ((t.rows.map (turn (qb tab))).map ln)),some (.int c),none]=some (.nx [some (.list (ns.map .int)),some (wl ((t.rows.map (turn (qb tab))).map ln)),some (.int c),some p]):=by
  refine gF ?_
  have j1:rO jX (zA "\n") (zQ (fh 1)) [some (.list (ns.map .int)),some (wl ((t.rows.map (turn (qb tab))).map ln)),some (.int c),none]=some (.str (tx (t.rows.map (turn (qb tab))))):=by
   rw [KY,vv,fY]
   exact jn
  rw [ui,AX,fY,j1]
  exact er
 have S5:(gu (rB (jg 2 jZ (fx (fh 3) (zQ (fh 1)))) (jg 2 jZ (fx (fh 3) (zQ (fh 1)))))) [some (.list (ns.map .int)),some (wl ((t.rows.map (turn (qb tab))).map ln)),some (.int c),some p]=some (.rt (.bool true)):=by
  have r1:jg 2 jZ (fx (fh 3) (zQ (fh 1))) [some (.list (ns.map .int)),some (wl ((t.rows.map (turn (qb tab))).map ln)),some (.int c),some p]=some (.bool true):=rt
  rw [p7,Ny,r1]
  show (HM (some true) _ _ _).map _=_
  rw [xP,r1];rfl
 refine YH (ρ0:=[some (.list (ns.map .int)),none,none,none]) (ρ1:=[some (.list (ns.map .int)),some (wl (t.rows.map ln)),none,none]) (ρ2:=[some (.list (ns.map .int)),some (wl (t.rows.map ln)),some (.int c),none]) (by rw [ie];rfl) (gF ?_) (gF ?_) S3 S4 S5
 ·rw [ui,AX];exact el
 ·rw [ui,AX];exact ec'
end K01
namespace PySem.W.Fast
def tw12718019777116710130:=()
def tw13096989898992103427:=()
def tw6294851315304045438:=()
def tw1392706800092226726:=()
def tw5098649483768617061:=()
def tw1944315254164129279:=()
def tw10250679517896692912:=()
def tw7479962102497701217:=()
def tw10995875444082603297:=()
def tw15735527020213812609:=()
def tw17859015203284770040:=()
def tw10971001931181737819:=()
def tw10852749754369843127:=()
def tw5475838264069012226:=()
def tw17263199863261152084:=()
def tw16304177176119400974:=()
def tw596150445386077042:=()
def tw7038666751527083908:=()
def tw2690334030376619403:=()
def tw12507760141008508435:=()
def tw18241733539646821627:=()
def tw2245506094555606136:=()
def tw17300498959287570835:=()
def tw8331097112262691038:=()
def tw5771570170911504622:=()
def tw7248427946425256807:=()
def tw17734209620102368520:=()
def tw5810320963139046390:=()
def tw5079396939355993802:=()
def tw2502518629248459332:=()
def tw16016466175190505665:=()
def tw14806041060467311009:=()
def tw4511830158914960832:=()
def tw9166759584144753736:=()
def tw18318312789818487046:=()
def tw14608205692327968832:=()
def tw4353096095390469818:=()
def tw17316551230778337639:=()
def tw1179939419584683971:=()
def tw18336366450092952937:=()
def tw5997350392392085967:=()
def tw1586258834024835063:=()
def tw6670550082181597180:=()
def tw9271878105101182993:=()
def tw16284926071317762081:=()
end PySem.W.Fast
open PySem PySem.W PyProof.Rows
set_option maxRecDepth 100000 in
set_option maxHeartbeats 0 in
theorem PySem.Challenge.cw_pointsure_k01_read_and_shown_holds : PySem.Challenge.rw_pointsure_k01_read_and_shown.Holds := by
  w_on; o_law; k_head; (case hw => w_witness2)
  k_fill
  refine L2.Kh (l := PySem.Challenge.rw_pointsure_k01_read_and_shown) (n := 63) (k := 8) (x := "_law_script") (f := K01.Nq) rfl (by decide) rfl ⟨rfl, by decide, by decide⟩ (fun w h Y => PySem.W.kIn_of Y) ?F K01.Ox
  case F =>
    intro w mg fa h KX G hmg
    refine K01.U8 ?zM hmg
    constructor
    all_goals first
      | (refine PySem.W.mg_none_of KX G ?_; first | k_is | decide)
      | (apply L2.Ya <;> first | k_is | decide)
      | (apply L2.fnAt KX G <;> first | k_is | decide)
      | (apply L2.aa9 <;> first | k_is | decide)
      | (apply L2.U6 KX G <;> first | k_is | decide)
      | (apply K01.xO KX G <;> first | k_is | decide)
      | (apply K01.y9 KX G <;> first | k_is | decide)
      | (apply K01.KW KX G <;> first | k_is | decide)
      | (apply L2.intAt KX G <;> first | k_is | decide)
