import PyProof.Rows.All
import Wide.All
import OpenK.AllK
import Wide.FinOn
import Lean
import PyProof.EqAt
import PyProof.EqKinds
import PyProof.TupleCall
import PyProof.ExcInit
import PyProof.ExcClass3
import PyProof.StationsW
import PyProof.ExcArgs
import PyProof.NsDelKeeps
import KE.KIsAll
import PyProof.DictWalks
import KE.KRevIter
import KE.KRevSl
import PyProof.AttrMissHeap
import PySem.Challenge.RW_pointsure_k02_no_program
noncomputable section
abbrev Od:=Option PySem.PyData
abbrev Lp:=List PySem.PyData
abbrev Lr:=List PySem.Str
abbrev Lw:=List PySem.Value
abbrev Ow:=Option PySem.Value
abbrev Ax:=List (PySem.Addr × PySem.Obj)
abbrev Px:=PySem.Value → PySem.Shared → Prop
abbrev Lx:=List PySem.Expr
abbrev Fg:=PySem.W.Frag
set_option Elab.async false
set_option linter.all false
set_option hygiene false
set_option compiler.extract_closed false
set_option genSizeOfSpec false
set_option bootstrap.genMatcherCode false
set_option genSizeOf false
set_option genInjectivity false
set_option maxRecDepth 100000
set_option maxHeartbeats 4000000
theorem zq0(h:1=1:=by rfl):1=1:=h
theorem zp0(h:1=1:=by decide):1=1:=h
def zzz(s:String)(v:Array (Lean.TSyntax `term)):Lean.MacroM (Lean.TSyntax `term):=do
 let k<-(((s.replace "(" " ( ").replace ")" " ) ").splitOn " ").foldlM (λ(k:List (Array (Lean.TSyntax `term))) t=>do
  let q:=λx=>match k with|a::r=>a.push x::r|r=>r
  match t with
  |""=>pure k
  |"("=>pure (#[]::k)
  |")"=>match k with|a::b::r=>pure (b.push (Lean.Syntax.mkApp a[0]! (a.extract 1 a.size))::r)|r=>pure r
  |"_"=>return q (<-`(_))
  |"?"=>return q (<-`(?_))
  |"!"=>return q (<-`(‹_›))
  |"#"=>return q (<-`(⟨rfl,rfl,rfl,rfl⟩))
  |"@"=>return q (<-`(fun _ _ _ _=>?_))
  |"%"=>return q (<-`(fun _ h=>(List.mem_singleton.mp h) ▸ ?_))
  |"[1"=>return q (<-`([_]))
  |"[2"=>return q (<-`([_,_]))
  |"0"=>return q v[0]!
  |"1"=>return q v[1]!
  |"2"=>return q v[2]!
  |t=>if t.front=='.' then return q (<-`(.$(Lean.mkIdent (t.drop 1).toString.toName))) else if t.front=='~' then return q (Lean.Syntax.mkStrLit (t.drop 1).toString) else return q (Lean.mkIdent t.toName)) [#[]]
 let a:=k.head!
 return Lean.Syntax.mkApp a[0]! (a.extract 1 a.size)
theorem zq1(h:1=1:=by first|exact .inl rfl|exact .inr rfl|assumption):1=1:=h
theorem zq2(h:1=1:=by intro _;rfl):1=1:=h
theorem zq3(h:1=1:=by first|exact cC rfl|exact b6 rfl):1=1:=h
theorem zq4(h:1=1:=by first|exact cC rfl|exact b6 (cC rfl)|exact b6 (b6 rfl)):1=1:=h
theorem zq5(h:1=1:=by exact{rfl,rfl,rfl,by decide +kernel,rfl,by decide +kernel,by decide +kernel}):1=1:=h
theorem zq6(h:1=1:=by intro _ _ _ _ _ _;(repeat' intro _);exact rfl):1=1:=h
theorem zq7(h:1=1:=by exact{rfl,by decide +kernel,by decide +kernel,rfl,aY}):1=1:=h
theorem zq8(h:1=1:=by repeat' (first|exact aY|refine{{rfl,.inl rfl,rfl},?_}|refine{{rfl,.inr rfl,rfl},?_})):1=1:=h
theorem zq9(h:1=1:=by decide +kernel):1=1:=h
theorem zq10(h:1=1:=by with_unfolding_all rfl):1=1:=h
theorem zq11(h:1=1:=by first|exact .inl (by decide)|exact .inr (.inl rfl)|exact .inr (.inr rfl)):1=1:=h
theorem zq12(h:1=1:=by size_fits):1=1:=h
theorem zq13(h:1=1:=by exact λ_ _=>rfl):1=1:=h
theorem zq14(h:1=1:=by first|exact Jo _|with_unfolding_all rfl):1=1:=h
theorem zq15(h:1=1:=by simp):1=1:=h
local macro_rules|`(zr $n:num $t)=>`(autoParam $t $(Lean.mkIdent (.str (.mkSimple s!"zq{n.getNat}") "_auto_1")))|`(zr0 $t)=>`(autoParam $t zq0._auto_1)|`(zd0 $t)=>`(autoParam $t zp0._auto_1)
local macro_rules|`({$a:term,*})=>`(⟨$a,*⟩)
local macro_rules|`(tactic|sleep 1)=>`(tactic|refine Classical.byContradiction fun qQ9=>?_)|`(tactic|sleep 2)=>`(tactic|refine qQ9 ?_)
local macro_rules(kind:=Lean.Parser.Command.declaration)|s=>do (if s.getPos?.isNone then Lean.Macro.throwUnsupported else pure ());let s<-(match s with|`(def $n $g:optDeclSig $v:declVal)=>`(noncomputable def $n $g $v:declVal)|_=>pure ⟨s⟩);return s.raw.rewriteBottomUp (·.setInfo .none)
def aa:=@PySem.wpAny_bind
def ae:=@List.map_cons
def af:=@PySem.Heap.get?_push_of_some
def ag:=@List.length_map
def ah:=@List.mem_cons
def ai:=@if_pos
def aj:=@Option.map_eq_some_iff
def ak:=@PySem.wpAny_pure
def ao:=@List.mem_cons_of_mem
def aq:=@if_neg
def ar:=@List.mem_append_right
def au:=@PySem.Heap.lt_size
def av:=@List.getElem?_set_ne
def aw:=@List.mem_map
def ax:=@List.length_cons
def ay:=@List.mem_append
def az:=@List.length_append
def aA:=@List.mem_append_left
def aB:=@List.size_toArray
def aD:=@List.map_append
def aE:=@decide_eq_false
def aF:=@beq_eq_false_iff_ne
def aG:=@PySem.Heap.get?_push_size
def aH:=@Nat.le_refl
def aI:=@List.all_eq_true
def aJ:=@Nat.lt_of_lt_of_le
def aK:=@List.append_nil
def aL:=@Option.bind_some
def aM:=@List.getElem?_map
def aN:=@List.getElem?_eq_getElem
def aO:=@Bool.and_eq_true
def aP:=@List.getElem?_append_right
def aQ:=@List.getElem?_set_self
def aR:=@Nat.ne_of_lt
def aS:=@List.getElem?_eq_some_iff
def aT:=@PySem.Heap.get?_update_other
def aU:=@List.not_mem_nil
def aV:=@Bool.false_ne_true
def aW:=@decide_eq_true
def aX:=@List.nodup_append
def aY:=@True.intro
def aZ:=@PySem.SeqAt.canLay_of_shaped
def bb:=@List.append_assoc
def bc:=@List.perm_append_comm
def bf:=@List.getElem?_append_left
def bh:=@Nat.lt_irrefl
def bj:=@List.length_pos_iff
def bp:=@PySem.wpAny_holding
def bq:=@PySem.Heap.get?_update_self
def br:=@decide_eq_true_eq
def bt:=@List.getElem?_cons_succ
def bu:=@List.mem_cons_self
def bw:=@beq_iff_eq
def bx:=@List.lookup_cons
def bA:=@PySem.wpAny_Call_Name_kw
def bB:=@List.getElem?_cons_zero
def bE:=@List.mem_filterMap
def bF:=@PyProof.Rows.callWith_type1
def bG:=@congrArg
def bH:=@PyProof.Rows.slot_tuple_getitem
def bJ:=@Nat.le_trans
def bK:=@List.replicate_succ
def bL:=@List.map_nil
def bM:=@PySem.wpAny_mono
def bN:=@List.nodup_cons
def bO:=@List.nil_append
def bP:=@List.length_take
def bQ:=@PySem.mem_of_lookup
def bR:=@List.getElem?_replicate
def bT:=@PySem.Calls.spliced_cons
def bU:=@List.mem_of_getElem?
def bV:=@List.forall_mem_cons
def bW:=@Option.some.inj
def bX:=@List.any_cons
def bY:=@List.length_drop
def bZ:=@List.cons_append
def b5:=@List.filterMap_cons
def b6:=@Or.inr
def cb:=@List.mem_filter
def cf:=@List.find?_cons
def cg:=@PySem.Calls.spliced_nil
def cj:=@PySem.wpAny_field
def cm:=@Option.map_some
def cp:=@List.getElem?_eq_none
def cq:=@Bool.false_eq_true
def cu:=@Option.join_some
def cv:=@PySem.lookup_relabel_local
def cw:=@PySem.Around.under_plainId
def cx:=@or_false
def cy:=@PySem.F.plainAttrs_list
def cz:=@Bool.or_eq_true
def cA:=@PySem.F.plain_extend_loop
def cC:=@Or.inl
def cD:=@List.take_of_length_le
def cE:=@Nat.le_add_right
def cF:=@List.getElem_mem
def cG:=@List.mem_singleton
def cH:=@PySem.F.slot_dict_get
def cI:=@List.drop_eq_getElem_cons
def cJ:=@PySem.wpAny_execs_nil
def cK:=@PySem.wpAny_passesOwn
def cL:=@PySem.codeAny_builtin
def cM:=@PySem.wpAny_updateSeq
def cN:=@PySem.wpAny_truthy_bool
def cO:=@PySem.codeAny_mono
def cQ:=@PySem.wpAny_typeOf
def cS:=@PySem.wpAny_newObj_type
def cT:=@List.flatten_cons
def cU:=@Function.comp_def
def cV:=@List.flatMap_cons
def cW:=@PySem.call_meets
def cX:=@Array.length_toList
def cY:=@if_true
def cZ:=@List.flatMap_append
def da:=@PyProof.Rows.callWith_builtin1
def de:=@PySem.wpAny_callSpecial?_slot
def df:=@Nat.ne_of_gt
def dh:=@PySem.Calls.callWith_builtin
def dk:=@PySem.tupleKind_room_in1
def dm:=@Array.getElem?_eq_none
def dn:=@List.length_nil
def dq:=@List.forIn_cons
def du:=@Bool.or_false
def dw:=@PySem.plainId_quiet
def dy:=@Bool.beq_comm
def dz:=@List.Perm.append_left
def dA:=@of_decide_eq_true
def dB:=@PySem.Str.length_append
def dD:=@PySem.Calls.Name_function_global
def dE:=@List.getD_eq_getElem?_getD
def dF:=@List.map_map
def dG:=@Array.toList_inj
def dH:=@PySem.F.args_tuple_add_2
def dJ:=@PySem.wpAny_comprehension_free
def dM:=@PySem.F.entry_tuple_add
def dN:=@PySem.F.args_dict_get_2
def dO:=@Nat.le_of_lt
def dP:=@PySem.wpAny_pyNext_list_item
def dQ:=@PySem.wpAny_pyIter_list
def dR:=@PySem.F.slot_tuple_add
def dS:=@PySem.F.entry_dict_get
def dU:=@PySem.Str.ofString_eq_toList
def dW:=@List.Perm.append_right
def dX:=@Int.toNat_natCast
def dY:=@PySem.wpAny_nextOf_list_item
def dZ:=@PySem.wpAny_pyNext_list_end
def d8:=@PySem.builtinLookup_eq_fast
def d9:=@Nat.lt_succ_self
def eA:=@PySem.wpAny_call_entry
def eC:=@PySem.typeIs_str
def eD:=@Nat.le_of_not_lt
def eE:=@PySem.F.slot_str_split
def eG:=@List.range'_succ
def eI:=@Iff.rfl
def eJ:=@Nat.zero_le
def eK:=@PySem.Calls.evalArgs_plain
def eO:=@PySem.wpAny_specialOf
def eP:=@PySem.F.slot_zip_next
def eQ:=@PyProof.Rows.canLayAll_strs'
def eS:=@List.dropLast_concat_getLast
def eU:=@ne_true_of_eq_false
def eV:=@Array.getElem?_push
def eX:=@List.map_congr_left
def eY:=@Nat.lt_trans
def eZ:=@PySem.Heap.size_push
def e9:=@if_false
def fe:=@List.filterMap_map
def fg:=@List.forIn_nil
def fh:=@PySem.F.args_str_split_2
def fi:=@List.take_succ
def ft:=@List.mem_or_eq_of_mem_set
def fu:=@Option.isSome_map
def fw:=@PySem.F.entry_str_split
def fy:=@PySem.Paired.length
def fz:=@PySem.noFill_tuple_add
def fA:=@Nat.min_le_right
def fC:=@PySem.F.plainAttrs_dict
def fD:=@List.zipIdx_cons
def fE:=@beq_self_eq_true
def fF:=@decide_eq_false_iff_not
def fG:=@PySem.concat_meets
def fH:=@PySem.wpAny_rule
def fJ:=@List.of_mem_zip
def fK:=@List.length_set
def fL:=@PySem.typeLookup_type
def fM:=@PySem.F.type_dict_get
def fO:=@List.singleton_append
def fP:=@Nat.le_succ
def fQ:=@PySem.wpAny_seqItems
def fT:=@PySem.Str.cps_append
def fU:=@List.mem_of_mem_take
def fV:=@List.getElem?_range
def fW:=@Int.toNat_of_nonneg
def fX:=@List.map_take
def fY:=@Nat.zero_add
open Option renaming some→Y
open Option renaming none→Z
open PySem renaming PyData→fZ
variable  {x t y c:PySem.Str}{u:PySem.Value}{a C:PySem.Addr}{b e tg iter:PySem.Expr}{w:PySem.World}{h base:PySem.Heap}{α:Type}{pins:Ax}{s:PySem.Shared}{i j n:Nat}{A:PySem.Around}{E:Px}{pos p apos p2 gv:PySem.Pos}{st:PySem.Stmt}{es:Lx}{l:List (PySem.Str×Bool)}{R:PySem.Result->PySem.Shared->Prop}{pl:PySem.Sem Bool}{dx:Option PySem.Addr}{mg:PySem.Str->Ow}{fd:PySem.FuncData}{ps:Lr}{ds:Lp}{scope:PySem.Scope}{items:Array PySem.Value}{d bl:PySem.PyData}{jG:List (PySem.PyData×PySem.PyData)}{caps:List (Nat×PySem.Str)}{dp ov:Bool}{O:List Nat}{F F₀:List (PySem.Str×PySem.PyData)}{hs:List (PySem.Str×PySem.Pos×List PySem.Stmt×PySem.Pos)}
local macro_rules
|`(zZ $a)=>zzz "PySem.Str.ofString 0" #[a]
| `(zK 0) => `(by kernel_rfl)
|`(zB $s)=>zzz "Array.size (PySem.Heap.objs (PySem.Shared.heap 0))" #[s]
|`(zg $x)=>zzz "Eq (BEq.beq 0 (PySem.Str.ofString ~__debug__)) Bool.false" #[x]
|`(zE $e $s $x)=>zzz "Eq (PySem.starEach (List.cons 0 1) (L2.Cx.env 2)) (List.cons (Prod.mk Bool.false (PySem.eval 0 (L2.Cx.env 2))) (PySem.starEach 1 (L2.Cx.env 2)))" #[e,s,x]
| `(zy $a $n) => `({ cls := .type "tuple", data := .seq $a $n })
| `(zl $a $n) => `({ cls := .type "list", data := .seq $a $n })
|`(zw $x)=>zzz "PySem.wpAny (PySem.model (L2.Cx.prog 0) (L2.Cx.w 0)) (L2.Cx.A 0)" #[x]
| `(zi $i) => `(.int ($i : Int))
namespace L2
open PySem PySem.Spec PyProof.Rows
abbrev Key:=Sum Int Str
def x5:Key->Value->Bool
 |.inl k,v=>Value.isInt k v
 |.inr x,v=>Value.isStrOf x v
def SQ(w:World):Key->Int
 |.inl k=>hashInt k
 |.inr x=>hashStr w x
def iD:∀{k:Key}{v:Value},x5 k v=true->(∃i t,k=Sum.inl i/\v=Value.int i t)\/(∃x t,k=Sum.inr x/\v=Value.str x t)
 |.inl i,v,h=>by obtain⟨t,e⟩:=Value.isInt_shape (k:=i) (v:=v) h;exact .inl {(i),t,rfl,e}
 |.inr x,v,h=>by obtain⟨t,e⟩:=Value.isStrOf_shape (x:=x) (v:=v) h;exact .inr {(x),t,rfl,e}
def Hm(i:Int)(t:Tok):x5 (.inl i) (.int i t)=true:=by simp[x5,Value.isInt]
def Hn(x:Str)(t:Tok):x5 (.inr x) (.str x t)=true:=by simp[x5,Value.isStrOf]
def SR(a b:Int):decide ((Sum.inl a:Key)=Sum.inl b)=(a==b):=by
 by_cases e:a=b
 .subst e;simp
 .have h:¬ (Sum.inl a:Key)=Sum.inl b:=λq=>e (Sum.inl.inj q);rw[aE h];exact(aF.mpr e).symm
def SS(a b:Str):decide ((Sum.inr a:Key)=Sum.inr b)=decide (a=b):=by
 by_cases e:a=b
 .subst e;simp
 .have h:¬ (Sum.inr a:Key)=Sum.inr b:=λq=>e (Sum.inr.inj q);rw[aE h,aE e]
def SU(a:Int)(b:Str):decide ((Sum.inl a:Key)=Sum.inr b)=false:=aE (λq=>nomatch q)
def SW(a:Str)(b:Int):decide ((Sum.inr a:Key)=Sum.inl b)=false:=aE (λq=>nomatch q)
def gI(c:Program)(w:World):PySem.KeyKind c w Key where
 is:=x5
 hash:=SQ w
 inj:=λv a b m g=>by
  rcases iD m with ⟨i,t,rfl,rfl⟩ | ⟨x,t,rfl,rfl⟩
  .rcases iD g with ⟨j,u,rfl,e⟩ | ⟨y,u,rfl,e⟩
   .injection e with d _;rw[d]
   .exact nomatch e
  .rcases iD g with ⟨j,u,rfl,e⟩ | ⟨y,u,rfl,e⟩
   .exact nomatch e
   .injection e with d _;rw[d]
 byValue:=λk v h=>by rcases iD h with ⟨i,t,rfl,rfl⟩ | ⟨x,t,rfl,rfl⟩<;>rfl
 pyHash:=λf h=>by
  rcases iD f with ⟨i,t,rfl,rfl⟩ | ⟨x,t,rfl,rfl⟩
  .exact wpAny_pyHash_int h
  .exact wpAny_pyHash_str h
 eqBool:=λl f h=>by
  rcases iD l with ⟨i,t,rfl,rfl⟩ | ⟨x,t,rfl,rfl⟩
  .rcases iD f with ⟨j,u,rfl,rfl⟩ | ⟨y,u,rfl,rfl⟩
   .rw[SR] at h;exact wpAny_eqBool_int h
   .rw[SU] at h;exact SeqAt.EqAt.int_str i t y u _ _ _ _ h
  .rcases iD f with ⟨j,u,rfl,rfl⟩ | ⟨y,u,rfl,rfl⟩
   .rw[SW] at h;exact SeqAt.EqAt.str_int x t j u _ _ _ _ h
   .rw[SS] at h;exact wpAny_eqBool_str h
 «strs»:=λk x t v h=>by
  rcases iD h with ⟨i,u,rfl,e⟩ | ⟨y,u,rfl,e⟩
  .exact nomatch e
  .injection e with d _;subst d;cases v<;>rfl
def BI(a:Program)(w:World)(i:Int)(t:Tok):(gI a w).is (.inl i) (.int i t)=true:=Hm i t
def o9(a:Program)(w:World)(x:Str)(t:Tok):(gI a w).is (.inr x) (.str x t)=true:=Hn x t
end L2
variable  {xs:List (List L2.Key×PySem.Addr×PySem.Value)}
namespace L2
open PySem PySem.Spec PyProof.Rows
inductive V where
 |lz|bl (b:Bool)|int (i:Int)|str (x:Str)|V0 (b:Array UInt8)|YQ (b:UInt64)|ref (a:Addr)|ty (n:String)
 deriving DecidableEq
def gg:V->Value->Prop
 |.lz,u=>u=Value.none
 |.bl b,u=>u=Value.bool b
 |.int i,u=>∃t,u=Value.int i t
 |.str x,u=>∃t,u=Value.str x t
 |.V0 b,u=>∃t,u=Value.bytes b t
 |.YQ b,u=>∃t,u=Value.float b t
 |.ref a,u=>u=Value.ref a
 |.ty n,u=>u=Value.type n
abbrev fv:List V->List Value->Prop:=Paired gg
theorem fv.length{xs:List V}{a:Lw}(r:fv xs a):xs.length=a.length:=fy r
theorem fv.get:∀{a:List V}{b:Lw}{i:Nat}{x:V},fv a b->a[i]?=Y x->∃u,b[i]?=Y u/\gg x u
 |_,_,_,_,.nil,e=>by simp at e
 |_,_,0,_,.cons r _,e=>by simp at e;subst e;exact{_,rfl,r}
 |_,_,i+1,x,.cons _ t,e=>by obtain⟨u,d,c⟩:=fv.get (i:=i) (x:=x) t (by simpa using e);exact{u,by simpa using d,c}
theorem fv.set{x:V}{u:Value}(r:gg x u):∀{a:List V}{b:Lw} (i:Nat),fv a b->fv (a.set i x) (b.set i u)
 |_,_,_,.nil=>.nil
 |_,_,0,.cons _ t=>.cons r t
 |_,_,i+1,.cons q t=>.cons q (fv.set r i t)
theorem fv.append:∀{b a:List V}{d c:Lw},fv b d->fv a c->fv (b++a) (d++c)
 |_,_,_,_,.nil,s=>s
 |_,_,_,_,.cons r t,s=>.cons r (fv.append t s)
theorem fv.take:∀{a:List V}{b:Lw} (n:Nat),fv a b->fv (a.take n) (b.take n)
 |_,_,0,_=>.nil
 |_,_,_+1,.nil=>.nil
 |_,_,n+1,.cons r t=>.cons r (fv.take n t)
theorem fv.drop:∀{a:List V}{b:Lw} (n:Nat),fv a b->fv (a.drop n) (b.drop n)
 |_,_,0,r=>r
 |_,_,_+1,.nil=>.nil
 |_,_,n+1,.cons _ t=>fv.drop n t
def oY:Option V->Ow->Prop
 |some v,Y u=>gg v u
 |none,Z=>True
 |_,_=>False
def KV{a:Type}:List (a×V)->List (a×Value)->Prop:=Paired λ(p:a×V) (q:a×Value)=>p.1=q.1/\gg p.2 q.2
def kV:Key->V
 |.inl i=>.int i
 |.inr x=>.str x
inductive HO where
 |lst (xs:List V)
 |tup (xs:List V)
 |dK (jG:List (Key×V))|dT (jG:List (List Key×V))
 |set (S:Int->Bool) (n:Nat)
 |ins (C dx:Addr) (fs:List (Str×V))
 |own (x:Addr)
 |xd (fs:List (Str×V))
 |met (f x:Addr)
 |Rm (lo hi:Int)
 |IX (o:Obj) (u:HO)
 |NV (ps:Array Value)
 |ext (φ:Heap->Prop)
abbrev Hp:=Addr->Option HO
def upd(H:Hp)(a:Addr)(o:HO):Hp:=λb=>if b=a then Y o else H b
def eB{H:Hp}{o:HO}:upd H a o a=Y o:=by unfold upd;rw[ai rfl]
def c8{H:Hp}{b:Addr}{o:HO}(h:b≠a):upd H a o b=H b:=by unfold upd;rw[aq h]
def Wd{H:Hp}{b:Addr}{o u:HO}(h:H a=Y o)(c:H b=Y u)(d:o≠u):a≠b:=by intro e;subst e;rw[h] at c;exact d (bW c)
def gz{H:Hp}{b:Addr}{o:HO}(h:H a=Y o)(h':H b=Z):a≠b:=by intro e;subst e;rw[h] at h';cases h'
section
variable (P:Program) (w:World)
def iS(H:Hp)(h:Heap)(a:Addr):HO->Prop
 |.lst xs=>xs.length<=sizeLine/\∃(b:Lw) (n:Nat),fv xs b/\h.get? a=Y (zl b.toArray n)
 |.tup xs=>xs.length<=sizeLine/\∃b:Lw,fv xs b/\IsTup h a b.toArray
 |.dK jG=>jG.length<=sizeLine/\(a==sysModules)=false/\∃d,KV jG d/\h.DictOf (gI P w) a d
 |.dT jG=>jG.length<=sizeLine/\(a==sysModules)=false/\∃xs:List (List Key×Addr×Value),
   Paired (λ(p:List Key×V) (q:List Key×Addr×Value)=>p.1=q.1/\H q.2.1=Y (.tup (p.1.map kV))/\gg p.2 q.2.2) jG xs /\
   ∃o i j,h.get? a=Y o/\o.ExactDict/\o.data=.dict i j/\i.toList=xs.map (entryOfKey (tupleKind (gI P w)))/\(xs.map (·.1)).Nodup
 |.set S n=>h.SetOf (intKind P w) a S n
 |.ins C dx fs=>H dx=Y (.own a)/\fs.length<=1000/\dx≠a/\h.get? a=Y (W.instObj C dx) /\
   ∃c,h.Ns1 dx c/\(∀f,oY (fs.lookup f) (c f))/\PySem.Within c (fs.map (·.1))
 |.own _=>∃o,h.get? a=Y o
 |.xd fs=>∃c,h.Ns1 a c/\∀f,oY (fs.lookup f) (c f)
 |.Rm lo hi=>∃t u v,h.get? a=Y { cls:=.type "range",data:=.fields #[.int lo t,.int hi u,.int 1 v] }
 |.IX o u=>h.get? a=Y o/\iS H h a u
 |.NV ps=>h.get? a=Y { cls:=.none,data:=.fields ps }
 |.met f x=>h.get? a=Y (W.methodObj (.ref f) (.ref x))
 |.ext φ=>φ h/\(∃o,h.get? a=Y o)/\∀g e:Heap,φ g->(∀o,g.get? a=Y o->e.get? a=Y o)->φ e
def oP(H:Hp)(h:Heap):Prop:=∀a o,H a=Y o->iS P w H h a o
end
section
variable {P:Program}{H H':Hp}{h':Heap}{o:HO}
theorem iS.lt(x:iS P w H h a o):a<h.objs.size:=by
 cases o with
 |lst c=>sleep 1;obtain⟨_,_,_,_,e⟩:=x;sleep 2;exact au e
 |tup c=>obtain⟨_,_,_,p⟩:=x;exact p.lt
 |dK b=>sleep 1;obtain⟨_,_,_,_,o,_,_,e,_⟩:=x;sleep 2;exact au e
 |dT b=>sleep 1;obtain⟨_,_,_,_,o,_,_,e,_⟩:=x;sleep 2;exact au e
 |set S n=>sleep 1;obtain⟨o,_,_,_,e,_⟩:=x;sleep 2;exact au e
 |ins C m d=>sleep 1;obtain⟨_,_,_,e,_⟩:=x;sleep 2;exact au e
 |own y=>obtain⟨_,e⟩:=x;exact au e
 |xd d=>sleep 1;obtain⟨_,⟨_,_,_,e,_⟩,_⟩:=x;sleep 2;exact au e
 |Rm k l=>obtain⟨_,_,_,e⟩:=x;exact au e
 |IX j u=>obtain⟨e,_⟩:=x;exact au e
 |NV i=>exact au (show h.get? a=Y _ from x)
 |met f y=>exact au (show h.get? a=Y _ from x)
 |ext g=>obtain⟨_,⟨_,e⟩,_⟩:=x;exact au e
theorem Paired.SX{α β:Type}{F G:α->β->Prop}:∀{d:List α}{c:List β},Paired F d c->(∀a b,F a b->G a b)->Paired G d c
 |_,_,.nil,_=>.nil
 |_,_,.cons r t,f=>.cons (f _ _ r) (Paired.SX t f)
def iS.q8(x:iS P w H h a o) (k:∀b u,(b=a\/H b=Y (.own a))->h.get? b=Y u->h'.get? b=Y u)
  (J:∀b,H b=Y (.own a)->H' b=Y (.own a)) (I:∀b xs,H b=Y (.tup xs)->H' b=Y (.tup xs)):iS P w H' h' a o:=by
 induction o with
 |lst xs=>sleep 1;obtain⟨z,l,n,r,e⟩:=x;sleep 2;exact{z,l,n,r,k _ _ (.inl rfl) e}
 |tup xs=>sleep 1;obtain⟨z,l,r,g,e,c⟩:=x;sleep 2;exact{z,l,r,g,k _ _ (.inl rfl) e,c}
 |dK A=>sleep 1;obtain⟨z,y,E,r,g,i,j,e,c⟩:=x;sleep 2;exact{z,y,E,r,g,i,j,k _ _ (.inl rfl) e,c}
 |dT A=>sleep 1;obtain⟨z,y,xs,r,g,i,j,e,c⟩:=x;sleep 2;exact{z,y,xs,Paired.SX r λp q z=>{z.1,I _ _ z.2.1,z.2.2},g,i,j,k _ _ (.inl rfl) e,c}
 |set S n=>sleep 1;obtain⟨g,i,j,t,e,c⟩:=x;sleep 2;exact{g,i,j,t,k _ _ (.inl rfl) e,c}
 |ins C Q K=>sleep 1;obtain⟨d,z,F,e,s,⟨m,i,j,L,c⟩,r⟩:=x;sleep 2;exact{J _ d,z,F,k _ _ (.inl rfl) e,s,{m,i,j,k _ _ (.inr d) L,c},r}
 |own y=>obtain⟨g,e⟩:=x;exact{g,k _ _ (.inl rfl) e}
 |xd K=>sleep 1;obtain⟨s,⟨m,i,j,e,c⟩,r⟩:=x;sleep 2;exact{s,{m,i,j,k _ _ (.inl rfl) e,c},r}
 |Rm N O=>obtain⟨t,u,v,e⟩:=x;exact{t,u,v,k _ _ (.inl rfl) e}
 |IX g u G=>obtain⟨e,q⟩:=x;exact{k _ _ (.inl rfl) e,G q}
 |NV D=>have e:h.get? a=Y { cls:=.none,data:=.fields D }:=x;show h'.get? a=Y { cls:=.none,data:=.fields D };exact k a _ (.inl rfl) e
 |met f y=>have e:h.get? a=Y (W.methodObj (.ref f) (.ref y)):=x;show h'.get? a=Y (W.methodObj (.ref f) (.ref y));exact k a _ (.inl rfl) e
 |ext M=>obtain⟨p,⟨o,e⟩,B⟩:=x;exact{B _ _ p λo q=>k _ _ (.inl rfl) q,{o,k _ _ (.inl rfl) e},B}
theorem oP.lt(x:oP P w H h)(e:H a=Y o):a<h.objs.size:=(x a o e).lt
def oP.fresh(x:oP P w H h)(e:h.objs.size<=a):H a=Z:=by
 cases q:H a with
 |none=>rfl
 |some u=>exact absurd (aJ (x.lt q) e) (bh _)
def oP.kept(x:oP P w H h)(k:∀b u,h.get? b=Y u->h'.get? b=Y u):oP P w H h':=λa o e=>
 (x a o e).q8 (λb u _ q=>k b u q) (λ_ q=>q) λ_ _ q=>q
def oP.laid(x:oP P w H h)(k:∀b u,h.get? b=Y u->h'.get? b=Y u)(i:h.objs.size<=a)(d:iS P w (upd H a o) h' a o):oP P w (upd H a o) h':=λb u e=>by
 have f:=x.fresh i;by_cases g:b=a
 .subst g;rw[eB] at e;cases e;exact d
 .rw[c8 g] at e;exact(x b u e).q8 (λc v _ q=>k c v q) (λc q=>by rw[c8 (gz q f)];exact q) λc j q=>by rw[c8 (gz q f)];exact q
end
def Rd(H:Hp)(a:Addr)(u:HO):Prop:=H a=Y u\/∃o,H a=Y (.IX o u)
def Rd.ok{P:Program}{H:Hp}{u:HO}(r:Rd H a u)(x:oP P w H h):iS P w H h a u:=by
 rcases r with r | ⟨o,r⟩
 .exact x a u r
 .obtain⟨_,q⟩:=x a _ r;exact q
def We:Option HO->Prop
 |some (.lst _)=>True
 |some (.dK _)=>True
 |some (.dT _)=>True
 |some (.set _ _)=>True
 |some (.ins _ _ _)=>True
 |some (.ext _)=>True
 |_=>False
section
variable {P:Program}{H:Hp}{h':Heap}{x e:Addr}{o':HO}
def oP.write(p:oP P w H h) (i:We (H x)) (o:e=x\/H e=Y (.own x)) (k:∀b u,b≠e->h.get? b=Y u->h'.get? b=Y u) (m:∃u,h'.get? e=Y u)
  (l:iS P w (upd H x o') h' x o'):oP P w (upd H x o') h':=λb u q=>by
 have d:∀c y,H c=Y (.own y)->c≠x:=λc y r z=>by subst z;rw[r] at i;exact i
 have f:∀c g,H c=Y (.tup g)->c≠x:=λc g r z=>by subst z;rw[r] at i;exact i
 by_cases j:b=x
 .subst j;rw[eB] at q;cases q;exact l
 .rw[c8 j] at q;by_cases a:b=e
  .have n:H b=Y (.own x):=by
    rcases o with z|z
    .exact absurd (a.trans z) j
    .rw[a];exact z
   rw[q] at n;cases n;obtain⟨v,s⟩:=m;exact{v,by rw[a];exact s}
  .refine(p b u q).q8 (λc v hc r=>k c v ?_ r) (λc r=>by rw[c8 (d c b r)];exact r) λc g r=>by rw[c8 (f c g r)];exact r
   rcases hc with rfl|hc
   .exact a
   .rintro rfl;rcases o with z|z
    .exact d c b hc z
    .rw[hc] at z;cases z;exact j rfl
end
structure Un (fs ex:List Addr) (H H':Hp) (h h':Heap):Prop where
 keep:∀b o,h.get? b=Y o->H b=Z->b∉fs->b∉ex->h'.get? b=Y o
 slot:∀b o,h.get? b=Y o->H b=Z->b∈fs->b∉ex->∃sl,h'.get? b=Y { o with slots:=sl }
 free:∀b o,h.get? b=Y o->H b=Z->b∉ex->H' b=Z
 there:∀b o,h.get? b=Y o->b∉ex->∃o',h'.get? b=Y o'
 pa:∀b xs,H b=Y (.tup xs)->H' b=Y (.tup xs)
 oZ:∀b o u,H b=Y (.IX o u)->H' b=Y (.IX o u)
 qu:∀b ps,H b=Y (.NV ps)->∃more,H' b=Y (.NV (ps++more))
section
variable {fs fs' ex ex':List Addr}{H H1 H2:Hp}{h1 h2 h':Heap}{x e:Addr}{o:HO}
def Un.any(u:Un fs ex H H1 h h1){b:Addr}{a:Obj}(q:h.get? b=Y a)(n:H b=Z)(c:b∉ex):∃e,h1.get? b=Y { a with slots:=e }:=by
 by_cases d:b∈fs
 .exact u.slot b a q n d c
 .exact{a.slots,u.keep b a q n d c}
def Un.kept(k:∀b u,h.get? b=Y u->h'.get? b=Y u):Un fs ex H H h h' :=
 {λb a q _ _ _=>k b a q,λb a q _ _ _=>{a.slots,k b a q},λ_ _ _ n _=>n,λb a q _=>{a,k b a q},λ_ _ q=>q,λ_ _ _ q=>q,λ_ c q=>{#[],by rw[q];simp}}
def Un.refl:Un fs ex H H h h:=Un.kept λ_ _ q=>q
def Un.laid(k:∀b u,h.get? b=Y u->h'.get? b=Y u)(e:h.objs.size<=a)(c:H a=Z):Un fs ex H (upd H a o) h h' where
 keep:=λb u q _ _ _=>k b u q
 slot:=λb u q _ _ _=>{u.slots,k b u q}
 free:=λb u q n _=>by rw[c8 (aR (aJ (au q) e))];exact n
 there:=λb u q _=>{u,k b u q}
 pa:=λb d q=>by rw[c8 (gz q c)];exact q
 oZ:=λb u d q=>by rw[c8 (gz q c)];exact q
 qu:=λb f q=>{#[],by rw[c8 (gz q c),q];simp}
def Un.write(c:We (H x))(m:e=x\/H e=Y (.own x))(k:∀b u,b≠e->h.get? b=Y u->h'.get? b=Y u)(f:∃u,h'.get? e=Y u):Un fs ex H (upd H x o) h h':=by
 have g:∀b,H b=Z->b≠x:=λb n z=>by subst z;rw[n] at c;exact c
 have i:∀b,H b=Z->b≠e:=λb n z=>by
  subst z;rcases m with r|r
  .exact g b n r
  .rw[n] at r;cases r
 have d:∀b u,H b=Y u->¬ We (Y u)->b≠x:=λb u q l z=>by subst z;rw[q] at c;exact l c
 refine{λb u q n _ _=>k b u (i b n) q,λb u q n _ _=>{u.slots,k b u (i b n) q},λb u q n _=>by rw[c8 (g b n)];exact n,λb u q _=>?_,
  λb j q=>by rw[c8 (d b _ q λz=>z)];exact q,λb u j q=>by rw[c8 (d b _ q λz=>z)];exact q,λb p q=>{#[],by rw[c8 (d b _ q λz=>z),q];simp}}
 by_cases a:b=e
 .subst a;exact f
 .exact{u,k b u a q}
end
def YR(h:Heap)(H:Hp):List Addr:=(List.range h.objs.size).filter λa=>(H a).isSome
def zr(h:Heap)(H:Hp):Heap:=W.hideAll h (YR h H)
def Ho(h:Heap)(H:Hp):(zr h H).objs.size=h.objs.size:=W.hideAll_size _ _
def Je{H:Hp}{b:Addr}{o:Obj}(e:h.get? b=Y o)(n:H b=Z):(zr h H).get? b=Y o :=
 W.hideAll_get _ e λa=>by have q:(H b).isSome=true:=(cb.mp a).2;rw[n] at q;simp at q
def NW{H:Hp}{b:Addr}{o:Obj}(e:(zr h H).get? b=Y o):h.get? b=Y o/\H b=Z:=by
 have a:h.get? b=Y o:=W.of_hideAll (YR h H) e;refine{a,?_};cases q:H b with
 |none=>rfl
 |some x=>have c:b∈YR h H:=cb.mpr {List.mem_range.mpr (au a),by simp[q]};have z:(zr h H).get? b=Z:=W.hideAll_none (YR h H) c;rw[z] at e;cases e
def NX(g h:Heap)(L:Addr):Ax:=(List.range h.objs.size).filterMap λa=>if a=L\/(g.get? a).isSome=true then Z else (h.get? a).map λo=>(a,o)
def rest(g h:Heap)(L d:Addr):Ax:=(NX g h L).filter λp=>decide (p.1≠d)
end L2
variable  {H H' G G':L2.Hp}{o:L2.HO}{v:L2.V}{vs:List L2.V}{kv:List (L2.Key×L2.V)}{B:List (PySem.Addr×L2.HO)}
namespace L2
open PySem PySem.Spec PyProof.Rows
structure Mod (K:Fg) (mg:Str->Ow) (base:Heap):Prop where
 Rn:K.In base
 glob:base.Ns mainGlobals mg
 blt:∃mb,base.Ns builtinsNs mb/\∀x:Str,x≠"__name__"->mb x=bootBuiltins x
 nolimit:base.NoLimit
structure Cx where
 prog:Program
 w:World
 K:Fg
 mg:Str->Ow
 base:Heap
 A:Around
 N:Lr
 iH:Shared
 q9:Hp
 env:Env
 outer:List Env
 stack:List Env
 ex:List Addr
 fn:Str->Bool
 calm:Bool
 pn:Ax
 xe:Px
def tZ(l:List Env):List Addr:=l.filterMap (·.frame)
abbrev Cx.fs(X:Cx):List Addr:=tZ X.outer
def BE(a:Scope)(x:Str):Prop:=a.names.lookup x=Y .local\/a.names.lookup x=Y .cell\/a.names.lookup x=Y .free
def DJ(a:Scope)(x:Str):Prop:=a.names.lookup x=Y .local\/a.names.lookup x=Y .cell
def Wf(a:Env)(h:Heap)(m:Str->Ow)(x:Str)(u:Value):Prop :=
 (a.kindOf x=Y .local/\m x=Y u)\/((a.kindOf x=Y .cell\/a.kindOf x=Y .free)/\∃c,a.cells.lookup x=Y c/\h.IsCell c (Y u))
structure Cx.Ok (X:Cx):Prop where
 mod:Mod X.K X.mg X.base
 kind:X.env.scope.kind=.function
 glob:X.env.globals=mainGlobals
 blt:X.env.builtins=builtinsNs
 above:(zB X.iH)<=X.env.locals
 inj:∀x y c,X.env.cells.lookup x=Y c->X.env.cells.lookup y=Y c->x=y
 has:∀x,(X.env.kindOf x=Y .cell\/X.env.kindOf x=Y .free)->∃c,X.env.cells.lookup x=Y c
 SY:∀x c,X.fn x=true->X.env.cells.lookup x=Y c->(zB X.iH)<=c
 hd:X.calm=true->X.A.handled=Z
 frames:X.A.frames=Y X.stack
 S0:X.stack=X.outer\/(X.stack=X.env::X.outer/\X.env.frame=Y X.env.locals)
 S1:∀b∈X.ex,b≠X.env.locals/\∀x c,X.env.cells.lookup x=Y c->c≠b
 bs:∀b o,X.base.get? b=Y o->X.iH.heap.get? b=Y o/\X.q9 b=Z
 NK:X.base.objs.size<=(zB X.iH)
 DK:∀b o,X.base.get? b=Y o->b∉X.ex
 zt:∀b∈X.ex,b∉X.fs
 o1:X.iH.heap.FunFrames X.base X.outer
 Hq:∀b∈X.fs,X.q9 b=Z
structure c7 (X:Cx) (pins:Ax) (σ:List (Option V)) (H:Hp) (s:Shared):Prop where
 ok:X.Ok
 os:s.os=X.iH.os
 bare:AllBare s.gens
 base:Un X.fs X.ex X.q9 H X.iH.heap s.heap
 loc:∃m,s.heap.Ns X.env.locals m/\∀(i:Nat) (x:Str) (v:V),X.N[i]?=Y x->σ[i]?=Y (Y v)->BE X.env.scope x->∃u,gg v u/\Wf X.env s.heap m x u
 cell:∀x c,X.env.cells.lookup x=Y c->∃v,s.heap.IsCell c v
 free:H X.env.locals=Z
 kM:∀x c,X.env.cells.lookup x=Y c->H c=Z
 pin:∀p∈X.pn++pins,s.heap.get? p.1=Y p.2/\H p.1=Z/\p.1≠X.env.locals/\p.1∉X.fs/\∀v,p.2.data≠.cell v
 ip:oP X.prog X.w H s.heap
 len:σ.length=X.N.length
section
variable {X:Cx}{σ:List (Option V)}{h':Heap}
def Cx.Ok.Zb(a:X.Ok){b:Addr}{o:Obj}(e:X.base.get? b=Y o):b∉X.fs:=λc=>by have:=(a.o1.mem c).1;rw[e] at this;cases this
theorem c7.bs(I:c7 X pins σ H s):∀b o,X.base.get? b=Y o->s.heap.get? b=Y o/\H b=Z:=λb o e=>
 {I.base.keep b o (I.ok.bs b o e).1 (I.ok.bs b o e).2 (I.ok.Zb e) (I.ok.DK b o e),I.base.free b o (I.ok.bs b o e).1 (I.ok.bs b o e).2 (I.ok.DK b o e)}
def c7.bk(I:c7 X pins σ H s):∀b o,X.base.get? b=Y o->s.heap.get? b=Y o:=λb o e=>(I.bs b o e).1
theorem c7.mod(I:c7 X pins σ H s):Mod X.K X.mg X.base:=I.ok.mod
def c7.oj(I:c7 X pins σ H s):X.K.In s.heap:=I.ok.mod.Rn.keeps I.bk
theorem c7.lt(I:c7 X pins σ H s):X.env.locals<(zB s):=by obtain⟨_,a,_⟩:=I.loc;exact a.lt
def c7.sz(I:c7 X pins σ H s):(zB X.iH)<=(zB s):=bJ I.ok.above (dO I.lt)
def c7.Zc(I:c7 X pins σ H s)(h:(zB s)<=a):a∉X.fs:=λc=>by obtain⟨_,o,b,_⟩:=I.ok.o1.mem c;exact absurd (aJ (au b) (bJ I.sz h)) (bh _)
def c7.Wg(I:c7 X pins σ H s):∀x c,X.env.cells.lookup x=Y c->c≠X.env.locals:=λx c e z=>by obtain⟨v,o,d,f⟩:=I.cell x c e;sleep 1;obtain⟨m,⟨g,h,i,a,b,_⟩,_⟩:=I.loc;sleep 2;rw[z,a] at d;cases d;rw[b] at f;cases f
theorem c7.o1(I:c7 X pins σ H s):s.heap.FunFrames X.base X.outer:=by
 have d:∀(l:List Env),(∀b∈tZ l,b∈X.fs)->X.iH.heap.FunFrames X.base l->s.heap.FunFrames X.base l:=by
  intro l;induction l with
  |nil=>intro _ _;trivial
  |cons p r g=>intro f k;sleep 1;obtain⟨m,⟨L,o,a,j,i,n⟩,h⟩:=k;sleep 2;have c:L∈X.fs:=f L (by unfold tZ;rw[b5,a];exact bu);obtain⟨q,e⟩:=I.base.slot L o i (I.ok.Hq L c) c λz=>I.ok.zt L z c;exact{m,{(L),_,a,j,e,n},g (λb hb=>f b (by unfold tZ;rw[b5,a];exact ao _ hb)) h}
 exact d X.outer (λ_ hb=>hb) I.ok.o1
theorem c7.stack(I:c7 X pins σ H s):s.heap.FunFrames X.base X.stack:=by
 rcases I.ok.S0 with e | ⟨e,b⟩
 .rw[e];exact I.o1
 .rw[e];obtain⟨m,a,_⟩:=I.loc;refine .cons (by rw[I.ok.kind];decide) b a ?_ I.o1;exact Heap.get?_none_of_le (bJ I.ok.NK I.ok.above)
def c7.zu(I:c7 X pins σ H s):∀b∈tZ X.stack,b∈X.env.locals::X.fs:=λb a=>by
 rcases I.ok.S0 with e | ⟨e,c⟩
 .rw[e] at a;exact ao _ a
 .rw[e] at a;unfold tZ at a;rw[b5,c] at a;exact a
def c7.zx(I:c7 X pins σ H s):∀b∈tZ X.stack,H b=Z:=λb hb=>by
 rcases ah.mp (I.zu b hb) with e|hb
 .rw[e];exact I.free
 .obtain⟨_,o,a,_⟩:=I.ok.o1.mem hb;exact I.base.free b o a (I.ok.Hq b hb) λz=>I.ok.zt b z hb
def c7.step{g':Array GenState}{t':Nat}{d':Drawn}{ch:List Addr} (I:c7 X pins σ H s)
  (j:∀b∈ch,(b∈X.ex\/(zB X.iH)<=b)/\b≠X.env.locals/\(∀x c,X.env.cells.lookup x=Y c->c≠b)/\∀p∈X.pn++pins,p.1≠b)
  (h:∀b o,b≠X.env.locals->b∉X.fs->b∉ch->s.heap.get? b=Y o->H b=Z->h'.get? b=Y o)
  (B:∀b o,b≠X.env.locals->b∈X.fs->b∉ch->s.heap.get? b=Y o->H b=Z->∃sl,h'.get? b=Y { o with slots:=sl }) (f:∀b o,b∉ch->s.heap.get? b=Y o->H b=Z->H' b=Z)
  (C:∀b o,b∉ch->s.heap.get? b=Y o->∃o',h'.get? b=Y o')
  (F:∀b xs,H b=Y (.tup xs)->H' b=Y (.tup xs)) (K:∀b o u,H b=Y (.IX o u)->H' b=Y (.IX o u)) (G:∀b ps,H b=Y (.NV ps)->∃more,H' b=Y (.NV (ps++more)))
  (T:∀m,s.heap.Ns X.env.locals m->h'.Ns X.env.locals m) (N:oP X.prog X.w H' h') (hg:AllBare g'):
  c7 X pins σ H' { s with heap:=h',gens:=g',drawn:=d',toks:=t' }:=by
 have J:∀b o,X.iH.heap.get? b=Y o->b≠X.env.locals:=λb o e=>aR (aJ (au e) I.ok.above);have y:∀b o,X.iH.heap.get? b=Y o->b∉X.ex->b∉ch:=λb o e a D=>by
  rcases(j b D).1 with z|z
  .exact a z
  .exact absurd (aJ (au e) z) (bh _)
 have t:∀x c,X.env.cells.lookup x=Y c->∀v,s.heap.IsCell c v->h'.IsCell c v:=by
  rintro x c e v ⟨o,E,O⟩;have g:c∉ch:=λz=>(j c z).2.2.1 x c e rfl;by_cases S:c∈X.fs
  .obtain⟨sl,q⟩:=B c o (I.Wg x c e) S g E (I.kM x c e);exact{_,q,O}
  .exact{o,h c o (I.Wg x c e) S g E (I.kM x c e),O}
 refine{I.ok,I.os,hg,{λb o e n D a=>?_,λb o e n D a=>?_,λb o e n a=>?_,λb o e a=>?_,λb xs e=>F b xs (I.base.pa b xs e),λb o xs e=>K b o xs (I.base.oZ b o xs e),λb ps e=>?_},?_,λx c e=>?_,?_,λx c e=>?_,λp R=>?_,N,I.len}
 .exact h b o (J b o e) D (y b o e a) (I.base.keep b o e n D a) (I.base.free b o e n a)
 .obtain⟨sl,A⟩:=I.base.slot b o e n D a;obtain⟨M,L⟩:=B b _ (J b o e) D (y b o e a) A (I.base.free b o e n a);exact{(M),L}
 .obtain⟨o',A⟩:=I.base.there b o e a;exact f b o' (y b o e a) A (I.base.free b o e n a)
 .obtain⟨o',A⟩:=I.base.there b o e a;exact C b o' (y b o e a) A
 .obtain⟨V,A⟩:=I.base.qu b ps e;obtain⟨U,L⟩:=G b _ A;exact{V++U,by rw[L,Array.append_assoc]}
 .obtain⟨m,W,hl⟩:=I.loc;refine{m,T m W,λi x v A L e3=>?_};obtain⟨u,r,l⟩:=hl i x v A L e3;refine{u,r,?_};rcases l with l | ⟨k,c,e,z⟩
  .exact .inl l
  .exact .inr {k,c,e,t x c e _ z}
 .obtain⟨v,z⟩:=I.cell x c e;exact{v,t x c e v z}
 .obtain⟨m,⟨o,_,_,E,_⟩,_⟩:=I.loc;exact f _ o (λz=>(j _ z).2.1 rfl) E I.free
 .obtain⟨v,o,E,O⟩:=I.cell x c e;exact f c o (λz=>(j c z).2.2.1 x c e rfl) E (I.kM x c e)
 .obtain⟨e,n,Q,P,d⟩:=I.pin p R;have g:p.1∉ch:=λz=>(j p.1 z).2.2.2 p R rfl;exact{h p.1 p.2 Q P g e n,f p.1 p.2 g e n,Q,P,d}
def c7.un{t':Nat}(I:c7 X pins σ H s)(u:Un X.fs [] H H' s.heap h')(c:oP X.prog X.w H' h'):c7 X pins σ H' { s with heap:=h',toks:=t' }:=by sleep 1;obtain⟨m,⟨o,p,q,g,r⟩,_⟩:=id I.loc;sleep 2;obtain⟨j,i⟩:=u.any g I.free (by simp);exact I.step (g':=s.gens) (d':=s.drawn) (ch:=[]) (λ_ z=>nomatch z) (λb o _ hb _ e n=>u.keep b o e n hb (by simp)) (λb o _ hb _ e n=>u.slot b o e n hb (by simp)) (λb o _ e n=>u.free b o e n (by simp)) (λb o _ e=>u.there b o e (by simp)) u.pa u.oZ u.qu (λl hm=>by obtain⟨k,d,f,a,h⟩:=hm;rw[g] at a;cases a;exact{_,d,f,i,h}) c I.bare
def c7.call{g':Array GenState}{t':Nat}{d':Drawn}{ch:List Addr} (I:c7 X pins σ H s) (u:Un (tZ X.stack) ch H H' s.heap h') (f:oP X.prog X.w H' h') (l:AllBare g')
  (d:∀b∈ch,(b∈X.ex\/(zB X.iH)<=b)/\b≠X.env.locals/\(∀x c,X.env.cells.lookup x=Y c->c≠b)/\∀p∈X.pn++pins,p.1≠b):
  c7 X pins σ H' { s with heap:=h',gens:=g',drawn:=d',toks:=t' }:=by
 sleep 1;obtain⟨m,⟨o,y,A,j,r⟩,_⟩:=id I.loc;sleep 2;obtain⟨q,g⟩:=u.any j I.free λz=>(d _ z).2.1 rfl;exact I.step (ch:=ch) d (λb o g hb hc e n=>u.keep b o e n (λz=>(ah.mp (I.zu b z)).elim g hb) hc) (λb o _ _ hc e n=>u.any e n hc) (λb o hc e n=>u.free b o e n hc) (λb o hc e=>u.there b o e hc) u.pa u.oZ u.qu (λv hm=>by obtain⟨t,h,i,a,k⟩:=hm;rw[j] at a;cases a;exact{_,h,i,g,k}) f l
def c7.turned{t':Nat}{it:Addr} (I:c7 X pins σ H s) (k:∀b o,b≠it->s.heap.get? b=Y o->h'.get? b=Y o) (g:H it=Z) (d:it≠X.env.locals)
  (j:it∈X.ex\/(zB X.iH)<=it) (i:∀x c,X.env.cells.lookup x=Y c->c≠it) (h:∀p∈X.pn++pins,p.1≠it):c7 X pins σ H { s with heap:=h',toks:=t' }:=by
 have a:∀b u,H b=Y u->b≠it:=λb u e z=>by rw[z,g] at e;cases e
 refine I.step (g':=s.gens) (d':=s.drawn) (ch:=[it]) (λb hb=>?_) (λb o _ _ hc e _=>k b o (λz=>hc (by simp[z])) e) (λb o _ _ hc e _=>{o.slots,k b o (λz=>hc (by simp[z])) e}) (λ_ _ _ _ n=>n)
  (λb o hc e=>{o,k b o (λz=>hc (by simp[z])) e}) (λ_ _ e=>e) (λ_ _ _ e=>e) (λb ps e=>{#[],by rw[e];simp}) (λm hm=>?_) (λb u e=>?_) I.bare
 .have e:b=it:=by simpa using hb
  subst e;exact{(j),d,i,h}
 .obtain⟨o,l,t,f,r⟩:=hm;exact{o,l,t,k _ o (Ne.symm d) f,r}
 .refine(I.ip b u e).q8 (λc v hc q=>k c v ?_ q) (λ_ q=>q) λ_ _ q=>q;rcases hc with z|z
  .rw[z];exact a b u e
  .exact a c _ z
def c7.tok(I:c7 X pins σ H s)(t:Nat):c7 X pins σ H { s with toks:=t }:=I.un (h':=s.heap) (t':=t) Un.refl I.ip
theorem c7.kept{t':Nat}(I:c7 X pins σ H s)(k:∀b u,s.heap.get? b=Y u->h'.get? b=Y u):c7 X pins σ H { s with heap:=h',toks:=t' }:=I.un (Un.kept k) (I.ip.kept k)
theorem c7.laid{a:Addr}{o:HO}{t':Nat}(I:c7 X pins σ H s)(k:∀b u,s.heap.get? b=Y u->h'.get? b=Y u)(d:(zB s)<=a)(c:iS X.prog X.w (upd H a o) h' a o):
  c7 X pins σ (upd H a o) { s with heap:=h',toks:=t' }:=I.un (Un.laid k d (I.ip.fresh d)) (I.ip.laid k d c)
theorem c7.write{x e:Addr}{o:HO}{g:Nat} (I:c7 X pins σ H s) (d:We (H x)) (f:e=x\/H e=Y (.own x)) (k:∀b u,b≠e->s.heap.get? b=Y u->h'.get? b=Y u) (a:∃u,h'.get? e=Y u)
  (c:iS X.prog X.w (upd H x o) h' x o):c7 X pins σ (upd H x o) { s with heap:=h',toks:=g }:=I.un (Un.write d f k a) (I.ip.write d f k a c)
def c7.l6{a:Ax}(I:c7 X pins σ H s)(h:∀p∈a,s.heap.get? p.1=Y p.2/\H p.1=Z/\p.1≠X.env.locals/\p.1∉X.fs/\∀v,p.2.data≠.cell v):c7 X a σ H s :=
 {I.ok,I.os,I.bare,I.base,I.loc,I.cell,I.free,I.kM,λp b=>(ay.mp b).elim (λz=>I.pin p (aA _ z)) (h p),I.ip,I.len}
def vf{N:Lr}(c:N.Nodup)(a:N[i]?=Y x)(b:N[j]?=Y x):i=j:=by obtain⟨g,e⟩:=aS.mp a;obtain⟨f,d⟩:=aS.mp b;exact(List.getElem_inj c).mp (e.trans d.symm)
def x6{M:Model}{Q:Unit->Shared->Prop} (I:c7 X pins σ H s) (hN:X.N.Nodup) (P:X.N[i]?=Y x) (l:DJ X.env.scope x) (r:gg v u)
  (h:∀s',c7 X pins (σ.set i (Y v)) H s'->(∃a,Heap.SameBut a s.heap s'.heap/\(a=X.env.locals\/X.env.cells.lookup x=Y a))->Q () s') (hf:zr 1 (X.fn x=true\/X.env.scope.names.lookup x=Y .local)):wpAny M A (storeName X.env x u) Q E s:=by
 obtain⟨m,hn,hl⟩:=id I.loc;have R:(X.env.scope.kind==.class||(X.env.scope.kind==.module&&X.env.locals != X.env.globals))=false:=by rw[I.ok.kind];rfl
 have D:i<σ.length:=by rw[I.len];exact(aS.mp P).1
 have K:=I.Wg;have f:∀{a:Addr}{h':Heap},(∃o,s.heap.get? a=Y o/\H a=Z)->Heap.SameBut a s.heap h'->oP X.prog X.w H h':=λ{a h'} ha hs b ob e=>by
  obtain⟨_,_,t⟩:=ha;refine(I.ip b ob e).q8 (λc T hc q=>(hs.2 c ?_).trans q) (λ_ q=>q) λ_ _ q=>q;rintro rfl;rcases hc with rfl|hc
  .rw[t] at e;cases e
  .rw[t] at hc;cases hc
 rcases l with C|C
 .refine wpAny_storeName_local C hn (λh' hn' hs=>?_) R;sleep 1;obtain⟨oL,_,_,Zd,_⟩:=id hn;sleep 2;refine h _ {I.ok,I.os,I.bare,{λb o e n J l=>?_,λb o e n J l=>?_,I.base.free,λb o e l=>?_,I.base.pa,I.base.oZ,I.base.qu},{_,hn',λj y W g B e3=>?_},λy c e=>?_,I.free,I.kM,λp hp=>?_,f {oL,Zd,I.free} hs,by simpa using I.len} {_,hs,.inl rfl}
  .exact(hs.2 b (aR (aJ (au e) I.ok.above))).trans (I.base.keep b o e n J l)
  .obtain⟨sl,g⟩:=I.base.slot b o e n J l;exact{sl,(hs.2 b (aR (aJ (au e) I.ok.above))).trans g}
  .obtain⟨o',g⟩:=I.base.there b o e l;exact{o',(hs.2 b (aR (aJ (au e) I.ok.above))).trans g}
  .by_cases F:j=i
   .subst F;rw[P] at g;cases g;rw[aQ D] at B;cases B;exact{u,r,.inl {C,by simp}}
   .rw[av (Ne.symm F)] at B;obtain⟨u',r',q⟩:=hl j y W g B e3;refine{u',r',?_};rcases q with ⟨k,e⟩ | ⟨k,c,e,z⟩
    .refine .inl {k,?_};have:y≠x:=λe=>F (vf hN g (e▸P));simp[this,e]
    .exact .inr {k,c,e,z.sameBut hs (K y c e)}
  .obtain⟨T,z⟩:=I.cell y c e;exact{T,z.sameBut hs (K y c e)}
  .obtain⟨e,n,U,nf,d⟩:=I.pin p hp;exact{(hs.2 p.1 U).trans e,n,U,nf,d}
 .have G:X.fn x=true:=by
   rcases hf with z|z
   .exact z
   .rw[z] at C;cases C
  obtain⟨c,hc⟩:=I.ok.has x (.inl C);obtain⟨T,z⟩:=I.cell x c hc;refine wpAny_storeName_cell I.ok.kind C hc z (λh' Wh hs=>?_);obtain⟨oc,O,L⟩:=id z;refine h { s with heap:=h' } {I.ok,I.os,I.bare,{λb o e n J l=>?_,λb o e n J l=>?_,I.base.free,λb o e l=>?_,I.base.pa,I.base.oZ,I.base.qu},{m,hn.sameBut hs (Ne.symm (K x c hc)),λj y W g B e3=>?_},λy V e=>?_,I.free,I.kM,λp hp=>?_,f {oc,O,I.kM x c hc} hs,by simpa using I.len} {c,hs,.inr hc}
  .exact(hs.2 b (aR (aJ (au e) (I.ok.SY x c G hc)))).trans (I.base.keep b o e n J l)
  .obtain⟨sl,g⟩:=I.base.slot b o e n J l;exact{sl,(hs.2 b (aR (aJ (au e) (I.ok.SY x c G hc)))).trans g}
  .obtain⟨o',g⟩:=I.base.there b o e l;exact{o',(hs.2 b (aR (aJ (au e) (I.ok.SY x c G hc)))).trans g}
  .by_cases F:j=i
   .subst F;rw[P] at g;cases g;rw[aQ D] at B;cases B;exact{u,r,.inr {.inl C,c,hc,Wh}}
   .rw[av (Ne.symm F)] at B;obtain⟨u',r',q⟩:=hl j y W g B e3;refine{u',r',?_};rcases q with q | ⟨k,V,e,z'⟩
    .exact .inl q
    .refine .inr {k,V,e,z'.sameBut hs ?_};rintro rfl;exact F (vf hN g (I.ok.inj _ _ _ e hc▸P))
  .by_cases S:V=c
   .subst S;exact{_,Wh}
   .obtain⟨w2,z2⟩:=I.cell y V e;exact{w2,z2.sameBut hs S}
  .obtain⟨e,n,U,nf,d⟩:=I.pin p hp;refine{(hs.2 p.1 ?_).trans e,n,U,nf,d};intro q;rw[q,O] at e;have q':oc=p.2:=bW e;exact d T (by rw[<-q'];exact L)
def vg{M:Model}{Q:Unit->Shared->Prop} (I:c7 X pins σ H s) (d:X.N.Nodup) (b:X.N[i]?=Y x) (a:DJ X.env.scope x) (r:gg v u)
  (h:∀s',c7 X pins (σ.set i (Y v)) H s'->Q () s') (c:zr 1 (X.fn x=true\/X.env.scope.names.lookup x=Y .local)):wpAny M A (storeName X.env x u) Q E s :=
 x6 I d b a r (λs' e _=>h s' e) c
def c7.Wi{s':Shared}{ch:List Addr} (I:c7 X pins σ H s) (g:s'.os=s.os) (u:Un (tZ X.stack) ch H H' s.heap s'.heap) (a:oP X.prog X.w H' s'.heap) (h:AllBare s'.gens)
  (d:∀b∈ch,(b∈X.ex\/(zB X.iH)<=b)/\b≠X.env.locals/\(∀x c,X.env.cells.lookup x=Y c->c≠b)/\∀p∈X.pn++pins,p.1≠b):c7 X pins σ H' s':=by
 sleep 1;obtain⟨h',g',d',t',f⟩:=s';sleep 2;have e:f=s.os:=g;subst e;exact I.call (g':=g') (t':=t') (d':=d') u a h d
end
abbrev XK:=Value->Option Addr->Hp->Prop
abbrev St:=List (Option V)
abbrev VK:=V->Hp->Prop
abbrev TE:=St->Hp->VK->Prop
abbrev TT:=St->Hp->(Bool->Hp->Prop)->Prop
abbrev TA:=St->Hp->(List V->Hp->Prop)->Prop
structure pb where
 nx:St->Hp->Prop
 rt:VK
 bk:St->Hp->Prop:=λ_ _=>False
 ct:St->Hp->Prop:=λ_ _=>False
abbrev TS:=pb->St->Hp->Prop
def EP(X:Cx)(a:Ax)(c:St)(Q:VK)(u:Value)(d:Shared):Prop:=∃v b,c7 X a c b d/\gg v u/\Q v b
def TP(X:Cx)(a:Ax)(d:St)(Q:Bool->Hp->Prop)(b:Bool)(e:Shared):Prop:=∃c,c7 X a d c e/\Q b c
def AP(X:Cx)(a:Ax)(d:St)(Q:List V->Hp->Prop)(e:Lw)(f:Shared):Prop:=∃b c,c7 X a d c f/\fv b e/\Q b c
def SP(X:Cx)(b:Ax)(D:pb)(f:Flow)(c:Shared):Prop :=
 match f with
 |.next=>∃a H',c7 X b a H' c/\D.nx a H'
 |.brk=>∃a H',c7 X b a H' c/\D.bk a H'
 |.cont=>∃a H',c7 X b a H' c/\D.ct a H'
 |.ret u=>∃v a H',c7 X b a H' c/\gg v u/\D.rt v H'
def PE(X:Cx)(e:Expr)(t:TE):Prop :=
 ∀⦃a:Ax⦄ (s:Shared) (σ:St) (H:Hp) (Q:VK),c7 X a σ H s->t σ H Q->(zw X) (eval e X.env) (EP X a σ Q) X.xe s
def PT(X:Cx)(e:Expr)(t:TT):Prop :=
 ∀⦃a:Ax⦄ (s:Shared) (σ:St) (H:Hp) (Q:Bool->Hp->Prop),c7 X a σ H s->t σ H Q->(zw X) (isTrue e X.env (eval e X.env)) (TP X a σ Q) X.xe s
def PW(X:Cx)(e:Expr)(t:TT):Prop :=
 ∀⦃a:Sem Value⦄ (pins:Ax) (s:Shared) (σ:St) (H:Hp) (Q:Bool->Hp->Prop),c7 X pins σ H s->t σ H Q->(zw X) (isTrue e X.env a) (TP X pins σ Q) X.xe s
def PW.pt{X:Cx}{t:TT}(h:PW X e t):PT X e t:=@h _
def PA(X:Cx)(b:Lx)(t:TA):Prop :=
 ∀⦃a:Pos⦄ (pins:Ax) (s:Shared) (σ:St) (H:Hp) (Q:List V->Hp->Prop),c7 X pins σ H s->t σ H Q->(zw X) (spliced (backTo a (starEach b X.env))) (AP X pins σ Q) X.xe s
def PS(X:Cx)(b:Stmt)(t:TS):Prop :=
 ∀⦃a:Ax⦄ (s:Shared) (σ:St) (H:Hp) (D:pb),c7 X a σ H s->t D σ H->(zw X) (exec b X.env) (SP X a D) X.xe s
def xb(X:Cx)(b:List Stmt)(t:TS):Prop :=
 ∀⦃a:Ax⦄ (s:Shared) (σ:St) (H:Hp) (D:pb),c7 X a σ H s->t D σ H->(zw X) (execs b X.env) (SP X a D) X.xe s
def iu{t:Sem α}{Q b:α->Shared->Prop}{M:Model}(h:wpAny M A t Q E s)(c:∀a s,Q a s->b a s):wpAny M A t b E s:=bM h c λ_ _ x=>x
end L2
variable  {X:L2.Cx}{σ:L2.St}
namespace L2
open PySem PySem.Spec PyProof.Rows
section
def Wj(i:Nat):TE:=λa H Q=>∃v,a[i]?=Y (Y v)/\Q v H
def tC(v:V):TE:=λ_ H Q=>Q v H
def mn{i:Nat}{x:Str}{g:Pos}(y:X.N[i]?=Y x)(p:BE X.env.scope x)(j:zd0 (zg x))(k:zd0 ((x==("__classdict__":Str))=false)):PE X (.Name x g) (Wj i):=by
 intro f s o H Q I h;obtain⟨v,e,h⟩:=h;obtain⟨m,q,w⟩:=I.loc;obtain⟨u,r,l⟩:=w i x v y e p;have d:EP X f o Q u s:={(v),H,I,r,h}
 rcases l with ⟨b,t⟩ | ⟨b,c,n,a⟩
 .exact wpAny_Name (wpAny_loadName_local I.ok.kind b q t d) j
 .rcases b with b|b
  .exact wpAny_Name (wpAny_loadName_cell I.ok.kind b n a d) j
  .exact wpAny_Name (wpAny_loadName_free I.ok.kind b n a d k) j
def S2{i j pos}:PE X (.Constant (.int i) j pos) (tC (.int i)):=λ_ _ _ H _ I h=>wpAny_Constant_int {.int i,H,I.tok _,{_,rfl},h}
def Wl{b j pos}:PE X (.Constant (.bool b) j pos) (tC (.bl b)):=λ_ _ _ H _ I h=>Constant_bool {.bl b,H,I,rfl,h}
def S3{j pos}:PE X (.Constant .none j pos) (tC .lz):=λ_ _ _ H _ I h=>Constant_none {.lz,H,I,rfl,h}
def Jf{x j pos}:PE X (.Constant (.str x) j pos) (tC (.str x)):=λ_ _ _ H _ I h=>Calls.Constant_str {.str x,H,I.tok _,{_,rfl},h}
def Gl(X:Cx)(x:Str):Prop:=X.env.kindOf x=Y .globalImplicit
def kj{Q:Px} (I:c7 X pins σ H s) (b:Gl X x) (a:X.mg x=Y u) (h:Q u s)
  (c:zd0 (zg x)):(zw X) (eval (.Name x pos) X.env) Q E s :=
 dD I.ok.kind b (Calls.loadGlobal_global (by rw[I.ok.glob];exact I.mod.glob.keeps I.bk) a h) c
def ni{Q:Px} (I:c7 X pins σ H s) (d:Gl X x) (c:X.mg x=Z) (a:bootBuiltins x=Y u) (h:Q u s)
  (b:zd0 (x≠"__name__")) (e:zd0 (zg x)):(zw X) (eval (.Name x pos) X.env) Q E s:=by
 obtain⟨i,g,f⟩:=I.mod.blt;exact dD I.ok.kind d (Calls.loadGlobal_builtin (by rw[I.ok.glob];exact I.mod.glob.keeps I.bk) c (by rw[I.ok.blt];exact g.keeps I.bk) ((f x b).trans a) h) e
def FG(b:Gl X x)(a:X.mg x=Y u)(r:gg v u)(c:zd0 (zg x)):PE X (.Name x pos) (tC v) :=
 λ_ _ _ H _ I h=>kj I b a {(v),H,I,r,h} c
def FH(d:Gl X x)(c:X.mg x=Z)(a:bootBuiltins x=Y u)(r:gg v u)(b:zd0 (x≠"__name__"))(e:zd0 (zg x)):PE X (.Name x pos) (tC v) :=
 λ_ _ _ H _ I h=>ni I d c a {(v),H,I,r,h} b e
variable {a:Expr}{ta tb:TE}
variable {tA YS:TT}{rest:Lx}
def Ze(t u:TT):TT:=λa H Q=>t a H λc b=>if c=true then u a b Q else Q false b
def tOr(t u:TT):TT:=λa H Q=>t a H λc b=>if c=true then Q true b else u a b Q
def Zf(t:TT):TT:=λa H Q=>t a H λc b=>Q (!c) b
def NY(f:PT X a tA):PW X (.BoolOp .And [a] pos) tA:=by
 intro g b s d H Q I h;refine isTrue_and (iu (@f b s d H Q I h) λc i e=>?_);cases c with
 |true=>exact isTrue_and_nil e
 |false=>exact e
def Jg(f:PT X a tA):PW X (.BoolOp .Or [a] pos) tA:=by
 intro g b s d H Q I h;refine isTrue_or (iu (@f b s d H Q I h) λc i e=>?_);cases c with
 |false=>exact isTrue_or_nil e
 |true=>exact e
def S4(m:PT X a tA)(l:PW X (.BoolOp .And (b::rest) pos) YS):PW X (.BoolOp .And (a::b::rest) pos) (Ze tA YS):=by
 intro j d s e H Q I h;refine isTrue_and (iu (@m d s e H _ I h) ?_);rintro c k ⟨i,g,f⟩;cases c with
 |true=>exact @l j d k e i Q g f
 |false=>exact{(i),g,f}
def Ro(m:PT X a tA)(l:PW X (.BoolOp .Or (b::rest) pos) YS):PW X (.BoolOp .Or (a::b::rest) pos) (tOr tA YS):=by
 intro j d s e H Q I h;refine isTrue_or (iu (@m d s e H _ I h) ?_);rintro c k ⟨i,g,f⟩;cases c with
 |true=>exact{(i),g,f}
 |false=>exact @l j d k e i Q g f
def Jh(e:PT X a tA):PT X (.UnaryOp .Not a pos) (Zf tA):=by intro b s d H Q I h;exact isTrue_not (@e b s d H (λc H1=>Q (!c) H1) I h)
def Wm(e d:TE):TE:=λa H Q=>e a H λx b=>∃c,x=.bl c/\if c=true then d a b Q else Q (.bl false) b
def S5{op}{t:TE}(h:PE X a t):PE X (.BoolOp op [a] pos) t:=λb s c H Q I hw=>BoolOp_one (@h b s c H Q I hw)
def S6(m:PE X a ta)(l:PE X (.BoolOp .And (b::rest) pos) tb):PE X (.BoolOp .And (a::b::rest) pos) (Wm ta tb):=by
 intro d s f H Q I h;refine BoolOp_and (iu (@m d s f H _ I h) ?_);rintro v j ⟨x,i,g,k,e⟩;obtain⟨c,rfl,e⟩:=e;cases k;refine cN ?_;cases c with
 |true=>exact @l d j f i Q g e
 |false=>exact{.bl false,i,g,rfl,e}
end
def nj(K:Fg)(H:Hp)(a:Addr)(b:List V):Prop :=
 Rd H a (.lst b) \/
  ∃(o:Obj) (its:Array Value) (n:Nat),K.lookup a=Y o/\o.cls=.type "list"/\o.dict=Z/\o.data=.seq its n/\its.size<=sizeLine/\fv b its.toList
def pf(K:Fg)(H:Hp)(a:Addr)(b:List V):Prop :=
 Rd H a (.tup b) \/
  ∃(o:Obj) (its:Array Value) (n:Nat),K.lookup a=Y o/\o.cls=.type "tuple"/\o.data=.seq its n/\its.size<=sizeLine/\fv b its.toList
def Zg:Value->Option V
 |.none=>Y .lz
 |.bool b=>Y (.bl b)
 |.int i _=>Y (.int i)
 |.str x _=>Y (.str x)
 |.bytes b _=>Y (.V0 b)
 |.float b _=>Y (.YQ b)
 |.ref a=>Y (.ref a)
 |.type n=>Y (.ty n)
 |_=>Z
def gg.abs{x:V}(r:gg x u):Zg u=Y x:=by
 cases x with
 |lz=>cases r;rfl
 |bl _=>cases r;rfl
 |int _=>obtain⟨t,rfl⟩:=r;rfl
 |str _=>obtain⟨t,rfl⟩:=r;rfl
 |V0 _=>obtain⟨t,rfl⟩:=r;rfl
 |YQ _=>obtain⟨t,rfl⟩:=r;rfl
 |ref _=>cases r;rfl
 |ty _=>cases r;rfl
def gg.inj{x y:V}(r:gg x u)(q:gg y u):x=y:=bW (r.abs.symm.trans q.abs)
theorem fv.inj:∀{a ys:List V}{b:Lw},fv a b->fv ys b->a=ys
 |_,_,_,.nil,.nil=>rfl
 |_,_,_,.cons r t,.cons r' t'=>by rw[r.inj r',fv.inj t t']
section
variable {xs ys:List V}
def nj.of{K:Fg}(h:H a=Y (.lst xs)):nj K H a xs:=.inl (.inl h)
def pf.of{K:Fg}(h:H a=Y (.tup xs)):pf K H a xs:=.inl (.inl h)
def c7.list(I:c7 X pins σ H s)(h:nj X.K H a xs):∃its:Lw,fv xs its/\PlainL s.heap a its.toArray/\xs.length<=sizeLine:=by
 rcases h with h | ⟨o,its,n,b,d,c,hs,hz,r⟩
 .obtain⟨z,its,n,r,e⟩:=h.ok I.ip;exact{its,r,{_,n,e,rfl,rfl,rfl},z}
 .refine{its.toList,r,{o,n,I.oj a o b,d,c,by simpa using hs},?_};have e:=r.length;simp only[cX] at e;omega
def c7.tuple(I:c7 X pins σ H s)(h:pf X.K H a xs):∃b:Lw,fv xs b/\IsTup s.heap a b.toArray/\xs.length<=sizeLine:=by
 rcases h with h | ⟨o,b,n,d,f,c,hz,r⟩
 .obtain⟨z,b,r,p⟩:=h.ok I.ip;exact{(b),r,p,z}
 .refine{b.toList,r,{o,I.oj a o d,f,n,by simpa using c},?_};have e:=r.length;simp only[cX] at e;omega
def c7.BJ(I:c7 X pins σ H s)(h:nj X.K H a xs)(h':nj X.K H a ys):xs=ys:=by
 sleep 1;obtain⟨c,r,⟨o,n,e,_,_,d⟩,_⟩:=I.list h;sleep 2;sleep 1;obtain⟨b,i,⟨k,l,f,_,_,g⟩,_⟩:=I.list h';sleep 2;rw[e] at f;cases f;rw[d] at g;injection g with j _
 have:c=b:=by simpa using bG Array.toList j
 subst this;exact r.inj i
def c7.Hr(I:c7 X pins σ H s)(h:pf X.K H a xs)(j:pf X.K H a ys):xs=ys:=by
 sleep 1;obtain⟨c,r,⟨o,e,_,n,d⟩,_⟩:=I.tuple h;sleep 2;sleep 1;obtain⟨b,i,⟨l,f,_,m,g⟩,_⟩:=I.tuple j;sleep 2;rw[e] at f;cases f;rw[d] at g;injection g with k _
 have:c=b:=by simpa using bG Array.toList k
 subst this;exact r.inj i
end
abbrev Cx.uF(X:Cx)(E:Value->Shared->Prop):Cx:={ X with xe:=E }
abbrev Cx.Rp(X:Cx):Cx:=X.uF λ_ _=>False
theorem Cx.Ok.uF{X:Cx}(a:X.Ok)(E:Px):(X.uF E).Ok :=
 {a.mod,a.kind,a.glob,a.blt,a.above,a.inj,a.has,a.SY,a.hd,a.frames,a.S0,a.S1,a.bs,a.NK,a.DK,a.zt,a.o1,a.Hq}
def Cx.Ok.ph(a:(X.uF E).Ok):X.Ok :=
 {a.mod,a.kind,a.glob,a.blt,a.above,a.inj,a.has,a.SY,a.hd,a.frames,a.S0,a.S1,a.bs,a.NK,a.DK,a.zt,a.o1,a.Hq}
section
theorem c7.uF(I:c7 X pins σ H s)(E:Px):c7 (X.uF E) pins σ H s:={I.ok.uF E,I.os,I.bare,I.base,I.loc,I.cell,I.free,I.kM,I.pin,I.ip,I.len}
theorem c7.ph(I:c7 (X.uF E) pins σ H s):c7 X pins σ H s:={I.ok.ph,I.os,I.bare,I.base,I.loc,I.cell,I.free,I.kM,I.pin,I.ip,I.len}
theorem SP.ph{D:pb}{f:Flow}{c:Shared}(h:SP (X.uF E) pins D f c):SP X pins D f c:=by
 cases f with
 |next=>obtain⟨a,b,I,q⟩:=h;exact{a,b,I.ph,q}
 |brk=>obtain⟨a,b,I,q⟩:=h;exact{a,b,I.ph,q}
 |cont=>obtain⟨a,b,I,q⟩:=h;exact{a,b,I.ph,q}
 |ret u=>sleep 1;obtain⟨v,a,b,I,r,q⟩:=h;sleep 2;exact{v,a,b,I.ph,r,q}
theorem xb.Rp{b:List Stmt}{t:TS}(h:xb X.Rp b t):xb X b t:=λa s c H D I hw=>
 bM (@h a s c H D (I.uF _) hw) (λ_ _ q=>q.ph) λ_ _ z=>False.elim z
end
section
variable {rest:List Stmt}{t u:TS}{te:TE}
def Wn:TS:=λD a H=>D.nx a H
def Zh(t u:TS):TS:=λD a H=>t { D with nx:=u D } a H
def NZ:xb X [] Wn:=λ_ _ a H _ I h=>cJ {(a),H,I,h}
def Ji(g:PS X st t)(e:xb X rest u):xb X (st::rest) (Zh t u):=by
 intro a s c H D I h;refine wpAny_execs_cons (iu (@g a s c H { D with nx:=u D } I h) λf d q=>?_);cases f with
 |next=>obtain⟨b,j,i,q⟩:=q;exact @e a d b j D i q
 |ret v=>exact q
 |brk=>exact q
 |cont=>exact q
def N1(c:PS X st t):xb X [st] t:=by
 intro a s b H D I h;refine wpAny_execs_cons (iu (@c a s b H D I h) λf d q=>?_);cases f with
 |next=>exact cJ q
 |ret v=>exact q
 |brk=>exact q
 |cont=>exact q
def c7.quiet(I:c7 X pins σ H s):interactive X.env=false:=by simp[interactive,I.ok.kind]
def Wo(b:TE):TS:=λD a H=>b a H λ_ c=>D.nx a c
def rf(f:PE X e te)(d:zr0 (swapsWith e Z pos.line X.env=pure false)):PS X (.Expr e pos) (Wo te):=by intro a s b H D I h;exact wpAny_Expr_any (iu (@f a s b H _ I h) <| by rintro v j ⟨x,i,g,k,c⟩;exact{(b),i,g,c}) I.quiet d
def Zi(b:TE):TS:=λD a H=>b a H D.rt
def sN(d:PE X e te):PS X (.Return (Y e) pos) (Zi te):=by intro a s σ H D I h;exact wpAny_Return_some (iu (@d a s σ H _ I h) <| by rintro v i ⟨x,g,f,b,c⟩;exact{(x),σ,g,f,b,c})
def Wq:TS:=λD _ H=>D.rt .lz H
def N2:PS X (.Return Z pos) Wq:=λ_ _ a H _ I h=>wpAny_Return_none {.lz,a,H,I,rfl,h}
def Zj(c:TT)(t u:TS):TS:=λD a H=>c a H λb d=>if b=true then t D a d else u D a d
def Rq{c:Expr}{a b:List Stmt}{g:TT}(m:PT X c g)(o:xb X a t)(n:xb X b u):PS X (.If c a b pos) (Zj g t u):=by
 intro e s f H D I h;refine wpAny_If (iu (@m e s f H _ I h) ?_);rintro d i ⟨l,k,j⟩;cases d with
 |true=>exact @o e i f l D k j
 |false=>exact @n e i f l D k j
end
abbrev TG:=V->St->Hp->(St->Hp->Prop)->Prop
abbrev N3:=List V->St->Hp->(St->Hp->Prop)->Prop
def PG(X:Cx)(a:Expr)(t:TG):Prop :=
 ∀⦃b:Ax⦄ (s:Shared) (σ:St) (H:Hp) (v:V) (u:Value) (Q:St->Hp->Prop),c7 X b σ H s->gg v u->t v σ H Q ->
  (zw X) (assign a X.env u) (λ_ s'=>∃c d,c7 X b c d s'/\Q c d) X.xe s
def NL(X:Cx)(d:Lx)(t:N3):Prop :=
 ∀⦃a:Ax⦄ (s:Shared) (σ:St) (H:Hp) (vs:List V) (us:Lw) (Q:St->Hp->Prop),c7 X a σ H s->fv vs us->t vs σ H Q ->
  (zw X) (assignInOrder ((assignEach d X.env).map (·.2)) us) (λ_ s'=>∃b c,c7 X a b c s'/\Q b c) X.xe s
abbrev N4:=V->V->V->Hp->(Hp->Prop)->Prop
def BL(X:Cx)(t:N4):Prop :=
 ∀(a:Ax) (s:Shared) (σ:St) (H:Hp) (o i v:V) (ov b u:Value) (Q:Hp->Prop),c7 X a σ H s->gg o ov->gg i b->gg v u->t o i v H Q ->
  (zw X) (setItem ov b u) (λ_ s'=>∃c,c7 X a σ c s'/\Q c) X.xe s
abbrev YT:=V->V->Hp->VK->Prop
def YU(X:Cx)(b:Operator)(t:YT):Prop :=
 ∀(a:Ax) (s:Shared) (σ:St) (H:Hp) (x y:V) (v u:Value) (Q:VK),c7 X a σ H s->gg x v->gg y u->t x y H Q ->
  (zw X) (inplaceOp b v u) (EP X a σ Q) X.xe s
section
def FI(i:Nat):TG:=λv a H Q=>Q (a.set i (Y v)) H
def mW(e:X.N.Nodup)(c:X.N[i]?=Y x)(b:DJ X.env.scope x)(d:zr 1 (X.fn x=true\/X.env.scope.names.lookup x=Y .local)):PG X (.Name x pos) (FI i):=by intro a s g H v u Q I r h;exact wpAny_assign_Name (vg I e c b r (λs' f=>{_,H,f,h}) d)
def Zk:N3:=λb a H Q=>b=[]/\Q a H
def Wr(t:TG)(u:N3):N3:=λc b H Q=>∃v r,c=v::r/\t v b H λa d=>u r a d Q
def zD:NL X [] Zk:=by intro a s b H c d Q I r h;obtain⟨e,h⟩:=h;subst e;cases r;exact assignInOrder_nil {(b),H,I,h}
def nM{t:TG}{u:N3} (k:PG X e t) (j:NL X es u)
  (i:zr0 ((assignEach (e::es) X.env).map (·.2)=assign e X.env::(assignEach es X.env).map (·.2))):NL X (e::es) (Wr t u):=by
 intro a s c H o q Q I r h;obtain⟨v,p,l,h⟩:=h;subst l;cases r with
 |cons r f=>rw[i];refine assignInOrder_cons (iu (@k a s c H _ _ _ I r h) ?_);rintro _ d ⟨b,n,m,g⟩;exact @j a d b n _ _ Q m f g
def Zl(K:Fg)(n:Nat)(t:N3):TG:=λv c H Q=>∃a b,v=.ref a/\pf K H a b/\b.length=n/\t b c H Q
def DL{k:Nat}{t:N3} (x:X.calm=true) (h:NL X es t)
  (q:zr0 ((assignEach es X.env).length=n)) (d:zr0 ((assignEach es X.env).findIdx? (·.1)=Z)):PG X (.Tuple es k pos) (Zl X.K n t):=by
 intro c s f H v u Q I r hw;sleep 1;obtain⟨a,i,z,p,w,hw⟩:=hw;sleep 2;subst z;cases r;obtain⟨j,g,m,B⟩:=I.tuple p;refine assign_Tuple_tuple (I.ok.hd x) m (by simp[q,<-w,g.length]) d λy l=>?_;have A:c7 X c f H { s with heap:=y }:=I.kept (t':=s.toks) λb o e=>l b o (aR (au e)) e;exact @h c _ f H i _ Q A (by simpa using g) hw
def Zm(b c:TE)(t:N4):TG:=λv a H Q=>b a H λo f=>c a f λi e=>t o i v e λd=>Q a d
def S7{o i:Expr}{c d:TE}{t:N4} (p:PE X o c) (q:PE X i d) (n:BL X t)
  (w:∀v,assign (.Subscript o i pos) X.env v=(do
   let ov <-holding [v] (eval o X.env);let iv <-holding [v,ov] (eval i X.env)
   standAt pos
   holding [v,ov,iv] (setItem ov iv v)
   release [v,ov,iv] []):=by intro _;rfl):PG X (.Subscript o i pos) (Zm c d t):=by
 intro a s b H v u Q I r h;rw[w];refine aa (bp (iu (@p a s b H _ I h) ?_));rintro ov f ⟨x,E,B,j,m⟩;refine aa (bp (iu (@q a f b E _ B m) ?_));rintro iv e ⟨y,D,A,g,l⟩;refine aa (wpAny_standAt (aa (bp (iu (@n a e b D x y v ov iv u _ A j g r l) ?_))));rintro _ F ⟨C,z,k⟩;exact wpAny_release {(b),C,z,k}
def S8(b:TE)(g:TG):TS:=λD a H=>b a H λx c=>g x a c D.nx
def Jj{c:TE}{g:TG} (l:PE X e c) (k:PG X tg g) (j:zr0 (swapsWithSole [tg] e pos.line X.env=pure false)) (hw:zr0 (swappedStores [tg] e X.env=pure Z))
  (m:zr0 ((assignEach [tg] X.env).map (·.2)=[assign tg X.env])):PS X (.Assign [tg] e pos) (S8 c g):=by
 intro a s b H D I h;refine wpAny_Assign_stores (iu (@l a s b H _ I h) ?_) j hw;rintro v d ⟨x,o,n,f,i⟩;rw[m];exact iu (@k a d b o x v _ n f i) λ_ p q=>q
def Jk{c:TE}{a:Pos}(o:X.N.Nodup)(l:X.N[i]?=Y x)(j:DJ X.env.scope x)(n:PE X e c)(k:zr0 (swapsWith e (Y (.Name x a)) pos.line X.env=pure false))(m:zr 1 (X.fn x=true\/X.env.scope.names.lookup x=Y .local)):
  PS X (.Assign [.Name x a] e pos) (S8 c (FI i)):=by
 intro b s d H D I h;refine wpAny_Assign_Name (iu (@n b s d H _ I h) ?_) k;rintro v t ⟨y,r,q,f,g⟩;exact vg q o l j f (λs2 p=>{_,r,p,g}) m
def Zn(i:Nat)(c:TE)(b:YT):TS:=λD a H=>∃x,a[i]?=Y (Y x)/\c a H λy e=>b x y e λz d=>D.nx (a.set i (Y z)) d
def S9{A:TE}{o:Operator}{t:YT}{j:Pos}(T:X.N.Nodup)(B:X.N[i]?=Y x)(p:DJ X.env.scope x)(R:PE X e A)(L:YU X o t)(Q:zr 1 (X.fn x=true\/X.env.scope.names.lookup x=Y .local)):
  PS X (.AugAssign (.Name x j) o e pos) (Zn i A t):=by
 intro a s q H D I h;obtain⟨v,U,h⟩:=h;obtain⟨m,M,P⟩:=I.loc;have n:BE X.env.scope x:=by rcases p with k|k;exact .inl k;exact .inr (.inl k)
 obtain⟨u,r,l⟩:=P i x v B U n;refine wpAny_AugAssign_Name ?_;have C:(zw X) (eval e X.env) (λw g=>(zw X) (inplaceOp o u w) (λr f=>(zw X) (storeName X.env x r) (λ_=>SP X a D .next) X.xe f) X.xe g) X.xe s:=by refine iu (@R a s q H _ I h) ?_;rintro w E ⟨y,H1,I1,G,K⟩;refine iu (@L a E q H1 v y u w _ I1 r G K) ?_;rintro z s2 ⟨zv,H2,W,F,J⟩;exact vg W T B p F (λs3 V=>{_,H2,V,J}) Q
 rcases l with ⟨b,O⟩ | ⟨b,c,S,d⟩
 .exact wpAny_loadName_local I.ok.kind b M O C
 .rcases b with b|b
  .exact wpAny_loadName_cell I.ok.kind b S d C
  .rcases p with k|k
   .have:X.env.scope.names.lookup x=Y .free:=b;rw[k] at this;cases this
   .have:X.env.scope.names.lookup x=Y .free:=b;rw[k] at this;cases this
def Zo(f:Int->Int->Int):YT:=λx y H Q=>∃i j,x=.int i/\y=.int j/\Q (.int (f i j)) H
def Ta:YU X .Add (Zo λi j=>i+j):=by intro a s f H x y v u Q I c b h;sleep 1;obtain⟨i,j,e,d,q⟩:=h;sleep 2;subst e;subst d;obtain⟨t,rfl⟩:=c;obtain⟨g,rfl⟩:=b;exact iadd_int {.int _,H,I.tok _,{_,rfl},q}
def Tb:YU X .Sub (Zo λi j=>i - j):=by intro a s f H x y v u Q I c b h;sleep 1;obtain⟨i,j,e,d,q⟩:=h;sleep 2;subst e;subst d;obtain⟨t,rfl⟩:=c;obtain⟨g,rfl⟩:=b;exact isub_int {.int _,H,I.tok _,{_,rfl},q}
end
section
def Tc(c:TT)(h:TS):TS:=λD a H=>∃W:Nat->St->Hp->Prop,(∃m,W m a H)/\∀m a H,W m a H ->
 c a H λb f=>if b=true then ∃N:St->Hp->Prop,(∀d g,N d g->∃e,e<m/\W e d g)/\h { D with nx:=N,ct:=N,bk:=D.nx } a f else D.nx a f
def Jl{c:Expr}{g:List Stmt}{u:TT}{x:TS}(y:PassesOwn (model X.prog X.w) X.A X.env X.xe)(P:PT X c u)(Q:xb X g x):PS X (.While c g [] pos) (Tc u x):=by
 intro d s G H D I h;obtain⟨W,⟨O,K⟩,j⟩:=h;refine wpAny_While (codeAny_whileLoop (λn s'=>∃i F,c7 X d i F s'/\W n i F) ?_ O {(G),H,I,K});rintro n M ⟨e,E,R,J⟩;refine cK y (iu (@P d M e E _ R (j n e E J)) ?_);rintro b L ⟨C,B,m⟩;cases b with
 |true=>
  obtain⟨N,z,m⟩:=m;rw[ai rfl];refine cK y (iu (@Q d L e C _ B m) λf S l=>?_);cases f with
  |next=>obtain⟨a,k,t,p⟩:=l;obtain⟨q,r,o⟩:=z a k p;exact{(q),r,a,k,t,o}
  |cont=>obtain⟨a,k,t,p⟩:=l;obtain⟨q,r,o⟩:=z a k p;exact{(q),r,a,k,t,o}
  |brk=>exact l
  |ret v=>exact l
 |false=>rw[aq aV];exact cJ {(e),C,B,m}
end
structure It where
 go:Nat->Hp->Prop
 V1:Nat->Hp->V->Hp->Prop
 stop:Nat->Hp->Prop
def pj(X:Cx)(a:Ax)(H:Hp)(b:Addr):Prop :=
 H b=Z/\b≠X.env.locals/\b∉X.fs/\(b∈X.ex\/(zB X.iH)<=b)/\(∀x c,X.env.cells.lookup x=Y c->c≠b)/\∀p∈X.pn++a,p.1≠b
def c7.Hs{b:Addr}(I:c7 X pins σ H s)(a:(zB s)<=b)(f:H' b=Z):pj X pins H' b:=by
 refine{f,df (aJ I.lt a),I.Zc a,.inr (bJ I.sz a),λx c e z=>?_,λp d z=>?_}
 .obtain⟨v,q⟩:=I.cell x c e;exact absurd (aJ q.lt (by rw[z];exact a)) (bh _)
 .exact absurd (aJ (au (I.pin p d).1) (by rw[z];exact a)) (bh _)
structure Ht (P:Program) (w:World) (K:Fg) (tg:Expr) (J:It) (fp:List Addr) (it:Addr) (tn:Nat->Heap->Prop):Prop where
 mem:it∈fp
 obj:∀i h,tn i h->∀b∈fp,∃o,h.get? b=Y o/\∀v,o.data≠.cell v
 keep:∀i h h',tn i h->(∀b∈fp,∀o,h.get? b=Y o->h'.get? b=Y o)->tn i h'
 item:∀(X:Cx),X.prog=P->X.w=w->X.K=K->X.calm=true->∀(i:Nat) (pins:Ax) (s:Shared) (σ:St) (H:Hp) (E:Px),c7 X pins σ H s->(∀b∈fp,pj X pins H b)->tn i s.heap->J.go i H ->
  wpAny (model P w) X.A (pyNext (.ref it)) (λr s1=>∃u,r=Y u /\
   wpAny (model P w) X.A (letOwnedTupleGo tg (.ref it) u) (λ_ s2=>∃x H',c7 X pins σ H' s2/\gg x u/\J.V1 i H x H'/\tn (i+1) s2.heap/\∀b∈fp,H' b=Z) E s1) E s
 done:∀(X:Cx),X.prog=P->X.w=w->X.K=K->X.calm=true->∀(i:Nat) (pins:Ax) (s:Shared) (σ:St) (H:Hp) (E:Px),c7 X pins σ H s->(∀b∈fp,pj X pins H b)->tn i s.heap->J.stop i H ->
  wpAny (model P w) X.A (pyNext (.ref it)) (λr s1=>r=Z/\c7 X pins σ H s1) E s
 self:∀(A:Around) (i:Nat) (s:Shared) (Q:Px) (E:Px),tn i s.heap->Q (.ref it) s->wpAny (model P w) A (pyIter (.ref it)) Q E s
abbrev TI:=St->Hp->(It->Hp->Prop)->Prop
def M'(X:Cx)(a:Ax)(f:St)(g:Expr)(R:It->Hp->Prop)(c:Value)(d:Shared):Prop :=
 ∃(e:Addr) (fp:List Addr) (tn:Nat->Heap->Prop) (J:It) (H':Hp),c=.ref e/\c7 X a f H' d/\Ht X.prog X.w X.K g J fp e tn/\tn 0 d.heap/\(∀b∈fp,pj X a H' b)/\R J H'
def PI(X:Cx)(d b:Expr)(c:TI):Prop :=
 ∀⦃a:Ax⦄ (s:Shared) (σ:St) (H:Hp) (R:It->Hp->Prop),c7 X a σ H s->c σ H R ->
  (zw X) (eval b X.env) (λv s1=>(zw X) (pyIter v) (M' X a σ d R) X.xe s1) X.xe s
def BM{M:Model}{c:Addr}{o:Obj}{n:String}{b:Array Value}{Q:Unit->Shared->Prop} (d:s.heap.get? c=Y o) (g:o.cls=.type n) (f:o.data=.fields b)
    (e:["enumerate","zip","dict_itemiterator","dict_reverseitemiterator","odict_iterator","itertools.zip_longest","itertools.pairwise"].contains n=false) (a:Q () s):wpAny M A (letOwnedTupleGo tg (.ref c) u) Q E s:=by
  unfold letOwnedTupleGo;cases tg<;>first
    |exact ak a
    | (cases u<;>first
        |exact ak a
        | (refine aa (wpAny_load d ?_)
           rw[g,f];show wpAny M A (if (["enumerate","zip","dict_itemiterator","dict_reverseitemiterator","odict_iterator","itertools.zip_longest","itertools.pairwise"].contains n&&b[0]?==Y (rawInt _))=true then _ else _) Q E s;rw[aq (by intro h;rw[e,Bool.false_and] at h;cases h)];exact ak a))
def N'(K:Fg)(a:Addr):It :=
 {λi H=>∃b x,nj K H a b/\b[i]?=Y x,λi H x c=>c=H/\∀b,nj K H a b->b[i]?=Y x,λi H=>∃b,nj K H a b/\b.length<=i}
def P'(K:Fg)(a:Addr):It :=
 {λi H=>∃b x,pf K H a b/\b[i]?=Y x,λi H x c=>c=H/\∀b,pf K H a b->b[i]?=Y x,λi H=>∃b,pf K H a b/\b.length<=i}
def V2(a:Int)(n:Nat):It:={λi _=>i<n,λi H x b=>b=H/\x=.int (a+i),λi _=>n<=i}
def Hu{P:Program}{K:Fg}(a j:Addr):Ht P w K tg (N' K a) [j] j (λi h=>h.IsListIter j a i) where
 mem:=by simp
 obj:=λi h f b l=>by
  have e:b=j:=by simpa using l
  subst e;obtain⟨o,e,c,d⟩:=f;exact{o,e,λv z=>by rw[d] at z;cases z}
 keep:=λi h r f k=>f.at λo e=>k j (by simp) o e
 item:=by intro X C hw D O i g s N H E I q f B;subst C hw D;obtain⟨Q,x,n,A⟩:=B;obtain⟨y,t,p,T⟩:=I.list n;obtain⟨u,V,S⟩:=t.get A;sleep 1;obtain⟨M,L,W,J,G,F⟩:=q j (by simp);sleep 2;refine dP f p.isList (x:=u) (by simpa using V) λr m R=>?_;have I1:c7 X g N H { s with heap:=r }:=I.turned (t':=s.toks) (λb o l e=>(R.2 b l).trans e) M L J G F;obtain⟨o,e,c,d⟩:=id m;exact{u,rfl,BM (s:={ s with heap:=r }) e c d (by decide) {x,H,I1,S,{rfl,λys U=>by rw[I.BJ U n];exact A},m,λb l=>(q b l).1}}
 done:=by intro X C hw D O i g s N H E I q f B;subst C hw D;obtain⟨Q,n,A⟩:=B;obtain⟨y,t,p,T⟩:=I.list n;sleep 1;obtain⟨M,L,W,J,G,F⟩:=q j (by simp);sleep 2;have hl:=t.length;exact dZ (I.ok.hd O) f p.isList (by simp;omega) λr eb=>{rfl,I.turned (t':=s.toks) (λb o l e=>eb b o l e) M L J G F}
 self:=λ_ _ _ _ _ f h=>wpAny_pyIter_listiter f h
def DM{P:Program}{K:Fg}(a l:Addr):Ht P w K tg (P' K a) [l] l (λi h=>h.IsTupleIter l a i) where
 mem:=by simp
 obj:=λi h f b m=>by
  have e:b=l:=by simpa using m
  subst e;obtain⟨o,e,c,d⟩:=f;exact{o,e,λv z=>by rw[d] at z;cases z}
 keep:=λi h t f k=>f.at λo e=>k l (by simp) o e
 item:=by intro X C hw D O i g s N H E I r f B;subst C hw D;obtain⟨Q,x,q,A⟩:=B;obtain⟨j,y,p,T⟩:=I.tuple q;obtain⟨u,V,S⟩:=y.get A;sleep 1;obtain⟨M,L,W,J,G,F⟩:=r l (by simp);sleep 2;refine wpAny_pyNext_tuple_item f (show s.heap.IsTuple a j.toArray from p) (x:=u) (by simpa using V) λt n R=>?_;have I1:c7 X g N H { s with heap:=t }:=I.turned (t':=s.toks) (λb o m e=>(R.2 b m).trans e) M L J G F;obtain⟨o,e,c,d⟩:=id n;exact{u,rfl,BM (s:={ s with heap:=t }) e c d (by decide) {x,H,I1,S,{rfl,λys U=>by rw[I.Hr U q];exact A},n,λb m=>(r b m).1}}
 done:=by intro X C hw D O i g s N H E I r f B;subst C hw D;obtain⟨Q,q,A⟩:=B;obtain⟨j,y,p,T⟩:=I.tuple q;sleep 1;obtain⟨M,L,W,J,G,F⟩:=r l (by simp);sleep 2;have hl:=y.length;exact wpAny_pyNext_tuple_end (I.ok.hd O) f (show s.heap.IsTuple a j.toArray from p) (by simp;omega) λt eb=>{rfl,I.turned (t':=s.toks) (λb o m e=>eb b o m e) M L J G F}
 self:=λ_ _ _ _ _ f h=>wpAny_pyIter_tupleiter f h
def DN{P:Program}{K:Fg}(d:Addr)(j:Int)(n:Nat):Ht P w K tg (V2 j n) [d] d (λi h=>IsRangeIter h d (j+(i:Nat)*1) ((n:Int) - (i:Nat)) 1) where
 mem:=by simp
 obj:=λi h a b f=>by
  have e:b=d:=by simpa using f
  subst e;exact{_,a,λv z=>by have G:Data.fields _=Data.cell v:=z;cases G}
 keep:=λi h m a k=>k d (by simp) _ a
 item:=by intro X r hw u q i c s D H E I l a p;subst r hw u;sleep 1;obtain⟨C,B,M,A,y,x⟩:=l d (by simp);sleep 2;have W:=Walks.range (prog:=X.prog) (w:=X.w) (I.ok.hd q) d j 1 n;refine W.item i s _ _ p a λv m F L g J=>?_;obtain⟨t,rfl⟩:=L;have O:c7 X c D H { s with heap:=m,toks:=F }:=I.turned (λb o f e=>J b o (by simpa using f) e) C B A y x;refine{_,rfl,BM (s:={ s with heap:=m,toks:=F }) (n:="range_iterator") g rfl rfl (by decide) {.int (j+i),H,O,{t,?_},{(rfl),rfl},g,λb f=>(l b f).1}};rw[Int.mul_one]
 done:=by intro X r hw u q i c s D H E I l a p;subst r hw u;sleep 1;obtain⟨C,B,M,A,y,x⟩:=l d (by simp);sleep 2;exact wpAny_pyNext_range_end (I.ok.hd q) a (by have:n<=i:=p;omega) λm N=>{rfl,I.turned (t':=s.toks) (λb o f e=>N b o f e) C B A y x}
 self:=λ_ _ _ _ _ a h=>wpAny_pyIter_rangeiter a h
section
def Ws(K:Fg)(e:TE):TI:=λc H R=>e c H λx b=>∃a,x=.ref a/\(∃d,nj K b a d)/\R (N' K a) b
def Zp(K:Fg)(e:TE):TI:=λc H R=>e c H λx b=>∃a,x=.ref a/\(∃d,pf K b a d)/\R (P' K a) b
def FJ{l:Expr}{g:TE}(r:PE X l g):PI X tg l (Ws X.K g):=by
 intro c s i H R I h;refine iu (@r c s i H _ I h) ?_;rintro v d ⟨x,u,f,j,k⟩;sleep 1;obtain⟨a,e,⟨w,n⟩,q⟩:=k;sleep 2;subst e;cases j;obtain⟨m,y,p,z⟩:=f.list n;refine dQ p.isList ?_;refine{(zB d),[(zB d)],_,_,u,rfl,f.kept (t':=d.toks) λb o e=>af _ e,Hu a _,{_,aG _ rfl,rfl,rfl},λb t=>?_,q};have e:b=(zB d):=by simpa using t
 subst e;exact f.Hs (aH _) (f.ip.fresh (aH _))
def Jm{l:Expr}{i:TE}(r:PE X l i):PI X tg l (Zp X.K i):=by
 intro d s j H R I h;refine iu (@r d s j H _ I h) ?_;rintro v c ⟨x,u,f,k,m⟩;sleep 1;obtain⟨a,e,⟨w,n⟩,q⟩:=m;sleep 2;subst e;cases k;obtain⟨g,y,p,z⟩:=f.tuple n;refine wpAny_pyIter_tuple (show c.heap.IsTuple a g.toArray from p) ?_;refine{(zB c),[(zB c)],_,_,u,rfl,f.kept (t':=c.toks) λb o e=>af _ e,DM a _,{_,aG _ rfl,rfl,rfl},λb t=>?_,q};have e:b=(zB c):=by simpa using t
 subst e;exact f.Hs (aH _) (f.ip.fresh (aH _))
def BN{R:It->Hp->Prop}{a c:Int}{t u v:Tok}{d:Nat} (I:c7 X pins σ H s) (k:-(2 ^ 62)<=a) (j:a<2 ^ 62) (i:-(2 ^ 62)<=c) (h:c<2 ^ 62)
  (q:R (V2 a (c - a).toNat) H):(zw X) (pyIter (.ref (zB s))) (M' X pins σ tg R) E { s with heap:=s.heap.push { cls:=.type "range",data:=.fields #[.int a t,.int c u,.int 1 v] },toks:=d }:=by
 refine wpAny_pyIter_range (IsRange.new ..) (small_one k j i h) ?_;have f:c7 X pins σ H { s with heap:=s.heap.push { cls:=.type "range",data:=.fields #[.int a t,.int c u,.int 1 v] },toks:=d }:=I.kept λb o e=>af _ e;refine{(s.heap.push { cls:=.type "range",data:=.fields #[.int a t,.int c u,.int 1 v] }).objs.size,[(s.heap.push { cls:=.type "range",data:=.fields #[.int a t,.int c u,.int 1 v] }).objs.size],_,_,H,rfl,
  f.kept (t':=d) λb o e=>af _ e,DN _ a (c - a).toNat,?_,λb g=>?_,q}
 .have m:a+((0:Nat):Int)*1=a:=by simp
  have l:(((c - a).toNat:Nat):Int) - ((0:Nat):Int)=Builtin.Range.rangeSize a c 1:=by rw[rangeSize_one];split<;>omega
  show IsRangeIter _ _ (a+((0:Nat):Int)*1) ((((c - a).toNat:Nat):Int) - ((0:Nat):Int)) 1;rw[m,l];exact aG _ rfl
 .have e:b=(s.heap.push { cls:=.type "range",data:=.fields #[.int a t,.int c u,.int 1 v] }).objs.size:=by simpa using g
  subst e;exact f.Hs (aH _) (f.ip.fresh (aH _))
def Wt(c:TA):TI:=λa H R=>c a H λb d=>∃j:Int,b=[.int j]/\-(2 ^ 62)<=j/\j<2 ^ 62/\R (V2 0 j.toNat) d
def Wu(c:TA):TI:=λa H R=>c a H λb d=>∃i j:Int,b=[.int i,.int j]/\(-(2 ^ 62)<=i/\i<2 ^ 62/\-(2 ^ 62)<=j/\j<2 ^ 62)/\R (V2 i (j - i).toNat) d
def x8{a:Expr}{d:TA}(n:Gl X "range")(m:X.mg "range"=Z)(o:PA X [a] d)(l:zr0 (starEach [a] X.env=[(false,eval a X.env)])):PI X tg (.Call (.Name "range" p) [a] [] pos) (Wt d):=by
 intro b s f H R I h;refine Call_ (ni I n m boot_range (bF (iu (@o pos b s f H _ I h) ?_) l rfl));rintro w x ⟨v,y,u,i,c⟩;sleep 1;obtain⟨j,e,c,k,q⟩:=c;sleep 2;subst e;cases i with
 |cons r g=>cases g;obtain⟨t,rfl⟩:=r;exact call_range_1 (BN u (by omega) (by omega) c k (by simpa using q))
def Hv{a:Expr}{k:TA}(y:Gl X "range")(x:X.mg "range"=Z)(z:PA X [a,b] k)(w:zr0 (starEach [a,b] X.env=[(false,eval a X.env),(false,eval b X.env)]))(d:zr0 (starEach [b] X.env=[(false,eval b X.env)])):
  PI X tg (.Call (.Name "range" p) [a,b] [] pos) (Wu k):=by
 intro c s l H R I h;refine Call_ (ni I y x boot_range (bF (iu (@z pos c s l H _ I h) ?_) (by rw[w,d]) (by rw[d];rfl)));rintro C E ⟨B,F,A,m,g⟩;sleep 1;obtain⟨i,j,e,⟨g,v,u,o⟩,q⟩:=g;sleep 2;subst e;cases m with
 |cons r f=>
  cases f with
  |cons n f=>cases f;obtain⟨t,rfl⟩:=r;obtain⟨D,rfl⟩:=n;exact call_range_2 (BN A g v u o q)
def Zq(f:TI)(g:TG)(h:TS):TS:=λD a H=>f a H λJ k=>∃W:Nat->Nat->St->Hp->Prop,(∃m,W 0 m a k)/\∀i m a H,W i m a H ->
 (J.stop i H/\D.nx a H)\/(J.go i H/\∃N:St->Hp->Prop,(∀b c,N b c->∃e,e<m/\W (i+1) e b c)/\∀x c,J.V1 i H x c->g x a c λd j=>h { D with nx:=N,ct:=N,bk:=D.nx } d j)
def vh(a:List Addr)(h:Heap):Ax:=a.filterMap λb=>(h.get? b).map λo=>(b,o)
def om{a:List Addr}{b:Addr}{o:Obj}(c:b∈a)(e:h.get? b=Y o):(b,o)∈vh a h:=bE.mpr {b,c,by rw[e];rfl}
def Hw{a:List Addr}{p:Addr×Obj}(c:p∈vh a h):p.1∈a/\h.get? p.1=Y p.2:=by
 obtain⟨b,d,e⟩:=bE.mp c;cases q:h.get? b with
 |none=>rw[q] at e;cases e
 |some o=>rw[q] at e;have f:(b,o)=p:=bW e;subst f;exact{(d),q}
def c7.pinned{a:List Addr}(I:c7 X pins σ H s)(i:∀b∈a,pj X pins H b)(h:∀b∈a,∃o,s.heap.get? b=Y o/\∀v,o.data≠.cell v):c7 X (pins++vh a s.heap) σ H s :=
 I.l6 λp g=>(ay.mp g).elim (λz=>I.pin p (ar _ z)) λz=>by obtain⟨c,e⟩:=Hw z;obtain⟨l,k,j,_⟩:=i p.1 c;obtain⟨o,f,d⟩:=h p.1 c;rw[e] at f;cases f;exact{(e),l,k,j,d}
def c7.pk{pl:Ax}(I:c7 X (pins++pl) σ H s):c7 X pins σ H s:=I.l6 λp a=>I.pin p (ar _ (aA _ a))
def Td{C:List Stmt}{wi:TI}{g:TG}{tb:TS} (O:PassesOwn (model X.prog X.w) X.A X.env X.xe) (hc:X.calm=true) (hi:PI X tg iter wi) (hg:PG X tg g) (p:xb X C tb)
  (hs:zr 2 (∀x,foldedSetIterable iter X.env x=pure x)):PS X (.For tg iter C [] pos) (Zq wi g tb):=by
 intro c s σ H D I h;refine wpAny_For (iu (@hi c s σ H _ I h) λv s1 h1=>iu h1 λitv s2 h2=>?_) hs;sleep 1;obtain⟨it,Q,tn,J,H2,e,I2,T,U,f2,W,⟨m0,w0⟩,F⟩:=h2;sleep 2;subst e;have l:∀{z:Hp},(∀b∈Q,z b=Z)->∀b∈Q,pj X c z b:=λhn b p=>{hn b p,(f2 b p).2}
 refine codeAny_forLoop_any (λn s'=>∃i k z,c7 X c k z s'/\tn i s'.heap/\(∀b∈Q,z b=Z)/\W i n k z) ?_ m0 {0,σ,H2,I2,U,λb p=>(f2 b p).1,w0};rintro n s3 ⟨i,j,R,I3,L,P,w3⟩;rcases F i n j R w3 with ⟨G,qn⟩ | ⟨go,N,hN,K⟩
 .refine cK O (iu (T.done X rfl rfl rfl @hc i c s3 j R X.xe I3 (l P) L G) ?_);rintro r s4 ⟨hr,I4⟩;subst hr;exact cJ {(j),R,I4,qn}
 .refine cK O (iu (T.item X rfl rfl rfl @hc i c s3 j R X.xe I3 (l P) L go) ?_);rintro r s4 ⟨u,hr,h4⟩;subst hr;refine cK O (iu h4 ?_);rintro _ s5 ⟨x,H5,I5,r5,y5,E,fr5⟩;have I5':=I5.pinned (l fr5) (T.obj _ _ E);refine cK O (iu (@hg _ s5 j H5 x u _ I5' r5 (K x H5 y5)) ?_);rintro _ s6 ⟨S,H6,I6,q6⟩;refine cK O (iu (@p _ s6 S H6 _ I6 q6) λf V B=>?_);have q:∀{a:St}{y:Hp},c7 X (c++vh Q s5.heap) a y V->N a y->∃m,m<n/\∃i k z,c7 X c k z V/\tn i V.heap/\(∀b∈Q,z b=Z)/\W i m k z:=λ{a y} t M=>by
   obtain⟨m',hm,w7⟩:=hN a y M;refine{m',hm,i+1,a,y,t.pk,T.keep _ _ _ E λb p o e=>(t.pin (b,o) (ar _ (ar _ (om p e)))).1,λb p=>?_,w7};obtain⟨o,e,d⟩:=T.obj _ _ E b p;exact(t.pin (b,o) (ar _ (ar _ (om p e)))).2.1
  cases f with
  |next=>obtain⟨a,y,t,M⟩:=B;exact q t M
  |cont=>obtain⟨a,y,t,M⟩:=B;exact q t M
  |brk=>obtain⟨a,y,t,B⟩:=B;exact{a,y,t.pk,B}
  |ret v=>sleep 1;obtain⟨x7,a,y,t,r7,B⟩:=B;sleep 2;exact{x7,a,y,t.pk,r7,B}
end
abbrev R2:=V->V->Hp->VK->Prop
def lu(X:Cx)(f:Value->Value->Sem Value)(r:R2):Prop :=
 ∀(a:Ax) (s:Shared) (σ:St) (H:Hp) (x y:V) (v u:Value) (Q:VK),c7 X a σ H s->gg x v->gg y u->r x y H Q ->
  (zw X) (f v u) (EP X a σ Q) X.xe s
def Zr(X:Cx)(f:Value->Sem Value)(r:V->Hp->VK->Prop):Prop :=
 ∀(a:Ax) (s:Shared) (σ:St) (H:Hp) (x:V) (v:Value) (Q:VK),c7 X a σ H s->gg x v->r x H Q ->
  (zw X) (f v) (EP X a σ Q) X.xe s
def i6(X:Cx)(f:Value)(r:List V->Hp->VK->Prop):Prop :=
 ∀(a:Ax) (s:Shared) (σ:St) (H:Hp) (xs:List V) (us:Lw) (Q:VK),c7 X a σ H s->fv xs us->r xs H Q ->
  (zw X) (call f us) (EP X a σ Q) X.xe s
def Zs(X:Cx)(r:V->Hp->(Bool->Hp->Prop)->Prop):Prop :=
 ∀(a:Ax) (s:Shared) (σ:St) (H:Hp) (x:V) (v:Value) (Q:Bool->Hp->Prop),c7 X a σ H s->gg x v->r x H Q ->
  (zw X) (truthy v) (TP X a σ Q) X.xe s
def Wv(r:R2)(c b:TE):TE:=λa H Q=>c a H λx e=>b a e λy d=>r x y d Q
def tUn(r:V->Hp->VK->Prop)(b:TE):TE:=λa H Q=>b a H λx c=>r x c Q
def rI(C:Int->Int->Prop)(g:Int->Int->V):R2:=λx y H Q=>∃i j,x=.int i/\y=.int j/\C i j/\Q (g i j) H
def NM(g:Int->Int->V):R2:=λx y H Q=>∃i j,x=.int i/\y=.int j/\Q (g i j) H
def rU(g:Int->V):V->Hp->VK->Prop:=λx H Q=>∃i,x=.int i/\Q (g i) H
section
variable {a c:Expr}{ta tb tc:TE}
def Te(l:PE X a ta) (k:PE X b tb) {R:V->V->Hp->Prop} (I:c7 X pins σ H s)
  (h:ta σ H λx H1=>tb σ H1 λy H2=>R x y H2) {Q:Px}{f:Value->Value->Sem Value}
  (j:∀v u s2 x y H2,c7 X pins σ H2 s2->gg x v->gg y u->R x y H2->(zw X) (f v u) Q X.xe s2):
  (zw X) (eval a X.env) (λv s₁=>(zw X) (eval b X.env) (λu pq=>(zw X) (f v u) Q X.xe pq) X.xe s₁) X.xe s:=by
 refine iu (@l pins s σ H _ I h) ?_;rintro v c ⟨x,H1,n,e,i⟩;refine iu (@k pins c σ H1 _ n i) ?_;rintro u s2 ⟨y,H2,m,d,g⟩;exact j v u s2 x y H2 m e d g
def Jn{d:Operator}{r:R2}(i:lu X (binaryOp d) r)(k:PE X a ta)(j:PE X b tb):PE X (.BinOp a d b pos) (Wv r ta tb):=by intro c s e H Q I h;exact wpAny_BinOp (Te k j I h λv u s2 x y m l g f q=>@i c s2 e m x y v u Q l g f q)
def Ww{d:UnaryOp}{r:V->Hp->VK->Prop}(i:Zr X (unaryOp d) r)(j:PE X a ta):PE X (.UnaryOp d a pos) (tUn r ta):=by intro b s c H Q I h;exact UnaryOp_ (iu (@j b s c H _ I h) <| by rintro v e ⟨x,l,k,f,g⟩;exact @i b e c l x v Q k f g)
def Zt{f:Value->Value->Sem Value}{C:Int->Int->Prop}{g:Int->Int->Int}
  (a:∀(i j:Int) (t u:Tok) (s:Shared) (Q:Px) (E:Px),C i j->Q (.int (g i j) s.toks) { s with toks:=s.toks+1 }->(zw X) (f (.int i t) (.int j u)) Q E s):
  lu X f (rI C λi j=>.int (g i j)):=by
 intro b s l H x y v u Q I e d h;sleep 1;obtain⟨i,j,rfl,rfl,k,q⟩:=h;sleep 2;obtain⟨t,rfl⟩:=e;obtain⟨c,rfl⟩:=d;exact a i j t c s _ _ k {.int (g i j),H,I.tok _,{_,rfl},q}
def Wx{f:Value->Value->Sem Value}{g:Int->Int->Int}
  (a:∀(i j:Int) (t u:Tok) (s:Shared) (Q:Px) (E:Px),Q (.int (g i j) s.toks) { s with toks:=s.toks+1 }->(zw X) (f (.int i t) (.int j u)) Q E s):
  lu X f (NM λi j=>.int (g i j)):=by
 intro b s k H x y v u Q I e d h;sleep 1;obtain⟨i,j,rfl,rfl,q⟩:=h;sleep 2;obtain⟨t,rfl⟩:=e;obtain⟨c,rfl⟩:=d;exact a i j t c s _ _ {.int (g i j),H,I.tok _,{_,rfl},q}
def N5{f:Value->Value->Sem Value}{g:Int->Int->Bool}
  (a:∀(i j:Int) (t u:Tok) (s:Shared) (Q:Px) (E:Px),Q (.bool (g i j)) s->(zw X) (f (.int i t) (.int j u)) Q E s):
  lu X f (NM λi j=>.bl (g i j)):=by
 intro b s k H x y v u Q I e d h;sleep 1;obtain⟨i,j,rfl,rfl,q⟩:=h;sleep 2;obtain⟨t,rfl⟩:=e;obtain⟨c,rfl⟩:=d;exact a i j t c s _ _ {.bl (g i j),H,I,rfl,q}
def Wy(i j:Int):Prop:=0<j/\j<1073741824
def Tf:lu X (binaryOp .Add) (NM λi j=>.int (i+j)):=Wx λ_ _ _ _ _ _ _ q=>add_int q
def Th:lu X (binaryOp .Sub) (NM λi j=>.int (i - j)):=Wx λ_ _ _ _ _ _ _ q=>sub_int q
def N6:lu X (binaryOp .FloorDiv) (rI Wy λi j=>.int (i / j)):=Zt λi j _ _ _ _ _ a q=>by have c:(0:Int)<j:=a.1;have b:j<1073741824:=a.2;exact floordiv_int (by omega) (by rw[Int.fdiv_eq_ediv_of_nonneg i (by omega)];exact q) (.inl (PyProof.noPylong_small (by omega)))
def Ti:lu X (binaryOp .Mod) (rI (λ_ j=>0<j) λi j=>.int (i % j)):=Zt λi j _ _ _ _ _ a q=>by have b:(0:Int)<j:=a;exact mod_int' (by omega) (by rw[Int.fmod_eq_emod_of_nonneg i (by omega)];exact q)
def unI{f:Value->Sem Value}{g:Int->Int}
  (a:∀(i:Int) (t:Tok) (s:Shared) (Q:Px) (E:Px),Q (.int (g i) s.toks) { s with toks:=s.toks+1 }->(zw X) (f (.int i t)) Q E s):
  Zr X f (rU λi=>.int (g i)):=by
 intro b s d H x v Q I c h;obtain⟨i,rfl,q⟩:=h;obtain⟨t,rfl⟩:=c;exact a i t s _ _ {.int (g i),H,I.tok _,{_,rfl},q}
def Tj:Zr X (unaryOp .USub) (rU λi=>.int (-i)):=unI λ_ _ _ _ _ q=>neg_int q
end
section
variable {a c:Expr}{ta tb tc:TE}
def vi{Q:VK}{k a:Bool}(I:c7 X pins σ H s)(q:Q (.bl k) H)(e:k=a):EP X pins σ Q (.bool a) s:=by subst e;exact{.bl k,H,I,rfl,q}
def Wz:lu X (compareOp .Lt) (NM λi j=>.bl (decide (i<j))):=N5 λ_ _ _ _ _ _ _ q=>lt_int q
def WA:lu X (compareOp .LtE) (NM λi j=>.bl (decide (i<=j))):=N5 λ_ _ _ _ _ _ _ q=>le_int q
def WB:lu X (compareOp .Gt) (NM λi j=>.bl (decide (j<i))):=N5 λ_ _ _ _ _ _ _ q=>gt_int q
def WC:lu X (compareOp .GtE) (NM λi j=>.bl (decide (j<=i))):=N5 λ_ _ _ _ _ _ _ q=>ge_int q
def Hx:lu X (compareOp .In) (λx y H Q=>∃i j,x=.str i/\y=.str j/\Q (.bl (!(Builtin.Str.occurrences j i 0 j.length 1).isEmpty)) H):=by intro a s d H x y v u Q I c b h;sleep 1;obtain⟨i,j,rfl,rfl,q⟩:=h;sleep 2;obtain⟨t,rfl⟩:=c;obtain⟨e,rfl⟩:=b;exact in_str (vi I q rfl)
def Tn:lu X (compareOp .Is) (λx y H Q=>y=.lz/\Q (.bl (decide (x=.lz))) H):=by
 intro b s d H x y v u Q I a c h;obtain⟨rfl,q⟩:=h;cases c;refine is_none_gen (vi I q ?_);cases x<;>first
  | (cases a;rfl)
  | (obtain⟨t,rfl⟩:=a;rfl)
def N7:lu X (compareOp .IsNot) (λx y H Q=>y=.lz/\Q (.bl (!decide (x=.lz))) H):=by
 intro b s d H x y v u Q I a c h;obtain⟨rfl,q⟩:=h;cases c;refine isnot_none_gen (vi I q ?_);cases x<;>first
  | (cases a;rfl)
  | (obtain⟨t,rfl⟩:=a;rfl)
def zG:lu X (compareOp .NotIn) (λx y H Q=>∃i j,x=.str i/\y=.str j/\Q (.bl (!(!(Builtin.Str.occurrences j i 0 j.length 1).isEmpty))) H):=by intro a s d H x y v u Q I c b h;sleep 1;obtain⟨i,j,rfl,rfl,q⟩:=h;sleep 2;obtain⟨t,rfl⟩:=c;obtain⟨e,rfl⟩:=b;exact notIn_str (vi I q rfl)
def lu.or{f:Value->Value->Sem Value}{r e:R2}(h:lu X f r)(g:lu X f e):lu X f (λx y H Q=>r x y H Q\/e x y H Q):=by
 intro a s b H x y v u Q I d c q;rcases q with q|q
 .exact @h a s b H x y v u Q I d c q
 .exact @g a s b H x y v u Q I d c q
def Jo(b:Expr){a:CmpOp}(h:zd0 (a≠.In))(c:zd0 (a≠.NotIn)):behindInMarks a b=false:=by
 have e:(a==CmpOp.In)=false:=by cases a<;>first|rfl|exact absurd rfl h
 have d:(a==CmpOp.NotIn)=false:=by cases a<;>first|rfl|exact absurd rfl c
 cases b<;>simp[behindInMarks,e,d]
def N8{d:CmpOp}{r:R2}(i:lu X (compareOp d) r)(l:PE X a ta)(k:PE X b tb)(j:behindInMarks d b=false):PE X (.Compare a [d] [b] pos) (Wv r ta tb):=by intro c s e H Q I h;exact wpAny_Compare1 (Te l k I h λv u s2 x y n m g f q=>@i c s2 e n x y v u Q m g f q) j
def Ru(t:TE):TT:=λa H Q=>t a H λx b=>∃k,x=.bl k/\Q k b
def FK{g:CmpOp}{r:R2}(t:lu X (compareOp g) r)(B:PE X a ta)(A:PE X b tb)(w:behindInMarks g b=false):PT X (.Compare a [g] [b] pos) (Ru (Wv r ta tb)):=by
 intro d s f H Q I h;refine wpAny_isTrue_Compare1 (iu (@B d s f H _ I h) λv j ⟨x,J,E,n,q⟩=>iu (@A d j f J _ E q) λu i ⟨y,G,D,m,p⟩=>
  iu (@t d i f G x y v u _ D n m p) λc K ⟨z,F,C,l,k,e,o⟩=>?_) w
 subst e;cases l;exact cN {(F),C,o}
def To(r g:R2)(f e d:TE):TE:=λa H Q=>f a H λx j=>e a j λy i=>r x y i λz b=>∃k,z=.bl k /\
 (if k=true then d a b λc h=>g y c h Q else Q (.bl false) b)
def Jp{j g:CmpOp}{r n:R2} (P:lu X (compareOp j) r) (l:lu X (compareOp g) n) (U:PE X a ta) (T:PE X b tb) (S:PE X c tc)
  (R:zr 10 (lastMarks [j,g] [b,c]=false)):PT X (.Compare a [j,g] [b,c] pos) (Ru (To r n ta tb tc)):=by
 intro f s i H Q I h;refine isTrue_chain (iu (@U f s i H _ I h) λv D ⟨x,H1,I1,J,N⟩=>test_link (iu (@T f D i H1 _ I1 N) λu C ⟨y,H2,I2,m,M⟩=>
  iu (@P f C i H2 x y v u _ I2 J m M) λd B ⟨z,q,p,G,k,e,o⟩=>?_)) R
 subst e;cases G;refine cN ?_;cases k with
 |false=>obtain⟨k',W,O⟩:=o;cases W;exact ite_ff {(q),p,O}
 |true=>refine ite_tt (test_last (iu (@S f B i q _ p o) ?_));rintro w A ⟨t,H4,I4,F,L⟩;refine iu (@l f A i H4 y t u w _ I4 m F L) ?_;rintro d' s5 ⟨z2,H5,I5,E,k2,V,K⟩;subst V;cases E;exact cN {(H5),I5,K}
def Tp(K:Fg)(x:V)(H:Hp)(k:Bool):Prop :=
 match x with
 |.lz=>k=false
 |.bl b=>k=b
 |.int i=>k=(i != 0)
 |.str y=>y.length<=sizeLine/\k=((y.length:Int) != 0)
 |.V0 y=>y.size<=sizeLine/\k=((y.size:Int) != 0)
 |.ref p=>(∃a,nj K H p a/\k=!a.isEmpty)\/(∃a,pf K H p a/\k=!a.isEmpty)\/∃c,Rd H p (.dK c)/\k=!c.isEmpty
 |_=>False
def DP{b:Type}{a:List (b×V)}{c:List (b×Value)}(r:KV a c):(!c.isEmpty)=!a.isEmpty:=by cases r<;>rfl
def vj{b:List V}{a:Lw}(r:fv b a):(!a.toArray.isEmpty)=!b.isEmpty:=by cases r<;>simp
def qL:(sizeLine:Nat)<2 ^ 63:=by rw[sizeLine_eq];decide
def Tq:Zs X (λx H Q=>∃k,Tp X.K x H k/\Q k H):=by
 intro u s C H x v Q I g h;obtain⟨k,e,q⟩:=h;have E:=qL;have D:sizeLine=16777216:=sizeLine_eq;cases x with
 |lz=>cases g;have a:k=false:=e;subst a;exact truthy_none {(H),I,q}
 |bl b=>cases g;have a:k=b:=e;subst a;exact cN {(H),I,q}
 |int i=>obtain⟨t,rfl⟩:=g;have a:k=(i != 0):=e;subst a;exact PySem.P.truthy_int {(H),I,q}
 |str y=>obtain⟨t,rfl⟩:=g;obtain⟨A,a⟩:y.length<=sizeLine/\k=((y.length:Int) != 0):=e;subst a;exact PySem.P.truthy_str (by omega) {H,I.tok _,q}
 |V0 y=>obtain⟨t,rfl⟩:=g;obtain⟨A,a⟩:y.size<=sizeLine/\k=((y.size:Int) != 0):=e;subst a;exact W.truthy_bytes (by omega) {H,I.tok _,q}
 |ref p=>
  cases g;have a:(∃f,nj X.K H p f/\k=!f.isEmpty)\/(∃f,pf X.K H p f/\k=!f.isEmpty)\/∃c,Rd H p (.dK c)/\k=!c.isEmpty:=e;rcases a with ⟨f,j,a⟩ | ⟨f,j,a⟩ | ⟨c,j,a⟩
  .subst a;obtain⟨o,r,n,z⟩:=I.list j;have d:=r.length;exact wpAny_truthy_list n.isList (by simp only[aB];omega) {H,I.tok _,by rw[vj r];exact q}
  .subst a;obtain⟨o,r,n,z⟩:=I.tuple j;have d:=r.length;exact truthy_tuple n (by simp only[aB];omega) {H,I.tok _,by rw[vj r];exact q}
  .subst a;obtain⟨z,B,l,r,m⟩:c.length<=sizeLine/\(p==sysModules)=false/\∃l,KV c l/\s.heap.DictOf (gI X.prog X.w) p l:=j.ok I.ip;have d:c.length=l.length:=fy r;exact wpAny_truthy_dict B m (by omega) {H,I.tok _,by rw[DP r];exact q}
 |_=>exact(show False from e).elim
def BO(i:PE X a ta)(g:∀whole,isTrue a X.env whole=(do let v <-whole;standAt a.pos;holding [v] (truthy v))):
  PT X a (λσ H Q=>ta σ H λx c=>∃k,Tp X.K x c k/\Q k c):=by
 intro b s σ H Q I h;exact isTrue_plain (iu (@i b s σ H _ I h) <| by rintro v d ⟨x,l,j,e,f⟩;exact Tq b d σ l x v Q j e f) (g _)
def DQ:lu X (binaryOp .Add) (λx y H Q=>∃i j,x=.str i/\y=.str j/\i.length+j.length<=sizeLine/\Q (.str (i++j)) H):=by intro a s f H x y v u Q I d c h;sleep 1;obtain⟨i,j,rfl,rfl,e,q⟩:=h;sleep 2;obtain⟨t,rfl⟩:=d;obtain⟨b,rfl⟩:=c;exact add_str (λb tk=>{.str (i++j),H,I.tok _,{_,rfl},q}) e
def rh{x:V}{a:Lw}(r:fv [x] a):∃u,a=[u]/\gg x u:=by
 cases r with
 |cons c b=>cases b;exact{_,rfl,c}
def Jq{x y:V}{b:Lw}(r:fv [x,y] b):∃u a,b=[u,a]/\gg x u/\gg y a:=by
 cases r with
 |cons f e=>
  cases e with
  |cons d c=>cases c;exact{_,_,rfl,f,d}
def Hy:i6 X (.type "int") (λxs H Q=>(∃i,xs=[.int i]/\Q (.int i) H)\/∃k,xs=[.bl k]/\Q (.int (if k then 1 else 0)) H):=by
 intro a s c H xs d Q I r h;rcases h with ⟨i,rfl,q⟩ | ⟨k,rfl,q⟩
 .obtain⟨u,rfl,t,rfl⟩:=rh r;exact call_int_int {.int i,H,I,{_,rfl},q}
 .obtain⟨u,rfl,b⟩:=rh r;cases b;exact call_int_bool {.int (if k then 1 else 0),H,I.tok _,{_,rfl},q}
end
structure DR (h:Heap) (x dx C:Addr) (mA:Str->Ow):Prop where
 obj:h.get? x=Y (W.instObj C dx)
 ns:h.Ns1 dx mA
 ne:dx≠x
def Hz{i:Addr}{f:Str->Ow}(n:h.Ns1 i f):∃d,h.get? i=Y d/\∀b,W.lookIn b d=Y (f b):=by
 sleep 1;obtain⟨o,g,s,k,p,m,_,l⟩:=n;sleep 2;refine{o,k,λb=>?_};have e:=l b;unfold nsFind findBy at e;rw[<-Array.find?_toList] at e;unfold W.lookIn;rw[p];dsimp only;split
 .rename_i y q;rw[q] at e;exact bG Y e
 .rename_i q;rw[q] at e;have a:g.toList.any (·.refKey)=false:=by
   rw[List.any_eq_false];intro y j;obtain⟨z,t,c⟩:=m y (Array.mem_toList_iff.mp j);simp[DictEntry.refKey,c]
  have r:¬ g.toList.any (·.refKey)=true:=by rw[a];exact aV
  rw[aq r];exact bG Y e
def DR.look{x d:Addr}{c:Str->Ow}(I:DR h x d C c):∃b,W.InstAt h x (W.instObj C d) C (Y b)/\∀a,W.lookIn a b=Y (c a) :=
 let ⟨b,e,f⟩:=Hz I.ns
 {b,{I.obj,rfl,rfl,e},f}
section
variable {prog:Program}{K:Fg}{x dx f:Addr}{mA:Str->Ow}{name:Str}{v:Value}
def N9{a:Bool}{Q:Px} (X:K.In s.heap) (I:DR s.heap x dx C mA) (f:W.plainGet K C name=true) (e:W.hasDictIn K C=true)
  (g:W.findIn K (.ref C) name=Y Z) (c:mA name=Y v) (b:W.handedIn v=true) (h:Q v { s with toks:=s.toks+1 }):
  wpAny (model prog w) A (getAttr (.ref x) name a) Q E s:=by
 obtain⟨i,J,d⟩:=I.look;exact W.get_value X J (W.plainGet_of f).1 (W.findObj_own e g rfl (by rw[d,c])) b h
def Jr{Q:Value×Lw->Shared->Prop} (X:K.In s.heap) (I:DR s.heap x dx C mA) (a:W.plainGet K C name=true)
  (g:W.findIn K (.ref C) name=Y (Y (.ref f))) (d:W.isFn K (.ref f)=true) (c:mA name=Z) (h:Q (.ref f,[.ref x]) s):
  wpAny (model prog w) A (getMethod (.ref x) name pl) Q E s:=by
 obtain⟨b,J,e⟩:=I.look;exact W.method_fn X J (W.plainGet_of a).1 (W.plainGet_of a).2 g (bw.mp d) (by show (W.lookIn name b).map (·.isSome)=Y false;rw[e,c];rfl) h
def Oa{j:Lr}{Q:Unit->Shared->Prop} (X:K.In s.heap) (I:DR s.heap x dx C mA)
  (n:W.findIn K (.ref C) "__setattr__"=Y (Y (.builtin "object.__setattr__"))) (o:W.plainOver K C=true) (l:W.takerIn K C name=Y Z) (p:W.hasDictIn K C=true)
  (hw:PySem.Within mA j) (m:j.length<=sizeLine)
  (h:∀h',DR h' x dx C (λy=>if y=name then Y v else mA y)->Heap.SameBut dx s.heap h'->Q () { s with heap:=h',toks:=s.toks+2 }):
  wpAny (model prog w) A (setAttr (.ref x) name v) Q E s:=by
 obtain⟨z,J,D⟩:=I.look;refine W.set_plain X J n (W.osa_open (s:={ s with toks:=s.toks+1 }) (r:=Z) X J o l λb=>?_);obtain⟨F,q,g⟩:=W.any_some p;have k:s.heap.get? x=Y {.ref C,Y dx,.plain,#[]}:=I.obj;refine aa (ak (aa (aa (wpAny_loadPart k (aa (W.Looks.here (s:={ s with toks:=s.toks+1 }) (W.looks_clsIn X q) ?_))))));rw[g];refine ak (a:=Y dx) (aa (ak (aa ?_)));refine wpAny_nsSet1 (s:={ s with toks:=s.toks+1 }) I.ns λh' d c=>?_;sleep 1;obtain⟨B,t,u,e,f,i⟩:=d.count (PySem.Within.cons name v hw);sleep 2;refine aa (wpAny_lookBehind e (by rw[f];exact pastItsLine_dict (bJ i (by rw[ax];omega))) ?_);exact ak (h _ {(c.2 _ (Ne.symm I.ne)).trans I.obj,d,I.ne} c)
def Js{a:Lw}{b:List (Str×Value)} (X:K.In s.heap) (c:W.makesIn K C=true)
  (e:W.findIn K (.ref C) "__init__"=Y (Y (.ref f))) (i:W.typeIn K (.ref f)=Y (.type "function"))
  (h:codeAny (model prog w) (A.under (.builtin "type.__call__" {.ref C::a,b})) (.call (.ref f) {.ref ((zB s)+1)::a,b}) (W.InitBack ((zB s)+1) R)
   { s with heap:=(s.heap.push W.emptyDict).push (W.instObj C (zB s)) }):
  codeAny (model prog w) A (.call (.ref C) {(a),b}) R s:=by
 sleep 1;obtain⟨k,g,d,t,j⟩:=s;sleep 2;exact W.make_core (W.makes_of X c) (W.looks_findIn X e) (λself=>W.bind_fn X self i) (.inl rfl) h
end
def mq(f:Str)(v:V):List (Str×V)->List (Str×V)
 |[]=>[(f,v)]
 | (g,x)::r=>if g=f then (g,v)::r else (g,x)::mq f v r
theorem t4(f g:Str)(v:V):∀c:List (Str×V),(mq f v c).lookup g=if g=f then Y v else c.lookup g
 |[]=>by
  show List.lookup g [(f,v)]=_;by_cases h:g=f
  .have a:(g==f)=true:=bw.mpr h;simp only[List.lookup,a,ai h]
  .have a:(g==f)=false:=aF.mpr h;simp only[List.lookup,a,aq h]
 | (k,x)::r=>by
  have d:=t4 f g v r;rw[show mq f v ((k,x)::r)=(if k=f then (k,v)::r else (k,x)::mq f v r) from rfl];by_cases b:k=f
  .rw[ai b];by_cases h:g=k
   .have a:(g==k)=true:=bw.mpr h;simp only[List.lookup,a,ai (h.trans b)]
   .have a:(g==k)=false:=aF.mpr h;simp only[List.lookup,a,aq (λe:g=f=>h (e.trans b.symm))]
  .rw[aq b];by_cases h:g=k
   .have a:(g==k)=true:=bw.mpr h;simp only[List.lookup,a,aq (λe:g=f=>b (h.symm.trans e))]
   .have a:(g==k)=false:=aF.mpr h;simp only[List.lookup,a];exact d
theorem sO(f:Str)(v:V):∀b:List (Str×V),f∈(mq f v b).map (·.1)/\∀g,g∈b.map (·.1)->g∈(mq f v b).map (·.1)
 |[]=>{by simp[mq],λg h=>by simp at h}
 | (k,x)::r=>by
  obtain⟨d,c⟩:=sO f v r;rw[show mq f v ((k,x)::r)=(if k=f then (k,v)::r else (k,x)::mq f v r) from rfl];by_cases a:k=f
  .rw[ai a];subst a;exact{by simp,λg h=>by simpa using h}
  .rw[aq a];refine{?_,λg h=>?_}
   .rw[ae];exact ao _ d
   .rw[ae] at h ⊢;rcases ah.mp h with e|e
    .exact ah.mpr (.inl e)
    .exact ao _ (c g e)
theorem t5(f:Str)(v:V):∀b:List (Str×V),(mq f v b).length<=b.length+1
 |[]=>by simp[mq]
 | (k,x)::r=>by
  have c:=t5 f v r;rw[show mq f v ((k,x)::r)=(if k=f then (k,v)::r else (k,x)::mq f v r) from rfl];by_cases a:k=f
  .rw[ai a,ax,ax];omega
  .rw[aq a,ax,ax];omega
def oY.some_of{o:Ow}(r:oY (Y v) o):∃u,o=Y u/\gg v u:=by
 cases o with
 |none=>exact(show False from r).elim
 |some u=>exact{(u),rfl,r}
def oY.none_of{o:Ow}(r:oY Z o):o=Z:=by
 cases o with
 |none=>rfl
 |some u=>exact(show False from r).elim
def HA(r:gg v u):W.handedIn u=true:=by
 cases v with
 |lz=>cases (show u=Value.none from r);rfl
 |bl b=>cases (show u=Value.bool b from r);rfl
 |int i=>obtain⟨t,e⟩:=(show ∃t,u=Value.int i t from r);cases e;rfl
 |str x=>obtain⟨t,e⟩:=(show ∃t,u=Value.str x t from r);cases e;rfl
 |V0 b=>obtain⟨t,e⟩:=(show ∃t,u=Value.bytes b t from r);cases e;rfl
 |YQ b=>obtain⟨t,e⟩:=(show ∃t,u=Value.float b t from r);cases e;rfl
 |ref a=>cases (show u=Value.ref a from r);rfl
 |ty n=>cases (show u=Value.type n from r);rfl
section
variable {P:Program}{h':Heap}{dx:Addr}{fs fs':List (Str×V)}
def zH(c:oP P w H h)(e:H a=Y (.ins C dx fs)):∃b,DR h a dx C b/\(∀f,oY (fs.lookup f) (b f))/\PySem.Within b (fs.map (·.1))/\fs.length<=1000/\H dx=Y (.own a):=by
 sleep 1;obtain⟨d,z,i,g,b,n,r,q⟩:=(show iS P w H h a (.ins C dx fs) from c a _ e);sleep 2
 exact{b,{(g),n,i},r,q,z,d}
end
structure HB (K:Fg) (C:Addr):Prop where
 pg:W.plainGet K C Str.empty=true
 hd:W.hasDictIn K C=true
 po:W.plainOver K C=true
 sa:W.findIn K (.ref C) "__setattr__"=Y (Y (.builtin "object.__setattr__"))
def HB.get{K:Fg}(c:HB K C)(f:Str):W.plainGet K C f=true:=c.pg
def qM(K:Fg)(C:Addr)(f:Str):Prop:=W.findIn K (.ref C) f=Y Z
def qM.WD{K:Fg}{f:Str}(n:qM K C f):W.takerIn K C f=Y Z:=by unfold W.takerIn;rw[show W.findIn K (.ref C) f=Y Z from n];rfl
structure HC (K:Fg) (C:Addr) (m:Str) (f:Addr):Prop where
 at_:W.findIn K (.ref C) m=Y (Y (.ref f))
 fn:W.isFn K (.ref f)=true
 kp:W.keepIn K (.ref f)=true
section
variable {dx:Addr}{fs:List (Str×V)}{f:Str}
def DS{b:Bool}{Q:Px} (I:c7 X pins σ H s) (e:H a=Y (.ins C dx fs)) (c:HB X.K C) (n:qM X.K C f) (l:fs.lookup f=Y v)
  (h:∀u s',c7 X pins σ H s'->gg v u->Q u s'):wpAny (model X.prog X.w) A (getAttr (.ref a) f b) Q E s:=by
 sleep 1;obtain⟨g,O,r,_,_,_⟩:=zH I.ip e;sleep 2;obtain⟨u,i,d⟩:=oY.some_of (v:=v) (o:=g f) (by rw[<-l];exact r f);exact N9 I.oj O (c.get f) c.hd n i (HA d) (h u _ (I.tok _) d)
def vk{m:Str}{g:Addr}{Q:Value×Lw->Shared->Prop} (I:c7 X pins σ H s) (e:H a=Y (.ins C dx fs)) (c:HB X.K C) (k:HC X.K C m g) (l:fs.lookup m=Z)
  (h:Q (.ref g,[.ref a]) s):wpAny (model X.prog X.w) A (getMethod (.ref a) m pl) Q E s:=by
 sleep 1;obtain⟨b,O,r,_,_,_⟩:=zH I.ip e;sleep 2;have d:b m=Z:=oY.none_of (by rw[<-l];exact r m);exact Jr I.oj O (c.get m) k.at_ k.fn d h
def DT{y:V}{Q:Unit->Shared->Prop} (I:c7 X pins σ H s) (e:H a=Y (.ins C dx fs)) (c:HB X.K C) (n:qM X.K C f) (F:fs.length<1000) (m:gg y u)
  (h:∀s',c7 X pins σ (upd H a (.ins C dx (mq f y fs))) s'->Q () s'):wpAny (model X.prog X.w) A (setAttr (.ref a) f u) Q E s:=by
 sleep 1;obtain⟨j,O,r,i,_,k⟩:=zH I.ip e;sleep 2;have p:(fs.map (·.1)).length<=sizeLine:=by rw[ag,sizeLine_eq];omega
 refine Oa I.oj O c.sa c.po n.WD c.hd i p λB d l=>h _ ?_;have v:∃o,B.get? dx=Y o:=by sleep 1;obtain⟨o,_,_,D,_⟩:=d.ns;sleep 2;exact{(o),D}
 refine I.write (x:=a) (e:=dx) (by rw[e];exact aY) (.inr k) (λb q hb z=>(l.2 b hb).trans z) v ?_;refine{by rw[c8 O.ne];exact k,?_,O.ne,d.obj,_,d.ns,λg=>?_,λg t=>?_}
 .have:=t5 f y fs;omega
 .show oY ((mq f y fs).lookup g) (if g=f then Y u else j g);rw[t4];by_cases q:g=f
  .rw[ai q,ai q];exact m
  .rw[aq q,aq q];exact r g
 .by_cases q:g=f
  .rw[q];exact(sO f y fs).1
  .refine(sO f y fs).2 g (i g λz=>t ?_);show (if g=f then Y u else j g)=Z;rw[aq q];exact z
def c7.made(I:c7 X pins σ H s):c7 X pins σ (upd (upd H (zB s) (.own ((zB s)+1))) ((zB s)+1) (.ins C (zB s) []))
  { s with heap:=(s.heap.push W.emptyDict).push (W.instObj C (zB s)) }:=by
 have d:(s.heap.push W.emptyDict).get? (zB s)=Y W.emptyDict:=aG s.heap rfl;have h:((s.heap.push W.emptyDict).push (W.instObj C (zB s))).get? ((zB s)+1)=Y (W.instObj C (zB s)):=by have:=aG (s.heap.push W.emptyDict) (o:=W.instObj C (zB s)) rfl;rwa[eZ] at this
 have g:(s.heap.push W.emptyDict).Ns (zB s) (λ_=>Z):={W.emptyDict,#[],_,d,rfl,(λe he=>absurd he (by simp)),λ_=>rfl}
 have i:=I.laid (a:=(zB s)) (o:=.own ((zB s)+1)) (h':=s.heap.push W.emptyDict) (t':=s.toks) (λb u q=>af _ q) (aH _) {_,d};refine i.laid (a:=(zB s)+1) (o:=.ins C (zB s) []) (t':=s.toks) (λb u q=>af _ q) (Nat.le_of_eq (eZ _ _)) ?_;have c:(zB s)≠(zB s)+1:=aR (d9 _);refine{by rw[c8 c,eB],eJ _,c,h,λ_=>Z,(Heap.Ns1.of_empty g).at λo q=>af _ q,λ_=>aY,λy f=>absurd rfl f}
def FN{a:Program}{b:Env}{Q:Px} (c:attributeBase e f b (eval e b)=eval e b)
  (h:wpAny (model a w) A (eval e b) (λo s₁=>wpAny (model a w) A (getAttr o f true) Q E s₁) E s):wpAny (model a w) A (eval (.Attribute e f pos) b) Q E s :=
 Attribute_any_ h (by rw[arm_eval_Attribute,c])
end
def Zu(K:Fg)(e:TE)(f:Str):TE:=λd H Q=>e d H λx c=>∃a C g b v,x=.ref a/\c a=Y (.ins C g b)/\HB K C/\qM K C f/\b.lookup f=Y v/\Q v c
def Zv(K:Fg)(h g:TE)(f:Str):TS:=λD b H=>g b H λy i=>h b i λx e=>∃a C d c,x=.ref a/\e a=Y (.ins C d c)/\HB K C/\qM K C f/\c.length<1000 /\
 D.nx b (upd e a (.ins C d (mq f y c)))
section
variable {o value:Expr}{f:Str}{pos' Zw:Pos}{ta tv:TE}
def Jt(j:PE X e ta)(k:attributeBase e f X.env (eval e X.env)=eval e X.env):PE X (.Attribute e f pos) (Zu X.K ta f):=by intro b s d H Q I h;refine FN k (iu (@j b s d H _ I h) ?_);rintro u z ⟨x,t,r,g,a,C,B,A,v,m,o,c,n,l,q⟩;subst m;obtain rfl:u=Value.ref a:=g;exact DS r o c n l λw y p i=>{(v),t,p,i,q}
def Ju(r:PE X o ta)(m:PE X value tv)(p:swapsWith value (Y (.Attribute o f pos')) pos.line X.env=pure false):PS X (.Assign [.Attribute o f pos'] value pos) (Zv X.K ta tv f):=by intro b s d H D I h;refine plainObj_wpAny_Assign_Attribute (iu (@m b s d H _ I h) ?_) p;rintro u e ⟨y,B,A,g,q⟩;refine iu (@r b e d B _ A q) ?_;rintro k F ⟨x,L,z,i,a,C,J,G,t,v,c,n,l,j⟩;subst t;obtain rfl:k=Value.ref a:=i;exact DT z v c n l g λE w=>{(d),_,w,j}
end
section
variable {Q:Px}{c:Value}{b:Bool}
end
structure iq (k:Nat) (A:Around):Prop where
 hd:A.handled=Z
 dp:A.depth+3*k+5<recursionLimit
 un:A.units+16*k+200<cLine
def iq.mono{k:Nat}(r:iq k A)(h:j<=k):iq j A:={r.hd,by have:=r.dp;omega,by have:=r.un;omega}
theorem iq.deeper{k:Nat}{A:Around}(r:iq (k+1) A)(a:Env):iq k (A.deeper a) :=
 {r.hd,by have:=r.dp;show A.depth+1+3*k+5<_;omega,by have:=r.un;show A.units+3+16*k+200<_;omega}
def DU{a:Lw}{b:List (Str×Value)}:(A.under (.builtin "type.__call__" {.ref C::a,b})).depth=A.depth+1:=by
 first|rfl|simp[Around.under,Code.weight,Code.isCreation,Code.isGuard,Code.isCaller,Code.frames,Code.isFrame,guardIds]
def DV{a:Lw}{b:List (Str×Value)}:(A.under (.builtin "type.__call__" {.ref C::a,b})).units=A.units+1:=by
 first|rfl|simp[Around.under,Code.cUnits,Code.frames,Code.isFrame]
def iq.make{k:Nat}(r:iq (k+1) A)(C:Addr)(a:Lw)(b:List (Str×Value)):iq k (A.under (.builtin "type.__call__" {.ref C::a,b})) :=
 {r.hd,by have:=r.dp;rw[DU];omega,by have:=r.un;rw[DV];omega}
theorem iq.depth{k:Nat}{A:Around}(r:iq k A):A.depth<recursionLimit:=by have:=r.dp;omega
theorem iq.units{k:Nat}{A:Around}(r:iq k A):A.units+64<cLine:=by have:=r.un;omega
def DW:TA:=λ_ H Q=>Q [] H
def BP(d:TE)(c:TA):TA:=λa H Q=>d a H λx f=>c a f λb e=>Q (x::b) e
section
variable {te:TE}{t:TA}
def kO:PA X [] DW:=λ_ _ _ _ H Q I h=>cg {[],H,I,.nil,h}
def gR(n:PE X e te)(m:PA X es t)(l:zr0 (zE e es X)):PA X (e::es) (BP te t):=by intro b a s c H Q I h;rw[l];show wpAny _ _ (spliced ((false,eval e X.env)::backTo b (starEach es X.env))) _ _ s;refine bT (iu (@n a s c H _ I h) ?_);rintro u f ⟨x,r,p,i,k⟩;exact iu (@m b a f c r _ p k) <| by rintro v w ⟨d,q,o,g,j⟩;exact{x::d,q,o,.cons i g,j}
def Zx(t:TA):TE:=λc H Q=>t c H λa b=>a.length<=sizeLine/\∀p,b p=Z->Q (.ref p) (upd b p (.tup a))
def Zy(t:TA):TE:=λc H Q=>t c H λa b=>a.length<=sizeLine/\∀p,b p=Z->Q (.ref p) (upd b p (.lst a))
def Jv{x1}(h:PA X es t):PE X (.Tuple es x1 pos) (Zx t):=by intro a s g H Q I k;refine wpAny_Tuple_spliced (iu (@h pos a s g H _ I k) ?_);rintro j c ⟨i,f,d,r,z,q⟩;refine{by rw[<-r.length];exact z,?_};have l:f (zB c)=Z:=d.ip.fresh (aH _);refine{.ref (zB c),upd f (zB c) (.tup i),d.laid (t':=c.toks) (λb u e=>af _ e) (aH _) ?_,rfl,q _ l};exact{z,j,r,{_,aG _ rfl,rfl,_,rfl}}
def Jw(h:PA X es t):PE X (.List es pos) (Zy t):=by intro a s g H Q I k;refine wpAny_List_spliced (iu (@h pos a s g H _ I k) ?_);rintro j c ⟨i,f,d,r,z,q⟩;refine{by rw[<-r.length];exact z,?_};have l:f (zB c)=Z:=d.ip.fresh (aH _);refine{.ref (zB c),upd f (zB c) (.lst i),d.laid (t':=c.toks) (λb u e=>af _ e) (aH _) ?_,rfl,q _ l};exact{z,j,0,r,aG _ rfl}
end
abbrev Sp:=List V->Hp->VK->XK->Prop
abbrev IY:=List Env->Hp->Shared->XK->Value->Shared->Prop
structure zJ (P:Program) (w:World) (K:Fg) (mg:Str->Ow) (base:Heap) (A:Around) (outer:List Env) (s:Shared) (H:Hp):Prop where
 frames:A.frames=Y outer
 mod:Mod K mg base
 bs:∀b o,base.get? b=Y o->s.heap.get? b=Y o/\H b=Z
 NK:base.objs.size<=(zB s)
 o1:s.heap.FunFrames base outer
 Hq:∀b∈tZ outer,H b=Z
 ip:oP P w H s.heap
 bare:AllBare s.gens
def CE(a:List Env)(P:Program)(w:World)(H:Hp)(s:Shared)(Q:VK)(u:Value)(b:Shared):Prop :=
 ∃v c,b.os=s.os/\AllBare b.gens/\Un (tZ a) [] H c s.heap b.heap/\oP P w c b.heap/\gg v u/\Q v c
def CR(c:IY)(a:List Env)(P:Program)(w:World)(H:Hp)(s:Shared)(Q:VK)(E:XK)(r:Result)(b:Shared):Prop :=
 match r with
 |.ok (.ret u)=>CE a P w H s Q u b
 |.ok _=>False
 |.error e=>c a H s E e b
structure kz (P:Program) (w:World) (K:Fg) (mg:Str->Ow) (base:Heap) (CX:IY) (k:Nat) (f:Addr) (fd:FuncData) (ps:Lr) (sp:Sp):Prop where
 len:∀vs H Q E,sp vs H Q E->vs.length=ps.length
 run:∀(A:Around) (outer:List Env) (s:Shared) (H:Hp) (args:Args) (us:Lw) (vs:List V) (Q:VK) (E:XK),iq k A->zJ P w K mg base A outer s H->BindsTo s fd args (ps.zip us)->fv vs us->sp vs H Q E ->
  codeAny (model P w) A (.call (.ref f) args) (CR CX outer P w H s Q E) s
theorem kz.mono{P:Program}{w:World}{K:Fg}{g:Str->Ow}{a:Heap}{l:IY}{j k:Nat}{f:Addr}{i:FuncData}{e:Lr}{d:Sp}(F:kz P w K g a l j f i e d)(h:j<=k):
  kz P w K g a l k f i e d:={F.len,λA b s H c n m Q E o=>F.run A b s H c n m Q E (o.mono h)}
def zJ.make{P:Program}{K:Fg}{a:List Env}(e:zJ P w K mg base A a s H)(C:Addr)(b:Lw)(c:List (Str×Value)):
  zJ P w K mg base (A.under (.builtin "type.__call__" {.ref C::b,c})) a s H:={by first|exact e.frames|(simpa [Around.under,Code.envs,Code.isFrame,pushEnvs] using e.frames),e.mod,e.bs,e.NK,e.o1,e.Hq,e.ip,e.bare}
section
variable {s':Shared}
def c7.Jx(I:c7 X pins σ H s):zJ X.prog X.w X.K X.mg X.base X.A X.stack s H :=
 {I.ok.frames,I.ok.mod,I.bs,bJ I.ok.NK I.sz,I.stack,I.zx,I.ip,I.bare}
def c7.after{Q:VK}(I:c7 X pins σ H s)(h:CE X.stack X.prog X.w H s Q u s'):EP X pins σ Q u s':=by sleep 1;obtain⟨v,k,i,a,f,e,r,q⟩:=h;sleep 2;sleep 1;obtain⟨j,g,d,t,c⟩:=s';sleep 2;obtain rfl:c=s.os:=i;exact{v,k,I.call (h':=j) (g':=g) (d':=d) (t':=t) (ch:=[]) f e a (λb z=>absurd z (by simp)),r,q}
end
def Rv(d:Sp)(a:List V)(E:XK)(t:TA):TE:=λb H Q=>t b H λc e=>d (c++a) e Q E
def Rw(C:Addr)(m:Str)(g:Sp)(b:List V)(E:XK)(f:TE)(t:TA):TE:=λc H Q=>f c H λx e=>∃a h d,x=.ref a/\e a=Y (.ins C h d)/\d.lookup m=Z /\
 t c e λvs i=>g (x::(vs++b)) i Q E
def Rx(C:Addr)(f:Sp)(b:List V)(E:XK)(t:TA):TE:=λd H Q=>t d H λe c=>∀x a,c x=Z->c a=Z->a≠x ->
 f (.ref x::(e++b)) (upd (upd c a (.own x)) x (.ins C a [])) (λv g=>v=.lz/\Q (.ref x) g) E
def jK(K:Fg)(c:FuncData)(a:Lr)(b:Lw):Prop :=
 ∀(s:Shared) (us:Lw),K.In s.heap->(us++b).length=a.length->BindsTo s c {us,[]} (a.zip (us++b))
def jK.all{K:Fg}(h:∀us:Lw,us.length=ps.length->bindArgs fd {us,[]}=pure (ps.zip us)):jK K fd ps []:=λs us _ a=>by rw[aK] at a ⊢;exact .of_eq (h us a)
def oo(b:IY)(X:Cx)(E:XK):Prop:=∀(a:Ax) (σ:St) (H:Hp) (s:Shared) (e:Value) (s':Shared),c7 X a σ H s->b X.stack H s E e s'->X.xe e s'
section
variable {CX:IY}{k:Nat}{f:Addr}{sp:Sp}{zL:List V}{ds:Lw}{E:XK}{m:Str}{o:Expr}{ta:TE}{t:TA}
theorem zO{Q:VK}{us:Lw} (F:kz X.prog X.w X.K X.mg X.base CX k f fd ps sp) (g:iq k X.A) (l:jK X.K fd ps ds) (j:fv zL ds) (d:oo CX X E)
  (I:c7 X pins σ H s) (r:fv vs us) (h:sp (vs++zL) H Q E):(zw X) (call (.ref f) us) (EP X pins σ Q) X.xe s:=by
 have b:fv (vs++zL) (us++ds):=r.append j;have i:(us++ds).length=ps.length:=by rw[<-b.length];exact F.len _ _ _ _ h
 refine wpAny_call (cO (F.run X.A X.stack s H {us,[]} (us++ds) (vs++zL) Q E g I.Jx (l s us I.oj i) b h) λr c a=>?_);cases r with
 |error e=>exact d pins σ H s e c I a
 |ok m=>
  cases m with
  |ret u=>exact I.after a
  |next=>exact False.elim a
  |brk=>exact False.elim a
  |cont=>exact False.elim a
def zP(F:kz X.prog X.w X.K X.mg X.base CX k f fd ps sp) (j:iq k X.A) (n:Gl X x) (l:X.mg x=Y (.ref f)) (m:W.keepIn X.K (.ref f)=true) (v:jK X.K fd ps ds) (u:fv zL ds) (i:oo CX X E)
  (y:PA X (e::es) t) (c:zd0 (zg x)) (o:zr0 (zE e es X)) (b:zr0 ((backTo pos (starEach es X.env)).any (·.1)=false)):
  PE X (.Call (.Name x p) (e::es) [] pos) (Rv sp zL E t):=by
 intro a s g H Q I h;refine bA (kj I n l ?_ c);refine W.callWith_K (h₀:=X.base) I.ok.mod.Rn m (iu (@y pos a s g H _ I h) ?_) o b;rintro B C ⟨z,D,d,r,q⟩;refine{d.oj,?_};exact zO F j v u i d r q
def Jy(F:kz X.prog X.w X.K X.mg X.base CX k f fd ps sp) (d:iq k X.A) (i:Gl X x) (e:X.mg x=Y (.ref f)) (g:W.keepIn X.K (.ref f)=true) (l:jK X.K fd ps ds) (j:fv zL ds) (c:oo CX X E)
  (a:zd0 (zg x)):PE X (.Call (.Name x p) [] [] pos) (Rv sp zL E DW):=by
 intro b s m H Q I h;refine bA (kj I i e ?_ a);exact W.callWith_K0 I.oj g (zO (us:=[]) F d l j c I .nil h)
def FP(J:PE X o ta) (c:HB X.K C) (j:HC X.K C m f) (F:kz X.prog X.w X.K X.mg X.base CX k f fd ps sp) (G:iq k X.A) (M:jK X.K fd ps ds) (L:fv zL ds) (B:oo CX X E) (N:PA X (e::es) t)
  (d:zr0 (zE e es X)) (g:zr0 ((backTo pos (starEach es X.env)).any (·.1)=false))
  (D:eval (.Call (.Attribute o m apos) (e::es) [] pos) X.env=(do
   let ov <-eval o X.env
   standAt apos.atName
   let (f,first) <-holding [ov] (getMethod ov m pl)
   callWith pos f first (backTo pos (starEach (e::es) X.env)) (backToKw pos (keywordEach [] X.env))):=by rfl):
  PE X (.Call (.Attribute o m apos) (e::es) [] pos) (Rw C m sp zL E ta t):=by
 intro b s i H Q I h;refine W.methodCall_KW (pl:=pl) (iu (@J b s i H _ I h) ?_) D;rintro u v ⟨x,R,p,y,a,U,T,O,P,l,q⟩;subst O;obtain rfl:u=Value.ref a:=y;refine vk p P c j l ?_;refine W.callWith_K (first:=[.ref a]) (h₀:=X.base) I.ok.mod.Rn j.kp (iu (@N pos b v i R _ p q) ?_) d g;rintro us S ⟨vs,V,n,r,z⟩;refine{n.oj,?_};exact zO (us:=.ref a::us) (vs:=.ref a::vs) F G M L B n (.cons rfl r) z
def BQ(r:PE X o ta) (c:HB X.K C) (e:HC X.K C m f) (F:kz X.prog X.w X.K X.mg X.base CX k f fd ps sp) (p:iq k X.A) (v:jK X.K fd ps ds) (t:fv zL ds) (j:oo CX X E)
  (n:eval (.Call (.Attribute o m apos) [] [] pos) X.env=(do
   let ov <-eval o X.env
   standAt apos.atName
   let (f,first) <-holding [ov] (getMethod ov m pl)
   callWith pos f first (backTo pos (starEach [] X.env)) (backToKw pos (keywordEach [] X.env))):=by rfl):
  PE X (.Call (.Attribute o m apos) [] [] pos) (Rw C m sp zL E ta DW):=by
 intro b s g H Q I h;refine W.methodCall_KW (pl:=pl) (iu (@r b s g H _ I h) ?_) n;rintro u B ⟨x,J,d,i,a,G,D,y,z,l,q⟩;subst y;obtain rfl:u=Value.ref a:=i;refine vk d z c e l ?_;exact W.callWith_K0 (first:=[.ref a]) d.oj e.kp (zO (us:=[.ref a]) (vs:=[.ref a]) F p v t j d (.cons rfl .nil) q)
structure Mk (K:Fg) (C f:Addr):Prop where
 makes:W.makesIn K C=true
 init:W.findIn K (.ref C) "__init__"=Y (Y (.ref f))
 fn:W.isFn K (.ref f)=true
 kp:W.keepIn K (.ref C)=true
theorem BR{Q:VK}{us:Lw} (M:Mk X.K C f) (F:kz X.prog X.w X.K X.mg X.base CX k f fd ps sp) (m:iq (k+1) X.A) (p:jK X.K fd ps ds) (o:fv zL ds)
  (l:oo CX X E) (I:c7 X pins σ H s) (r:fv vs us)
  (h:∀x dx,H x=Z->H dx=Z->dx≠x->sp (.ref x::(vs++zL)) (upd (upd H dx (.own x)) x (.ins C dx [])) (λv H2=>v=.lz/\Q (.ref x) H2) E):
  (zw X) (call (.ref C) us) (EP X pins σ Q) X.xe s:=by
 have d:=h ((zB s)+1) (zB s) (I.ip.fresh (fP _)) (I.ip.fresh (aH _)) (aR (d9 _));have b:=c7.made (C:=C) I;have c:fv (V.ref ((zB s)+1)::(vs++zL)) (Value.ref ((zB s)+1)::(us++ds)):=.cons rfl (r.append o);have n:(Value.ref ((zB s)+1)::us++ds).length=ps.length:=by have e:=c.length;rw[F.len _ _ _ _ d] at e;exact e.symm
 refine wpAny_call (Js (f:=f) I.oj M.makes M.init (bw.mp M.fn) (cO (F.run _ X.stack _ _ {Value.ref ((zB s)+1)::us,[]} (Value.ref ((zB s)+1)::(us++ds)) _ _ E (m.make C us [])
  (b.Jx.make C us []) (p _ (Value.ref ((zB s)+1)::us) b.oj n) c d) λr g a=>?_))
 cases r with
 |error e=>exact l pins σ _ _ e g b a
 |ok q=>
  cases q with
  |ret u=>sleep 1;obtain⟨v,z,y,i,t,j⟩:=b.after a;sleep 2;subst t;exact{i,{V.ref ((zB s)+1),z,y,rfl,j}}
  |next=>exact False.elim a
  |brk=>exact False.elim a
  |cont=>exact False.elim a
def Ob(M:Mk X.K C f) (F:kz X.prog X.w X.K X.mg X.base CX k f fd ps sp) (j:iq (k+1) X.A) (m:Gl X x) (l:X.mg x=Y (.ref C)) (u:jK X.K fd ps ds) (o:fv zL ds) (i:oo CX X E)
  (v:PA X (e::es) t) (c:zd0 (zg x)) (n:zr0 (zE e es X)) (b:zr0 ((backTo pos (starEach es X.env)).any (·.1)=false)):
  PE X (.Call (.Name x p) (e::es) [] pos) (Rx C sp zL E t):=by
 intro a s g H Q I h;refine bA (kj I m l ?_ c);refine W.callWith_K (h₀:=X.base) I.ok.mod.Rn M.kp (iu (@v pos a s g H _ I h) ?_) n b;rintro z B ⟨y,D,d,r,q⟩;refine{d.oj,?_};exact BR M F j u o i d r q
def Jz(M:Mk X.K C f) (F:kz X.prog X.w X.K X.mg X.base CX k f fd ps sp) (d:iq (k+1) X.A) (g:Gl X x) (e:X.mg x=Y (.ref C)) (j:jK X.K fd ps ds) (i:fv zL ds) (c:oo CX X E)
  (a:zd0 (zg x)):PE X (.Call (.Name x p) [] [] pos) (Rx C sp zL E DW):=by
 intro b s l H Q I h;refine bA (kj I g e ?_ a);exact W.callWith_K0 I.oj M.kp (BR (us:=[]) M F d j i c I .nil h)
end
section
variable {CX:IY}{k:Nat}{f:Addr}{ks:Lr}{sp:Sp}{E:XK}{m:Str}{aaa:Pos}{o:Expr}{kws:List Keyword}{te ta:TE}{t tk:TA}{nm:Option Str}
variable {g:Lw->Lw->Lw}{gV:List V->List V->List V}
end
structure iT (N P:Lr) (sc:Scope):Prop where
 kind:sc.kind=.function
 co:sc.isCoroutine=false
 gen:sc.isGenerator=false
 nd:N.Nodup
 pre:N.take P.length=P
 par:∀x∈P,sc.names.lookup x=Y .local\/sc.names.lookup x=Y .cell
 Tr:∀y∈sc.names,y.2≠.free
theorem x9{b:Str->Option NameKind}{x:Str}:∀{a:List (Str×Value)}{m:Str->Ow},(∀v,(x,v)∉a)->bindL b a m x=m x
 |[],_,_=>rfl
 | (n,v)::r,m,h=>by
  unfold bindL;rw[x9 λw hw=>h w (ao _ hw)];split
  .have:x≠n:=by rintro rfl;exact h v bu
   simp[this]
  .rfl
theorem ya{b:Str->Option NameKind}{x:Str}:∀{a:List (Str×Value)}{m:Str->Ow},(∀v,(x,v)∉a)->bindC b a m x=m x
 |[],_,_=>rfl
 | (n,v)::r,m,h=>by
  unfold bindC;rw[ya λw hw=>h w (ao _ hw)];split
  .rfl
  .have:x≠n:=by rintro rfl;exact h v bu
   simp[this]
theorem yb{a:Str->Option NameKind}{x:Str}{v:Value}:∀{P:Lr}{b:Lw}{i:Nat}{m:Str->Ow},P.Nodup->P[i]?=Y x->b[i]?=Y v->a x=Y .local ->
  bindL a (P.zip b) m x=Y v
 |[],_,_,_,_,h,_,_=>by simp at h
 |_::_,[],_,_,_,_,h,_=>by simp at h
 |p::P,w::b,0,m,nd,h1,h2,hk=>by simp at h1 h2;subst h1;subst h2;show bindL a ((p,w)::P.zip b) m p=_;unfold bindL;rw[x9 λv c=>(bN.mp nd).1 (fJ c).1,ai hk];simp
 |p::P,w::b,i+1,m,nd,h1,h2,hk=>by show bindL a ((p,w)::P.zip b) m x=_;unfold bindL;exact yb (i:=i) (bN.mp nd).2 (by simpa using h1) (by simpa using h2) hk
theorem yc{a:Str->Option NameKind}{x:Str}{v:Value}:∀{P:Lr}{b:Lw}{i:Nat}{m:Str->Ow},P.Nodup->P[i]?=Y x->b[i]?=Y v->a x≠Y .local ->
  bindC a (P.zip b) m x=Y v
 |[],_,_,_,_,h,_,_=>by simp at h
 |_::_,[],_,_,_,_,h,_=>by simp at h
 |p::P,w::b,0,m,nd,h1,h2,hk=>by simp at h1 h2;subst h1;subst h2;show bindC a ((p,w)::P.zip b) m p=_;unfold bindC;rw[ya λv c=>(bN.mp nd).1 (fJ c).1,aq hk];simp
 |p::P,w::b,i+1,m,nd,h1,h2,hk=>by show bindC a ((p,w)::P.zip b) m x=_;unfold bindC;exact yc (i:=i) (bN.mp nd).2 (by simpa using h1) (by simpa using h2) hk
def lS(N:Lr)(vs:List V):St:=vs.map Y++List.replicate (N.length - vs.length) Z
def sP(CX:IY)(P:Program)(w:World)(K:Fg)(i:Str->Ow)(d:Heap)(N:Lr)(c:Str)(a:Scope)(f:Addr)(h:Value)(A:Around)(b:List Env)(s:Shared)(H:Hp)(E:XK):Cx where
 prog:=P
 w:=w
 K:=K
 mg:=i
 base:=d
 A:=A.deeper (envOfC c a (zB s) f h)
 N:=N
 iH:=s
 q9:=H
 env:=envOfC c a (zB s) f h
 outer:=b
 stack:=envOfC c a (zB s) f h::b
 ex:=[]
 calm:=true
 fn:=λ_=>true
 pn:=[]
 xe:=λe j=>wpAny (model P w) (A.deeper (envOfC c a (zB s) f h)) (leaving (envOfC c a (zB s) f h) e) (λ_ g=>CX b H s E e g) (λk g=>CX b H s E k g) j
def BS{a:Scope}(h:a.names.lookup x=Y .cell):∃c,(cellsFrom n a.names []).lookup x=Y c:=by have q:=W.cellsFrom_some a.names n [] (.inl h);exact Option.isSome_iff_exists.mp q
def ye{CX:IY}{P:Program}{K:Fg}{N:Lr}{g:Str}{f:Addr}{F:Value}{d:List Env}{I:Shared}{E:XK}{G:Lw}
  (S:iT N ps scope) (Q:A.handled=Z) (l:zJ P w K mg base A d s H) (U:vs.length=ps.length) (r:fv vs G)
  (x:InCallC s (zB s) (bindL (envOfC g scope (zB s) f F).kindOf (ps.zip G) λ_=>Z) (cellsFrom ((zB s)+1) scope.names []) (bindC (envOfC g scope (zB s) f F).kindOf (ps.zip G) λ_=>Z) I):
  c7 (sP CX P w K mg base N g scope f F A d s H E) [] (lS N vs) H I:=by
 have O:ps.length<=N.length:=by have:=bG List.length S.pre;rw[bP] at this;omega
 obtain⟨D,T,rfl,L⟩:=x.done;have m:∀b:Addr,b∉(sP CX P w K mg base N g scope f F A d s H E).ex:=λb z=>absurd (show b∈([]:List Addr) from z) (by simp);refine{{l.mod,S.kind,rfl,rfl,aH _,λy z c D j=>?_,λy o=>?_,λy c _ h=>?_,λ_=>Q,Around.frames_deeper l.frames,.inr {(rfl),rfl},λb z=>absurd z (m b),l.bs,l.NK,λb _ _=>m b,λb z=>absurd z (m b),l.o1,l.Hq},
  rfl,l.bare,Un.kept L,{_,x.toInCall.ns,λi y v D j V=>?_},λy c h=>{_,x.cell y c h},l.ip.fresh (aH _),λy c h=>?_,λp B=>absurd (show p∈([]:Ax) from B) (by simp),l.ip.kept L,?_}
 .exact name_of_addr x.apart (bQ D) (bQ j)
 .have o:scope.names.lookup y=Y .cell\/scope.names.lookup y=Y .free:=o;rcases o with o|o
  .exact BS o
  .exact absurd rfl (S.Tr _ (bQ o))
 .exact dO (x.above y c (bQ h))
 .have C:i<vs.length:=by
   unfold lS at j;by_cases C:i<vs.length
   .exact C
   .rw[aP (by simpa using C)] at j;rw[bR] at j;split at j<;>cases j
  have R:vs[i]?=Y v:=by
   unfold lS at j;rw[bf (by simpa using C),aM] at j;cases e:vs[i]? with
   |none=>rw[e] at j;cases j
   |some a=>rw[e] at j;cases j;rfl
  obtain⟨u,J,M⟩:=r.get R;have B:ps[i]?=Y y:=by rw[<-S.pre,List.getElem?_take_of_lt (by omega)];exact D
  have t:ps.Nodup:=by rw[<-S.pre];exact S.nd.sublist (List.take_sublist _ _)
  refine{u,M,?_};rcases S.par y (bU B) with k|k
  .exact .inl {k,yb t B J k}
  .obtain⟨c,e⟩:=BS (n:=(zB s)+1) k;refine .inr {.inl k,c,e,?_};have q:=x.cell y c e;rw[yc t B J (by show scope.names.lookup y≠_;rw[k];decide)] at q;exact q
 .exact l.ip.fresh (dO (x.above y c (bQ h)))
 .unfold lS;show _=N.length;rw[az,ag,List.length_replicate];omega
def Ry{D:IY}{P:Program}{K:Fg}{k:Nat}{f:Addr}{i a:Str}{d:Arguments}{g:List Stmt}{X U C T c ct oc:Value}{an od:Option Addr}
  {G:Array Ow}{N:Lr}{F:Sp} (lk:K.lookup f=Y {oc,od,.func (W.fnOf i a d g scope X U C T an c ct),G}) (O:W.codeIn K c a=true) (S:iT N ps scope)
  (m:∀vs H Q E,F vs H Q E->vs.length=ps.length)
  (l:∀(A:Around) (outer:List Env) (s:Shared) (H:Hp) (vs:List V) (Q:VK) (E:XK),iq k (A.deeper (envOfC a scope (zB s) f c))->F vs H Q E ->
   ∃t,xb (sP D P w K mg base N a scope f c A outer s H E) g t/\t { nx:=λ_ H'=>Q .lz H',rt:=Q } (lS N vs) H):
  kz P w K mg base D (k+1) f (W.fnOf i a d g scope X U C T an c ct) ps F:=by
 refine{m,λA outer s H args us vs Q E M B hb r p=>?_};have hl:=m _ _ _ _ p;have KX:K.In s.heap:=B.mod.Rn.keeps λb o e=>(B.bs b o e).1;have L:s.heap.NoLimit:=B.mod.nolimit.keeps λb o e=>(B.bs b o e).1;have j:∀y∈ps.zip us,scope.names.lookup y.1=Y .local\/(scope.names.lookup y.1=Y .cell/\((cellsFrom ((zB s)+1) scope.names []).lookup y.1).isSome=true):=by
  rintro⟨n,v⟩ hy;rcases S.par n (fJ hy).1 with q|q
  .exact .inl q
  .exact .inr {q,W.cellsFrom_some _ _ _ (.inl q)}
 refine codeAny_call_function M.depth (KX _ _ lk) rfl S.co S.gen rfl (W.codeRec_of KX O) (hb _ _ _ _ ?_);refine wpAny_newFunctionEnv_cells S.kind j λenv he R x=>?_;subst he;refine{L.keeps x.toInCall.keep,codeAny_func ?_};obtain⟨t,ht,hq⟩:=l A outer s H vs Q E (M.deeper _) p;have I:c7 (sP D P w K mg base N a scope f c A outer s H E) [] (lS N vs) H R:=ye S M.hd B hl r x;refine bM (@ht [] R (lS N vs) H _ I hq) (λfl s' hs=>?_) λe s' hs=>hs;have z:∀{h:St}{H':Hp}{v:V}{u:Value},c7 (sP D P w K mg base N a scope f c A outer s H E) [] h H' s'->gg v u->Q v H'->CE outer P w H s Q u s' :=
  λ{h H' v u} J rv q=>{v,H',J.os,J.bare,J.base,J.ip,rv,q}
 cases fl with
 |ret u=>sleep 1;obtain⟨v,h,H',J,rv,q⟩:=hs;sleep 2;exact z J rv q
 |next=>obtain⟨h,H',J,q⟩:=hs;exact z (v:=V.lz) (u:=Value.none) J rfl q
 |brk=>obtain⟨_,_,_,q⟩:=hs;exact False.elim q
 |cont=>obtain⟨_,_,_,q⟩:=hs;exact False.elim q
section
variable {t:TA}{id T:String}{r:List V->Hp->VK->Prop}
def YV(r:List V->Hp->VK->Prop)(t:TA):TE:=λa H Q=>t a H λb c=>r b c Q
def pv(u:i6 X (.builtin id) r) (o:Gl X x) (n:X.mg x=Z) (l:bootBuiltins x=Y (.builtin id)) (v:PA X (e::es) t) (m:zd0 (x≠"__name__")) (c:zd0 (zg x))
  (q:zr0 (zE e es X)) (b:zr0 ((backTo pos (starEach es X.env)).any (·.1)=false)):PE X (.Call (.Name x p) (e::es) [] pos) (YV r t):=by
 intro a s d H Q I h;refine bA (ni I o n l ?_ m c);exact da (iu (@v pos a s d H _ I h) <| by rintro g i ⟨f,y,w,j,k⟩;exact @u a i d y f g Q w j k) q b
def yf(u:i6 X (.type T) r) (o:Gl X x) (n:X.mg x=Z) (l:bootBuiltins x=Y (.type T)) (v:PA X (e::es) t) (m:zd0 (x≠"__name__")) (c:zd0 (zg x))
  (q:zr0 (zE e es X)) (b:zr0 ((backTo pos (starEach es X.env)).any (·.1)=false)):PE X (.Call (.Name x p) (e::es) [] pos) (YV r t):=by
 intro a s d H Q I h;refine bA (ni I o n l ?_ m c);exact bF (iu (@v pos a s d H _ I h) <| by rintro g i ⟨f,y,w,j,k⟩;exact @u a i d y f g Q w j k) q b
end
end L2
namespace HT
open PySem PyProof.Rows
section
open PySem.SeqAt
open PySem.AutoSeq1 (wpAny_loadPart')
open PySem.MeetsSeq PySem.MeetsSeq2 PySem.MeetsSeq3
end
section
variable {prog:Program}
def Oc{t b:Addr}{d a:Lw}{Q:Px} (x:IsTup s.heap t d.toArray) (y:IsTup s.heap b a.toArray) (p:d≠[])
  (B:a=[]->Q (.ref t) s) (z:a≠[]->Q (.ref (zB s)) { s with heap:=s.heap.push { cls:=.type "tuple",data:=.seq (d++a).toArray } })
  (k:d.length+a.length<=sizeLine):wpAny (model prog w) A (binaryOp .Add (.ref t) (.ref b)) Q E s:=by
 sleep 1;obtain⟨⟨cls,u,data,m⟩,j,r,n,q⟩:=id x;sleep 2;sleep 1;obtain⟨⟨v,i,l,f⟩,c,h,o,g⟩:=id y;sleep 2;simp only at r q h g;subst r q h g;have e:d.toArray++a.toArray=(d++a).toArray:=by simp
 by_cases hw:a=[]
 .exact fG {_,j,rfl} {_,c,rfl} fz seq_tuple_add dR dM (dH _ _)
   (tuple_addW1 t b d.toArray a.toArray n o u i m f (by simpa using p) (by simp[hw])) {j,c,B hw}
 .refine fG {_,j,rfl} {_,c,rfl} fz seq_tuple_add dR dM (dH _ _)
   (tuple_addW2 t b d.toArray a.toArray n o u i m f (by simpa using p) (by simpa using hw) (by rw[aB,aB];exact k)) {j,c,?_}
  rw[e];exact z hw
def jZ(n d:Nat):Option Int->Nat
 |none=>d
 |some v=>if v<0 then (v+(n:Int)).toNat else min v.toNat n
def Ts(n d:Nat)(b:d<=n)(o:Option Int):jZ n d o<=n:=by
 cases o with
 |none=>exact b
 |some v=>
  show (if v<0 then (v+(n:Int)).toNat else min v.toNat n)<=n;by_cases a:v<0
  .rw[ai a];omega
  .rw[aq a];exact fA _ _
def FQ(v:Int)(n d:Nat):(if v<0 then max (v+(n:Int)) 0 else min v (n:Int))=((jZ n d (Y v):Nat):Int):=by
 show (if v<0 then max (v+(n:Int)) 0 else min v (n:Int))=(((if v<0 then (v+(n:Int)).toNat else min v.toNat n):Nat):Int)
 by_cases a:v<0
 .simp only[ai a];omega
 .simp only[aq a];omega
def DX(a b:Option Int)(n:Nat):Builtin.Slice.sliceAdjust a b 1 (n:Int)=(((jZ n 0 a:Nat):Int),((jZ n n b:Nat):Int)):=by
 have c:¬ ((1:Int)<0):=by omega
 unfold Builtin.Slice.sliceAdjust;simp only[c,e9];refine Prod.ext ?_ ?_
 .cases a with
  |none=>rfl
  |some v=>exact FQ v n 0
 .cases b with
  |none=>rfl
  |some v=>exact FQ v n n
def DY(i j:Nat):Builtin.Slice.slicePlaces (i:Int) (j:Int) 1=j - i:=by
 unfold Builtin.Slice.slicePlaces;have a:(1:Int) > 0:=by omega
 simp only[a,cY,Int.ediv_one];split<;>omega
def vl{v:Value}{o:Option Int}{Q:Option Int->Shared->Prop}(p:IsPart v o)(h:Q o s):wpAny (model prog w) A (Builtin.Slice.slicePartIndex v) Q E s:=by
 cases p with
 |none=>exact slicePart_none h
 |int i t=>exact slicePart_int h
def nN{g:Addr}{f e:Value}{a c:Option Int}{Q:Int×Int×Nat->Shared->Prop} (k:s.heap.IsSliceOf g f e .none) (j:IsPart f a) (i:IsPart e c)
  (h:Q (((jZ n 0 a:Nat):Int),1,jZ n n c - jZ n 0 a) s):wpAny (model prog w) A (Builtin.Slice.sliceApplied (.ref g) (pure (n:Int))) Q E s:=by
 obtain⟨m,b,l,d⟩:=id k;unfold Builtin.Slice.sliceApplied Builtin.Slice.sliceFields;refine aa (aa (cj b d (x:=f) rfl (aa (cj b d (x:=e) rfl (aa (cj b d (x:=.none) rfl (ak ?_)))))));refine aa (slicePart_none ?_);show wpAny _ _ (if ((1:Int)==0)=true then _ else _) _ _ s;rw[aq (by decide)];refine aa (vl j (aa (vl i (aa (ak ?_)))));show wpAny _ _ (match Builtin.Slice.sliceAdjust a c 1 (n:Int) with|(a,c)=>pure (a,(1:Int),Builtin.Slice.slicePlaces a c 1)) _ _ s;rw[DX a c n];show wpAny _ _ (pure (((jZ n 0 a:Nat):Int),(1:Int),Builtin.Slice.slicePlaces ((jZ n 0 a:Nat):Int) ((jZ n n c:Nat):Int) 1)) _ _ s;rw[DY];exact ak h
def JA(a:Array Value)(i k:Nat):((List.range k).filterMap λ(m:Nat)=>a[((i:Int)+(m:Int)*1).toNat]?).toArray=((a.toList.drop i).take k).toArray:=by
 have e:(λ(m:Nat)=>a[((i:Int)+(m:Int)*1).toNat]?)=λm=>a[i+m]?:=by
  funext m
  have:((i:Int)+(m:Int)*1).toNat=i+m:=by omega
  rw[this]
 rw[e];have:=pick_run a i k;rw[fe] at this;have b:((λx=>a[x]?)∘λx=>i+x)=λm=>a[i+m]?:=rfl;rw[b] at this;rw[this]
def ri{t e:Addr}{l k:Value}{b c:Option Int}{Q:Px} (d:IsTup s.heap t items) (n:s.heap.IsSliceOf e l k .none) (p:IsPart l b) (o:IsPart k c)
  (hw:¬ (jZ items.size 0 b=0/\jZ items.size items.size c=items.size))
  (h:Q (.ref (zB s)) { s with heap:=s.heap.push { cls:=.type "tuple",data:=.seq ((items.toList.drop (jZ items.size 0 b)).take (jZ items.size items.size c - jZ items.size 0 b)).toArray } })
  (u:items.size<=sizeLine):wpAny (model prog w) A (getItem (.ref t) (.ref e)) Q E s:=by
 have a:sizeOk (.seq ((items.toList.drop (jZ items.size 0 b)).take (jZ items.size items.size c - jZ items.size 0 b)).toArray):=by show ((items.toList.drop (jZ items.size 0 b)).take (jZ items.size items.size c - jZ items.size 0 b)).toArray.size<=sizeLine;rw[aB,bP,bY,cX];omega
 have z:jZ items.size items.size c<=items.size:=Ts _ _ (aH _) c;obtain⟨r,f,i,v⟩:=id n;have j:s.TypeIs (.ref e) "slice":={(r),f,i}
 unfold getItem
 try with_reducible refine bp ?_
 first|refine aa (ak ?_)|skip
 refine aa (wpAny_sequenceKey d.typeIs (by decide) ?_);refine aa (de (name:=zZ "__getitem__") d.typeIs bH
  (eA bH d.typeIs entry_tuple_getitem ?_ (args_tuple_getitem _ _)))
 show wpAny _ _ (Builtin.Tuple.tupleItemsOf (.ref t)>>=_) _ _ s;refine aa (tupleItemsOf_ d ?_);refine aa (cQ j ?_);rw[ai (by decide)];refine aa (nN n p o ?_);have g:¬ ((((jZ items.size 0 b:Nat):Int)==0&&(1:Int)==1&&(jZ items.size items.size c - jZ items.size 0 b)==items.size)=true):=by intro q;rw[aO,aO] at q;have y:((jZ items.size 0 b:Nat):Int)=0:=eq_of_beq q.1.1;have x:jZ items.size items.size c - jZ items.size 0 b=items.size:=eq_of_beq q.2;exact hw {by omega,by omega}
 show wpAny _ _ (if (((jZ items.size 0 b:Nat):Int)==0&&(1:Int)==1&&(jZ items.size items.size c - jZ items.size 0 b)==items.size)=true then _ else _) _ _ s;rw[aq g,JA]
 first
  |exact aa (m:=Builtin.Tuple.tupleExact _) (cS (ak {_,rfl,ak h}) a)
  |exact aa (m:=Builtin.Tuple.tupleExact _) (cS (aa (ak (ak {_,rfl,ak h}))) a)
  |exact aa (aa (m:=Builtin.Tuple.tupleExact _) (cS (ak (ak {_,rfl,ak h})) a))
  |exact aa (aa (m:=Builtin.Tuple.tupleExact _) (cS (ak {_,rfl,ak h}) a))
end
end HT
namespace L2
open PySem PySem.Spec PyProof.Rows
abbrev TO:=St->Hp->(Option Int->Hp->Prop)->Prop
def PO(X:Cx)(e:Option Expr)(t:TO):Prop :=
 ∀⦃a:Ax⦄ (s:Shared) (σ:St) (H:Hp) (Q:Option Int->Hp->Prop),c7 X a σ H s->t σ H Q ->
  (zw X) (evalPart e X.env) (λu s'=>∃o b,c7 X a σ b s'/\IsPart u o/\Q o b) X.xe s
def Oe:TO:=λ_ H Q=>Q Z H
def WE(t:TE):TO:=λa H Q=>t a H λx b=>∃i,x=.int i/\Q (Y i) b
section
variable {te:TE}{lo hi:Option Expr}{tl th:TO}
def Of:PO X Z Oe:=by intro a s b H Q I h;rw[evalPart_none];exact ak {Z,H,I,.none,h}
def Og(h:PE X e te):PO X (Y e) (WE te):=by intro a s b H Q I hw;rw[evalPart_some];refine iu (@h a s b H _ I hw) ?_;rintro u j ⟨x,g,f,c,d⟩;obtain⟨i,rfl,q⟩:=d;obtain⟨t,rfl⟩:=c;exact{Y i,g,f,.int i t,q}
def FR(X:Cx)(r:V->Option Int->Option Int->Hp->VK->Prop):Prop :=
 ∀(a:Ax) (s:Shared) (σ:St) (H:Hp) (x:V) (v c b:Value) (lo hi:Option Int) (sl:Addr) (Q:VK),c7 X a σ H s->gg x v->s.heap.IsSliceOf sl c b .none->IsPart c lo->IsPart b hi->r x lo hi H Q ->
  ∃T d,typeLookup (.type T) "__getitem__"=pure (Y (.builtin d))/\s.TypeIs v T/\(zw X) (getItem v (.ref sl)) (EP X a σ Q) X.xe s
def FR.or{r g:V->Option Int->Option Int->Hp->VK->Prop}(h:FR X r)(l:FR X g):FR X (λx lo hi H Q=>r x lo hi H Q\/g x lo hi H Q):=by
 intro a s b H x v d c lo hi e Q I f k j i q;rcases q with q|q
 .exact @h a s b H x v d c lo hi e Q I f k j i q
 .exact @l a s b H x v d c lo hi e Q I f k j i q
def tSl(r:V->Option Int->Option Int->Hp->VK->Prop)(d:TE)(b c:TO):TE:=λa H Q=>d a H λx g=>b a g λl f=>c a f λu e=>r x l u e Q
def BU{r:V->Option Int->Option Int->Hp->VK->Prop}(A:FR X r)(D:PE X e te)(B:PO X lo tl)(y:PO X hi th):PE X (.Subscript e (.Slice lo hi Z p2) pos) (tSl r te tl th):=by intro a s d H Q I h;refine Subscript_ (iu (@D a s d H _ I h) ?_);rintro v k ⟨x,M,K,m,p⟩;refine wpAny_Slice (iu (@B a k d M _ K p) ?_);rintro g j ⟨l,L,J,w,o⟩;refine iu (@y a j d L _ J o) ?_;rintro f c ⟨u,i,G,t,n⟩;rw[evalPart_none];refine ak ?_;have F:c7 X a d i { c with heap:=c.heap.push { cls:=.type "slice",data:=.fields #[g,f,.none] } }:=G.kept (t':=c.toks) λb N q=>af _ q;sleep 1;obtain⟨T,O,E,z,C⟩:=A a { c with heap:=c.heap.push { cls:=.type "slice",data:=.fields #[g,f,.none] } } d i x v g f l u (zB c) Q F m (Heap.IsSliceOf.new ..) w t n;sleep 2;show (zw X) (subscriptTail e (.Slice lo hi Z p2) v (.ref (zB c))) (EP X a d Q) X.xe { c with heap:=c.heap.push { cls:=.type "slice",data:=.fields #[g,f,.none] } };exact tail_any (ops:=[.ref (zB c),v]) z E C (by with_unfolding_all rfl)
def BV(a:List V)(b c:Option Int):List V:=(a.drop (HT.jZ a.length 0 b)).take (HT.jZ a.length a.length c - HT.jZ a.length 0 b)
def t6(a:List V)(b c:Option Int):(BV a b c).length<=a.length:=by unfold BV;rw[bP,bY];omega
def Zz(K:Fg):V->Option Int->Option Int->Hp->VK->Prop:=λx lo hi H Q=>∃a b,x=.ref a/\pf K H a b /\
 ¬ (HT.jZ b.length 0 lo=0/\HT.jZ b.length b.length hi=b.length)/\∀p,H p=Z->Q (.ref p) (upd H p (.tup (BV b lo hi)))
def Tt:FR X (Zz X.K):=by
 intro f s p H x v u t lo hi w Q I j n l k h;sleep 1;obtain⟨a,d,rfl,m,hw,q⟩:=h;sleep 2;cases j;obtain⟨e,r,i,g⟩:=I.tuple m;have c:e.toArray.size=d.length:=by rw[aB];exact r.length.symm
 refine{"tuple",_,bH.lookup,i.typeIs,?_};refine HT.ri i n l k (by rw[c];exact hw) ?_ (by rw[c];exact g);rw[c];refine{.ref (zB s),_,I.laid (t':=s.toks) (o:=.tup (BV d lo hi)) (λb ob q=>af _ q) (aH _) ?_,rfl,q _ (I.ip.fresh (aH _))};exact{bJ (t6 d lo hi) g,_,(r.drop (HT.jZ d.length 0 lo)).take (HT.jZ d.length d.length hi - HT.jZ d.length 0 lo),IsTup.new _ _}
def WG(K:Fg):R2:=λx y H Q=>∃a b d c,x=.ref a/\y=.ref b/\pf K H a d/\pf K H b c/\d≠[]/\d.length+c.length<=sizeLine /\
 (c=[]->Q (.ref a) H)/\(c≠[]->∀p,H p=Z->Q (.ref p) (upd H p (.tup (d++c))))
def fv.eL{a:List V}{b:Lw}(r:fv a b):b=[]↔a=[]:=by
 cases r with
 |nil=>simp
 |cons _ _=>simp
def Oh:lu X (binaryOp .Add) (WG X.K):=by intro e s D H x y v u Q I l k h;sleep 1;obtain⟨a,b,j,i,rfl,rfl,C,B,A,g,n,m⟩:=h;sleep 2;cases l;cases k;obtain⟨t,d,r,_⟩:=I.tuple C;obtain⟨f,c,p,_⟩:=I.tuple B;refine HT.Oc r p (λz=>A (d.eL.mp z)) (λz=>{.ref a,H,I,rfl,n (c.eL.mp z)}) (λz=>?_) (by rw[<-d.length,<-c.length];exact g);refine{.ref (zB s),_,I.laid (t':=s.toks) (o:=.tup (j++i)) (λb ob q=>af _ q) (aH _) ?_,rfl,m (λw=>z (c.eL.mpr w)) _ (I.ip.fresh (aH _))};exact{by rw[az];exact g,_,d.append c,IsTup.new _ _}
end
def zT(n:Nat)(i:Int):Option Nat:=if 0<=i then (if i<n then Y i.toNat else Z) else if -(n:Int)<=i then Y (i+n).toNat else Z
def qd(a:List α)(i:Int):Option α:=(zT a.length i).bind λj=>a[j]?
def FT{i:Int}(h:zT n i=Y j):seqIndex? i n=Y j/\j<n/\-(n:Int)<=i/\i<n:=by
 unfold zT at h;by_cases b:0<=i
 .rw[ai b] at h;by_cases a:i<n
  .rw[ai a] at h;have e:i.toNat=j:=bW h;exact{by rw[seqIndex_of b a,e],by omega,by omega,a}
  .rw[aq a] at h;cases h
 .rw[aq b] at h;by_cases a:-(n:Int)<=i
  .rw[ai a] at h;have e:(i+n).toNat=j:=bW h;exact{by rw[seqIndex_neg (by omega) a,e],by omega,a,by omega}
  .rw[aq a] at h;cases h
def zU{a:List α}{i:Int}{v:α}(h:qd a i=Y v):∃j,seqIndex? i a.length=Y j/\a[j]?=Y v/\j<a.length/\-(a.length:Int)<=i/\i<a.length:=by
 unfold qd at h;cases e:zT a.length i with
 |none=>rw[e] at h;cases h
 |some j=>rw[e] at h;obtain⟨f,d,c,b⟩:=FT e;exact{(j),f,h,d,c,b}
def rj(b:Expr):Prop:=∀o i,subscripted b false o i=operate [o,i] (getItem o i)
def FU(X:Cx)(r:R2):Prop :=
 ∀(b a:Expr) (pins:Ax) (s:Shared) (σ:St) (H:Hp) (x y:V) (v u:Value) (Q:VK),c7 X pins σ H s->gg x v->gg y u->r x y H Q ->
  subscripted a false v u=operate [v,u] (getItem v u)->(zw X) (subscriptTail b a v u) (EP X pins σ Q) X.xe s
def Rz(X:Cx)(b:String)(r:V->List V->Hp->VK->Prop):Prop :=
 ∀(a:Ax) (s:Shared) (σ:St) (H:Hp) (x:V) (xs:List V) (v:Value) (us:Lw) (Q:VK),c7 X a σ H s->gg x v->fv xs us->r x xs H Q ->
  (zw X) (call (.builtin b) (v::us)) (EP X a σ Q) X.xe s
section
variable {a:Expr}{ta tb:TE}
def FU.or{r g:R2}(h:FU X r)(j:FU X g):FU X (λx y H Q=>r x y H Q\/g x y H Q):=by
 intro a b c s d H x y v u Q I f e q i;rcases q with q|q
 .exact h a b c s d H x y v u Q I f e q i
 .exact j a b c s d H x y v u Q I f e q i
def RA{r:R2}(i:FU X r)(k:PE X a ta)(j:PE X b tb)(g:rj b):PE X (.Subscript a b pos) (Wv r ta tb):=by intro c s d H Q I h;exact Subscript_ (Te k j I h λv u s2 x y m l f e q=>i a b c s2 d m x y v u Q l f e q (g _ _))
def WH(K:Fg):R2:=λx y H Q=>∃p a i v,x=.ref p/\y=.int i/\nj K H p a/\qd a i=Y v/\Q v H
def WI(K:Fg):R2:=λx y H Q=>∃p a i v,x=.ref p/\y=.int i/\pf K H p a/\qd a i=Y v/\Q v H
def WJ:R2:=λx y H Q=>∃z i c,x=.str z/\y=.int i/\z.length<=sizeLine/\qd z.cps.toList i=Y c/\Q (.str {#[c]}) H
def FV:FU X (WH X.K):=by
 intro d e a s m H x y v u Q I D C h n;sleep 1;obtain⟨p,N,i,z,rfl,rfl,E,G,q⟩:=h;sleep 2;cases D;obtain⟨t,rfl⟩:=C;obtain⟨k,r,g,O⟩:=I.list E;sleep 1;obtain⟨j,c,M,R,L,J⟩:=zU G;sleep 2;obtain⟨w,A,f⟩:=r.get M;have F:=r.length;have P:=qL;have b:EP X a m Q w s:={(z),H,I,f,q}
 by_cases o:0<=i
 .have l:i.toNat=j:=by
   rw[seqIndex_of o J] at c;exact bW c
  exact item_listR g.isList o (by omega) (by rw[l];simpa using A) b n
 .have l:(i+(k.toArray.size:Int)).toNat=j:=by
   rw[seqIndex_neg (by omega) L] at c;rw[aB,<-F];exact bW c
  exact subscriptTail_builtinR (x:=w) g.isList.typeIs slot_list_getitem.lookup
   (wpAny_getItem_list_neg (Q:=λr B=>r=w/\EP X a m Q r B) g.isList (by omega) (by rw[aB]<;>omega) (by omega) (by rw[l];simpa using A) {(rfl),b}) n
def Tu:FU X (WI X.K):=by
 intro b c a s f H x y v u Q I m l h o;sleep 1;obtain⟨p,G,i,z,rfl,rfl,A,C,q⟩:=h;sleep 2;cases m;obtain⟨t,rfl⟩:=l;obtain⟨n,r,g,J⟩:=I.tuple A;sleep 1;obtain⟨j,E,D,O,N,M⟩:=zU C;sleep 2;obtain⟨w,F,d⟩:=r.get D;have B:=r.length;have L:=qL;have e:EP X a f Q w s:={(z),H,I,d,q}
 exact subscriptTail_builtinR (x:=w) g.typeIs slot_tuple_getitem.lookup
  (getItem_tuple (j:=j) (Q:=λr k=>r=w/\EP X a f Q r k) g (by omega) (by omega) (by rw[aB,<-B];exact E) (by simpa using F) {(rfl),e}) o
def Tv:FU X WJ:=by
 intro a b d s A H x y v u Q I g f h k;sleep 1;obtain⟨z,i,c,rfl,rfl,C,m,q⟩:=h;sleep 2;obtain⟨t,rfl⟩:=g;obtain⟨B,rfl⟩:=f;sleep 1;obtain⟨j,e,p,E,o,n⟩:=zU m;sleep 2;have l:z.cps.toList.length=z.length:=by simp[Str.length]
 rw[l] at e o n;have D:=qL;exact tail_any (eC s z t) slot_str_getitem.lookup (getItem_str (c:=c) (by have w:decide (i < -(2 ^ 63:Int))=false:=aE (by omega);have r:decide (i >= 2 ^ 63)=false:=aE (by omega);rw[w,r,du]) (by rw[e];simpa using p) {.str {#[c]},H,I.tok _,{_,rfl},q}) k
def rIx(K:Fg):R2:=λx y H Q=>WH K x y H Q\/WI K x y H Q\/WJ x y H Q
def Tw:FU X (rIx X.K):=FV.or (Tu.or Tv)
def DZ(a:Lw)(n j:Nat)(u:Value):Obj.mapSeq (·.setIfInBounds j u) (zl a.toArray n)={ cls:=.type "list",data:=.seq (a.set j u).toArray n }:=by simp[Obj.mapSeq]
theorem c7.lst{a:Ax}{c:St}{H:Hp}{s:Shared}{p:Addr}{b:List V}(I:c7 X a c H s)(h:H p=Y (.lst b)):
  ∃(its:Lw) (n:Nat),fv b its/\s.heap.get? p=Y (zl its.toArray n)/\b.length<=sizeLine:=by
 sleep 1;obtain⟨z,its,n,r,e⟩:=I.ip p _ h;sleep 2;exact{(its),n,r,e,z}
def c7.Tz{p:Addr}{j d:List V}{c a:Lw}{g:Nat}{f:Obj->Obj} (I:c7 X pins σ H s) (h:H p=Y (.lst j))
  (l:s.heap.get? p=Y (zl c.toArray n)) (i:f (zl c.toArray n)=(zl a.toArray g)) (r:fv d a) (k:d.length<=sizeLine) (t:Nat):
  c7 X pins σ (upd H p (.lst d)) { s with heap:=s.heap.update p f,toks:=t }:=by
 have e:(s.heap.update p f).get? p=Y (zl a.toArray g):=by rw[bq f l (by rw[i]<;>rfl),i]
 refine I.write (x:=p) (e:=p) (by rw[h];trivial) (.inl rfl) (λb u hb q=>(aT _ _ (Ne.symm hb)).trans q) {_,e} ?_;exact{(k),a,g,r,e}
def WK:V->V->V->Hp->(Hp->Prop)->Prop:=λo i v H Q=>∃p a k j,o=.ref p/\i=.int k/\H p=Y (.lst a)/\zT a.length k=Y j/\Q (upd H p (.lst (a.set j v)))
def JB:BL X WK:=by
 intro a s y H o i v F G u Q I B C A h;sleep 1;obtain⟨p,z,k,j,rfl,rfl,g,E,q⟩:=h;sleep 2;cases B;obtain⟨t,rfl⟩:=C;sleep 1;obtain⟨b,n,r,d,D⟩:=I.lst g;sleep 2;obtain⟨c,K,m,l⟩:=FT E;have e:=r.length;have J:=qL;have x:c7 X a y (upd H p (.lst (z.set j v))) { s with heap:=s.heap.update p (Obj.mapSeq (·.setIfInBounds j u)) } :=
  I.Tz g d (DZ b n j u) (r.set A j) (by rw[fK];exact D) s.toks
 by_cases w:0<=k
 .have f:k.toNat=j:=by
   rw[seqIndex_of w l] at c;exact bW c
  exact W.ki_setAt d w (by omega) (by rw[aB,<-e];exact l) (by rw[f];exact{_,x,q})
 .have f:(k+(b.toArray.size:Int)).toNat=j:=by
   rw[seqIndex_neg (by omega) m] at c;rw[aB,<-e];exact bW c
  exact W.ki_setBack d (by omega) (by rw[aB,<-e];exact m) (by omega) (by rw[f];exact{_,x,q})
def zV(a b:Option Int)(n:Nat):(sliceBounds a b Z n).1=((HT.jZ n 0 a:Nat):Int)/\(sliceBounds a b Z n).2.1=((HT.jZ n n b:Nat):Int)/\(sliceBounds a b Z n).2.2=1:=by
 refine{?_,?_,rfl}
 .cases a with
  |none=>simp[sliceBounds,HT.jZ]
  |some i=>
   simp only[sliceBounds,HT.jZ,Option.getD_none,show (1:Int) > 0 by decide,cY];by_cases h:i<0
   .simp only[h,cY]<;>omega
   .simp only[h,e9]<;>omega
 .cases b with
  |none=>simp[sliceBounds,HT.jZ]
  |some i=>
   simp only[sliceBounds,HT.jZ,Option.getD_none,show (1:Int) > 0 by decide,cY];by_cases h:i<0
   .simp only[h,cY]<;>omega
   .simp only[h,e9]<;>omega
def xn(a:Lw)(b c:Option Int):slicePick a.toArray b c Z=((a.drop (HT.jZ a.length 0 b)).take (HT.jZ a.length a.length c - HT.jZ a.length 0 b)).toArray:=by obtain⟨f,e,d⟩:=zV b c a.toArray.size;unfold slicePick;rw[f,e,d];simp only[sliceRange_one,pick_run,aB]<;>rfl
def ZA(K:Fg):V->Option Int->Option Int->Hp->VK->Prop:=λx c d H Q=>∃a b,x=.ref a/\nj K H a b/\∀p,H p=Z->Q (.ref p) (upd H p (.lst (BV b c d)))
def FW:FR X (ZA X.K):=by intro g s u H x v y w e f z Q I j t l k h;sleep 1;obtain⟨a,c,rfl,p,q⟩:=h;sleep 2;cases j;obtain⟨m,r,i,n⟩:=I.list p;have d:=r.length;refine{"list",_,slot_list_getitem.lookup,i.isList.typeIs,?_};refine wpAny_getItem_list_slice i.isList t l k .none (by simp) ?_ (by rw[aB]<;>omega);rw[xn,<-d];refine{.ref (zB s),_,I.laid (t':=s.toks) (o:=.lst (BV c e f)) (λb ob q=>af _ q) (aH _) ?_,rfl,q _ (I.ip.fresh (aH _))};exact{bJ (t6 c e f) n,_,0,(r.drop (HT.jZ c.length 0 e)).take (HT.jZ c.length c.length f - HT.jZ c.length 0 e),aG _ rfl}
def zW:i6 X (.builtin "len") (λxs H Q=>∃p b,xs=[.ref p]/\(nj X.K H p b\/pf X.K H p b)/\Q (.int b.length) H):=by
 intro g s k H xs l Q I r h;sleep 1;obtain⟨p,b,rfl,c,q⟩:=h;sleep 2;obtain⟨u,rfl,i⟩:=rh r;cases i;have m:=qL;rcases c with c|c
 .obtain⟨f,d,e,j⟩:=I.list c;have a:=d.length;exact Calls.call_len_list e.isList (by simp only[aB]<;>omega) {.int b.length,H,I.tok _,{s.toks+1,by rw[aB,a]},q}
 .obtain⟨f,d,e,j⟩:=I.tuple c;have a:=d.length;exact len_tuple e (by simp only[aB]<;>omega) {.int b.length,H,I.tok _,{s.toks+1,by rw[aB,a]},q}
def zY:i6 X (.builtin "len") (λxs H Q=>∃z,xs=[.str z]/\z.length<=sizeLine/\Q (.int z.length) H):=by intro a s b H xs c Q I r h;obtain⟨z,rfl,d,q⟩:=h;obtain⟨u,rfl,t,rfl⟩:=rh r;have e:=qL;exact len_str (by omega) {.int z.length,H,I.tok _,{_,rfl},q}
def i6.or{f:Value}{r e:List V->Hp->VK->Prop}(h:i6 X f r)(g:i6 X f e):i6 X f (λxs H Q=>r xs H Q\/e xs H Q):=by
 intro a s b H xs c Q I d q;rcases q with q|q
 .exact @h a s b H xs c Q I d q
 .exact @g a s b H xs c Q I d q
def z0:i6 X (.type "list") (λxs H Q=>∃p d,xs=[.ref p]/\(nj X.K H p d\/pf X.K H p d)/\∀l,H l=Z->Q (.ref l) (upd H l (.lst d))):=by
 intro i s C H xs E Q I r h;sleep 1;obtain⟨p,d,rfl,m,q⟩:=h;sleep 2;obtain⟨u,rfl,D⟩:=rh r;cases D;have v:∀(a:Lw),fv d a->d.length<=sizeLine->∀(c:Heap) (g:Nat),(∀b B,s.heap.get? b=Y B->c.get? b=Y B) ->
   c.get? (zB s)=Y { cls:=.type "list",dict:=Z,data:=.seq a.toArray g,slots:=#[] }->EP X i C Q (.ref (zB s)) { s with heap:=c }:=λa f k c g j e=>
  {.ref (zB s),_,I.laid (t':=s.toks) j (aH _) (show iS X.prog X.w _ c _ (.lst d) from {(k),a,g,f,e}),rfl,q _ (I.ip.fresh (aH _))}
 rcases m with m|m
 .obtain⟨a,f,x,k⟩:=I.list m;have t:=f.length;sleep 1;obtain⟨o,y,A,n,z⟩:=x.isList;sleep 2;exact call_list_seq p (.inl rfl) y A z (λc g j e=>v a f k c g j e) (by simp only[aB]<;>omega)
 .obtain⟨a,f,x,k⟩:=I.tuple m;have t:=f.length;sleep 1;obtain⟨o,y,A,n,z⟩:=x;sleep 2;exact call_list_seq p (.inr rfl) y A z (λc g j e=>v a f k c g j e) (by simp only[aB]<;>omega)
def ZC(K:Fg)(T:String)(x:V)(H:Hp):Prop:=match x with
 |.str _=>T="str"
 |.int _=>T="int"
 |.ref p=>(T="list"/\∃b,nj K H p b)\/(T="tuple"/\∃o,K.lookup p=Y o/\o.cls=.type "tuple"/\o.dict=Z) \/
   (T="dict"/\((∃a,H p=Y (.dK a))\/∃a,H p=Y (.dT a)))\/(T="set"/\∃S n,H p=Y (.set S n))
 |_=>False
def JC{T:String}{x:V}{v:Value}(I:c7 X pins σ H s)(r:gg x v)(f:ZC X.K T x H):
  s.TypeIs v T/\∀a,v=.ref a->∃l,s.heap.get? a=Y l/\l.dict=Z:=by
 cases x with
 |str z=>obtain⟨t,rfl⟩:=r;cases (show T="str" from f);exact{eC s z t,λ_ e=>nomatch e}
 |int i=>obtain⟨t,rfl⟩:=r;cases (show T="int" from f);exact{typeIs_int s i t,λ_ e=>nomatch e}
 |ref p=>
  cases r;rcases f with ⟨rfl,w,q⟩ | ⟨rfl,o,b,u,h⟩ | ⟨rfl,b⟩ | ⟨rfl,S,n,b⟩
  .obtain⟨m,_,k,_⟩:=I.list q;refine{k.isList.typeIs,λa e=>?_};cases e;sleep 1;obtain⟨o,n,e,c,h,_⟩:=k;sleep 2;exact{(o),e,h}
  .refine{{o,I.oj p o b,u},λa e=>?_};cases e;exact{o,I.oj _ o b,h}
  .have z:∃o,s.heap.get? p=Y o/\o.ExactDict:=by
    rcases b with ⟨g,b⟩ | ⟨g,b⟩
    .obtain⟨_,_,_,_,o,_,_,e,d,_⟩:=I.ip p _ b;exact{(o),e,d}
    .obtain⟨_,_,_,_,o,_,_,e,d,_⟩:=I.ip p _ b;exact{(o),e,d}
   obtain⟨o,e,d⟩:=z;refine{{o,e,d.1},λa j=>?_};cases j;exact{o,e,d.2.1}
  .obtain⟨o,_,_,_,e,d,_⟩:=I.ip p _ b;refine{{o,e,d.1},λa j=>?_};cases j;exact{o,e,d.2.1}
 |_=>exact False.elim f
def ZD(K:Fg)(T:String)(r:V->List V->Hp->VK->Prop)(c:TE):TE:=λb H Q=>c b H λx a=>ZC K T x a/\r x [] a Q
def tBM(K:Fg)(T:String)(r:V->List V->Hp->VK->Prop)(d:TE)(t:TA):TE:=λa H Q=>d a H λx b=>ZC K T x b/\t a b λc e=>r x c e Q
variable {o:Expr}{to:TE}{t:TA}{name:Str}{T id:String}{r:V->List V->Hp->VK->Prop}
def TB(m:PlainAttrs T) (d:Slot T name id) (e:typeOf (.builtin id)=pure (.type "method_descriptor")) (p:Rz X id r) (n:PE X o to)
  (c:zr0 (attributeBase o name X.env (eval o X.env)=eval o X.env)) (b:zr0 ((apos.endLine==gv.line)=true)):PE X (.Call (.Attribute o name apos) [] [] gv) (ZD X.K T r to):=by
 intro a s f H Q I h;refine wpAny_Call_method0_late c b (iu (@n a s f H _ I h) ?_);rintro v k ⟨x,u,i,g,j,l⟩;obtain⟨t,q⟩:=JC i g j;exact{T,id,m,d,e,t,q,dh rfl (PySem.evalArgs_none (@p a k f u x [] v [] Q i g .nil l))}
def yg(B:PlainAttrs T) (f:Slot T name id) (j:typeOf (.builtin id)=pure (.type "method_descriptor")) (E:Rz X id r) (D:PE X o to) (F:PA X (e::es) t)
  (d:zr0 (attributeBase o name X.env (eval o X.env)=eval o X.env))
  (g:((backTo gv (starEach (e::es) X.env)).all (λx=>!x.1)&&(backToKw gv (keywordEach [] X.env)).all (λx=>x.1.isSome)
  &&decide ((e::es).length+([]:List Keyword).length+(if ([]:List Keyword).isEmpty then 0 else 1)<30))=true:=by rfl)
  (c:zr0 ((apos.endLine==gv.line)=true)) (C:zr0 (zE e es X)) (b:zr0 ((backTo gv (starEach es X.env)).any (·.1)=false)):
  PE X (.Call (.Attribute o name apos) (e::es) [] gv) (tBM X.K T r to t):=by
 intro a s i H Q I h;refine wpAny_Call_method_late d g c rfl (iu (@D a s i H _ I h) ?_);rintro v w ⟨x,N,m,k,q,A⟩;obtain⟨J,G⟩:=JC m k q;refine{T,id,B,f,j,J,G,?_};have l:=@F gv a w i N _ m A;rw[C] at l ⊢;refine dh (by show (false||(backTo gv (starEach es X.env)).any (·.1))=false;rw[b]<;>rfl) (eK ?_);exact iu l <| by rintro p u ⟨n,M,L,y,z⟩;exact @E a u i M x n v p Q L k y z
end
def ZE(X:Cx)(b:String)(r:V->List V->Hp->VK->Prop):Prop :=
 ∀(a:Ax) (s:Shared) (σ:St) (H:Hp) (x:V) (xs:List V) (v:Value) (us:Lw) (Q:VK),c7 X a σ H s->gg x v->fv xs us->r x xs H Q ->
  (zw X) (call (.builtin b) (v::us)) (EP X a σ Q) X.xe s
def fv.one:∀{x:V}{a:Lw},fv [x] a->∃u,a=[u]/\gg x u
 |_,_,.cons r .nil=>{_,rfl,r}
def fv.zero:∀{a:Lw},fv [] a->a=[]
 |_,.nil=>rfl
theorem fv.dropLast{a:List V}{b:Lw}(h:fv a b):fv a.dropLast b.dropLast:=by
 induction h with
 |nil=>exact .nil
 |cons r t c=>
  cases t with
  |nil=>exact .nil
  |cons q d=>exact .cons r c
theorem fv.rep{a:List V}{b:Lw}(h:fv a b):∀k:Nat,fv (List.replicate k a).flatten (List.replicate k b).flatten
 |0=>.nil
 |k+1=>by rw[bK,bK,cT,cT];exact fv.append h (fv.rep h k)
def D0(l:List α):l.eraseIdx (l.length - 1)=l.dropLast:=by
 induction l with
 |nil=>rfl
 |cons a r c=>
  cases r with
  |nil=>rfl
  |cons b r=>
   have e:(a::b::r).length - 1=((b::r).length - 1)+1:=by have f:(a::b::r).length=r.length+2:=rfl;have d:(b::r).length=r.length+1:=rfl;omega
   rw[e,List.eraseIdx_cons_succ,c]
   all_goals rfl
theorem yh(a:Lw):∀(k:Nat) (acc:Lw),
  List.foldl (λx1 x2=>x1++x2) acc.toArray (List.replicate k a.toArray)=(acc++(List.replicate k a).flatten).toArray
 |0,acc=>by simp
 |k+1,acc=>by
  have e:acc.toArray++a.toArray=(acc++a).toArray:=by simp
  have b:(acc++a)++(List.replicate k a).flatten=acc++(List.replicate (k+1) a).flatten:=by rw[bK,cT,bb]
  rw[<-b,<-yh a k (acc++a),<-e,bK,List.foldl_cons]
section
variable {l b:Addr}{xs ys zs:List V}
def c7.TC{a its':Lw}{f:Array Value->Array Value}{b:Nat} (I:c7 X pins σ H s) (i:H l=Y (.lst xs))
  (e:s.heap.get? l=Y (zl a.toArray n)) (h:f a.toArray=its'.toArray) (d:fv ys its') (c:ys.length<=sizeLine):
  c7 X pins σ (upd H l (.lst ys)) { s with heap:=s.heap.update l (Obj.mapSeq f),toks:=b }:=by
 have q:=PySem.IsL.update e f;rw[h] at q;refine I.write (x:=l) (e:=l) (by rw[i];exact trivial) (.inl rfl) (λj u hb g=>(aT s.heap (Obj.mapSeq f) (Ne.symm hb)).trans g) {_,q} ?_;exact{(c),its',_,d,q}
def c7.TF{a:Lw}{t':Nat}(I:c7 X pins σ H s)(c:fv ys a)(b:ys.length<=sizeLine):
  c7 X pins σ (upd H (zB s) (.lst ys)) { s with heap:=s.heap.push { cls:=.type "list",data:=.seq a.toArray },toks:=t' } :=
 I.laid (λ_ _ q=>af _ q) (aH _) {b,a,0,c,aG _ rfl}
theorem c7.fresh(I:c7 X pins σ H s):H (zB s)=Z:=I.ip.fresh (aH _)
def c7.JD(I:c7 X pins σ H s)(b:H l=Y (.lst xs)):xs.length<=sizeLine/\∃(a:Lw) (n:Nat),fv xs a/\xs.length=a.length/\s.heap.get? l=Y (zl a.toArray n):=by sleep 1;obtain⟨z,a,n,r,e⟩:=I.ip l _ b;sleep 2;exact{z,a,n,r,r.length,e}
def BW(h:n<=sizeLine):Builtin.List.listTooLong n=false:=by unfold Builtin.List.listTooLong;exact aE (by omega)
end
section
def Oi:V->List V->Hp->VK->Prop:=λx b H Q=>∃l a y,x=.ref l/\b=[y]/\H l=Y (.lst a)/\a.length<sizeLine/\Q .lz (upd H l (.lst (a++[y])))
theorem yi:ZE X "list.append" Oi:=by intro b s i H x k v m Q I d f h;sleep 1;obtain⟨l,j,y,rfl,rfl,c,o,q⟩:=h;sleep 2;cases d;obtain⟨u,rfl,g⟩:=f.one;sleep 1;obtain⟨z,a,n,r,p,e⟩:=I.JD c;sleep 2;refine cW F.slot_list_append {_,e,rfl} F.entry_list_append (F.args_list_append_2 _ _) (PySem.list_append l a.toArray n u (by rw[aB];omega)) {e,?_};refine{.lz,_,I.TC (its':=a++[u]) c e (by simp) (r.append (.cons g .nil)) ?_,rfl,q};rw[az,List.length_singleton];omega
def Oj:V->List V->Hp->VK->Prop:=λx d H Q=>∃l b c a,x=.ref l/\d=[.ref b]/\H l=Y (.lst c)/\H b=Y (.lst a)/\c.length+a.length<=sizeLine/\Q .lz (upd H l (.lst (c++a)))
theorem HE:ZE X "list.extend" Oj:=by
 intro g s A H x E v G Q I j k h;sleep 1;obtain⟨l,b,D,B,rfl,rfl,i,w,J,q⟩:=h;sleep 2;cases j;obtain⟨u,rfl,m⟩:=k.one;cases m;sleep 1;obtain⟨z,c,n,r,K,e⟩:=I.JD i;sleep 2;sleep 1;obtain⟨C,a,p,o,t,y⟩:=I.JD w;sleep 2;have f:c.toArray.size+a.toArray.size<=sizeLine:=by rw[aB,aB];omega
 have d:¬ (!c.toArray.isEmpty&&Builtin.List.listTooLong (c.toArray.size+a.toArray.size))=true:=by rw[BW f,Bool.and_false];exact aV
 refine cW F.slot_list_extend {_,e,rfl} F.entry_list_extend (F.args_list_extend_2 _ _)
  (AutoSeq1.list_extend_list_list_0 l c.toArray n b a.toArray p d (by rw[aB];omega) (by omega)) {e,y,?_}
 refine{.lz,_,I.TC (its':=c++a) i e (by simp) (r.append o) ?_,rfl,q};rw[az];omega
def ZF:V->List V->Hp->VK->Prop:=λx b H Q=>∃l a y,x=.ref l/\b=[]/\H l=Y (.lst a)/\a[a.length - 1]?=Y y/\Q y (upd H l (.lst a.dropLast))
theorem TH:ZE X "list.pop" ZF:=by
 intro d s p H x w v A Q I g i h;sleep 1;obtain⟨l,t,y,rfl,rfl,f,k,q⟩:=h;sleep 2;cases g;have c:=i.zero;subst c;sleep 1;obtain⟨z,a,n,r,o,e⟩:=I.JD f;sleep 2;obtain⟨u,m,j⟩:=r.get k;have b:a.toArray[a.toArray.size - 1]?=Y u:=by show a.toArray[a.length - 1]?=Y u;rw[<-Array.getElem?_toList,<-o];exact m
 refine cW F.slot_list_pop {_,e,rfl} F.entry_list_pop (F.args_list_pop_1 _) (MeetsSeq.list_pop_last l a.toArray n u b (by rw[aB];omega)) {e,?_};refine{y,_,I.TC (its':=a.dropLast) f e ?_ r.dropLast ?_,j,q}
 .show a.toArray.eraseIdxIfInBounds (a.toArray.size - 1)=a.dropLast.toArray;rw[aB,List.eraseIdxIfInBounds_toArray,D0]
 .rw[List.length_dropLast];omega
def ZG:R2:=λx y H Q=>∃l k a,x=.ref l/\y=.int k/\H l=Y (.lst a)/\-(2 ^ 63)<=k/\k<2 ^ 63/\a.length*k.toNat<=sizeLine /\
 ∀p,H p=Z->Q (.ref p) (upd H p (.lst (List.replicate k.toNat a).flatten))
def Ol(a:List α)(k:Nat):(List.replicate k a).flatten.length=k*a.length:=by
 induction k with
 |zero=>simp
 |succ k b=>rw[bK,cT,az,b,Nat.succ_mul,Nat.add_comm]
theorem TJ:lu X (binaryOp .Mult) ZG:=by
 intro p s K H x y v u Q I B A h;sleep 1;obtain⟨l,k,L,rfl,rfl,D,G,E,w,q⟩:=h;sleep 2;cases B;obtain⟨t,rfl⟩:=A;sleep 1;obtain⟨z,b,n,r,C,e⟩:=I.JD D;sleep 2;have f:b.toArray.size*k.toNat<=sizeLine:=by rw[aB,<-C];exact w
 have i:¬ b.toArray.size*k.toNat > (2 ^ 63 - 1) / 8:=by
  have:(sizeLine:Nat)<=(2 ^ 63 - 1) / 8:=by decide
  omega
 have g:¬ (!Builtin.List.listFitsIndex k)=true:=by rw[fitsIndex_both G E];exact aV
 have c:¬ Builtin.List.listTooLong (b.toArray.size*k.toNat)=true:=by rw[BW f];exact aV
 have d:List.foldl (λo j=>o++j) #[] (List.replicate (if b.toArray.isEmpty=true then 0 else k.toNat) b.toArray)=(List.replicate k.toNat b).flatten.toArray:=by
  have J:∀m:Nat,List.foldl (λo j=>o++j) #[] (List.replicate m b.toArray)=(List.replicate m b).flatten.toArray:=λm=>by have:=yh b m [];rw[bO] at this;exact this
  rw[J];cases b with
  |nil=>simp
  |cons a M=>rw[aq (by simp)]
 refine wpAny_binaryOp_repeat_ref (T:="list") (U:="int") (by decide) {_,e,rfl} (λs'=>typeIs_int s' k t) noFill_list_mul F.fills_int_mul F.slot_int_rmul repeat_list F.slot_int_index.lookup
  (cW F.slot_int_rmul (typeIs_int s k t) F.entry_int_rmul (F.args_int_rmul_2 _ _) (int___rmul___int_list k t l b.toArray n)
   {e,rfl,{_,e,rfl},cW F.slot_list_mul {_,e,rfl} F.entry_list_mul (F.args_list_mul_2 _ _) (AutoListH.list___mul___list_int_3 l b.toArray n k t g i c) {e,?_}})
 rw[d];exact{.ref _,_,I.TF (t':=s.toks) (r.rep k.toNat) (by rw[Ol,Nat.mul_comm];exact w),rfl,q _ I.fresh}
end
section
variable {prog:Program}
end
end L2
namespace YW
open PySem PySem.W PySem.Calls PyProof.Rows
def uG{P:Params}:∀(c:List Int) (vs:Lw),WellAll P h vs (c.map WData.int)->IntsAre vs c:=by
 intro c;induction c with
 |nil=>intro vs w;rw[bL] at w;cases w;exact .nil
 |cons n c d=>
  intro vs w;rw[ae] at w;cases w with
  |cons a b=>cases a;exact .cons _ _ (d _ b)
def HF{l:OpenLaw} (x:l.most=Y n) {P:Params}{b:List WData}{e:Lw}
  (f:l.row.toRowW.claim.pre b=true) (m:WellAll P h e b):
  ∃a p c,e=[Value.ref a]/\b=[WData.list (c.map WData.int)]/\h.get? a=Y { cls:=.type "list",data:=.seq p.toArray }/\IntsAre p c/\c.length<=n:=by
 have o:WShape.hasAll [] b [.list .int]=true:=(pre_splitW f).1;have s:l.pre.holds [] { args:=b }=true:=(pre_splitW f).2;sleep 1;obtain⟨d,r,rfl,A,z⟩:=hasAllW_cons o;sleep 2;obtain rfl:=hasAllW_nil z;obtain⟨B,rfl,y⟩:=hasW_list A;obtain⟨c,rfl⟩:=items_int y;have g:c.length<=n:=by
  unfold OpenLaw.pre at s;have k:(WTm.not (.lt (.lit (zi n)) (.len (.arg 0)))).holds [] { args:=[.list (c.map .int)] }=true:=by have k:=(holds_andW s).1;rw[x] at k;exact k
  have j:=condW_of k (w_not (w_lt w_lit (w_len_list (w_arg rfl))));rw[ag] at j;refine eD λq=>?_;have v:(n:Int)<((c.length:Nat):Int):=by omega
  first
   | (rw[aW v] at j;exact absurd j (by decide))
   | (simp at j;omega)
 cases m with
 |cons u t=>
  cases t;cases u with
  |list w i=>exact{_,_,c,rfl,rfl,w,uG c _ i,g}
def HG(l:OpenLaw)(a:List WData):l.row.toRowW.claim.post a (.bool true) a=true :=
 postW_of (r:=l.row.toRowW) (X:=(true==true))
  (show WShape.has [] (.bool true) .bool=true by first|rfl|decide|simp[WShape.has,WShape.arms,WShape.armsAll])
  (show (WTm.eq .res (.lit (.bool true))).value [] { args:=a,res:=Y (.bool true),after:=a }=Y (.bool (true==true)) from w_eq_bool (w_res rfl) w_lit) rfl
section
variable {prog:Program}{K:Frag}
end
end YW
namespace L2
open PySem PySem.Spec PyProof.Rows
theorem yj:∀{a:Lw}{b:List Int},IntsAre a b->fv (b.map V.int) a
 |_,_,.nil=>.nil
 |_,_,.cons n t h=>.cons {(t),rfl} (yj h)
def WL(H:Hp):Prop:=∀b,H b=Z\/∃o a,H b=Y (.IX o (.lst a))
def JE{P:Program}{K:Fg}{O:Str->Ow}{CX:IY}{k:Nat}{U:Addr}{sp:Sp}{c:Shared}{l:Lw}{y:List Int}
  (KX:K.In c.heap) (D:c.heap.Ns mainGlobals mg) (g:c.heap.Ns builtinsNs O) (S:∀x:Str,x≠"__name__"->O x=bootBuiltins x) (E:c.heap.NoLimit) (hg:c.gens=#[])
  (M:c.heap.get? a=Y { cls:=.type "list",data:=.seq l.toArray }) (hi:IntsAre l y) (hl:y.length<=sizeLine) (hr:iq k callerA)
  (F:∀base:Heap,K.In base->base.Ns mainGlobals mg->kz P w K mg base CX k U fd [x] sp) (p:∀(s:Shared) (u:Value),BindsTo s fd {[u],[]} [(x,u)])
  (Q:∀H:Hp,WL H->nj K H a (y.map V.int)->sp [.ref a] H (λv _=>v=.bl true) λ_ _ _=>False)
  (T:∀H e s',CX [] H c (λ_ _ _=>False) e s'->False):
  codeAny (model P w) callerA (.call (.ref U) {[.ref a],[]}) (λr s'=>r=.ok (.ret (.bool true))/\OldK c.heap s'.heap/\s'.os=c.os/\AllBare s'.gens) c:=by
 have rv:=yj hi;have A:=hi.length;have j:∀H:Hp,WL H->nj K H a (y.map V.int)->oP P w H c.heap->(∀b,H b≠Z->b=a)->(H a≠Z->K.lookup a=Z) ->
   codeAny (model P w) callerA (.call (.ref U) {[.ref a],[]}) (λr s'=>r=.ok (.ret (.bool true))/\OldK c.heap s'.heap/\s'.os=c.os/\AllBare s'.gens) c:=by
  intro H hO hS C hA hK;have f:∀{b:Addr}{o:Obj},c.heap.get? b=Y o->H b=Z->(zr c.heap H).get? b=Y o:=λe n=>Je e n;have N:∀{b:Addr}{o:Obj}{I:Array DictEntry}{J:Nat},c.heap.get? b=Y o->o.data=.dict I J->H b=Z:=λ{b o I J} e d=>by
   cases q:H b with
   |none=>rfl
   |some u=>have W:b=a:=hA b (by rw[q];simp);subst W;rw[M] at e;cases e;have d':Data.seq l.toArray _=Data.dict I J:=d;cases d'
  have i:∀{b:Addr}{m:Str->Ow},c.heap.Ns b m->(zr c.heap H).Ns b m:=λ{b m} ⟨o,I,J,e,d,r⟩=>{o,I,J,f e (N e d),d,r}
  have G:K.In (zr c.heap H):=λb o e=>f (KX b o e) (by
   cases q:H b with
   |none=>rfl
   |some u=>have W:b=a:=hA b (by rw[q];simp);subst W;rw[hK (by rw[q];simp)] at e;cases e)
  have hM:Mod K mg (zr c.heap H):={G,i D,{O,i g,S},by obtain⟨mc,h1,h2⟩:=E;exact{mc,i h1,h2}}
  have e0:zJ P w K mg (zr c.heap H) callerA [] c H:={rfl,hM,λb o e=>NW e,Nat.le_of_eq (Ho _ _),trivial,λb g=>absurd (show b∈([]:List Addr) from g) (by simp),C,.of_eq hg}
  refine cO ((F _ G (i D)).run callerA [] c H {[.ref a],[]} [.ref a] [.ref a] _ _ hr e0 (p c (.ref a)) (.cons rfl .nil) (Q H hO hS)) λr s' h=>?_;cases r with
  |error e=>exact(T H e s' h).elim
  |ok fl=>
   cases fl with
   |next=>exact False.elim h
   |brk=>exact False.elim h
   |cont=>exact False.elim h
   |ret u=>
    sleep 1;obtain⟨v,H',os,L,X,B,r',q⟩:=h;sleep 2;have q':v=.bl true:=q;subst q';obtain rfl:u=Value.bool true:=r';refine{rfl,OldK.of_keep λb o e=>?_,os,L};cases q:H b with
    |none=>exact X.keep b o e q (by intro z;exact absurd (show b∈([]:List Addr) from z) (by simp)) (by simp)
    |some u=>
     rcases hO b with z | ⟨ob,xs,z⟩
     .rw[q] at z;cases z
     .have z2:=X.oZ b ob _ z;obtain⟨e1,_⟩:=C b _ z;obtain⟨e2,_⟩:=B b _ z2;rw[e] at e1;cases e1;exact e2
 cases R:K.lookup a with
 |some o=>have e:=KX a o R;rw[M] at e;cases e;refine j (λ_=>Z) (λ_=>.inl rfl) (.inr {_,l.toArray,_,R,rfl,rfl,rfl,by rw[aB,A];exact hl,by simpa using rv}) (λb u z=>by have t:(Z:Option HO)=Y u:=z;cases t) (λb z=>absurd rfl z) λz=>absurd rfl z
 |none=>
  refine j (λb=>if b=a then Y (.IX { cls:=.type "list",data:=.seq l.toArray } (.lst (y.map V.int))) else Z) (λb=>?_) (.inl (.inr {{ cls:=.type "list",data:=.seq l.toArray },ai rfl})) (λb u z=>?_) (λb z=>?_) λ_=>R
  .by_cases g:b=a
   .exact .inr {_,_,ai g}
   .exact .inl (aq g)
  .by_cases g:b=a
   .have t:=(ai g).symm.trans z;cases t;subst g;exact{M,by rw[ag];exact hl,l,_,rv,M}
   .have t:=(aq g).symm.trans z;cases t
  .by_cases g:b=a
   .exact g
   .exact absurd (aq g) z
def qe(s:Stmt)(j:Nat):Stmt:=match s with
 |.ClassDef _ _ _ body _ _ _ _ _ _ _=>body.getD j (.Pass {(0),0,0,0})
 |_=>.Pass {(0),0,0,0}
def l7(s:Stmt):Arguments:=match s with
 |.FunctionDef _ a _ _ _ _ _ _ _ _=>a
 |_=>{ posonlyargs:=[],args:=[],vararg:=Z,kwonlyargs:=[],kw_defaults:=[],kwarg:=Z,defaults:=[] }
def ie(s:Stmt):List Stmt:=match s with
 |.FunctionDef _ _ b _ _ _ _ _ _ _=>b
 |_=>[]
def bD(s:Stmt):Scope:=match s with
 |.FunctionDef _ _ _ _ _ _ sc _ _ _=>sc
 |_=>{ kind:=.function,names:=[],isGenerator:=false,isCoroutine:=false }
abbrev xf:IY:=λ_ _ _ _ _ _=>False
abbrev E0:XK:=λ_ _ _=>False
def qA:oo xf X E0:=λ_ _ _ _ _ _ _ h=>h.elim
structure DH (K:Fg) (x qual:Str) (st:Stmt) (f:Addr) (fd:FuncData):Prop where
 ex:∃(oc:Value) (od:Option Addr) (kV doc pm:Value) (an:Option Addr) (qf ct:Value) (Q':Array Ow),
  fd=W.fnOf x qual (l7 st) (ie st) (bD st) .none kV doc pm an qf ct/\K.lookup f=Y {oc,od,.func fd,Q'}/\W.codeIn K qf qual=true
 kp:W.keepIn K (.ref f)=true
section
variable {P:Program}{K:Fg}
theorem DH.ok{a:Str}{f:Addr}{N:Lr}{k:Nat}{c:Sp} (F:DH K x a st f fd) (S:iT N ps (bD st)) (d:∀vs H Q E,c vs H Q E->vs.length=ps.length)
  (b:∀(qf:Value) (A:Around) (outer:List Env) (s:Shared) (H:Hp) (vs:List V) (Q:VK) (E:XK),iq k (A.deeper (envOfC a (bD st) (zB s) f qf))->c vs H Q E ->
   ∃t,xb (sP xf P w K mg base N a (bD st) f qf A outer s H E).Rp (ie st) t/\t { nx:=λ_ H'=>Q .lz H',rt:=Q } (lS N vs) H):kz P w K mg base xf (k+1) f fd ps c:=by
 sleep 1;obtain⟨p,o,r,m,n,v,qf,u,i,rfl,j,g⟩:=F.ex;sleep 2;refine Ry j g S d λA outer s H vs Q E l e=>?_;obtain⟨t,h,q⟩:=b qf A outer s H vs Q E l e;exact{t,h.Rp,q}
theorem DH.binds{a:Str}{f:Addr} (F:DH K x a st f fd)
  (h:∀(kV doc pm:Value) (an:Option Addr) (qf ct:Value) (us:Lw),us.length=ps.length->bindArgs (W.fnOf x a (l7 st) (ie st) (bD st) .none kV doc pm an qf ct) {us,[]}=pure (ps.zip us)):jK K fd ps []:=by
 sleep 1;obtain⟨e,d,kV,doc,pm,an,qf,ct,b,rfl,g,c⟩:=F.ex;sleep 2;exact .all (h kV doc pm an qf ct)
def z4{a:Str}{f:Addr}{n:Value}{m j:Option Addr}{e:Array Ow}{h d g b i:Value} (l:K.lookup f=Y {n,m,.func (W.fnOf x a (l7 st) (ie st) (bD st) .none h d g j b i),e})
  (c:W.codeIn K b a=true) (k:W.keepIn K (.ref f)=true):DH K x a st f (W.fnOf x a (l7 st) (ie st) (bD st) .none h d g j b i):={{(n),m,h,d,g,j,b,i,e,rfl,l,c},k}
end
def dV(H H':Hp):Prop:=∀b o,H b=Y o->H' b=Y o
def dV.refl(H:Hp):dV H H:=λ_ _ h=>h
def dV.trans{e d:Hp}(a:dV H e)(b:dV e d):dV H d:=λc o h=>b c o (a c o h)
def dV.seq{K:Fg}{b:List V}(e:dV H H')(h:nj K H a b):nj K H' a b:=by
 rcases h with (h | ⟨o,h⟩)|h
 .exact .inl (.inl (e _ _ h))
 .exact .inl (.inr {o,e _ _ h})
 .exact .inr h
section
variable {κ:Type} [DecidableEq κ]
def nO(a:List (κ×V))(k:κ):Option V:=(a.find? λb=>decide (b.1=k)).map (·.2)
def o2(a:List (κ×V))(k:κ)(v:V):List (κ×V) :=
 if (a.any λb=>decide (b.1=k))=true then a.map (λb=>if b.1=k then (b.1,v) else b) else a++[(k,v)]
def rk{p:κ×V}{r:List (κ×V)}{k:κ}(e:p.1=k):nO (p::r) k=Y p.2:=by simp[nO,cf,e]
def pw{p:κ×V}{r:List (κ×V)}{k:κ}(e:¬ p.1=k):nO (p::r) k=nO r k:=by simp[nO,cf,e]
theorem BX(k:κ):∀a:List (κ×V),(a.any λb=>decide (b.1=k))=(nO a k).isSome
 |[]=>rfl
 |p::r=>by
  rw[bX];by_cases e:p.1=k
  .simp only[rk e,aW e,Bool.true_or,Option.isSome_some]
  .rw[pw e,aE e,Bool.false_or];exact BX k r
def pA(a:List (κ×V))(k:κ)(v:V):(o2 a k v).length<=a.length+1:=by
 unfold o2;split
 .rw[ag];omega
 .rw[az,ax,dn];omega
def oY.nP{o:Option V}{u:Ow}(r:oY o u):o.isSome=u.isSome:=by
 cases o with
 |none=>cases u with
  |none=>rfl
  |some _=>exact(show False from r).elim
 |some _=>cases u with
  |none=>exact(show False from r).elim
  |some _=>rfl
theorem oY.getD{o:Option V}{u:Ow}{d:V}{a:Value}(r:oY o u)(b:gg d a):gg (o.getD d) (u.getD a):=by
 cases o with
 |none=>cases u with
  |none=>exact b
  |some _=>exact(show False from r).elim
 |some _=>cases u with
  |none=>exact(show False from r).elim
  |some _=>exact r
def KV.val{a:List (κ×V)}{f:List (κ×Value)}(r:KV a f)(k:κ):oY (nO a k) (valueAt f k):=by
 unfold KV at r;induction r with
 |nil=>exact aY
 |@cons p q l c h t i=>
  obtain⟨g,j⟩:=h;by_cases e:p.1=k
  .have d:q.1=k:=g.symm.trans e;have b:valueAt (q::c) k=Y q.2:=by simp[valueAt,cf,d]
   rw[rk e,b];exact j
  .have d:¬ q.1=k:=λz=>e (g.trans z);have b:valueAt (q::c) k=valueAt c k:=by simp[valueAt,cf,d]
   rw[pw e,b];exact i
theorem KV.any{a:List (κ×V)}{vs:List (κ×Value)}(r:KV a vs)(k:κ):(a.any λb=>decide (b.1=k))=vs.any λb=>decide (b.1=k):=by
 unfold KV at r;induction r with
 |nil=>rfl
 |cons h t c=>rw[bX,bX,c,h.1]
def KV.D1{b:List (κ×V)}{d:List (κ×Value)}(r:KV b d)(k:κ){y:V}(f:gg y u):
  KV (b.map λa=>if a.1=k then (a.1,y) else a) (d.map λa=>if a.1=k then (a.1,u) else a):=by
 unfold KV at r ⊢;induction r with
 |nil=>exact .nil
 |@cons p q l j h t g=>
  rw[ae,ae];refine .cons ?_ g;obtain⟨c,i⟩:=h;by_cases e:p.1=k
  .rw[ai e,ai (c.symm.trans e)];exact{(c),f}
  .rw[aq e,aq (λz=>e (c.trans z))];exact{(c),i}
def KV.put{a:List (κ×V)}{b:List (κ×Value)}(r:KV a b)(k:κ){y:V}(c:gg y u):KV (o2 a k y) (stored b k u):=by
 unfold o2 stored;rw[r.any k];by_cases e:(b.any λd=>decide (d.1=k))=true
 .rw[ai e,ai e];exact r.D1 k c
 .rw[aq e,aq e];exact Paired.snoc r {(rfl),c}
theorem KV.length{a:List (κ×V)}{vs:List (κ×Value)}(r:KV a vs):a.length=vs.length:=fy r
end
def pB{P:Program}{k:Key}(r:gg (kV k) u):(gI P w).is k u=true:=by
 cases k with
 |inl i=>obtain⟨t,e⟩:=(show ∃t,u=Value.int i t from r);subst e;exact BI P w i t
 |inr x=>obtain⟨t,e⟩:=(show ∃t,u=Value.str x t from r);subst e;exact o9 P w x t
theorem yk{P:Program}{w:World}:∀{a:List Key}{b:Lw},fv (a.map kV) b->ItemsAre (gI P w) a b
 |[],_,r=>by rw[bL] at r;cases r;exact .nil
 |k::a,_,r=>by
  rw[ae] at r;cases r with
  |cons h t=>exact .cons (pB h) (yk t)
abbrev KT(H:Hp):List (List Key×V)->List (List Key×Addr×Value)->Prop:=Paired λp q=>p.1=q.1/\H q.2.1=Y (.tup (p.1.map kV))/\gg p.2 q.2.2
def KT.val{a:List (List Key×V)}(r:KT H a xs)(k:List Key):oY (nO a k) ((atKey xs k).map (·.2)):=by
 induction r with
 |nil=>exact aY
 |@cons p q j c h t g=>
  obtain⟨f,_,i⟩:=h;by_cases e:p.1=k
  .have d:q.1=k:=f.symm.trans e;have b:atKey (q::c) k=Y q.2:=by simp[atKey,cf,d]
   rw[rk e,b];exact i
  .have d:¬ q.1=k:=λz=>e (f.trans z);have b:atKey (q::c) k=atKey c k:=by simp[atKey,cf,d]
   rw[pw e,b];exact g
def KT.D1{a:List (List Key×V)}(r:KT H a xs)(k:List Key){y:V}(f:gg y u):
  KT H (a.map λc=>if c.1=k then (c.1,y) else c) (xs.map (putAt k u)):=by
 induction r with
 |nil=>exact .nil
 |@cons p q l j h t g=>
  rw[ae,ae];refine .cons ?_ g;obtain⟨b,d,i⟩:=h;unfold putAt;by_cases e:p.1=k
  .rw[ai e,ai (b.symm.trans e)];exact{(b),d,f}
  .rw[aq e,aq (λz=>e (b.trans z))];exact{(b),d,i}
def KT.put{a:List (List Key×V)}(r:KT H a xs)(k:List Key){b:Addr}{y:V}(f:H b=Y (.tup (k.map kV)))(c:gg y u):
  KT H (o2 a k y) (storedH xs k b u):=by
 have e:(a.any λd=>decide (d.1=k))=(atKey xs k).isSome:=by rw[BX,(r.val k).nP,fu]
 unfold o2 storedH;rw[e];by_cases q:(atKey xs k).isSome=true
 .rw[ai q,ai q];exact r.D1 k c
 .rw[aq q,aq q];exact Paired.snoc r {(rfl),f,c}
def KT.keeps{a:List (List Key×V)}(r:KT H a xs)(c:∀b ys,H b=Y (.tup ys)->H' b=Y (.tup ys)):KT H' a xs :=
 Paired.SX r λ_ _ z=>{z.1,c _ _ z.2.1,z.2.2}
section
variable {P:Program}
def RB{u:HO}(b:oP P w H h)(e:Rd H a u):iS P w H h a u:=e.ok b
def rm{b:List (Key×V)}(d:oP P w H h)(e:Rd H a (.dK b)):b.length<=sizeLine/\(a==sysModules)=false/\∃c,KV b c/\h.DictOf (gI P w) a c :=
 show iS P w H h a (.dK b) from RB d e
def rn{b:List (Key×V)}(d:oP P w H h)(e:H a=Y (.dK b)):b.length<=sizeLine/\(a==sysModules)=false/\∃c,KV b c/\h.DictOf (gI P w) a c:=rm d (.inl e)
def sQ{b:List Key}(d:oP P w H h)(e:H a=Y (.tup (b.map kV))):(tupleKind (gI P w)).is h b a:=by
 sleep 1;obtain⟨_,c,r,o,i,g,n,f⟩:=(show iS P w H h a (.tup (b.map kV)) from d a _ e);sleep 2
 exact{o,c.toArray,n,i,g,f,by simpa using yk r}
def vm{b:List (List Key×V)}(g:oP P w H h)(e:Rd H a (.dT b)):b.length<=sizeLine/\(a==sysModules)=false /\
  ∃d,KT H b d/\h.DictOfH (tupleKind (gI P w)) a d:=by
 sleep 1;obtain⟨z,y,d,r,o,A,B,v,u,s,n,k⟩:=(show iS P w H h a (.dT b) from RB g e);sleep 2
 refine{z,y,d,r,o,A,B,v,u,s,n,λx c=>?_,k};have f:∀{l:List (List Key×V)}{m:List (List Key×Addr×Value)},KT H l m->∀x∈m,(tupleKind (gI P w)).is h x.1 x.2.1:=by
  intro l m q;induction q with
  |nil=>intro x c;exact nomatch c
  |@cons p q D C i t j=>
   intro x c;rcases ah.mp c with e|c
   .subst e;exact sQ g (by rw[<-i.1];exact i.2.1)
   .exact j x c
 exact f r x c
def WM{b:List (List Key×V)}(d:oP P w H h)(e:H a=Y (.dT b)):b.length<=sizeLine/\(a==sysModules)=false /\
  ∃c,KT H b c/\h.DictOfH (tupleKind (gI P w)) a c:=vm d (.inl e)
end
def qv(H:Hp)(a:Addr)(y:V)(r:Option V):Prop :=
 (∃c k,Rd H a (.dK c)/\y=kV k/\r=nO c k)\/∃c k b,Rd H a (.dT c)/\y=.ref b/\H b=Y (.tup (k.map kV))/\r=nO c k
def Om(H:Hp)(a:Addr)(y v:V)(d:Hp):Prop :=
 (∃c k,H a=Y (.dK c)/\y=kV k/\c.length<sizeLine/\d=upd H a (.dK (o2 c k v))) \/
 ∃c k b,H a=Y (.dT c)/\y=.ref b/\H b=Y (.tup (k.map kV))/\c.length<sizeLine/\d=upd H a (.dT (o2 c k v))
theorem qv.k{H:Hp}{a:Addr}{b:List (Key×V)}{k:Key}(e:H a=Y (.dK b)):qv H a (kV k) (nO b k):=.inl {b,k,.inl e,rfl,rfl}
theorem Om.k{H:Hp}{a:Addr}{b:List (Key×V)}{k:Key}{v:V}(e:H a=Y (.dK b))(c:b.length<sizeLine):Om H a (kV k) v (upd H a (.dK (o2 b k v))):=.inl {(b),k,e,rfl,c,rfl}
section
variable {y:V}{r:Value}{o:Option V}
def c7.big(I:c7 X pins σ H s):sysModules<(zB s):=by have h:mainGlobals<(zB s):=(I.mod.glob.keeps I.bk).lt;exact eY (by decide) h
def HH{Q:Px}(t:A.units+1<cLine)(I:c7 X pins σ H s)(g:qv H a y (Y v))(n:gg y u)(h:∀w' s',c7 X pins σ H s'->gg v w'->Q w' s'):
  wpAny (model X.prog X.w) A (getItem (.ref a) u) Q E s:=by
 rcases g with ⟨f,k,e,j,l⟩ | ⟨f,k,b,e,j,C,l⟩
 .subst j;sleep 1;obtain⟨z,B,r,d,m⟩:=rm I.ip e;sleep 2;obtain⟨w',hw,c⟩:=oY.some_of (v:=v) (o:=valueAt r k) (by rw[l];exact d.val k);exact wpAny_getItem_of (pB n) m.mapOf hw (h w' _ (I.tok _) c)
 .subst j;cases (show u=Value.ref b from n);sleep 1;obtain⟨z,B,q,d,m⟩:=vm I.ip e;sleep 2;obtain⟨w',hw,c⟩:=oY.some_of (v:=v) (o:=(atKey q k).map (·.2)) (by rw[l];exact d.val k);obtain⟨p,x,i⟩:=aj.mp hw;refine wpAny_getItem_heap (dk t) (sQ I.ip C) m x ?_;rw[i];exact h w' _ (I.tok _) c
def ZH{Q:Px}(n:A.units+1<cLine)(I:c7 X pins σ H s)(g:qv H a y o)(m:gg y u)(h:∀s',c7 X pins σ H s'->Q (.bool o.isSome) s'):
  wpAny (model X.prog X.w) A (compareOp .In u (.ref a)) Q E s:=by
 rcases g with ⟨d,k,e,i,l⟩ | ⟨d,k,b,e,i,p,l⟩
 .subst i;sleep 1;obtain⟨z,f,t,c,j⟩:=rm I.ip e;sleep 2;refine wpAny_in_of (pB m) f j.mapOf ?_;rw[<-(c.val k).nP,<-l];exact h _ (I.tok _)
 .subst i;cases (show u=Value.ref b from m);sleep 1;obtain⟨z,f,r,c,j⟩:=vm I.ip e;sleep 2;refine wpAny_in_heap (dk n) (sQ I.ip p) f j ?_;have q:=(c.val k).nP;rw[fu] at q;rw[<-q,<-l];exact h _ (I.tok _)
def Oo{Q:Px}(n:A.units+1<cLine)(I:c7 X pins σ H s)(g:qv H a y o)(m:gg y u)(h:∀s',c7 X pins σ H s'->Q (.bool (!o.isSome)) s'):
  wpAny (model X.prog X.w) A (compareOp .NotIn u (.ref a)) Q E s:=by
 rcases g with ⟨d,k,e,i,l⟩ | ⟨d,k,b,e,i,p,l⟩
 .subst i;sleep 1;obtain⟨z,f,t,c,j⟩:=rm I.ip e;sleep 2;refine wpAny_notIn_of (pB m) f j.mapOf ?_;rw[<-(c.val k).nP,<-l];exact h _ (I.tok _)
 .subst i;cases (show u=Value.ref b from m);sleep 1;obtain⟨z,f,r,c,j⟩:=vm I.ip e;sleep 2;refine wpAny_notIn_heap (dk n) (sQ I.ip p) f j ?_;have q:=(c.val k).nP;rw[fu] at q;rw[<-q,<-l];exact h _ (I.tok _)
def FX{c:Heap}{g:Nat}{d:HO}(I:c7 X pins σ H s)(h:We (H a))(i:Heap.SameBut a s.heap c)(j:∃q,c.get? a=Y q)(f:iS X.prog X.w (upd H a d) c a d):
  c7 X pins σ (upd H a d) { s with heap:=c,toks:=g } :=
 I.write (x:=a) (e:=a) h (.inl rfl) (λb q hb z=>(i.2 b hb).trans z) j f
def JF{P:Program}{e:Heap}{b:List (Key×V)}{c:List (Key×Value)}(z:b.length<=sizeLine)(f:(a==sysModules)=false)(d:KV b c)(g:e.DictOf (gI P w) a c):
  iS P w H' e a (.dK b):={(z),f,c,d,g}
theorem HJ{Q:Unit->Shared->Prop}(M:A.units+1<cLine)(I:c7 X pins σ H s)(g:Om H a y v H')(C:gg y u)(D:gg v r)(h:∀s',c7 X pins σ H' s'->Q () s'):
  wpAny (model X.prog X.w) A (setItem (.ref a) u r) Q E s:=by
 rcases g with ⟨f,k,e,t,l,x⟩ | ⟨f,k,b,e,t,J,l,x⟩
 .subst t x;sleep 1;obtain⟨z,p,L,d,B⟩:=rn I.ip e;sleep 2;have m:L.length<=sizeLine:=by rw[<-d.length];exact z
  have o:(o2 f k v).length<=sizeLine:=by have:=pA f k v;omega
  refine wpAny_setItem_pairs (hsz:=m) (pB C) B λF i n=>h _ ?_;have N:∃q,F.get? a=Y q:=by sleep 1;obtain⟨q,_,_,j,_⟩:=i;sleep 2;exact{(q),j}
  exact FX I (by rw[e];exact aY) n N (JF o p (d.put k D) i)
 .subst t x;cases (show u=Value.ref b from C);sleep 1;obtain⟨z,p,K,d,B⟩:=WM I.ip e;sleep 2;have m:K.length<=sizeLine:=by rw[<-fy d];exact z
  have o:(o2 f k v).length<=sizeLine:=by have:=pA f k v;omega
  refine wpAny_setItem_heap (hsz:=m) (dk M) (sQ I.ip J) B λF i n=>h _ ?_;sleep 1;obtain⟨q,T,U,j,S,R,P,_,O⟩:=i;sleep 2;refine FX I (by rw[e];exact aY) n {(q),j} {o,p,_,(d.put k J D).keeps λc V G=>?_,q,T,U,j,S,R,P,O};rw[c8 (Wd G e (λz=>nomatch z))];exact G
end
section
variable {jG:List (Key×V)}{k:Key}
def WN{Q:Px}(I:c7 X pins σ H s)(e:Rd H a (.dK jG))(h:∀t s',c7 X pins σ H s'->Q (.int jG.length t) s'):wpAny (model X.prog X.w) A (call (.builtin "len") [.ref a]) Q E s:=by sleep 1;obtain⟨z,c,f,b,d⟩:=rm I.ip e;sleep 2;refine call_len_dict c d (by rw[<-b.length];rw[sizeLine_eq] at z;omega) ?_;rw[<-b.length];exact h _ _ (I.tok _)
end
def D2(i:Expr):Prop:=∀a b,subscripted i false a b=operate [a,b] (getItem a b)
def FY{a:Program}{g:Env}{c b:Expr}{T m:String}{Q:Px}
  (p:typeLookup (.type T) "__getitem__"=pure (Y (.builtin m))) (n:D2 b)
  (h:wpAny (model a w) A (eval c g) (λo s₁=>wpAny (model a w) A (eval b g) (λi pq=>pq.TypeIs o T/\wpAny (model a w) A (getItem o i) Q E pq) E s₁) E s):
  wpAny (model a w) A (eval (.Subscript c b pos) g) Q E s:=by
 refine Subscript_ (bM h (λo s₁ k=>bM k (λi pq d=>?_) λ_ _ x=>x) λ_ _ x=>x);obtain⟨l,d⟩:=d;unfold subscriptTail;refine aa ?_;rw[getitemInPython_of_ne l.not_modules];refine aa (eO l p ?_);have f:wpAny (model a w) A (subscripted b false o i) (λr e=>wpAny (model a w) A (letTemporaryGo c o r>>=λ_=>pure r) Q E e) E pq:=by rw[n o i];exact wpAny_operating (bM d (λr e j=>aa (wpAny_letTemporaryGo (ak j))) λ_ _ x=>x)
 first
  |exact ak (aa f)
  |exact aa (ak (aa f))
  |exact aa f
def BY{y:V}{o:Option V}(I:c7 X pins σ H s)(g:qv H a y o):s.TypeIs (.ref a) "dict":=by
 rcases g with ⟨c,k,e,_,_⟩ | ⟨c,k,b,e,_,_,_⟩
 .obtain⟨_,_,h,_,d⟩:=rm I.ip e;exact d.typeIs
 .obtain⟨_,_,f,_,d⟩:=vm I.ip e;exact d.typeIs
def WO(e d:TE):TE:=λb H Q=>e b H λx f=>d b f λy c=>∃a v,x=.ref a/\qv c a y (Y v)/\Q v c
section
variable {o i value:Expr}{pos' Zw:Pos}{td ty tv:TE}
def FZ(n:X.A.units+1<cLine)(q:PE X o td)(r:PE X i ty)(p:D2 i):PE X (.Subscript o i pos) (WO td ty):=by intro b s d H Q I h;refine FY PySem.F.slot_dict_getitem.lookup p (iu (@q b s d H _ I h) ?_);rintro u f ⟨x,C,z,k,m⟩;refine iu (@r b f d C _ z m) ?_;rintro J G ⟨y,B,e,j,a,v,t,g,l⟩;subst t;obtain rfl:u=Value.ref a:=k;exact{BY e g,HH n e g j λD E w c=>{(v),B,w,c,l}}
end
def JG{P:Program}(h:Heap)(a:sysModules<h.objs.size):iS P w H (h.push { cls:=.type "dict",data:=.dict #[] }) h.objs.size (.dK []) :=
 {eJ _,aF.mpr (Ne.symm (aR a)),[],.nil,Heap.DictOf.new h}
def TK:TE:=λ_ H Q=>∀p,H p=Z->Q (.ref p) (upd H p (.dK []))
section
def JH:PE X (.Dict [] [] pos) TK:=λb s c H Q I h=>
 wpAny_Dict_empty {.ref (zB s),_,I.laid (a:=(zB s)) (o:=.dK []) (t':=s.toks) (λ_ _ q=>af _ q) (aH _) (JG s.heap I.big),rfl,h _ (I.ip.fresh (aH _))}
end
structure M1 (X:Cx) (o:Expr) (m:Str) (apos:Pos) (e:Expr) (gv:Pos):Prop where
 base:attributeBase o m X.env (eval o X.env)=eval o X.env
 ZI:((backTo gv (starEach [e] X.env)).all (λx=>!x.1)&&(backToKw gv (keywordEach [] X.env)).all (λx=>x.1.isSome)
 &&decide (([e]:Lx).length+([]:List Keyword).length+(if ([]:List Keyword).isEmpty then 0 else 1)<30))=true
 line:(apos.endLine==gv.line)=true
 trees:backTo gv (starEach [e] X.env)=[(false,eval e X.env)]
structure M2 (X:Cx) (o:Expr) (m:Str) (apos:Pos) (e f:Expr) (gv:Pos):Prop where
 base:attributeBase o m X.env (eval o X.env)=eval o X.env
 ZI:((backTo gv (starEach [e,f] X.env)).all (λx=>!x.1)&&(backToKw gv (keywordEach [] X.env)).all (λx=>x.1.isSome)
 &&decide (([e,f]:Lx).length+([]:List Keyword).length+(if ([]:List Keyword).isEmpty then 0 else 1)<30))=true
 line:(apos.endLine==gv.line)=true
 trees:backTo gv (starEach [e,f] X.env)=[(false,eval e X.env),(false,eval f X.env)]
def RC(H:Hp)(a:Addr):Prop:=(∃b,Rd H a (.dK b))\/∃b,Rd H a (.dT b)
def JI(I:c7 X pins σ H s)(d:RC H a):
  s.TypeIs (.ref a) "dict"/\(∀b,Value.ref a=.ref b->∃c,s.heap.get? b=Y c/\c.dict=Z)/\(a==sysModules)=false:=by
 rcases d with ⟨g,e⟩ | ⟨g,e⟩
 .obtain⟨_,h,l,_,f⟩:=rm I.ip e;refine{f.typeIs,λb q=>?_,h};cases q;sleep 1;obtain⟨c,_,_,j,i,_⟩:=f;sleep 2;exact{c,j,i.2.1}
 .obtain⟨_,h,k,_,f⟩:=vm I.ip e;refine{f.typeIs,λb q=>?_,h};cases q;sleep 1;obtain⟨c,_,_,j,i,_⟩:=f;sleep 2;exact{c,j,i.2.1}
section
variable {y d:V}{r:Value}{o:Option V}
def TL{Q:Px}(p:A.units+1<cLine)(I:c7 X pins σ H s)(g:qv H a y o)(m:gg y u)(h:∀w' s',c7 X pins σ H s'->gg (o.getD .lz) w'->Q w' s'):
  wpAny (model X.prog X.w) A (call (.builtin "dict.get") [.ref a,u]) Q E s:=by
 rcases g with ⟨f,k,e,j,l⟩ | ⟨f,k,b,e,j,q,l⟩
 .subst j;sleep 1;obtain⟨z,i,r,c,d⟩:=rm I.ip e;sleep 2;refine call_meetsIn cH d.typeIs dS (dN _ _) (meets_dict_get (gI X.prog X.w) a (pB m) i) {_,d.mapOf,h _ _ (I.tok _) ?_};rw[l];exact(c.val k).getD rfl
 .subst j;cases (show u=Value.ref b from m);sleep 1;obtain⟨z,i,n,c,d⟩:=vm I.ip e;sleep 2;refine call_meetsIn cH d.typeIs dS (dN _ _) (meetsH_dict_get (tupleKind (gI X.prog X.w)) a b i) {dk p,k,n,sQ I.ip q,d,h _ _ (I.tok _) ?_};rw[l];exact(c.val k).getD rfl
end
def TM(f e:TE):TE:=λb H Q=>f b H λx d=>∃a,x=.ref a/\RC d a/\e b d λy c=>∃o,qv c a y o/\Q (o.getD .lz) c
section
variable {o f:Expr}{td ty tx:TE}
def JK(t:X.A.units+1<cLine)(v:PE X o td)(w:PE X e ty)(m:M1 X o "get" apos e gv):PE X (.Call (.Attribute o "get" apos) [e] [] gv) (TM td ty):=by intro b s f H Q I h;refine wpAny_Call_method m.base m.ZI m.line fC cH fM (iu (@v b s f H _ I h) ?_);rintro u l ⟨x,E,i,p,a,z,d,r⟩;subst z;obtain rfl:u=Value.ref a:=p;obtain⟨k,j,_⟩:=JI i d;refine{k,j,?_};rw[m.trees];refine dh rfl (eK (bT (iu (@w b l f E _ i r) ?_)));rintro L J ⟨y,D,C,n,K,g,q⟩;refine cg ?_;exact TL t C g n λF G B c=>{_,D,B,c,q}
end
section
variable {jG:List (Key×V)}
end
section
variable {y:V}
end
section
def HK:i6 X (.builtin "len") (λxs H Q=>∃a b,xs=[V.ref a]/\Rd H a (.dK b)/\Q (.int b.length) H):=by intro c s g H xs i Q I r h;sleep 1;obtain⟨a,b,rfl,e,q⟩:=h;sleep 2;obtain⟨u,rfl,d⟩:=rh r;cases d;exact WN I e λt j f=>{.int b.length,H,f,{(t),rfl},q}
end
section
variable {κ:Type} [DecidableEq κ]
end
def jH:Key->fZ
 |.inl i=>.int i
 |.inr x=>.str x
def JL{a b:Key}(h:jH a=jH b):a=b:=by cases a<;>cases b<;>simp[jH] at h<;>rw[h]
def iE(K:Fg)(c:Str)(C:Addr):Prop:=W.nsIn K mainGlobals c=Y (Y (.ref C))
def iE.uniq{K:Fg}{b:Addr}(h:iE K c C)(a:iE K c b):C=b:=by unfold iE at h a;rw[h] at a;cases a;rfl
def xo(C:Addr)(c:Option Addr)(p:Addr):HO:=.ext λh=>∃a b,h.get? p=Y a/\a.cls=.ref C/\a.dict=c/\a.data=.fields b
def xl(n:Int)(d:Addr):HO:=.ext λh=>∃t,h.Ns d λy=>if y="line" then Y (.int n t) else Z
def RD(H:Hp)(p C:Addr)(c:Str)(a:List (fZ×fZ)):Prop :=
 (a=[(.bool true,.str c)]/\H p=Y (xo C Z p))\/∃n d,a=[(.bool true,.str c),(.str "line",.int n)]/\H p=Y (xo C (Y d) p)/\H d=Y (xl n d)
mutual
def bC (K:Fg) (H:Hp):fZ->V->Prop
  |.none,v=>v=.lz
  |.bool b,v=>v=.bl b
  |.int i,v=>v=.int i
  |.str x,v=>v=.str x
  |.list xs,v=>∃p vs,v=.ref p/\nj K H p vs/\a9 K H xs vs
  |.tuple xs,v=>∃p vs,v=.ref p/\pf K H p vs/\a9 K H xs vs
  |.dict jG,v=>∃p,v=.ref p/\((∃kv,Rd H p (.dK kv)/\gs K H jG kv)\/(∃c C dx fs,iE K c C/\H p=Y (.ins C dx fs)/\nQ K H c jG fs)\/∃c C,iE K c C/\RD H p C c jG)
def a9 (K:Fg) (H:Hp):Lp->List V->Prop
  |[],vs=>vs=[]
  |d::ds,vs=>∃v r,vs=v::r/\bC K H d v/\a9 K H ds r
def gs (K:Fg) (H:Hp):List (fZ×fZ)->List (Key×V)->Prop
  |[],kv=>kv=[]
  | (k,d)::r,kv=>∃y v r',kv=(y,v)::r'/\k=jH y/\bC K H d v/\gs K H r r'
def nQ (K:Fg) (H:Hp) (c:Str):List (fZ×fZ)->List (Str×V)->Prop
  |[],_=>False
  | (k,d)::r,fs=>k=.none/\d=.str c/\kc K H r fs
def kc (K:Fg) (H:Hp):List (fZ×fZ)->List (Str×V)->Prop
  |[],fs=>fs=[]
  | (k,d)::r,fs=>∃y v r',fs=(y,v)::r'/\k=.str y/\bC K H d v/\kc K H r r'
end
def dV.rd{u:HO}(e:dV H H')(h:Rd H a u):Rd H' a u:=h.imp (e _ _) λ⟨o,z⟩=>{o,e _ _ z}
def dV.xp{K:Fg}{b:List V}(e:dV H H')(h:pf K H a b):pf K H' a b:=by
 rcases h with (h | ⟨o,h⟩)|h
 .exact .inl (.inl (e _ _ h))
 .exact .inl (.inr {o,e _ _ h})
 .exact .inr h
structure D3 (K:Fg) (H H':Hp):Prop where
 seq:∀{a xs},nj K H a xs->nj K H' a xs
 xp:∀{a xs},pf K H a xs->pf K H' a xs
 rd:∀{a kv},Rd H a (.dK kv)->Rd H' a (.dK kv)
 ins:∀{a C dx fs},H a=Y (.ins C dx fs)->H' a=Y (.ins C dx fs)
 ext:∀{a φ},H a=Y (.ext φ)->H' a=Y (.ext φ)
def dV.sim{K:Fg}(e:dV H H'):D3 K H H':={e.seq,e.xp,e.rd,e _ _,e _ _}
def RD.sim{K:Fg}(e:D3 K H H'){p:Addr}(h:RD H p C c jG):RD H' p C c jG:=by
 rcases h with ⟨a,b⟩ | ⟨n,d,a,b,f⟩
 .exact .inl {a,e.ext b}
 .exact .inr {n,d,a,e.ext b,e.ext f}
mutual
theorem bC.sim {K:Fg}{H H':Hp} (e:D3 K H H'):∀{d:fZ}{v:V},bC K H d v->bC K H' d v
  |.none,_,h=>by unfold bC at h ⊢;exact h
  |.bool _,_,h=>by unfold bC at h ⊢;exact h
  |.int _,_,h=>by unfold bC at h ⊢;exact h
  |.str _,_,h=>by unfold bC at h ⊢;exact h
  |.list _,_,h=>by
    unfold bC at h ⊢
    sleep 1;obtain⟨p,vs,e1,e2,e3⟩:=h;sleep 2
    exact{p,vs,e1,e.seq e2,a9.sim e e3}
  |.tuple _,_,h=>by
    unfold bC at h ⊢
    sleep 1;obtain⟨p,vs,e1,e2,e3⟩:=h;sleep 2
    exact{p,vs,e1,e.xp e2,a9.sim e e3}
  |.dict _,_,h=>by
    unfold bC at h ⊢
    obtain⟨p,e1,⟨kv,e2,e3⟩ | ⟨c,C,dx,fs,e2,e3,e4⟩ | ⟨c,C,e2,e3⟩⟩:=h
    . exact{p,e1,.inl {kv,e.rd e2,gs.sim e e3}}
    . exact{p,e1,.inr (.inl {c,C,dx,fs,e2,e.ins e3,nQ.sim e e4})}
    . exact{p,e1,.inr (.inr {c,C,e2,e3.sim e})}
theorem a9.sim {K:Fg}{H H':Hp} (e:D3 K H H'):∀{ds:Lp}{vs:List V},a9 K H ds vs->a9 K H' ds vs
  |[],_,h=>by unfold a9 at h ⊢;exact h
  |_::_,_,h=>by
    unfold a9 at h ⊢
    sleep 1;obtain⟨v,r,e1,e2,e3⟩:=h;sleep 2
    exact{v,r,e1,bC.sim e e2,a9.sim e e3}
theorem gs.sim {K:Fg}{H H':Hp} (e:D3 K H H'):∀{ds:List (fZ×fZ)}{kv:List (Key×V)},gs K H ds kv->gs K H' ds kv
  |[],_,h=>by unfold gs at h ⊢;exact h
  | (_,_)::_,_,h=>by
    unfold gs at h ⊢
    sleep 1;obtain⟨y,v,r,e1,e2,e3,e4⟩:=h;sleep 2
    exact{y,v,r,e1,e2,bC.sim e e3,gs.sim e e4}
theorem nQ.sim {K:Fg}{H H':Hp}{c:Str} (e:D3 K H H'):∀{ds:List (fZ×fZ)}{fs:List (Str×V)},nQ K H c ds fs->nQ K H' c ds fs
  |[],_,h=>by unfold nQ at h ⊢;exact h
  | (_,_)::_,_,h=>by
    unfold nQ at h ⊢
    exact{h.1,h.2.1,kc.sim e h.2.2}
theorem kc.sim {K:Fg}{H H':Hp} (e:D3 K H H'):∀{ds:List (fZ×fZ)}{fs:List (Str×V)},kc K H ds fs->kc K H' ds fs
  |[],_,h=>by unfold kc at h ⊢;exact h
  | (_,_)::_,_,h=>by
    unfold kc at h ⊢
    sleep 1;obtain⟨y,v,r,e1,e2,e3,e4⟩:=h;sleep 2
    exact{y,v,r,e1,e2,bC.sim e e3,kc.sim e e4}
end
section
variable {K:Fg}
def bC.same(e:dV H H')(h:bC K H d v):bC K H' d v:=h.sim e.sim
def a9.same(e:dV H H')(h:a9 K H ds vs):a9 K H' ds vs:=h.sim e.sim
def gs.same(e:dV H H'){ds:List (fZ×fZ)}(h:gs K H ds kv):gs K H' ds kv:=h.sim e.sim
end
section
variable {K:Fg}
def bC.iU:bC K H .none v↔v=.lz:=by unfold bC;exact eI
def bC.d6{b:Bool}:bC K H (.bool b) v↔v=.bl b:=by unfold bC;exact eI
def bC.d5{i:Int}:bC K H (.int i) v↔v=.int i:=by unfold bC;exact eI
def bC.eW:bC K H (.str x) v↔v=.str x:=by unfold bC;exact eI
def bC.fj{a:Lp}:bC K H (.list a) v↔∃p b,v=.ref p/\nj K H p b/\a9 K H a b:=by unfold bC;exact eI
def bC.mu{a:Lp}:bC K H (.tuple a) v↔∃p b,v=.ref p/\pf K H p b/\a9 K H a b:=by unfold bC;exact eI
def bC.hU{a:Lp}(h:bC K H (.tuple a) v):∃p b,v=.ref p/\pf K H p b/\a9 K H a b:=bC.mu.mp h
def bC.ke:bC K H (.dict jG) v↔∃p,v=.ref p/\((∃a,Rd H p (.dK a)/\gs K H jG a)\/(∃c C d b,iE K c C/\H p=Y (.ins C d b)/\nQ K H c jG b)\/∃c C,iE K c C/\RD H p C c jG):=by unfold bC;exact eI
def gs.eL:gs K H [] kv↔kv=[]:=by unfold gs;exact eI
def gs.dv{k:fZ}{r:List (fZ×fZ)}:gs K H ((k,d)::r) kv↔∃y v a,kv=(y,v)::a/\k=jH y/\bC K H d v/\gs K H r a:=by
 constructor
 .intro h;unfold gs at h;exact h
 .intro h;unfold gs;exact h
def kc.eL{a:List (Str×V)}:kc K H [] a↔a=[]:=by unfold kc;exact eI
def kc.dv{k:fZ}{r:List (fZ×fZ)}{b:List (Str×V)}:kc K H ((k,d)::r) b↔∃y v a,b=(y,v)::a/\k=.str y/\bC K H d v/\kc K H r a:=by
 constructor
 .intro h;unfold kc at h;exact h
 .intro h;unfold kc;exact h
def nQ.dv{k:fZ}{r:List (fZ×fZ)}{a:List (Str×V)}:nQ K H c ((k,d)::r) a↔k=.none/\d=.str c/\kc K H r a:=by
 constructor
 .intro h;unfold nQ at h;exact h
 .intro h;unfold nQ;exact h
def nQ.eL{a:List (Str×V)}:nQ K H c [] a↔False:=by unfold nQ;exact eI
def a9.eL:a9 K H [] vs↔vs=[]:=by unfold a9;exact eI
def a9.dv:a9 K H (d::ds) vs↔∃v r,vs=v::r/\bC K H d v/\a9 K H ds r:=by
 constructor
 .intro h;unfold a9 at h;exact h
 .intro h;unfold a9;exact h
def a9.nil:a9 K H [] []:=a9.eL.mpr rfl
def a9.cons{d:fZ}{ds:Lp}(h:bC K H d v)(t:a9 K H ds vs):a9 K H (d::ds) (v::vs):=a9.dv.mpr {(v),vs,rfl,h,t}
theorem a9.length{ds:Lp}(h:a9 K H ds vs):ds.length=vs.length:=by
 induction ds generalizing vs with
 |nil=>rw[a9.eL.mp h];rfl
 |cons d ds a=>sleep 1;obtain⟨v,r,rfl,_,t⟩:=a9.dv.mp h;sleep 2;simp[a t]
def a9.get(h:a9 K H ds vs)(e:ds[i]?=Y d):∃v,vs[i]?=Y v/\bC K H d v:=by
 induction ds generalizing vs i with
 |nil=>simp at e
 |cons g ds a=>
  sleep 1;obtain⟨v,r,rfl,b,t⟩:=a9.dv.mp h;sleep 2;cases i with
  |zero=>simp at e;subst e;exact{(v),rfl,b}
  |succ i=>obtain⟨u,f,c⟩:=a t (by simpa using e);exact{u,by simpa using f,c}
def a9.get'(h:a9 K H ds vs)(e:vs[i]?=Y v):∃d,ds[i]?=Y d/\bC K H d v:=by have f:=h.length;have g:i<vs.length:=(aS.mp e).1;have a:ds[i]?=Y ds[i]:=aN (by omega);obtain⟨u,b,c⟩:=h.get a;rw[e] at b;cases b;exact{_,a,c}
def a9.append{b:Lp}{a:List V}(h:a9 K H ds vs)(t:a9 K H b a):a9 K H (ds++b) (vs++a):=by
 induction ds generalizing vs with
 |nil=>rw[a9.eL.mp h];exact t
 |cons d ds e=>sleep 1;obtain⟨v,r,rfl,f,c⟩:=a9.dv.mp h;sleep 2;exact a9.cons f (e c)
theorem a9.take{a:Lp}(n:Nat)(h:a9 K H a vs):a9 K H (a.take n) (vs.take n):=by
 induction a generalizing vs n with
 |nil=>rw[a9.eL.mp h];simp;exact a9.nil
 |cons d a c=>
  sleep 1;obtain⟨v,r,rfl,e,b⟩:=a9.dv.mp h;sleep 2;cases n with
  |zero=>simp;exact a9.nil
  |succ n=>simp only[List.take_succ_cons];exact a9.cons e (c n b)
theorem a9.drop{a:Lp}(n:Nat)(h:a9 K H a vs):a9 K H (a.drop n) (vs.drop n):=by
 induction a generalizing vs n with
 |nil=>rw[a9.eL.mp h];simp;exact a9.nil
 |cons d a c=>
  sleep 1;obtain⟨v,r,rfl,e,b⟩:=a9.dv.mp h;sleep 2;cases n with
  |zero=>exact h
  |succ n=>simp only[List.drop_succ_cons];exact c n b
end
section
mutual
theorem c7.oq (I:c7 X pins σ H s):∀{d:fZ}{v:V}{u:Value},d.canLay0=true->bC X.K H d v->gg v u->∃as,Reads s.heap u d as
  |.none,_,_,_,h,r=>by rw[bC.iU.mp h] at r;cases r;exact{_,.none}
  |.bool b,_,_,_,h,r=>by rw[bC.d6.mp h] at r;cases r;exact{_,.bool b}
  |.int i,_,_,_,h,r=>by rw[bC.d5.mp h] at r;obtain⟨t,rfl⟩:=r;exact{_,.int i t}
  |.str x,_,_,_,h,r=>by rw[bC.eW.mp h] at r;obtain⟨t,rfl⟩:=r;exact{_,.str x t}
  |.list xs,_,_,hc,h,r=>by
    sleep 1;obtain⟨p,vs,rfl,e2,e3⟩:=bC.fj.mp h;sleep 2
    cases r
    sleep 1;obtain⟨its,rv,⟨o,n,e,c,_,dd⟩,_⟩:=I.list e2;sleep 2
    obtain⟨as,ra⟩:=c7.z5 I (by simpa [fZ.canLay0] using hc) e3 rv
    exact{_,.list e c dd (by simpa using ra)}
  |.tuple xs,_,_,hc,h,r=>by
    sleep 1;obtain⟨p,vs,rfl,e2,e3⟩:=h.hU;sleep 2
    cases r
    sleep 1;obtain⟨its,rv,⟨o,e,c,n,dd⟩,_⟩:=I.tuple e2;sleep 2
    obtain⟨as,ra⟩:=c7.z5 I (by simpa [fZ.canLay0] using hc) e3 rv
    exact{_,.tuple e c dd (by simpa using ra)}
  |.dict _,_,_,hc,_,_=>by simp[fZ.canLay0] at hc
theorem c7.z5 (I:c7 X pins σ H s):∀{ds:Lp}{vs:List V}{us:Lw},fZ.canLayAll0 ds=true->a9 X.K H ds vs->fv vs us->∃as,ReadsAll s.heap us ds as
  |[],_,_,_,h,r=>by rw[a9.eL.mp h] at r;cases r;exact{_,.nil}
  |d::ds,_,_,hc,h,r=>by
    have Wh:d.canLay0=true/\fZ.canLayAll0 ds=true:=by simpa [fZ.canLayAll0] using hc
    sleep 1;obtain⟨v,rr,rfl,h1,t⟩:=a9.dv.mp h;sleep 2
    cases r with
    |cons r1 r2=>
      obtain⟨as,ra⟩:=c7.oq I Wh.1 h1 r1
      obtain⟨bs,rb⟩:=c7.z5 I Wh.2 t r2
      exact{_,.cons ra rb}
end
end
abbrev aC:=List (Option fZ)
def ju(K:Fg)(H:Hp)(a:St)(b:aC):Prop:=a.length=b.length/\∀(i:Nat) (d:fZ),b[i]?=Y (Y d)->∃v,a[i]?=Y (Y v)/\bC K H d v
theorem ju.same{K:Fg}{H g:Hp}{c:St}{f:aC}(h:ju K H c f)(e:dV H g):ju K g c f :=
 {h.1,λi d q=>by obtain⟨v,a,b⟩:=h.2 i d q;exact{v,a,b.same e}}
theorem ju.set{K:Fg}{H:Hp}{σ:St}{ρ:aC}{i:Nat}{d:fZ}{v:V}(h:ju K H σ ρ)(e:bC K H d v):ju K H (σ.set i (Y v)) (ρ.set i (Y d)):=by
 refine{by simpa using h.1,λj g q=>?_};by_cases c:j=i
 .subst c;have f:j<ρ.length:=by
   have:=(aS.mp q).1;simpa using this
  rw[aQ f] at q;cases q;exact{v,by rw[aQ (by rw[h.1];exact f)],e}
 .rw[av (Ne.symm c)] at q;obtain⟨u,a,b⟩:=h.2 j g q;exact{u,by rw[av (Ne.symm c)];exact a,b}
def KD(K:Fg)(H:Hp)(d:fZ)(Q:VK):Prop:=∀v a,dV H a->bC K a d v->Q v a
def KD.here{K:Fg}{Q:VK}(k:KD K H d Q)(h:bC K H d v):Q v H:=k v H (.refl H) h
def KD.later{K:Fg}{Q:VK}(k:KD K H d Q)(e:dV H H'):KD K H' d Q:=λv b a i=>k v b (e.trans a) i
def tD(K:Fg)(f:aC->Od):TE:=λb H Q=>∃a d,ju K H b a/\f a=Y d/\KD K H d Q
def PD(X:Cx)(e:Expr)(f:aC->Od):Prop:=PE X e (tD X.K f)
def ZJ(K:Fg)(f:aC->Option Bool):TT:=λd H Q=>∃a b,ju K H d a/\f a=Y b/\∀c,dV H c->Q b c
def z6(X:Cx)(e:Expr)(f:aC->Option Bool):Prop:=PT X e (ZJ X.K f)
def S'(K:Fg)(f:aC->Option Lp):TA:=λe H Q=>∃b d,ju K H e b/\f b=Y d/\∀c a,dV H a->a9 K a d c->Q c a
def xh(X:Cx)(a:Lx)(f:aC->Option Lp):Prop:=PA X a (S' X.K f)
set_option genInjectivity true in
inductive Out where
 |nx (ρ:aC)|rt (d:fZ)|bk (ρ:aC)|ct (ρ:aC)
def PE.imp{t u:TE}(h:PE X e t)(k:∀σ H Q,u σ H Q->t σ H Q):PE X e u:=λa s σ H Q I q=>@h a s σ H Q I (k σ H Q q)
def PT.imp{t u:TT}(h:PT X e t)(k:∀σ H Q,u σ H Q->t σ H Q):PT X e u:=λa s σ H Q I q=>@h a s σ H Q I (k σ H Q q)
def PA.imp{e:Lx}{t u:TA}(h:PA X e t)(k:∀σ H Q,u σ H Q->t σ H Q):PA X e u:=λp a s σ H Q I q=>@h p a s σ H Q I (k σ H Q q)
def PS.imp{e:Stmt}{t u:TS}(h:PS X e t)(k:∀D σ H,u D σ H->t D σ H):PS X e u:=λa s σ H D I q=>@h a s σ H D I (k D σ H q)
def xb.imp{e:List Stmt}{t u:TS}(h:xb X e t)(k:∀D σ H,u D σ H->t D σ H):xb X e u:=λa s σ H D I q=>@h a s σ H D I (k D σ H q)
def lu.imp{f:Value->Value->Sem Value}{r b:R2}(h:lu X f r)(k:∀x y H Q,b x y H Q->r x y H Q):lu X f b:=λa s σ H x y v u Q I d c q=>@h a s σ H x y v u Q I d c (k _ _ _ _ q)
def FU.imp{r d:R2}(h:FU X r)(k:∀x y H Q,d x y H Q->r x y H Q):FU X d:=λa b c s σ H x y v u Q I g f q e=>h a b c s σ H x y v u Q I g f (k _ _ _ _ q) e
def i6.imp{f:Value}{r b:List V->Hp->VK->Prop}(h:i6 X f r)(k:∀xs H Q,b xs H Q->r xs H Q):i6 X f b:=λa s σ H xs c Q I d q=>@h a s σ H xs c Q I d (k _ _ _ q)
end L2
variable  {f fa fb fc:L2.aC->Od}{g:L2.aC->Option L2.Out}{ρ:L2.aC}{gc:L2.aC->Option Bool}{ff q:L2.aC->Option Lp}
namespace L2
open PySem PySem.Spec PyProof.Rows
section
variable {a c:Expr}
def fq(i:Nat):aC->Od:=λρ=>(ρ[i]?).join
def kA(i:Nat) (h:zr0 (X.N[i]?=Y x)) (c:zr 4 (BE X.env.scope x)) (g:zd0 (zg x))
  (a:zd0 ((x==("__classdict__":Str))=false)):PD X (.Name x pos) (fq i):=by
 refine PE.imp (mn h c g a) ?_;rintro n H Q ⟨b,d,f,e,k⟩;have m:b[i]?=Y (Y d):=by
  unfold fq at e;cases q:b[i]? with
  |none=>rw[q] at e;cases e
  |some o=>rw[q] at e;cases o with
   |none=>cases e
   |some p=>cases e;rfl
 obtain⟨v,l,j⟩:=f.2 i d m;exact{v,l,k.here j}
def dC(d:fZ):aC->Od:=λ_=>Y d
def JM{i j}:PD X (.Constant (.int i) j pos) (dC (.int i)):=PE.imp S2 <| by rintro a H Q ⟨_,d,_,e,k⟩;cases e;exact k.here (bC.d5.mpr rfl)
def WQ{i j}:PD X (.Constant (.bool i) j pos) (dC (.bool i)):=PE.imp Wl <| by rintro a H Q ⟨_,d,_,e,k⟩;cases e;exact k.here (bC.d6.mpr rfl)
def TN{j}:PD X (.Constant .none j pos) (dC .none):=PE.imp S3 <| by rintro a H Q ⟨_,d,_,e,k⟩;cases e;exact k.here (bC.iU.mpr rfl)
def z7{x j}:PD X (.Constant (.str x) j pos) (dC (.str x)):=PE.imp Jf <| by rintro a H Q ⟨_,d,_,e,k⟩;cases e;exact k.here (bC.eW.mpr rfl)
def ZK(K:Fg)(g:fZ->fZ->Od):R2:=λx y H Q=>∃a b c,bC K H a x/\bC K H b y/\g a b=Y c/\KD K H c Q
def ro(X:Cx)(f:Value->Value->Sem Value)(g:fZ->fZ->Od):Prop:=lu X f (ZK X.K g)
def d2(g:fZ->fZ->Od)(b a:aC->Od):aC->Od:=λρ=>(b ρ).bind λx=>(a ρ).bind λy=>g x y
def bind_some{β:Type}{o:Option α}{k:α->Option β}{b:β}(h:o.bind k=Y b):∃a,o=Y a/\k a=Y b:=by
 cases o with
 |none=>cases h
 |some a=>exact{(a),rfl,h}
def YX{K:Fg}{g:fZ->fZ->Od}{Q:VK}(h:tD K (d2 g fa fb) σ H Q):Wv (ZK K g) (tD K fa) (tD K fb) σ H Q:=by sleep 1;obtain⟨a,d,f,e,k⟩:=h;sleep 2;obtain⟨x,m,e⟩:=bind_some e;obtain⟨y,l,e⟩:=bind_some e;exact{a,x,f,m,λv o c j=>{a,y,f.same c,l,λu n b i=>{x,y,d,j.same b,i,e,k.later (c.trans b)}}}
def WS{c:Operator}{g:fZ->fZ->Od}(d:ro X (binaryOp c) g)(f:PD X a fa)(e:PD X b fb):PD X (.BinOp a c b pos) (d2 g fa fb) :=
 PE.imp (Jn d f e) λ_ _ _ h=>YX h
def TQ{c:CmpOp}{g:fZ->fZ->Od}(d:ro X (compareOp c) g)(i:PD X a fa)(f:PD X b fb)(e:behindInMarks c b=false):PD X (.Compare a [c] [b] pos) (d2 g fa fb) :=
 PE.imp (N8 d i f e) λ_ _ _ h=>YX h
def U'(X:Cx)(g:fZ->fZ->Od):Prop:=FU X (ZK X.K g)
def WT{g:fZ->fZ->Od}(d:U' X g)(f:PD X a fa)(e:PD X b fb)(c:rj b):PD X (.Subscript a b pos) (d2 g fa fb) :=
 PE.imp (RA d f e c) λ_ _ _ h=>YX h
def dI(C:Int->Int->Bool)(g:Int->Int->fZ):fZ->fZ->Od
 |.int i,.int j=>if C i j then Y (g i j) else Z
 |_,_=>Z
def z8{C:Int->Int->Bool}{g:Int->Int->fZ}{x y:fZ}(h:dI C g x y=Y d):∃i j,x=.int i/\y=.int j/\C i j=true/\d=g i j:=by
 cases x<;>cases y<;>try (simp[dI] at h;done)
 rename_i i j;dsimp only[dI] at h;by_cases a:C i j=true
 .rw[ai a] at h;cases h;exact{(i),j,rfl,rfl,a,rfl}
 .rw[aq a] at h;cases h
def JN{f:Value->Value->Sem Value}{P:Int->Int->Prop}{C:Int->Int->Bool}{g:Int->Int->Int}(h:lu X f (rI P λi j=>.int (g i j)))(n:∀i j,C i j=true->P i j):ro X f (dI C λi j=>.int (g i j)) :=
 lu.imp h <| by rintro x y H Q ⟨a,b,d,m,l,e,k⟩;sleep 1;obtain⟨i,j,rfl,rfl,c,rfl⟩:=z8 e;sleep 2;exact{i,j,bC.d5.mp m,bC.d5.mp l,n i j c,k.here (bC.d5.mpr rfl)}
def TR{f:Value->Value->Sem Value}{g:Int->Int->Int}(h:lu X f (NM λi j=>.int (g i j))):ro X f (dI (λ_ _=>true) λi j=>.int (g i j)) :=
 lu.imp h <| by rintro x y H Q ⟨a,b,d,m,l,e,k⟩;sleep 1;obtain⟨i,j,rfl,rfl,c,rfl⟩:=z8 e;sleep 2;exact{i,j,bC.d5.mp m,bC.d5.mp l,k.here (bC.d5.mpr rfl)}
def z9{f:Value->Value->Sem Value}{g:Int->Int->Bool}(h:lu X f (NM λi j=>.bl (g i j))):ro X f (dI (λ_ _=>true) λi j=>.bool (g i j)) :=
 lu.imp h <| by rintro x y H Q ⟨a,b,d,m,l,e,k⟩;sleep 1;obtain⟨i,j,rfl,rfl,c,rfl⟩:=z8 e;sleep 2;exact{i,j,bC.d5.mp m,bC.d5.mp l,k.here (bC.d6.mpr rfl)}
def kB(i:Int):Bool:=decide (Builtin.Int.intBits i<=2 ^ 20)
def Oq:lu X (binaryOp .Mult) (rI (λi j=>kB i=true/\kB j=true) λi j=>.int (i*j)):=Zt λ_ _ _ _ _ _ _ a q=>mul_int q (.of_bits (dA a.1) (dA a.2))
def WU:=dI (λ_ _=>true) λi j=>.int (i - j)
def TU:=dI (λi j=>kB i&&kB j) λi j=>.int (i*j)
def HL:=dI (λ_ j=>decide (0<j)&&decide (j<1073741824)) λi j=>.int (i / j)
def iI:=dI (λ_ j=>decide (0<j)) λi j=>.int (i % j)
def TV:ro X (binaryOp .Sub) WU:=TR Th
def TX:ro X (binaryOp .Mult) TU:=JN Oq λi j h=>by simpa using h
def TY:ro X (binaryOp .FloorDiv) HL:=JN N6 λi j h=>by simpa [Wy] using h
def TZ:ro X (binaryOp .Mod) iI:=JN Ti λi j h=>by simpa using h
def t7:=dI (λ_ _=>true) λi j=>.bool (decide (i<j))
def WV:=dI (λ_ _=>true) λi j=>.bool (decide (i<=j))
def BF:=dI (λ_ _=>true) λi j=>.bool (decide (j<i))
def V':=dI (λ_ _=>true) λi j=>.bool (decide (j<=i))
def WW:ro X (compareOp .Lt) t7:=z9 Wz
def WX:ro X (compareOp .LtE) WV:=z9 WA
def WY:ro X (compareOp .Gt) BF:=z9 WB
def WZ:ro X (compareOp .GtE) V':=z9 WC
def W0(K:Fg):R2:=λx y H Q=>∃l b c a,x=.ref l/\y=.ref b/\nj K H l c/\nj K H b a/\c.length+a.length<=sizeLine/\∀p,H p=Z->Q (.ref p) (upd H p (.lst (c++a)))
def F0:lu X (binaryOp .Add) (W0 X.K):=by
 intro p s P H x y v u Q I E D h;sleep 1;obtain⟨l,b,S,R,rfl,rfl,L,M,T,q⟩:=h;sleep 2;cases E;cases D;obtain⟨c,r,G,_⟩:=I.list L;obtain⟨a,o,j,_⟩:=I.list M;have V:=r.length;have U:=o.length;sleep 1;obtain⟨⟨O,N,A,C⟩,n,t,z,_,w⟩:=G;sleep 2;sleep 1;obtain⟨⟨B,k,m,i⟩,J,d,g,_,f⟩:=j;sleep 2;simp only at z w g f;subst z w g f;have e:c.toArray++a.toArray=(c++a).toArray:=by simp
 refine fG {_,t,rfl} {_,d,rfl} noFill_list_add seq_list_add PySem.F.slot_list_add PySem.F.entry_list_add (PySem.F.args_list_add_2 _ _) (list_addW l b c.toArray a.toArray n J N k C i (by simp;omega)) {t,d,?_};rw[e];exact{.ref _,_,I.TF (t':=s.toks) (r.append o) (by rw[az];omega),rfl,q _ I.fresh}
def Ot:lu X (binaryOp .Add) (λx y H Q=>∃l b o,x=.ref l/\y=.ref b/\pf X.K H l []/\pf X.K H b o/\Q (.ref b) H):=by
 intro p s R H x y v u Q I E D h;sleep 1;obtain⟨l,b,o,rfl,rfl,J,L,q⟩:=h;sleep 2;cases E;cases D;obtain⟨d,r,F,_⟩:=I.tuple J;obtain⟨c,S,j,_⟩:=I.tuple L;have M:=r.length;sleep 1;obtain⟨⟨P,O,A,C⟩,t,z,n,w⟩:=F;sleep 2;sleep 1;obtain⟨⟨B,k,m,i⟩,e,g,G,f⟩:=j;sleep 2;simp only at z w g f;subst z w g f;have N:d=[]:=by cases d with
  |nil=>rfl
  |cons a r=>simp at M
 subst N;exact fG {_,t,rfl} {_,e,rfl} fz seq_tuple_add dR dM (dH _ _) (tuple_addW0 l b #[] c.toArray n G O k C i rfl) {t,e,{.ref b,H,I,rfl,q}}
def iV{p:Addr}(h:H p=Z):dV H (upd H p o):=λb u e=>by rw[c8 (gz e h)];exact e
def BZ{K:Fg}{p:Addr}(h:H p=Z)(e:a9 K H ds vs):bC K (upd H p (.lst vs)) (.list ds) (.ref p) :=
 bC.fj.mpr {p,vs,rfl,nj.of eB,e.same (iV h)}
def JO{K:Fg}{p:Addr}(h:H p=Z)(e:a9 K H ds vs):bC K (upd H p (.tup vs)) (.tuple ds) (.ref p) :=
 bC.mu.mpr {p,vs,rfl,pf.of eB,e.same (iV h)}
def KD.xq{K:Fg}{Q:VK}(k:KD K H (.list ds) Q)(e:a9 K H ds vs):∀p,H p=Z->Q (.ref p) (upd H p (.lst vs)):=λp h=>k _ _ (iV h) (BZ h e)
def KD.Ou{K:Fg}{Q:VK}(k:KD K H (.tuple ds) Q)(e:a9 K H ds vs):∀p,H p=Z->Q (.ref p) (upd H p (.tup vs)):=λp h=>k _ _ (iV h) (JO h e)
def dt:fZ->fZ->Od
 |.int i,.int j=>Y (.int (i+j))
 |.str x,.str y=>if x.length+y.length<=sizeLine then Y (.str (x++y)) else Z
 |.list xs,.list ys=>if xs.length+ys.length<=sizeLine then Y (.list (xs++ys)) else Z
 |.tuple xs,.tuple ys=>if xs.length+ys.length<=sizeLine then Y (.tuple (xs++ys)) else Z
 |_,_=>Z
def T1:ro X (binaryOp .Add) dt:=by
 refine lu.imp (Tf.or (DQ.or (F0.or (Oh.or Ot)))) ?_;rintro x y H Q ⟨a,b,d,l,h,e,k⟩;cases a<;>cases b<;>try (simp[dt] at e;done)
 .rename_i i j;cases e;exact .inl {i,j,bC.d5.mp l,bC.d5.mp h,k.here (bC.d5.mpr rfl)}
 .rename_i i j;dsimp only[dt] at e;by_cases c:i.length+j.length<=sizeLine
  .rw[ai c] at e;cases e;exact .inr (.inl {i,j,bC.eW.mp l,bC.eW.mp h,c,k.here (bC.eW.mpr rfl)})
  .rw[aq c] at e;cases e
 .rename_i i j;dsimp only[dt] at e;by_cases c:i.length+j.length<=sizeLine
  .rw[ai c] at e;cases e;sleep 1;obtain⟨p,r,rfl,m,f⟩:=bC.fj.mp l;sleep 2;sleep 1;obtain⟨q,n,rfl,o,g⟩:=bC.fj.mp h;sleep 2;exact .inr (.inr (.inl {p,q,r,n,rfl,rfl,m,o,by rw[<-f.length,<-g.length];exact c,k.xq (f.append g)}))
  .rw[aq c] at e;cases e
 .rename_i i j;dsimp only[dt] at e;by_cases c:i.length+j.length<=sizeLine
  .rw[ai c] at e;cases e;sleep 1;obtain⟨p,r,rfl,m,f⟩:=l.hU;sleep 2;sleep 1;obtain⟨q,n,rfl,o,g⟩:=h.hU;sleep 2;cases i with
   |nil=>rw[a9.eL.mp f] at m;exact .inr (.inr (.inr (.inr {p,q,n,rfl,rfl,m,o,k.here h})))
   |cons t s=>
    refine .inr (.inr (.inr (.inl {p,q,r,n,rfl,rfl,m,o,?_,by rw[<-f.length,<-g.length];exact c,λz=>?_,λz=>k.Ou (f.append g)})))
    .intro z;subst z;have:=f.length;simp at this
    .subst z;have:j=[]:=by have:=g.length;cases j with
      |nil=>rfl
      |cons _ _=>simp at this
     subst this;rw[aK] at k;exact k.here l
  .rw[aq c] at e;cases e
def jf:fZ->fZ->Od:=λa b=>if SeqAt.shaped a=true/\SeqAt.shaped b=true then Y (.bool (fZ.eqv a b)) else Z
def qw:fZ->fZ->Od:=λa b=>if SeqAt.shaped a=true/\SeqAt.shaped b=true then Y (.bool (!fZ.eqv a b)) else Z
def W2(n:X.A.units+64<cLine):ro X (compareOp .Eq) jf:=by
 intro f s o H x y v u Q I h g ⟨a,b,d,m,l,e,k⟩;unfold jf at e;by_cases c:SeqAt.shaped a=true/\SeqAt.shaped b=true
 .rw[ai c] at e;cases e;obtain⟨q,j⟩:=I.oq (aZ c.1) m h;obtain⟨p,i⟩:=I.oq (aZ c.2) l g;exact eq_dataH j i c.1 c.2 n {.bl _,H,I,rfl,k.here (bC.d6.mpr rfl)}
 .rw[aq c] at e;cases e
def W7(n:X.A.units+64<cLine):ro X (compareOp .NotEq) qw:=by
 intro f s o H x y v u Q I h g ⟨a,b,d,m,l,e,k⟩;unfold qw at e;by_cases c:SeqAt.shaped a=true/\SeqAt.shaped b=true
 .rw[ai c] at e;cases e;obtain⟨q,j⟩:=I.oq (aZ c.1) m h;obtain⟨p,i⟩:=I.oq (aZ c.2) l g;exact ne_dataH j i c.1 c.2 n {.bl _,H,I,rfl,k.here (bC.d6.mpr rfl)}
 .rw[aq c] at e;cases e
def YY:fZ->fZ->Od
 |.list xs,.int i=>qd xs i
 |.tuple xs,.int i=>qd xs i
 |.str z,.int i=>if z.length<=sizeLine then (qd z.cps.toList i).map λc=>.str {#[c]} else Z
 |_,_=>Z
def RE{K:Fg}{i:Int}(h:a9 K H ds vs)(e:qd ds i=Y d):∃v,qd vs i=Y v/\bC K H d v:=by
 unfold qd at e ⊢;rw[<-h.length];cases q:zT ds.length i with
 |none=>rw[q] at e;cases e
 |some j=>rw[q] at e;exact h.get e
def ixD:U' X YY:=by
 refine FU.imp Tw ?_;rintro x y H Q ⟨a,b,d,j,h,e,k⟩;cases a<;>cases b<;>try (simp[YY] at e;done)
 .rename_i z i;dsimp only[YY] at e;by_cases l:z.length<=sizeLine
  .rw[ai l] at e;obtain⟨c,r,f⟩:=aj.mp e;subst f;exact .inr (.inr {z,i,c,bC.eW.mp j,bC.d5.mp h,l,r,k.here (bC.eW.mpr rfl)})
  .rw[aq l] at e;cases e
 .rename_i q i;sleep 1;obtain⟨p,g,rfl,f,o⟩:=bC.fj.mp j;sleep 2;obtain⟨v,n,m⟩:=RE o e;exact .inl {p,g,i,v,rfl,bC.d5.mp h,f,n,k.here m}
 .rename_i q i;sleep 1;obtain⟨p,g,rfl,f,o⟩:=j.hU;sleep 2;obtain⟨v,n,m⟩:=RE o e;exact .inr (.inl {p,g,i,v,rfl,bC.d5.mp h,f,n,k.here m})
def D4:fZ->Option Bool
 |.none=>Y false
 |.bool b=>Y b
 |.int i=>Y (i != 0)
 |.str y=>if y.length<=sizeLine then Y ((y.length:Int) != 0) else Z
 |.list xs=>Y (!xs.isEmpty)
 |.tuple xs=>Y (!xs.isEmpty)
 |.dict _=>Z
def vn{K:Fg}(h:a9 K H ds vs):ds.isEmpty=vs.isEmpty:=by have:=h.length;cases ds<;>cases vs<;>first|rfl|(simp at this)
def JP{K:Fg}{k:Bool}(h:bC K H d v)(e:D4 d=Y k):Tp K v H k:=by
 cases d with
 |none=>rw[bC.iU.mp h];cases e;rfl
 |bool b=>rw[bC.d6.mp h];cases e;rfl
 |int i=>rw[bC.d5.mp h];cases e;rfl
 |str y=>
  rw[bC.eW.mp h];dsimp only[D4] at e;by_cases c:y.length<=sizeLine
  .rw[ai c] at e;cases e;exact{(c),rfl}
  .rw[aq c] at e;cases e
 |list j=>sleep 1;obtain⟨p,a,rfl,g,f⟩:=bC.fj.mp h;sleep 2;cases e;exact .inl {a,g,by rw[vn f]}
 |tuple j=>sleep 1;obtain⟨p,a,rfl,g,f⟩:=h.hU;sleep 2;cases e;exact .inr (.inl {a,g,by rw[vn f]})
 |dict _=>cases e
def fB(f:aC->Od):aC->Option Bool:=λρ=>(f ρ).bind λd=>match d with | .bool b=>Y b|_=>Z
def F4{b:Bool}(h:fB f ρ=Y b):f ρ=Y (.bool b):=by obtain⟨d,c,a⟩:=bind_some h;cases d<;>first|(cases a;exact c)|cases a
def Ov{c:CmpOp}{g:fZ->fZ->Od}(j:ro X (compareOp c) g)(n:PD X a fa)(m:PD X b fb)(l:behindInMarks c b=false):z6 X (.Compare a [c] [b] pos) (fB (d2 g fa fb)) :=
 PT.imp (FK j n m l) λp H Q ⟨d,b,i,e,k⟩=>
  YX {d,.bool b,i,F4 e,λv o f h=>{b,bC.d6.mp h,k o f}}
def kP(f g:aC->Option Bool):aC->Option Bool:=λa=>(f a).bind λx=>if x then g a else Y false
def vo(f g:aC->Option Bool):aC->Option Bool:=λa=>(f a).bind λx=>if x then Y true else g a
def sR(f:aC->Option Bool):aC->Option Bool:=λa=>(f a).map (!·)
variable {ga gb:aC->Option Bool}{rest:Lx}
def T2(X:Cx)(e:Expr)(f:aC->Option Bool):Prop:=PW X e (ZJ X.K f)
def PW.imp{t u:TT}(h:PW X e t)(k:∀σ H Q,u σ H Q->t σ H Q):PW X e u:=λb a s σ H Q I q=>@h b a s σ H Q I (k σ H Q q)
def JQ(h:z6 X a ga):T2 X (.BoolOp .And [a] pos) ga:=NY h
def Ox(h:z6 X a ga):T2 X (.BoolOp .Or [a] pos) ga:=Jg h
def Oy(j:z6 X a ga)(i:T2 X (.BoolOp .And (b::rest) pos) gb):T2 X (.BoolOp .And (a::b::rest) pos) (kP ga gb) :=
 PW.imp (S4 j i) <| by
  rintro o H Q ⟨d,x,f,e,k⟩;obtain⟨y,l,g⟩:=bind_some e;refine{d,y,f,l,λn c=>?_};cases y with
  |true=>rw[ai rfl];exact{d,x,f.same c,g,λm h=>k m (c.trans h)}
  |false=>rw[aq aV];cases g;exact k n c
def T3(j:z6 X a ga)(i:T2 X (.BoolOp .Or (b::rest) pos) gb):T2 X (.BoolOp .Or (a::b::rest) pos) (vo ga gb) :=
 PW.imp (Ro j i) <| by
  rintro o H Q ⟨d,x,f,e,k⟩;obtain⟨y,l,g⟩:=bind_some e;refine{d,y,f,l,λn c=>?_};cases y with
  |false=>rw[aq aV];exact{d,x,f.same c,g,λm h=>k m (c.trans h)}
  |true=>rw[ai rfl];cases g;exact k n c
def W8(h:T2 X e ga):z6 X e ga:=h.pt
def Oz(g:z6 X a ga):z6 X (.UnaryOp .Not a pos) (sR ga) :=
 PT.imp (Jh g) <| by rintro j H Q ⟨c,x,f,e,k⟩;obtain⟨y,i,h⟩:=aj.mp e;exact{c,y,f,i,λb d=>by show Q (!y) b;rw[h];exact k b d}
def gm:aC->Option Lp:=λ_=>Y []
def bz(f:aC->Od)(g:aC->Option Lp):aC->Option Lp:=λa=>(f a).bind λx=>(g a).bind λb=>Y (x::b)
def OA:xh X [] gm:=PA.imp kO <| by rintro a H Q ⟨b,d,c,e,k⟩;cases e;exact k [] H (.refl H) a9.nil
def JR(l:PD X e f)(j:xh X es ff)(a:zr0 (zE e es X)):xh X (e::es) (bz f ff) :=
 PA.imp (gR l j a) <| by rintro p H Q ⟨b,r,a,e,k⟩;obtain⟨x,n,e⟩:=bind_some e;obtain⟨g,m,e⟩:=bind_some e;cases e;exact{b,x,a,n,λv s d i=>{b,g,a.same d,m,λq o c h=>k _ o (d.trans c) (a9.cons (i.same c) h)}}
def jR(c:aC->Option Lp):aC->Od:=λb=>(c b).bind λa=>if a.length<=sizeLine then Y (.tuple a) else Z
def gk(b:aC->Option Lp):aC->Od:=λρ=>(b ρ).bind λa=>if a.length<=sizeLine then Y (.list a) else Z
def T4{x1}(h:xh X es ff):PD X (.Tuple es x1 pos) (jR ff) :=
 PE.imp (Jv h) <| by
  rintro l H Q ⟨f,d,i,e,k⟩;obtain⟨b,j,e⟩:=bind_some e;by_cases a:b.length<=sizeLine
  .rw[ai a] at e;cases e;exact{f,b,i,j,λm n g c=>{by rw[<-c.length];exact a,(k.later g).Ou c}}
  .rw[aq a] at e;cases e
def T5(h:xh X es ff):PD X (.List es pos) (gk ff) :=
 PE.imp (Jw h) <| by
  rintro l H Q ⟨f,d,i,e,k⟩;obtain⟨b,j,e⟩:=bind_some e;by_cases a:b.length<=sizeLine
  .rw[ai a] at e;cases e;exact{f,b,i,j,λm n g c=>{by rw[<-c.length];exact a,(k.later g).xq c}}
  .rw[aq a] at e;cases e
abbrev FO:=aC->Option (Option Int)
def tDO(K:Fg)(g:FO):TO:=λc H Q=>∃a o,ju K H c a/\g a=Y o/\∀b,dV H b->Q o b
def V3(X:Cx)(e:Option Expr)(g:FO):Prop:=PO X e (tDO X.K g)
def PO.imp{e:Option Expr}{t u:TO}(h:PO X e t)(k:∀σ H Q,u σ H Q->t σ H Q):PO X e u:=λa s σ H Q I q=>@h a s σ H Q I (k σ H Q q)
def gO:FO:=λ_=>Y Z
def g9(f:aC->Od):FO:=λρ=>(f ρ).bind λd=>match d with | .int i=>Y (Y i)|_=>Z
def JS:V3 X Z gO:=PO.imp Of <| by rintro a H Q ⟨b,o,c,e,k⟩;cases e;exact k H (.refl H)
def JT(h:PD X e f):V3 X (Y e) (g9 f):=PO.imp (Og h) <| by
 rintro m H Q ⟨b,o,i,e,k⟩;obtain⟨d,j,a⟩:=bind_some e;cases d<;>first
  | (cases a;exact{b,_,i,j,λv l c g=>{_,bC.d5.mp g,k l c}})
  |cases a
def mP(a:List α)(b c:Option Int):List α:=(a.drop (HT.jZ a.length 0 b)).take (HT.jZ a.length a.length c - HT.jZ a.length 0 b)
def a9.cut{K:Fg}(h:a9 K H ds vs)(a b:Option Int):a9 K H (mP ds a b) (BV vs a b):=by unfold mP BV;rw[<-h.length];exact(h.drop _).take _
def W9(K:Fg):V->Option Int->Option Int->Hp->VK->Prop:=λx c d H Q=>∃a b,x=.ref a/\pf K H a b/\(HT.jZ b.length 0 c=0/\HT.jZ b.length b.length d=b.length)/\Q (.ref a) H
end
end L2
local macro_rules
|`(zC $s $a)=>zzz "L2.bz (L2.dC (.str 0)) 1" #[s,a]
|`(zQ $a)=>zzz "L2.bz 0 L2.gm" #[a]
|`(zA $s)=>zzz "L2.dC (.str 0)" #[s]
|`(zI $n)=>zzz "L2.dC (.int 0)" #[n]
namespace HT
open PySem PyProof.Rows
section
variable {prog:Program}
def qx{t e:Addr}{k j:Value}{a d:Option Int}{Q:Px} (c:IsTup s.heap t items) (l:s.heap.IsSliceOf e k j .none) (n:IsPart k a) (m:IsPart j d)
  (hw:jZ items.size 0 a=0/\jZ items.size items.size d=items.size) (h:Q (.ref t) s):wpAny (model prog w) A (getItem (.ref t) (.ref e)) Q E s:=by
 obtain⟨o,f,g,p⟩:=id l;have i:s.TypeIs (.ref e) "slice":={(o),f,g}
 unfold getItem
 try with_reducible refine bp ?_
 first|refine aa (ak ?_)|skip
 refine aa (wpAny_sequenceKey c.typeIs (by decide) ?_);refine aa (de (name:=zZ "__getitem__") c.typeIs bH
  (eA bH c.typeIs entry_tuple_getitem ?_ (args_tuple_getitem _ _)))
 show wpAny _ _ (Builtin.Tuple.tupleItemsOf (.ref t)>>=_) _ _ s;refine aa (tupleItemsOf_ c ?_);refine aa (cQ i ?_);rw[ai (by decide)];refine aa (nN l n m ?_);have b:((((jZ items.size 0 a:Nat):Int)==0&&(1:Int)==1&&(jZ items.size items.size d - jZ items.size 0 a)==items.size)=true):=by rw[hw.1,hw.2];simp
 show wpAny _ _ (if (((jZ items.size 0 a:Nat):Int)==0&&(1:Int)==1&&(jZ items.size items.size d - jZ items.size 0 a)==items.size)=true then _ else _) _ _ s;rw[ai b];unfold Builtin.Tuple.tupleIsExact;refine aa (aa (cQ c.typeIs (ak ?_)));rw[ai (by decide)];refine aa (fH ?_);exact ak {_,rfl,ak h}
end
end HT
namespace L2
open PySem PySem.Spec PyProof.Rows
section
variable {a c:Expr}
def OB:FR X (W9 X.K):=by
 intro d s m H x v o n t w p Q I g l j i h;sleep 1;obtain⟨a,f,rfl,k,hw,q⟩:=h;sleep 2;cases g;obtain⟨c,r,e,u⟩:=I.tuple k;have b:c.toArray.size=f.length:=by rw[aB];exact r.length.symm
 refine{"tuple",_,bH.lookup,e.typeIs,?_};exact HT.qx e l j i (by rw[b];exact hw) {.ref a,H,I,rfl,q}
def ZL:V->Option Int->Option Int->Hp->VK->Prop:=λx a b H Q=>∃z,x=.str z/\z.length<=sizeLine/\Q (.str (Txt.slice z a b)) H
def qg:Value->Option (Int×Tok)
 |.int i t=>Y (i,t)
 |_=>Z
def t8{v:Value}{o:Option Int}(p:IsPart v o):partValue (qg v)=v/\(qg v).map (·.1)=o:=by cases p<;>exact{(rfl),rfl}
theorem T6:FR X ZL:=by
 intro f s D H x v d c a b G Q I j y n m h;obtain⟨z,rfl,w,q⟩:=h;obtain⟨t,rfl⟩:=j;refine{"str",_,F.slot_str_getitem.lookup,eC _ _ _,?_};obtain⟨r,p⟩:=t8 n;obtain⟨i,g⟩:=t8 m;obtain⟨o,A,C,B⟩:=y;refine wpAny_getItem_str_slice (l:=qg d) (u:=qg c) (st:=Z) {o,A,C,by rw[r,i];exact B} rfl ?_;have e:sliceMade z t (qg d) (qg c) Z=(if ((1:Int)==1&&(Builtin.Str.strSliceIndices a b 1 z.length).length==z.length)=true then .val (.str z t) else .str {((Builtin.Str.strSliceIndices a b 1 z.length).filterMap (z.cps[·]?)).toArray}):=by unfold sliceMade slicePicked;rw[p,g];rfl
 rw[e];exact post_val_or_str {bJ (Txt.slice_le z a b) w,λE k=>{.str (Txt.slice z a b),H,I.tok _,{_,rfl},q}}
def sS:fZ->Option Int->Option Int->Od
 |.list xs,lo,hi=>Y (.list (mP xs lo hi))
 |.tuple xs,lo,hi=>Y (.tuple (mP xs lo hi))
 |.str z,lo,hi=>if z.length<=sizeLine then Y (.str (Txt.slice z lo hi)) else Z
 |_,_,_=>Z
def gq(f:aC->Od)(l h:FO):aC->Od:=λρ=>(f ρ).bind λx=>(l ρ).bind λa=>(h ρ).bind λb=>sS x a b
def FR.imp{r b:V->Option Int->Option Int->Hp->VK->Prop}(h:FR X r)(k:∀x lo hi H Q,b x lo hi H Q->r x lo hi H Q):FR X b :=
 λa s σ H x v d c lo hi e Q I f i pl g q=>@h a s σ H x v d c lo hi e Q I f i pl g (k _ _ _ _ _ q)
def slD:FR X (λx lo hi H Q=>∃d c,bC X.K H d x/\sS d lo hi=Y c/\KD X.K H c Q):=by
 refine FR.imp (FW.or (T6.or (Tt.or OB))) ?_;rintro x lo hi H Q ⟨d,c,i,e,k⟩;cases d<;>try (simp[sS] at e;done)
 .rename_i z;dsimp only[sS] at e;by_cases h:z.length<=sizeLine
  .rw[ai h] at e;cases e;exact .inr (.inl {z,bC.eW.mp i,h,k.here (bC.eW.mpr rfl)})
  .rw[aq h] at e;cases e
 .rename_i g;cases e;sleep 1;obtain⟨p,a,rfl,f,b⟩:=bC.fj.mp i;sleep 2;exact .inl {p,a,rfl,f,k.xq (b.cut lo hi)}
 .rename_i g;cases e;sleep 1;obtain⟨p,a,rfl,f,b⟩:=i.hU;sleep 2;by_cases hw:HT.jZ a.length 0 lo=0/\HT.jZ a.length a.length hi=a.length
  .refine .inr (.inr (.inr {p,a,rfl,f,hw,?_}));have:mP g lo hi=g:=by
    unfold mP;rw[b.length,hw.1,hw.2];simp only[List.drop_zero,Nat.sub_zero];rw[<-b.length];exact List.take_length
   rw[this] at k;exact k.here i
  .exact .inr (.inr (.inl {p,a,rfl,f,hw,k.Ou (b.cut lo hi)}))
def JU{n o:Option Expr}{l h:FO}(s:PD X e f)(r:V3 X n l)(q:V3 X o h):PD X (.Subscript e (.Slice n o Z p2) pos) (gq f l h) :=
 PE.imp (BU slD s r q) <| by rintro y H Q ⟨a,d,i,e,k⟩;obtain⟨x,w,e⟩:=bind_some e;obtain⟨g,u,e⟩:=bind_some e;obtain⟨j,t,e⟩:=bind_some e;exact{a,x,i,w,λv B c p=>{a,g,i.same c,u,λA b=>{a,j,i.same (c.trans b),t,λz m=>{x,d,p.same (b.trans m),e,k.later (c.trans (b.trans m))}}}}
def W'(K:Fg)(g:Lp->Od):List V->Hp->VK->Prop:=λb H Q=>∃a c,a9 K H a b/\g a=Y c/\KD K H c Q
def vp(X:Cx)(v:Value)(g:Lp->Od):Prop:=i6 X v (W' X.K g)
def j5(g:Lp->Od)(a:aC->Option Lp):aC->Od:=λρ=>(a ρ).bind g
def Y'{K:Fg}{g:Lp->Od}{Q:VK}(h:tD K (j5 g ff) σ H Q):YV (W' K g) (S' K ff) σ H Q:=by sleep 1;obtain⟨b,d,i,e,k⟩:=h;sleep 2;obtain⟨a,l,j⟩:=bind_some e;exact{b,a,i,l,λm n c f=>{a,d,f,j,k.later c}}
def B4{c:String}{g:Lp->Od} (l:vp X (.builtin c) g) (j:Gl X x) (i:X.mg x=Z) (d:bootBuiltins x=Y (.builtin c)) (m:xh X (e::es) ff) (f:zd0 (x≠"__name__")) (b:zd0 (zg x))
  (k:zr0 (zE e es X)) (a:zr0 ((backTo pos (starEach es X.env)).any (·.1)=false)):PD X (.Call (.Name x p) (e::es) [] pos) (j5 g ff) :=
 PE.imp (pv l j i d m f b k a) λ_ _ _ h=>Y' h
def yl{T:String}{g:Lp->Od} (k:vp X (.type T) g) (i:Gl X x) (f:X.mg x=Z) (c:bootBuiltins x=Y (.type T)) (l:xh X (e::es) ff) (d:zd0 (x≠"__name__")) (b:zd0 (zg x))
  (j:zr0 (zE e es X)) (a:zr0 ((backTo pos (starEach es X.env)).any (·.1)=false)):PD X (.Call (.Name x p) (e::es) [] pos) (j5 g ff) :=
 PE.imp (yf k i f c l d b j a) λ_ _ _ h=>Y' h
def ir{K:Fg}(h:a9 K H [d] vs):∃v,vs=[v]/\bC K H d v:=by sleep 1;obtain⟨v,r,rfl,a,t⟩:=a9.dv.mp h;sleep 2;rw[a9.eL.mp t];exact{(v),rfl,a}
def JV{K:Fg}{b:fZ}(h:a9 K H [d,b] vs):∃v a,vs=[v,a]/\bC K H d v/\bC K H b a:=by sleep 1;obtain⟨v,r,rfl,e,t⟩:=a9.dv.mp h;sleep 2;obtain⟨a,rfl,c⟩:=ir t;exact{(v),a,rfl,e,c}
def Xa:Lp->Od
 |[.list xs]=>Y (.tuple xs)
 |[.tuple xs]=>Y (.tuple xs)
 |_=>Z
def F5:Lp->Od
 |[.list xs]=>Y (.list xs)
 |[.tuple xs]=>Y (.list xs)
 |_=>Z
def OC:Lp->Od
 |[.list xs]=>Y (.int xs.length)
 |[.tuple xs]=>Y (.int xs.length)
 |[.str z]=>if z.length<=sizeLine then Y (.int z.length) else Z
 |_=>Z
def T7:vp X (.builtin "len") OC:=by
 refine i6.imp (zW.or zY) ?_;rintro l H Q ⟨j,c,i,e,k⟩
 match j,e with
 |[.list h],e=>cases e;obtain⟨v,rfl,a⟩:=ir i;sleep 1;obtain⟨p,b,rfl,g,f⟩:=bC.fj.mp a;sleep 2;exact .inl {p,b,rfl,.inl g,k.here (by rw[f.length];exact bC.d5.mpr rfl)}
 |[.tuple h],e=>cases e;obtain⟨v,rfl,a⟩:=ir i;sleep 1;obtain⟨p,b,rfl,g,f⟩:=a.hU;sleep 2;exact .inl {p,b,rfl,.inr g,k.here (by rw[f.length];exact bC.d5.mpr rfl)}
 |[.str z],e=>
  dsimp only[OC] at e;by_cases d:z.length<=sizeLine
  .rw[ai d] at e;cases e;obtain⟨v,rfl,a⟩:=ir i;exact .inr {z,by rw[bC.eW.mp a],d,k.here (bC.d5.mpr rfl)}
  .rw[aq d] at e;cases e
def aab:Lp->Od
 |[.int i,.int j]=>Y (.int (if j<i then j else i))
 |_=>Z
def V4:fZ->String
 |.none=>"NoneType"
 |.bool _=>"bool"
 |.int _=>"int"
 |.str _=>"str"
 |.list _=>"list"
 |.tuple _=>"tuple"
 |.dict _=>"dict"
def B5:i6 X (.builtin "isinstance") (λxs H Q=>∃d v T c,xs=[v,.ty T]/\(∀f,d≠.dict f)/\bC X.K H d v/\W.kitOne X.K (.type (V4 d)) (.type T)=Y c/\Q (.bl c) H):=by
 intro j s C H xs G Q I r h;sleep 1;obtain⟨d,v,T,c,rfl,w,g,e,q⟩:=h;sleep 2;sleep 1;obtain⟨u,D,rfl,b,l⟩:=Jq r;sleep 2;obtain rfl:D=Value.type T:=l;have a:∀k,EP X j C Q (.bool c) { s with toks:=k }:=λk=>{.bl c,H,I.tok k,rfl,q}
 cases d with
 |none=>rw[bC.iU.mp g] at b;cases b;exact W.kia_one W.kitx_none I.oj aY e (λz=>nomatch z) a
 |bool y=>rw[bC.d6.mp g] at b;cases b;exact W.kia_one W.kitx_bool I.oj aY e (λz=>nomatch z) a
 |int i=>rw[bC.d5.mp g] at b;obtain⟨t,rfl⟩:=b;exact W.kia_one W.kitx_int I.oj aY e (λz=>nomatch z) a
 |str y=>rw[bC.eW.mp g] at b;obtain⟨t,rfl⟩:=b;exact W.kia_one W.kitx_str I.oj aY e (λz=>nomatch z) a
 |list xs=>sleep 1;obtain⟨p,E,rfl,B,F⟩:=bC.fj.mp g;sleep 2;cases b;sleep 1;obtain⟨m,_,⟨o,n,A,x,_⟩,_⟩:=I.list B;sleep 2;exact W.kia_one W.kitx_list I.oj {(o),A,x} e (λz=>nomatch z) a
 |tuple xs=>sleep 1;obtain⟨p,E,rfl,B,F⟩:=g.hU;sleep 2;cases b;sleep 1;obtain⟨m,_,⟨o,A,x,_⟩,_⟩:=I.tuple B;sleep 2;exact W.kia_one W.kitx_tuple I.oj {(o),A,x} e (λz=>nomatch z) a
 |dict f=>exact absurd rfl (w f)
def RF:fZ->Bool
 |.dict _=>true
 |_=>false
def Xb(T:String)(f:aC->Od):aC->Od:=λa=>(f a).bind λd=>if RF d then Z else Y (.bool (V4 d==T||(V4 d=="bool"&&T=="int")))
def T8{K:Fg}{T:String}(a:T="tuple"\/T="list"\/T="bool"\/T="str"\/T="int")(d:fZ):W.kitOne K (.type (V4 d)) (.type T)=Y (V4 d==T||(V4 d=="bool"&&T=="int")):=by rcases a with rfl|rfl|rfl|rfl|rfl<;>cases d<;>rfl
def HM{T:String}{a:Pos} (y:T="tuple"\/T="list"\/T="bool"\/T="str"\/T="int") (w:PD X e f) (u:Gl X "isinstance") (t:X.mg "isinstance"=Z) (l:Gl X x) (j:X.mg x=Z) (r:bootBuiltins x=Y (.type T))
  (s:zd0 (x≠"__name__")) (m:zd0 (zg x))
  (b:zr0 (starEach [e,.Name x a] X.env=(false,eval e X.env)::starEach [.Name x a] X.env)) (h:zr0 (starEach [.Name x a] X.env=(false,eval (.Name x a) X.env)::starEach [] X.env)) (i:zr0 ((backTo pos (starEach [.Name x a] X.env)).any (·.1)=false)):
  PD X (.Call (.Name "isinstance" p) [e,.Name x a] [] pos) (Xb T f):=by
 refine PE.imp (pv B5 u t (by rfl) (gR w (gR (FH l j r (v:=.ty T) rfl s m) kO h) b) (by decide) (by decide) b i) ?_;rintro B H Q ⟨n,d,b,e,k⟩;obtain⟨x,A,c⟩:=bind_some e;by_cases g:RF x=true
 .rw[ai g] at c;cases c
 .rw[aq g] at c;cases c;exact{n,x,b,A,λv C o q=>{x,v,T,_,rfl,(λjG z=>g (by rw[z];rfl)),q,T8 y x,(k.later o).here (bC.d6.mpr rfl)}}
end
section
variable {a c:Expr}{rest:List Stmt}{h:aC->Option Out}
def gd:aC->Option Out:=λρ=>Y (.nx ρ)
def a7(g h:aC->Option Out):aC->Option Out:=λb=>(g b).bind λo=>match o with
 |.nx a=>h a
 |o=>Y o
def f9(f:aC->Od):aC->Option Out:=λa=>(f a).map .rt
def iy(c:aC->Option Bool)(g h:aC->Option Out):aC->Option Out:=λρ=>(c ρ).bind λx=>if x then g ρ else h ρ
abbrev BD:=fZ->aC->Option aC
def tDG(K:Fg)(g:BD):TG:=λv f H Q=>∃e d b,ju K H f e/\bC K H d v/\g d e=Y b/\∀a c,dV H c->ju K c a b->Q a c
def YZ(X:Cx)(a:Expr)(b:BD):Prop:=PG X a (tDG X.K b)
def PG.imp{t u:TG}(h:PG X tg t)(k:∀v σ H Q,u v σ H Q->t v σ H Q):PG X tg u:=λa s σ H v b Q I r q=>@h a s σ H v b Q I r (k _ _ _ _ q)
def NL.imp{b:Lx}{t u:N3}(h:NL X b t)(k:∀v σ H Q,u v σ H Q->t v σ H Q):NL X b u:=λa s σ H v c Q I r q=>@h a s σ H v c Q I r (k _ _ _ _ q)
def F6(i:Nat):BD:=λd a=>Y (a.set i (Y d))
def vq(i:Nat)(j:X.N.Nodup)(g:zr0 (X.N[i]?=Y x))(c:zr 3 (DJ X.env.scope x))(h:zr 1 (X.fn x=true\/X.env.scope.names.lookup x=Y .local)):YZ X (.Name x pos) (F6 i) :=
 PG.imp (mW j g c h) <| by rintro v l H Q ⟨m,d,a,f,b,e,k⟩;cases e;exact k _ H (.refl H) (f.set b)
abbrev RG:=List fZ->aC->Option aC
def ZM(K:Fg)(h:RG):N3:=λg f H Q=>∃d e b,ju K H f d/\a9 K H e g/\h e d=Y b/\∀a c,dV H c->ju K c a b->Q a c
def OD(X:Cx)(a:Lx)(b:RG):Prop:=NL X a (ZM X.K b)
def Xc:RG:=λb a=>match b with | []=>Y a|_=>Z
def JW(b:BD)(f:RG):RG:=λe c=>match e with | []=>Z|d::r=>(b d c).bind λa=>f r a
def JX:OD X [] Xc:=NL.imp zD <| by
 rintro h a H Q ⟨g,f,b,d,c,e,k⟩;cases f with
 |nil=>cases e;exact{a9.eL.mp c,k a H (.refl H) d}
 |cons _ _=>cases e
def ym{bd:BD}{j:RG}(u:YZ X e bd)(t:OD X es j)(h:zr0 ((assignEach (e::es) X.env).map (·.2)=assign e X.env::(assignEach es X.env).map (·.2))):OD X (e::es) (JW bd j) :=
 NL.imp (nM u t h) <| by
  rintro B A H Q ⟨m,y,c,h,s,e,k⟩;cases y with
  |nil=>cases e
  |cons d r=>obtain⟨a,x,w⟩:=bind_some e;sleep 1;obtain⟨v,n,rfl,q,p⟩:=a9.dv.mp s;sleep 2;exact{v,n,rfl,m,d,a,h,q,x,λl C i g=>{a,r,c,g,p.same i,w,λb z o f=>k b z (i.trans o) f}}
def OE(n:Nat)(b:RG):BD:=λd a=>match d with | .tuple ds=>if ds.length=n then b ds a else Z|_=>Z
def OF{k:Nat}{i:RG}(r:X.calm=true)(h:OD X es i)(q:zr0 ((assignEach es X.env).length=n))(b:zr0 ((assignEach es X.env).findIdx? (·.1)=Z)):YZ X (.Tuple es k pos) (OE n i) :=
 PG.imp (DL r h q b) <| by
  rintro v t H Q ⟨j,d,a,o,m,e,k⟩;cases d<;>try (simp[OE] at e;done)
  rename_i g;dsimp only[OE] at e;by_cases c:g.length=n
  .rw[ai c] at e;sleep 1;obtain⟨p,l,rfl,s,f⟩:=m.hU;sleep 2;exact{p,l,rfl,s,by rw[<-f.length];exact c,j,g,a,o,f,e,k}
  .rw[aq c] at e;cases e
def D5(K:Fg)(J:It)(c:Lp)(H:Hp):Prop :=
 ∀a,dV H a->(J.stop c.length a)/\∀(i:Nat) (d:fZ),c[i]?=Y d->J.go i a/\∀x b,J.V1 i a x b->dV a b/\bC K b d x
def tDI(K:Fg)(q:aC->Option Lp):TI:=λd H R=>∃b c,ju K H d b/\q b=Y c/\∀J a,dV H a->D5 K J c a->R J a
def F7(X:Cx)(b a:Expr)(q:aC->Option Lp):Prop:=PI X b a (tDI X.K q)
def PI.imp{t u:TI}(h:PI X tg iter t)(k:∀σ H R,u σ H R->t σ H R):PI X tg iter u:=λa s σ H R I q=>@h a s σ H R I (k _ _ _ q)
def PI.or{t u:TI}(h:PI X tg iter t)(b:PI X tg iter u):PI X tg iter (λσ H R=>t σ H R\/u σ H R):=λa s σ H R I q=>q.elim (@h a s σ H R I) (@b a s σ H R I)
def pC(f:aC->Od):aC->Option Lp:=λρ=>(f ρ).bind λd=>match d with | .list ds=>Y ds | .tuple ds=>Y ds|_=>Z
def OG(h:PD X e f):F7 X tg e (pC f) :=
 PI.imp (PI.or (FJ h) (Jm h)) <| by
  rintro B H R ⟨t,C,u,e,k⟩;obtain⟨d,w,a⟩:=bind_some e;cases d<;>try (simp at a;done)
  .cases a;refine .inl {t,_,u,w,λv s l o=>?_};sleep 1;obtain⟨p,b,rfl,a,j⟩:=bC.fj.mp o;sleep 2;refine{p,rfl,{(b),a},k _ s l λA c=>{{b,c.seq a,by rw[j.length];exact aH _},λi d q=>?_}};obtain⟨x,g,r⟩:=j.get q;refine{{b,x,c.seq a,g},?_};rintro y z ⟨n,m⟩;subst n;have:=m b (c.seq a);rw[g] at this;cases this;exact{.refl _,r.same c}
  .cases a;refine .inr {t,_,u,w,λv s l o=>?_};sleep 1;obtain⟨p,b,rfl,a,j⟩:=o.hU;sleep 2;refine{p,rfl,{(b),a},k _ s l λA c=>{{b,c.xp a,by rw[j.length];exact aH _},λi d q=>?_}};obtain⟨x,g,r⟩:=j.get q;refine{{b,x,c.xp a,g},?_};rintro y z ⟨n,m⟩;subst n;have:=m b (c.xp a);rw[g] at this;cases this;exact{.refl _,r.same c}
def kI(a:Int)(n:Nat):Lp:=(List.range n).map λk=>.int (a+(k:Nat))
def t9{K:Fg}(a:Int)(n:Nat)(H:Hp):D5 K (V2 a n) (kI a n) H:=λh f=>by
 refine{by show n<=(kI a n).length;simp[kI],λi d q=>?_};have b:i<n:=by have:=(aS.mp q).1;simpa [kI] using this
 refine{b,?_};rintro x g ⟨e,c⟩;subst e c;have:d=.int (a+(i:Nat)):=by unfold kI at q;rw[aM,fV b] at q;cases q;rfl
 subst this;exact{.refl _,bC.d5.mpr rfl}
def i9(f:aC->Od):aC->Option Lp:=λa=>(f a).bind λd=>match d with | .int j=>if -(2 ^ 62)<=j/\j<2 ^ 62 then Y (kI 0 j.toNat) else Z|_=>Z
def D6(o:Gl X "range")(n:X.mg "range"=Z)(h:PD X e f)(b:zr0 (starEach [e] X.env=[(false,eval e X.env)])):F7 X tg (.Call (.Name "range" p) [e] [] pos) (i9 f) :=
 PI.imp (x8 o n (gR h kO (by rw[b];rfl)) b) <| by
  rintro r H R ⟨i,s,b,e,k⟩;obtain⟨d,q,a⟩:=bind_some e;cases d<;>try (simp at a;done)
  rename_i j;dsimp only at a;by_cases c:-(2 ^ 62)<=j/\j<2 ^ 62
  .rw[ai c] at a;cases a;exact{i,_,b,q,λv g l m=>{j,by rw[bC.d5.mp m],c.1,c.2,k _ g l (t9 0 _ g)}}
  .rw[aq c] at a;cases a
def rp(f g:aC->Od):aC->Option Lp:=λa=>(f a).bind λd=>(g a).bind λb=>match d,b with
 |.int i,.int j=>if (-(2 ^ 62)<=i/\i<2 ^ 62/\-(2 ^ 62)<=j/\j<2 ^ 62) then Y (kI i (j - i).toNat) else Z
 |_,_=>Z
def D7(u:Gl X "range")(t:X.mg "range"=Z)(h:PD X a fa)(w:PD X b fb)(g:zr0 (starEach [a,b] X.env=[(false,eval a X.env),(false,eval b X.env)]))(c:zr0 (starEach [b] X.env=[(false,eval b X.env)])):
  F7 X tg (.Call (.Name "range" p) [a,b] [] pos) (rp fa fb) :=
 PI.imp (Hv u t (gR h (gR w kO (by rw[c];rfl)) (by rw[g,c])) g c) <| by
  rintro B H R ⟨m,D,g,e,k⟩;obtain⟨d,z,y⟩:=bind_some e;obtain⟨A,x,f⟩:=bind_some y;cases d<;>cases A<;>try (simp at f;done)
  rename_i i j;dsimp only at f;by_cases l:(-(2 ^ 62)<=i/\i<2 ^ 62/\-(2 ^ 62)<=j/\j<2 ^ 62)
  .rw[ai l] at f;cases f;exact{m,_,g,z,λv E n s=>{m,_,g.same n,x,λC o q r=>{i,j,by rw[bC.d5.mp s,bC.d5.mp r],l,k _ o (n.trans q) (t9 i _ o)}}}
  .rw[aq l] at f;cases f
def jl(a:BD)(g:aC->Option Out):Lp->aC->Option Out
 |[],ρ=>Y (.nx ρ)
 |d::ds,ρ=>((a d ρ).bind g).bind λo=>match o with
  |.nx ρ'=>jl a g ds ρ'
  |.ct ρ'=>jl a g ds ρ'
  |.bk ρ'=>Y (.nx ρ')
  |.rt d=>Y (.rt d)
end
def T9(K:Fg)(n:Nat)(f:Lp->Od):Sp:=λb H Q _=>∃a d,a9 K H a b/\a.length=n/\f a=Y d/\KD K H d Q
section
variable {k:Nat}{fa:Addr}{f:Lp->Od}
def jL(n:Nat)(f:Lp->Od)(a:aC->Option Lp):aC->Od:=λρ=>(a ρ).bind λds=>if ds.length=n then f ds else Z
def OH(F:kz X.prog X.w X.K X.mg X.base xf k fa fd ps (T9 X.K n f)) (o:iq k X.A) (s:Gl X x) (q:X.mg x=Y (.ref fa)) (r:W.keepIn X.K (.ref fa)=true) (u:jK X.K fd ps [])
  (v:xh X (e::es) ff) (g:zd0 (zg x)) (t:zr0 (zE e es X)) (b:zr0 ((backTo pos (starEach es X.env)).any (·.1)=false)):
  PD X (.Call (.Name x p) (e::es) [] pos) (jL n f ff) :=
 PE.imp (zP F o s q r u .nil qA v g t b) <| by
  rintro z H Q ⟨i,d,m,e,k⟩;obtain⟨h,y,a⟩:=bind_some e;by_cases c:h.length=n
  .rw[ai c] at a;exact{i,h,m,y,λB C j l=>{h,d,by rw[aK];exact l,c,a,k.later j}}
  .rw[aq c] at a;cases a
def gF(N:Lr)(ds:Lp):aC:=ds.map Y++List.replicate (N.length - ds.length) Z
def mv{K:Fg}{N:Lr}(h:a9 K H ds vs):ju K H (lS N vs) (gF N ds):=by
 have b:=h.length;refine{by simp[lS,gF,b],λi d q=>?_};unfold gF at q;by_cases a:i<ds.length
 .rw[bf (by simpa using a),aM] at q;obtain⟨j,g,f⟩:=aj.mp q;cases f;obtain⟨v,e,c⟩:=h.get g;refine{v,?_,c};unfold lS;rw[bf (by simpa using (by omega:i<vs.length)),aM,e];rfl
 .rw[aP (by simpa using a),bR] at q;split at q<;>cases q
def ij(N:Lr)(g:aC->Option Out):Lp->Od:=λa=>(g (gF N a)).bind λo=>match o with
 |.rt d=>Y d
 |.nx _=>Y .none
 |_=>Z
end
end L2
namespace YW
open PySem PySem.W PySem.Calls PyProof.Rows
def Aa{l:OpenLaw}{q:Program}{b:Lr}{B:(Str->Ow)->Heap->Prop}{A:World->Heap->Prop}{d:DefRec}
  (I:l.most=Y n) (s:d.params.defaults=[])
  (k:∀(w:World) (iH s₁:Shared) (mg mb:Str->Ow) (fa:Addr) (o:Obj) (pm cd doc:Value) (a:Addr) (vs:Lw) (ns:List Int),
   Ground q b [] B w iH mg mb s₁.heap->A w s₁.heap ->
   s₁.heap.get? fa=Y o->o.data=.func (docDef d.name d.params d.body d.scope pm cd doc)->s₁.heap.CodeRec cd d.name->mg d.name=Y (.ref fa) ->
   s₁.heap.get? a=Y { cls:=.type "list",data:=.seq vs.toArray }->IntsAre vs ns->ns.length<=n->(∀x∈ns,L2.kB x=true)->s₁.gens=#[] ->
   codeAny (model l.prog w) callerA (.call (.ref fa) {[.ref a],[]}) (λr s'=>r=.ok (.ret (.bool true))/\OldK s₁.heap s'.heap/\s'.os=s₁.os/\AllBare s'.gens) s₁):
  WalkO q b B A l.row.toRowW d [] (λf vs=>PySem.call f vs):=by
 intro w iH s₁ mg mb G Y fa o pm cd doc P C H M t y hmg L z v Q g j E p K;obtain rfl:P=.none:=Dflts.none y s;obtain rfl:C=.none:=Dflts.noKw y;sleep 1;obtain⟨a,vs,ns,rfl,rfl,h,c,i⟩:=HF I g p;sleep 2;have e:∀x∈ns,L2.kB x=true:=λx D=>by
  have O:=layableW_arg j (WData.list (ns.map WData.int)) (by simp);have m:=layable_int (layableW_item O (.int x) (aw.mpr {(x),D,rfl}));have u:(fZ.int x).layable=decide (Builtin.Int.intBits x<=1048576):=by simp[fZ.layable,fZ.canLay,fZ.depth,fZ.weight,Builtin.Int.intBits]
  rw[u] at m;exact m
 refine enter_call (cO (k w iH s₁ mg mb fa o pm cd doc a vs ns G Y H (fd_plain M) t hmg h c i e L) λr s' F=>?_);obtain⟨rfl,m,u,N⟩:=F;exact{.inl {.bool true,.bool true,[],rfl,λ_=>rfl,.bool true,HG l _,λ_=>{List.Pairwise.nil,λ_ J=>(nomatch J)}},m,u,N}
end YW
namespace L2
open PySem PySem.Spec PyProof.Rows
theorem yn{K:Fg}{H:Hp}:∀a:List Int,a9 K H (a.map fZ.int) (a.map V.int)
 |[]=>a9.nil
 |n::a=>a9.cons (bC.d5.mpr rfl) (yn a)
structure nR (P:Program) (w:World) (K:Fg) (mg:Str->Ow) (base:Heap) (x:Str) (k n:Nat) (f:Lp->Od):Prop where
 ex:∃a fd ps,kz P w K mg base xf k a fd ps (T9 K n f)/\mg x=Y (.ref a)/\W.keepIn K (.ref a)=true/\jK K fd ps []
section
variable {f:Lp->Od}{k:Nat}
theorem JY(O:nR X.prog X.w X.K X.mg X.base x j n f) (h:iq k X.A) (l:Gl X x) (q:xh X (e::es) ff) (i:zd0 (j<=k)) (d:zd0 (zg x))
  (o:zr0 (zE e es X)) (c:zr0 ((backTo pos (starEach es X.env)).any (·.1)=false)):PD X (.Call (.Name x p) (e::es) [] pos) (jL n f ff):=by
 sleep 1;obtain⟨a,s,r,F,m,g,b⟩:=O.ex;sleep 2;exact OH (F.mono i) h l m g b q d o c
end
def HN{l:W.OpenLaw}{k:Nat}{q:Program}{j:Lr}{R:(Str->Ow)->Heap->Prop}{C:World->Heap->Prop}{d:DefRec}{K:Params->Fg}{f:Lp->Od}
  (E:l.most=Y n) (t:n<=sizeLine) (y:d.params.defaults=[]) (D:iq k callerA)
  (N:∀(w:World) (h:Heap),C w h->(K w.params).In h)
  (F:∀(w:World) (mg:Str->Ow) (fa:Addr) (h:Heap),(K w.params).In h->h.Ns mainGlobals mg->mg d.name=Y (.ref fa) ->
   ∃fd:FuncData,(∀(s:Shared) (u:Value),BindsTo s fd {[u],[]} [(x,u)]) /\
    ∀base:Heap,(K w.params).In base->base.Ns mainGlobals mg->kz l.prog w (K w.params) mg base xf k fa fd [x] (T9 (K w.params) 1 f))
  (J:∀ns:List Int,ns.length<=n->(∀x∈ns,kB x=true)->f [.list (ns.map .int)]=Y (.bool true)):
  W.WalkO q j R C l.row.toRowW d [] (λf vs=>PySem.call f vs):=by
 refine YW.Aa E y λw B A mg V fa o U cd Q a vs ns G Y X hd L hmg r m c p I=>?_;have KX:=N w _ Y;obtain⟨fd,M,P⟩:=F w mg fa _ KX G.T.g hmg;refine JE KX G.T.g G.T.b G.T.builtins G.T.nolimit I r m (bJ c t) D P M (λH hO O=>?_) λH e S z=>z;exact{[.list (ns.map .int)],.bool true,a9.cons (bC.fj.mpr {a,_,rfl,O,yn ns}) a9.nil,rfl,J ns c p,λv H' _ i=>bC.d6.mp i}
end L2
namespace L2
open PySem
theorem toNat_inj{a b:Char}(h:a.toNat=b.toNat):a=b:=Char.toNat_inj.mp h
theorem qB:∀{a b:List Char},a.map Char.toNat=b.map Char.toNat->a=b
 |[],[],_=>rfl
 |[],_::_,h=>by simp at h
 |_::_,[],h=>by simp at h
 |a::as,b::bs,h=>by
  rw[ae,ae] at h;injection h with d c
  rw[toNat_inj d,qB c]
def Ab{a b:String}(h:zZ a=zZ b):a=b:=by
 rw[dU,dU] at h;injection h with h
 have c:=bG Array.toList h;simp only[List.toList_toArray] at c;exact String.toList_inj.mp (qB c)
def jm(a b:String):(zZ a==zZ b)=(a==b):=by
 by_cases h:a=b
 .subst h;simp
 .have c:¬ zZ a=zZ b:=λz=>h (Ab z);rw[aF.mpr c,aF.mpr h]
def a8(a:String):fZ.strOk (zZ a)=true:=by
 rw[dU];unfold fZ.strOk;simp only[Array.all_eq_true',List.mem_toArray,aw];rintro x ⟨c,_,rfl⟩;have:=c.valid;simp only[br];have b:c.toNat<1114112:=by
  rcases c.valid with h|h
  .have:c.toNat<55296:=h;omega
  .exact h.2
 exact b
end L2
namespace L2
open PySem PySem.Spec PyProof.Rows
def vr(c:Env)(b:Scope):List (Str×Addr):=(b.names.filterMap λp=>if p.2==NameKind.free then (c.cells.lookup p.1).map λa=>(p.1,a) else Z).reverse
theorem rq(d:Env):∀(b:List (Str×NameKind)) (acc:List (Str×Addr)),(∀p∈b,p.2=.free->∃c,d.cells.lookup p.1=Y c) ->
  (forIn b acc λp cs=>(if (p.2==NameKind.free)=true then do let c <-cellOf d p.1;pure (ForInStep.yield ((p.1,c)::cs)) else pure (ForInStep.yield cs):Sem (ForInStep (List (Str×Addr))))) =
   pure ((b.filterMap λp=>if p.2==NameKind.free then (d.cells.lookup p.1).map λa=>(p.1,a) else Z).reverse++acc)
 |[],acc,_=>rfl
 |p::r,acc,h=>by
  have g:=λacc=>rq d r acc λq j=>h q (ao _ j);rw[dq];by_cases f:p.2=.free
  .obtain⟨c,i⟩:=h p bu f;have e:(p.2==NameKind.free)=true:=by rw[f];rfl
   rw[ai e];have k:cellOf d p.1=pure c:=by unfold cellOf;rw[i]
   rw[k];simp only[pure_bind];rw[g,b5,ai e,i];simp
  .have e:(p.2==NameKind.free)=false:=by simpa using f
   rw[aq (by rw[e];exact aV)];simp only[pure_bind];rw[g,b5,aq (by rw[e];exact aV)]
def nq{a:Env}(h:∀p∈scope.names,p.2=.free->∃c,a.cells.lookup p.1=Y c):closureFor scope a=pure (vr a scope):=by
  have e:=rq a scope.names [] h;unfold closureFor vr;rw[aK] at e;have f:(forIn scope.names ([]:List (Str×Addr)) λx d=>(match x with|(name,b)=>do if (b==NameKind.free)=true then do let c <-cellOf a name;pure (ForInStep.yield ((name,c)::d)) else pure (ForInStep.yield d):Sem (ForInStep (List (Str×Addr)))))=_:=e
  first
    | (simp only[bind_pure] ;exact f)
    | (show (forIn scope.names ([]:List (Str×Addr)) _>>=λd=>pure d)=_
       rw[bind_pure];exact f)
def JZ{b:Env}{c:Addr}(h:(x,c)∈vr b scope):b.cells.lookup x=Y c/\(x,NameKind.free)∈scope.names:=by
 unfold vr at h;rw[List.mem_reverse,bE] at h;obtain⟨⟨n,k⟩,f,e⟩:=h;by_cases d:(k==NameKind.free)=true
 .rw[ai d] at e;obtain⟨a,i,g⟩:=aj.mp e;cases g;have:k=.free:=eq_of_beq d;subst this;exact{(i),f}
 .rw[aq d] at e;cases e
def jS{a:Env}{c:Addr}(h:(vr a scope).lookup x=Y c):a.cells.lookup x=Y c:=(JZ (bQ h)).1
theorem qC{α:Type}{x:Str}{c:α}:∀{l:List (Str×α)},(x,c)∈l->∃d,l.lookup x=Y d
 |[],h=>by cases h
 | (n,a)::r,h=>by
  by_cases e:x=n
  .subst e;exact{a,by simp}
  .rcases ah.mp h with h|h
   .cases h;exact absurd rfl e
   .obtain⟨d,b⟩:=qC h;exact{d,by rw[bx,aF.mpr e];exact b}
def B6{a:Env}{c:Addr}(g:(x,NameKind.free)∈scope.names)(f:a.cells.lookup x=Y c):(vr a scope).lookup x=Y c:=by
 have:(x,c)∈vr a scope:=by unfold vr;rw[List.mem_reverse,bE];exact{(x,.free),g,by rw[ai (by rfl),f];rfl}
 obtain⟨d,b⟩:=qC this;have e:=jS b;rw[f] at e;cases e;exact b
def ua{b:Env}{k:NameKind}(h:(relabel scope b).names.lookup x=Y k):(x,k)∈scope.names\/(k=.cell/\(x,NameKind.free)∈scope.names):=by
 have c:=bQ h;unfold relabel at c;obtain⟨⟨n,f⟩,e,a⟩:=aw.mp c;dsimp only at a;split at a
 .rename_i d;cases a;simp only[aO,bw] at d;obtain⟨⟨rfl,_⟩,_⟩:=d;exact .inr {(rfl),e}
 .cases a;exact .inl e
theorem rz{b:Env}:∀{a:List (Str×NameKind)}{x:Str},a.lookup x=Y .free ->
  (a.map λ(n,k)=>if (k==NameKind.free&&b.scope.kind==.function&&b.kindOf n==Y .cell) then (n,NameKind.cell) else (n,k)).lookup x=Y .cell \/
  (a.map λ(n,k)=>if (k==NameKind.free&&b.scope.kind==.function&&b.kindOf n==Y .cell) then (n,NameKind.cell) else (n,k)).lookup x=Y .free
 |[],_,h=>by simp at h
 | (n,k)::r,x,h=>by
  have d:=@rz b r x;rw[ae];dsimp only;cases c:x==n with
  |true=>
   simp only[bx,c] at h;cases h;split
   .exact .inl (by simp[bx,c])
   .exact .inr (by simp[bx,c])
  |false=>
   simp only[bx,c] at h;split
   .simp only[bx,c];exact d h
   .simp only[bx,c];exact d h
def kL(X:Cx)(a:Scope)(C:Addr)(N:Lr)(s:Shared)(H:Hp)(b:List Addr):Cx where
 prog:=X.prog
 w:=X.w
 K:=X.K
 mg:=X.mg
 base:=X.base
 A:=X.A
 N:=N
 iH:=s
 q9:=H
 env:=compEnvC a (vr X.env a) C X.env
 outer:=X.stack
 stack:=X.stack
 ex:=b
 fn:=λ_=>false
 calm:=true
 pn:=[]
 xe:=λ_ _=>False
def kF(X:Cx)(a:Scope):List (Nat×Str)->Prop
 |[]=>True
 | (j,y)::r=>(X.N[j]?=Y y/\(X.env.kindOf y=Y .cell\/X.env.kindOf y=Y .free)/\a.names.lookup y=Y .free)/\kF X a r
theorem kF.at{X:Cx}{a:Scope}:∀{caps:List (Nat×Str)},kF X a caps->∀{i:Nat}{j:Nat}{y:Str},caps[i]?=Y (j,y)->X.N[j]?=Y y/\(X.env.kindOf y=Y .cell\/X.env.kindOf y=Y .free)/\a.names.lookup y=Y .free
 |[],_,_,_,_,h=>by simp at h
 | (_,_)::_,hc,0,_,_,h=>by simp at h;obtain⟨rfl,rfl⟩:=h;exact hc.1
 | (_,_)::_,hc,i+1,_,_,h=>kF.at hc.2 (i:=i) (by simpa using h)
def xr(a:List (Nat×Str))(b:St):St:=a.map λp=>(b[p.1]?).join
def mw(a:List (Nat×Str))(b:aC):aC:=a.map λp=>(b[p.1]?).join
structure jM (scope:Scope) (x:Str):Prop where
 kind:scope.kind=.function
 J0:∀y∈scope.names,y.2≠.cell
 loc:∀y∈scope.names,y.2=.local->scope.names.lookup y.1=Y .local
 var:scope.names.lookup x=Y .local
 has:True:=aY
section
def Ua(d:Lr) {G:List Addr}{s':Shared} (I:c7 X pins σ H s) (D:X.calm=true) (S:jM scope x) (P:∀p∈scope.names,p.2=.free->∃c,X.env.cells.lookup p.1=Y c) (B:kF X scope caps)
  (N:∀b∈G,pj X pins H b) (M:∀b∈G,∃o,s.heap.get? b=Y o) (R:(zB s)<=C) (k:∀b o,s.heap.get? b=Y o->s'.heap.get? b=Y o) (L:s'.heap.Ns C λ_=>Z) (K:s'.os=s.os) (hg:AllBare s'.gens):
  c7 (kL X scope C (d++caps.map (·.2)) s H G) [] (d.map (λ_=>Z)++xr caps σ) H s':=by
 have t:∀b,b∈(kL X scope C (d++caps.map (·.2)) s H G).fs->b∈X.env.locals::X.fs:=λb f=>I.zu b f;refine{{I.ok.mod,S.kind,I.ok.glob,I.ok.blt,R,λy z c e1 a=>I.ok.inj y z c (jS e1) (jS a),λy hy=>?_,λy c h=>(by cases h),λ_=>I.ok.hd D,I.ok.frames,.inl rfl,λb f=>?_,I.bs,bJ I.ok.NK I.sz,λb o e f=>?_,λb f Q=>?_,I.stack,I.zx},
  K,hg,Un.kept k,{_,L,λi y v e1 a e3=>?_},λy c e=>?_,I.ip.fresh R,λy c e=>I.kM y c (jS e),λp hp=>?_,I.ip.kept k,?_}
 .have J:(relabel scope X.env).names.lookup y=Y .cell\/(relabel scope X.env).names.lookup y=Y .free:=hy;have hm:(y,NameKind.free)∈scope.names:=by
   rcases J with h|h
   .rcases ua h with h | ⟨_,h⟩
    .exact absurd rfl (S.J0 _ h)
    .exact h
   .rcases ua h with h | ⟨h,_⟩
    .exact h
    .cases h
  obtain⟨c,D⟩:=P _ hm rfl;exact{c,B6 hm D}
 .obtain⟨f0,W,V,U,T,f5⟩:=N b f;obtain⟨o,w⟩:=M b f;refine{?_,λy c e=>T y c (jS e)};show b≠C;exact aR (aJ (au w) R)
 .obtain⟨f0,W,V,U,T,f5⟩:=N b f;have hb1:=I.bs b o e;rcases U with h|h
  .exact I.ok.DK b o e h
  .have:=(I.ok.bs b o e).1;exact absurd (aJ (au this) h) (bh _)
 .obtain⟨f0,W,V,U,T,f5⟩:=N b f;rcases ah.mp (t b Q) with h|h
  .exact W h
  .exact V h
 .by_cases A:i<d.length
  .rw[bf (by simpa using A),aM] at a;cases h:d[i]? with
   |none=>rw[h] at a;cases a
   |some z=>rw[h] at a;cases a
  have A:=eD A;have F:(caps.map (·.2))[i - d.length]?=Y y:=by rw[<-aP A];exact e1
  have n:(xr caps σ)[i - d.length]?=Y (Y v):=by rw[aP (by simpa using A)] at a;simpa using a
  rw[aM] at F;obtain⟨⟨j,y'⟩,e4,e5⟩:=aj.mp F;dsimp only at e5;subst e5;unfold xr at n;rw[aM,e4] at n;have E:(σ[j]?).join=Y v:=by simpa using n
  have e7:σ[j]?=Y (Y v):=by
   cases q:σ[j]? with
   |none=>rw[q] at E;cases E
   |some o=>rw[q] at E;cases o with
    |none=>cases E
    |some v'=>cases E;rfl
  obtain⟨c1,c2,c3⟩:=B.at e4;obtain⟨m,hn,hl⟩:=I.loc;have hv:BE X.env.scope y':=by
   rcases c2 with h|h
   .exact .inr (.inl h)
   .exact .inr (.inr h)
  obtain⟨u,r,l⟩:=hl j y' v c1 e7 hv;refine{u,r,.inr {?_,?_}}
  .exact rz c3
  .rcases l with ⟨hk,_⟩ | ⟨_,c,D,g⟩
   .rcases c2 with h|h
    .rw[hk] at h;cases h
    .rw[hk] at h;cases h
   .refine{c,B6 (bQ c3) D,?_};obtain⟨o,w,O⟩:=g;exact{o,k _ _ w,O}
 .obtain⟨v,o,w,O⟩:=I.cell y c (jS e);exact{v,o,k _ _ w,O}
 .exact absurd (show p∈([]:Ax) from hp) (by simp)
 .show (d.map (λ_=>Z)++xr caps σ).length=(d++caps.map (·.2)).length;simp[xr]
def PTs(X:Cx)(b:Lx)(t:TT):Prop :=
 ∀⦃a:Ax⦄ (s:Shared) (σ:St) (H:Hp) (Q:Bool->Hp->Prop),c7 X a σ H s->t σ H Q ->
  (zw X) (forIn b true λc r=>if r=true then do let d <-isTrue c X.env (eval c X.env);pure (ForInStep.yield d) else pure (ForInStep.yield r)) (TP X a σ Q) X.xe s
def uH(X:Cx)(a:Lx)(g:aC->Option Bool):Prop:=PTs X a (ZJ X.K g)
def vt:uH X [] (λ_=>Y true):=by rintro a s c H Q I ⟨d,b,f,e,k⟩;cases e;rw[fg];exact ak {H,I,k H (.refl H)}
def J4{c:Expr}{g:aC->Option Bool}(h:z6 X c g):uH X [c] g:=λa s d H Q I q=>by rw[dq];rw[ai rfl];refine aa (aa (iu (@h a s d H Q I q) λb e f=>ak ?_));show wpAny _ _ (forIn ([]:Lx) b _) _ _ e;rw[fg];exact ak f
def gP(g:aC->Option Bool)(f:aC->Od)(a:aC):Lp->Option Lp
 |[]=>Y []
 |d::ds=>(g (Y d::a)).bind λb=>if b then (f (Y d::a)).bind λy=>(gP g f a ds).bind λc=>Y (y::c) else gP g f a ds
def i8(q:aC->Option Lp)(caps:List (Nat×Str))(g:aC->Option Bool)(f:aC->Od):aC->Od:=λρ=>
 (q ρ).bind λds=>if ds.length<=sizeLine then (gP g f (mw caps ρ) ds).map .list else Z
def ju.cap{K:Fg}(h:ju K H σ ρ)(e:Lr)(a:List (Nat×Str)):ju K H (e.map (λ_=>Z)++xr a σ) (e.map (λ_=>Z)++mw a ρ):=by
 refine{by simp[xr,mw],λi d q=>?_};by_cases c:i<e.length
 .rw[bf (by simpa using c),aM] at q;cases h:e[i]? with
  |none=>rw[h] at q;cases q
  |some z=>rw[h] at q;cases q
 have c:=eD c;rw[aP (by simpa using c),ag] at q ⊢;unfold mw at q;rw[aM] at q;obtain⟨⟨j,y⟩,l,b⟩:=aj.mp q;dsimp only at b;have k:ρ[j]?=Y (Y d):=by
  cases q:ρ[j]? with
  |none=>rw[q] at b;cases b
  |some o=>rw[q] at b;cases o with
   |none=>cases b
   |some m=>cases b;rfl
 obtain⟨v,g,f⟩:=h.2 j d k;refine{v,?_,f};unfold xr;rw[aM,l];simp[g]
def ju.less{K:Fg}{p c:aC}{b:Lr}(h:ju K H σ (p++c))(e:p.length=b.length):ju K H σ (b.map (λ_=>Z)++c):=by
 refine{by rw[h.1];simp[e],λi d q=>?_};by_cases a:i<b.length
 .rw[bf (by simpa using a),aM] at q;cases h:b[i]? with
  |none=>rw[h] at q;cases q
  |some z=>rw[h] at q;cases q
 have a:=eD a;rw[aP (by simpa using a),ag] at q;exact h.2 i d (by rw[aP (by omega),e];exact q)
def Ac{b:Program}{i a:Expr}{g:Lx}{it j:Value}{d:Env} (I:Nat->Shared->Prop)
  (k:∀n s,I n s->wpAny (model b w) A (pyNext it) (λr s₁=>match r with
   |none=>R (.ok .next) s₁
   |some v=>wpAny (model b w) A (letOwnedTupleGo a it v) (λ_ s₁=>wpAny (model b w) A (assign a d v) (λ_ pq=>
     wpAny (model b w) A (forIn g true λc r=>if r=true then do let ok <-isTrue c d (eval c d);pure (ForInStep.yield ok) else pure (ForInStep.yield r)) (λok uI=>
      if ok=true then wpAny (model b w) A (eval i d) (λx Xd=>
       wpAny (model b w) A (call (.builtin "list.append") [j,x]) (λ_ Xe=>∃m,m<n/\I m Xe) (λ_ _=>False) Xd) (λ_ _=>False) uI
      else ∃m,m<n/\I m uI) (λ_ _=>False) pq) (λ_ _=>False) s₁) (λ_ _=>False) s₁) (λ_ _=>False) s)
  (n:Nat) (h:I n s):
  codeAny (model b w) A (.compLoop (.ListComp i [{(a),iter,g,0}] scope pos) 0 it j d) R s:=by
 refine codeAny_loop rfl I (λn s q=>?_) n h;show wpAny _ A ((compTurn (.ListComp i [{(a),iter,g,0}] scope pos) 0 it j d).onRaise (λx=>do noteFrame x d;theTreesLotGoes x)) _ _ s;refine wpAny_noted ?_;rw[compTurn_list];refine aa (wpAny_standAt (aa (bM (k n s q) (λr s₁ e=>?_) λ_ _ z=>False.elim z)));cases r with
 |none=>exact ak e
 |some v=>
  refine aa (bM e (λ_ s₁ e=>?_) λ_ _ z=>False.elim z);refine aa (bM e (λ_ pq p=>aa (bM p (λok uI f=>?_) λ_ _ z=>False.elim z)) λ_ _ z=>False.elim z);cases ok with
  |false=>exact ak {(rfl),f}
  |true=>exact aa (aa (bM f (λx Xd o=>aa (bM o (λ_ Xe l=>ak (ak {(rfl),l})) λ_ _ z=>False.elim z)) λ_ _ z=>False.elim z))
def pD(a:Lw)(n:Nat):Obj:=(zl a.toArray n)
def HP(X:Cx)(e:Expr)(a:Scope)(i:Expr)(t:TE):Prop :=
 ∀(b:Ax) (s:Shared) (σ:St) (H:Hp) (Q:VK) (R:Value->Addr->Result->Shared->Prop),c7 X b σ H s->t σ H Q ->
  (∀(D C:Addr) (j:Shared) (k:Hp) (n:Obj) (m:Str->Ow),c7 X ((C,n)::b) σ k j->j.heap.Ns C m->(∀p∈X.pn++b,p.1≠C)->(zB X.iH)<=C->Q (.ref D) k->R (.ref D) C (.ok .next) j) ->
  (zw X) (eval i X.env) (λl h=>(zw X) (pyIter l) (λit g=>(zw X) (newList []) (λacc f=>
   (zw X) (newFunctionEnv a X.env.globals (vr X.env a) [] X.env.qual Z .none (Y X.env)) (λc d=>
    codeAny (model X.prog X.w) X.A (.compStart e 0 it acc { c with scope:=relabel a X.env }) (R acc c.locals) d) X.xe f) X.xe g) X.xe h) X.xe s
def c7.vu{d:Obj}{g:Heap}(I:c7 X ((C,d)::pins) σ H s)(k:∀p∈X.pn++pins,p.1≠C)(h:(zB X.iH)<=C)(i:Heap.SameBut C s.heap g):c7 X pins σ H { s with heap:=g }:=by have a:=I.pin (C,d) (by simp);have J:c7 X pins σ H s:=I.l6 λp j=>I.pin p (ar _ (ao _ j));refine J.turned (t':=s.toks) (it:=C) (λb o hb e=>(i.2 b hb).trans e) a.2.1 a.2.2.1 (.inr h) (λy c e z=>?_) k;obtain⟨v,o,f,l⟩:=J.cell y c e;rw[z,a.1] at f;cases f;exact a.2.2.2.2 v l
def yo{r:aC->Lp->Option Lp}(a:aC)(d:fZ)(h:((q a).bind λds=>if ds.length<=sizeLine then (r a ds).map fZ.list else Z)=Y d):∃ds b,q a=Y ds/\ds.length<=sizeLine/\r a ds=Y b/\d=.list b:=by
 obtain⟨ds,i,c⟩:=bind_some h;by_cases e:ds.length<=sizeLine
 .rw[ai e] at c;obtain⟨b,g,f⟩:=aj.mp c;exact{ds,b,i,e,g,f.symm}
 .rw[aq e] at c;cases c
def F8{b:Bool}{o:Od}{r:Option Lp}{a:Lp}(h:(if b then o.bind λy=>r.bind λa=>Y (y::a) else r)=Y a):if b=true then ∃y c,o=Y y/\r=Y c/\a=y::c else r=Y a:=by
 cases b with
 |false=>exact h
 |true=>obtain⟨y,g,f⟩:=bind_some h;obtain⟨c,e,d⟩:=bind_some f;cases d;exact{(y),c,g,e,rfl}
def D8{g:aC->Option Bool}(c:aC)(d:fZ)(i a:Lp)(h:gP g f c (d::i)=Y a):∃p b,p.length=1/\F6 0 d ([Z]++c)=Y (p++c)/\g (p++c)=Y b/\if b=true then ∃y j,f (p++c)=Y y/\gP g f c i=Y j/\a=y::j else gP g f c i=Y a:=by obtain⟨b,k,e⟩:=bind_some h;exact{[Y d],b,rfl,rfl,k,F8 e}
def B7(A:Hp->Hp->Lp->List V->Prop) (Xf:∀{b G:Hp}{ds:Lp}{vs:List V},A b G ds vs->ds.length=vs.length) (AS:∀{b G G':Hp}{ds:Lp}{vs:List V},A b G ds vs->dV G G'->A b G' ds vs) {elt:Expr}  (N0:Lr)  {ifs:Lx}    {g:aC->Option Bool}{dd:aC->Od}{bd:BD} (cmp:aC->Lp->Option Lp)
  (hc:X.calm=true) (S:jM scope x) (hcl:∀p∈scope.names,p.2=.free->∃c,X.env.cells.lookup p.1=Y c) (ZN:kF X scope caps)
  (hi:F7 X tg iter q)
  (hg:∀C s H fp,YZ (kL X scope C (N0++caps.map (·.2)) s H fp) tg bd)
  (ht:∀C s H fp,uH (kL X scope C (N0++caps.map (·.2)) s H fp) ifs g)
  (he:∀C s H fp,PE (kL X scope C (N0++caps.map (·.2)) s H fp) elt (λσ G Q=>∃ρ yd,ju X.K G σ ρ/\f ρ=Y yd/\∀v G',dV G G'->(∀b ds vs,A b G ds vs->A b G' (ds++[yd]) (vs++[v]))->Q v G'))
  (Z':∀ρ d,dd ρ=Y d->∃ds ys,q ρ=Y ds/\ds.length<=sizeLine/\cmp (mw caps ρ) ds=Y ys/\d=.list ys) (h0:∀c ys,cmp c []=Y ys->ys=[])
  (h1:∀c d ds ys,cmp c (d::ds)=Y ys->∃p b,p.length=N0.length/\bd d (N0.map (λ_=>Z)++c)=Y (p++c)/\g (p++c)=Y b/\if b=true then ∃y zs,f (p++c)=Y y/\cmp c ds=Y zs/\ys=y::zs else cmp c ds=Y ys):
  HP X (.ListComp elt [{(tg),iter,ifs,0}] scope pos) scope iter (λσ H Q=>∃ρ d,ju X.K H σ ρ/\dd ρ=Y d/\A H H [] []/\∀ys G D vs,d=.list ys->dV H G->G D=Z->A H G ys vs->Q (.ref D) (upd G D (.lst vs))):=by
 intro pins s σ H Q R I ⟨ρ,d,hsD,e,hA0,k⟩ fin;sleep 1;obtain⟨ds,ys,e1,hz,e3,rfl⟩:=Z' ρ d e;sleep 2;refine iu (@hi pins s σ H (λJ H'=>dV H H'/\D5 X.K J ds H') I {ρ,ds,hsD,e1,λJ H' s' w=>{(s'),w}}) λv sA hA=>iu hA ?_;rintro itv M ⟨it,fp,tn,J,H2,eit,I2,T,st2,f2,J5,wd⟩;subst eit;have ZO:=hsD.same J5;refine cS (wpAny_newFunctionEnv S.J0 (by intro y hy;simp at hy) (λN L E=>?_) S.kind);dsimp only at L E ⊢;generalize ZP:M.heap.push { cls:=.type "list",dict:=Z,data:=.seq ([]:Lw).toArray }=V5 at L E ⊢;have hCs:V5.objs.size=(zB M)+1:=by rw[<-ZP,eZ]
 generalize hC:V5.objs.size=C at L E hCs ⊢;generalize hD:(zB M)=D at hCs ⊢;have ZQ:D≠C:=by omega
 have W:(zB M)<=C:=by omega
 have old:∀b o,M.heap.get? b=Y o->N.get? b=Y o:=λb o e=>by have j:=au e;exact E.extBut b o (aR (aJ j W)) (af _ (ZP▸af _ e))
 have hD1:N.get? D=Y (pD [] 0):=by refine E.extBut _ _ ZQ (af _ (ZP▸?_));rw[<-hD];exact aG _ rfl
 have hfo:∀b∈fp,∃o,M.heap.get? b=Y o:=λb j=>by obtain⟨o,ho,_⟩:=T.obj 0 _ st2 b j;exact{(o),ho}
 have I3:c7 (kL X scope C (N0++caps.map (·.2)) M H2 fp) [] (N0.map (λ_=>Z)++xr caps σ) H2 { M with heap:=N,toks:=M.toks+([]:List (Str×Value)).length } :=
  Ua N0 I2 hc S hcl ZN f2 hfo W old L rfl I2.bare
 have ZR:∀b∈fp,b≠D/\b≠C:=λb j=>by obtain⟨o,ho⟩:=hfo b j;have:=au ho;exact{aR (hD▸this),aR (aJ this W)}
 have ZS:∀(X':Cx),X'=kL X scope C (N0++caps.map (·.2)) M H2 fp->∀{G:Hp}{F:St}{s':Shared}{l:Lw}{n:Nat},c7 X' [(D,pD l n)] F G s' ->
   ∀{t':Nat}{h':Heap}{its':Lw}{n':Nat},(∀b o,b≠D->s'.heap.get? b=Y o->h'.get? b=Y o)->h'.get? D=Y (pD its' n')->c7 X' [(D,pD its' n')] F G { s' with heap:=h',toks:=t' }:=by
  intro X' hX G F s' l n J1 t' h' its' n' kk hD';have P:=J1.pin (D,pD l n) (by simp);have J2:c7 X' [] F G s':=J1.l6 λp P=>by cases P
  have J3:c7 X' [] F G { s' with heap:=h',toks:=t' }:=by
   refine J2.turned (it:=D) (λb o j e=>kk b o j e) P.2.1 P.2.2.1 (.inr ?_) (λy c e z=>?_) (λp P=>?_)
   .subst hX;show (zB M)<=D;omega
   .obtain⟨v,o,ho,hd⟩:=J2.cell y c e;rw[z,P.1] at ho;cases ho;have hd':(pD l n).data=.cell v:=hd;cases hd'
   .subst hX;exact absurd (show p∈([]:Ax)++[] from P) (by simp)
  refine J3.l6 λp V5=>?_;have:p=(D,pD its' n'):=by simpa using V5
  subst this;exact{hD',P.2.1,P.2.2.1,P.2.2.2.1,λv z=>by have z':(pD its' n').data=.cell v:=z;cases z'}
 have ZT:D∉tZ X.stack:=λj=>by obtain⟨_,o,ho,_⟩:=I2.stack.mem j;have:=au ho;exact absurd this (by rw[hD];exact bh _)
 have I4:c7 (kL X scope C (N0++caps.map (·.2)) M H2 fp) [(D,pD [] 0)] (N0.map (λ_=>Z)++xr caps σ) H2 { M with heap:=N,toks:=M.toks+([]:List (Str×Value)).length }:=by
  refine I3.l6 λp P=>?_;have:p=(D,pD [] 0):=by simpa using P
  subst this;exact{hD1,I2.ip.fresh (by omega),ZQ,ZT,λv z=>by have z':(pD [] 0).data=.cell v:=z;cases z'}
 have st4:tn 0 N:=T.keep 0 _ _ st2 λb j o e=>old b o e;let X':=kL X scope C (N0++caps.map (·.2)) M H2 fp;have stat:∀{G:Hp}{pl:Ax},(∀p∈pl,p.1=D)->(∀b∈fp,G b=Z)->∀b∈fp,pj X' pl G b:=λ{G pl} hpl hn b j=>by
  sleep 1;obtain⟨f0,f1,f2',f3,f4,f5⟩:=f2 b j;sleep 2;refine{hn b j,(ZR b j).2,λz=>?_,.inl j,λy c e=>f4 y c (jS e),λp P z=>?_}
  .rcases ah.mp (I2.zu b z) with h|h
   .exact f1 h
   .exact f2' h
  .have Xg:p∈pl:=by simpa [X',kL] using P
   exact(ZR b j).1 (by rw[<-z];exact hpl p Xg)
 have loop:∀uI:Shared,uI={ M with heap:=N,toks:=M.toks+([]:List (Str×Value)).length } ->
   codeAny (model X.prog X.w) X.A (.compLoop (.ListComp elt [{(tg),iter,ifs,0}] scope pos) 0 (.ref it) (.ref D) (compEnvC scope (vr X.env scope) C X.env))
    (R (.ref D) C) uI:=by
  rintro uI rfl;refine Ac (λn s'=>∃(i:Nat) (F:St) (G:Hp) (l:Lw) (vs:List V) (m:Nat) (done:Lp) (Y0:Lp),c7 X' [(D,pD l m)] F G s'/\tn i s'.heap/\(∀b∈fp,G b=Z)/\dV H2 G/\ju X.K G F (N0.map (λ_=>Z)++mw caps ρ) /\
    fv vs l/\A H G done vs/\done.length<=i/\i<=ds.length/\cmp (mw caps ρ) (ds.drop i)=Y Y0/\ys=done++Y0/\n=ds.length - i) ?_ ds.length
   {0,_,H2,[],[],0,[],ys,I4,st4,λb j=>(f2 b j).1,.refl _,ZO.cap N0 caps,.nil,AS hA0 J5,aH _,eJ _,by simpa using e3,rfl,by simp}
  rintro n s' ⟨i,F,G,l,vs,m,done,Y0,JJ,st,fr,sG,ZU,rv,Ub,hdi,hil,e5,e6,rfl⟩;obtain⟨w1,w2⟩:=wd G sG;by_cases RH:i<ds.length
  .
   have hd:ds[i]?=Y ds[i]:=aN RH;obtain⟨w3,w4⟩:=w2 i _ hd;rw[cI RH] at e5;sleep 1;obtain⟨pr,b,hpr,ebd,eb,e7⟩:=h1 _ _ _ _ e5;sleep 2;refine iu (T.item X' rfl rfl rfl rfl i _ s' F G (λ_ _=>False) JJ (stat (by simp) fr) st w3) ?_;rintro r s5 ⟨u,hr,h5⟩;subst hr;refine iu h5 ?_;rintro _ s6 ⟨y,G6,J6,r6,y6,ZV,fr6⟩;obtain⟨s7,i7⟩:=w4 y G6 y6;have ZW:=stat (G:=G6) (pl:=[(D,pD l m)]) (by simp) fr6;have J6':=J6.pinned ZW (T.obj _ _ ZV);have Xh:ju X.K G6 F (N0.map (λ_=>Z)++mw caps ρ):=ZU.same s7;refine iu (hg C M H2 fp s6 F G6 y u (λU H8=>dV G6 H8/\ju X.K H8 U (pr++mw caps ρ)) J6' r6 {_,ds[i],pr++mw caps ρ,Xh,i7,ebd,λU H8 s8 h8=>{(s8),h8}}) ?_;rintro _ s8 ⟨U,G8,J8,O,OI⟩;refine iu (ht C M H2 fp s8 U G8 (λc H9=>c=b/\dV G8 H9) J8 {_,b,OI,eb,λH9 s9=>{(rfl),s9}}) ?_;rintro ok s9 ⟨G9,J9,⟨ip,t⟩⟩;subst ip;have RI:∀{σ7:St}{G7:Hp}{s7:Shared}{pl:Ax},c7 X' (pl++vh fp s6.heap) σ7 G7 s7->tn (i+1) s7.heap/\∀b∈fp,G7 b=Z:=λ{σ7 G7 s7 pl} J7=>by refine{T.keep _ _ _ ZV λb j o e=>(J7.pin (b,o) (ar _ (ar _ (om j e)))).1,λb j=>?_};obtain⟨o,e,d⟩:=T.obj _ _ ZV b j;exact(J7.pin (b,o) (ar _ (ar _ (om j e)))).2.1
   cases ok with
   |false=>rw[aq aV] at e7 ⊢;obtain⟨k1,k2⟩:=RI J9;exact{ds.length - (i+1),by omega,i+1,U,G9,l,vs,m,done,Y0,J9.pk,k1,k2,sG.trans (s7.trans (O.trans t)),(OI.less hpr).same t,rv,AS Ub (s7.trans (O.trans t)),by omega,RH,e7,e6,rfl}
   |true=>
    rw[ai rfl] at e7 ⊢;sleep 1;obtain⟨yd,ys2,e8,e10,rfl⟩:=e7;sleep 2;refine iu (he C M H2 fp s9 U G9 (λv ZX=>dV G9 ZX/\∀b ds vs,A b G9 ds vs->A b ZX (ds++[yd]) (vs++[v])) J9 {_,yd,OI.same t,e8,λv ZX Y1 ZY=>{(Y1),ZY}}) ?_;rintro u10 Y1 ⟨v10,G10,J10,r10,Ka,ZY⟩;obtain⟨k1,k2⟩:=RI J10;have J11:c7 X' [(D,pD l m)] U G10 Y1:=J10.pk;have Y2:=J11.pin (D,pD l m) (by simp);have hlen:l.length<=sizeLine:=by have h1:=rv.length;have h2:=Xf Ub;omega
    refine wpAny_list_append_plain (hsz:=by rw[aB];exact hlen) {m,Y2.1} ?_;rintro h12 ⟨n12,ZZ⟩ Xi;have J12:=ZS X' rfl J11 (t':=Y1.toks) (h':=h12) (its':=l++[u10]) (n':=n12) (λb o j e=>(Xi.2 b j).trans e) (by rw[ZZ];simp[pD]);refine{ds.length - (i+1),by omega,i+1,U,G10,l++[u10],vs++[v10],n12,done++[yd],ys2,J12,?_,k2,sG.trans (s7.trans (O.trans (t.trans Ka))),(OI.less hpr).same (t.trans Ka),rv.append (.cons r10 .nil),ZY _ _ _ (AS Ub (s7.trans (O.trans t))),by simp;omega,RH,e10,by simp[e6],rfl};exact T.keep _ _ _ k1 λb j o e=>(Xi.2 b (ZR b j).1).trans e
  .
   have hiL:i=ds.length:=by omega
   subst hiL;rw[List.drop_length] at e5;cases h0 _ _ e5;rw[aK] at e6;subst e6;refine iu (T.done X' rfl rfl rfl rfl _ _ s' F G (λ_ _=>False) JJ (stat (by simp) fr) st w1) ?_;rintro r s9 ⟨hr,J9⟩;subst hr;have Y2:=J9.pin (D,pD l m) (by simp);obtain⟨mC,hnC,_⟩:=J9.loc;have V6:G D=Z:=Y2.2.1;have hGC:G C=Z:=J9.free;have Z0:oP X.prog X.w (upd G D (.lst vs)) s9.heap:=λa o e=>by
    by_cases ha:a=D
    .subst ha;rw[eB] at e;cases e;have h1:=rv.length;have h2:=Xf Ub;exact{by omega,l,m,rv,Y2.1}
    .rw[c8 ha] at e;exact(J9.ip a o e).q8 (λc w' hcc q=>q) (λc q=>by rw[c8 (gz q V6)];exact q) λc xs q=>by rw[c8 (gz q V6)];exact q
   have ne2:∀b o,M.heap.get? b=Y o->b≠C/\b≠D:=λb o e=>by have:=au e;exact{aR (aJ this W),aR (hD▸this)}
   have un:Un (tZ X.stack) fp H2 (upd G D (.lst vs)) M.heap s9.heap:=by
    have B:=J9.base;refine{λb o e n j hx=>B.keep b o e n j hx,λb o e n j hx=>B.slot b o e n j hx,λb o e n hx=>by rw[c8 (ne2 b o e).2];exact B.free b o e n hx,λb o e hx=>B.there b o e hx,λb xs e=>by rw[c8 (gz (B.pa b xs e) V6)];exact B.pa b xs e,
     λb o u e=>by rw[c8 (gz (B.oZ b o u e) V6)];exact B.oZ b o u e,λb ps e=>?_}
    obtain⟨mm,e1⟩:=B.qu b ps e;exact{mm,by rw[c8 (gz e1 V6)];exact e1}
   have I9:c7 X pins σ (upd G D (.lst vs)) s9:=I2.Wi (s':=s9) (ch:=fp) J9.os un Z0 J9.bare (λb j=>by obtain⟨f0,f1,f2',f3,f4,f5⟩:=f2 b j;exact{(f3),f1,f4,f5});have hpn:∀p∈X.pn++pins,p.1≠C:=λp P=>(ne2 p.1 p.2 (I2.pin p P).1).1;have hCz:(zB X.iH)<=C:=bJ I2.sz W;sleep 1;obtain⟨oC,es,ep,hoC,rC⟩:=hnC;sleep 2;have Z1:C∉X.fs:=λj=>by
    have h1:=J9.ok.Hq;have:C∈tZ X.stack:=by
     rcases I2.ok.S0 with z | ⟨z,_⟩
     .rw[z];exact j
     .rw[z];obtain⟨a,h1,h2⟩:=bE.mp j;exact bE.mpr {a,ao _ h1,h2}
    obtain⟨_,o,ho,_⟩:=I2.stack.mem this;exact(ne2 C o ho).1 rfl
   have hCL:C≠X.env.locals:=λz=>by obtain⟨mL,hnL,_⟩:=I2.loc;sleep 1;obtain⟨oL,_,_,Zd,_⟩:=hnL;sleep 2;exact(ne2 _ oL Zd).1 z.symm
   refine fin D C s9 _ oC mC (I9.l6 λp P=>?_) {(oC),es,ep,hoC,rC} hpn hCz (k _ _ D _ rfl (J5.trans sG) V6 Ub);rcases ah.mp P with z|z
   .subst z;refine{hoC,by rw[c8 (Ne.symm ZQ)];exact hGC,hCL,Z1,λv z=>?_};rw[rC.1] at z;cases z
   .exact I9.pin p (ar _ z)
 exact codeAny_compStart_list (loop _ rfl) (T.self X.A 0 _ _ _ st4 (loop _ rfl))
def vv(A:Hp->Hp->Lp->List V->Prop) (j:∀{b G:Hp}{ds:Lp}{vs:List V},A b G ds vs->ds.length=vs.length) (w:∀{b G G':Hp}{ds:Lp}{vs:List V},A b G ds vs->dV G G'->A b G' ds vs) {i:Expr}{n:Pos}{a:Lx}{g:aC->Option Bool}
  (u:X.calm=true) (S:jM scope x) (l:∀p∈scope.names,p.2=.free->∃c,X.env.cells.lookup p.1=Y c) (h:kF X scope caps) (k:(x::caps.map (·.2)).Nodup)
  (r:F7 X (.Name x n) iter q)
  (o:∀C s H fp,uH (kL X scope C (x::caps.map (·.2)) s H fp) a g)
  (t:∀C s H fp,PE (kL X scope C (x::caps.map (·.2)) s H fp) i (λσ G Q=>∃ρ yd,ju X.K G σ ρ/\f ρ=Y yd/\∀v G',dV G G'->(∀b ds vs,A b G ds vs->A b G' (ds++[yd]) (vs++[v]))->Q v G')):
  HP X (.ListComp i [{.Name x n,iter,a,0}] scope pos) scope iter (λσ H Q=>∃ρ d,ju X.K H σ ρ/\i8 q caps g f ρ=Y d/\A H H [] []/\∀m G D vs,d=.list m->dV H G->G D=Z->A H G m vs->Q (.ref D) (upd G D (.lst vs))):=
 B7 A j w [x] (gP g f) u S l h r (λC s H fp=>vq 0 k rfl (.inl (cv S.var)) (.inr (cv S.var))) o t yo (λ_ _ e=>by cases e;rfl) D8
def F9{a:Expr}{l:Cx}(h:PD l a f)(m:l.K=X.K):PE l a (λσ G Q=>∃d g,ju X.K G σ d/\f d=Y g/\∀v c,dV G c->(∀(b:Hp) ds vs,a9 X.K G ds vs->a9 X.K c (ds++[g]) (vs++[v]))->Q v c) :=
 PE.imp h <| by rintro σ G Q ⟨d,g,n,e,k⟩;exact{d,g,by rw[m];exact n,e,λv c s i=>k v c s λ_ _ _ j=>(j.same s).append (a9.cons (by rw[m] at i;exact i) a9.nil)}
def HP.data{g:aC->Od}(h:HP X e scope iter (λσ H Q=>∃ρ d,ju X.K H σ ρ/\g ρ=Y d/\a9 X.K H [] []/\∀ys G D vs,d=.list ys->dV H G->G D=Z->a9 X.K G ys vs->Q (.ref D) (upd G D (.lst vs)))):HP X e scope iter (tD X.K g) :=
 λa s σ H Q R I ⟨ρ,d,b,e,k⟩ c=>h a s σ H Q R I {ρ,d,b,e,a9.nil,λys G D vs l i f j=>k _ _ (i.trans (iV f)) (by rw[l];exact BZ f j)} c
def Ga{d:Expr}{j:Pos}{a:Lx}{g:aC->Option Bool}
  (n:X.calm=true) (S:jM scope x) (i:∀p∈scope.names,p.2=.free->∃c,X.env.cells.lookup p.1=Y c) (b:kF X scope caps) (e:(x::caps.map (·.2)).Nodup)
  (l:F7 X (.Name x j) iter q)
  (k:∀C s H fp,uH (kL X scope C (x::caps.map (·.2)) s H fp) a g)
  (m:∀C s H fp,PD (kL X scope C (x::caps.map (·.2)) s H fp) d f):HP X (.ListComp d [{.Name x j,iter,a,0}] scope pos) scope iter (tD X.K (i8 q caps g f)):=
 (vv (λ_ G ds vs=>a9 X.K G ds vs) a9.length (λh s=>h.same s) n S i b e l k λC s H fp=>F9 (m C s H fp) rfl).data
def HP.pe{d:Expr}{i:Pos}{b:Lx}{t:TE} (h:HP X (.ListComp d [{.Name x i,iter,b,0}] scope pos) scope iter t) (S:jM scope x) (f:∀p∈scope.names,p.2=.free->∃c,X.env.cells.lookup p.1=Y c)
  (k:zr 2 (∀x,foldedSetIterable iter X.env x=pure x)):PE X (.ListComp d [{.Name x i,iter,b,0}] scope pos) t:=by
 intro a s g H Q I o;rw[eval_ListComp];refine dJ (use:=Z) rfl k (nq f) S.kind S.loc (@h a s g H Q (compPost (model X.prog X.w) X.A X.xe Z (EP X a g Q)) I o ?_);intro D C v u y m r n l j q;exact{m,n,λz e=>{.ref D,u,r.vu l j e,rfl,q}}
def OJ{e:Expr}{i:Pos}{a:Lx}{g:aC->Option Bool}
  (n:X.calm=true) (S:jM scope x) (b:∀p∈scope.names,p.2=.free->∃c,X.env.cells.lookup p.1=Y c) (d:kF X scope caps) (h:(x::caps.map (·.2)).Nodup)
  (l:F7 X (.Name x i) iter q)
  (j:∀C s H fp,uH (kL X scope C (x::caps.map (·.2)) s H fp) a g)
  (m:∀C s H fp,PD (kL X scope C (x::caps.map (·.2)) s H fp) e f)
  (k:zr 2 (∀x,foldedSetIterable iter X.env x=pure x)):PD X (.ListComp e [{.Name x i,iter,a,0}] scope pos) (i8 q caps g f) :=
 (Ga n S b d h l j m).pe S b k
def Ad{g f:Pos}{d:Expr}{k:Pos}{b:Lx}{t:TE} (h:HP X (.ListComp d [{.Name x k,iter,b,0}] scope pos) scope iter t) (S:jM scope x) (r:∀p∈scope.names,p.2=.free->∃c,X.env.cells.lookup p.1=Y c)
  (V:X.N.Nodup) (T:X.N[i]?=Y y) (F:X.env.scope.names.lookup y=Y .local) (l:swapsWith (.ListComp d [{.Name x k,iter,b,0}] scope pos) (Y (.Name y g)) f.line X.env=pure true)
  (O:zr 2 (∀x,foldedSetIterable iter X.env x=pure x)):PS X (.Assign [.Name y g] (.ListComp d [{.Name x k,iter,b,0}] scope pos) f) (S8 t (FI i)):=by
 intro a s B H D I U;rw[exec_Assign_Name_used _ _ _ _ l];refine aa (wpAny_standAt (aa ?_));show wpAny _ X.A (do let _ <-comprehension (.ListComp d [{.Name x k,iter,b,0}] scope pos) scope X.env _ (newList []) false (eval iter X.env) (Y (assign (.Name y g) X.env))) _ _ s;refine aa (bM (dJ (use:=Y (assign (.Name y g) X.env)) (Q:=λ_ j=>SP X a D .next j) rfl O (nq r) S.kind S.loc
  (@h a s B H _ (compPost (model X.prog X.w) X.A X.xe (Y (assign (.Name y g) X.env)) (λ_ j=>SP X a D .next j)) I U ?_)) (λ_ j hq=>ak (ak hq)) λ_ _ e=>e)
 intro z C K W E m G R P M q;show wpAny _ X.A (assign (.Name y g) X.env (.ref z)) _ _ _;refine bM (mW V T (.inl F) (.inr F) K B W (.ref z) (.ref z) (λsM H'=>D.nx sM H') G rfl q) (?_) λ_ _ e=>e;rintro _ j ⟨sM,H',J,L⟩;have v:=J.pin (C,E) (by simp);have u:=G.pin (C,E) (by simp);refine{m,R.at' λo e=>?_,λh' n=>{sM,H',J.vu P M n,L}};rw[u.1] at e;cases e;exact v.1
end
def Kb:HO->Prop
 |.lst _=>True
 |.dK _=>True
 |_=>False
def b9(G:Hp):List (Addr×HO)->Hp
 |[]=>G
 | (p,o)::r=>upd (b9 G r) p o
inductive o8:List (Addr×HO)->Prop
 |nil:o8 []
 |one {p:Addr}{o:HO}{r:List (Addr×HO)}:Kb o->o8 r->o8 ((p,o)::r)
 |ins {p C dx:Addr}{fs:List (Str×V)}{r:List (Addr×HO)}:o8 r->o8 ((p,.ins C dx fs)::(dx,.own p)::r)
def o8.append{A:List (Addr×HO)}(h:o8 A)(h':o8 B):o8 (A++B):=by
 induction h with
 |nil=>exact h'
 |one f _ a=>exact .one f a
 |ins _ a=>exact .ins a
structure jv (G:Hp) (B:List (Addr×HO)):Prop where
 nd:(B.map (·.1)).Nodup
 free:∀x∈B,G x.1=Z
 ok:o8 B
theorem jv.nil{G:Hp}:jv G []:={List.nodup_nil,(λx a=>by cases a),.nil}
theorem gK{G:Hp}{a:Addr}:∀{B:List (Addr×HO)},(∀x∈B,x.1≠a)->b9 G B a=G a
 |[],_=>rfl
 | (p,o)::r,h=>by show upd (b9 G r) p o a=G a;rw[c8 (Ne.symm (h (p,o) (by simp)))];exact gK λx b=>h x (ao _ b)
theorem gp{G:Hp}:∀{B:List (Addr×HO)},(B.map (·.1)).Nodup->∀x∈B,b9 G B x.1=Y x.2
 |[],_,_,h=>by cases h
 | (p,o)::r,nd,x,hx=>by
  rw[ae,bN] at nd;rcases ah.mp hx with e|hx
  .subst e;exact eB
  .show upd (b9 G r) p o x.1=Y x.2;have a:x.1≠p:=λe=>nd.1 (by rw[<-e];exact aw.mpr {(x),hx,rfl});rw[c8 a];exact gp nd.2 x hx
def ub(B:List (Addr×HO)):(∃x∈B,x.1=a)\/(∀x∈B,x.1≠a):=by
 by_cases h:∃x∈B,x.1=a
 .exact .inl h
 .exact .inr λx b e=>h {(x),b,e}
def qh(c:(B.map (·.1)).Nodup)(e:∀x∈B,H x.1=Y x.2)(d:∀a,(∀x∈B,x.1≠a)->H a=G a):H=b9 G B:=by
 funext a
 rcases ub (a:=a) B with ⟨x,b,rfl⟩|h
 .rw[e x b,gp c x b]
 .rw[d a h,gK h]
theorem hE(G:Hp):∀(A B:List (Addr×HO)),b9 G (A++B)=b9 (b9 G B) A
 |[],_=>rfl
 | (p,o)::r,B=>by show upd (b9 G (r++B)) p o=upd (b9 (b9 G B) r) p o;rw[hE G r B]
def ik{A:List (Addr×HO)}(d:(A.map (·.1)).Nodup)(h:A.Perm B):b9 G A=b9 G B:=by have b:(B.map (·.1)).Nodup:=(h.map (·.1)).nodup_iff.mp d;refine qh b (λx c=>gp d x (h.mem_iff.mpr c)) λa e=>gK λx c=>e x (h.mem_iff.mp c)
def jv.same(f:jv G B):dV G (b9 G B):=λa o e=>by
 rw[gK λx b z=>?_]
 .exact e
 .have:=f.free x b;rw[z,e] at this;cases this
def jv.B8{A:List (Addr×HO)}(f:jv G (A++B))(d:o8 A):jv (b9 G B) A:=by have a:=f.nd;rw[aD,aX] at a;refine{a.1,λx b=>?_,d};rw[gK λy c z=>a.2.2 _ (aw.mpr {(x),b,rfl}) _ (aw.mpr {(y),c,rfl}) z.symm];exact f.free x (aA _ b)
def jv.B9{A:List (Addr×HO)}(f:jv G (A++B))(c:o8 B):jv G B:=by have a:=f.nd;rw[aD,aX] at a;exact{a.2.1,λx b=>f.free x (ar _ b),c}
def jv.join{A:List (Addr×HO)}(f:jv G B)(g:jv (b9 G B) A):jv G (A++B):=by
 have d:∀x∈A,∀y∈B,x.1≠y.1:=λx e y c z=>by have i:=g.free x e;rw[z,gp f.nd y c] at i;cases i
 refine{?_,λx e=>?_,g.ok.append f.ok}
 .rw[aD,aX];refine{g.nd,f.nd,λa k b j z=>?_};obtain⟨x,e,rfl⟩:=aw.mp k;obtain⟨y,c,rfl⟩:=aw.mp j;exact d x e y c z
 .rcases ay.mp e with h|h
  .have i:=g.free x h;rw[gK λy c z=>d x h y c z.symm] at i;exact i
  .exact f.free x h
def jv.perm{A:List (Addr×HO)}(f:jv G A)(h:A.Perm B)(a:o8 B):jv G B :=
 {(h.map (·.1)).nodup_iff.mp f.nd,λx b=>f.free x (h.mem_iff.mpr b),a}
section
variable {p:Addr}
def OK(I:c7 X pins σ (upd H p o) s)(g:Kb o):∃a,s.heap.get? p=Y a/\∀v,a.data≠.cell v:=by
 have h:=I.ip p o eB;cases o with
 |lst d=>sleep 1;obtain⟨_,b,n,_,e⟩:=h;sleep 2;exact{_,e,λv z=>by have c:Data.seq b.toArray n=.cell v:=z;cases c}
 |dK f=>sleep 1;obtain⟨_,_,d,_,a,j,k,e,_,i,_⟩:=h;sleep 2;exact{a,e,λv z=>by rw[i] at z;cases z}
 |_=>exact g.elim
def Kc{P:Program}{f:Heap}{a:Obj}(k:Kb o)(x:iS P w H h p o)(e:h.get? p=Y a)(g:f.get? p=Y a):iS P w H' f p o:=by
 cases o with
 |lst d=>sleep 1;obtain⟨z,b,n,r,q⟩:=x;sleep 2;rw[e] at q;cases q;exact{(z),b,n,r,g}
 |dK j=>sleep 1;obtain⟨z,y,d,r,i,l,m,q,c⟩:=x;sleep 2;rw[e] at q;cases q;exact{(z),y,d,r,a,l,m,g,c}
 |_=>exact k.elim
def Xj(I:c7 X pins σ (upd H p o) s)(V:H p=Z)(j:Kb o):∃k,c7 X (pins++[(p,k)]) σ H s /\
  ∀(G:Hp) (s':Shared) (sM:St),c7 X (pins++[(p,k)]) sM G s'->G p=Z/\c7 X pins sM (upd G p o) s':=by
 obtain⟨k,D,f⟩:=OK I j;have nt:∀b u,H b=Y u->b≠p:=λb u e=>gz e V;have t:∀b,upd H p o b=Z->b≠p/\H b=Z:=λb e=>by
  have g:b≠p:=λz=>by rw[z,eB] at e;cases e
  rw[c8 g] at e;exact{(g),e}
 have F:∀b u,upd H p o b=Y u->u≠o->H b=Y u:=λb u e hu=>by
  by_cases g:b=p
  .rw[g,eB] at e;cases e;exact absurd rfl hu
  .rw[c8 g] at e;exact e
 have l:∀i,(HO.tup i)≠o:=λi e=>by rw[<-e] at j;exact j
 have B:∀q u,(HO.IX q u)≠o:=λq u e=>by rw[<-e] at j;exact j
 have y:∀w,(HO.NV w)≠o:=λw e=>by rw[<-e] at j;exact j
 have A:∀a,(HO.own a)≠o:=λa e=>by rw[<-e] at j;exact j
 have W:p≠X.env.locals:=λz=>by have:=I.free;rw[<-z,eB] at this;cases this
 have T:p∉X.fs:=λg=>by obtain⟨_,q,d,_⟩:=I.ok.o1.mem g;have:=I.base.free p q d (I.ok.Hq p g) λz=>I.ok.zt p z g;rw[eB] at this;cases this
 have P:∀q∈X.pn++pins,q.1≠p:=λq d=>(t q.1 (I.pin q d).2.1).1;have h0:∀q,X.iH.heap.get? p=Y q->X.q9 p=Z->p∈X.ex:=λq d S=>by
  by_cases r:p∈X.ex
  .exact r
  .have:=I.base.free p q d S r;rw[eB] at this;cases this
 refine{k,?_,?_}
 .refine{I.ok,I.os,I.bare,{I.base.keep,I.base.slot,λb q e n r=>(t b (I.base.free b q e n r)).2,I.base.there,λb i e=>F b _ (I.base.pa b i e) (l i),λb q u e=>F b _ (I.base.oZ b q u e) (B q u),λb w e=>?_},I.loc,I.cell,(t _ I.free).2,λx c e=>(t c (I.kM x c e)).2,λq d=>?_,λa u e=>?_,I.len}
  .obtain⟨m,U⟩:=I.base.qu b w e;exact{m,F b _ U (y _)}
  .rcases ay.mp d with h|h
   .obtain⟨M,L,K⟩:=I.pin q (aA _ h);exact{M,(t _ L).2,K}
   .rcases ay.mp h with h|h
    .obtain⟨M,L,K⟩:=I.pin q (ar _ h);exact{M,(t _ L).2,K}
    .have:q=(p,k):=by simpa using h
     subst this;exact{(D),V,W,T,f}
  .have N:=nt a u e;exact(I.ip a u (by rw[c8 N];exact e)).q8 (λ_ _ _ q=>q) (λb q=>F b _ q (A a)) λb i q=>F b _ q (l i)
 .intro G s' sM J;have R:=J.pin (p,k) (ar _ (ar _ (by simp)));have E:G p=Z:=R.2.1;have C:∀b u,G b=Y u->upd G p o b=Y u:=λb u e=>by rw[c8 (gz e E)];exact e
  refine{E,{J.ok,J.os,J.bare,{J.base.keep,J.base.slot,λb q e n r=>?_,J.base.there,λb i e=>C b _ (J.base.pa b i e),λb q u e=>C b _ (J.base.oZ b q u e),λb w e=>?_},J.loc,J.cell,?_,λx c e=>?_,λq d=>?_,λa u e=>?_,J.len}}
  .have g:b≠p:=λz=>by subst z;exact r (h0 q e n)
   rw[c8 g];exact J.base.free b q e n r
  .obtain⟨m,U⟩:=J.base.qu b w e;exact{m,C b _ U}
  .rw[c8 (Ne.symm W)];exact J.free
  .have hc:c≠p:=λz=>by
    obtain⟨v,q,d,hd⟩:=J.cell x c e;rw[z] at d;have Q:s'.heap.get? p=Y k:=R.1;rw[Q] at d;cases d;exact f v hd
   rw[c8 hc];exact J.kM x c e
  .have O:q∈X.pn++(pins++[(p,k)]):=by
    rcases ay.mp d with h|h
    .exact aA _ h
    .exact ar _ (aA _ h)
   obtain⟨M,L,K⟩:=J.pin q O;exact{M,by rw[c8 (P q d)];exact L,K}
  .by_cases N:a=p
   .subst N;rw[eB] at e;cases e;exact Kc j (I.ip a o eB) D R.1
   .rw[c8 N] at e;exact(J.ip a u e).q8 (λ_ _ _ q=>q) (λb q=>C b _ q) λb i q=>C b _ q
def Xk{d:Addr}{y:List (Str×V)}(I:c7 X pins σ (upd (upd H d (.own p)) p (.ins C d y)) s)(hn:H p=Z)(Q:H d=Z)(hne:d≠p):∃ob t,c7 X (pins++[(p,ob),(d,t)]) σ H s /\
  ∀(G:Hp) (s':Shared) (sM:St),c7 X (pins++[(p,ob),(d,t)]) sM G s'->G p=Z/\G d=Z/\c7 X pins sM (upd (upd G d (.own p)) p (.ins C d y)) s':=by
 sleep 1;obtain⟨z1,z2,z3,hob,mA,ns,rl,wi⟩:=(show iS X.prog X.w (upd (upd H d (.own p)) p (.ins C d y)) s.heap p (.ins C d y) from I.ip p _ eB);sleep 2
 sleep 1;obtain⟨t,es,ep,P,S,D⟩:=id ns;sleep 2;have r:∀v,(W.instObj C d).data≠.cell v:=λv z=>by cases z
 have j:∀v,t.data≠.cell v:=λv z=>by
  first
  | (rw[S] at z;cases z)
  | (rw[S.2.2] at z;cases z)
  | (rw[D.1] at z;cases z)
 have A:∀(F:Hp),upd (upd F d (.own p)) p (.ins C d y) d=Y (.own p):=λF=>by rw[c8 hne,eB]
 have K:∀b,upd (upd H d (.own p)) p (.ins C d y) b=Z->b≠p/\b≠d/\H b=Z:=λb e=>by
  have i:b≠p:=λz=>by rw[z,eB] at e;cases e
  rw[c8 i] at e;have g:b≠d:=λz=>by rw[z,eB] at e;cases e
  rw[c8 g] at e;exact{(i),g,e}
 have nG:∀(G:Hp),G p=Z->G d=Z->∀b u,G b=Y u->upd (upd G d (.own p)) p (.ins C d y) b=Y u:=λG g1 g2 b u e=>by rw[c8 (gz e g1),c8 (gz e g2)];exact e
 have bk:∀(G:Hp) b u,upd (upd G d (.own p)) p (.ins C d y) b=Y u->u≠.ins C d y->u≠.own p->G b=Y u:=λG b u e hu hu2=>by
  by_cases i:b=p
  .rw[i,eB] at e;cases e;exact absurd rfl hu
  .rw[c8 i] at e;by_cases g:b=d
   .rw[g,eB] at e;cases e;exact absurd rfl hu2
   .rw[c8 g] at e;exact e
 have hL:p≠X.env.locals:=λz=>by have:=I.free;rw[<-z,eB] at this;cases this
 have U:d≠X.env.locals:=λz=>by have:=I.free;rw[<-z,A] at this;cases this
 have Z2:p∉X.fs:=λi=>by obtain⟨_,q,f,_⟩:=I.ok.o1.mem i;have:=I.base.free p q f (I.ok.Hq p i) λz=>I.ok.zt p z i;rw[eB] at this;cases this
 have R:d∉X.fs:=λi=>by obtain⟨_,q,f,_⟩:=I.ok.o1.mem i;have:=I.base.free d q f (I.ok.Hq d i) λz=>I.ok.zt d z i;rw[A] at this;cases this
 have N:∀q∈X.pn++pins,q.1≠p/\q.1≠d:=λq f=>let z:=K q.1 (I.pin q f).2.1;{z.1,z.2.1};have h0:∀q,X.iH.heap.get? p=Y q->X.q9 p=Z->p∈X.ex:=λq f E=>by
  by_cases k:p∈X.ex
  .exact k
  .have:=I.base.free p q f E k;rw[eB] at this;cases this
 have h02:∀q,X.iH.heap.get? d=Y q->X.q9 d=Z->d∈X.ex:=λq f E=>by
  by_cases k:d∈X.ex
  .exact k
  .have:=I.base.free d q f E k;rw[A] at this;cases this
 refine{W.instObj C d,t,?_,?_}
 .refine{I.ok,I.os,I.bare,{I.base.keep,I.base.slot,λb q e n k=>(K b (I.base.free b q e n k)).2.2,I.base.there,λb L e=>bk H b _ (I.base.pa b L e) (λz=>nomatch z) (λz=>nomatch z),λb q u e=>bk H b _ (I.base.oZ b q u e) (λz=>nomatch z) (λz=>nomatch z),λb ps e=>?_},I.loc,I.cell,(K _ I.free).2.2,λx c e=>(K c (I.kM x c e)).2.2,λq f=>?_,λa u e=>?_,I.len}
  .obtain⟨m,e1⟩:=I.base.qu b ps e;exact{m,bk H b _ e1 (λz=>nomatch z) (λz=>nomatch z)}
  .rcases ay.mp f with h|h
   .obtain⟨a1,a2,a3⟩:=I.pin q (aA _ h);exact{a1,(K _ a2).2.2,a3}
   .rcases ay.mp h with h|h
    .obtain⟨a1,a2,a3⟩:=I.pin q (ar _ h);exact{a1,(K _ a2).2.2,a3}
    .rcases ah.mp h with h|h
     .subst h;exact{(hob),hn,hL,Z2,r}
     .have:q=(d,t):=by simpa using h
      subst this;exact{(P),Q,U,R,j}
  .have ha:a≠p:=gz e hn;refine(I.ip a u (nG H hn Q a u e)).q8 (λ_ _ _ q=>q) (λb q=>bk H b _ q (λz=>nomatch z) (λz=>ha (by cases z;rfl))) λb L q=>bk H b _ q (λz=>nomatch z) (λz=>nomatch z)
 .intro G s' sM J;have hp:=J.pin (p,W.instObj C d) (ar _ (ar _ (by simp)));have O:=J.pin (d,t) (ar _ (ar _ (by simp)));have hGn:G p=Z:=hp.2.1;have hGd:G d=Z:=O.2.1;have l:s'.heap.get? d=Y t:=O.1;have B:s'.heap.get? p=Y (W.instObj C d):=hp.1;have M:=nG G hGn hGd;refine{hGn,hGd,{J.ok,J.os,J.bare,{J.base.keep,J.base.slot,λb q e n k=>?_,J.base.there,λb L e=>M b _ (J.base.pa b L e),λb q u e=>M b _ (J.base.oZ b q u e),λb ps e=>?_},J.loc,J.cell,?_,λx c e=>?_,λq f=>?_,λa u e=>?_,J.len}}
  .have i:b≠p:=λz=>by subst z;exact k (h0 q e n)
   have g:b≠d:=λz=>by subst z;exact k (h02 q e n)
   rw[c8 i,c8 g];exact J.base.free b q e n k
  .obtain⟨m,e1⟩:=J.base.qu b ps e;exact{m,M b _ e1}
  .rw[c8 (Ne.symm hL),c8 (Ne.symm U)];exact J.free
  .have hc:c≠p:=λz=>by
    obtain⟨v,q,f,hd⟩:=J.cell x c e;rw[z,B] at f;cases f;exact r v hd
   have hc2:c≠d:=λz=>by obtain⟨v,q,f,hd⟩:=J.cell x c e;rw[z,l] at f;cases f;exact j v hd
   rw[c8 hc,c8 hc2];exact J.kM x c e
  .have Ca:q∈X.pn++(pins++[(p,W.instObj C d),(d,t)]):=by
    rcases ay.mp f with h|h
    .exact aA _ h
    .exact ar _ (aA _ h)
   obtain⟨a1,a2,a3⟩:=J.pin q Ca;exact{a1,by rw[c8 (N q f).1,c8 (N q f).2];exact a2,a3}
  .by_cases ha:a=p
   .subst ha;rw[eB] at e;cases e;exact{A G,z2,z3,B,mA,ns.at λo q=>by rw[P] at q;cases q;exact l,rl,wi}
   .rw[c8 ha] at e;by_cases T:a=d
    .subst T;rw[eB] at e;cases e;exact{(t),l}
    .rw[c8 T] at e;exact(J.ip a u e).q8 (λ_ _ _ q=>q) (λb q=>M b _ q) λb L q=>M b _ q
def Gd(ok:o8 B):∀{a:Ax}{G:Hp}{F:St}{s:Shared},c7 X a F (b9 G B) s->jv G B->∃m,c7 X (a++m) F G s/\(∀q∈m,∃x∈B,q.1=x.1)/\(∀x∈B,∃q∈m,q.1=x.1) /\
  ∀(d:Hp) (s':Shared) (sM:St),c7 X (a++m) sM d s'->jv d B/\c7 X a sM (b9 d B) s':=by
 induction ok with
 |nil=>exact λI f=>{[],by rw[aK];exact I,(λq hq=>by cases hq),(λx b=>by cases b),λd s' sM J=>{jv.nil,by rw[aK] at J;exact J}}
 |@one p o r hf n M=>
  intro a G F s I f;have u:=bN.mp (show (p::r.map (·.1)).Nodup from f.nd);have Q:jv G r:={u.2,λy N=>f.free y (ao _ N),n}
  have g:∀x∈r,x.1≠p:=λx b e=>u.1 (aw.mpr {(x),b,e});have t:b9 G r p=Z:=by rw[gK g];exact f.free (p,o) (by simp)
  obtain⟨v,V,l⟩:=Xj (H:=b9 G r) I t hf;sleep 1;obtain⟨m,U,L,K,c⟩:=M V Q;sleep 2;refine{(p,v)::m,by simpa using U,λq hq=>?_,λx b=>?_,λd s' sM J=>?_}
  .rcases ah.mp hq with e|h
   .exact{(p,o),by simp,by rw[e]}
   .obtain⟨x,b,e⟩:=L q h;exact{x,ao _ b,e}
  .rcases ah.mp b with e|h
   .exact{(p,v),by simp,by rw[e]}
   .obtain⟨q,hq,e⟩:=K x h;exact{q,ao _ hq,e}
  .obtain⟨R,T⟩:=c d s' sM (by simpa using J);obtain⟨i,S⟩:=l (b9 d r) s' sM T;have j:d p=Z:=by rw[gK g] at i;exact i
   refine{{f.nd,λx b=>?_,f.ok},S};rcases ah.mp b with e|h
   .rw[e];exact j
   .exact R.free x h
 |@ins p C k fs r n M=>
  intro a G F s I f;have u:=bN.mp (show (p::k::r.map (·.1)).Nodup from f.nd);have w:=bN.mp u.2;have Q:jv G r:={w.2,λy N=>f.free y (ao _ (ao _ N)),n}
  have O:k≠p:=λz=>u.1 (by rw[<-z];simp);have g:∀x∈r,x.1≠p:=λx b e=>u.1 (ao _ (aw.mpr {(x),b,e}));have A:∀x∈r,x.1≠k:=λx b e=>w.1 (aw.mpr {(x),b,e});have t:b9 G r p=Z:=by rw[gK g];exact f.free (p,.ins C k fs) (by simp)
  have P:b9 G r k=Z:=by rw[gK A];exact f.free (k,.own p) (by simp)
  obtain⟨v,W,V,l⟩:=Xk (H:=b9 G r) I t P O;sleep 1;obtain⟨m,U,L,K,c⟩:=M V Q;sleep 2;refine{(p,v)::(k,W)::m,by simpa using U,λq hq=>?_,λx b=>?_,λd s' sM J=>?_}
  .rcases ah.mp hq with e|h
   .exact{(p,.ins C k fs),by simp,by rw[e]}
   .rcases ah.mp h with e|h
    .exact{(k,.own p),by simp,by rw[e]}
    .obtain⟨x,b,e⟩:=L q h;exact{x,ao _ (ao _ b),e}
  .rcases ah.mp b with e|h
   .exact{(p,v),by simp,by rw[e]}
   .rcases ah.mp h with e|h
    .exact{(k,W),by simp,by rw[e]}
    .obtain⟨q,hq,e⟩:=K x h;exact{q,ao _ (ao _ hq),e}
  .obtain⟨R,T⟩:=c d s' sM (by simpa using J);obtain⟨i,D,S⟩:=l (b9 d r) s' sM T;have j:d p=Z:=by rw[gK g] at i;exact i
   have E:d k=Z:=by rw[gK A] at D;exact D
   refine{{f.nd,λx b=>?_,f.ok},S};rcases ah.mp b with e|h
   .rw[e];exact j
   .rcases ah.mp h with e|h
    .rw[e];exact E
    .exact R.free x h
def PE.frame{t:TE}(h:PE X e t):PE X e (λσ H Q=>∃G B,H=b9 G B/\jv G B/\t σ G λv b=>jv b B->Q v (b9 b B)):=by intro c s σ H Q I ⟨G,B,j,f,g⟩;subst j;sleep 1;obtain⟨m,l,_,_,a⟩:=Gd f.ok I f;sleep 2;refine iu (@h _ s σ G _ l g) ?_;rintro v d ⟨x,b,J,r,q⟩;obtain⟨i,k⟩:=a b d σ J;exact{x,b9 b B,k,r,q i}
def PI.frame{t:TI}(h:PI X tg iter t):PI X tg iter (λσ H R=>∃G B,H=b9 G B/\jv G B/\t σ G λJ c=>jv c B->R J (b9 c B)):=by
 intro g s σ H R I ⟨G,B,P,f,w⟩;subst P;sleep 1;obtain⟨PB,V,m1,n,a⟩:=Gd f.ok I f;sleep 2;refine iu (@h _ s σ G _ V w) λv W D=>iu D ?_;rintro o l ⟨r,E,j,J,c,e,U,T,k,A,q⟩;obtain⟨O,S⟩:=a c l σ U;refine{r,E,j,J,b9 c B,e,S,T,k,λb C=>?_,q O};sleep 1;obtain⟨N,M,L,K,F,i⟩:=A b C;sleep 2;refine{?_,M,L,K,F,λp y=>i p ?_}
 .rw[gK λx u z=>?_]
  .exact N
  .obtain⟨m,d,Q⟩:=n x u;exact i m (ar _ (ar _ d)) (Q.trans z)
 .rcases ay.mp y with h|h
  .exact aA _ h
  .exact ar _ (aA _ h)
def PA.frame{t:TA}(h:PA X es t):PA X es (λσ H Q=>∃G B,H=b9 G B/\jv G B/\t σ G λg b=>jv b B->Q g (b9 b B)):=by intro c d s σ H Q I ⟨G,B,l,f,j⟩;subst l;sleep 1;obtain⟨p,n,_,_,a⟩:=Gd f.ok I f;sleep 2;refine iu (@h c _ s σ G _ n j) ?_;rintro o i ⟨e,b,J,r,q⟩;obtain⟨k,m⟩:=a b i σ J;exact{e,b9 b B,m,r,q k}
end
def nS(f:Str):List (fZ×fZ)->Od
 |[]=>Z
 | (.str g,d)::r=>if g=f then Y d else nS f r
 |_::r=>nS f r
def ou(f:Str)(y:fZ):List (fZ×fZ)->List (fZ×fZ)
 |[]=>[(.str f,y)]
 | (.str g,d)::r=>if g=f then (.str g,y)::r else (.str g,d)::ou f y r
 |x::r=>x::ou f y r
section
variable {K:Fg}
theorem kc.get{f:Str}{d:fZ}:∀{r:List (fZ×fZ)}{c:List (Str×V)},kc K H r c->nS f r=Y d->∃v,c.lookup f=Y v/\bC K H d v
 |[],_,_,e=>by cases e
 | (k,x)::r,_,h,e=>by
  sleep 1;obtain⟨y,v,g,rfl,rfl,i,t⟩:=kc.dv.mp h;sleep 2;by_cases q:y=f
  .simp only[nS,ai q] at e;cases e;exact{v,by rw[bx,bw.mpr q.symm],i}
  .simp only[nS,aq q] at e;obtain⟨u,a,b⟩:=kc.get t e;exact{u,by rw[bx,aF.mpr (λz=>q z.symm)];exact a,b}
theorem kc.none{f:Str}:∀{r:List (fZ×fZ)}{a:List (Str×V)},kc K H r a->nS f r=.none->a.lookup f=.none
 |[],_,h,e=>by rw[kc.eL.mp h];rfl
 | (k,x)::r,_,h,e=>by
  sleep 1;obtain⟨y,v,b,rfl,rfl,i,t⟩:=kc.dv.mp h;sleep 2;by_cases q:y=f
  .simp only[nS,ai q] at e;cases e
  .simp only[nS,aq q] at e;rw[bx,aF.mpr (λz=>q z.symm)];exact kc.none t e
def lD(c f:Str):Bool:=(c=="Reading"&&(f=="fields"||f=="heads"||f=="blocks"||f=="later"))||(c=="Outline"&&(f=="params"||f=="kept"||f=="own_rows"||f=="fields"))
def ow(c f:Str):Bool:=c=="Outline"&&f=="own_rows"
def o3(K:Fg)(G:Hp)(d:fZ)(q:Addr)(o:HO):Prop :=
 (∃e b,d=.list e/\o=.lst b/\a9 K G e b)\/∃a c,d=.dict a/\o=.dK c/\gs K G a c
def isL:fZ->Bool
 |.list _=>true
 |_=>false
def NN(K:Fg)(G:Hp)(d:fZ)(v:V)(B:List (Addr×HO)):Prop:=(isL d=false/\bC K G d v/\B=[])\/∃b p a,d=.list b/\v=.ref p/\B=[(p,.lst a)]/\a9 K G b a
def uJ(K:Fg)(G:Hp):Lp->List V->List (Addr×HO)->Prop
 |[],vs,B=>vs=[]/\B=[]
 |d::ds,vs,B=>∃v a c b,vs=v::a/\B=c++b/\NN K G d v c/\uJ K G ds a b
def Ge(K:Fg)(G:Hp):List (fZ×fZ)->List (Key×V)->List (Addr×HO)->Prop
 |[],kv,B=>kv=[]/\B=[]
 | (k,d)::r,kv,B=>∃y v a c b,kv=(y,v)::a/\k=jH y/\B=c++b/\NN K G d v c/\Ge K G r a b
def Z3(K:Fg)(G:Hp)(d:fZ)(o:HO)(B:List (Addr×HO)):Prop :=
 (∃e b,d=.list e/\o=.lst b/\uJ K G e b B)\/∃a c,d=.dict a/\o=.dK c/\Ge K G a c B
def nu(a:Bool)(K:Fg)(G:Hp)(d:fZ)(q:Addr)(o:HO)(B:List (Addr×HO)):Prop:=match a with
 |false=>o3 K G d q o/\B=[]
 |true=>Z3 K G d o B
def jg(K:Fg)(G:Hp)(c:Str):List (fZ×fZ)->List (Str×V)->List (Addr×HO)->Prop
 |[],fs,B=>fs=[]/\B=[]
 | (k,d)::r,fs,B=>∃y v a,fs=(y,v)::a/\k=.str y/\((lD c y=false/\bC K G d v/\jg K G c r a B)\/(lD c y=true/\∃q o b e,v=.ref q/\B=(q,o)::(b++e)/\nu (ow c y) K G d q o b/\jg K G c r a e))
def iZ(g:Bool)(K:Fg)(G:Hp)(d:fZ)(v:V)(B:List (Addr×HO)):Prop :=
 (∃q o e,v=.ref q/\B=(q,o)::e/\nu g K G d q o e) \/
 ∃c C p b a r f,d=.dict ((.none,.str c)::r)/\v=.ref p/\B=(p,.ins C b a)::(b,.own p)::f/\iE K c C/\jg K G c r a f
theorem NN.sim{f:Hp}{d:fZ}{v:V}{B:List (Addr×HO)}(e:D3 K G f)(h:NN K G d v B):NN K f d v B:=by
 rcases h with ⟨a,b,c⟩ | ⟨i,p,g,a,b,c,t⟩
 .exact .inl {a,b.sim e,c}
 .exact .inr {i,p,g,a,b,c,t.sim e}
def NN.mh(h:NN K G d v B):o8 B:=by
 rcases h with ⟨a,b,c⟩ | ⟨f,p,e,a,b,c,t⟩
 .rw[c];exact .nil
 .rw[c];exact .one aY .nil
def NN.IZ(h:NN K G d v B)(e:dV G H)(f:∀x∈B,H x.1=Y x.2):bC K H d v:=by
 rcases h with ⟨a,b,c⟩ | ⟨g,p,vs,rfl,rfl,rfl,t⟩
 .exact b.same e
 .exact bC.fj.mpr {p,vs,rfl,nj.of (f (p,.lst vs) (by simp)),t.same e}
theorem uJ.sim{g:Hp}(e:D3 K G g):∀{f:Lp}{d:List V}{B:List (Addr×HO)},uJ K G f d B->uJ K g f d B
 |[],_,_,h=>h
 |_::_,_,_,⟨v,Kd,B1,B2,a,b,c,t⟩=>{v,Kd,B1,B2,a,b,c.sim e,uJ.sim e t}
def uJ.same(e:dV G G'):∀{ds:Lp}{vs:List V}{B:List (Addr×HO)},uJ K G ds vs B->uJ K G' ds vs B:=λh=>uJ.sim e.sim h
theorem uJ.mh:∀{e:Lp}{d:List V}{B:List (Addr×HO)},uJ K G e d B->o8 B
 |[],_,_,h=>by rw[h.2];exact .nil
 |_::_,_,_,⟨v,Kd,B1,B2,a,b,c,t⟩=>by rw[b];exact c.mh.append t.mh
theorem uJ.Xl(e:dV G H):∀{g:Lp}{f:List V}{B:List (Addr×HO)},uJ K G g f B->(∀x∈B,H x.1=Y x.2)->a9 K H g f
 |[],_,_,h,_=>by rw[h.1];exact a9.nil
 |_::_,_,_,⟨v,Kd,B1,B2,a,b,c,t⟩,hB=>by subst a b;exact a9.cons (c.IZ e λx d=>hB x (aA _ d)) (t.Xl e λx d=>hB x (ar _ d))
theorem Ge.sim{g:Hp}(e:D3 K G g):∀{f:List (fZ×fZ)}{d:List (Key×V)}{B:List (Addr×HO)},Ge K G f d B->Ge K g f d B
 |[],_,_,h=>h
 | (_,_)::_,_,_,⟨y,v,Kd,B1,B2,a,a2,b,c,t⟩=>{y,v,Kd,B1,B2,a,a2,b,c.sim e,Ge.sim e t}
theorem Ge.mh:∀{e:List (fZ×fZ)}{d:List (Key×V)}{B:List (Addr×HO)},Ge K G e d B->o8 B
 |[],_,_,h=>by rw[h.2];exact .nil
 | (_,_)::_,_,_,⟨y,v,Kd,B1,B2,a,a2,b,c,t⟩=>by rw[b];exact c.mh.append t.mh
theorem Ge.Xm(e:dV G H):∀{g:List (fZ×fZ)}{f:List (Key×V)}{B:List (Addr×HO)},Ge K G g f B->(∀x∈B,H x.1=Y x.2)->gs K H g f
 |[],_,_,h,_=>by rw[h.1];exact gs.eL.mpr rfl
 | (_,_)::_,_,_,⟨y,v,Kd,B1,B2,a,a2,b,c,t⟩,hB=>by subst a a2 b;exact gs.dv.mpr {y,v,Kd,rfl,rfl,c.IZ e λx d=>hB x (aA _ d),t.Xm e λx d=>hB x (ar _ d)}
theorem o3.sim{g:Hp}{d:fZ}{q:Addr}{o:HO}(h:o3 K G d q o)(e:D3 K G g):o3 K g d q o:=by
 rcases h with ⟨k,i,a,b,c⟩ | ⟨f,j,a,b,c⟩
 .exact .inl {k,i,a,b,c.sim e}
 .exact .inr {f,j,a,b,c.sim e}
def o3.Z4{q:Addr}(h:o3 K G d q o):Kb o:=by rcases h with ⟨i,f,a,b,c⟩ | ⟨e,g,a,b,c⟩<;>subst b<;>exact aY
def o3.IZ{p:Addr}(h:o3 K G d p o)(e:dV G H)(a:H p=Y o):bC K H d (.ref p):=by
 rcases h with ⟨ds,vs,rfl,rfl,c⟩ | ⟨b,f,rfl,rfl,c⟩
 .exact bC.fj.mpr {p,vs,rfl,nj.of a,c.same e}
 .exact bC.ke.mpr {p,rfl,.inl {f,.inl a,c.same e}}
theorem nu.sim{g:Bool}{i:Hp}{d:fZ}{q:Addr}{o:HO}{B:List (Addr×HO)}(e:D3 K G i)(h:nu g K G d q o B):nu g K i d q o B:=by
 cases g with
 |false=>exact{h.1.sim e,h.2}
 |true=>
  rcases h with ⟨l,j,a,b,c⟩ | ⟨f,k,a,b,c⟩
  .exact .inl {l,j,a,b,c.sim e}
  .exact .inr {f,k,a,b,c.sim e}
def nu.same{q:Addr}(e:dV G G')(h:nu dp K G d q o B):nu dp K G' d q o B:=nu.sim e.sim h
theorem nu.mh{e:Bool}{d:fZ}{q:Addr}{o:HO}{B:List (Addr×HO)}(h:nu e K G d q o B):o8 ((q,o)::B):=by
 cases e with
 |false=>rw[h.2];exact .one h.1.Z4 .nil
 |true=>
  rcases h with ⟨j,g,a,b,c⟩ | ⟨f,i,a,b,c⟩
  .subst b;exact .one aY c.mh
  .subst b;exact .one aY c.mh
theorem nu.IZ{f:Bool}{d:fZ}{o:HO}{p:Addr}{B:List (Addr×HO)}(h:nu f K G d p o B)(e:dV G H)(a:H p=Y o)(b:∀x∈B,H x.1=Y x.2):bC K H d (.ref p):=by
 cases f with
 |false=>exact h.1.IZ e a
 |true=>
  rcases h with ⟨ds,vs,rfl,rfl,c⟩ | ⟨g,i,rfl,rfl,c⟩
  .exact bC.fj.mpr {p,vs,rfl,nj.of a,c.Xl e b}
  .exact bC.ke.mpr {p,rfl,.inl {i,.inl a,c.Xm e b}}
theorem jg.sim{c:Str}{m:Hp}(e:D3 K G m):∀{r:List (fZ×fZ)}{i:List (Str×V)}{B:List (Addr×HO)},jg K G c r i B->jg K m c r i B
 |[],_,_,h=>h
 | (k,d)::r,_,_,h=>by
  obtain⟨y,v,a,l,j,⟨g,f,b⟩ | ⟨g,q,o,s,t,f,b,p,n⟩⟩:=h
  .exact{y,v,a,l,j,.inl {g,f.sim e,jg.sim e b}}
  .exact{y,v,a,l,j,.inr {g,q,o,s,t,f,b,p.sim e,jg.sim e n}}
def jg.same(e:dV G G'):∀{r:List (fZ×fZ)}{a:List (Str×V)}{B:List (Addr×HO)},jg K G c r a B->jg K G' c r a B:=λh=>jg.sim e.sim h
theorem jg.mh{c:Str}:∀{r:List (fZ×fZ)}{e:List (Str×V)}{B:List (Addr×HO)},jg K G c r e B->o8 B
 |[],_,_,h=>by rw[h.2];exact .nil
 | (k,d)::r,_,_,h=>by
  obtain⟨y,v,b,m,l,⟨j,i,a⟩ | ⟨j,q,o,n,p,i,a,g,f⟩⟩:=h
  .exact jg.mh a
  .rw[a];exact o8.append g.mh (jg.mh f)
theorem jg.Uc{c:Str}(e:dV G H):∀{r:List (fZ×fZ)}{i:List (Str×V)}{B:List (Addr×HO)},jg K G c r i B->(∀x∈B,H x.1=Y x.2)->kc K H r i
 |[],_,_,h,_=>by rw[h.1];exact kc.eL.mpr rfl
 | (k,d)::r,_,_,h,hB=>by
  obtain⟨y,v,a,l,j,⟨p,g,f⟩ | ⟨p,q,o,s,t,g,f,n,m⟩⟩:=h
  .exact kc.dv.mpr {y,v,a,l,j,g.same e,jg.Uc e f hB}
  .subst f g;exact kc.dv.mpr {y,_,a,l,j,n.IZ e (hB (q,o) (by simp)) (λx b=>hB x (by simp[b])),jg.Uc e m λx b=>hB x (by simp[b])}
theorem iZ.sim{f:Bool}{g:Hp}{d:fZ}{v:V}{B:List (Addr×HO)}(h:iZ f K G d v B)(e:D3 K G g):iZ f K g d v B:=by
 rcases h with ⟨q,o,t,a,b,c⟩ | ⟨c,C,p,j,i,r,u,s,n,m,l,k⟩
 .exact .inl {q,o,t,a,b,c.sim e}
 .exact .inr {c,C,p,j,i,r,u,s,n,m,l,k.sim e}
def iZ.same(h:iZ dp K G d v B)(e:dV G G'):iZ dp K G' d v B:=iZ.sim h e.sim
theorem iZ.mh{e:Bool}{d:fZ}{v:V}{B:List (Addr×HO)}(h:iZ e K G d v B):o8 B:=by
 rcases h with ⟨q,o,n,a,b,c⟩ | ⟨c,C,p,j,i,r,s,m,l,g,k,f⟩
 .rw[b];exact c.mh
 .rw[g];exact .ins f.mh
theorem iZ.IZ{i:Bool}{d:fZ}{v:V}{B:List (Addr×HO)}(h:iZ i K G d v B)(e:dV G H)(a:∀x∈B,H x.1=Y x.2):bC K H d v:=by
 rcases h with ⟨q,o,l,rfl,rfl,c⟩ | ⟨c,C,p,g,f,r,m,rfl,rfl,rfl,k,j⟩
 .exact c.IZ e (a (q,o) (by simp)) λx b=>a x (by simp[b])
 .exact bC.ke.mpr {p,rfl,.inr (.inl {c,C,g,f,k,a (p,.ins C g f) (by simp),nQ.dv.mpr {rfl,rfl,j.Uc e λx b=>a x (by simp[b])}})}
theorem jg.split{c y:Str}{d:fZ}(E:lD c y=true):∀{r:List (fZ×fZ)}{F:List (Str×V)}{B:List (Addr×HO)},jg K G c r F B->nS y r=Y d ->
  ∃q o l j i,F.lookup y=Y (.ref q)/\B=j++((q,o)::(l++i))/\o8 j/\o8 i/\nu (ow c y) K G d q o l/\∀g s b a,dV G g->nu (ow c y) K g s q b a->jg K g c (ou y s r) F (j++((q,b)::(a++i)))
 |[],_,_,_,e=>by cases e
 | (k,x)::r,_,B,h,e=>by
  sleep 1;obtain⟨z,v,n,R,Q,h⟩:=h;sleep 2;subst R Q;by_cases q:z=y
  .subst q;simp only[nS,cY] at e;cases e;rcases h with ⟨f,_⟩ | ⟨f,q,o,l,M,u,t,A,w⟩
   .rw[E] at f;cases f
   .subst u t;refine{q,o,l,[],M,by rw[bx,bw.mpr rfl],rfl,.nil,w.mh,A,λg s b a m h'=>?_};simp only[ou,cY];exact{z,_,n,rfl,rfl,.inr {f,q,b,a,M,rfl,rfl,h',w.same m}}
  .simp only[nS,aq q] at e;rcases h with ⟨f,u,t⟩ | ⟨f,N,o,O,M,u,t,A,w⟩
   .obtain⟨p,o,l,j,i,L,J,D,C,I,H⟩:=jg.split E t e;refine{p,o,l,j,i,by rw[bx,aF.mpr (λz=>q z.symm)];exact L,J,D,C,I,λg s b a m h'=>?_};simp only[ou,aq q];exact{z,v,n,rfl,rfl,.inl {f,u.same m,H g s b a m h'}}
   .subst u t;sleep 1;obtain⟨p,P,l,j,i,L,J,D,C,I,H⟩:=jg.split E w e;sleep 2;refine{p,P,l,(N,o)::(O++j),i,by rw[bx,aF.mpr (λz=>q z.symm)];exact L,by rw[J];simp,o8.append A.mh D,C,I,λg s b a m h'=>?_};simp only[ou,aq q];exact{z,_,n,rfl,rfl,.inr {f,N,o,O,j++((p,b)::(a++i)),rfl,by simp,A.same m,H g s b a m h'}}
theorem jg.put{c y:Str}{d:fZ}{v:V}(b:lD c y=false)(i:bC K G d v):∀{r:List (fZ×fZ)}{j:List (Str×V)}{B:List (Addr×HO)},jg K G c r j B->jg K G c (ou y d r) (mq y v j) B
 |[],_,_,h=>by obtain⟨rfl,rfl⟩:=h;exact{y,v,[],rfl,rfl,.inl {(b),i,rfl,rfl}}
 | (k,x)::r,_,_,h=>by
  sleep 1;obtain⟨z,u,g,s,p,h⟩:=h;sleep 2;subst s p;by_cases q:z=y
  .subst q;simp only[ou,mq,cY];rcases h with ⟨a,f,e⟩ | ⟨a,_⟩
   .exact{z,v,g,rfl,rfl,.inl {(b),i,e}}
   .rw[b] at a;cases a
  .simp only[ou,mq,aq q];rcases h with ⟨a,f,e⟩ | ⟨a,l,o,t,w,f,e,n,m⟩
   .exact{z,u,_,rfl,rfl,.inl {a,f,jg.put b i e}}
   .exact{z,u,_,rfl,rfl,.inr {a,l,o,t,w,f,e,n,jg.put b i m}}
theorem jg.add{c y:Str}{d:fZ}{q:Addr}{o:HO}{a:List (Addr×HO)}(b:lD c y=true)(i:nu (ow c y) K G d q o a):∀{r:List (fZ×fZ)}{m:List (Str×V)}{B:List (Addr×HO)},jg K G c r m B->nS y r=Z ->
  jg K G c (ou y d r) (mq y (.ref q) m) (B++(q,o)::a)
 |[],_,_,h,_=>by obtain⟨rfl,rfl⟩:=h;exact{y,_,[],rfl,rfl,.inr {b,q,o,a,[],rfl,by simp,i,rfl,rfl}}
 | (k,x)::r,_,_,h,e=>by
  sleep 1;obtain⟨z,u,s,A,w,h⟩:=h;sleep 2;subst A w;by_cases f:z=y
  .simp only[nS,ai f] at e;cases e
  .simp only[nS,aq f] at e;simp only[ou,mq,aq f];rcases h with ⟨l,j,g⟩ | ⟨l,n,p,C,D,j,g,v,t⟩
   .exact{z,u,_,rfl,rfl,.inl {l,j,jg.add b i g e}}
   .subst g;exact{z,u,_,rfl,rfl,.inr {l,n,p,C,D++(q,o)::a,j,by simp,v,jg.add b i t e}}
theorem jg.len{c:Str}:∀{r:List (fZ×fZ)}{a:List (Str×V)}{B:List (Addr×HO)},jg K G c r a B->a.length=r.length
 |[],_,_,h=>by rw[h.1];rfl
 | (k,d)::r,_,_,h=>by
  obtain⟨y,v,f,e,m,⟨j,i,b⟩ | ⟨j,q,o,n,p,i,b,l,g⟩⟩:=h
  .rw[e,ax,ax,jg.len b]
  .rw[e,ax,ax,jg.len g]
end
def jI(O:List Nat):Bool:=O.contains 99
def il(c:Bool)(K:Fg)(b:St)(a:aC)(G:Hp):List Nat->List (Addr×HO)->Prop
 |[],B=>B=[]
 |i::O,B=>((a[i]?).join=Z/\il c K b a G O B)\/∃d v f e,a[i]?=Y (Y d)/\b[i]?=Y (Y v)/\B=f++e/\iZ c K G d v f/\il c K b a G O e
structure gQ (O:List Nat) (K:Fg) (σ:St) (ρ:aC) (H G:Hp):Prop where
 len:σ.length=ρ.length
 ex:∃B,H=b9 G B/\jv G B/\il (jI O) K σ ρ G O B
 lz:∀(i:Nat) (d:fZ),ρ[i]?=Y (Y d)->i∉O->∃v,σ[i]?=Y (Y v)/\bC K G d v
def join_some{l:List (Option α)}{d:α}(h:(l[i]?).join=Y d):l[i]?=Y (Y d):=by
 cases q:l[i]? with
 |none=>rw[q] at h;cases h
 |some o=>rw[q] at h;cases o with
  |none=>cases h
  |some a=>cases h;rfl
section
variable {K:Fg}
theorem il.sim{f:Hp}(e:D3 K G f):∀{O:List Nat}{B:List (Addr×HO)},il dp K σ ρ G O B->il dp K σ ρ f O B
 |[],_,h=>h
 |_::_,_,h=>by
  rcases h with ⟨a,b⟩ | ⟨d,v,i,g,a,b,c,q,t⟩
  .exact .inl {a,il.sim e b}
  .exact .inr {d,v,i,g,a,b,c,q.sim e,il.sim e t}
def il.same(e:dV G G'):∀{O:List Nat}{B:List (Addr×HO)},il dp K σ ρ G O B->il dp K σ ρ G' O B:=λh=>il.sim e.sim h
theorem il.mh:∀{O:List Nat}{B:List (Addr×HO)},il dp K σ ρ G O B->o8 B
 |[],_,h=>by rw[show _=[] from h];exact .nil
 |_::_,_,h=>by
  rcases h with ⟨a,b⟩ | ⟨d,v,e,c,a,b,rfl,q,t⟩
  .exact il.mh b
  .exact q.mh.append (il.mh t)
theorem il.other{e:St}{f:aC}:∀{O:List Nat}{B:List (Addr×HO)},il dp K σ ρ G O B->(∀i∈O,f[i]?=ρ[i]?/\e[i]?=σ[i]?)->il dp K e f G O B
 |[],_,h,_=>h
 |j::O,_,h,k=>by
  obtain⟨g,m⟩:=k j (by simp);have l:∀i∈O,f[i]?=ρ[i]?/\e[i]?=σ[i]?:=λi n=>k i (ao _ n);rcases h with ⟨a,b⟩ | ⟨d,v,p,o,a,b,c,q,t⟩
  .exact .inl {by rw[g];exact a,b.other l}
  .exact .inr {d,v,p,o,by rw[g];exact a,by rw[m];exact b,c,q,t.other l}
theorem il.split{i:Nat}{d:fZ}:∀{O:List Nat}{B:List (Addr×HO)},O.Nodup->il dp K σ ρ G O B->i∈O->ρ[i]?=Y (Y d) ->
  ∃v p l o,σ[i]?=Y (Y v)/\B=p++(l++o)/\iZ dp K G d v l/\o8 p/\o8 o /\
   (∀n g e,dV G n->iZ dp K n g v e->il dp K σ (ρ.set i (Y g)) n O (p++(e++o)))/\il dp K σ (ρ.set i Z) G O (p++o)
 |[],_,_,_,hi,_=>by cases hi
 |j::O,B,Xn,h,hi,hd=>by
  have f:=bN.mp Xn;have L:i<ρ.length:=(aS.mp hd).1;by_cases r:j=i
  .subst r;have u:∀x:Od,∀k∈O,(ρ.set j x)[k]?=ρ[k]?/\σ[k]?=σ[k]?:=λx k N=>by
    have:j≠k:=λz=>f.1 (z▸N);exact{av this,rfl}
   rcases h with ⟨a,b⟩ | ⟨g,v,l,J,a,b,c,q,t⟩
   .rw[hd] at a;cases a
   .rw[hd] at a;cases a;refine{v,[],l,J,b,c,q,.nil,t.mh,λn g e s w=>.inr {g,v,e,J,aQ L,b,rfl,w,(t.same s).other (u _)},.inl {by rw[aQ L];rfl,t.other (u _)}}
  .have y:=(ah.mp hi).resolve_left (Ne.symm r);have m:∀x:Od,(ρ.set i x)[j]?=ρ[j]?:=λx=>av (Ne.symm r);rcases h with ⟨a,b⟩ | ⟨g,v,l,J,a,b,c,q,t⟩
   .obtain⟨v,p,l,o,I,H,F,E,D,C,A⟩:=il.split f.2 b y hd;exact{v,p,l,o,I,H,F,E,D,λn g e s w=>.inl {by rw[m];exact a,C n g e s w},.inl {by rw[m];exact a,A}}
   .obtain⟨M,p,e,o,I,H,F,E,D,C,A⟩:=il.split f.2 t y hd;refine{M,l++p,e,o,I,by rw[c,H];simp,F,q.mh.append E,D,λn g e s w=>.inr {_,v,l,_,by rw[m];exact a,b,by simp,q.same s,C n g e s w},.inr {_,v,l,_,by rw[m];exact a,b,by simp,q,A}}
def gQ.sub(h:gQ O K σ ρ H G):dV G H:=by obtain⟨B,rfl,f,a⟩:=h.ex;exact f.same
theorem il.at:∀{O:List Nat}{B:List (Addr×HO)},il dp K σ ρ G O B->∀{i:Nat}{d:fZ},i∈O->ρ[i]?=Y (Y d)->∃v f,(∀x∈f,x∈B)/\σ[i]?=Y (Y v)/\iZ dp K G d v f
 |[],_,_,_,_,hi,_=>by cases hi
 |j::O,_,h,i,d,hi,hd=>by
  rcases h with ⟨a,b⟩ | ⟨d',v,f,n,a,b,c,q,t⟩
  .rcases ah.mp hi with e|hi
   .subst e;rw[hd] at a;cases a
   .exact il.at b hi hd
  .rcases ah.mp hi with e|hi
   .subst e;rw[hd] at a;cases a;exact{v,f,λx g=>by rw[c];exact aA _ g,b,q}
   .obtain⟨l,k,m,r⟩:=il.at t hi hd;exact{l,k,λx g=>by rw[c];exact ar _ (m x g),r}
def gQ.full(h:gQ O K σ ρ H G):ju K H σ ρ:=by
 obtain⟨B,rfl,f,a⟩:=h.ex;refine{h.len,λi d q=>?_};by_cases b:i∈O
 .obtain⟨v,l,m,e,c⟩:=a.at b q;exact{v,e,c.IZ f.same λx g=>gp f.nd x (m x g)}
 .obtain⟨v,k,j⟩:=h.lz i d q b;exact{v,k,j.same f.same}
def iz:List Nat->aC->aC
 |[],ρ=>ρ
 |i::O,ρ=>(iz O ρ).set i Z
theorem vw:∀(O:List Nat) (ρ:aC),(iz O ρ).length=ρ.length
 |[],_=>rfl
 |i::O,ρ=>by rw[iz,fK];exact vw O ρ
theorem vx:∀{O:List Nat}{c:aC}{j:Nat}{d:fZ},(iz O c)[j]?=Y (Y d)->j∉O/\c[j]?=Y (Y d)
 |[],_,_,_,h=>{by simp,h}
 |i::O,c,j,d,h=>by
  unfold iz at h;by_cases e:j=i
  .subst e;by_cases f:j<(iz O c).length
   .rw[aQ f] at h;cases h
   .rw[cp (by simpa using f)] at h;cases h
  .rw[av (Ne.symm e)] at h;obtain⟨a,b⟩:=vx h;exact{by simp[e,a],b}
def gQ.rest(h:gQ O K σ ρ H G):ju K G σ (iz O ρ):=by refine{by rw[vw];exact h.len,λi d q=>?_};obtain⟨a,b⟩:=vx q;exact h.lz i d b a
def gQ.grow(h:gQ O K σ ρ H G)(e:dV H H'):∃g,dV G g/\(∀a,H a=Z->g a=H' a)/\gQ O K σ ρ H' g:=by
 obtain⟨B,rfl,f,k⟩:=h.ex;have n:∀x∈B,H' x.1=Y x.2:=λx b=>e _ _ (gp f.nd x b);let g:Hp:=λa=>if (∃x∈B,x.1=a) then Z else H' a
 have l:∀a,(∀x∈B,x.1≠a)->g a=H' a:=λa c=>aq λ⟨x,b,z⟩=>c x b z;have p:∀x∈B,g x.1=Z:=λx b=>ai {(x),b,rfl};have j:dV G g:=λa o q=>by
  have c:∀x∈B,x.1≠a:=λx b z=>by have:=f.free x b;rw[z,q] at this;cases this
  rw[l a c];exact e _ _ (by rw[gK c];exact q)
 refine{g,j,λa c=>l a λx b z=>?_,h.len,{B,qh f.nd n λa c=>(l a c).symm,{f.nd,p,f.ok},k.same j},λi d q m=>?_}
 .have:=gp (G:=G) f.nd x b;rw[z,c] at this;cases this
 obtain⟨v,s,r⟩:=h.lz i d q m;exact{v,s,r.same j}
def gQ.sT(h:σ.length=ρ.length) (c:il (jI O) K σ ρ G O B) (e:∀(i:Nat) (d:fZ),ρ[i]?=Y (Y d)->i∉O->∃v,σ[i]?=Y (Y v)/\bC K G d v)
  (g:dV G G') (f:jv G' B):gQ O K σ ρ (b9 G' B) G' :=
 {h,{B,rfl,f,c.same g},λi d q j=>by obtain⟨v,a,b⟩:=e i d q j;exact{v,a,b.same g}}
theorem gQ.set{O:List Nat}{i:Nat}{d:fZ}{v:V}(h:gQ O K σ ρ H G)(m:i∉O)(e:bC K G d v):gQ O K (σ.set i (Y v)) (ρ.set i (Y d)) H G:=by
 obtain⟨B,n,f,g⟩:=h.ex;refine{by simpa using h.len,{B,n,f,g.other λj k=>?_},λj o q k=>?_}
 .have c:i≠j:=λz=>m (z▸k);exact{av c,av c}
 .by_cases c:j=i
  .subst c;have l:j<ρ.length:=by
    have:=(aS.mp q).1;simpa using this
   rw[aQ l] at q;cases q;exact{v,by rw[aQ (by rw[h.len];exact l)],e}
  .rw[av (Ne.symm c)] at q;obtain⟨u,a,b⟩:=h.lz j o q k;exact{u,by rw[av (Ne.symm c)];exact a,b}
theorem gQ.own{O:List Nat}(p:O.Nodup)(h:gQ O K σ ρ H G){i:Nat}{d:fZ}(u:i∈O)(y:ρ[i]?=Y (Y d)):
  ∃v k n g,σ[i]?=Y (Y v)/\H=b9 G (k++(n++g))/\jv G (k++(n++g))/\iZ (jI O) K G d v n/\o8 k/\o8 g /\
   (∀c o e,dV G c->iZ (jI O) K c o v e->jv c (k++(e++g))->gQ O K σ (ρ.set i (Y o)) (b9 c (k++(e++g))) c) /\
   (∀c,dV G c->jv c (k++g)->gQ O K σ (ρ.set i Z) (b9 c (k++g)) c):=by
 obtain⟨B,rfl,f,own⟩:=h.ex;sleep 1;obtain⟨v,k,n,g,I,rfl,F,E,D,C,A⟩:=own.split p u y;sleep 2;have m:∀(x:Od) (c:Hp),dV G c->∀(j:Nat) (d2:fZ),(ρ.set i x)[j]?=Y (Y d2)->j∉O->∃v,σ[j]?=Y (Y v)/\bC K c d2 v:=λx c l j d2 q t=>by have r:j≠i:=λz=>t (z▸u);rw[av (Ne.symm r)] at q;obtain⟨v,a,b⟩:=h.lz j d2 q t;exact{v,a,b.same l}
 exact{v,k,n,g,I,rfl,f,F,E,D,λc o e l w s=>{by simpa using h.len,{_,rfl,s,C c o e l w},m _ c l},
  λc l s=>{by simpa using h.len,{_,rfl,s,A.same l},m _ c l}}
def nT{q:Addr}{d:HO}{i g:List (Addr×HO)}(k:((i++(q,o)::g).map (·.1)).Nodup):L2.upd (b9 G (i++(q,o)::g)) q d=b9 G (i++(q,d)::g):=by
 have c:((i++(q,d)::g).map (·.1)).Nodup:=by simpa using k
 refine qh c (λx f=>?_) λa j=>?_
 .by_cases b:x.1=q
  .have m:=gp (G:=G) c x f;have n:=gp (G:=G) c (q,d) (by simp);rw[b] at m;rw[b,eB,<-m,n]
  .rw[c8 b];refine gp k x ?_;rcases ay.mp f with h|h
   .exact aA _ h
   .rcases ah.mp h with e|h
    .rw[e] at b;exact absurd rfl b
    .exact ar _ (ao _ h)
 .have l:a≠q:=λz=>j (q,d) (by simp) z.symm;rw[c8 l];refine gK λx f=>?_;rcases ay.mp f with h|h
  .exact j x (aA _ h)
  .rcases ah.mp h with e|h
   .rw[e];exact Ne.symm l
   .exact j x (ar _ (ao _ h))
def jv.put{q:Addr}{c:HO}{b a:List (Addr×HO)}(f:jv G (b++(q,o)::a))(d:o8 (b++(q,c)::a)):jv G (b++(q,c)::a):=by
 refine{by simpa using f.nd,λx g=>?_,d};rcases ay.mp g with h|h
 .exact f.free x (aA _ h)
 .rcases ah.mp h with e|h
  .rw[e];exact f.free (q,o) (by simp)
  .exact f.free x (ar _ (ao _ h))
def gQ.drop(r:O.Nodup)(h:gQ O K σ ρ H G)(J:i∈O):∃F,dV G F/\gQ O K σ (ρ.set i Z) H F:=by
 cases hd:(ρ[i]?).join with
 |none=>
  refine{G,.refl G,?_};obtain⟨B,u,f,p⟩:=h.ex;have l:∀(j:Nat) (d:fZ),(ρ.set i Z)[j]?=Y (Y d)->ρ[j]?=Y (Y d):=λj d q=>by
   by_cases e:j=i
   .subst e;by_cases D:j<ρ.length
    .rw[aQ D] at q;cases q
    .rw[cp (by simpa using D)] at q;cases q
   .rw[av (Ne.symm e)] at q;exact q
  refine{by simpa using h.len,{B,u,f,?_},λj d q I=>h.lz j d (l j d q) I};have s:∀{m:List Nat}{B:List (Addr×HO)},il (jI O) K σ ρ G m B->il (jI O) K σ (ρ.set i Z) G m B:=by
   intro m;induction m with
   |nil=>exact λh=>h
   |cons j m C=>
    intro B h;rcases h with ⟨a,b⟩ | ⟨d,v,k,N,a,b,c,q,t⟩
    .refine .inl {?_,C b};cases q:((ρ.set i Z)[j]?).join with
     |none=>rfl
     |some d=>rw[l j d (join_some q)] at a;cases a
    .refine .inr {d,v,k,N,?_,b,c,q,C t};have e:j≠i:=λz=>by subst z;rw[a] at hd;cases hd
     rw[av (Ne.symm e)];exact a
  exact s p
 |some d=>
  sleep 1;obtain⟨v,o,k,n,P,L,f,x,A,y,_,M⟩:=h.own r J (join_some hd);sleep 2;have g:(o++(k++n)).Perm ((o++n)++k):=by rw[bb];exact dz _ bc
  have E:jv G ((o++n)++k):=f.perm g ((A.append y).append x.mh);have u:H=b9 (b9 G k) (o++n):=by rw[L,ik f.nd g,hE]
  have w:dV G (b9 G k):=(E.B9 x.mh).same;refine{b9 G k,w,?_};rw[u];exact M _ w (E.B8 (A.append y))
theorem il.ins{i:Nat}{n:fZ}{v:V}{o:List (Addr×HO)}:∀{O:List Nat}{B:List (Addr×HO)},O.Nodup->il dp K σ ρ G O B->i∈O->i<ρ.length->i<σ.length->(ρ[i]?).join=Z->iZ dp K G n v o ->
  ∃g,il dp K (σ.set i (Y v)) (ρ.set i (Y n)) G O g/\g.Perm (o++B)
 |[],_,_,_,hi,_,_,_,_=>by cases hi
 |j::O,B,Xn,h,hi,hl,Z5,hn,ob=>by
  have e:=bN.mp Xn;by_cases f:j=i
  .subst f;have p:∀k∈O,(ρ.set j (Y n))[k]?=ρ[k]?/\(σ.set j (Y v))[k]?=σ[k]?:=λk w=>by
    have:j≠k:=λz=>e.1 (z▸w);exact{av this,av this}
   rcases h with ⟨a,b⟩ | ⟨d,u,s,x,a,c,rfl,l,t⟩
   .exact{o++B,.inr {n,v,o,B,aQ hl,aQ Z5,rfl,ob,b.other p},List.Perm.refl _}
   .rw[a] at hn;cases hn
  .have m:=(ah.mp hi).resolve_left (Ne.symm f);rcases h with ⟨a,b⟩ | ⟨d,u,s,x,a,c,rfl,l,t⟩
   .obtain⟨g,r,q⟩:=il.ins e.2 b m hl Z5 hn ob;exact{g,.inl {by rw[av (Ne.symm f)];exact a,r},q}
   .obtain⟨g,r,q⟩:=il.ins e.2 t m hl Z5 hn ob;refine{s++g,.inr {d,u,s,g,by rw[av (Ne.symm f)];exact a,by rw[av (Ne.symm f)];exact c,rfl,l,r},(q.append_left _).trans ?_};rw[<-bb,<-bb];exact dW _ bc
def gQ.new{O:List Nat}(e:O.Nodup)(h:gQ O K σ ρ H G){i:Nat}{d':fZ}{v:V}{k:List (Addr×HO)}(m:i∈O)(s:i<ρ.length)(A:iZ (jI O) K G d' v k)(D:jv H k):
  ∃x,dV G x/\gQ O K (σ.set i (Y v)) (ρ.set i (Y d')) (b9 H k) x:=by
 obtain⟨p,r,n⟩:=h.drop e m;obtain⟨B,E,f,l⟩:=n.ex;have g:i<(ρ.set i Z).length:=by simpa using s
 obtain⟨y,o,w⟩:=l.ins e m g (by rw[n.len];exact g) (by rw[aQ s];rfl) (A.same r);rw[List.set_set] at o;subst E;have C:jv p (k++B):=f.join D;have u:jv p y:=C.perm w.symm o.mh;refine{p,r,by simpa using h.len,{y,?_,u,o},λj d q t=>?_}
 .rw[ik u.nd w,hE]
 .have c:j≠i:=λz=>t (z▸m);rw[av (Ne.symm c)] at q;obtain⟨v,a,b⟩:=n.lz j d (by rw[av (Ne.symm c)];exact q) t;exact{v,by rw[av (Ne.symm c)];exact a,b}
end
def lA:fZ->fZ->Bool
 |.int a,.int b=>decide (a=b)
 |.str a,.str b=>decide (a=b)
 |_,_=>false
def jn(a b:Key):lA (jH a) (jH b)=decide (a=b):=by cases a<;>cases b<;>simp[jH,lA]
def rA:fZ->Option Key
 |.int i=>Y (.inl i)
 |.str x=>Y (.inr x)
 |_=>Z
def jb{k:Key}(h:rA d=Y k):d=jH k:=by cases d<;>simp[rA] at h<;>subst h<;>rfl
def jT{K:Fg}{k:Key}(h:bC K H (jH k) v):v=kV k:=by
 cases k with
 |inl i=>exact bC.d5.mp h
 |inr x=>exact bC.eW.mp h
def kQ(k:fZ):List (fZ×fZ)->Od
 |[]=>Z
 | (y,d)::r=>if lA y k=true then Y d else kQ k r
def Cb(k v:fZ)(a:List (fZ×fZ)):List (fZ×fZ) :=
 if (a.any λx=>lA x.1 k)=true then a.map (λx=>if lA x.1 k=true then (x.1,v) else x) else a++[(k,v)]
def gZ:List (fZ×fZ)->Bool
 | (.none,_)::_=>true
 | (.bool _,_)::_=>true
 |_=>false
section
variable {K:Fg}
def qv.r{b:List (Key×V)}{k:Key}(e:Rd H a (.dK b)):qv H a (kV k) (nO b k):=.inl {(b),k,e,rfl,rfl}
def bC.rn(h:bC K H (.dict jG) v)(b:gZ jG=false):∃p a,v=.ref p/\Rd H p (.dK a)/\gs K H jG a:=by
 obtain⟨p,i,⟨a,e,g⟩ | ⟨c,C,l,j,e,g,f⟩ | ⟨c,C,e,⟨rfl,_⟩ | ⟨n,d,rfl,_⟩⟩⟩:=bC.ke.mp h
 .exact{(p),a,i,e,g}
 .cases jG with
  |nil=>exact(nQ.eL.mp f).elim
  |cons x r=>obtain⟨k,d⟩:=x;obtain⟨rfl,_,_⟩:=nQ.dv.mp f;cases b
 .cases b
 .cases b
def bC.Ke{r:List (fZ×fZ)}(h:bC K H (.dict ((.none,.str c)::r)) v):∃p C g b,v=.ref p/\iE K c C/\H p=Y (.ins C g b)/\kc K H r b:=by
 obtain⟨p,l,⟨m,f,a⟩ | ⟨o,C,g,b,f,a,k⟩ | ⟨c,C,f,⟨a,_⟩ | ⟨n,d,a,_⟩⟩⟩:=bC.ke.mp h
 .obtain⟨y,_,_,_,e,_⟩:=gs.dv.mp a;cases y<;>cases e
 .obtain⟨_,j,i⟩:=nQ.dv.mp k;cases j;exact{(p),C,g,b,l,f,a,i}
 .cases a
 .cases a
theorem gs.val{y:Key}:∀{f:List (fZ×fZ)}{g:List (Key×V)},gs K H f g ->
  (kQ (jH y) f=Z/\nO g y=Z)\/∃d v,kQ (jH y) f=Y d/\nO g y=Y v/\bC K H d v
 |[],_,h=>by rw[gs.eL.mp h];exact .inl {(rfl),rfl}
 | (k,d)::r,_,h=>by
  sleep 1;obtain⟨z,v,m,rfl,rfl,i,t⟩:=gs.dv.mp h;sleep 2;by_cases e:z=y
  .right;exact{d,v,by simp[kQ,jn,e],rk e,i}
  .rcases gs.val (y:=y) t with ⟨a,b⟩ | ⟨l,j,a,b,c⟩
   .exact .inl {by simp[kQ,jn,e,a],by rw[pw (p:=(z,v)) e];exact b}
   .exact .inr {l,j,by simp[kQ,jn,e,a],by rw[pw (p:=(z,v)) e];exact b,c}
theorem gs.any{y:Key}:∀{a:List (fZ×fZ)}{b:List (Key×V)},gs K H a b->(b.any λx=>decide (x.1=y))=a.any λx=>lA x.1 (jH y)
 |[],_,h=>by rw[gs.eL.mp h];rfl
 | (k,d)::r,_,h=>by sleep 1;obtain⟨z,v,c,rfl,rfl,i,t⟩:=gs.dv.mp h;sleep 2;rw[bX,bX,gs.any t,jn]
theorem gs.D1{y:Key}{d:fZ}{v:V}(i:bC K H d v):∀{a:List (fZ×fZ)}{b:List (Key×V)},gs K H a b ->
  gs K H (a.map λx=>if lA x.1 (jH y)=true then (x.1,d) else x) (b.map λx=>if x.1=y then (x.1,v) else x)
 |[],_,h=>by rw[gs.eL.mp h];exact gs.eL.mpr rfl
 | (k',j)::r,_,h=>by
  sleep 1;obtain⟨z,f,g,rfl,rfl,c,t⟩:=gs.dv.mp h;sleep 2;rw[ae,ae,jn];by_cases e:z=y
  .rw[ai e,ai (aW e)];exact gs.dv.mpr {_,_,_,rfl,rfl,i,gs.D1 i t}
  .rw[aq e,aq (by simp[e])];exact gs.dv.mpr {_,_,_,rfl,rfl,c,gs.D1 i t}
theorem gs.snoc{y:Key}{d:fZ}{v:V}(i:bC K H d v):∀{a:List (fZ×fZ)}{b:List (Key×V)},gs K H a b->gs K H (a++[(jH y,d)]) (b++[(y,v)])
 |[],_,h=>by rw[gs.eL.mp h];exact gs.dv.mpr {_,_,_,rfl,rfl,i,gs.eL.mpr rfl}
 | (k',g)::r,_,h=>by sleep 1;obtain⟨z,e,f,rfl,rfl,c,t⟩:=gs.dv.mp h;sleep 2;exact gs.dv.mpr {_,_,_,rfl,rfl,c,gs.snoc i t}
def gs.put{y:Key}(h:gs K H jG kv)(i:bC K H d v):gs K H (Cb (jH y) d jG) (o2 kv y v):=by
 unfold Cb o2;rw[h.any];by_cases e:(jG.any λx=>lA x.1 (jH y))=true
 .rw[ai e,ai e];exact h.D1 i
 .rw[aq e,aq e];exact h.snoc i
theorem gs.length:∀{a:List (fZ×fZ)}{b:List (Key×V)},gs K H a b->a.length=b.length
 |[],_,h=>by rw[gs.eL.mp h];rfl
 | (k,d)::r,_,h=>by sleep 1;obtain⟨z,v,c,rfl,rfl,i,t⟩:=gs.dv.mp h;sleep 2;simp[gs.length t]
end
section
variable {a o i:Expr}
def PE.or{t u:TE}(h:PE X e t)(b:PE X e u):PE X e (λσ H Q=>t σ H Q\/u σ H Q):=λa s σ H Q I q=>q.elim (@h a s σ H Q I) (@b a s σ H Q I)
def Gf(x k:fZ):Od:=match x with
 |.dict jG=>if gZ jG=true then Z else (rA k).bind λ_=>kQ k jG
 |_=>Z
def OL(L:X.A.units+64<cLine)(C:PD X a fa)(B:PD X b fb)(f:D2 b):PD X (.Subscript a b pos) (d2 Gf fa fb) :=
 PE.imp (FZ (by omega) C B f) λJ H Q h=>by
  sleep 1;obtain⟨l,d,f,e,k⟩:=h;sleep 2;obtain⟨x,I,e⟩:=bind_some e;obtain⟨y,G,e⟩:=bind_some e;refine{l,x,f,I,λv O n z=>{l,y,f.same n,G,λu N m w=>?_}};obtain⟨c,rfl⟩:∃c,x=.dict c:=by cases x<;>first|exact{_,rfl}|(simp[Gf] at e)
  unfold Gf at e;by_cases j:gZ c=true
  .dsimp only at e;rw[ai j] at e;cases e
  .dsimp only at e;rw[aq j] at e;obtain⟨t,F,g⟩:=bind_some e;sleep 1;obtain⟨p,K,rfl,E,D⟩:=(z.same m).rn (by simpa using j);sleep 2;have:=jb F;subst this;rw[jT w];rcases D.val (y:=t) with ⟨i,_⟩ | ⟨M,o,i,s,q⟩
   .rw[i] at g;cases g
   .rw[i] at g;cases g;exact{p,o,rfl,by rw[<-s];exact qv.r E,k.later (n.trans m) |>.here q}
def gS(x k:fZ):Od:=match x with
 |.dict jG=>Gf (.dict jG) k
 |x=>YY x k
def Ud(p:X.A.units+64<cLine)(j:PD X a fa)(i:PD X b fb)(f:rj b)(g:D2 b):PD X (.Subscript a b pos) (d2 gS fa fb) :=
 PE.imp (PE.or (WT ixD j i f) (OL p j i g)) λr H Q h=>by
  sleep 1;obtain⟨c,d,f,e,k⟩:=h;sleep 2;obtain⟨x,n,q⟩:=bind_some e;obtain⟨y,m,l⟩:=bind_some q;cases x with
  |dict o=>exact .inr {c,d,f,by show (fa c).bind _=_;rw[n];show (fb c).bind _=_;rw[m];exact l,k}
  |_=>exact .inl {c,d,f,by show (fa c).bind _=_;rw[n];show (fb c).bind _=_;rw[m];exact l,k}
def mx(x k:fZ):Od:=match x with
 |.dict jG=>if gZ jG=true then Z else (rA k).bind λ_=>Y ((kQ k jG).getD .none)
 |_=>Z
def Kf(N:X.A.units+64<cLine)(F:PD X o fa)(E:PD X e fb)(m:M1 X o "get" apos e gv):PD X (.Call (.Attribute o "get" apos) [e] [] gv) (d2 mx fa fb) :=
 PE.imp (JK (by omega) F E m) λL H Q h=>by
  sleep 1;obtain⟨l,d,s,e,k⟩:=h;sleep 2;obtain⟨x,K,e⟩:=bind_some e;obtain⟨y,J,e⟩:=bind_some e;refine{l,x,s,K,λv R n D=>?_};obtain⟨a,rfl⟩:∃a,x=.dict a:=by cases x<;>first|exact{_,rfl}|(simp[mx] at e)
  unfold mx at e;by_cases i:gZ a=true
  .dsimp only at e;rw[ai i] at e;cases e
  .dsimp only at e;rw[aq i] at e;obtain⟨z,I,b⟩:=bind_some e;sleep 1;obtain⟨p,B,rfl,t,G⟩:=D.rn (by simpa using i);sleep 2;refine{p,rfl,.inl {(B),t},l,y,s.same n,J,λu P c C=>?_};have:=jb I;subst this;rw[jT C];refine{_,qv.r (c.rd t),?_};have j:=G.same c;have q:=k.later (n.trans c);rcases j.val (y:=z) with ⟨g,f⟩ | ⟨O,M,g,f,w⟩
   .rw[g] at b;cases b;rw[f];exact q.here (bC.iU.mpr rfl)
   .rw[g] at b;cases b;rw[f];exact q.here w
def Kg(j:X.A.units+64<cLine):lu X (compareOp .In) (λx y H Q=>∃p a k,x=kV k/\y=.ref p/\Rd H p (.dK a)/\Q (.bl (nO a k).isSome) H):=by intro b s g H x y v u Q I d c h;sleep 1;obtain⟨p,a,k,rfl,rfl,e,q⟩:=h;sleep 2;cases c;exact ZH (by omega) I (qv.r e) d λi f=>{.bl _,H,f,rfl,q}
def Cc(j:X.A.units+64<cLine):lu X (compareOp .NotIn) (λx y H Q=>∃p a k,x=kV k/\y=.ref p/\Rd H p (.dK a)/\Q (.bl (!(nO a k).isSome)) H):=by intro b s g H x y v u Q I d c h;sleep 1;obtain⟨p,a,k,rfl,rfl,e,q⟩:=h;sleep 2;cases c;exact Oo (by omega) I (qv.r e) d λi f=>{.bl _,H,f,rfl,q}
def rB(I:c7 X pins σ H s){x:fZ}(n:SeqAt.shaped x=true)(C:bC X.K H x v)(w:gg v u)(U:A.units+x.depth<cLine):
  ∀{a:Lp}{c:List V}{b:Lw},(∀d∈a,SeqAt.shaped d=true)->a9 X.K H a c->fv c b->∃e:Value->Bool,(∀y∈b,SeqAt.EqAt A s y u (e y))/\b.any e=a.any λd=>fZ.eqv d x:=by
 obtain⟨Q,t⟩:=I.oq (aZ n) C w;let e:Value->Bool:=λy=>@decide (∃d g,Reads s.heap y d g/\SeqAt.shaped d=true/\fZ.eqv d x=true) (Classical.propDecidable _);have G:∀(d:fZ) (g:List Addr) (y:Value),Reads s.heap y d g->SeqAt.shaped d=true->e y=fZ.eqv d x:=λd g y r f=>by
  cases q:fZ.eqv d x with
  |true=>exact @decide_eq_true _ (Classical.propDecidable _) {(d),g,r,f,q}
  |false=>refine @decide_eq_false _ (Classical.propDecidable _) ?_;rintro⟨O,P,l,J,m⟩;have:=SeqAt.Reads.unique d O y _ _ (aZ f) r l;subst this;rw[q] at m;cases m
 intro a;have h:∀{a:Lp}{c:List V}{b:Lw},(∀d∈a,SeqAt.shaped d=true)->a9 X.K H a c->fv c b->(∀y∈b,SeqAt.EqAt A s y u (e y))/\b.any e=a.any λd=>fZ.eqv d x:=by
  intro a;induction a with
  |nil=>intro c b _ i r;rw[a9.eL.mp i] at r;cases r;exact{(λy j=>by cases j),rfl}
  |cons d a D=>
   intro c b o i r;sleep 1;obtain⟨T,l,rfl,F,E⟩:=a9.dv.mp i;sleep 2;cases r with
   |cons B z=>
    obtain⟨S,R⟩:=D (λd f=>o d (ao _ f)) E z;have f:=o d (by simp);obtain⟨g,k⟩:=I.oq (aZ f) F B;have p:=G d g _ k f;refine{λy j=>?_,by rw[bX,bX,p,R]};rcases ah.mp j with q|q
    .subst q;rw[p];refine SeqAt.eqAt_reads d x A s _ _ g Q k t (aZ f) (aZ n) ?_;have:min d.depth x.depth<=x.depth:=fA _ _;omega
    .exact S y q
 intro c b N M L;exact{e,h N M L}
def kG:fZ->fZ->Option Bool
 |x,.list xs=>if SeqAt.shaped x=true/\xs.all SeqAt.shaped=true/\x.depth<=60 then Y (xs.any λy=>fZ.eqv y x) else Z
 |x,.tuple xs=>if SeqAt.shaped x=true/\xs.all SeqAt.shaped=true/\x.depth<=60 then Y (xs.any λy=>fZ.eqv y x) else Z
 |x,.dict jG=>if gZ jG=true then Z else (rA x).map λ_=>(kQ x jG).isSome
 |.str x,.str y=>Y (!(Builtin.Str.occurrences y x 0 y.length 1).isEmpty)
 |_,_=>Z
def uK(x y:fZ):Od:=(kG x y).map .bool
def lZ(x y:fZ):Od:=(kG x y).map λb=>.bool (!b)
def OM(F:X.A.units+64<cLine):lu X (compareOp .In) (λx y H Q=>∃p d g i,y=.ref p/\(nj X.K H p i\/pf X.K H p i)/\bC X.K H d x/\a9 X.K H g i/\SeqAt.shaped d=true/\g.all SeqAt.shaped=true/\d.depth<=60 /\
  Q (.bl (g.any λy=>fZ.eqv y d)) H):=by
 intro t s E H x y v u Q I o B h;sleep 1;obtain⟨p,d,g,i,rfl,f,w,is,z,l,D,q⟩:=h;sleep 2;cases B;have b:∀d∈g,SeqAt.shaped d=true:=aI.mp l;have c:X.A.in1.units+d.depth<cLine:=by show X.A.units+1+d.depth<cLine;omega
 rcases f with f|f
 .obtain⟨a,r,j,C⟩:=I.list f;obtain⟨e,n,m⟩:=rB I (A:=X.A.in1) z w o c b is r;refine SeqAt.in_listAt e j.isList (λy k=>n y (by simpa using k)) {.bl _,H,I,rfl,?_};rw[show a.toArray.any e=a.any e by simp,m];exact q
 .obtain⟨a,r,j,C⟩:=I.tuple f;obtain⟨e,n,m⟩:=rB I (A:=X.A.in1) z w o c b is r;refine SeqAt.in_tupleAt e j (λy k=>n y (by simpa using k)) {.bl _,H,I,rfl,?_};rw[show a.toArray.any e=a.any e by simp,m];exact q
def D9(F:X.A.units+64<cLine):lu X (compareOp .NotIn) (λx y H Q=>∃p d g i,y=.ref p/\(nj X.K H p i\/pf X.K H p i)/\bC X.K H d x/\a9 X.K H g i/\SeqAt.shaped d=true/\g.all SeqAt.shaped=true/\d.depth<=60 /\
  Q (.bl (!(g.any λy=>fZ.eqv y d))) H):=by
 intro t s E H x y v u Q I o B h;sleep 1;obtain⟨p,d,g,i,rfl,f,w,is,z,l,D,q⟩:=h;sleep 2;cases B;have b:∀d∈g,SeqAt.shaped d=true:=aI.mp l;have c:X.A.in1.units+d.depth<cLine:=by show X.A.units+1+d.depth<cLine;omega
 rcases f with f|f
 .obtain⟨a,r,j,C⟩:=I.list f;obtain⟨e,n,m⟩:=rB I (A:=X.A.in1) z w o c b is r;refine SeqAt.notIn_listAt e j.isList (λy k=>n y (by simpa using k)) {.bl _,H,I,rfl,?_};rw[show a.toArray.any e=a.any e by simp,m];exact q
 .obtain⟨a,r,j,C⟩:=I.tuple f;obtain⟨e,n,m⟩:=rB I (A:=X.A.in1) z w o c b is r;refine SeqAt.notIn_tupleAt e j (λy k=>n y (by simpa using k)) {.bl _,H,I,rfl,?_};rw[show a.toArray.any e=a.any e by simp,m];exact q
def Xo(s:X.A.units+64<cLine):ro X (compareOp .In) uK:=by
 refine lu.imp ((OM s).or ((Kg s).or Hx)) ?_;rintro x y H Q ⟨a,b,c,l,j,e,k⟩;obtain⟨t,d,i⟩:=aj.mp e;subst i;cases b with
 |list g=>
  dsimp only[kG] at d;by_cases f:SeqAt.shaped a=true/\g.all SeqAt.shaped=true/\a.depth<=60
  .rw[ai f] at d;cases d;sleep 1;obtain⟨p,m,rfl,i,h⟩:=bC.fj.mp j;sleep 2;exact .inl {p,a,g,m,rfl,.inl i,l,h,f.1,f.2.1,f.2.2,k.here (bC.d6.mpr rfl)}
  .rw[aq f] at d;cases d
 |tuple g=>
  dsimp only[kG] at d;by_cases f:SeqAt.shaped a=true/\g.all SeqAt.shaped=true/\a.depth<=60
  .rw[ai f] at d;cases d;sleep 1;obtain⟨p,m,rfl,i,h⟩:=j.hU;sleep 2;exact .inl {p,a,g,m,rfl,.inr i,l,h,f.1,f.2.1,f.2.2,k.here (bC.d6.mpr rfl)}
  .rw[aq f] at d;cases d
 |dict q=>
  dsimp only[kG] at d;by_cases f:gZ q=true
  .rw[ai f] at d;cases d
  .rw[aq f] at d;obtain⟨r,h,C⟩:=aj.mp d;subst C;sleep 1;obtain⟨p,v,rfl,B,w⟩:=j.rn (by simpa using f);sleep 2;have:=jb h;subst this;refine .inr (.inl {p,v,r,jT l,rfl,B,?_});rcases w.val (y:=r) with ⟨o,n⟩ | ⟨E,D,o,n,_⟩
   .rw[n];rw[o] at k;exact k.here (bC.d6.mpr rfl)
   .rw[n];rw[o] at k;exact k.here (bC.d6.mpr rfl)
 |str z=>
  cases a<;>try (simp[kG] at d;done)
  rename_i u;simp only[kG] at d;cases d;exact .inr (.inr {u,z,bC.eW.mp l,bC.eW.mp j,k.here (bC.d6.mpr rfl)})
 |none=>simp[kG] at d
 |bool _=>simp[kG] at d
 |int _=>simp[kG] at d
def Kh(s:X.A.units+64<cLine):ro X (compareOp .NotIn) lZ:=by
 refine lu.imp ((D9 s).or ((Cc s).or zG)) ?_;rintro x y H Q ⟨a,b,c,l,j,e,k⟩;obtain⟨t,d,i⟩:=aj.mp e;subst i;cases b with
 |list g=>
  dsimp only[kG] at d;by_cases f:SeqAt.shaped a=true/\g.all SeqAt.shaped=true/\a.depth<=60
  .rw[ai f] at d;cases d;sleep 1;obtain⟨p,m,rfl,i,h⟩:=bC.fj.mp j;sleep 2;exact .inl {p,a,g,m,rfl,.inl i,l,h,f.1,f.2.1,f.2.2,k.here (bC.d6.mpr rfl)}
  .rw[aq f] at d;cases d
 |tuple g=>
  dsimp only[kG] at d;by_cases f:SeqAt.shaped a=true/\g.all SeqAt.shaped=true/\a.depth<=60
  .rw[ai f] at d;cases d;sleep 1;obtain⟨p,m,rfl,i,h⟩:=j.hU;sleep 2;exact .inl {p,a,g,m,rfl,.inr i,l,h,f.1,f.2.1,f.2.2,k.here (bC.d6.mpr rfl)}
  .rw[aq f] at d;cases d
 |dict q=>
  dsimp only[kG] at d;by_cases f:gZ q=true
  .rw[ai f] at d;cases d
  .rw[aq f] at d;obtain⟨r,h,C⟩:=aj.mp d;subst C;sleep 1;obtain⟨p,v,rfl,B,w⟩:=j.rn (by simpa using f);sleep 2;have:=jb h;subst this;refine .inr (.inl {p,v,r,jT l,rfl,B,?_});rcases w.val (y:=r) with ⟨o,n⟩ | ⟨E,D,o,n,_⟩
   .rw[n];rw[o] at k;exact k.here (bC.d6.mpr rfl)
   .rw[n];rw[o] at k;exact k.here (bC.d6.mpr rfl)
 |str z=>
  cases a<;>try (simp[kG] at d;done)
  rename_i u;simp only[kG] at d;cases d;exact .inr (.inr {u,z,bC.eW.mp l,bC.eW.mp j,k.here (bC.d6.mpr rfl)})
 |none=>simp[kG] at d
 |bool _=>simp[kG] at d
 |int _=>simp[kG] at d
def kJ:Lp->Od
 |[.dict jG]=>if gZ jG=true then Z else Y (.int jG.length)
 |ds=>OC ds
def ON:vp X (.builtin "len") kJ:=by
 refine i6.imp (i6.or T7 HK) ?_;rintro l H Q ⟨j,c,i,e,k⟩;unfold kJ at e;split at e
 .rename_i a;by_cases b:gZ a=true
  .rw[ai b] at e;cases e
  .rw[aq b] at e;cases e;obtain⟨v,rfl,f⟩:=ir i;sleep 1;obtain⟨p,d,rfl,h,g⟩:=f.rn (by simpa using b);sleep 2;refine .inr {p,d,rfl,h,?_};rw[<-g.length];exact k.here (bC.d5.mpr rfl)
 .exact .inl {(j),c,i,e,k}
def jw(K:Fg)(c f:Str):Prop:=∃C,iE K c C/\HB K C/\qM K C f
def j6(a:Lr)(f:Str)(d:fZ):Od:=match d with
 |.dict ((.none,.str c)::r)=>if c∈a then nS f r else Z
 |_=>Z
def lT(b:Lr)(n:Str)(f:aC->Od):aC->Od:=λa=>(f a).bind (j6 b n)
def Ue{g:Lr}{n:Str}(t:∀c∈g,jw X.K c n)(q:PD X e f)(s:zr0 (attributeBase e n X.env (eval e X.env)=eval e X.env)):PD X (.Attribute e n pos) (lT g n f) :=
 PE.imp (Jt q s) <| by
  rintro I H Q ⟨h,d,o,e,k⟩;obtain⟨x,F,a⟩:=bind_some e;refine{h,x,o,F,λv J i m=>?_};unfold j6 at a;split at a
  .rename_i c r;by_cases b:c∈g
   .rw[ai b] at a;sleep 1;obtain⟨p,C,G,E,rfl,z,y,w⟩:=m.Ke;sleep 2;obtain⟨L,D,B,A⟩:=t c b;have:=z.uniq D;subst this;obtain⟨u,l,j⟩:=w.get a;exact{p,C,G,E,u,rfl,y,B,A,l,(k.later i).here j}
   .rw[aq b] at a;cases a
  .cases a
end
end L2
local macro_rules
|`(zN $a)=>zzz "L2.j5 L2.kJ (L2.bz 0 L2.gm)" #[a]
|`(zX $a $b)=>zzz "L2.d2 L2.gS 0 1" #[a,b]
namespace L2
open PySem PySem.Spec PyProof.Rows
inductive Pl where
 |sl (i:Nat)
 |fl (i:Nat) (c f:Str)
def Pl.ix:Pl->Nat
 |.sl i=>i
 |.fl i _ _=>i
def Ki(c f:Str)(d:fZ):Od:=match d with
 |.dict ((.none,.str a)::r)=>if a=c/\lD c f=true then nS f r else Z
 |_=>Z
def Kj(f:Str)(y d:fZ):fZ:=match d with
 |.dict ((.none,.str c)::r)=>.dict ((.none,.str c)::ou f y r)
 |d=>d
def o4:Pl->aC->Od
 |.sl i,ρ=>(ρ[i]?).join
 |.fl i c f,ρ=>(ρ[i]?).join.bind (Ki c f)
def rD:Pl->fZ->aC->aC
 |.sl i,d,ρ=>ρ.set i (Y d)
 |.fl i _ f,d,ρ=>ρ.set i ((ρ[i]?).join.map (Kj f d))
def uL(K:Fg)(a:St)(H:Hp):Pl->Addr->Prop
 |.sl i,q=>a[i]?=Y (Y (.ref q))
 |.fl i c f,q=>∃C p d b,a[i]?=Y (Y (.ref p))/\iE K c C/\H p=Y (.ins C d b)/\b.lookup f=Y (.ref q)
def sU:fZ->Bool
 |.list _=>true
 |.dict jG=>!gZ jG
 |_=>false
section
variable {K:Fg}
def iZ.cont(h:iZ false K G d v B)(e:sU d=true):∃q o,v=.ref q/\B=[(q,o)]/\o3 K G d q o:=by
 rcases h with ⟨q,o,i,a,b,c⟩ | ⟨c,C,p,g,f,r,j,rfl,_⟩
 .exact{q,o,a,by rw[b,c.2],c.1}
 .cases e
def iZ.Ug{q:Addr}(h:o3 K G d q o):iZ false K G d (.ref q) [(q,o)]:=.inl {q,o,[],rfl,rfl,h,rfl}
def Ea:fZ->Bool
 |.list []=>true
 |.dict []=>true
 |_=>false
def o3.gen{q:Addr}(h:o3 K G d q o)(b:dp=false\/Ea d=true):nu dp K G d q o []:=by
 cases dp with
 |false=>exact{(h),rfl}
 |true=>
  have b:=b.resolve_left (by simp);rcases h with ⟨i,f,rfl,rfl,c⟩ | ⟨e,g,rfl,rfl,c⟩
  .cases i with
   |nil=>exact .inl {[],f,rfl,rfl,a9.eL.mp c,rfl}
   |cons a l=>cases b
  .cases e with
   |nil=>exact .inr {[],g,rfl,rfl,gs.eL.mp c,rfl}
   |cons a l=>cases b
def nu.Uh{q:Addr}{g:List (Addr×HO)}{r:List (fZ×fZ)}(h:nu dp K G (.dict ((.none,.str c)::r)) q o g):False:=by
 cases dp with
 |false=>
  rcases h with ⟨⟨_,_,e,_⟩ | ⟨b,d,e,_,i⟩,_⟩
  .cases e
  .cases e;sleep 1;obtain⟨y,_,_,_,e,_⟩:=gs.dv.mp i;sleep 2;cases y<;>cases e
 |true=>
  rcases h with ⟨_,_,e,_⟩ | ⟨b,d,e,_,i⟩
  .cases e
  .cases e;sleep 1;obtain⟨y,v,j,l,k,a,f,_⟩:=i;sleep 2;cases y<;>cases f
def iZ.inst{r:List (fZ×fZ)}(h:iZ dp K G (.dict ((.none,.str c)::r)) v B):∃C p b a d,v=.ref p/\B=(p,.ins C b a)::(b,.own p)::d/\iE K c C/\jg K G c r a d:=by
 rcases h with ⟨q,o,k,rfl,rfl,h⟩ | ⟨j,C,p,b,a,i,d,e,rfl,rfl,g,f⟩
 .exact h.Uh.elim
 .cases e;exact{(C),p,b,a,d,rfl,rfl,g,f}
def Eb{f:Str}{x:fZ}(h:Ki c f x=Y d):∃r,x=.dict ((.none,.str c)::r)/\lD c f=true/\nS f r=Y d:=by
 unfold Ki at h;split at h
 .rename_i e r;by_cases a:e=c/\lD c f=true
  .rw[ai a] at h;obtain⟨rfl,b⟩:=a;exact{(r),rfl,b,h}
  .rw[aq a] at h;cases h
 .cases h
def rE(O:List Nat):Pl->Bool
 |.sl _=>jI O
 |.fl _ c f=>ow c f
def gQ.Ec(t:O.Nodup)(h:gQ O K σ ρ H G){m:Pl}(T:m.ix∈O)(U:o4 m ρ=Y d)(hc:sU d=true):
  ∃q o s l k,uL K σ H m q/\H=b9 G (l++((q,o)::(s++k)))/\jv G (l++((q,o)::(s++k)))/\o8 l/\o8 k/\nu (rE O m) K G d q o s /\
   ∀e j b a,dV G e->nu (rE O m) K e j q b a->jv e (l++((q,b)::(a++k)))->gQ O K σ (rD m j ρ) (b9 e (l++((q,b)::(a++k)))) e:=by
 cases m with
 |sl i=>
  sleep 1;obtain⟨v,l,B1,k,N,w,f,A,I,F,Q,_⟩:=h.own t T (join_some U);sleep 2;rcases A with ⟨q,o,s,rfl,rfl,X⟩ | ⟨c,C,p,g,n,r,B',rfl,_⟩
  .exact{q,o,s,l,k,N,w,f,I,F,X,λe j b a y B u=>Q e j ((q,b)::a) y (.inl {(q),b,a,rfl,rfl,B}) u}
  .cases hc
 |fl i c f=>
  obtain⟨x,V,e0⟩:=bind_some U;obtain⟨r,rfl,J,hg⟩:=Eb e0;sleep 1;obtain⟨v,l,B1,k,N,w,u,A,I,F,Q,_⟩:=h.own t T (join_some V);sleep 2;sleep 1;obtain⟨C,p,g,n,B',rfl,rfl,W,a5⟩:=A.inst;sleep 2;sleep 1;obtain⟨q,o,s,S,R,l1,rfl,m1,m2,oc,P⟩:=a5.split J hg;sleep 2;have M:∀(b:HO) (a:List (Addr×HO)),l++(((p,HO.ins C g n)::(g,HO.own p)::(S++((q,b)::(a++R))))++k)=(l++(p,HO.ins C g n)::(g,HO.own p)::S)++((q,b)::(a++(R++k))):=λb a=>by simp
  rw[M] at w u;refine{q,o,s,_,_,{C,p,g,n,N,W,?_,l1},w,u,I.append (.ins m1),m2.append F,oc,λe j b a y E L=>?_}
  .rw[w];exact gp u.nd (p,.ins C g n) (by simp)
  .have D:=P e j b a y E;have z:iZ (jI O) K e (.dict ((.none,.str c)::ou f j r)) (.ref p) ((p,HO.ins C g n)::(g,HO.own p)::(S++((q,b)::(a++R)))):=.inr {(c),C,p,g,n,_,_,rfl,rfl,rfl,W,D};have:=Q e _ _ y z (by rw[M];exact L);rw[M] at this;have es:rD (.fl i c f) j ρ=ρ.set i (Y (.dict ((.none,.str c)::ou f j r))):=by
    show ρ.set i ((ρ[i]?).join.map (Kj f j))=_;rw[V];rfl
   rw[es];exact this
def gQ.place(g:O.Nodup)(h:gQ O K σ ρ H G){a:Pl}(s:a.ix∈O)(t:o4 a ρ=Y d)(u:sU d=true)(i:rE O a=false):
  ∃q o,uL K σ H a q/\H q=Y o/\o3 K G d q o/\∀f c,o3 K G f q c->gQ O K σ (rD a f ρ) (upd H q c) G:=by
 sleep 1;obtain⟨q,o,x,w,v,r,j,e,p,n,k,l⟩:=h.Ec g s t u;sleep 2;rw[i] at k l;obtain⟨m,rfl⟩:=k;refine{q,o,r,by rw[j];exact gp e.nd (q,o) (by simp),m,λf c b=>?_};rw[bO] at j e;rw[j,nT e.nd];exact l G f c [] (.refl G) {(b),rfl} (e.put (p.append (.one b.Z4 n)))
end
inductive Md where
 |dat|own|io (dp:Bool) (v0:V)|exc (W:Int->Hp->Prop)|S1 (W:Int->Hp->Prop)
def KO(K:Fg)(H:Hp)(d:fZ)(Q:VK):Prop:=∀v a b,dV H a->jv a b->iZ false K a d v b->Q v (b9 a b)
def KO.later{K:Fg}{Q:VK}(k:KO K H d Q)(e:dV H H'):KO K H' d Q:=λv a b s f o=>k v a b (e.trans s) f o
structure jJ (m:Md) (O:List Nat) (K:Fg) (σ:St) (ρ:aC) (H G:Hp):Prop where
 o:gQ O K σ ρ H G
 z:∀dp v0,m=.io dp v0->0∈O/\σ[0]?=Y (Y v0)/\jI O=dp
def RJ(m:Md)(K:Fg)(G:Hp)(d:fZ)(Q:VK):Prop:=match m with
 |.dat=>KD K G d Q
 |.own=>KO K G d Q
 |.io dp v0=>∃x g,d=.tuple [x,g]/\∀v a f,dV G a->jv a f->iZ dp K a g v0 f->bC K a x v->Q v (b9 a f)
 |.exc W=>(∃n,d=.int n/\∀a,dV G a->W n a)\/((∀n,d≠.int n)/\KD K G d Q)
 |.S1 W=>(∃n,d=.int n/\∀a,dV G a->W n a)\/((∀n,d≠.int n)/\∀v e c,dV G e->dV c e->(∀b o,G b=Y o->c b=Z)->bC K c d v->Q v e)
theorem RJ.later{m:Md}{K:Fg}{G g:Hp}{d:fZ}{Q:VK}(e:dV G g)(h:RJ m K G d Q):RJ m K g d Q:=by
 cases m with
 |dat=>exact KD.later h e
 |own=>exact KO.later h e
 |io u t=>obtain⟨x,p,a,b⟩:=h;exact{x,p,a,λv c B s f o i=>b v c B (e.trans s) f o i}
 |exc W=>
  rcases h with ⟨n,a,b⟩ | ⟨a,b⟩
  .exact .inl {n,a,λc s=>b c (e.trans s)}
  .exact .inr {a,KD.later b e}
 |S1 W=>
  rcases h with ⟨n,a,b⟩ | ⟨a,b⟩
  .exact .inl {n,a,λc s=>b c (e.trans s)}
  .exact .inr {a,λv r q l k j i=>b v r q (e.trans l) k (λb o z=>j b o (e b o z)) i}
def vy(m:Md)(O:List Nat)(K:Fg)(G:Hp)(D:pb):Out->Prop
 |.nx ρ=>∀a b c,dV G c->jJ m O K a ρ b c->D.nx a b
 |.bk ρ=>∀a b c,dV G c->jJ m O K a ρ b c->D.bk a b
 |.ct ρ=>∀a b c,dV G c->jJ m O K a ρ b c->D.ct a b
 |.rt d=>RJ m K G d D.rt
theorem vy.later{m:Md}{O:List Nat}{K:Fg}{G f:Hp}{D:pb}(e:dV G f):∀{o:Out},vy m O K G D o->vy m O K f D o
 |.nx _,h=>λa c d b q=>h a c d (e.trans b) q
 |.bk _,h=>λa c d b q=>h a c d (e.trans b) q
 |.ct _,h=>λa c d b q=>h a c d (e.trans b) q
 |.rt _,h=>RJ.later e h
def tO(m:Md)(O:List Nat)(K:Fg)(g:aC->Option Out):TS:=λD b H=>∃a o G,jJ m O K b a H G/\g a=Y o/\vy m O K G D o
def mX(X:Cx)(m:Md)(O:List Nat)(a:Stmt)(g:aC->Option Out):Prop:=PS X a (tO m O X.K g)
def mQ(X:Cx)(m:Md)(O:List Nat)(a:List Stmt)(g:aC->Option Out):Prop:=xb X a (tO m O X.K g)
def my:fZ->Bool
 |.list _=>false
 |.tuple _=>false
 |.dict _=>false
 |_=>true
def bC.j0{K:Fg}(h:my d=true)(i:bC K H d v):bC K H' d v:=by cases d<;>first|(cases h;done)|(unfold bC at i ⊢;exact i)
theorem a9.j0{K:Fg}{H f:Hp}:∀{c:Lp}{e:List V},c.all my=true->a9 K H c e->a9 K f c e
 |[],_,_,i=>by rw[a9.eL.mp i];exact a9.nil
 |d::c,_,h,i=>by sleep 1;obtain⟨v,r,rfl,a,b⟩:=a9.dv.mp i;sleep 2;simp only[List.all_cons,aO] at h;exact a9.cons (bC.j0 h.1 a) (a9.j0 h.2 b)
section
variable {m:Md}{a c:Expr}{rest:List Stmt}{h:aC->Option Out}
def PV(X:Cx)(O:List Nat)(e:Expr)(h:aC->Od):Prop:=PE X e (λσ H Q=>∃a d G,gQ O X.K σ a H G/\h a=Y d/\∀v b c,dV H b->dV G c->gQ O X.K σ a b c->bC X.K c d v->Q v b)
def gf(O:List Nat)(f:aC->Od):aC->Od:=λρ=>f (iz O ρ)
def OO(f:aC->Od):aC->Od:=λa=>(f a).bind λd=>if my d=true then Y d else Z
def qN(b:(B.map (·.1)).Nodup)(e:dV G G'):dV (b9 G B) (b9 G' B):=λa o h=>by
 rcases ub (a:=a) B with ⟨x,c,rfl⟩|h'
 .rw[gp b x c] at h ⊢;exact h
 .rw[gK h'] at h ⊢;exact e a o h
def Xp(m:PD X e f):PV X O e (gf O f) :=
 PE.imp (PE.frame m) <| by rintro p H Q ⟨l,d,G,a,n,k⟩;obtain⟨B,j,h,c⟩:=a.ex;refine{G,B,j,h,iz O l,d,a.rest,n,λv o b i g=>?_};subst j;exact k v _ o (qN h.nd b) b (gQ.sT a.len c a.lz b g) i
def Cd(h:OO f ρ=Y d):f ρ=Y d/\my d=true:=by
 obtain⟨x,c,a⟩:=bind_some h;by_cases b:my x=true
 .rw[ai b] at a;cases a;exact{(c),b}
 .rw[aq b] at a;cases a
def Xq(j:PD X e f):PV X O e (OO f) :=
 PE.imp j <| by rintro q H Q ⟨g,d,G,c,n,k⟩;obtain⟨m,l⟩:=Cd n;refine{g,d,c.full,m,λv o b i=>?_};obtain⟨p,h,_,a⟩:=c.grow b;exact k v o p b h a (i.j0 l)
def PF(X:Cx)(e:Expr)(f:aC->Od):Prop:=PE X e (λσ H Q=>∃a d,ju X.K H σ a/\f a=Y d/\KO X.K H d Q)
def Xr(X:Cx)(O:List Nat)(e:Expr)(h:aC->Od):Prop:=PE X e (λσ H Q=>∃b d G,gQ O X.K σ b H G/\h b=Y d/\∀v a c f,dV H a->dV G c->gQ O X.K σ b a c->jv a f->iZ false X.K c d v f->Q v (b9 a f))
def Ui(q:PF X e f):Xr X O e (gf O f) :=
 PE.imp (PE.frame q) <| by
  rintro u H Q ⟨p,d,G,c,t,k⟩;obtain⟨B,o,g,i⟩:=c.ex;refine{G,B,o,g,iz O p,d,c.rest,t,λv a b h r j l=>?_};have n:jv a (B++b):=r.join l;have m:jv a (b++B):=n.perm bc (j.mh.append g.ok);have s:b9 (b9 a b) B=b9 (b9 a B) b:=by rw[<-hE,<-hE];exact ik n.nd bc
  rw[s];subst o;exact k v _ a b (qN g.nd h) h (gQ.sT c.len i c.lz h (m.B9 g.ok)) (m.B8 j.mh) j
def xu:fZ->Bool
 |.list ds=>ds.all my
 |_=>false
def NO(f:aC->Od):aC->Od:=λa=>(f a).bind λd=>if xu d=true then Y d else Z
def Uj(s:PF X e f):Xr X O e (NO f) :=
 PE.imp s <| by
  rintro C H Q ⟨m,d,G,l,w,k⟩;obtain⟨x,u,b⟩:=bind_some w;by_cases a:xu x=true
  .rw[ai a] at b;cases b;refine{m,d,l.full,u,λv A B j t p=>?_};obtain⟨z,c,_,g⟩:=l.grow j;refine k v A z B j c g t ?_;cases d<;>try (simp[xu] at a;done)
   rename_i D;sleep 1;obtain⟨q,o,rfl,rfl,r⟩:=p.cont rfl;sleep 2;rcases r with ⟨y,n,h,rfl,i⟩ | ⟨_,_,h,_⟩
   .cases h;exact iZ.Ug (.inl {_,n,rfl,rfl,i.j0 a})
   .cases h
  .rw[aq a] at b;cases b
def Uk(n:xh X es ff):PF X (.List es pos) (gk ff) :=
 PE.imp (Jw n) <| by
  rintro r H Q ⟨i,d,l,e,k⟩;obtain⟨h,o,a⟩:=bind_some e;refine{i,h,l,o,λc q j f=>?_};by_cases b:h.length<=sizeLine
  .first
   | (rw[ai b] at a;cases a)
   | (cases a)
   refine{by rw[<-f.length];exact b,λp m=>?_};exact k (.ref p) q [(p,.lst c)] j {by simp,(λx g=>by simp at g;subst g;exact m),.one aY .nil} (iZ.Ug (.inl {_,c,rfl,rfl,f}))
  .rw[aq b] at a;cases a
def Ul:PF X (.Dict [] [] pos) (dC (.dict [])) :=
 PE.imp JH <| by rintro c H Q ⟨f,d,g,e,k⟩;cases e;intro p b;exact k (.ref p) H [(p,.dK [])] (.refl H) {by simp,(λx a=>by simp at a;subst a;exact b),.one aY .nil} (iZ.Ug (.inr {[],[],rfl,rfl,gs.eL.mpr rfl}))
def vz:mQ X m O [] gd:=xb.imp NZ <| by rintro D a H ⟨c,o,G,b,e,k⟩;cases e;exact k a H G (.refl G) b
def yp(q:mX X m O st g)(p:mQ X m O rest h):mQ X m O (st::rest) (a7 g h) :=
 xb.imp (Ji q p) <| by
  rintro D t H ⟨j,o,G,n,e,k⟩;obtain⟨f,r,b⟩:=bind_some e;refine{j,f,G,n,r,?_};cases f with
  |nx a=>exact λi u s l c=>{a,o,s,c,b,k.later l}
  |rt d=>cases b;exact k
  |bk a=>cases b;exact k
  |ct a=>cases b;exact k
def nU(a:mX X m O st g):mQ X m O [st] g:=xb.imp (N1 a) λD b H h=>h
def OP(h:PD X e f):mX X .dat O (.Return (Y e) pos) (f9 f) :=
 PS.imp (sN h) <| by rintro D j H ⟨b,o,G,a,e,k⟩;obtain⟨d,g,rfl⟩:=aj.mp e;exact{b,d,a.o.full,g,λv l c i=>KD.later k (a.o.sub.trans c) |>.here i}
def Kk(h:PF X e f):mX X .own O (.Return (Y e) pos) (f9 f) :=
 PS.imp (sN h) <| by rintro D g H ⟨b,o,G,a,e,k⟩;obtain⟨d,c,rfl⟩:=aj.mp e;exact{b,d,a.o.full,c,KO.later k a.o.sub}
def Kl(i:Nat) {z:Pos} (g:O.Nodup) (w:zd0 (i∈O)) (h:zr0 (jI O=false)) (y:zr0 (X.N[i]?=Y x)) (s:zr 4 (BE X.env.scope x)) (u:zd0 (zg x))
  (j:zd0 ((x==("__classdict__":Str))=false)):mX X .own O (.Return (Y (.Name x z)) pos) (f9 (fq i)) :=
 PS.imp (sN (mn y s u j)) <| by
  rintro D E H ⟨F,o,G,t,e,k⟩;obtain⟨d,C,rfl⟩:=aj.mp e;sleep 1;obtain⟨v,m,c,l,B,A,f,b,p,n,_,_⟩:=t.o.own g w (join_some C);sleep 2;rw[h] at b;refine{v,B,?_};have a:(m++(c++l)).Perm (c++(m++l)):=by rw[<-bb,<-bb];exact dW _ bc
  have r:jv G (c++(m++l)):=f.perm a (b.mh.append (p.append n));rw[A,ik f.nd a,hE];have q:=r.B9 (p.append n);exact(show KO X.K G d D.rt from k) v _ c q.same (r.B8 b.mh) (b.same q.same)
def Km{i f:List Stmt}(q:z6 X c gc)(s:mQ X m O i g)(r:mQ X m O f h):mX X m O (.If c i f pos) (iy gc g h) :=
 PS.imp (Rq q s r) <| by
  rintro D u H ⟨d,o,G,b,e,k⟩;obtain⟨y,t,l⟩:=bind_some e;refine{d,y,b.o.full,t,λv p=>?_};obtain⟨n,j,_,a⟩:=b.o.grow p;cases y with
  |true=>rw[ai rfl];exact{d,o,n,{a,b.z},l,k.later j}
  |false=>rw[aq aV];exact{d,o,n,{a,b.z},l,k.later j}
theorem jJ.set{K:Fg}{σ:St}{ρ:aC}{H G:Hp}{i:Nat}{d:fZ}{v:V}(h:jJ m O K σ ρ H G)(b:i∉O)(e:bC K G d v):jJ m O K (σ.set i (Y v)) (ρ.set i (Y d)) H G :=
 {h.o.set b e,λk g z=>by obtain⟨a,f,c⟩:=h.z k g z;have j:i≠0:=λq=>b (q▸a);exact{a,by rw[av j];exact f,c}}
def bS(f:aC->Od)(i:Nat):aC->Option Out:=λρ=>(f ρ).map λd=>.nx (ρ.set i (Y d))
def OQ(i:Nat) {a:Pos} (s:X.N.Nodup) (q:PV X O e f) (r:zd0 (i∉O)) (n:zr0 (X.N[i]?=Y x)) (l:zr 3 (DJ X.env.scope x)) (b:zr0 (swapsWith e (Y (.Name x a)) pos.line X.env=pure false))
  (p:zr 1 (X.fn x=true\/X.env.scope.names.lookup x=Y .local)):mX X m O (.Assign [.Name x a] e pos) (bS f i) :=
 PS.imp (Jk s n l q b p) <| by rintro D y H ⟨g,o,G,b,e,k⟩;obtain⟨d,t,rfl⟩:=aj.mp e;exact{g,d,G,b.o,t,λv u w _ h c j=>k _ u w h (jJ.set {c,b.z} r j)}
def j7(f:aC->Od)(i:Nat):aC->Option Out:=λa=>(f a).bind λd=>if i<a.length then Y (.nx (a.set i (Y d))) else Z
def OR(i:Nat) {a:Pos} (B:X.N.Nodup) (g:O.Nodup) (y:Xr X O e f) (A:zd0 (i∈O)) (l:zr0 (jI O=false)) (h0:zr 11 (i≠0\/m=.dat\/m=.own)) (u:zr0 (X.N[i]?=Y x)) (t:zr 3 (DJ X.env.scope x)) (b:zr0 (swapsWith e (Y (.Name x a)) pos.line X.env=pure false))
  (w:zr 1 (X.fn x=true\/X.env.scope.names.lookup x=Y .local)):mX X m O (.Assign [.Name x a] e pos) (j7 f i) :=
 PS.imp (Jk B u t y b w) <| by
  rintro D K H ⟨n,o,G,b,e,k⟩;obtain⟨d,F,c⟩:=bind_some e;by_cases h:i<n.length
  .rw[ai h] at c;cases c;refine{n,d,G,b.o,F,λv L M P _ r j E p=>?_};rw[<-l] at p;obtain⟨J,s,C⟩:=j.new g A h p E;refine k _ _ J (r.trans s) {C,λI q z=>?_};rcases h0 with h0|h0|h0
   .rw[av h0];exact b.z I q z
   .rw[h0] at z;cases z
   .rw[h0] at z;cases z
  .rw[aq h] at c;cases c
def PP(X:Cx)(e:Expr)(a:Pl):Prop:=PE X e (λσ H Q=>∃q,uL X.K σ H a q/\Q (.ref q) H)
def Kn(i:Nat) (d:zr0 (X.N[i]?=Y x)) (b:zr 4 (BE X.env.scope x)) (c:zd0 (zg x))
  (a:zd0 ((x==("__classdict__":Str))=false)):PP X (.Name x pos) (.sl i):=PE.imp (mn d b c a) λe H Q ⟨q,r,k⟩=>{_,r,k}
def Xs(i:Nat) {c n:Str}{a:Pos} (h:jw X.K c n) (g:zr0 (X.N[i]?=Y x)) (d:zr 4 (BE X.env.scope x)) (e:zd0 (zg x))
  (b:zd0 ((x==("__classdict__":Str))=false)) (f:zr0 (attributeBase (.Name x a) n X.env (eval (.Name x a) X.env)=eval (.Name x a) X.env)):PP X (.Attribute (.Name x a) n pos) (.fl i c n) :=
 PE.imp (Jt (mn g d e b) f) <| by rintro w H Q ⟨q,⟨C,p,v,o,u,t,s,r⟩,k⟩;obtain⟨y,m,l,j⟩:=h;have:=t.uniq m;subst this;exact{_,u,p,C,v,o,_,rfl,s,l,j,r,k}
theorem o3.lst{K:Fg}{G:Hp}{b:Lp}{q:Addr}{o:HO}(h:o3 K G (.list b) q o):∃a,o=.lst a/\a9 K G b a:=by
 rcases h with ⟨d,a,e,c,i⟩ | ⟨_,_,e,_⟩
 .cases e;exact{(a),c,i}
 .cases e
def o3.dct{K:Fg}{q:Addr}(h:o3 K G (.dict jG) q o):∃a,o=.dK a/\gs K G jG a:=by
 rcases h with ⟨c,d,e,b,i⟩ | ⟨_,a,e,b,i⟩
 .cases e
 .cases e;exact{(a),b,i}
def uL.eq{K:Fg}{a:Pl}{q b:Addr}(h:uL K σ H a q)(d:uL K σ H' a b)(e:dV H H'):q=b:=by
 cases a with
 |sl i=>have n:σ[i]?=Y (Y (.ref q)):=h;have g:σ[i]?=Y (Y (.ref b)):=d;rw[n] at g;cases g;rfl
 |fl i c f=>sleep 1;obtain⟨C,p,w,v,t,y,s,r⟩:=h;sleep 2;sleep 1;obtain⟨z,u,o,m,l,x,k,j⟩:=d;sleep 2;rw[t] at l;cases l;rw[e _ _ s] at k;cases k;rw[r] at j;cases j;rfl
def gU(b:Pl)(f:aC->Od):aC->Option Out:=λa=>(o4 b a).bind λl=>(f a).bind λd=>match l with
 |.list ds=>if ds.length<sizeLine then Y (.nx (rD b (.list (ds++[d])) a)) else Z
 |_=>Z
def Ed{t:Pl}{o:Expr} (h:O.Nodup) (T:PP X o t) (U:PV X O e f) (E:zd0 (t.ix∈O)) (s:zr0 (rE O t=false)) (j:zr0 (starEach [e] X.env=(false,eval e X.env)::starEach [] X.env))
  (c:zr0 (attributeBase o "append" X.env (eval o X.env)=eval o X.env))
  (p:zr0 (((backTo gv (starEach [e] X.env)).all (λx=>!x.1)&&(backToKw gv (keywordEach [] X.env)).all (λx=>x.1.isSome)&&decide (([e]:Lx).length+([]:List Keyword).length+(if ([]:List Keyword).isEmpty then 0 else 1)<30))=true))
  (b:zr0 ((apos.endLine==gv.line)=true)) (a:zr0 ((backTo gv (starEach [] X.env)).any (·.1)=false))
  (n:zr0 (swapsWith (.Call (.Attribute o "append" apos) [e] [] gv) Z pos.line X.env=pure false)):
  mX X m O (.Expr (.Call (.Attribute o "append" apos) [e] [] gv) pos) (gU t f) :=
 PS.imp (rf (yg cy PySem.F.slot_list_append PySem.F.type_list_append yi T (gR U kO j) c p b j a) n) <| by
  rintro D σ H ⟨J,o,G,n,e,k⟩;obtain⟨l,I,V⟩:=bind_some e;obtain⟨d,W,g⟩:=bind_some V;obtain⟨C,rfl⟩:∃C,l=.list C:=by cases l<;>first|exact{_,rfl}|cases g
  dsimp only at g;by_cases y:C.length<sizeLine
  .rw[ai y] at g;cases g;sleep 1;obtain⟨q,ob,r,S,P,_⟩:=n.o.place h E I rfl s;sleep 2;obtain⟨K,rfl,i4⟩:=P.lst;refine{q,r,.inl {rfl,K,nj.of S},J,d,G,n.o,W,λv H' G' L M A R=>?_};sleep 1;obtain⟨q',Q,N,B,w,cl⟩:=A.place h E I rfl s;sleep 2;have:=uL.eq r N L;subst this;obtain⟨u,rfl,i⟩:=w.lst;refine{q,u,v,rfl,rfl,B,by rw[<-i.length];exact y,?_};exact k _ _ G' M {cl _ _ (.inl {_,_,rfl,rfl,i.append (a9.cons R a9.nil)}),n.z}
  .rw[aq y] at g;cases g
end
end L2
variable  {m:L2.Md}
namespace L2
open PySem PySem.Spec PyProof.Rows
section
variable {a c:Expr}{rest:List Stmt}{h:aC->Option Out}
def Ee(b:Pl):aC->Option Out:=λa=>(o4 b a).bind λl=>match l with
 |.list ds=>if ds.isEmpty=true then Z else Y (.nx (rD b (.list ds.dropLast) a))
 |_=>Z
theorem a9.dropLast{K:Fg}{H:Hp}{b:Lp}{a:List V}(h:a9 K H b a):a9 K H b.dropLast a.dropLast:=by rw[List.dropLast_eq_take,List.dropLast_eq_take,h.length];exact h.take _
def OS{d:Pl}{o:Expr} (i:O.Nodup) (u:PP X o d) (w:zd0 (d.ix∈O)) (n:zr0 (rE O d=false))
  (b:zr0 (attributeBase o "pop" X.env (eval o X.env)=eval o X.env)) (a:zr0 ((apos.endLine==gv.line)=true))
  (g:zr0 (swapsWith (.Call (.Attribute o "pop" apos) [] [] gv) Z pos.line X.env=pure false)):
  mX X m O (.Expr (.Call (.Attribute o "pop" apos) [] [] gv) pos) (Ee d) :=
 PS.imp (rf (TB cy PySem.F.slot_list_pop PySem.F.type_list_pop TH u b a) g) <| by
  rintro D A H ⟨B,o,G,g,e,k⟩;obtain⟨l,x,c⟩:=bind_some e;obtain⟨h,rfl⟩:∃h,l=.list h:=by cases l<;>first|exact{_,rfl}|cases c
  dsimp only at c;by_cases j:h.isEmpty=true
  .rw[ai j] at c;cases c
  .rw[aq j] at c;cases c;sleep 1;obtain⟨q,C,r,s,t,y⟩:=g.o.place i w x rfl n;sleep 2;obtain⟨f,rfl,p⟩:=t.lst;have v:f.length - 1<f.length:=by
    have:=p.length;have:h≠[]:=λz=>j (by rw[z];rfl);have:=bj.mpr this;omega
   exact{q,r,.inl {rfl,f,nj.of s},q,f,_,rfl,rfl,s,aN v,k _ _ G (.refl G) {y _ _ (.inl {_,_,rfl,rfl,p.dropLast}),g.z}}
def Xt:V->V->V->Hp->(Hp->Prop)->Prop:=λo i v H Q=>∃p a k,o=.ref p/\i=kV k/\H p=Y (.dK a)/\a.length<sizeLine/\Q (upd H p (.dK (o2 a k v)))
def Um(t:X.A.units+64<cLine):BL X Xt:=by intro a s j H o i v m r u Q I c d b h;sleep 1;obtain⟨p,n,k,rfl,rfl,e,f,q⟩:=h;sleep 2;cases c;exact HJ (by omega) I (Om.k e f) d b λl g=>{_,g,q}
def BL.or{t u:N4}(h:BL X t)(k:BL X u):BL X (λo i v H Q=>t o i v H Q\/u o i v H Q):=λa s b H o i v g j c Q I f e d q=>q.elim (@h a s b H o i v g j c Q I f e d) (@k a s b H o i v g j c Q I f e d)
def vA(k d l:fZ):Od:=match l with
 |.list ds=>match k with
  |.int i=>(zT ds.length i).map λj=>.list (ds.set j d)
  |_=>Z
 |.dict jG=>if jG.length<sizeLine/\gZ jG=false then (rA k).map λ_=>.dict (Cb k d jG) else Z
 |_=>Z
def sV(b:Pl)(g f:aC->Od):aC->Option Out:=λa=>(o4 b a).bind λl=>(f a).bind λd=>(g a).bind λe=>(vA e d l).map λc=>.nx (rD b c a)
theorem a9.set{K:Fg}{H:Hp}{d:fZ}{v:V}(i:bC K H d v):∀{c:Lp}{e:List V} (j:Nat),a9 K H c e->a9 K H (c.set j d) (e.set j v)
 |[],_,_,h=>by rw[a9.eL.mp h];exact a9.nil
 |x::c,_,j,h=>by
  sleep 1;obtain⟨u,r,rfl,a,b⟩:=a9.dv.mp h;sleep 2;cases j with
  |zero=>exact a9.cons i b
  |succ j=>exact a9.cons a (a9.set i j b)
def OT(hu:X.A.units+64<cLine) {y:Pl}{o:Expr}{b:Pos} (n:O.Nodup) (ho:PP X o y) (hk:PV X O a fa) (he:PV X O e f) (P:zd0 (y.ix∈O)) (x:zr0 (rE O y=false))
  (ha:∀v,assign (.Subscript o a b) X.env v=(do
   let ov <-holding [v] (eval o X.env);let iv <-holding [v,ov] (eval a X.env)
   standAt b
   holding [v,ov,iv] (setItem ov iv v)
   release [v,ov,iv] []):=by intro _;rfl)
  (u:zr0 (swapsWithSole [.Subscript o a b] e pos.line X.env=pure false)) (hw:zr0 (swappedStores [.Subscript o a b] e X.env=pure Z))
  (h1:zr0 ((assignEach [.Subscript o a b] X.env).map (·.2)=[assign (.Subscript o a b) X.env])):
  mX X m O (.Assign [.Subscript o a b] e pos) (sV y fa f) :=
 PS.imp (Jj he (S7 ho hk (BL.or JB (Um hu)) ha) u hw h1) <| by
  rintro D σ H ⟨J,o,G,u,e,k⟩;obtain⟨l,Q,ea⟩:=bind_some e;obtain⟨d,e2,eb⟩:=bind_some ea;obtain⟨L,e3,ec⟩:=bind_some eb;obtain⟨l',g,rfl⟩:=aj.mp ec;have F:sU l=true:=by
   cases l<;>try (simp[vA] at g;done)
   .rfl
   .rename_i c;simp only[vA] at g;by_cases h:c.length<sizeLine/\gZ c=false
    .show (!gZ c)=true;rw[h.2];rfl
    .rw[aq h] at g;cases g
  refine{J,d,G,u.o,e2,λv H1 G1 _ K t i1=>?_};sleep 1;obtain⟨q,ob,r,hq,oc,_⟩:=t.place n P Q F x;sleep 2;refine{q,r,J,L,G1,t,e3,λkv H2 S U B E N=>?_};sleep 1;obtain⟨q',W,V,w,i,R⟩:=E.place n P Q F x;sleep 2;have:=uL.eq r V U;subst this;have s:=i1.same B;cases l with
  |list ds=>
   obtain⟨T,rfl,p⟩:=i.lst;cases L<;>try (simp[vA] at g;done)
   rename_i j;simp only[vA] at g;obtain⟨M,I,rfl⟩:=aj.mp g;refine .inl {q,T,j,M,rfl,bC.d5.mp N,w,by rw[<-p.length];exact I,?_};exact k _ _ S (K.trans B) {R _ _ (.inl {_,_,rfl,rfl,p.set s M}),u.z}
  |dict c=>
   obtain⟨C,rfl,p⟩:=i.dct;simp only[vA] at g;by_cases h:c.length<sizeLine/\gZ c=false
   .rw[ai h] at g;obtain⟨ky,I,rfl⟩:=aj.mp g;have:=jb I;subst this;refine .inr {q,C,ky,rfl,jT N,w,by rw[<-p.length];exact h.1,?_};exact k _ _ S (K.trans B) {R _ _ (.inr {_,_,rfl,rfl,p.put s}),u.z}
   .rw[aq h] at g;cases g
  |_=>cases F
def Ae(b:Pl)(f:aC->Od):aC->Option Out:=λa=>(o4 b a).bind λl=>(f a).bind λd=>match l,d with
 |.list ds,.list es=>if ds.length+es.length<=sizeLine then Y (.nx (rD b (.list (ds++es)) a)) else Z
 |_,_=>Z
def Ef{u:Pl}{o:Expr} (i:O.Nodup) (ho:PP X o u) (he:Xr X O e f) (Q:zd0 (u.ix∈O)) (t:zr0 (rE O u=false)) (n:zr0 (starEach [e] X.env=(false,eval e X.env)::starEach [] X.env))
  (g:zr0 (attributeBase o "extend" X.env (eval o X.env)=eval o X.env))
  (s:zr0 (((backTo gv (starEach [e] X.env)).all (λx=>!x.1)&&(backToKw gv (keywordEach [] X.env)).all (λx=>x.1.isSome)&&decide (([e]:Lx).length+([]:List Keyword).length+(if ([]:List Keyword).isEmpty then 0 else 1)<30))=true))
  (c:zr0 ((apos.endLine==gv.line)=true)) (a:zr0 ((backTo gv (starEach [] X.env)).any (·.1)=false))
  (p:zr0 (swapsWith (.Call (.Attribute o "extend" apos) [e] [] gv) Z pos.line X.env=pure false)):
  mX X m O (.Expr (.Call (.Attribute o "extend" apos) [e] [] gv) pos) (Ae u f) :=
 PS.imp (rf (yg cy PySem.F.slot_list_extend PySem.F.type_list_extend HE ho (gR he kO n) g s c n a) p) <| by
  rintro D σ H ⟨S,o,G,p,e,k⟩;obtain⟨l,R,ea⟩:=bind_some e;obtain⟨d,e2,h⟩:=bind_some ea;obtain⟨L,rfl⟩:∃L,l=.list L:=by cases l<;>first|exact{_,rfl}|(cases d<;>cases h)
  obtain⟨K,rfl⟩:∃K,d=.list K:=by cases d<;>first|exact{_,rfl}|cases h
  dsimp only at h;by_cases B:L.length+K.length<=sizeLine
  .rw[ai B] at h;cases h;sleep 1;obtain⟨q,ob,r,hq,oc,_⟩:=p.o.place i Q R rfl t;sleep 2;obtain⟨T,rfl,i4⟩:=oc.lst;refine{q,r,.inl {rfl,T,nj.of hq},S,_,G,p.o,e2,λv H' G' B' U V E J ot=>?_};sleep 1;obtain⟨b,ob,rfl,rfl,y⟩:=ot.cont rfl;sleep 2;obtain⟨M,rfl,P⟩:=y.lst;obtain⟨G2,N,g2,C⟩:=E.grow J.same;sleep 1;obtain⟨q',ob',W,I,A,cl⟩:=C.place i Q R rfl t;sleep 2;have:=uL.eq r W (U.trans J.same);subst this;obtain⟨w,rfl,j⟩:=A.lst;refine{q,b,w,M,rfl,rfl,I,gp J.nd (b,.lst M) (by simp),by rw[<-j.length,<-P.length];exact B,?_};exact k _ _ G2 (V.trans N) {cl _ _ (.inl {_,_,rfl,rfl,j.append (P.same N)}),p.z}
  .rw[aq B] at h;cases h
def jh(i:Nat)(c n:Str)(f:aC->Od):aC->Option Out:=λa=>(a[i]?).join.bind λx=>(f a).bind λd=>match x with
 |.dict ((.none,.str b)::r)=>if b=c/\lD c n=false/\r.length<1000 then Y (.nx (a.set i (Y (.dict ((.none,.str c)::ou n d r))))) else Z
 |_=>Z
theorem OU(i:Nat) {c n:Str}{a P:Pos} (w:O.Nodup) (hC:jw X.K c n) (he:PV X O e f) (hO:zd0 (i∈O)) (hN:zr0 (X.N[i]?=Y x)) (hv:zr 4 (BE X.env.scope x)) (hd:zd0 (zg x))
  (I:zd0 ((x==("__classdict__":Str))=false)) (j:zr0 (swapsWith e (Y (.Attribute (.Name x P) n a)) pos.line X.env=pure false)):
  mX X m O (.Assign [.Attribute (.Name x P) n a] e pos) (jh i c n f) :=
 PS.imp (Ju (mn hN hv hd I) he j) <| by
  rintro D σ H ⟨U,o,G,j,e,k⟩;obtain⟨y,e1,ea⟩:=bind_some e;obtain⟨d,e2,g⟩:=bind_some ea;obtain⟨C',g1,g2,g3⟩:=hC;split at g
  .rename_i M r;by_cases E:M=c/\lD c n=false/\r.length<1000
   .rw[ai E] at g;cases g;obtain⟨rfl,B,A⟩:=E;refine{U,d,G,j.o,e2,λv H' s _ V F i'=>?_};sleep 1;obtain⟨v0,T,B1,S,e3,L,l,W,k1,k2,cl,_⟩:=F.own w hO (join_some e1);sleep 2;sleep 1;obtain⟨C,p,b,J,t,rfl,rfl,R,Q⟩:=W.inst;sleep 2;have:=R.uniq g1;subst this;have q:∀u:HO,T++(((p,u)::(b,HO.own p)::t)++S)=T++(p,u)::((b,HO.own p)::t++S):=λu=>by simp
    rw[q] at L l;refine{_,e3,p,C,b,J,rfl,by rw[L];exact gp l.nd (p,.ins C b J) (by simp),g2,g3,by rw[Q.len];exact A,?_};have h:iZ (jI O) X.K s (.dict ((.none,.str M)::ou n d r)) (.ref p) ((p,.ins C b (mq n v J))::(b,.own p)::t):=.inr {M,C,p,b,_,_,t,rfl,rfl,rfl,R,Q.put B i'};rw[L,nT l.nd,<-q];exact k _ _ s V {cl s _ _ (.refl s) h (by rw[q];exact l.put (by rw[<-q];exact k1.append (h.mh.append k2))),j.z}
   .rw[aq E] at g;cases g
  .cases g
def yq(i:Nat)(c n:Str)(f:aC->Od):aC->Option Out:=λa=>(a[i]?).join.bind λx=>(f a).bind λd=>match x with
 |.dict ((.none,.str b)::r)=>if b=c/\lD c n=true/\r.length<1000/\nS n r=Z/\sU d=true/\(ow c n=false\/Ea d=true) then Y (.nx (a.set i (Y (.dict ((.none,.str c)::ou n d r))))) else Z
 |_=>Z
theorem Ko(i:Nat) {c n:Str}{t ep:Pos} (R:O.Nodup) (hC:jw X.K c n) (he:Xr X O e f) (hO:zd0 (i∈O)) (hN:zr0 (X.N[i]?=Y x)) (hv:zr 4 (BE X.env.scope x)) (hd:zd0 (zg x))
  (hcd:zd0 ((x==("__classdict__":Str))=false)) (J:zr0 (swapsWith e (Y (.Attribute (.Name x ep) n t)) pos.line X.env=pure false)):
  mX X m O (.Assign [.Attribute (.Name x ep) n t] e pos) (yq i c n f) :=
 PS.imp (Ju (mn hN hv hd hcd) he J) <| by
  rintro D σ H ⟨ρ,o,G,J,e,k⟩;obtain⟨y,e1,ea⟩:=bind_some e;obtain⟨d,e2,w⟩:=bind_some ea;obtain⟨C',g1,g2,g3⟩:=hC;split at w
  .rename_i c' r;by_cases hz:c'=c/\lD c n=true/\r.length<1000/\nS n r=Z/\sU d=true/\(ow c n=false\/Ea d=true)
   .rw[ai hz] at w;cases w;sleep 1;obtain⟨rfl,W,V,U,T,S⟩:=hz;sleep 2;refine{ρ,d,G,J.o,e2,λv H' B B2 _ sG hs' fB M=>?_};sleep 1;obtain⟨q,b,rfl,rfl,oc⟩:=M.cont T;sleep 2;sleep 1;obtain⟨v0,l,B1,j,e3,eH,fm,ot,k1,k2,cl,_⟩:=hs'.own R hO (join_some e1);sleep 2;sleep 1;obtain⟨C,p,a,g,h,rfl,rfl,a4,a5⟩:=ot.inst;sleep 2;have:=a4.uniq g1;subst this;have L:∀Q:HO,l++(((p,Q)::(a,HO.own p)::(h++[(q,b)]))++j)=l++(p,Q)::((a,HO.own p)::(h++[(q,b)])++j):=λQ=>by simp
    have u:((q,b)::(l++(((p,HO.ins C a g)::(a,HO.own p)::h)++j))).Perm (l++(((p,HO.ins C a g)::(a,HO.own p)::(h++[(q,b)]))++j)):=by
     have h1:l++(((p,HO.ins C a g)::(a,HO.own p)::(h++[(q,b)]))++j)=(l++((p,HO.ins C a g)::(a,HO.own p)::h))++((q,b)::j):=by simp
     have h2:(q,b)::(l++(((p,HO.ins C a g)::(a,HO.own p)::h)++j))=(q,b)::((l++((p,HO.ins C a g)::(a,HO.own p)::h))++j):=by simp
     rw[h1,h2];exact List.perm_middle.symm
    have P:o8 (l++(((p,HO.ins C a g)::(a,HO.own p)::(h++[(q,b)]))++j)):=k1.append ((o8.ins (a5.mh.append (.one oc.Z4 .nil))).append k2);have F:jv B ((q,b)::(l++(((p,HO.ins C a g)::(a,HO.own p)::h)++j))):=by have:=fm.join (A:=[(q,b)]) (by rw[<-eH];exact fB);exact this
    have s:=F.perm u P;have I:b9 H' [(q,b)]=b9 B (l++(((p,HO.ins C a g)::(a,HO.own p)::(h++[(q,b)]))++j)):=by rw[<-ik F.nd u,eH];rfl
    rw[L] at I s;rw[I];refine{_,e3,p,C,a,g,rfl,gp s.nd (p,.ins C a g) (by simp),g2,g3,by rw[a5.len];exact V,?_};have E:iZ (jI O) X.K B (.dict ((.none,.str c')::ou n d r)) (.ref p) ((p,.ins C a (mq n (.ref q) g))::(a,.own p)::(h++[(q,b)])):=.inr {c',C,p,a,_,_,_,rfl,rfl,rfl,a4,a5.add W (oc.gen S) U};rw[nT s.nd,<-L];exact k _ _ B sG {cl B _ _ (.refl B) E (by rw[L];exact s.put (by rw[<-L];exact k1.append (E.mh.append k2))),J.z}
   .rw[aq hz] at w;cases w
  .cases w
def Eg(i:Nat)(e:Int->Int->Int)(f:aC->Od):aC->Option Out:=λc=>(c[i]?).join.bind λx=>(f c).bind λd=>match x,d with
 |.int a,.int b=>Y (.nx (c.set i (Y (.int (e a b)))))
 |_,_=>Z
def OV(i:Nat) {a:Pos}{h:Operator}{o:Int->Int->Int} (C:X.N.Nodup) (t:YU X h (Zo o)) (B:PV X O e f) (n:zd0 (i∉O)) (w:zr0 (X.N[i]?=Y x)) (s:zr 3 (DJ X.env.scope x))
  (A:zr 1 (X.fn x=true\/X.env.scope.names.lookup x=Y .local)):mX X m O (.AugAssign (.Name x a) h e pos) (Eg i o f) :=
 PS.imp (S9 C w s B t A) <| by
  rintro D M H ⟨p,P,G,c,e,k⟩;obtain⟨y,K,E⟩:=bind_some e;obtain⟨d,J,g⟩:=bind_some E;obtain⟨j,rfl⟩:∃j,y=.int j:=by cases y<;>first|exact{_,rfl}|(cases d<;>cases g)
  obtain⟨l,rfl⟩:∃l,d=.int l:=by cases d<;>first|exact{_,rfl}|cases g
  cases g;obtain⟨v,I,F⟩:=c.o.lz i _ (join_some K) n;refine{v,I,p,_,G,c.o,J,λu Q L _ q b r=>{j,l,bC.d5.mp F,bC.d5.mp r,?_}};exact k _ _ L q (jJ.set {b,c.z} n (bC.d5.mpr rfl))
inductive Tg where
 |one (i:Nat)|many (is:List Nat)
def Tg.free(O:List Nat):Tg->Prop
 |.one i=>i∉O
 |.many is=>∀i∈is,i∉O
instance {O:List Nat}:(t:Tg)->Decidable (t.free O)
 |.one i=>inferInstanceAs (Decidable (i∉O))
 |.many is=>inferInstanceAs (Decidable (∀i∈is,i∉O))
def u4:aC->List Nat->Lp->aC
 |ρ,i::is,d::ds=>u4 (ρ.set i (Y d)) is ds
 |ρ,_,_=>ρ
def o5:Tg->fZ->aC->Option aC
 |.one i,d,ρ=>Y (ρ.set i (Y d))
 |.many is,.tuple ds,ρ=>if ds.length=is.length then Y (u4 ρ is ds) else Z
 |_,_,_=>Z
def Af:St->List Nat->List V->St
 |σ,i::is,v::vs=>Af (σ.set i (Y v)) is vs
 |σ,_,_=>σ
def gT(K:Fg):Tg->TG
 |.one i=>FI i
 |.many is=>λv b H Q=>∃p a,v=.ref p/\pf K H p a/\a.length=is.length/\Q (Af b is a) H
theorem jJ.Kp{K:Fg}{H G:Hp}:∀{is:List Nat}{σ:St}{ρ:aC}{b:Lp}{a:List V},jJ m O K σ ρ H G->(∀i∈is,i∉O)->a9 K G b a->jJ m O K (Af σ is a) (u4 ρ is b) H G
 |[],σ,ρ,b,a,h,_,_=>by cases b<;>cases a<;>exact h
 |i::is,σ,ρ,[],a,h,_,d=>by rw[a9.eL.mp d];exact h
 |i::is,σ,ρ,d::b,a,h,hi,ds'=>by sleep 1;obtain⟨v,r,rfl,e,c⟩:=a9.dv.mp ds';sleep 2;exact jJ.Kp (is:=is) (σ:=σ.set i (Y v)) (ρ:=ρ.set i (Y d)) (h.set (hi i (by simp)) e) (λj f=>hi j (ao _ f)) c
def jJ.bind{K:Fg}{a:aC}{b:Tg}{Q:St->Hp->Prop}(h:jJ m O K σ ρ H G)(f:b.free O)(i:bC K G d v)(e:o5 b d ρ=Y a)(k:∀sM,jJ m O K sM a H G->Q sM H):gT K b v σ H Q:=by
 cases b with
 |one j=>cases e;exact k _ (h.set f i)
 |many is=>
  cases d<;>try (simp[o5] at e;done)
  rename_i ds;dsimp only[o5] at e;by_cases c:ds.length=is.length
  .rw[ai c] at e;cases e;sleep 1;obtain⟨p,l,rfl,n,g⟩:=i.hU;sleep 2;exact{p,l,rfl,h.o.sub.xp n,by rw[<-g.length];exact c,k _ (h.Kp f g)}
  .rw[aq c] at e;cases e
def OW(i:Nat)(d:X.N.Nodup)(b:zr0 (X.N[i]?=Y x))(a:zr 3 (DJ X.env.scope x))(c:zr 1 (X.fn x=true\/X.env.scope.names.lookup x=Y .local)):PG X (.Name x pos) (gT X.K (.one i)):=mW d b a c
def OX(i j:Nat) {b a:Pos}{h:Nat} (s:X.calm=true) (f:X.N.Nodup) (o:zr0 (X.N[i]?=Y x)) (n:zr0 (X.N[j]?=Y y)) (l:zr 3 (DJ X.env.scope x)) (k:zr 3 (DJ X.env.scope y))
  (r:zr 1 (X.fn x=true\/X.env.scope.names.lookup x=Y .local)) (d:zr 1 (X.fn y=true\/X.env.scope.names.lookup y=Y .local))
  (m:zr0 ((assignEach [.Name x b,.Name y a] X.env).length=2)) (c:zr0 ((assignEach [.Name x b,.Name y a] X.env).findIdx? (·.1)=Z)):PG X (.Tuple [.Name x b,.Name y a] h pos) (gT X.K (.many [i,j])) :=
 PG.imp (DL s (nM (mW f o l r) (nM (mW f n k d) zD)) m c) <| by
  rintro v w H Q ⟨p,e,u,t,g,q⟩;refine{p,e,u,t,g,?_}
  match e,g with
  |[v1,v2],_=>exact{v1,[v2],rfl,v2,[],rfl,rfl,q}
def HQ(i j l:Nat) {z:Str}{d c b:Pos}{n:Nat} (C:X.calm=true) (h:X.N.Nodup) (A:zr0 (X.N[i]?=Y x)) (w:zr0 (X.N[j]?=Y y)) (u:zr0 (X.N[l]?=Y z)) (s:zr 3 (DJ X.env.scope x)) (r:zr 3 (DJ X.env.scope y)) (o:zr 3 (DJ X.env.scope z))
  (B:zr 1 (X.fn x=true\/X.env.scope.names.lookup x=Y .local)) (g:zr 1 (X.fn y=true\/X.env.scope.names.lookup y=Y .local)) (f:zr 1 (X.fn z=true\/X.env.scope.names.lookup z=Y .local))
  (t:zr0 ((assignEach [.Name x d,.Name y c,.Name z b] X.env).length=3)) (e:zr0 ((assignEach [.Name x d,.Name y c,.Name z b] X.env).findIdx? (·.1)=Z)):PG X (.Tuple [.Name x d,.Name y c,.Name z b] n pos) (gT X.K (.many [i,j,l])) :=
 PG.imp (DL C (nM (mW h A s B) (nM (mW h w r g) (nM (mW h u o f) zD))) t e) <| by
  rintro v F H Q ⟨p,k,E,D,m,q⟩;refine{p,k,E,D,m,?_}
  match k,m with
  |[v1,v2,a],_=>exact{v1,[v2,a],rfl,v2,[a],rfl,a,[],rfl,rfl,q}
def yr(f:aC->Od)(b:Tg):aC->Option Out:=λa=>(f a).bind λd=>(o5 b d a).map .nx
def OY{t:Tg} (n:PV X O e f) (l:PG X tg (gT X.K t)) (p:t.free O) (a:zr0 (swapsWithSole [tg] e pos.line X.env=pure false)) (hw:zr0 (swappedStores [tg] e X.env=pure Z))
  (q:zr0 ((assignEach [tg] X.env).map (·.2)=[assign tg X.env])):mX X m O (.Assign [tg] e pos) (yr f t) :=
 PS.imp (Jj n l a hw q) <| by rintro D A H ⟨h,o,G,a,e,k⟩;obtain⟨d,w,u⟩:=bind_some e;obtain⟨g,s,rfl⟩:=aj.mp u;exact{h,d,G,a.o,w,λv x y _ i b j=>jJ.bind {b,a.z} p j s λc r=>k _ x y i r}
end
section
variable {a c:Expr}{rest:List Stmt}{h:aC->Option Out}
def vB(K:Fg)(J:It)(f:Lp)(G:Hp):Prop :=
 ∀b,dV G b->(J.stop f.length b)/\∀(i:Nat) (d:fZ),f[i]?=Y d->J.go i b/\∀x c,J.V1 i b x c->dV b c/\∀e,dV G e->(∀a,b a=Z->e a=c a)->bC K e d x
def tOI(K:Fg)(q:aC->Option Lp):TI:=λd G R=>∃b c,ju K G d b/\q b=Y c/\∀J a,dV G a->vB K J c a->R J a
def Uo(X:Cx)(b a:Expr)(q:aC->Option Lp):Prop:=PI X b a (tOI X.K q)
def OZ(h:PD X e f):Uo X tg e (pC f) :=
 PI.imp (PI.or (FJ h) (Jm h)) <| by
  rintro D H R ⟨u,E,w,e,k⟩;obtain⟨d,z,a⟩:=bind_some e;cases d<;>try (simp at a;done)
  .cases a;refine .inl {u,_,w,z,λv t m r=>?_};sleep 1;obtain⟨p,b,rfl,a,j⟩:=bC.fj.mp r;sleep 2;refine{p,rfl,{(b),a},k _ t m λB c=>{{b,c.seq a,by rw[j.length];exact aH _},λi d q=>?_}};obtain⟨x,g,s⟩:=j.get q;refine{{b,x,c.seq a,g},?_};rintro y A ⟨o,n⟩;have:=n b (c.seq a);rw[g] at this;cases this;subst o;exact{.refl _,λC l _=>s.same l}
  .cases a;refine .inr {u,_,w,z,λv t m r=>?_};sleep 1;obtain⟨p,b,rfl,a,j⟩:=r.hU;sleep 2;refine{p,rfl,{(b),a},k _ t m λB c=>{{b,c.xp a,by rw[j.length];exact aH _},λi d q=>?_}};obtain⟨x,g,s⟩:=j.get q;refine{{b,x,c.xp a,g},?_};rintro y A ⟨o,n⟩;have:=n b (c.xp a);rw[g] at this;cases this;subst o;exact{.refl _,λC l _=>s.same l}
def Ag{K:Fg}(a:Int)(n:Nat)(G:Hp):vB K (V2 a n) (kI a n) G:=λh f=>by
 refine{by show n<=(kI a n).length;simp[kI],λi d q=>?_};have b:i<n:=by have:=(aS.mp q).1;simpa [kI] using this
 refine{b,?_};rintro x g ⟨e,c⟩;have:d=.int (a+(i:Nat)):=by unfold kI at q;rw[aM,fV b] at q;cases q;rfl
 subst this c e;exact{.refl _,λj _ _=>bC.d5.mpr rfl}
def Eh(o:Gl X "range")(n:X.mg "range"=Z)(h:PD X e f)(b:zr0 (starEach [e] X.env=[(false,eval e X.env)])):Uo X tg (.Call (.Name "range" p) [e] [] pos) (i9 f) :=
 PI.imp (x8 o n (gR h kO (by rw[b];rfl)) b) <| by
  rintro r H R ⟨i,s,b,e,k⟩;obtain⟨d,q,a⟩:=bind_some e;cases d<;>try (simp at a;done)
  rename_i j;dsimp only at a;by_cases c:-(2 ^ 62)<=j/\j<2 ^ 62
  .rw[ai c] at a;cases a;exact{i,_,b,q,λv g l m=>{j,by rw[bC.d5.mp m],c.1,c.2,k _ g l (Ag 0 _ g)}}
  .rw[aq c] at a;cases a
def POJ(X:Cx)(O:List Nat)(f a:Expr)(q:aC->Option Lp):Prop:=PI X f a (λσ H R=>∃b e G,gQ O X.K σ b H G/\q b=Y e/\∀J c d,dV H c->dV G d->gQ O X.K σ b c d->vB X.K J e d->R J c)
def xi(O:List Nat)(q:aC->Option Lp):aC->Option Lp:=λa=>q (iz O a)
def Up(h:Uo X tg iter q):POJ X O tg iter (xi O q) :=
 PI.imp (PI.frame h) <| by rintro m H R ⟨g,j,G,a,i,k⟩;obtain⟨B,f,e,c⟩:=a.ex;refine{G,B,f,e,iz O g,j,a.rest,i,λJ l b w d=>?_};subst f;exact k J _ l (qN e.nd b) b (gQ.sT a.len c a.lz b d) w
def jx(q:aC->Option Lp)(b:Tg)(g:aC->Option Out):aC->Option Out:=λa=>(q a).bind λc=>jl (o5 b) g c a
def Ah{t:Tg}{h:List Stmt} (hp:PassesOwn (model X.prog X.w) X.A X.env X.xe) (hc:X.calm=true) (hi:POJ X O tg iter q) (hg:PG X tg (gT X.K t)) (hO:t.free O) (hb:mQ X m O h g)
  (E:zr 2 (∀x,foldedSetIterable iter X.env x=pure x)):mX X m O (.For tg iter h [] pos) (jx q t g) :=
 PS.imp (Td hp hc hi hg hb E) <| by
  rintro D σ H ⟨T,o,G0,E,e,k⟩;obtain⟨b,e1,e2⟩:=bind_some e;refine{T,b,G0,E.o,e1,λJ H1 S _ N h1 w=>?_};refine{λi W l G=>W=b.length - i/\i<=b.length/\∃n L,dV S L/\jJ m O X.K l n G L/\jl (o5 t) g (b.drop i) n=Y o,{b.length,by simp,eJ _,T,S,.refl _,{h1,E.z},by simpa using e2},?_};rintro i W l G ⟨rfl,hi,n,L,C,f,v⟩;obtain⟨w1,w2⟩:=w G (C.trans f.o.sub);by_cases p:i<b.length
  .right;have hd:b[i]?=Y b[i]:=aN p;obtain⟨w3,w4⟩:=w2 i _ hd;rw[cI p] at v;unfold jl at v;obtain⟨V,e4,F⟩:=bind_some v;obtain⟨M,e6,e7⟩:=bind_some e4;refine{w3,λr H3=>∃a I,dV S I/\jJ m O X.K r a H3 I/\jl (o5 t) g (b.drop (i+1)) a=Y o,by rintro r H3 ⟨a,I,s3,h3,Q⟩;exact{b.length - (i+1),by omega,rfl,p,a,I,s3,h3,Q},λx H2 y=>?_};obtain⟨r1,r2⟩:=w4 x H2 y;obtain⟨G2,U,g2,P⟩:=f.o.grow r1;have i4:=r2 G2 (C.trans U) g2;refine jJ.bind (m:=m) {P,f.z} hO i4 e6 λσ5 h5=>{M,V,G2,h5,e7,?_}
   have c:=C.trans U;cases V with
   |nx a=>exact λj R B s u=>{a,B,c.trans s,u,F}
   |ct a=>exact λj R B s u=>{a,B,c.trans s,u,F}
   |bk a=>cases F;exact λj R B s u=>k j R B (N.trans (c.trans s)) u
   |rt d=>cases F;exact RJ.later (N.trans c) k
  .have Q:i=b.length:=by omega
   subst Q;rw[List.drop_length] at v;cases v;exact .inl {w1,k l G L (N.trans C) f}
def sW(c:aC->Option Bool)(g:aC->Option Out):Nat->aC->Option Out
 |0,_=>Z
 |n+1,ρ=>(c ρ).bind λb=>if b=true then (g ρ).bind λo=>match o with
  |.nx ρ'=>sW c g n ρ'
  |.ct ρ'=>sW c g n ρ'
  |.bk ρ'=>Y (.nx ρ')
  |.rt d=>Y (.rt d)
  else Y (.nx ρ)
def RK:Nat:=1000000
def Kq(c:aC->Option Bool)(g:aC->Option Out):aC->Option Out:=λa=>sW c g RK a
def HS{j:List Stmt}(T:PassesOwn (model X.prog X.w) X.A X.env X.xe)(U:z6 X c gc)(V:mQ X m O j g):mX X m O (.While c j [] pos) (Kq gc g) :=
 PS.imp (Jl T U V) <| by
  rintro D σ H ⟨Q,o,F,S,e,k⟩;refine{λn p M=>∃f G,dV F G/\jJ m O X.K p f M G/\sW gc g n f=Y o,{RK,Q,F,.refl _,S,e},?_};rintro n p M ⟨f,G,I,i,C⟩;cases n with
  |zero=>cases C
  |succ n=>
   unfold sW at C;obtain⟨b,e2,B⟩:=bind_some C;refine{f,b,i.o.full,e2,λH1 R=>?_};obtain⟨P,s,_,u⟩:=i.o.grow R;cases b with
   |false=>rw[aq aV] at B ⊢;cases B;exact k p H1 P (I.trans s) {u,i.z}
   |true=>
    rw[ai rfl] at B ⊢;obtain⟨J,W,y⟩:=bind_some B;refine{λr L=>∃a N,dV F N/\jJ m O X.K r a L N/\sW gc g n a=Y o,λr L q=>{n,d9 n,q},f,J,P,{u,i.z},W,?_};have h:=I.trans s;cases J with
    |nx a=>exact λl E x t v=>{a,x,h.trans t,v,y}
    |ct a=>exact λl E x t v=>{a,x,h.trans t,v,y}
    |bk a=>cases y;exact λl E x t v=>k l E x (h.trans t) v
    |rt d=>cases y;exact RJ.later h k
def Kr(g:Bool)(K:Fg)(n:Nat)(f:Lp->Option (fZ×fZ)):Sp:=λvs H Q _=>∃c rest h ds d a G B,vs=c::rest/\H=b9 G B/\jv G B/\iZ g K G h c B/\a9 K G ds rest/\ds.length+1=n/\f (h::ds)=Y (d,a) /\
 ∀v b e,dV G b->jv b e->iZ g K b a c e->bC K b d v->Q v (b9 b e)
abbrev Xu(K:W.Frag)(n:Nat)(f:List fZ->Option (fZ×fZ)):Sp:=Kr false K n f
def nV(N:Lr)(g:aC->Option Out):Lp->Option (fZ×fZ):=λds=>(g (gF N ds)).bind λo=>match o with
 |.rt (.tuple [d,a])=>Y (d,a)
 |.nx ρ=>(ρ[0]?).join.map λa=>(.none,a)
 |_=>Z
def qD(f:aC->Od):aC->Option Out:=λρ=>(OO f ρ).bind λd=>(ρ[0]?).join.map λa=>.rt (.tuple [d,a])
def jJ.out{i:V}{K:Fg}{r:fZ}(j:O.Nodup)(m:jJ (.io dp i) O K σ ρ H G)(e:(ρ[0]?).join=Y r):∃c B,dV G c/\H=b9 c B/\jv c B/\iZ dp K c r i B:=by
 obtain⟨u,t,s⟩:=m.z dp i rfl;sleep 1;obtain⟨v,g,h,d,q,w,f,b,l,k,_,_⟩:=m.o.own j u (join_some e);sleep 2;rw[s] at b;rw[t] at q;cases q;have a:(g++(h++d)).Perm (h++(g++d)):=by rw[<-bb,<-bb];exact dW _ bc
 have p:jv G (h++(g++d)):=f.perm a (b.mh.append (l.append k));have n:=p.B9 (l.append k);exact{b9 G (g++d),h,n.same,by rw[w,ik f.nd a,hE],p.B8 b.mh,b.same n.same}
def Ks{g:V}(a:O.Nodup)(h:PD X e f):mX X (.io dp g) O (.Return (Y e) pos) (qD f) :=
 PS.imp (sN h) <| by rintro D σ H ⟨ρ,o,G,c,e,k⟩;obtain⟨d,A,y⟩:=bind_some e;obtain⟨F,w,rfl⟩:=aj.mp y;obtain⟨u,t⟩:=Cd A;refine{ρ,d,c.o.full,u,λv I m i=>?_};obtain⟨J,j,_,b⟩:=c.o.grow m;sleep 1;obtain⟨E,B,l,s,q,n⟩:=jJ.out (σ:=σ) (ρ:=ρ) a {b,c.z} w;sleep 2;obtain⟨x,C,r,p⟩:=k;cases r;rw[s];exact p v E B (j.trans l) q n (i.j0 t)
def Kt:aC->Option Out:=λa=>(a[0]?).join.map λb=>.rt (.tuple [.none,b])
def HU{b:V}(a:O.Nodup):mX X (.io dp b) O (.Return Z pos) Kt :=
 PS.imp N2 <| by rintro D p H ⟨q,o,G,g,e,k⟩;obtain⟨r,l,rfl⟩:=aj.mp e;sleep 1;obtain⟨n,B,c,j,h,d⟩:=jJ.out a g l;sleep 2;obtain⟨x,m,i,f⟩:=k;cases i;rw[j];exact f .lz n B c h d (bC.iU.mpr rfl)
theorem RL{P:Program}{K:Fg}{a:Str}{L:Addr}{N:Lr}{k:Nat} (F:DH K x a st L fd) (S:iT N ps (bD st)) (hn:n=ps.length) (h1:n≠0) (T:(0::O).Nodup) (hO:∀i∈O,n<=i)
  (m:∀(v0:V) (qf:Value) (A:Around) (outer:List Env) (s:Shared) (H:Hp) (E:XK),iq k (A.deeper (envOfC a (bD st) (zB s) L qf)) ->
   mQ (sP xf P w K mg base N a (bD st) L qf A outer s H E).Rp (.io (jI (0::O)) v0) (0::O) (ie st) g):kz P w K mg base xf (k+1) L fd ps (Kr (jI (0::O)) K n (nV N g)):=by
 refine F.ok S (by rintro vs H Q E ⟨v0,rest,c,ds,d,D,G,B,C,_,_,_,i,l,_⟩;rw[C,<-hn,<-l,ax,<-i.length]) ?_;rintro qf A outer s H vs Q E hr ⟨v0,rest,c,ds,d,D,G,B,C,eH,J,ot,i,l,e,k⟩;refine{_,m v0 qf A outer s H E hr,?_};subst C eH;obtain⟨o,C,p⟩:=bind_some e;have f:a9 K (b9 G B) (c::ds) (v0::rest):=a9.cons (ot.IZ J.same λx hx=>gp J.nd x hx) (i.same J.same);have hd:=mv (N:=N) f;have v:(gF N (c::ds))[0]?=Y (Y c):=rfl;have b:∀j∈O,((gF N (c::ds))[j]?).join=Z:=λj X=>by
  have:¬ j<(c::ds).length:=by have:=hO j X;rw[ax];omega
  unfold gF;rw[aP (by simpa using this),bR];split<;>rfl
 have M:∀I:List Nat,(∀j∈I,j∈O)->il (jI (0::O)) K (lS N (v0::rest)) (gF N (c::ds)) G I []:=by
  intro I;induction I with
  |nil=>intro _;rfl
  |cons j I ih=>exact λh=>.inl {b j (h j (by simp)),ih λi hi=>h i (ao _ hi)}
 obtain⟨u0,hu0,aac⟩:=hd.2 0 c v;have r:(lS N (v0::rest))[0]?=Y (Y v0):=rfl;refine{gF N (c::ds),o,G,{{hd.1,{B,rfl,J,.inr {c,v0,B,[],v,r,by simp,ot,M O λ_ h=>h}},λj dj q X=>?_},λdp1 v1 z=>{by simp,by cases z;exact r,by cases z;rfl}},C,?_}
 .
  have W:j≠0:=λz=>X (by rw[z];simp);have hd2:=mv (K:=K) (H:=G) (N:=N) (vs:=v0::rest) (ds:=.none::ds);have hh:a9 K G ds rest:=i;cases j with
  |zero=>exact absurd rfl W
  |succ j=>
   by_cases t:j<ds.length
   .have q':ds[j]?=Y dj:=by
     unfold gF at q;rw[ae,bZ,bt,bf (by simpa using t),aM] at q;cases z:ds[j]? with
     |none=>rw[z] at q;cases q
     |some y=>rw[z] at q;cases q;rfl
    obtain⟨u,a1,a2⟩:=hh.get q';refine{u,?_,a2};have U:j<rest.length:=(aS.mp a1).1;unfold lS;rw[ae,bZ,bt,bf (by simpa using U),aM,a1];rfl
   .unfold gF at q;rw[ae,bZ,bt,aP (by simpa using t),bR] at q;split at q<;>cases q
 .cases o with
  |rt x=>
   split at p
   .rename_i d1 d2 he;cases he;cases p;exact{(d),D,rfl,k}
   .rename_i ρ he;cases he
   .cases p
  |nx ρ'=>obtain⟨d1,e3,e4⟩:=aj.mp p;cases e4;intro σ H' G' sG hs;sleep 1;obtain⟨G2,B2,s2,eH,fm2,R⟩:=jJ.out T hs e3;sleep 2;rw[eH];exact k .lz G2 B2 (sG.trans s2) fm2 R (bC.iU.mpr rfl)
  |bk _=>cases p
  |ct _=>cases p
theorem Ei{P:Program}{K:Fg}{a:Str}{p:Addr}{N:Lr}{k:Nat} (F:DH K x a st p fd) (S:iT N ps (bD st)) (D:n=ps.length) (J:∀i∈O,n<=i)
  (c:∀(qf:Value) (A:Around) (outer:List Env) (s:Shared) (H:Hp) (E:XK),iq k (A.deeper (envOfC a (bD st) (zB s) p qf)) ->
   mQ (sP xf P w K mg base N a (bD st) p qf A outer s H E).Rp .dat O (ie st) g):kz P w K mg base xf (k+1) p fd ps (T9 K n (ij N g)):=by
 refine F.ok S (by rintro vs H Q E ⟨f,d,i,l,_⟩;rw[<-i.length,l,D]) ?_;rintro qf A outer s H vs Q E C ⟨f,d,i,l,e,k⟩;refine{_,c qf A outer s H E C,?_};obtain⟨o,M,r⟩:=bind_some e;have u:=mv (N:=N) i;have b:∀i∈O,((gF N f)[i]?).join=Z:=λj G=>by
  have:¬ j<f.length:=by have:=J j G;omega
  unfold gF;rw[aP (by simpa using this),bR];split<;>rfl
 have t:∀m:List Nat,(∀i∈m,i∈O)->il (jI O) K (lS N vs) (gF N f) H m []:=by
  intro m;induction m with
  |nil=>intro _;rfl
  |cons j m B=>exact λh=>.inl {b j (h j (by simp)),B λi I=>h i (ao _ I)}
 refine{gF N f,o,H,{{u.1,{[],rfl,jv.nil,t O λ_ h=>h},λi d q _=>u.2 i d q},λU v0 z=>nomatch z},M,?_};cases o with
 |rt V=>cases r;exact k
 |nx v=>cases r;exact λT R W y L=>k .lz R (y.trans L.o.sub) (bC.iU.mpr rfl)
 |bk _=>cases r
 |ct _=>cases r
def Z6(K:Fg)(n:Nat)(f:Lp->Od):Sp:=λb H Q _=>∃a d,a9 K H a b/\a.length=n/\f a=Y d/\KO K H d Q
def HW(N:Lr)(g:aC->Option Out):Lp->Od:=λa=>(g (gF N a)).bind λo=>match o with
 |.rt d=>Y d
 |_=>Z
theorem Uq{P:Program}{K:Fg}{a:Str}{p:Addr}{N:Lr}{k:Nat} (F:DH K x a st p fd) (S:iT N ps (bD st)) (B:n=ps.length) (G:∀i∈O,n<=i)
  (c:∀(qf:Value) (A:Around) (outer:List Env) (s:Shared) (H:Hp) (E:XK),iq k (A.deeper (envOfC a (bD st) (zB s) p qf)) ->
   mQ (sP xf P w K mg base N a (bD st) p qf A outer s H E).Rp .own O (ie st) g):kz P w K mg base xf (k+1) p fd ps (Z6 K n (HW N g)):=by
 refine F.ok S (by rintro vs H Q E ⟨f,d,i,l,_⟩;rw[<-i.length,l,B]) ?_;rintro qf A outer s H vs Q E y ⟨f,d,i,l,e,k⟩;refine{_,c qf A outer s H E y,?_};obtain⟨o,I,r⟩:=bind_some e;have u:=mv (N:=N) i;have b:∀i∈O,((gF N f)[i]?).join=Z:=λj C=>by
  have:¬ j<f.length:=by have:=G j C;omega
  unfold gF;rw[aP (by simpa using this),bR];split<;>rfl
 have t:∀m:List Nat,(∀i∈m,i∈O)->il (jI O) K (lS N vs) (gF N f) H m []:=by
  intro m;induction m with
  |nil=>intro _;rfl
  |cons j m v=>exact λh=>.inl {b j (h j (by simp)),v λi D=>h i (ao _ D)}
 refine{gF N f,o,H,{{u.1,{[],rfl,jv.nil,t O λ_ h=>h},λi d q _=>u.2 i d q},λJ v0 z=>nomatch z},I,?_};cases o with
 |rt L=>cases r;exact k
 |nx _=>cases r
 |bk _=>cases r
 |ct _=>cases r
end
structure Ai (P:Program) (w:World) (K:Fg) (mg:Str->Ow) (base:Heap) (x:Str) (k n:Nat) (f:Lp->Od):Prop where
 ex:∃a fd ps,kz P w K mg base xf k a fd ps (Z6 K n f)/\mg x=Y (.ref a)/\W.keepIn K (.ref a)=true/\jK K fd ps []
structure Ej (dp:Bool) (P:Program) (w:World) (K:Fg) (mg:Str->Ow) (base:Heap) (x:Str) (k n:Nat) (f:Lp->Option (fZ×fZ)):Prop where
 ex:∃a fd ps,kz P w K mg base xf k a fd ps (Kr dp K n f)/\mg x=Y (.ref a)/\W.keepIn K (.ref a)=true/\jK K fd ps []
abbrev Ce:=Ej false
structure sX (P:Program) (w:World) (K:Fg) (mg:Str->Ow) (base:Heap) (c:Str) (k n:Nat) (f:Lp->Option (fZ×fZ)):Prop where
 ex:∃C a fd ps,iE K c C/\mg c=Y (.ref C)/\Mk K C a/\kz P w K mg base xf k a fd ps (Xu K n f)/\jK K fd ps []
structure u5 (P:Program) (w:World) (K:Fg) (mg:Str->Ow) (base:Heap) (c m:Str) (k n:Nat) (f:Lp->Od):Prop where
 ex:∃C a fd ps,iE K c C/\HB K C/\HC K C m a/\kz P w K mg base xf k a fd ps (T9 K n f)/\jK K fd ps []
section
variable {a c o:Expr}{rest:List Stmt}{h:aC->Option Out}{ga:aC->Option Bool}{k:Nat}
def KO.kd{K:Fg}{Q:VK}(h:KD K H d Q):KO K H d Q:=λv e f s a b=>h v _ (s.trans a.same) (b.IZ a.same λx c=>gp a.nd x c)
def PF.pd(h:PF X e f):PD X e f:=PE.imp h <| by rintro c H Q ⟨a,d,b,e,k⟩;exact{a,d,b,e,KO.kd k}
def Ku{F:Lp->Od} (N:Ai X.prog X.w X.K X.mg X.base x j n F) (t:iq k X.A) (v:Gl X x) (z:xh X (e::es) ff) (u:zd0 (j<=k)) (h:zd0 (zg x))
  (y:zr0 (zE e es X)) (f:zr0 ((backTo pos (starEach es X.env)).any (·.1)=false)):PF X (.Call (.Name x p) (e::es) [] pos) (jL n F ff):=by
 sleep 1;obtain⟨a,I,G,C,o,q,b⟩:=N.ex;sleep 2;refine PE.imp (zP (C.mono u) t v o q b .nil qA z h y f) ?_;rintro D H Q ⟨l,d,s,e,k⟩;obtain⟨i,B,c⟩:=bind_some e;by_cases g:i.length=n
 .rw[ai g] at c;exact{l,i,s,B,λE J m r=>{i,d,by rw[aK];exact r,g,c,k.later m}}
 .rw[aq g] at c;cases c
def KO.xq{K:Fg}{Q:VK}(k:KO K H (.list ds) Q)(e:a9 K H ds vs):∀p,H p=Z->Q (.ref p) (upd H p (.lst vs)):=λp h=>
 k (.ref p) H [(p,.lst vs)] (.refl H) {by simp,(λx a=>by simp at a;subst a;exact h),.one aY .nil} (iZ.Ug (.inl {_,vs,rfl,rfl,e}))
def qi(f:aC->Od)(l h:FO):aC->Od:=λa=>(f a).bind λx=>(l a).bind λb=>(h a).bind λc=>match x with | .list xs=>Y (.list (mP xs b c))|_=>Z
def Kv{o q:Option Expr}{l h:FO}(A:PD X e f)(z:V3 X o l)(y:V3 X q h):PF X (.Subscript e (.Slice o q Z p2) pos) (qi f l h) :=
 PE.imp (BU FW A z y) <| by
  rintro G H Q ⟨c,d,j,e,k⟩;obtain⟨x,F,E⟩:=bind_some e;obtain⟨a,D,C⟩:=bind_some E;obtain⟨b,B,r⟩:=bind_some C;obtain⟨m,rfl⟩:∃m,x=.list m:=by cases x<;>first|exact{_,rfl}|cases r
  cases r;refine{c,_,j,F,λv K i w=>{c,a,j.same i,D,λJ g=>{c,b,j.same (i.trans g),B,λI n=>?_}}};sleep 1;obtain⟨p,s,rfl,u,t⟩:=bC.fj.mp (w.same (g.trans n));sleep 2;exact{p,s,rfl,u,(k.later (i.trans (g.trans n))).xq (t.cut a b)}
def O0:i6 X (.type "list") (λxs H Q=>∃a c,a9 X.K H a xs/\F5 a=Y c/\KO X.K H c Q):=by
 refine i6.imp z0 ?_;rintro xs H Q ⟨a,c,i,e,k⟩
 match a,e with
 |[.list h],e=>cases e;obtain⟨v,rfl,d⟩:=ir i;sleep 1;obtain⟨p,b,rfl,g,f⟩:=bC.fj.mp d;sleep 2;exact{p,b,rfl,.inl g,k.xq f}
 |[.tuple h],e=>cases e;obtain⟨v,rfl,d⟩:=ir i;sleep 1;obtain⟨p,b,rfl,g,f⟩:=d.hU;sleep 2;exact{p,b,rfl,.inr g,k.xq f}
def pE(c:Str)(n:Nat)(F:Lp->Option (fZ×fZ))(e:aC->Option Lp):aC->Od:=λb=>(e b).bind λa=>if a.length+1=n then (F (.dict [(.none,.str c)]::a)).bind λr=>match r with|(.none,d)=>Y d|_=>Z else Z
def Gg{K:Fg}{c:Str}(t:iE K c C){F:Lp->Option (fZ×fZ)}{Q:VK}{E:XK}(p:a9 K H ds vs)(s:ds.length+1=n)(A:(F (.dict [(.none,.str c)]::ds)).bind (λr=>match r with|(.none,d)=>Y d|_=>Z)=Y d)(k:KO K H d Q):
  ∀x a,H x=Z->H a=Z->a≠x->Xu K n F (.ref x::(vs++[])) (upd (upd H a (.own x)) x (.ins C a [])) (λv H2=>v=.lz/\Q (.ref x) H2) E:=by
 intro x a q g f;obtain⟨r,z,j⟩:=bind_some A;obtain⟨i,h⟩:=r;have w:i=.none/\h=d:=by cases i<;>first|(cases j;exact{(rfl),rfl})|cases j
 obtain⟨rfl,rfl⟩:=w;refine{.ref x,vs++[],.dict [(.none,.str c)],ds,.none,h,H,[(x,.ins C a []),(a,.own x)],rfl,rfl,{?_,λy b=>?_,.ins .nil},.inr {c,C,x,a,[],[],[],rfl,rfl,rfl,t,rfl,rfl},by rw[aK];exact p,s,z,λv B D l u m o=>{bC.iU.mp o,k _ B D l u m}}
 .simp[Ne.symm f]
 .rcases ah.mp b with e|b
  .rw[e];exact q
  .have:y=(a,HO.own x):=by simpa using b
   rw[this];exact g
def O1{c:Str}{F:Lp->Option (fZ×fZ)} (N:sX X.prog X.w X.K X.mg X.base c j n F) (t:iq (k+1) X.A) (v:Gl X c) (y:xh X (e::es) ff) (u:zd0 (j<=k)) (i:zd0 (zg c))
  (x:zr0 (zE e es X)) (g:zr0 ((backTo pos (starEach es X.env)).any (·.1)=false)):PF X (.Call (.Name c p) (e::es) [] pos) (pE c n F ff):=by
 sleep 1;obtain⟨C,a,J,I,z,q,M,D,b⟩:=N.ex;sleep 2;refine PE.imp (Ob M (D.mono u) t v q b .nil qA y i x g) ?_;rintro E H Q ⟨m,d,s,e,k⟩;obtain⟨l,B,f⟩:=bind_some e;by_cases h:l.length+1=n
 .rw[ai h] at f;exact{m,l,s,B,λG L o r=>Gg z r h f (k.later o)}
 .rw[aq h] at f;cases f
def Kw{c:Str}{F:Lp->Option (fZ×fZ)}(N:sX X.prog X.w X.K X.mg X.base c j n F)(l:iq (k+1) X.A)(o:Gl X c)(m:zd0 (j<=k))(h:zd0 (zg c)):PF X (.Call (.Name c p) [] [] pos) (pE c n F gm):=by
 sleep 1;obtain⟨C,a,y,v,q,i,M,s,b⟩:=N.ex;sleep 2;refine PE.imp (Jz M (s.mono m) l o i b .nil qA h) ?_;rintro t H Q ⟨u,d,x,e,k⟩;obtain⟨z,r,f⟩:=bind_some e;cases r;by_cases g:([]:Lp).length+1=n
 .rw[ai g] at f;exact Gg q a9.nil g f k
 .rw[aq g] at f;cases f
def oy(c a:Str)(d:fZ):Bool:=match d with
 |.dict ((.none,.str b)::r)=>decide (b=c)&&(nS a r).isNone
 |_=>false
def nW(c e:Str)(n:Nat)(F:Lp->Od)(f:aC->Od)(g:aC->Option Lp):aC->Od:=λa=>(f a).bind λd=>if oy c e d=true then (g a).bind λb=>if b.length+1=n then F (d::b) else Z else Z
def rF{K:Fg}{c e:Str}(h:oy c e d=true)(i:bC K H d v):∃p C b a,v=.ref p/\iE K c C/\H p=Y (.ins C b a)/\a.lookup e=Z:=by
 unfold oy at h;split at h
 .rename_i m r;simp only[aO,br,Option.isNone_iff_eq_none] at h;obtain⟨rfl,f⟩:=h;sleep 1;obtain⟨p,C,b,a,l,k,j,g⟩:=i.Ke;sleep 2;exact{p,C,b,a,l,k,j,g.none f}
 .cases h
def O2{t c:Str}{F:Lp->Od} (N:u5 X.prog X.w X.K X.mg X.base t c j n F) (J:PD X o f) (I:iq k X.A) (O:xh X (e::es) ff) (M:zd0 (j<=k))
  (l:zr0 (zE e es X)) (m:zr0 ((backTo pos (starEach es X.env)).any (·.1)=false))
  (G:eval (.Call (.Attribute o c apos) (e::es) [] pos) X.env=(do
   let ov <-eval o X.env
   standAt apos.atName
   let (f,first) <-holding [ov] (getMethod ov c pl)
   callWith pos f first (backTo pos (starEach (e::es) X.env)) (backToKw pos (keywordEach [] X.env))):=by rfl):PD X (.Call (.Attribute o c apos) (e::es) [] pos) (nW t c n F f ff):=by
 sleep 1;obtain⟨C,a,fd,ps,P,r,L,Fn,b⟩:=N.ex;sleep 2;refine PE.imp (FP (pl:=pl) J r L (Fn.mono M) I b .nil qA O l m G) ?_;rintro σ H Q ⟨u,d,D,e,k⟩;obtain⟨x,W,h⟩:=bind_some e;by_cases i:oy t c x=true
 .rw[ai i] at h;obtain⟨s,V,g⟩:=bind_some h;by_cases q:s.length+1=n
  .rw[ai q] at g;refine{u,x,D,W,λv H1 z B=>?_};sleep 1;obtain⟨p,C',dx,U,rfl,T,S,R⟩:=rF i B;sleep 2;have:=T.uniq P;subst this;exact{p,dx,U,rfl,S,R,u,s,D.same z,V,λvs H2 y E=>{x::s,d,by rw[aK];exact a9.cons (B.same y) E,by simpa using q,g,k.later (z.trans y)}}
  .rw[aq q] at g;cases g
 .rw[aq i] at h;cases h
def Kx{q c:Str}{F:Lp->Od} (N:u5 X.prog X.w X.K X.mg X.base q c j n F) (B:PD X o f) (z:iq k X.A) (E:zd0 (j<=k))
  (u:eval (.Call (.Attribute o c apos) [] [] pos) X.env=(do
   let ov <-eval o X.env
   standAt apos.atName
   let (f,first) <-holding [ov] (getMethod ov c pl)
   callWith pos f first (backTo pos (starEach [] X.env)) (backToKw pos (keywordEach [] X.env))):=by rfl):PD X (.Call (.Attribute o c apos) [] [] pos) (nW q c n F f gm):=by
 sleep 1;obtain⟨C,a,V,U,G,m,D,S,b⟩:=N.ex;sleep 2;refine PE.imp (BQ (pl:=pl) B m D (S.mono E) z b .nil qA u) ?_;rintro T H Q ⟨s,d,y,e,k⟩;obtain⟨x,P,h⟩:=bind_some e;by_cases i:oy q c x=true
 .rw[ai i] at h;obtain⟨W,O,g⟩:=bind_some h;cases O;by_cases l:([]:Lp).length+1=n
  .rw[ai l] at g;refine{s,x,y,P,λv H1 t r=>?_};sleep 1;obtain⟨p,C',R,M,rfl,L,J,I⟩:=rF i r;sleep 2;have:=L.uniq G;subst this;exact{p,R,M,rfl,J,I,[x],d,a9.cons r a9.nil,by simpa using l,g,k.later t}
  .rw[aq l] at g;cases g
 .rw[aq i] at h;cases h
def PX(X:Cx)(O:List Nat)(e:Expr)(h:aC->Option (fZ×aC)):Prop:=PE X e (λσ H Q=>∃ρ d a G,gQ O X.K σ ρ H G/\h ρ=Y (d,a)/\∀v b c,dV G c->gQ O X.K σ a b c->(∀F,bC X.K F d v)->Q v b)
def vC(O:List Nat)(i n:Nat)(F:Lp->Option (fZ×fZ))(c:aC->Option Lp):aC->Option (fZ×aC):=λa=>(a[i]?).join.bind λd=>(c (iz O a)).bind λb=>if b.length+1=n then (F (d::b)).bind λr=>if my r.1=true then Y (r.1,a.set i (Y r.2)) else Z else Z
def O3(i:Nat) {T:Pos}{F:Lp->Option (fZ×fZ)} (N:Ej dp X.prog X.w X.K X.mg X.base x j n F) (C:O.Nodup) (hr:iq k X.A) (hg:Gl X x) (ha:xh X es ff) (hO:zd0 (i∈O)) (hj:zd0 (j<=k)) (L:zr0 (jI O=dp))
  (hN:zr0 (X.N[i]?=Y y)) (hv:zr 4 (BE X.env.scope y)) (hd:zd0 (zg y)) (P:zd0 ((y==("__classdict__":Str))=false)) (M:zd0 (zg x))
  (he:zr0 (starEach (.Name y T::es) X.env=(false,eval (.Name y T) X.env)::starEach es X.env)) (I:zr0 ((backTo pos (starEach es X.env)).any (·.1)=false)):PX X O (.Call (.Name x p) (.Name y T::es) [] pos) (vC O i n F ff):=by
 sleep 1;obtain⟨a,fd,ps,Fn,mm,kp,b⟩:=N.ex;sleep 2;refine PE.imp (PE.frame (zP (Fn.mono hj) hr hg mm kp b .nil qA (gR (mn hN hv hd P) (PA.frame ha) he) M he I)) ?_;rintro σ H Q ⟨ρ,d,ρ',G,hs,e,k⟩;obtain⟨d0,e1,e2⟩:=bind_some e;obtain⟨V,e3,B⟩:=bind_some e2;by_cases J:V.length+1=n
 .rw[ai J] at B;obtain⟨r,e5,z⟩:=bind_some B;obtain⟨r1,r2⟩:=r;by_cases l:my r1=true
  .rw[ai l] at z;cases z;sleep 1;obtain⟨W,g,q,f,e7,eH,fm,u,E,D,cl,_⟩:=hs.own C hO (join_some e1);sleep 2;rw[L] at u cl;have h:(g++(q++f)).Perm ((g++f)++q):=by
    rw[bb];exact dz _ bc
   have f2:jv G ((g++f)++q):=fm.perm h ((E.append D).append u.mh);have S:=f2.B9 u.mh;refine{b9 G q,g++f,by rw[eH,ik fm.nd h,hE],f2.B8 (E.append D),W,e7,G,q,rfl,S,iz O ρ,V,hs.rest,e3,λvs G1 s1 i1 t=>?_};refine{W,vs++[],d0,V,r1,r2,G1,q,rfl,rfl,t,u.same s1,by rw[aK];exact i1,J,e5,λv m o s2 R s iv fR=>?_};have sG:dV G m:=s1.trans s2;have f3:jv m ((g++f)++o):=R.join fR;have c:((g++f)++o).Perm (g++(o++f)):=by rw[bb];exact dz _ bc
   have f4:jv m (g++(o++f)):=f3.perm c (E.append (s.mh.append D));have U:b9 (b9 m o) (g++f)=b9 m (g++(o++f)):=by rw[<-hE,ik f3.nd c]
   rw[U];exact k v _ m sG (cl m r2 o sG s f4) λF=>iv.j0 l
  .rw[aq l] at z;cases z
 .rw[aq J] at B;cases B
def Ek(h:aC->Option (fZ×aC)):aC->Option Out:=λa=>(h a).map λr=>.nx r.2
def HX{h:aC->Option (fZ×aC)}(g:PX X O e h)(a:zr0 (swapsWith e Z pos.line X.env=pure false)):mX X m O (.Expr e pos) (Ek h) :=
 PS.imp (rf g a) <| by rintro D c H ⟨d,o,G,a,e,k⟩;obtain⟨r,i,rfl⟩:=aj.mp e;exact{d,r.1,r.2,G,a.o,i,λv j l f b _=>k c j l f {b,a.z}}
def Cf(h:aC->Option (fZ×aC)):aC->Option Out:=λρ=>(h ρ).bind λr=>(r.2[0]?).join.map λa=>.rt (.tuple [r.1,a])
def Ky{f:V}{h:aC->Option (fZ×aC)}(a:O.Nodup)(n:PX X O e h):mX X (.io dp f) O (.Return (Y e) pos) (Cf h) :=
 PS.imp (sN n) <| by rintro D σ H ⟨ρ,o,G,c,e,k⟩;obtain⟨r,w,u⟩:=bind_some e;obtain⟨A,t,rfl⟩:=aj.mp u;refine{ρ,r.1,r.2,G,c.o,w,λv C E g b m=>?_};sleep 1;obtain⟨d,B,i,s,p,j⟩:=jJ.out (σ:=σ) (ρ:=r.2) a {b,c.z} t;sleep 2;obtain⟨x,y,q,l⟩:=k;cases q;rw[s];exact l v d B (g.trans i) p j (m d)
def tXT(O:List Nat)(K:Fg)(h:aC->Option (Bool×aC)):TT:=λc H Q=>∃d b a G,gQ O K c d H G/\h d=Y (b,a)/\∀e f,dV G f->gQ O K c a e f->Q b e
def V7(X:Cx)(O:List Nat)(e:Expr)(h:aC->Option (Bool×aC)):Prop:=PT X e (tXT O X.K h)
def Y3(X:Cx)(O:List Nat)(e:Expr)(h:aC->Option (Bool×aC)):Prop:=PW X e (tXT O X.K h)
def hT(h:aC->Option (fZ×aC)):aC->Option (Bool×aC):=λc=>(h c).bind λr=>match r with|(.bool b,a)=>Y (b,a)|_=>Z
def O4{h:aC->Option (fZ×aC)}(p:PX X O e h)(n:zr 2 (∀whole,isTrue e X.env whole=(do let v <-whole;standAt e.pos;holding [v] (truthy v)))):V7 X O e (hT h) :=
 PT.imp (BO p n) <| by
  rintro u H Q ⟨j,b,c,G,o,e,k⟩;obtain⟨r,s,g⟩:=bind_some e;obtain⟨d,a⟩:=r;have q:d=.bool b/\a=c:=by cases d<;>first|(cases g;exact{(rfl),rfl})|cases g
  obtain⟨rfl,rfl⟩:=q;exact{j,_,_,G,o,s,λv i t l f m=>{b,JP (m i) rfl,k i t l f}}
def Ur(h:aC->Option (Bool×aC)):aC->Option (Bool×aC):=λa=>(h a).map λr=>(!r.1,r.2)
def O5{h:aC->Option (Bool×aC)}(j:V7 X O a h):V7 X O (.UnaryOp .Not a pos) (Ur h) :=
 PT.imp (Jh j) <| by rintro p H Q ⟨f,b,d,G,i,e,k⟩;obtain⟨r,m,l⟩:=aj.mp e;cases l;exact{f,r.1,r.2,G,i,m,λn o g c=>k n o g c}
def Y4(g:aC->Option Bool)(h:aC->Option (Bool×aC)):aC->Option (Bool×aC):=λa=>(g a).bind λb=>if b=true then Y (true,a) else h a
def O6{h:aC->Option (Bool×aC)}(b:V7 X O a h):Y3 X O (.BoolOp .Or [a] pos) h:=Jg b
def Us{l:Lx}{h:aC->Option (Bool×aC)}(r:z6 X a ga)(q:Y3 X O (.BoolOp .Or (b::l) pos) h):Y3 X O (.BoolOp .Or (a::b::l) pos) (Y4 ga h) :=
 PW.imp (Ro r q) <| by
  rintro w H Q ⟨i,b,f,G,m,e,k⟩;obtain⟨y,s,d⟩:=bind_some e;refine{i,y,m.full,s,λu p=>?_};obtain⟨n,j,_,c⟩:=m.grow p;cases y with
  |false=>rw[aq aV] at d ⊢;exact{i,b,f,n,c,d,λt v o g=>k t v (j.trans o) g}
  |true=>rw[ai rfl] at d ⊢;cases d;exact k u n j c
def Xv{h:aC->Option (Bool×aC)}(a:Y3 X O e h):V7 X O e h:=a.pt
def O7(c:aC->Option (Bool×aC))(g h:aC->Option Out):aC->Option Out:=λa=>(c a).bind λr=>if r.1=true then g r.2 else h r.2
def O8{l j:List Stmt}{p:aC->Option (Bool×aC)}(t:V7 X O c p)(v:mQ X m O l g)(u:mQ X m O j h):mX X m O (.If c l j pos) (O7 p g h) :=
 PS.imp (Rq t v u) <| by
  rintro D x H ⟨s,o,G,i,e,k⟩;obtain⟨r,w,f⟩:=bind_some e;obtain⟨b,a⟩:=r;refine{s,b,a,G,i.o,w,λy q n d=>?_};cases b with
  |true=>rw[ai rfl] at f ⊢;exact{a,o,q,{d,i.z},f,k.later n}
  |false=>rw[aq aV] at f ⊢;exact{a,o,q,{d,i.z},f,k.later n}
end
end L2
namespace L2
open PySem PySem.Spec PyProof.Rows PySem.Builtin PySem.Builtin.Str
theorem yt:∀(l:List (Str×Tok)),fv ((l.map (·.1)).map V.str) (strValues l)
 |[]=>.nil
 | (x,t)::l=>.cons {(t),rfl} (yt l)
theorem yu:∀{b:Lr}{a:Lw},fv (b.map V.str) a->∃l:List (Str×Tok),a=strValues l/\l.map (·.1)=b
 |[],_,r=>by cases r;exact{[],rfl,rfl}
 |x::b,_,r=>by
  rw[ae] at r;cases r with
  |cons h t=>obtain⟨c,rfl⟩:=h;obtain⟨l,rfl,e⟩:=yu t;exact{(x,c)::l,rfl,by simp[e]}
def nv:Lp->Option Lr
 |[]=>Y []
 |.str x::r=>(nv r).map (x::·)
 |_::_=>Z
theorem uc:∀{b:Lp}{a:Lr},nv b=Y a->b=a.map .str
 |[],_,h=>by cases h;rfl
 |d::r,a,h=>by
  cases d<;>try (simp[nv] at h;done)
  obtain⟨c,e,rfl⟩:=aj.mp (show (nv r).map _=Y a from h);rw[uc e];rfl
theorem oz:∀a:Lr,nv (a.map .str)=Y a
 |[]=>rfl
 |x::a=>by show (nv (a.map .str)).map _=_;rw[oz a];rfl
theorem yv{K:Fg}{H:Hp}:∀{c:Lr}{d:List V},a9 K H (c.map .str) d->d=c.map .str
 |[],_,h=>a9.eL.mp h
 |x::c,_,h=>by sleep 1;obtain⟨v,r,rfl,a,b⟩:=a9.dv.mp h;sleep 2;rw[bC.eW.mp a,yv b];rfl
theorem l8{K:Fg}{H:Hp}:∀(a:Lr),a9 K H (a.map .str) (a.map .str)
 |[]=>a9.nil
 |x::a=>a9.cons (bC.eW.mpr rfl) (l8 a)
section
variable {a c o:Expr}{ga:aC->Option Bool}
def qj(g:fZ->Lp->Od)(f:aC->Od)(a:aC->Option Lp):aC->Od:=λρ=>(f ρ).bind λd=>(a ρ).bind λds=>match d with | .str z=>g (.str z) ds|_=>Z
def Kz{a:Str}{n:String}{g:fZ->Lp->Od} (j:Slot "str" a n) (p:typeOf (.builtin n)=pure (.type "method_descriptor")) (A:Rz X n (λx vs H Q=>∃d ds c,bC X.K H d x/\a9 X.K H ds vs/\g d ds=Y c/\KD X.K H c Q)) (y:PD X o f) (B:xh X (e::es) ff)
  (i:zr0 (attributeBase o a X.env (eval o X.env)=eval o X.env))
  (l:((backTo gv (starEach (e::es) X.env)).all (λx=>!x.1)&&(backToKw gv (keywordEach [] X.env)).all (λx=>x.1.isSome)
  &&decide ((e::es).length+([]:List Keyword).length+(if ([]:List Keyword).isEmpty then 0 else 1)<30))=true:=by rfl)
  (h:zr0 ((apos.endLine==gv.line)=true)) (m:zr0 (zE e es X)) (b:zr0 ((backTo gv (starEach es X.env)).any (·.1)=false)):
  PD X (.Call (.Attribute o a apos) (e::es) [] gv) (qj g f ff) :=
 PE.imp (yg PySem.F.plainAttrs_str j p A y B i l h m b) <| by
  rintro G H Q ⟨q,d,m,e,k⟩;obtain⟨x,E,D⟩:=bind_some e;obtain⟨ds,C,u⟩:=bind_some D;obtain⟨z,rfl⟩:∃z,x=.str z:=by cases x<;>first|exact{_,rfl}|cases u
  refine{q,_,m,E,λv J s t=>{?_,q,ds,m.same s,C,λvs I r w=>{_,ds,d,t.same r,w,u,k.later (s.trans r)}}};rw[bC.eW.mp t];rfl
def hV(d:fZ)(a:Lp):Od:=match d,a with
 |.str x,[.str y]=>if (y.length==0)=false/\x.length<=sizeLine/\(partsBetween x (occurrences x y 0 x.length (x.length+1)) y.length).length<=sizeLine then Y (.list ((Txt.split x y).map .str)) else Z
 |_,_=>Z
def HY:Rz X "str.split" (λx vs H Q=>∃d n,∃l:Lr,bC X.K H d x/\a9 X.K H n vs/\hV d n=Y (.list (l.map .str))/\∀p,H p=Z->Q (.ref p) (upd H p (.lst (l.map V.str)))):=by
 intro c s o H v vs u G Q I q r h;sleep 1;obtain⟨d,n,E,C,B,e,k⟩:=h;sleep 2;unfold hV at e;split at e
 .rename_i x y;by_cases j:(y.length==0)=false/\x.length<=sizeLine/\(partsBetween x (occurrences x y 0 x.length (x.length+1)) y.length).length<=sizeLine
  .rw[ai j] at e;obtain rfl:Txt.split x y=E:=by
    injection e with e;injection e with e;exact List.map_inj_right (λa b h=>fZ.str.inj h) |>.mp e
   obtain⟨w,m,f⟩:=j;rw[bC.eW.mp C] at q;obtain⟨t,rfl⟩:=q;obtain⟨F,rfl,A⟩:=ir B;rw[bC.eW.mp A] at r;obtain⟨J,rfl,t',rfl⟩:=r.one;have g:∀(l:List (Str×Tok)) (tk:Nat),l.map (·.1)=Txt.split x y->l.length<=sizeLine->EP X c o Q (.ref (zB s)) { s with heap:=s.heap.push { cls:=.type "list",data:=.seq (strValues l).toArray },toks:=tk }:=λl tk D i=>by have z:=I.TF (t':=tk) (ys:=(l.map (·.1)).map V.str) (yt l) (by simpa using i);rw[D] at z;exact{.ref (zB s),_,z,rfl,k _ I.fresh}
   cases h1:(decide (x.length<y.length)||decide (strKind x<strKind y))
   .cases hf:(occurrences x y 0 x.length (x.length+1)).isEmpty
    .refine cW eE (eC _ _ _) fw (fh _ _) (meets_str_split_sep x y t t' h1 w hf m f) ?_;show EP X c o Q _ { s with toks:=_,heap:=s.heap.push { cls:=.type "list",data:=.seq (strsFrom s.toks (partsBetween x (occurrences x y 0 x.length (x.length+1)) y.length)).toArray } };rw[strsFrom_eq];refine g _ _ ((numbered_texts _ _).trans ((aq (eU h1)).trans (aq (eU hf))).symm) ?_;have:=bG List.length (numbered_texts s.toks (partsBetween x (occurrences x y 0 x.length (x.length+1)) y.length));rw[ag] at this;rw[this];exact f
    .exact cW eE (eC _ _ _) fw (fh _ _) (meets_str_split_not_found x y t t' h1 w hf)
      (g [(x,t)] s.toks ((aq (eU h1)).trans (ai hf)).symm (by show 1<=sizeLine;decide))
   .exact cW eE (eC _ _ _) fw (fh _ _) (meets_str_split_cannot_occur x y t t' h1)
     (g [(x,t)] s.toks (ai h1).symm (by show 1<=sizeLine;decide))
  .rw[aq j] at e;cases e
 .cases e
def Cg{c:fZ}(e:hV d ds=Y c):∃l:Lr,c=.list (l.map .str):=by
 unfold hV at e;split at e
 .split at e
  .cases e;exact{_,rfl}
  .cases e
 .cases e
def KA(w:PD X o f) (y:xh X (e::es) ff) (c:zr0 (attributeBase o "split" X.env (eval o X.env)=eval o X.env))
  (g:((backTo gv (starEach (e::es) X.env)).all (λx=>!x.1)&&(backToKw gv (keywordEach [] X.env)).all (λx=>x.1.isSome)
  &&decide ((e::es).length+([]:List Keyword).length+(if ([]:List Keyword).isEmpty then 0 else 1)<30))=true:=by rfl)
  (b:zr0 ((apos.endLine==gv.line)=true)) (h:zr0 (zE e es X)) (a:zr0 ((backTo gv (starEach es X.env)).any (·.1)=false)):
  PF X (.Call (.Attribute o "split" apos) (e::es) [] gv) (qj hV f ff) :=
 PE.imp (yg PySem.F.plainAttrs_str eE (by rfl) HY w y c g b h a) <| by
  rintro E H Q ⟨j,d,h,e,k⟩;obtain⟨x,C,B⟩:=bind_some e;obtain⟨s,A,i⟩:=bind_some B;obtain⟨z,rfl⟩:∃z,x=.str z:=by cases x<;>first|exact{_,rfl}|cases i
  obtain⟨l,rfl⟩:=Cg i;refine{j,_,h,C,λv I n q=>{?_,j,s,h.same n,A,λG D m t=>{_,s,l,q.same m,t,i,λp u=>?_}}}
  .rw[bC.eW.mp q];rfl
  .exact k (.ref p) D [(p,.lst (l.map V.str))] (n.trans m) {by simp,(λx r=>by simp at r;subst r;exact u),.one aY .nil} (iZ.Ug (.inl {_,_,rfl,rfl,l8 l}))
def j8(d:fZ)(ds:Lp):Od:=match d,ds with
 |.str x,[.list ts]=>(nv ts).bind λa=>if JoinOk x a=true then Y (.str (Txt.join x a)) else Z
 |_,_=>Z
def O9:Rz X "str.join" (λx vs H Q=>∃d g c,bC X.K H d x/\a9 X.K H g vs/\j8 d g=Y c/\KD X.K H c Q):=by
 intro m s G H v vs u M Q I j q h;sleep 1;obtain⟨d,g,P,D,C,e,k⟩:=h;sleep 2;unfold j8 at e;split at e
 .rename_i x O;obtain⟨a,F,b⟩:=bind_some e;by_cases f:JoinOk x a=true
  .rw[ai f] at b;cases b;have:=uc F;subst this;rw[bC.eW.mp D] at j;obtain⟨t,rfl⟩:=j;obtain⟨L,rfl,B⟩:=ir C;sleep 1;obtain⟨p,J,rfl,i,z⟩:=bC.fj.mp B;sleep 2;obtain⟨N,rfl,w⟩:=q.one;cases w;rw[yv z] at i;obtain⟨A,r,y,_⟩:=I.list i;obtain⟨l,rfl,E⟩:=yu r;exact SC.join y.isList E f λo n=>{.str _,H,I.tok n,{(o),rfl},k.here (bC.eW.mpr rfl)}
  .rw[aq f] at b;cases b
 .cases e
def lE(d:fZ)(a:Lp):Od:=match d,a with
 |.str x,[.str y]=>if (y.length==0)=false/\x.length<=sizeLine then Y (match occurrences x y 0 x.length 1 with
  |i::_=>.tuple [.str (strSub x 0 i),.str y,.str (strSub x (i+y.length) x.length)]
  |[]=>.tuple [.str x,.str Str.empty,.str Str.empty]) else Z
 |_,_=>Z
theorem Aj:Rz X "str.partition" (λx vs H Q=>∃d l c,bC X.K H d x/\a9 X.K H l vs/\lE d l=Y c/\KD X.K H c Q):=by
 intro f s p H v vs u J Q I m n h;sleep 1;obtain⟨d,l,M,B,A,e,k⟩:=h;sleep 2;unfold lE at e;split at e
 .rename_i x y;by_cases j:(y.length==0)=false/\x.length<=sizeLine
  .rw[ai j] at e;cases e;rw[bC.eW.mp B] at m;obtain⟨t,rfl⟩:=m;obtain⟨G,rfl,z⟩:=ir A;rw[bC.eW.mp z] at n;obtain⟨L,rfl,t',rfl⟩:=n.one;refine cW F.slot_str_partition (eC _ _ _) F.entry_str_partition (F.args_str_partition_2 _ _) (meets_str_partition x y t t' j.1 j.2) ?_;have g:∀(b:Lw) (xs:Lr) (tk:Nat),fv (xs.map V.str) b->xs.length=3->KD X.K H (.tuple (xs.map .str)) Q->EP X f p Q (.ref (zB s)) { s with heap:=s.heap.push { cls:=.type "tuple",data:=.seq b.toArray },toks:=tk }:=λb xs tk C D w=>by
    have E:=I.laid (a:=(zB s)) (o:=.tup (xs.map V.str)) (t':=tk) (h':=s.heap.push { cls:=.type "tuple",data:=.seq b.toArray }) (λ_ _ q=>af _ q) (aH _) {by rw[ag,D];decide,b,C,_,aG _ rfl,rfl,0,rfl};exact{.ref (zB s),_,E,rfl,w.Ou (l8 _) _ I.fresh}
   revert k
   cases occurrences x y 0 x.length 1 with
   |nil=>exact λk=>g _ [x,Str.empty,Str.empty] _ (.cons {_,rfl} (.cons {_,rfl} (.cons {_,rfl} .nil))) rfl k
   |cons i r=>exact λk=>g _ [strSub x 0 i,y,strSub x (i+y.length) x.length] _ (.cons {_,rfl} (.cons {_,rfl} (.cons {_,rfl} .nil))) rfl k
  .rw[aq j] at e;cases e
 .cases e
def ud(x y:fZ):Od:=match x,y with
 |.str z,.int n=>if 0<=n/\n<=64/\z.length<=64 then Y (.str (Txt.mul z n)) else Z
 |x,y=>TU x y
def Ci{z:Str}{n:Int}(h:0<=n/\n<=64/\z.length<=64):MulOk z n:=mulOk_of 64 64 (by omega) (by omega) (by omega) (by decide) (by decide)
def Pa:lu X (binaryOp .Mult) (λx y H Q=>∃z n,x=.str z/\y=.int n/\(0<=n/\n<=64/\z.length<=64)/\Q (.str (Txt.mul z n)) H):=by intro a s f H x y v u Q I d c h;sleep 1;obtain⟨z,n,rfl,rfl,e,q⟩:=h;sleep 2;obtain⟨t,rfl⟩:=d;obtain⟨g,rfl⟩:=c;exact SB.mul (Ci e) λb k=>{.str _,H,I.tok _,{(b),rfl},q}
def Pb:ro X (binaryOp .Mult) ud:=by
 refine lu.imp (lu.or TX Pa) ?_;rintro x y H Q ⟨a,b,d,g,f,e,k⟩;unfold ud at e;split at e
 .rename_i z n;by_cases c:0<=n/\n<=64/\z.length<=64
  .rw[ai c] at e;cases e;exact .inr {z,n,bC.eW.mp g,bC.d5.mp f,c,k.here (bC.eW.mpr rfl)}
  .rw[aq c] at e;cases e
 .exact .inl {(a),b,d,g,f,e,k}
def qy(x y:fZ):Od:=match x,y with
 |.str a,.str b=>Y (.bool (!decide (b.cps.toList<a.cps.toList)))
 |x,y=>WV x y
def HZ:lu X (compareOp .LtE) (λx y H Q=>∃i j,x=.str i/\y=.str j/\Q (.bl (!decide (j.cps.toList<i.cps.toList))) H):=by intro a s d H x y v u Q I c b h;sleep 1;obtain⟨i,j,rfl,rfl,q⟩:=h;sleep 2;obtain⟨t,rfl⟩:=c;obtain⟨e,rfl⟩:=b;exact PySem.P.le_str (vi I q rfl)
def El:ro X (compareOp .LtE) qy:=by
 refine lu.imp (lu.or WX HZ) ?_;rintro x y H Q ⟨a,b,d,f,c,e,k⟩;unfold qy at e;split at e
 .rename_i z n;cases e;exact .inr {z,n,bC.eW.mp f,bC.eW.mp c,k.here (bC.d6.mpr rfl)}
 .exact .inl {(a),b,d,f,c,e,k}
def vD(g c:fZ->fZ->Od)(f e d:aC->Od):aC->Option Bool:=λa=>(f a).bind λx=>(e a).bind λy=>(g x y).bind λr=>(Ut r).bind λk=>if k=true then (d a).bind λz=>(c y z).bind Ut else Y false
where Ut:fZ->Option Bool | .bool b=>Y b|_=>Z
def yw{b:Bool}(h:vD.Ut d=Y b):d=.bool b:=by cases d<;>first|(cases h;rfl)|cases h
def H0{m d:CmpOp}{g C:fZ->fZ->Od} (K:ro X (compareOp m) g) (p:ro X (compareOp d) C) (O:PD X a fa) (N:PD X b fb) (M:PD X c fc)
  (L:zr 10 (lastMarks [m,d] [b,c]=false)):z6 X (.Compare a [m,d] [b,c] pos) (vD g C fa fb fc) :=
 PT.imp (Jp K p O N M L) <| by
  rintro σ H Q ⟨l,b,o,e,k⟩;obtain⟨x,W,A⟩:=bind_some e;obtain⟨y,V,t⟩:=bind_some A;obtain⟨r,U,s⟩:=bind_some t;obtain⟨n,T,j⟩:=bind_some s;have:=yw T;subst this;clear e A t s;refine{l,x,o,W,λv H1 i J=>{l,y,o.same i,V,λu H2 h B=>{x,y,.bool n,J.same h,B,U,λw H3 f I=>{n,bC.d6.mp I,?_}}}};cases n with
  |false=>rw[aq aV] at j ⊢;cases j;exact{false,rfl,k H3 (i.trans (h.trans f))}
  |true=>rw[ai rfl] at j ⊢;obtain⟨z,S,E⟩:=bind_some j;obtain⟨r2,R,P⟩:=bind_some E;have:=yw P;subst this;exact{l,z,o.same (i.trans (h.trans f)),S,λw2 H4 q G=>{y,z,.bool b,B.same (f.trans q),G,R,λw3 H5 D F=>{b,bC.d6.mp F,k H5 (i.trans (h.trans (f.trans (q.trans D))))}}}
def Xw(f:aC->Od):aC->Od:=λa=>(f a).bind λd=>match d with | .str x=>if x.length<=sizeLine then Y (.str x) else Z|_=>Z
def KC(h:Xw f ρ=Y d):∃x,f ρ=Y (.str x)/\d=.str x/\x.length<=sizeLine:=by
 obtain⟨x,c,a⟩:=bind_some h;obtain⟨y,rfl⟩:∃y,x=.str y:=by cases x<;>first|exact{_,rfl}|cases a
 dsimp only at a;by_cases b:y.length<=sizeLine
 .rw[ai b] at a;cases a;exact{(y),c,rfl,b}
 .rw[aq b] at a;cases a
def RM(u:PD X e f):PD X (.FormattedValue e (-1) Z pos) (Xw f):=by
 intro a s h H Q I ⟨l,d,r,z,k⟩;obtain⟨x,w,rfl,q⟩:=KC z;refine wpAny_FormattedValue_plain (iu (@u a s h H (λv H'=>v=.str x/\dV H H') I {l,_,r,w,λv H' m i=>{bC.eW.mp i,m}}) ?_);rintro v j ⟨y,B,A,n,p,o⟩;subst p;obtain⟨t,rfl⟩:=n;have b:∀g c,EP X a h Q (.str x g) { j with toks:=c }:=λg c=>{.str x,B,A.tok c,{(g),rfl},(k.later o).here (bC.eW.mpr rfl)}
 exact wpAny_formatField_str (b t j.toks) (b _ _) q
def PJ(X:Cx)(f:Lx)(e:aC->Option Str):Prop :=
 ∀(a:Str) (pins:Ax) (s:Shared) (σ:St) (H:Hp) (Q:Str->Shared->Prop),c7 X pins σ H s->(∃b z,ju X.K H σ b/\e b=Y z/\(a++z).length<=sizeLine/\∀d c,dV H d->c7 X pins σ d c->Q (a++z) c) ->
  Joins (model X.prog X.w) X.A X.xe (evalEach f X.env) a Q s
def vE(a:Str):a++Str.empty=a:=by cases a with|mk c=>show Str.mk (c++#[])=Str.mk c;rw[Array.append_empty]
def nX(a b c:Str):a++b++c=a++(b++c):=by cases a with|mk x=>cases b with|mk y=>cases c with|mk z=>show Str.mk (x++y++z)=Str.mk (x++(y++z));rw[Array.append_assoc]
def jN(a b:Str):(a++b).length=a.length+b.length:=strLen_append ..
def Uu:PJ X [] (λ_=>Y Str.empty):=by intro b a s c H Q I ⟨d,z,g,e,f,k⟩;cases e;have:=k H s (.refl H) I;rw[vE] at this;exact this
def Cj(f:aC->Od)(g:aC->Option Str):aC->Option Str:=λa=>(f a).bind λd=>(g a).bind λz=>match d with | .str y=>Y (y++z)|_=>Z
def Ak(D:PD X e f){o:aC->Option Str}(B:PJ X es o)(h:zr0 (evalEach (e::es) X.env=eval e X.env::evalEach es X.env)):PJ X (e::es) (Cj f o):=by
 intro b a s j H Q I ⟨l,z,n,J,g,k⟩;obtain⟨d,G,F⟩:=bind_some J;obtain⟨q,E,p⟩:=bind_some F;obtain⟨y,rfl⟩:∃y,d=.str y:=by cases d<;>first|exact{_,rfl}|cases p
 cases p;rw[h];refine iu (@D a s j H (λv H'=>v=.str y/\dV H H') I {l,_,n,G,λv H' c i=>{bC.eW.mp i,c}}) ?_;rintro v u ⟨x,M,K,w,A,m⟩;subst A;obtain⟨t,rfl⟩:=w;have C:(b++y).length<=sizeLine:=by rw[jN] at g ⊢;rw[jN] at g;omega
 refine{y,t,rfl,C,B (b++y) a u j M Q K {l,q,n.same m,E,by rw[nX];exact g,λH' c r L=>?_}};rw[nX];exact k H' c (m.trans r) L
def Z7(b:aC->Option Str):aC->Od:=λa=>(b a).bind λz=>if z.length<=sizeLine then Y (.str z) else Z
def Pc{h g:Expr}{a:Lx}{i:aC->Option Str}(p:PJ X (h::g::a) i):PD X (.JoinedStr (h::g::a) pos) (Z7 i):=by
 intro b s l H Q I ⟨m,d,o,r,k⟩;obtain⟨z,q,f⟩:=bind_some r;by_cases e:z.length<=sizeLine
 .rw[ai e] at f;cases f;have j:Str.empty++z=z:=by cases z with|mk c=>show Str.mk (#[]++c)=Str.mk c;rw[Array.empty_append]
  refine wpAny_JoinedStr (p Str.empty b s l H _ I {m,z,o,q,by rw[j];exact e,λu v n t=>?_});rw[j];exact{e,.str z,u,t.tok _,{_,rfl},(k.later n).here (bC.eW.mpr rfl)}
 .rw[aq e] at f;cases f
def oA(p:fZ->Bool):Lp->Nat->Option Nat
 |[],_=>Z
 |d::ds,k=>if p d=true then Y k else oA p ds (k+1)
def vF(l:fZ)(a:Lp):Od:=match l,a with
 |.list xs,[x]=>if SeqAt.shaped x=true/\xs.all SeqAt.shaped=true/\x.depth<=60/\xs.length<=sizeLine then (oA (λy=>fZ.eqv y x) xs 0).map λ(j:Nat)=>fZ.int (j:Int) else Z
 |_,_=>Z
theorem rG{p:fZ->Bool}:∀{a:Lp}{k j:Nat},oA p a k=Y j->k<=j/\j - k<a.length/\(∃d,a[j - k]?=Y d/\p d=true)/\∀i d,i<j - k->a[i]?=Y d->p d=false
 |[],_,_,h=>by cases h
 |x::a,k,j,h=>by
  unfold oA at h;by_cases b:p x=true
  .rw[ai b] at h;cases h;refine{aH _,by simp,{x,by simp,b},λi d f=>by omega}
  .rw[aq b] at h;sleep 1;obtain⟨o,n,⟨d,m,l⟩,g⟩:=rG h;sleep 2;have e:j - k=(j - (k+1))+1:=by omega
   refine{by omega,by rw[e];simpa using n,{d,by rw[e];simpa using m,l},λi y f c=>?_};cases i with
   |zero=>simp at c;subst c;simpa using b
   |succ i=>exact g i y (by omega) (by simpa using c)
end
end L2
namespace PySem
open Builtin
def sY:typeLookup (.type "list") "keys"=pure Z:=by rw[fL,d8];kernel_rfl
theorem Al{e:Program}{j:Heap}{o:Array GenState}{p:Drawn}{u:Nat}{m:OsState}{r:Array Ow}{h:Array Value}{f:Str}{Q:Ow->Shared->Prop}
    (s:j.get? a=Y { cls:=.type "list",dict:=Z,data:=.seq h n,slots:=r }) (d:typeLookup (.type "list") f=pure Z) (c:(["__module__","__name__","__qualname__","__doc__","__annotations__"]:Lr).contains f=false) (i:A.handled=Z) (b:f.length+100<=sizeLine)
    (k:∀Xg NP x,Heap.NewExcOf j Xg x "AttributeError"->Q Z {(Xg),o,p,NP,m}):wpAny (model e w) A (getAttr? (.ref a) f) Q E {(j),o,p,u,m}:=by
  have q:∀t,Shared.TypeIs {(j),o,p,t,m} (.ref a) "list":=λt=>{_,s,rfl}
  have B:=sub_AttributeError;have z:=F.slot_list_getattribute.lookup;have y:=F.slot_list_getattribute.bind (.ref a);have v:=am_list_getattr_none;unfold getAttr? getAttrBy? getAttrBy
  repeat (any_goals (first
    |assumption
    |exact q _
    | ((with_reducible show wpAny _ _ (call (Value.builtin "list.__getattribute__") _ _) _ _ _)
       refine cW F.slot_list_getattribute (q _) am_entry_list_getattribute (F.args_list_getattribute_2 _ _) (meets_getattribute_miss_list a h n r f _ d c b) {s,i,λXg NP x g=>?_})
    |wp_step))
  obtain⟨_,_,l⟩:=g.there;show wpAny _ _ (getattributeRaised _ _ _ _ _ _ _) _ _ _;unfold getattributeRaised
  repeat (any_goals (first|assumption|wp_step))
  exact k _ _ _ g.of
namespace F
def kf:entryFor table "dict.update.loop"=Y Builtin.«dict.update.loop»:=entryFor_of_tree (zK 0)
def hI:plainId "dict.update.loop"=true:=by decide +kernel
end F
section
variable {prog:Program}{K:Type} [DecidableEq K] {knd:KeyKind prog w K}
inductive lL (knd:KeyKind prog w K) (h:Heap):Lw->List (K×Value)->Prop
 |nil:lL knd h [] []
 |cons {T:Addr}{key v:Value}{k:K}{vs:Lw}{ps:List (K×Value)}:h.IsTuple T #[key,v]->knd.is k key=true->lL knd h vs ps->lL knd h (.ref T::vs) ((k,v)::ps)
def lL.keep{h':Heap}{d:Lw}{e:List (K×Value)}(x:lL knd h d e)(k:∀b o xs n,h.get? b=Y o->o.data=.seq xs n->h'.get? b=Y o):lL knd h' d e:=by
 induction x with
 |nil=>exact .nil
 |cons a b c g=>sleep 1;obtain⟨o,j,i,n,f⟩:=a;sleep 2;exact .cons {o,k _ _ _ _ j f,i,n,f} b g
def Cm(b c:List (K×Value)):List (K×Value):=c.foldl (λa p=>stored a p.1 p.2) b
def Em(a:List (K×Value))(k:K)(v:Value):(stored a k v).length<=a.length+1:=by unfold stored;split<;>simp
theorem KG{D I l:Addr}{a:Array Value}{R:Result->Shared->Prop}(hh:A.in1.handled=Z)(j:D≠I)(c:Heap)(H:c.get? D=Z)(t:c.get? I=Z):
  ∀(B:Lw) (ps:List (K×Value)) (i:Nat) (s:Shared) (acc:List (K×Value)),a.toList.drop i=B->lL knd s.heap B ps->(∀b o,c.get? b=Y o->s.heap.get? b=Y o)->s.heap.IsListIter I l i->s.heap.IsList l a->s.heap.DictOf knd D acc->acc.length+ps.length<=sizeLine ->
  (∀p P,p.DictOf knd D (Cm acc ps)->(∀b o,c.get? b=Y o->p.get? b=Y o)->R (.ok (.ret .none)) { s with heap:=p,toks:=P }) ->
  codeAny (model prog w) A (.builtin "dict.update.loop" {[.ref D,.ref I,rawInt i,.none],[]}) R s
 |[],_,i,s,acc,hv,C,h0,G,M,hd,Q,hR=>by
  cases C;refine cL F.kf ?_;rw[cw F.hI _];show wpAny _ A.in1 (pyNext (.ref I)>>=_) _ _ s;have hn:a[i]?=Z:=by have:=List.drop_eq_nil_iff.mp hv;simp at this ⊢;omega
  refine aa (dZ hh G M hn λp eb=>?_);show wpAny _ A.in1 (Builtin.Dict.addKeywords D []>>=_) _ _ _;refine aa (ak (ak ?_));sleep 1;obtain⟨o,N,O,x,r⟩:=hd;sleep 2;exact hR p s.toks {o,N,O,eb _ _ j x,r} λb o e=>eb b o (λz=>by rw[z,t] at e;cases e) (h0 b o e)
 |v::B,_,i,s,acc,hv,C,h0,G,M,hd,Q,hR=>by
  cases C with
  |@cons T q g k _ ps ht hk C=>
   refine cL F.kf ?_;rw[cw F.hI _];show wpAny _ A.in1 (pyNext (.ref I)>>=_) _ _ s;have U:i<a.size:=by have:=bG List.length hv;simp at this;omega
   have hx:a[i]?=Y (.ref T):=by have:=bG (·[0]?) hv;simpa using this
   have S:a.toList.drop (i+1)=B:=by
    have e:=cI (l:=a.toList) (i:=i) (by simpa using U);rw[hv] at e;injection e with _ f
    exact f.symm
   refine aa (dP G M hx λp hI' sb=>?_);have Z8:p.IsTuple T #[q,g]:=by sleep 1;obtain⟨o,d,f,n,y⟩:=ht;sleep 2;refine{o,(sb.2 _ λz=>?_).trans d,f,n,y};subst z;obtain⟨oi,u,ci,L⟩:=G;rw[d] at u;cases u;rw[y] at L;cases L
   sleep 1;obtain⟨ot,J,et2,nt,et3⟩:=id Z8;sleep 2;show wpAny _ A.in1 (holding [.ref T] _>>=_) _ _ _;refine aa (bp ?_);refine aa (wpAny_tryCatch ?_);unfold Builtin.Dict.pairItems;refine aa (cQ (T:="tuple") {(ot),J,et2} ?_);have hc1:((Value.type "tuple"==Value.type "list")||(Value.type "tuple"==Value.type "tuple"))=true:=by decide
   simp only[hc1,cY];refine aa ?_;unfold seqItems?;refine aa (wpAny_load J ?_);rw[et3];refine ak (ak ?_);show wpAny _ _ (holding [q,g] (dictSet D q g)) _ _ _;have X:p.DictOf knd D acc:=by sleep 1;obtain⟨o,N,O,x,r⟩:=id hd;sleep 2;exact{o,N,O,(sb.2 _ j).trans x,r}
   have nI:∀b o m n,s.heap.get? b=Y o->o.data=.seq m n->b≠I:=λb o m n d f z=>by subst z;obtain⟨oi,u,ci,L⟩:=G;rw[d] at u;cases u;rw[f] at L;cases L
   have nD:∀b o m n,s.heap.get? b=Y o->o.data=.seq m n->b≠D:=λb o m n d f z=>by subst z;sleep 1;obtain⟨o',N,O,x,hx2,E,_⟩:=hd;sleep 2;rw[d] at x;cases x;rw[f] at E;cases E
   refine bp (wpAny_dictSet_pairs hk X (λh2 hd2 h=>?_) (hsz:=by simp at Q;omega));refine ak {dw F.hI _,?_};have u:((i:Int)+1)=((i+1:Nat):Int):=by omega
   rw[u];have V:h2.IsList l a:=by sleep 1;obtain⟨o,d,f,n,y⟩:=M;sleep 2;exact{o,(h.2 _ (nD _ _ _ _ d y)).trans ((sb.2 _ (nI _ _ _ _ d y)).trans d),f,n,y}
   have hI2:h2.IsListIter I l (i+1):=hI'.at λo e=>(h.2 _ (Ne.symm j)).trans e;refine KG hh j c H t B ps (i+1) { s with heap:=h2,toks:=s.toks+1 } (stored acc k g) S (C.keep λb o m n d f=>(h.2 _ (nD b o m n d f)).trans ((sb.2 _ (nI b o m n d f)).trans d)) (λb o e=>?_) hI2 V hd2 ?_ λh3 P W k3=>hR h3 P W k3
   .have b1:b≠I:=λz=>by rw[z,t] at e;cases e
    have b2:b≠D:=λz=>by rw[z,H] at e;cases e
    exact(h.2 b b2).trans ((sb.2 b b1).trans (h0 b o e))
   .have:=Em acc k g;simp at Q ⊢;omega
theorem uM{l:Addr}{o:Obj}{u:List (K×Value)}{Q:Px} (I:A.handled=Z) (P:s.heap.get? l=Y o) (J:o.cls=.type "list") (g:o.data=.seq items n) (t:o.dict=Z)
  (R:lL knd s.heap items.toList u) (y:u.length<=sizeLine)
  (h:∀h' tk,h'.DictOf knd (zB s) (Cm [] u)->(∀b o,s.heap.get? b=Y o->h'.get? b=Y o)->Q (.ref (zB s)) { s with heap:=h',toks:=tk }):
  wpAny (model prog w) A (call (.type "dict") [.ref l]) Q E s:=by
 refine callType_codes (Q₁:=λj d=>j=.ref (zB s)/\d={ s with heap:=s.heap.push { cls:=.type "dict",data:=.dict #[] } }) F.kt_called_dict (F.kt_typeCall_dict_1 _) F.entry_dict_init (kt_code_dict_new _ {(rfl),rfl}) ?_;rintro j d ⟨rfl,rfl⟩;have a:(s.heap.push { cls:=.type "dict",data:=.dict #[] }).DictOf knd (zB s) []:=Heap.DictOf.new s.heap;obtain⟨oc,od,M,L⟩:=o;simp only at J g t;subst J g t;have c:=af { cls:=.type "dict",data:=.dict #[] } P;refine{a.typeIs,F.args_dict_init_2 _ _,?_};unfold Builtin.«dict.__init__»;refine aa ?_;unfold Builtin.Dict.selfAndRest;refine aa (wpAny_notOrdered_dict a.typeIs ?_);show wpAny _ _ (pure ((zB s),[Value.ref l])) _ _ _;refine ak ?_;show wpAny _ _ (Builtin.Dict.updateFrom "dict.__init__" (zB s) (.ref l) [] .none) _ _ _;unfold Builtin.Dict.updateFrom;refine aa (cQ (T:="list") {_,c,rfl} ?_);rw[ai (by decide)];refine aa (Al c sY (by decide +kernel) (show A.in1.in1.handled=Z from I) (by decide) λi x e1 p=>?_);rw[ai (show (Z:Ow).isNone=true from rfl)];refine aa (fH ?_);have C:i.IsList l items:={_,p.keeps _ _ c,rfl,n,rfl}
 refine aa (dQ C ?_);refine ak {dw F.hI _,?_};have f:(zB s)<i.objs.size:=au (p.keeps _ _ (aG s.heap (o:={ cls:=.type "dict",data:=.dict #[] }) rfl));have H:∀b k,s.heap.get? b=Y k->(i.push { cls:=.type "list_iterator",data:=.fields #[.ref l,.int 0 0] }).get? b=Y k:=λb k e=>af _ (p.keeps _ _ (af _ e));have G:(i.push { cls:=.type "list_iterator",data:=.fields #[.ref l,.int 0 0] }).DictOf knd (zB s) []:=by sleep 1;obtain⟨N,V,W,S,r⟩:=a;sleep 2;exact{N,V,W,af _ (p.keeps _ _ S),r}
 have B:(i.push { cls:=.type "list_iterator",data:=.fields #[.ref l,.int 0 0] }).IsList l items:={_,af _ (p.keeps _ _ c),rfl,n,rfl}
 exact KG (knd:=knd) (s:={ s with heap:=i.push { cls:=.type "list_iterator",data:=.fields #[.ref l,.int 0 0] },toks:=x }) (show A.in1.in1.handled=Z from I) (aR f) s.heap (by
   cases q:s.heap.get? (zB s) with
   |none=>rfl
   |some z=>exact absurd (au q) (bh _)) (by
   cases q:s.heap.get? i.objs.size with
   |none=>rfl
   |some z=>exact absurd (eY (au q) f) (bh _)) items.toList u 0 [] rfl (R.keep λb k X m e _=>H b k e) H {_,aG _ rfl,rfl,rfl} B G (by simpa using y)
  λU v D O=>{rfl,h U v D O}
end
end PySem
namespace L2
open PySem PySem.Spec PyProof.Rows
def rH:Lp->Option (List (Key×fZ))
 |[]=>Y []
 |.tuple [k,d]::r=>(rA k).bind λy=>(rH r).map ((y,d)::·)
 |_::_=>Z
def RN(b:List (Key×fZ))(a:List (fZ×fZ)):List (fZ×fZ):=b.foldl (λa p=>Cb (jH p.1) p.2 a) a
def qE(b:List (Key×V))(a:List (Key×V)):List (Key×V):=b.foldl (λa p=>o2 a p.1 p.2) a
def Am:Lp->Od
 |[.list ds]=>(rH ds).bind λa=>if a.length<=sizeLine then Y (.dict (RN a [])) else Z
 |_=>Z
section
theorem Cn(I:c7 X pins σ H s):∀{j:Lp}{g:List (Key×fZ)}{l:List V}{m:Lw},rH j=Y g->a9 X.K H j l->fv l m ->
  ∃(c:List (Key×V)) (ws:List (Key×Value)),lL (gI X.prog X.w) s.heap m ws/\KV c ws/\c.length=g.length/\∀a b,gs X.K H a b->gs X.K H (RN g a) (qE c b)
 |[],_,_,_,e,i,r=>by cases e;rw[a9.eL.mp i] at r;cases r;exact{[],[],.nil,.nil,rfl,λa b h=>h}
 |d::j,_,_,_,e,i,r=>by
  sleep 1;obtain⟨v,l,rfl,N,M⟩:=a9.dv.mp i;sleep 2;obtain⟨k,f,rfl⟩:∃k f,d=.tuple [k,f]:=by
   unfold rH at e;split at e
   .rename_i z;cases z
   .rename_i k f r z;injection z with o z2;exact{(k),f,o}
   .cases e
  obtain⟨y,Q,P⟩:=bind_some (show (rA k).bind (λy=>(rH j).map ((y,f)::·))=Y _ from e);obtain⟨g,O,rfl⟩:=aj.mp P;cases r with
  |cons B A=>
   sleep 1;obtain⟨c,ws,W,U,S,R⟩:=Cn I O M A;sleep 2;sleep 1;obtain⟨T,ts,rfl,x,L⟩:=N.hU;sleep 2;cases B;sleep 1;obtain⟨v1,q,rfl,G,F⟩:=JV L;sleep 2;obtain⟨J,n,E,_⟩:=I.tuple x;have:=jb Q;subst this;rw[jT G] at n;cases n with
   |@cons _ w1 _ _ D u=>
    cases u with
    |@cons _ p _ _ C t=>cases t;exact{(y,q)::c,(y,p)::ws,lL.cons E (pB D) W,Paired.cons {(rfl),C} U,by rw[ax,ax,S],λa b h=>R _ _ (h.put F)}
def KV.Z9{c:List (Key×V)}{e:List (Key×Value)}(r:KV c e):∀{a:List (Key×V)}{b:List (Key×Value)},KV a b->KV (qE c a) (Cm b e):=by
 induction r with
 |nil=>exact λh=>h
 |@cons p q c f h t g=>intro a b d;obtain⟨j,i⟩:=h;have:=d.put p.1 i;rw[show qE (p::c) a=qE c (o2 a p.1 p.2) from rfl,show Cm b (q::f)=Cm (stored b q.1 q.2) f from rfl,<-j];exact g this
theorem yx:∀(b:List (Key×V)) (a:List (Key×V)),(qE b a).length<=a.length+b.length
 |[],a=>by simp[qE]
 |p::b,a=>by have d:=yx b (o2 a p.1 p.2);have c:=pA a p.1 p.2;rw[show qE (p::b) a=qE b (o2 a p.1 p.2) from rfl,ax];omega
def Pd(K:X.calm=true):vp X (.type "dict") Am:=by
 intro q s S H T V Q I r h;sleep 1;obtain⟨ds,c,i,e,k⟩:=h;sleep 2;unfold Am at e;split at e
 .rename_i W;obtain⟨m,M,f⟩:=bind_some e;by_cases g:m.length<=sizeLine
  .rw[ai g] at f;cases f;obtain⟨v,rfl,L⟩:=ir i;obtain⟨u,rfl,B⟩:=rh r;sleep 1;obtain⟨p,U,rfl,z,D⟩:=bC.fj.mp L;sleep 2;cases B;sleep 1;obtain⟨E,A,⟨o,n,F,l,j,d⟩,_⟩:=I.list z;sleep 2;sleep 1;obtain⟨b,x,P,t,O,N⟩:=Cn I M D A;sleep 2;have hw:x.length=m.length:=by rw[<-t.length,O]
   refine uM (knd:=gI X.prog X.w) (I.ok.hd K) F l d j (by simpa using P) (by rw[hw];exact g) λh' y J C=>?_;have G:(qE b []).length<=sizeLine:=by have:=yx b [];simp at this;omega
   have R:=I.laid (a:=(zB s)) (o:=.dK (qE b [])) (t':=y) C (aH _) (JF G (aF.mpr (Ne.symm (aR I.big))) (KV.Z9 t .nil) J);refine{.ref (zB s),_,R,rfl,k _ _ (iV I.fresh) (bC.ke.mpr {_,rfl,.inl {_,.inl eB,?_}})};exact(N [] [] (gs.eL.mpr rfl)).same (iV I.fresh)
  .rw[aq g] at f;cases f
 .cases e
end
end L2
namespace PySem
open Builtin
section
variable {prog:Program}
abbrev a_(a:Program)(w:World)(A:Around)(R:Result->Shared->Prop):Fin->Shared->Prop:=λb c=>match b with
 |.done f=>R (.ok f) c
 |.again d=>d.quiet=true/\codeAny (model a w) A d R c
theorem ue{x:Value}{Q:Px}
  (j:∀h2 c,h2.get? (zB s)=Y (zl #[] c)->(∀b o,s.heap.get? b=Y o->h2.get? b=Y o) ->
   wpAny (model prog w) A.in1.in1 (Builtin.List.listExtendWith (.ref (zB s)) x .none) (a_ prog w A.in1 (wants (λr pq=>r=.none/\Q (.ref (zB s)) pq) E)) (λe s'=>wants (λr pq=>r=.none/\Q (.ref (zB s)) pq) E (.error e) s') { s with heap:=h2 }):
  wpAny (model prog w) A (call (.type "list") [x]) Q E s:=by
 refine callType_codes (Q₁:=λf d=>f=.ref (zB s)/\d={ s with heap:=s.heap.push { cls:=.type "list",data:=.seq #[] } }) F.called_list (F.typeCall_list_1 _) F.entry_list_init (code_list_new _ {(rfl),rfl}) λf d g=>?_;obtain⟨rfl,rfl⟩:=g;have a:(s.heap.push { cls:=.type "list",data:=.seq #[] }).get? (zB s)=Y { cls:=.type "list",data:=.seq #[] }:=aG _ rfl;refine{{_,a,rfl},F.args_list_init_2 _ _,?_};show wpAny _ A.in1.in1 (do
  let h <-Builtin.List.listItems (.ref (zB s))
  Builtin.List.listUpdate (.ref (zB s)) (λ_=>#[])
  letGo h.toList.reverse
  Builtin.List.listExtendWith (.ref (zB s)) x .none) _ _ _
 refine aa ?_;unfold Builtin.List.listItems;refine aa (fQ a rfl (ak ?_));show wpAny _ A.in1.in1 (updateSeq (zB s) (λ_=>#[])>>=_) _ _ _;refine aa (cM a rfl (aa (wpAny_letGo ?_)));refine j _ _ (bq (Obj.mapSeq λ_=>(#[]:Array Value)) a rfl) λb o e=>?_;have i:(zB s)≠b:=λz=>bh _ (by have:=au e;rw[<-z] at this;exact this);exact(aT _ _ i).trans (af _ e)
variable {K:Type} [DecidableEq K] {knd:KeyKind prog w K}
theorem vG{d:Addr}{a:List (K×Value)}{Q:Px} (X:A.handled=Z) (hS:(d==sysModules)=false) (hd:s.heap.DictOf knd d a) (W:a.length<=sizeLine)
  (h:∀h' tk its c,its.size=a.length->(∀(j:Nat) v,its[j]?=Y v->∃k x,a[j]?=Y (k,x)/\knd.is k v=true)->h'.get? (zB s)=Y (zl its c)->(∀b o,s.heap.get? b=Y o->h'.get? b=Y o)->Q (.ref (zB s)) { s with heap:=h',toks:=tk }):
  wpAny (model prog w) A (call (.type "list") [.ref d]) Q E s:=by
 obtain⟨r,t⟩:=hd.dictAt;have i:d<(zB s):=t.lt_size;refine ue λg c B M=>?_;have f:g.DictAt knd d a r:=t.at' λo e=>M _ _ e;have P:Shared.TypeIs { s with heap:=g } (.ref d) "dict":=f.dictOf.typeIs;have l:(zB s)<g.objs.size:=au B;unfold Builtin.List.listExtendWith;refine aa (cQ P ?_);have V:Builtin.List.listSameRef (.ref (zB s)) (.ref d)=false:=by simp[Builtin.List.listSameRef,df i]
 have U:(Value.type "dict"==Value.type "list")=false:=by decide
 have T:(Value.type "dict"==Value.type "tuple")=false:=by decide
 simp only[V,U,T,du,cq,e9];refine aa (wpAny_pyIter_dict hS f ?_);refine aa (bp ?_);have p:Shared.TypeIs { s with heap:=g.push { cls:=.type "dict_keyiterator",data:=.fields #[.ref d,.int 0 0,.int a.length 0,.int r 0] } } (.ref d) "dict":=(f.push _).dictOf.typeIs;unfold Builtin.List.listLengthHint;refine aa (eO p F.slot_dict_len.lookup ?_);have R:splitId "dict.__len__"=Y ("dict","__len__"):=by kernel_rfl
 dsimp only;rw[R];dsimp only;refine aa (wpAny_isInstance p isSubtype_dict_dict ?_);rw[aq (by decide),ai (by decide)];refine aa (cQ p ?_);show wpAny _ _ (pure false) _ _ _;refine ak ?_;rw[ai (by decide)];refine aa (fH (aa ?_));show wpAny _ _ (updateSeq (zB s) (·.push .none)>>=λ_=>updateSeq (zB s) (·.pop)) _ _ _;have y:(g.push { cls:=.type "dict_keyiterator",data:=.fields #[.ref d,.int 0 0,.int a.length 0,.int r 0] }).get? (zB s)=Y (zl #[] c):=af _ B;refine aa (cM y rfl ?_);have u:=bq (Obj.mapSeq (·.push Value.none)) y rfl;refine cM (hz:=by seq_fits) u rfl ?_;have J:=bq (Obj.mapSeq (·.pop)) u rfl;have q:∀b o,b≠(zB s)->(g.push { cls:=.type "dict_keyiterator",data:=.fields #[.ref d,.int 0 0,.int a.length 0,.int r 0] }).get? b=Y o->(((g.push { cls:=.type "dict_keyiterator",data:=.fields #[.ref d,.int 0 0,.int a.length 0,.int r 0] }).update (zB s) (Obj.mapSeq (·.push Value.none))).update (zB s) (Obj.mapSeq (·.pop))).get? b=Y o :=
  λb o N e=>(aT _ _ (Ne.symm N)).trans ((aT _ _ (Ne.symm N)).trans e)
 have H:(zB s)∉[g.objs.size,d]:=by
  intro m;rcases ah.mp m with e|m
  .exact absurd e (aR l)
  .exact absurd (by simpa using m) (df i)
 have dI:d≠g.objs.size:=aR (eY i l);refine ak {dw cA _,codeAny_extend_loopS (Walks.dictKeys (knd:=knd) (show A.in1.in1.handled=Z from X) g.objs.size d dI a r).toS W _ H _ a.length 0 _ _ _ rfl (eJ _) {?_,?_} J (ItemsOf.nil _) λS L c' C I n=>?_}
 .exact Heap.IsKeyIter.at {_,aG _ rfl,rfl,rfl} λo e=>q _ _ (Ne.symm (aR l)) e
 .exact(f.push _).at' λo e=>q _ _ (aR i) e
 .obtain⟨h',g',d',D,G⟩:=S;have eg:g'=s.gens:=C.gens;have ed:d'=s.drawn:=C.drawn;have eo:G=s.os:=C.os;subst eg ed eo;refine{rfl,h h' D L c' n.1 (λj v e=>n.2 j v e) I λb o e=>?_};have O:b≠(zB s):=λz=>bh _ (by have:=au e;rw[z] at this;exact this);have bI:b≠g.objs.size:=λz=>bh g.objs.size (eY (by have:=au e;rw[z] at this;exact this) l);refine C.heap b o (by simp[O,bI]) (q b o O (af _ (M b o e)))
end
end PySem
namespace PySem
open Builtin
section
variable {prog:Program}
def Pe{M:Model}{Q:Option Obj->Shared->Prop}(h:Q (s.heap.get? a) s):wpAny M A (loadIfAlive a) Q E s:=λΓ p b=>by show Sem.wp M Γ (Sem.loadIfAlive a _) _ _ p s;rw[Sem.wp_loadIfAlive];exact h
abbrev sZ(h:Heap)(z c a T:Addr)(b:Bool):Prop:=h.get? z=Y { cls:=.type "zip",dict:=Z,data:=.fields #[rawInt T,.bool b,.bool false,.ref c,.ref a],slots:=#[] }
def uf{z e d T:Addr}{b:Bool}{g:Obj}{Q:Bool->Shared->Prop} (a:sZ s.heap z e d T b) (h:s.heap.get? T=Y g)
  (k:∀h',sZ h' z e d T true->Heap.SameBut z s.heap h'->Q false { s with heap:=h' }):wpAny (model prog w) A (Builtin.SmallTypes.ownedTupleIsFree (.ref z)) Q E s:=by
 unfold Builtin.SmallTypes.ownedTupleIsFree;refine aa (cj a rfl (x:=rawInt T) rfl ?_);show wpAny _ _ (loadIfAlive ((T:Int)).toNat>>=_) _ _ _;refine aa (Pe ?_);rw[show ((T:Int)).toNat=T from dX T,h];rw[aq (by simp)];refine aa (cj a rfl (x:=.bool b) rfl ?_);cases b with
 |true=>rw[aq (by decide)];exact ak (k _ a (Heap.SameBut.refl _ _))
 |false=>rw[ai (by decide)];refine aa (wpAny_setField_rec a (by simp) λh' c f=>ak (k h' c f))
def En{z j I T h g n m:Addr}{b:Bool}{M:Obj}{q p:Nat}{K J:Array Value}{x y:Value}{Q:Px} (D:ZipApart z j I h g n m) (B:sZ s.heap z j I T b) (W:s.heap.get? T=Y M) (C:IsPair s.heap j (.ref h) (.ref g))
  (S:s.heap.IsListIter h n q) (R:s.heap.IsListIter g m p) (O:s.heap.IsList n K) (N:s.heap.IsList m J) (V:K[q]?=Y x) (U:J[p]?=Y y)
  (k:∀h',sZ h' z j I T true->h'.IsListIter h n (q+1)->h'.IsListIter g m (p+1)->IsPair h' (zB s) x y->(∀c o,c≠z->c≠h->c≠g->s.heap.get? c=Y o->h'.get? c=Y o)->Q (.ref (zB s)) { s with heap:=h' }):
  wpAny (model prog w) A (Builtin.«zip.__next__» {[.ref z],[]}) (λfin s'=>∃v,fin=.done (.ret v)/\Q v s') E s:=by
 show wpAny _ _ (field (.ref z) 2>>=_) _ _ _;refine aa (cj B rfl (x:=.bool false) rfl ?_);show wpAny _ _ (field (.ref z) 3>>=_) _ _ _;refine aa (cj B rfl (x:=.ref j) rfl (aa (fQ C rfl ?_)));show wpAny _ _ (Builtin.SmallTypes.ownedTupleIsFree (.ref z)>>=_) _ _ _;refine aa (uf B W λh1 u a=>?_);rw[aq aV];refine aa ?_;rw[<-Array.forIn_toList];simp only[dq,fg];refine aa (aa (bp ?_));show wpAny _ _ (Builtin.SmallTypes.nextOf (.ref h)>>=_) _ _ _;refine aa (dY (S.extBut a.extBut D.i1z) (O.extBut a.extBut D.l1z) V λX t d=>ak (ak ?_));dsimp only;refine aa (aa (bp ?_));show wpAny _ _ (Builtin.SmallTypes.nextOf (.ref g)>>=_) _ _ _;refine aa (dY ((R.extBut a.extBut D.i2z).extBut d.extBut D.i12.symm) ((N.extBut a.extBut D.l2z).extBut d.extBut D.l2i1) U λi r f=>ak (ak (ak ?_)));have L:i.objs.size=(zB s):=by rw[f.1,d.1,a.1]
 have P:∀c o,c≠z->c≠h->c≠g->s.heap.get? c=Y o->i.get? c=Y o:=λc o H G F e=>f.extBut _ _ F (d.extBut _ _ G (a.extBut _ _ H e));refine aa (wpAny_newTuple (ak {_,rfl,?_}) (by show 2<=sizeLine;decide));show Q (.ref i.objs.size) _;rw[L];have l:∀c o,i.get? c=Y o->(i.push { cls:=.type "tuple",data:=.seq #[x,y] }).get? c=Y o:=λc o e=>af _ e;refine k _ (l _ _ (f.extBut _ _ D.i2z.symm (d.extBut _ _ D.i1z.symm u))) ((t.extBut f.extBut D.i12).at λo e=>l _ _ e) (r.at λo e=>l _ _ e) (by rw[<-L];exact aG _ rfl) λc o H G F e=>l _ _ (P c o H G F e)
theorem Eo{z i J T h g p n:Addr}{b:Bool}{K:Obj}{t r:Nat}{l j:Array Value}{Q:Fin->Shared->Prop} (H:A.handled=Z) (D:ZipApart z i J h g p n) (u:sZ s.heap z i J T b) (R:s.heap.get? T=Y K) (B:IsPair s.heap i (.ref h) (.ref g))
  (G:s.heap.IsListIter h p t) (M:s.heap.IsListIter g n r) (F:s.heap.IsList p l) (L:s.heap.IsList n j) (f:l[t]?=Z\/j[r]?=Z)
  (k:∀h' e,(∀c o,c≠z->c≠h->c≠g->s.heap.get? c=Y o->h'.get? c=Y o)->(∃o,h'.get? e=Y o/\o.cls=.type "StopIteration")->E (.ref e) { s with heap:=h' }):
  wpAny (model prog w) A (Builtin.«zip.__next__» {[.ref z],[]}) Q E s:=by
 show wpAny _ _ (field (.ref z) 2>>=_) _ _ _;refine aa (cj u rfl (x:=.bool false) rfl ?_);show wpAny _ _ (field (.ref z) 3>>=_) _ _ _;refine aa (cj u rfl (x:=.ref i) rfl (aa (fQ B rfl ?_)));show wpAny _ _ (Builtin.SmallTypes.ownedTupleIsFree (.ref z)>>=_) _ _ _;refine aa (uf u R λh1 O a=>?_);rw[aq aV];refine aa ?_;rw[<-Array.forIn_toList];simp only[dq,fg];refine aa (aa (bp ?_));show wpAny _ _ (Builtin.SmallTypes.nextOf (.ref h)>>=_) _ _ _;cases v:l[t]? with
 |none=>exact aa (wpAny_nextOf_list_end H (G.extBut a.extBut D.i1z) (F.extBut a.extBut D.l1z) v λI e d y=>k I e (λc o c1 C _ q=>d _ _ C (a.extBut _ _ c1 q)) y)
 |some x=>have P:j[r]?=Z:=f.resolve_left (by rw[v];exact λq=>nomatch q);refine aa (dY (G.extBut a.extBut D.i1z) (F.extBut a.extBut D.l1z) v λI N d=>ak (ak ?_));dsimp only;refine aa (aa (bp ?_));show wpAny _ _ (Builtin.SmallTypes.nextOf (.ref g)>>=_) _ _ _;exact aa (wpAny_nextOf_list_end H ((M.extBut a.extBut D.i2z).extBut d.extBut D.i12.symm) ((L.extBut a.extBut D.l2z).extBut d.extBut D.l2i1) P λS e m y=>k S e (λc o c1 C U q=>m _ _ U (d.extBut _ _ C (a.extBut _ _ c1 q))) y)
def An(S:Addr)(h:Heap)(c b a:Array Value):Prop:=∀(j:Nat) v,a[j]?=Y v->∃T x y,v=.ref T/\c[j]?=Y x/\b[j]?=Y y/\IsPair h T x y/\S<T
theorem Ao{S z TI TO T E C P O:Addr}{l r:Array Value}(g:Heap)(hh:A.in1.handled=Z)(D:ZipApart z TI TO E C P O)(B:g.get? S=Z/\g.get? z=Z/\g.get? E=Z/\g.get? C=Z)(X:(∃o,g.get? P=Y o)/\∃o,g.get? O=Y o)(hn:min l.size r.size<=sizeLine):
    ∀(m i:Nat) (s:Shared) (acc:Array Value) (c:Nat) (b:Bool),min l.size r.size - i=m->i<=min l.size r.size->acc.size=i->(∃K,s.heap.get? T=Y K/\∃v n,K.cls=.type "tuple"/\K.data=.seq v n)->sZ s.heap z TI TO T b->IsPair s.heap TI (.ref E) (.ref C)->s.heap.IsListIter E P i->s.heap.IsListIter C O i->s.heap.IsList P l->s.heap.IsList O r ->
      s.heap.get? S=Y (zl acc c)->An S s.heap l r acc->(∀b o,g.get? b=Y o->s.heap.get? b=Y o) ->
      (∀u t c',t.size=min l.size r.size->An S u l r t->u.get? S=Y (zl t c')->(∀b o,g.get? b=Y o->u.get? b=Y o)->R (.ok (.ret .none)) { s with heap:=u }) ->
      codeAny (model prog w) A (.builtin "list.extend.loop" {[.ref S,.ref z,.none],[]}) R s
:=by
  intro m;induction m using Nat.strongRecOn with
  |_ m ih=>
    rintro i s acc c b hm hi ha ⟨K,ht,tv,tn,tc,td⟩ V G j1 j2 m1 m2 hS W Q hR;have tz:s.TypeIs (.ref z) "zip":={_,V,rfl}
    refine cL F.entry_extend_loop ?_;rw[cw cA _];show wpAny _ A.in1 (pyNext (.ref z)>>=_) _ _ s;refine aa ?_;unfold pyNext;have nz:∀a o v n,s.heap.get? a=Y o->o.data=.seq v n->a≠z:=λa o v n f h q=>by subst q;rw[V] at f;cases f;cases h
    have M:∀a o v n,s.heap.get? a=Y o->o.data=.seq v n->a≠E:=λa o v n f h q=>by subst q;obtain⟨o',p,_,e4⟩:=j1;rw[f] at p;cases p;rw[h] at e4;cases e4
    have L:∀a o v n,s.heap.get? a=Y o->o.data=.seq v n->a≠C:=λa o v n f h q=>by subst q;obtain⟨o',p,_,e4⟩:=j2;rw[f] at p;cases p;rw[h] at e4;cases e4
    by_cases RH:i<min l.size r.size
    . obtain⟨x,hx⟩:∃x,l[i]?=Y x:={l[i]'(by omega),by simp}
      obtain⟨y,hy⟩:∃y,r[i]?=Y y:={r[i]'(by omega),by simp}
      refine aa (wpAny_attempt (de (name:=zZ "__next__") tz eP
        (eA eP tz F.entry_zip_next (En D V ht G j1 j2 m1 m2 hx hy λu b_ c_ d_ Z8 U=>ak ?_) (F.args_zip_next_1 _))))
      have d:∀a o v n,s.heap.get? a=Y o->o.data=.seq v n->u.get? a=Y o:=λa o v n f h=>U a o (nz a o v n f h) (M a o v n f h) (L a o v n f h) f;have hS':=d _ _ _ _ hS rfl;show wpAny _ A.in1 (updateSeq S (·.push (.ref (zB s)))>>=_) _ _ _;refine aa (cM hS' rfl ?_ (by rw[ha];omega));have I:=bq (Obj.mapSeq (·.push (Value.ref (zB s)))) hS' rfl;have k:∀a o,a≠S->u.get? a=Y o->(u.update S (Obj.mapSeq (·.push (Value.ref (zB s))))).get? a=Y o:=λa o q e=>(aT _ _ (Ne.symm q)).trans e;refine ak {dw cA _,?_};have H:∀a o,s.heap.get? a=Y o->o.cls≠.type "list"->a≠S:=λa o f h q=>by subst q;rw[hS] at f;cases f;exact h rfl
      have e_:P≠S:=λq=>by obtain⟨o,e⟩:=X.1;rw[q,B.1] at e;cases e
      have f_:O≠S:=λq=>by obtain⟨o,e⟩:=X.2;rw[q,B.1] at e;cases e
      have zS:z≠S:=H z _ V (by intro q;injection q with q;revert q;decide);have TS:T≠S:=H T _ ht (by rw[tc];intro q;injection q with q;revert q;decide);have g_:TI≠S:=H TI _ G (by intro q;injection q with q;revert q;decide);have i1S:E≠S:=by obtain⟨o,f,h,p⟩:=id j1;exact H E o f (by rw[h];intro q;injection q with q;revert q;decide)
      have i2S:C≠S:=by obtain⟨o,f,h,p⟩:=id j2;exact H C o f (by rw[h];intro q;injection q with q;revert q;decide)
      have N:(zB s)≠S:=λq=>by have:=au hS;rw[<-q] at this;exact bh _ this
      refine ih (min l.size r.size - (i+1)) (by omega) (i+1) _ (acc.push (.ref (zB s))) _ true rfl RH (by rw[Array.size_push,ha]) {K,k _ _ TS (d _ _ _ _ ht td),tv,tn,tc,td} (k _ _ zS b_) (k _ _ g_ (d _ _ _ _ G rfl)) (c_.at λo e=>k _ _ i1S e) (d_.at λo e=>k _ _ i2S e)
        ?_ ?_ I ?_ (λa o e=>?_) λh2 t c' q1 q2 q3 q4=>hR h2 t c' q1 q2 q3 q4
      . obtain⟨o,f,h,n,p⟩:=m1
        exact{o,k _ _ e_ (d _ _ _ _ f p),h,n,p}
      . obtain⟨o,f,h,n,p⟩:=m2
        exact{o,k _ _ f_ (d _ _ _ _ f p),h,n,p}
      . intro j v e
        by_cases hj:j<acc.size
        . have e':acc[j]?=Y v:=by rw[eV] at e;rw[aq (aR hj)] at e;exact e
          sleep 1;obtain⟨T',x',y',r1,r2,r3,r4,r5⟩:=W j v e';sleep 2;exact{T',x',y',r1,r2,r3,k _ _ (H _ _ r4 (by intro q;injection q with q;revert q;decide)) (d _ _ _ _ r4 rfl),r5}
        . have hj2:j=acc.size:=by
            by_cases q:j=acc.size
            . exact q
            . rw[eV,aq q] at e
              have:acc[j]?=Z:=by simp;omega
              rw[this] at e;cases e
          subst hj2;rw[eV,ai rfl] at e;cases e;rw[ha];exact{_,x,y,rfl,hx,hy,k _ _ N Z8,au hS}
      . have a1:a≠S:=λq=>by rw[q,B.1] at e;cases e
        have a2:a≠z:=λq=>by rw[q,B.2.1] at e;cases e
        have a3:a≠E:=λq=>by rw[q,B.2.2.1] at e;cases e
        have a4:a≠C:=λq=>by rw[q,B.2.2.2] at e;cases e
        exact k a o a1 (U a o a2 a3 a4 (Q a o e))
    . have J:l[i]?=Z\/r[i]?=Z:=by
        by_cases q:l.size<=i
        . exact .inl (by simp;omega)
        . exact .inr (by simp;omega)
      refine aa (wpAny_attempt (de (name:=zZ "__next__") tz eP
        (eA eP tz F.entry_zip_next (Eo hh D V ht G j1 j2 m1 m2 J λu e U he=>?_) (F.args_zip_next_1 _))))
      obtain⟨o,ho,hc⟩:=he;refine aa (wpAny_isInstance (T:="StopIteration") (b:=true) {(o),ho,hc} isSubtype_stop (ak ?_));have d:∀a o v n,s.heap.get? a=Y o->o.data=.seq v n->u.get? a=Y o:=λa o v n f h=>U a o (nz a o v n f h) (M a o v n f h) (L a o v n f h) f;show wpAny _ A.in1 (ret Value.none) _ _ _;refine ak (hR u acc c (by omega) (λj v e=>?_) (d _ _ _ _ hS rfl) λa o e=>?_)
      . obtain⟨T',x',y',r1,r2,r3,r4,r5⟩:=W j v e
        exact{T',x',y',r1,r2,r3,d _ _ _ _ r4 rfl,r5}
      . have a2:a≠z:=λq=>by rw[q,B.2.1] at e;cases e
        have a3:a≠E:=λq=>by rw[q,B.2.2.1] at e;cases e
        have a4:a≠C:=λq=>by rw[q,B.2.2.2] at e;cases e
        exact U a o a2 a3 a4 (Q a o e)
theorem xv{S z J I E B O N:Addr}{g k:Array Value}{a b:Value}{c:Nat} (d:Heap) (hh:A.in1.handled=Z) (D:ZipApart z J I E B O N) (t:d.get? S=Z/\d.get? z=Z/\d.get? E=Z/\d.get? B=Z) (nTO:d.get? I=Z) (G:(∃o,d.get? O=Y o)/\∃o,d.get? N=Y o) (hn:min g.size k.size<=sizeLine)
  (hz:IsZip s.heap z J I .none) (l:IsPair s.heap J (.ref E) (.ref B)) (H:IsPair s.heap I a b) (j1:s.heap.IsListIter E O 0) (j2:s.heap.IsListIter B N 0) (m1:s.heap.IsList O g) (m2:s.heap.IsList N k)
  (U:s.heap.get? S=Y (zl #[] c)) (kp0:∀b o,d.get? b=Y o->s.heap.get? b=Y o)
  (hR:∀h' its c',its.size=min g.size k.size->An S h' g k its->h'.get? S=Y (zl its c')->(∀b o,d.get? b=Y o->h'.get? b=Y o)->R (.ok (.ret .none)) { s with heap:=h' }):
  codeAny (model prog w) A (.builtin "list.extend.loop" {[.ref S,.ref z,.none],[]}) R s:=by
 refine cL F.entry_extend_loop ?_;rw[cw cA _];show wpAny _ A.in1 (pyNext (.ref z)>>=_) _ _ s;have M:∀a o,s.heap.get? a=Y o->o.cls≠.type "list"->a≠S:=λa o i m q=>by subst q;rw[U] at i;cases i;exact m rfl
 have e_:O≠S:=λq=>by obtain⟨o,e⟩:=G.1;rw[q,t.1] at e;cases e
 have f_:N≠S:=λq=>by obtain⟨o,e⟩:=G.2;rw[q,t.1] at e;cases e
 have X:z≠S:=M z _ hz (by intro q;injection q with q;revert q;decide);have g_:J≠S:=M J _ l (by intro q;injection q with q;revert q;decide);have W:I≠S:=M I _ H (by intro q;injection q with q;revert q;decide);have C:E≠S:=by obtain⟨o,i,m,V⟩:=id j1;exact M E o i (by rw[m];intro q;injection q with q;revert q;decide)
 have u:B≠S:=by obtain⟨o,i,m,V⟩:=id j2;exact M B o i (by rw[m];intro q;injection q with q;revert q;decide)
 have r:∀h':Heap,(∀c o,c≠z->c≠I->c≠E->c≠B->s.heap.get? c=Y o->h'.get? c=Y o)->∀a o,d.get? a=Y o->h'.get? a=Y o:=λh' h a o e=>
  h a o (λq=>by rw[q,t.2.1] at e;cases e) (λq=>by rw[q,nTO] at e;cases e) (λq=>by rw[q,t.2.2.1] at e;cases e) (λq=>by rw[q,t.2.2.2] at e;cases e) (kp0 a o e)
 by_cases RH:0<min g.size k.size
 .obtain⟨x,hx⟩:∃x,g[0]?=Y x:={g[0]'(by omega),by simp}
  obtain⟨y,hy⟩:∃y,k[0]?=Y y:={k[0]'(by omega),by simp}
  refine aa (wpAny_pyNext_zip_item D hz l H j1 j2 m1 m2 hx hy λh' b_ aad c_ d_ P sz h=>?_);have Q:h'.get? S=Y (zl #[] c):=h S _ (Ne.symm X) (Ne.symm W) (Ne.symm C) (Ne.symm u) U;show wpAny _ A.in1 (updateSeq S (·.push (.ref (zB s)))>>=_) _ _ _;refine aa (cM Q rfl ?_);have K:=bq (Obj.mapSeq (·.push (Value.ref (zB s)))) Q rfl;have f:∀a o,a≠S->h'.get? a=Y o->(h'.update S (Obj.mapSeq (·.push (Value.ref (zB s))))).get? a=Y o:=λa o q e=>(aT _ _ (Ne.symm q)).trans e;have p:(zB s)≠S:=λq=>by have:=au U;rw[<-q] at this;exact bh _ this
  refine ak {dw cA _,Ao (T:=(zB s)) d hh D t G hn (min g.size k.size - 1) 1 _ #[.ref (zB s)] _ false rfl RH rfl {_,f _ _ p P,_,_,rfl,rfl} (f _ _ X b_) (f _ _ g_ (h J _ D.TIz D.TITO D.TIi1 D.TIi2 l)) (c_.at λo e=>f _ _ C e) (d_.at λo e=>f _ _ u e) ?_ ?_ K ?_ (λa o e=>?_) λh2 its c' q1 q2 q3 q4=>hR h2 its c' q1 q2 q3 q4}
  .obtain⟨o,i,m,n,V⟩:=m1;exact{o,f _ _ e_ (h _ _ D.l1z D.l1TO D.l1i1 D.l1i2 i),m,n,V}
  .obtain⟨o,i,m,n,V⟩:=m2;exact{o,f _ _ f_ (h _ _ D.l2z D.l2TO D.l2i1 D.l2i2 i),m,n,V}
  .intro j v e;cases j with
   |zero=>cases e;exact{_,x,y,rfl,hx,hy,f _ _ p P,au U}
   |succ j=>simp at e
  .exact f a o (λq=>by rw[q,t.1] at e;cases e) (r h' h a o e)
 .have L:g[0]?=Z\/k[0]?=Z:=by
   by_cases q:g.size<=0
   .exact .inl (dm (by omega))
   .exact .inr (dm (by omega))
  refine aa (wpAny_pyNext_zip_end hh D hz l H j1 j2 m1 m2 L λh' h=>?_);show wpAny _ A.in1 (ret Value.none) _ _ _;exact ak (hR h' #[] c (by show 0=_;omega) (λj v e=>by simp at e) (h S _ (Ne.symm X) (Ne.symm W) (Ne.symm C) (Ne.symm u) U) (r h' h))
def Ap:typeLookup (.type "zip") "__len__"=pure Z:=by rw[fL,d8];kernel_rfl
def xw:typeLookup (.type "zip") "__length_hint__"=pure Z:=by rw[fL,d8];kernel_rfl
def xx{z u k t r p n:Addr}{m l:Array Value}{a b:Value}{Q:Px} (d:Heap) (hh:A.handled=Z) (D:ZipApart z u k t r p n) (V:d.get? z=Z/\d.get? t=Z/\d.get? r=Z) (y:d.get? k=Z) (C:(∃o,d.get? p=Y o)/\∃o,d.get? n=Y o) (hn:min m.size l.size<=sizeLine) (I:d.objs.size<=(zB s))
  (hz:IsZip s.heap z u k .none) (G:IsPair s.heap u (.ref t) (.ref r)) (F:IsPair s.heap k a b) (j1:s.heap.IsListIter t p 0) (j2:s.heap.IsListIter r n 0) (X:s.heap.IsList p m) (W:s.heap.IsList n l) (B:∀b o,d.get? b=Y o->s.heap.get? b=Y o)
  (h:∀h' its c,its.size=min m.size l.size->An (zB s) h' m l its->h'.get? (zB s)=Y (zl its c)->(∀b o,d.get? b=Y o->h'.get? b=Y o)->Q (.ref (zB s)) { s with heap:=h' }):
  wpAny (model prog w) A (call (.type "list") [.ref z]) Q E s:=by
 have v:z<(zB s):=au hz;refine ue λH c j K=>?_;have g:IsZip H z u k .none:=K _ _ hz;have x:Shared.TypeIs { s with heap:=H } (.ref z) "zip":={_,g,rfl}
 unfold Builtin.List.listExtendWith;refine aa (cQ x ?_);have U:Builtin.List.listSameRef (.ref (zB s)) (.ref z)=false:=by simp[Builtin.List.listSameRef,df v]
 have T:(Value.type "zip"==Value.type "list")=false:=by decide
 have S:(Value.type "zip"==Value.type "tuple")=false:=by decide
 simp only[U,T,S,du,cq,e9];refine aa (wpAny_pyIter_zip g (aa (bp ?_)));unfold Builtin.List.listLengthHint;refine aa (eO x Ap ?_);dsimp only;rw[aq (by decide),aq (by decide)];refine aa (eO x xw ?_);show wpAny _ _ (pure true) _ _ _;refine ak ?_;rw[ai (by decide)];refine aa (fH (aa ?_));show wpAny _ _ (updateSeq (zB s) (·.push .none)>>=λ_=>updateSeq (zB s) (·.pop)) _ _ _;refine aa (cM j rfl ?_);have i:=bq (Obj.mapSeq (·.push Value.none)) j rfl;refine cM (hz:=by seq_fits) i rfl ?_;have J:=bq (Obj.mapSeq (·.pop)) i rfl;have f:∀b o,s.heap.get? b=Y o->((H.update (zB s) (Obj.mapSeq (·.push Value.none))).update (zB s) (Obj.mapSeq (·.pop))).get? b=Y o :=
  λb o e=>by
   have L:(zB s)≠b:=λq=>by have:=au e;rw[<-q] at this;exact bh _ this
   exact(aT _ _ L).trans ((aT _ _ L).trans (K b o e))
 have R:d.get? (zB s)=Z:=by
  cases q:d.get? (zB s) with
  |none=>rfl
  |some o=>have:=au q;exact absurd (aJ this I) (bh _)
 refine ak {dw cA _,xv d (show A.in1.in1.handled=Z from hh) D {(R),V} y C hn (f _ _ hz) (f _ _ G) (f _ _ F) (j1.at λo e=>f _ _ e) (j2.at λo e=>f _ _ e) (X.at λo e=>f _ _ e) (W.at λo e=>f _ _ e) J (λb o e=>f b o (B b o e)) λh' its c' P O N M=>{rfl,h h' its c' P O N M}}
end
end PySem
namespace L2
open PySem PySem.Spec PyProof.Rows PySem.Builtin PySem.Builtin.Str
section
variable {h':Heap}
def c7.Pf{t':Nat}{i1 i2:Addr}(I:c7 X pins σ H s)(k:∀b o,b≠i1->b≠i2->s.heap.get? b=Y o->h'.get? b=Y o)(y:pj X pins H i1)(x:pj X pins H i2):c7 X pins σ H { s with heap:=h',toks:=t' }:=by
 sleep 1;obtain⟨t,g,_,i,D,l⟩:=y;sleep 2;sleep 1;obtain⟨p,f,_,h,C,j⟩:=x;sleep 2;have d:∀b u,H b=Y u->b≠i1/\b≠i2:=λb u e=>{(λz=>by rw[z,t] at e;cases e),(λz=>by rw[z,p] at e;cases e)}
 have a:∀b,b∉[i1,i2]->b≠i1/\b≠i2:=λb hb=>{λz=>hb (by simp[z]),λz=>hb (by simp[z])}
 refine I.step (g':=s.gens) (d':=s.drawn) (ch:=[i1,i2]) ?_ (λb o _ _ hc e _=>k b o (a b hc).1 (a b hc).2 e) (λb o _ _ hc e _=>{o.slots,k b o (a b hc).1 (a b hc).2 e}) (λ_ _ _ _ n=>n)
  (λb o hc e=>{o,k b o (a b hc).1 (a b hc).2 e}) (λ_ _ e=>e) (λ_ _ _ e=>e) (λb ps e=>{#[],by rw[e];simp}) ?_ ?_ I.bare
 .intro b hb;rcases ah.mp hb with e|hb
  .subst e;exact{(i),g,D,l}
  .have e:b=i2:=by simpa using hb
   subst e;exact{(h),f,C,j}
 .rintro m ⟨o,A,B,w,r⟩;exact{o,A,B,k _ o (Ne.symm g) (Ne.symm f) w,r}
 .intro b u e;refine(I.ip b u e).q8 (λc v hc q=>?_) (λ_ q=>q) λ_ _ q=>q;rcases hc with z|z
  .rw[z] at q ⊢;exact k _ _ (d b u e).1 (d b u e).2 q
  .exact k _ _ (d c _ z).1 (d c _ z).2 q
end
def h_(K:Fg)(l:Addr):It where
 go:=λi H=>∃a x,nj K H l a/\a[i]?=Y x
 V1:=λi H y c=>∃T x,y=.ref T/\H T=Z/\(∀b,nj K H l b->b[i]?=Y x)/\c=upd H T (.tup [.int (i:Nat),x])
 stop:=λi H=>∃a,nj K H l a/\a.length<=i
def H7{P:Program}{K:Fg}{G:Lx}{kt:Nat}{tp:Pos}(l n g:Addr)(C:n≠g):Ht P w K (.Tuple G kt tp) (h_ K l) [n,g] n (λi h=>(∃f,IsEnum h n g (i:Nat) f)/\h.IsListIter g l i) where
 mem:=by simp
 obj:=λi h j b hb=>by
  obtain⟨⟨f,m⟩,y⟩:=j;rcases ah.mp hb with e|hb
  .subst e;exact{_,m,λv z=>by cases z}
  .have e:b=g:=by simpa using hb
   subst e;obtain⟨o,e,c,d⟩:=y;exact{o,e,λv z=>by rw[d] at z;cases z}
 keep:=λi h h' j k=>{by obtain⟨f,m⟩:=j.1;exact{f,k n (by simp) _ m},j.2.at λo e=>k g (by simp) o e}
 item:=by
  intro X U hw V hc i r s σ H E I R j Q;subst U hw V;obtain⟨⟨f,m⟩,y⟩:=j;obtain⟨xs,x,J,N⟩:=Q;obtain⟨M,L,p,hz⟩:=I.list J;obtain⟨u,hu,ru⟩:=L.get N;refine wpAny_pyNext_enum_item m y p.isList (x:=u) (by simpa using hu) C λh1 S O B hsz kp=>{_,rfl,?_}
  refine wpAny_letOwnedTupleGo_enum S λh2 T W=>?_;have F:n<(zB s):=au m;have A:g<(zB s):=by obtain⟨o,e,_⟩:=y;exact au e
  have I1:=I.laid (a:=(zB s)) (o:=.tup [.int (i:Nat),x]) (t':=s.toks+1) (h':=s.heap.push { cls:=.type "tuple",data:=.seq #[.int i s.toks,u] }) (λ_ _ q=>af _ q) (aH _) {by show 2<=sizeLine;decide,[.int i s.toks,u],.cons {_,rfl} (.cons ru .nil),_,aG _ rfl,rfl,0,rfl};have t:∀b∈[n,g],pj X r (upd H (zB s) (.tup [.int (i:Nat),x])) b:=λb hb=>by
   obtain⟨g1,g2⟩:=R b hb;refine{?_,g2};have:b≠(zB s):=by
    rcases ah.mp hb with e|hb
    .rw[e];exact aR F
    .rw[show b=g by simpa using hb];exact aR A
   rw[c8 this];exact g1
  have I2:=I1.Pf (h':=h2) (t':=s.toks+1) (i1:=n) (i2:=g) (λb o b1 b2 e=>(W.2 b b1).trans (by
   by_cases hb:b=(zB s)
   .subst hb;have e':Y o=Y { cls:=.type "tuple",data:=.seq #[.int i s.toks,u] }:=e.symm.trans (aG _ rfl);cases e';exact B
   .have D:=au e;rw[eZ] at D;have aae:b<(zB s):=Nat.lt_of_le_of_ne (Nat.le_of_lt_succ D) hb;have q:s.heap.get? b=Y o:=(Heap.get?_push_ne _ _ _ hb).symm.trans e;exact kp b o b1 b2 q)) (t n (by simp)) (t g (by simp))
  exact{.ref (zB s),_,I2,rfl,{_,x,rfl,I.fresh,λys hy=>by rw[I.BJ hy J];exact N,rfl},{{(u),T},O.at λo e=>(W.2 _ (Ne.symm C)).trans e},λb hb=>(t b hb).1}
 done:=by intro X U hw V hc i r s σ H E I R j Q;subst U hw V;obtain⟨⟨f,m⟩,y⟩:=j;obtain⟨xs,J,N⟩:=Q;obtain⟨M,L,p,hz⟩:=I.list J;sleep 1;obtain⟨f0,f1,f2,f3,f4,f5⟩:=R g (by simp);sleep 2;have hl:=L.length;exact wpAny_pyNext_enum_end (I.ok.hd hc) m y p.isList (by simp;omega) λh' eb=>{rfl,I.turned (t':=s.toks) (λb o hb e=>eb b o hb e) f0 f1 f3 f4 f5}
 self:=λ_ _ _ _ _ j h=>by obtain⟨f,m⟩:=j.1;exact wpAny_pyIter_enum m h
section
variable {a c o:Expr}
def Xx(K:Fg)(d:TE):TI:=λb H R=>d b H λv a=>∃l c,v=.ref l/\nj K a l c/\R (h_ K l) a
def Pg{f:Lx}{u:Nat}{o:Pos}{m:TE}(C:Gl X "enumerate")(B:X.mg "enumerate"=Z)(D:PE X e m)(n:zr0 (starEach [e] X.env=[(false,eval e X.env)])):PI X (.Tuple f u o) (.Call (.Name "enumerate" p) [e] [] pos) (Xx X.K m):=by
 intro a s k H R I h;refine bA (ni I C B (by rfl) ?_);refine bF ?_ (by rw[n];rfl) (by rfl);rw[n];refine bT (iu (@D a s k H _ I h) ?_);rintro v c ⟨x,j,g,r,l,L,G,A,q⟩;refine cg ?_;subst G;cases r;obtain⟨y,N,t,O⟩:=g.list A;refine call_enumerate_list t.isList λE d i M w=>?_;refine wpAny_pyIter_enum d ?_;have J:c7 X a k j { c with heap:=E }:=g.kept (t':=c.toks) w;have F:∀b,(zB c)<=b->pj X a j b:=λb hb=>g.Hs hb (g.ip.fresh hb);exact{_,[(zB c)+1,(zB c)],_,_,j,rfl,J,H7 l _ _ (df (d9 _)),{{_,d},i},λb hb=>F b (by
  rcases ah.mp hb with z|hb
  .rw[z];exact fP _
  .rw[show b=(zB c) by simpa using hb];exact aH _),q}
def pF(a:Lp):Lp:=a.zipIdx.map λx=>.tuple [.int x.2,x.1]
def yy(f:aC->Od):aC->Option Lp:=λa=>(f a).bind λd=>match d with | .list ds=>Y (pF ds)|_=>Z
def Ia(h:(pF ds)[i]?=Y d):∃x,ds[i]?=Y x/\d=.tuple [.int (i:Nat),x]:=by
 unfold pF at h;rw[aM,List.getElem?_zipIdx] at h;cases q:ds[i]? with
 |none=>rw[q] at h;cases h
 |some x=>rw[q] at h;simp at h;exact{x,rfl,h.symm}
def Co{K:Fg}{c:Hp}{l:Addr}(b:nj K c l vs)(j:a9 K c ds vs):vB K (h_ K l) (pF ds) c:=λu a=>by
 have p:(pF ds).length=ds.length:=by simp[pF]
 refine{{vs,a.seq b,by rw[p,j.length];exact aH _},λi d q=>?_};obtain⟨x,r,rfl⟩:=Ia q;obtain⟨v,h,s⟩:=j.get r;refine{{vs,v,a.seq b,h},?_};rintro y t ⟨T,z,o,f,n,m⟩;have e:=n vs (a.seq b);rw[h] at e;cases e;subst o m;refine{iV f,λw k g=>bC.mu.mpr {T,_,rfl,pf.of (by rw[g T f];exact eB),a9.cons (bC.d5.mpr rfl) (a9.cons (s.same k) a9.nil)}}
end
end L2
namespace L2
open PySem PySem.Spec PyProof.Rows PySem.Builtin PySem.Builtin.Str
def i_(x:Str):It where
 go:=λi _=>i<x.cps.size
 V1:=λi H y a=>a=H/\∃c,x.cps[i]?=Y c/\y=.str {#[c]}
 stop:=λi _=>x.cps.size<=i
def Cp{P:Program}{K:Fg}{F:String}(p:F="str_ascii_iterator"\/F="str_iterator")(x:Str)(t:Tok)(m:Addr):Ht P w K tg (i_ x) [m] m (λi h=>h.IsStrIter m F x t i) where
 mem:=by simp
 obj:=λi h f b a=>by
  have e:b=m:=by simpa using a
  subst e;obtain⟨o,e,c,d⟩:=f;exact{o,e,λv z=>by rw[d] at z;cases z}
 keep:=λi h l f k=>by obtain⟨o,e,r⟩:=f;exact{o,k m (by simp) o e,r}
 item:=by
  intro X L hw M J i j s D H E I q f hg;subst L hw M;sleep 1;obtain⟨C,B,Q,A,y,u⟩:=q m (by simp);sleep 2;have n:x.cps[i]?=Y (x.cps[i]'hg):=Array.getElem?_eq_getElem hg;rcases p with rfl|rfl
  .refine wpAny_pyNext_ascii_item f n λl g G=>?_;have O:c7 X j D H { s with heap:=l,toks:=s.toks+1 }:=I.turned (t':=s.toks+1) (λb o a e=>(G.2 b a).trans e) C B A y u;obtain⟨o,e,c,d⟩:=id g;exact{_,rfl,BM (s:={ s with heap:=l,toks:=s.toks+1 }) e c d (by decide) {.str _,H,O,{_,rfl},{(rfl),_,n,rfl},g,λb a=>(q b a).1}}
  .refine wpAny_pyNext_wide_item f n λl g G=>?_;have O:c7 X j D H { s with heap:=l,toks:=s.toks+1 }:=I.turned (t':=s.toks+1) (λb o a e=>(G.2 b a).trans e) C B A y u;obtain⟨o,e,c,d⟩:=id g;exact{_,rfl,BM (s:={ s with heap:=l,toks:=s.toks+1 }) e c d (by decide) {.str _,H,O,{_,rfl},{(rfl),_,n,rfl},g,λb a=>(q b a).1}}
 done:=by
  intro X L hw M J i j s D H E I q f hg;subst L hw M;sleep 1;obtain⟨C,B,Q,A,y,u⟩:=q m (by simp);sleep 2;have n:x.cps[i]?=Z:=dm hg;rcases p with rfl|rfl
  .exact wpAny_pyNext_ascii_end (I.ok.hd J) f n λl N=>{rfl,I.turned (t':=s.toks) (λb o a e=>N b o a e) C B A y u}
  .exact wpAny_pyNext_wide_end (I.ok.hd J) f n λl N=>{rfl,I.turned (t':=s.toks) (λb o a e=>N b o a e) C B A y u}
 self:=λ_ _ _ _ _ f h=>by
  rcases p with rfl|rfl
  .exact wpAny_pyIter_striter_ascii f h
  .exact wpAny_pyIter_striter_wide f h
section
variable {a c o:Expr}
def Uv{g:TE}(k:PE X e g):PI X tg e (λσ H R=>g σ H λv d=>∃x,v=.str x/\R (i_ x) d):=by
 intro a s σ H R I h;refine iu (@k a s σ H _ I h) ?_;rintro v c ⟨y,d,f,j,x,m,q⟩;subst m;obtain⟨t,rfl⟩:=j;have i:∀b∈[(zB c)],pj X a d b:=λb l=>by rw[show b=(zB c) by simpa using l];exact f.Hs (aH _) (f.ip.fresh (aH _))
 cases ha:x.cps.all (·<128)
 .exact wpAny_pyIter_wide ha {_,[(zB c)],_,_,d,rfl,f.kept (t':=c.toks) λb o e=>af _ e,Cp (.inr rfl) x t _,{_,aG _ rfl,rfl,rfl},i,q}
 .exact wpAny_pyIter_ascii ha {_,[(zB c)],_,_,d,rfl,f.kept (t':=c.toks) λb o e=>af _ e,Cp (.inl rfl) x t _,{_,aG _ rfl,rfl,rfl},i,q}
def qO(x:Str):Lp:=x.cps.toList.map λc=>.str {#[c]}
def nY(f:aC->Od):aC->Option Lp:=λa=>(f a).bind λd=>match d with | .list ds=>Y ds | .tuple ds=>Y ds | .str x=>Y (qO x)|_=>Z
def Ep{K:Fg}(x:Str)(G:Hp):vB K (i_ x) (qO x) G:=λk h=>by
 have f:(qO x).length=x.cps.size:=by simp[qO]
 refine{by show x.cps.size<=_;rw[f];exact aH _,λi d q=>?_};have g:i<x.cps.size:=by have:=(aS.mp q).1;omega
 refine{g,?_};rintro y j ⟨e,c,b,a⟩;subst e a;have:d=.str {#[c]}:=by unfold qO at q;rw[aM,Array.getElem?_toList,b] at q;cases q;rfl
 subst this;exact{.refl _,λl _ _=>bC.eW.mpr rfl}
def KH(h:PD X e f):Uo X tg e (nY f) :=
 PI.imp (PI.or (OZ h) (Uv h)) <| by
  rintro o H R ⟨a,i,c,e,k⟩;obtain⟨d,g,b⟩:=bind_some e;cases d with
  |list l=>exact .inl {a,i,c,by show (f a).bind _=_;rw[g];exact b,k}
  |tuple l=>exact .inl {a,i,c,by show (f a).bind _=_;rw[g];exact b,k}
  |str x=>cases b;exact .inr {a,_,c,g,λv j m n=>{x,bC.eW.mp n,k _ j m (Ep x j)}}
  |_=>cases b
def KI{a:Lx}{q:Nat}{n:Pos}(t:Gl X "enumerate")(s:X.mg "enumerate"=Z)(h:PD X e f)(b:zr0 (starEach [e] X.env=[(false,eval e X.env)])):Uo X (.Tuple a q n) (.Call (.Name "enumerate" p) [e] [] pos) (yy f) :=
 PI.imp (Pg t s h b) <| by
  rintro y H R ⟨j,z,b,e,k⟩;obtain⟨d,w,i⟩:=bind_some e;obtain⟨c,rfl⟩:∃c,d=.list c:=by cases d<;>first|exact{_,rfl}|cases i
  cases i;refine{j,_,b,w,λv x o r=>?_};sleep 1;obtain⟨l,m,rfl,g,u⟩:=bC.fj.mp r;sleep 2;exact{l,m,rfl,g,k _ x o (Co g u)}
def lF:Lp->Od
 |[.dict jG]=>if gZ jG=true then Z else Y (.list (jG.map (·.1)))
 |ds=>F5 ds
def Ib{P:Program}{k:Key}{v:Value}(h:(gI P w).is k v=true):gg (kV k) v:=by
 rcases iD h with ⟨i,t,rfl,rfl⟩ | ⟨x,t,rfl,rfl⟩
 .exact{(t),rfl}
 .exact{(t),rfl}
theorem yz{K:Fg}{H c:Hp}:∀{a:List (fZ×fZ)}{b:List (Key×V)},gs K H a b->a9 K c (a.map (·.1)) (b.map λx=>kV x.1)
 |[],_,h=>by rw[gs.eL.mp h];exact a9.nil
 | (k,d)::r,_,h=>by
  sleep 1;obtain⟨y,v,e,rfl,rfl,i,t⟩:=gs.dv.mp h;sleep 2;refine a9.cons ?_ (yz t);cases y with
  |inl i=>exact bC.d5.mpr rfl
  |inr x=>exact bC.eW.mpr rfl
theorem yA{P:Program}{w:World}:∀{d:List (Key×V)}{c:List (Key×Value)}{its:Lw},KV d c->its.length=c.length->(∀(j:Nat) v,its[j]?=Y v->∃k x,c[j]?=Y (k,x)/\(gI P w).is k v=true)->fv (d.map λx=>kV x.1) its
 |_,_,its,.nil,hl,_=>by
  cases its with
  |nil=>exact .nil
  |cons _ _=>simp at hl
 |_,_,its,.cons (a:=p) (b:=q) h t,hl,hi=>by
  cases its with
  |nil=>simp at hl
  |cons u l=>
   obtain⟨k,x,i,g⟩:=hi 0 u rfl;have f:q=(k,x):=by simpa using i
   refine .cons ?_ (yA t (by simpa using hl) λj v e=>hi (j+1) v (by simpa using e));show gg (kV p.1) u;rw[h.1,f];exact Ib g
def KJ(F:X.calm=true):i6 X (.type "list") (λxs H Q=>∃l c,a9 X.K H l xs/\lF l=Y c/\KO X.K H c Q):=by
 have E:i6 X (.type "list") (λxs H Q=>∃b d p,xs=[V.ref p]/\Rd H p (.dK d)/\gs X.K H b d/\KO X.K H (.list (b.map (·.1))) Q):=by intro n s S H xs U Q I r h;sleep 1;obtain⟨b,d,p,rfl,C,A,k⟩:=h;sleep 2;obtain⟨u,rfl,t⟩:=rh r;cases t;sleep 1;obtain⟨z,G,T,f,N⟩:=rm I.ip C;sleep 2;refine vG (knd:=gI X.prog X.w) (I.ok.hd F) G N (by rw[<-f.length];exact z) λW q its O D g m y=>?_;have B:=yA (P:=X.prog) (w:=X.w) (its:=its.toList) f (by simpa using D) (λj v e=>g j v (by simpa using e));have R:=I.laid (a:=(zB s)) (o:=.lst (d.map λx=>kV x.1)) (t':=q) y (aH _) {by rw[ag];exact z,its.toList,O,B,by simpa using m};exact{.ref (zB s),_,R,rfl,k.xq (yz A) _ I.fresh}
 refine i6.imp (i6.or O0 E) ?_;rintro xs H Q ⟨l,c,i,e,k⟩;unfold lF at e;split at e
 .rename_i b;by_cases g:gZ b=true
  .rw[ai g] at e;cases e
  .rw[aq g] at e;cases e;obtain⟨v,rfl,J⟩:=ir i;sleep 1;obtain⟨p,d,rfl,M,L⟩:=J.rn (by simpa using g);sleep 2;exact .inr {(b),d,p,rfl,M,L,k}
 .exact .inl {(l),c,i,e,k}
def Ph(m:X.calm=true)(j:Gl X "list")(i:X.mg "list"=Z)(n:xh X (e::es) ff)(l:zr0 (zE e es X))(a:zr0 ((backTo pos (starEach es X.env)).any (·.1)=false)):
  PF X (.Call (.Name "list" p) (e::es) [] pos) (j5 lF ff) :=
 PE.imp (yf (KJ m) j i (by rfl) n (by decide) (by decide) l a) <| by rintro r H Q ⟨c,d,h,e,k⟩;obtain⟨b,q,o⟩:=bind_some e;exact{c,b,h,q,λs t f g=>{b,d,g,o,k.later f}}
def Xy(b a:Lp):Lp:=(b.zip a).map λp=>.tuple [p.1,p.2]
def Uw(x y:fZ):Od:=match x,y with
 |.list xs,.list a=>Y (.list (Xy xs a))
 |_,_=>Z
def c7.RO{a:Addr}{u:HO}(I:c7 X pins σ H s)(f:pj X pins H a)(g:iS X.prog X.w (upd H a u) s.heap a u):c7 X pins σ (upd H a u) s:=by
 sleep 1;obtain⟨j,k,_,h,l,i⟩:=f;sleep 2;have d:∀b v,H b=Y v->upd H a u b=Y v:=λb v e=>by rw[c8 (gz e j)];exact e
 have:=I.step (g':=s.gens) (d':=s.drawn) (t':=s.toks) (h':=s.heap) (H':=upd H a u) (ch:=[a]) (λb hb=>by rw[show b=a by simpa using hb];exact{(h),k,l,i}) (λb o _ _ _ e _=>e) (λb o _ _ _ e _=>{o.slots,e}) (λb o hc _ n=>by rw[c8 (λz=>hc (by simp[z]))];exact n)
  (λb o _ e=>{(o),e}) (λb xs e=>d b _ e) (λb o v e=>d b _ e) (λb ps e=>{#[],by rw[d b _ e];simp}) (λm hm=>hm) ?_ I.bare
 .exact this
 .intro b v e;by_cases hb:b=a
  .subst hb;rw[eB] at e;cases e;exact g
  .rw[c8 hb] at e;exact(I.ip b v e).q8 (λ_ _ _ q=>q) (λc q=>d c _ q) λc xs q=>d c _ q
def gg.uniq{x y:V}(a:gg x u)(b:gg y u):x=y:=by have c:=a.abs;rw[b.abs] at c;exact(bW c).symm
theorem Gh{b:Ax}{B:St}:∀(m:List (V×V)) (us:Lw) {H:Hp}{s:Shared},c7 X b B H s->us.length=m.length ->
  (∀(j:Nat) (v:Value) (p:V×V),us[j]?=Y v->m[j]?=Y p->∃T x y,v=.ref T/\IsPair s.heap T x y/\gg p.1 x/\gg p.2 y/\(pj X b H T\/∃d c l k,IsPair s.heap T d c/\gg l d/\gg k c/\H T=Y (.tup [l,k]))) ->
  ∃A z,dV H A/\c7 X b B A s/\fv z us/\(∀a,H a=Z->A a=Z\/.ref a∈us)/\∀(j:Nat) (p:V×V),m[j]?=Y p->∃T,z[j]?=Y (.ref T)/\A T=Y (.tup [p.1,p.2])
 |[],us,H,s,I,hl,_=>by
  cases us with
  |nil=>exact{H,[],.refl H,I,.nil,(λa h=>.inl h),λj p e=>by simp at e}
  |cons _ _=>simp at hl
 |p::m,us,H,s,I,hl,hi=>by
  cases us with
  |nil=>simp at hl
  |cons v us=>
   sleep 1;obtain⟨T,x,y,rfl,F,D,C,N⟩:=hi 0 v p rfl rfl;sleep 2;have first:∃i,dV H i/\c7 X b B i s/\i T=Y (.tup [p.1,p.2])/\∀a,a≠T->i a=H a:=by
    rcases N with f | ⟨d,c,l,k,E,q1,q2,hT⟩
    .refine{upd H T (.tup [p.1,p.2]),iV f.1,I.RO f {by show 2<=sizeLine;decide,[x,y],.cons D (.cons C .nil),_,F,rfl,0,rfl},eB,λa G=>c8 G}
    .have e:(#[d,c]:Array Value)=#[x,y]:=by
      have U:s.heap.get? T=Y { cls:=.type "tuple",data:=.seq #[d,c] }:=E;have g:s.heap.get? T=Y { cls:=.type "tuple",data:=.seq #[x,y] }:=F;rw[U] at g;injection g with g
      injection g with _ _ g _;injection g
     have e':[d,c]=[x,y]:=by simpa using bG Array.toList e
     injection e' with J t;injection t with t _;subst J t;rw[q1.uniq D,q2.uniq C] at hT;exact{H,.refl H,I,hT,λa _=>rfl}
   sleep 1;obtain⟨i,P,I1,hT,n⟩:=first;sleep 2
   obtain⟨H2,z,O,I2,S,W,M⟩:=Gh m us (H:=i) I1 (by simpa using hl) λj v q J t=>by
    sleep 1;obtain⟨w,d,c,a1,a2,a3,a4,u⟩:=hi (j+1) v q (by simpa using J) (by simpa using t);sleep 2;refine{w,d,c,a1,a2,a3,a4,?_};by_cases r:w=T
    .subst r;exact .inr {x,y,p.1,p.2,F,D,C,hT}
    .rcases u with f | ⟨R,Q,l,k,L,K,b3,b4⟩
     .exact .inl {by rw[n w r];exact f.1,f.2}
     .exact .inr {R,Q,l,k,L,K,b3,P _ _ b4}
   refine{H2,.ref T::z,P.trans O,I2,.cons rfl S,λa G=>?_,λj q e=>?_}
   .by_cases o:a=T
    .exact .inr (by simp[o])
    .rcases W a (by rw[n a o];exact G) with h|h
     .exact .inl h
     .exact .inr (ao _ h)
   .cases j with
    |zero=>simp at e;subst e;exact{T,rfl,O _ _ hT}
    |succ j=>obtain⟨w,L,K⟩:=M j q (by simpa using e);exact{w,by simpa using L,K}
theorem Er{m pz:Pos} (hc:X.calm=true) (hgl:Gl X "list") (hml:X.mg "list"=Z) (hgz:Gl X "zip") (hmz:X.mg "zip"=Z) (ha:PD X a fa) (hb:PD X b fb)
  (s1:zr0 (starEach [.Call (.Name "zip" pz) [a,b] [] m] X.env=[(false,eval (.Call (.Name "zip" pz) [a,b] [] m) X.env)])) (s2:zr0 (starEach [a,b] X.env=[(false,eval a X.env),(false,eval b X.env)])) (s3:zr0 (starEach [b] X.env=[(false,eval b X.env)])):
  PF X (.Call (.Name "list" p) [.Call (.Name "zip" pz) [a,b] [] m] [] pos) (d2 Uw fa fb):=by
 intro c s σ H Q I ⟨ρ,d,hs,e,k⟩;obtain⟨x,e1,q1⟩:=bind_some e;obtain⟨y,e2,q2⟩:=bind_some q1;obtain⟨xs,rfl⟩:∃xs,x=.list xs:=by cases x<;>first|exact{_,rfl}|(cases y<;>cases q2)
 obtain⟨ys,rfl⟩:∃ys,y=.list ys:=by cases y<;>first|exact{_,rfl}|cases q2
 cases q2;refine bA (ni I hgl hml (by rfl) ?_);refine bF ?_ (by rw[s1];rfl) (by rfl);rw[s1];refine bT ?_;refine bA (ni I hgz hmz (by rfl) ?_);refine bF ?_ (by rw[s2,s3]) (by rw[s3];rfl);rw[s2];refine bT (iu (@ha c s σ H (λv H1=>dV H H1/\bC X.K H1 (.list xs) v) I {ρ,_,hs,e1,λv H1 sH i=>{(sH),i}}) ?_);rintro u1 t1 ⟨v1,H1,I1,r1,sH1,i1⟩;refine bT (iu (@hb c t1 σ H1 (λv J=>dV H1 J/\bC X.K J (.list ys) v) I1 {ρ,_,hs.same sH1,e2,λv J sH i=>{(sH),i}}) ?_);rintro u2 l ⟨v2,J,W,r2,sH2,i2⟩;refine cg ?_;sleep 1;obtain⟨l1,M,rfl,sq1,Ub⟩:=bC.fj.mp (i1.same sH2);sleep 2;sleep 1;obtain⟨l2,L,rfl,sq2,id2⟩:=bC.fj.mp i2;sleep 2;cases r1;cases r2;obtain⟨G,S,B,z1⟩:=W.list sq1;obtain⟨F,rv2,A,z2⟩:=W.list sq2;have b1:l1<(zB l):=by obtain⟨o,n,e,_⟩:=B;exact au e
 have b2:l2<(zB l):=by obtain⟨o,n,e,_⟩:=A;exact au e
 have fr:∀j,(zB l)<=j->l.heap.get? j=Z:=λj hj=>by
  cases q:l.heap.get? j with
  |none=>rfl
  |some o=>exact absurd (aJ (au q) hj) (bh _)
 have hn:min G.toArray.size F.toArray.size<=sizeLine:=by rw[aB,aB,<-S.length];omega
 refine call_zip_2 B.isList A.isList λh' hz hTI hTO j1 j2 sz kp=>cg ?_;refine xx l.heap (W.ok.hd hc) (zipApart_new b1 b2) {fr _ (cE _ _),fr _ (aH _),fr _ (cE _ _)} (fr _ (cE _ _)) {by obtain⟨o,_,e,_⟩:=B;exact{(o),e},by obtain⟨o,_,e,_⟩:=A;exact{(o),e}} hn (by show _<=h'.objs.size;rw[sz];exact cE _ _) hz hTI hTO j1 j2 (Heap.IsList.at B.isList λo e=>kp _ _ e) (Heap.IsList.at A.isList λo e=>kp _ _ e) kp λh2 U cc z D C kp2=>?_;have I3:c7 X c σ J { l with heap:=h2 }:=W.kept (t':=l.toks) kp2;have E:U.toList.length=(M.zip L).length:=by rw[List.length_zip,S.length,rv2.length,cX,z,aB,aB]
 have h:∀b,(zB l)<=b->pj X c J b:=λb hb=>W.Hs hb (W.ip.fresh hb);obtain⟨H3,rs,P,I4,R,tZ,at3⟩:=Gh (M.zip L) U.toList I3 E λj v q g1 g2=>by
  sleep 1;obtain⟨T,x,y,O,t2',t3',t4',N⟩:=D j v (by simpa using g1);sleep 2;obtain⟨w1,w2⟩:=q;obtain⟨g3,g4⟩:=List.getElem?_zip_eq_some.mp g2;obtain⟨x',gx,rx⟩:=S.get g3;obtain⟨y',gy,ry⟩:=rv2.get g4;have ex:x'=x:=by have:G.toArray[j]?=Y x:=t2';rw[List.getElem?_toArray,gx] at this;cases this;rfl
  have ey:y'=y:=by have:F.toArray[j]?=Y y:=t3';rw[List.getElem?_toArray,gy] at this;cases this;rfl
  subst ex ey;exact{T,x',y',O,t4',rx,ry,.inl (h T (by have:h'.objs.size<T:=N;rw[sz] at this;exact bJ (cE _ _) (dO this)))}
 have w:H3 h'.objs.size=Z:=by
  rcases tZ h'.objs.size (W.ip.fresh (by rw[sz];exact cE _ _)) with g|g
  .exact g
  .obtain⟨j,gj⟩:=List.mem_iff_getElem?.mp g;sleep 1;obtain⟨T,x,y,O,_,_,_,N⟩:=D j _ (by simpa using gj);sleep 2;cases O;exact absurd N (bh _)
 have fS:pj X c H3 h'.objs.size:={w,(h _ (by rw[sz];exact cE _ _)).2}
 have rl:rs.length<=sizeLine:=by rw[R.length,cX,z];exact hn
 have I5:=I4.RO fS (u:=.lst rs) {rl,U.toList,cc,R,by simpa using C};refine{.ref h'.objs.size,_,I5,rfl,?_};refine(k.later (sH1.trans (sH2.trans P))).xq ?_ _ w;have go:∀(t f:Lp) (a1 a2:List V) (rr:List V),a9 X.K J t a1->a9 X.K J f a2->rr.length=(a1.zip a2).length->(∀(j:Nat) (q:V×V),(a1.zip a2)[j]?=Y q->∃T,rr[j]?=Y (.ref T)/\H3 T=Y (.tup [q.1,q.2]))->a9 X.K H3 (Xy t f) rr:=by
  intro t;induction t with
  |nil=>
   intro f a1 a2 rr h1 h2 z _;rw[a9.eL.mp h1] at z;have:rr=[]:=by simpa using z
   subst this;exact a9.nil
  |cons d1 t ih=>
   intro f a1 a2 rr h1 h2 z C;sleep 1;obtain⟨w1,a1',rfl,g1,g2⟩:=a9.dv.mp h1;sleep 2;cases f with
   |nil=>
    rw[a9.eL.mp h2] at z;have:rr=[]:=by simpa using z
    subst this;exact a9.nil
   |cons d2 f=>
    sleep 1;obtain⟨w2,a2',rfl,g3,g4⟩:=a9.dv.mp h2;sleep 2;cases rr with
    |nil=>simp at z
    |cons r rr=>
     obtain⟨T,t1,l⟩:=C 0 (w1,w2) rfl;have er:r=.ref T:=by simpa using t1
     subst er;refine a9.cons (bC.mu.mpr {T,_,rfl,pf.of l,a9.cons (g1.same P) (a9.cons (g3.same P) a9.nil)}) (ih f a1' a2' rr g2 g4 (by simpa using z) λj q e=>?_);obtain⟨T',u1,u2⟩:=C (j+1) q (by simpa using e);exact{T',by simpa using u1,u2}
 exact go xs ys M L rs Ub id2 (by rw[R.length];exact E) at3
end
end L2
namespace PySem
open Builtin
def nZ:entryFor table "set.update.loop"=Y Builtin.«set.update.loop»:=entryFor_of_tree (zK 0)
def lG:plainId "set.update.loop"=true:=by decide +kernel
section
variable {prog:Program}{K:Type} [DecidableEq K] {knd:KeyKind prog w K}
def qP(a:List K)(k:K):List K:=if k∈a then a else a++[k]
def l5(a b:List K):List K:=b.foldl qP a
def Cq(a:List K)(k:K):(qP a k).length<=a.length+1:=by unfold qP;split<;>simp
inductive tf (knd:KeyKind prog w K):Lw->List K->Prop
 |nil:tf knd [] []
 |cons {v:Value}{k:K}{vs:Lw}{ks:List K}:knd.is k v=true->v.scannable=true->tf knd vs ks->tf knd (v::vs) (k::ks)
theorem vH{D I l:Addr}{a:Array Value}{R:Result->Shared->Prop}(hh:A.in1.handled=Z)(d:D≠I)(c:Heap)(F:c.get? D=Z)(u:c.get? I=Z):
  ∀(B:Lw) (ks:List K) (i:Nat) (s:Shared) (acc:List K),a.toList.drop i=B->tf knd B ks->(∀b o,c.get? b=Y o->s.heap.get? b=Y o)->s.heap.IsListIter I l i->s.heap.IsList l a->s.heap.SetOf knd D (λk=>decide (k∈acc)) acc.length->acc.length+ks.length+1<scanBound ->
  (∀j N,j.SetOf knd D (λk=>decide (k∈l5 acc ks)) (l5 acc ks).length->(∀b o,c.get? b=Y o->j.get? b=Y o)->R (.ok (.ret .none)) { s with heap:=j,toks:=N }) ->
  codeAny (model prog w) A (.builtin "set.update.loop" {[.ref D,.ref I],[]}) R s
 |[],_,i,s,acc,hv,C,h0,H,G,hd,hz,V=>by
  cases C;refine cL nZ ?_;rw[cw lG _];show wpAny _ A.in1 (pyNext (.ref I)>>=_) _ _ s;have hn:a[i]?=Z:=by have:=List.drop_eq_nil_iff.mp hv;exact dm (by simpa using this)
  refine aa (dZ hh H G hn λj eb=>?_);show wpAny _ A.in1 (ret Value.none) _ _ _;refine ak ?_;sleep 1;obtain⟨o,L,M,t,x,r⟩:=hd;sleep 2;exact V j s.toks {o,L,M,t,eb _ _ d x,r} λb o e=>eb b o (λz=>by rw[z,u] at e;cases e) (h0 b o e)
 |v::B,_,i,s,acc,hv,C,h0,H,G,hd,hz,V=>by
  cases C with
  |@cons _ k _ ks hk P C=>
   refine cL nZ ?_;rw[cw lG _];show wpAny _ A.in1 (pyNext (.ref I)>>=_) _ _ s;have Q:i<a.size:=by have:=bG List.length hv;simp at this;omega
   have hx:a[i]?=Y v:=by have:=bG (·[0]?) hv;simpa using this
   have O:a.toList.drop (i+1)=B:=by
    have e:=cI (l:=a.toList) (i:=i) (by simpa using Q);rw[hv] at e;injection e with _ f
    exact f.symm
   refine aa (dP H G hx λj X sb=>?_);have U:j.SetOf knd D (λk=>decide (k∈acc)) acc.length:=by sleep 1;obtain⟨o,L,M,t,x,r⟩:=id hd;sleep 2;exact{o,L,M,t,(sb.2 _ d).trans x,r}
   have nI:∀b o y n,s.heap.get? b=Y o->o.data=.seq y n->b≠I:=λb o y n g f z=>by subst z;obtain⟨oi,ei,ci,di⟩:=H;rw[g] at ei;cases ei;rw[f] at di;cases di
   have nD:∀b o y n,s.heap.get? b=Y o->o.data=.seq y n->b≠D:=λb o y n g f z=>by subst z;sleep 1;obtain⟨o',L,M,t,x,_,E,_⟩:=hd;sleep 2;rw[g] at x;cases x;rw[f] at E;cases E
   show wpAny _ A.in1 (holding [v] (setAdd D v)>>=_) _ _ _;refine aa (bp ?_);unfold setAdd;refine bp (aa (knd.pyHash hk ?_));simp only[ax] at hz;refine wpAny_setAddHashed_of (knd:=knd) (s:={ s with heap:=j,toks:=s.toks+1 }) hk P U (by omega) λJ m T=>?_;have p:J.SetOf knd D (λh=>decide (h∈qP acc k)) (qP acc k).length:=by
    have g:(λh=>decide (h∈acc)||decide (h=k))=λh=>decide (h∈qP acc k):=by
     funext h
     unfold qP;by_cases q:k∈acc
     .rw[ai q];by_cases q2:h=k
      .subst q2;simp[q]
      .simp[q2]
     .rw[aq q];simp
    have f:(if decide (k∈acc)=true then acc.length else acc.length+1)=(qP acc k).length:=by
     unfold qP;by_cases q:k∈acc
     .simp[q]
     .simp[q]
    rw[<-g,<-f];exact T
   refine ak {dw lG _,?_};have S:J.IsList l a:=by sleep 1;obtain⟨o,g,f,n,e3⟩:=G;sleep 2;exact{o,(m.2 _ (nD _ _ _ _ g e3)).trans ((sb.2 _ (nI _ _ _ _ g e3)).trans g),f,n,e3}
   have W:J.IsListIter I l (i+1):=X.at λo e=>(m.2 _ (Ne.symm d)).trans e;refine vH hh d c F u B ks (i+1) { s with heap:=J,toks:=s.toks+1 } (qP acc k) O C (λb o e=>?_) W S p ?_ λh3 N p k3=>V h3 N p k3
   .have b1:b≠I:=λz=>by rw[z,u] at e;cases e
    have b2:b≠D:=λz=>by rw[z,F] at e;cases e
    exact(m.2 b b2).trans ((sb.2 b b1).trans (h0 b o e))
   .have:=Cq acc k;omega
theorem xy{l:Addr}{o:Obj}{p:List K}{Q:Px} (V:A.handled=Z) (S:s.heap.get? l=Y o) (I:o.cls=.type "list") (g:o.data=.seq items n)
  (T:tf knd items.toList p) (C:p.length+1<scanBound)
  (h:∀h' tk,h'.SetOf knd (zB s) (λk=>decide (k∈l5 [] p)) (l5 [] p).length->(∀b o,s.heap.get? b=Y o->h'.get? b=Y o)->Q (.ref (zB s)) { s with heap:=h',toks:=tk }):
  wpAny (model prog w) A (call (.type "set") [.ref l]) Q E s:=by
 obtain⟨oc,O,N,y⟩:=o;simp only at I g;subst I g;have w1:=F.called_set.made;have w2:=F.called_set.sub;have w3:=F.called_set.notType;have w4:=F.called_set.canCreate;have w5:=F.typeCall_set_1 (.ref l);obtain⟨mc,mt,w6⟩:=F.called_set.mro;refine wpAny_call (codeAny_of_tree ?_);show wpAny _ _ (callAny (.type "set") _) _ _ _;refine ak {Code.quiet_builtin _ (by decide +kernel),cL F.entry_type_call ?_};rw[Around.under_plain (weight_type_call_type "set" [.ref l] []) rfl]
 repeat (any_goals (first|assumption|wp_step))
 refine cO (code_set_new_1 (.ref l) (E:=E) (Q₁:=λv t=>∃a:Bool,v=.ref (zB s)/\t={ s with heap:=s.heap.push { cls:=.type "set",dict:=Z,data:=.set #[] 0 (.fresh 0 0 a) } }) λa=>{(a),rfl,rfl}) λM t1 d=>?_
 match M,d with
 |.error e,d=>exact d
 |.ok .next,d=>exact d.elim
 |.ok .brk,d=>exact d.elim
 |.ok .cont,d=>exact d.elim
 |.ok (.ret v),⟨a,e1,e2⟩=>
  subst e1 e2;have u:(s.heap.push { cls:=.type "set",dict:=Z,data:=.set #[] 0 (.fresh 0 0 a) }).get? (zB s)=Y { cls:=.type "set",dict:=Z,data:=.set #[] 0 (.fresh 0 0 a) }:=aG _ rfl;have G:(s.heap.push { cls:=.type "set",dict:=Z,data:=.set #[] 0 (.fresh 0 0 a) }).get? l=Y { cls:=.type "list",dict:=O,data:=.seq items n,slots:=y }:=af _ S;have J:Shared.TypeIs { s with heap:=s.heap.push { cls:=.type "set",dict:=Z,data:=.set #[] 0 (.fresh 0 0 a) } } (.ref (zB s)) "set":={_,u,rfl}
  have X:=F.called_set.init.lookup;have W:=F.called_set.init.bind (.ref (zB s))
  repeat (any_goals (first|assumption|wp_step))
  refine cO (codeAny_call_builtin (R:=wants (λr t=>r=.none/\∃h' tk,t={ s with heap:=h',toks:=tk }/\h'.SetOf knd (zB s) (λk=>decide (k∈l5 [] p)) (l5 [] p).length/\∀b o,s.heap.get? b=Y o->h'.get? b=Y o) E) F.called_set.init.plain F.entry_set_init (check_set_init_1 J ?_)) λL t2 c=>?_
  .have v1:=F.sub_list_set;have v2:=F.sub_list_frozenset;have v3:(Value.type "list"==Value.type "dict")=false:=by decide
   have H:(s.heap.push { cls:=.type "set",dict:=Z,data:=.set #[] 0 (.fresh 0 0 a) }).IsList l items:={_,G,rfl,n,rfl}
   unfold Builtin.«set.__init__» noKeywords Builtin.Frozenset.updateFrom;generalize m:pyIter=walk
   wp_walk
   subst m;refine dQ H (aa (wpAny_runValue ?_));have x:(zB s)<(s.heap.push { cls:=.type "set",dict:=Z,data:=.set #[] 0 (.fresh 0 0 a) }).objs.size:=au u;have i:∀j,(zB s)<=j->s.heap.get? j=Z:=λj U=>by
    cases q:s.heap.get? j with
    |none=>rfl
    |some z=>exact absurd (aJ (au q) U) (bh _)
   have B:∀b o,s.heap.get? b=Y o->((s.heap.push { cls:=.type "set",dict:=Z,data:=.set #[] 0 (.fresh 0 0 a) }).push { cls:=.type "list_iterator",data:=.fields #[.ref l,.int 0 0] }).get? b=Y o:=λb o e=>af _ (af _ e);have f:((s.heap.push { cls:=.type "set",dict:=Z,data:=.set #[] 0 (.fresh 0 0 a) }).push { cls:=.type "list_iterator",data:=.fields #[.ref l,.int 0 0] }).SetOf knd (zB s) (λk=>decide (k∈([]:List K))) ([]:List K).length :=
    (funext λk=>by simp:(λ_:K=>false)=λk=>decide (k∈([]:List K)))▸(PyProof.Rows.setObjOf_fresh (knd:=knd) a).setOf (af _ u) (by unfold scanBound;omega)
   refine vH (knd:=knd) (show A.in1.in1.in1.handled=Z from V) (aR x) s.heap (i _ (aH _)) (i _ (dO x)) items.toList p 0 _ [] rfl T B {_,aG _ rfl,rfl,rfl} (H.push _) f (by simpa using C) λh' tk D P=>?_;show wpAny _ _ _ _ _ _;refine ak ?_;show wpAny _ _ (ret Value.none) _ _ _;exact ak {(rfl),h',tk,rfl,D,P}
  .match L,c with
   |.error e,c=>exact c
   |.ok .next,c=>exact c.elim
   |.ok .brk,c=>exact c.elim
   |.ok .cont,c=>exact c.elim
   |.ok (.ret v),⟨e3,h',tk,e4,D,B⟩=>
    subst e3 e4
    repeat (any_goals (first|assumption|wp_step))
    exact h _ _ D B
end
end PySem
namespace L2
open PySem PySem.Spec PyProof.Rows PySem.Builtin PySem.Builtin.Str
def qQ:Lp->Option (List Key)
 |[]=>Y []
 |d::r=>(rA d).bind λk=>(qQ r).map (k::·)
theorem Gi{P:Program}{w:World}{K:Fg}{H:Hp}:∀{f:Lp}{c:List Key}{b:List V}{g:Lw},qQ f=Y c->a9 K H f b->fv b g->tf (gI P w) g c
 |[],_,_,_,e,i,r=>by cases e;rw[a9.eL.mp i] at r;cases r;exact .nil
 |d::f,_,_,_,e,i,r=>by
  obtain⟨k,o,n⟩:=bind_some e;obtain⟨c,m,rfl⟩:=aj.mp n;sleep 1;obtain⟨v,b,rfl,l,j⟩:=a9.dv.mp i;sleep 2;cases r with
  |cons a h=>
   have:=jb o;subst this;rw[jT l] at a;refine .cons (pB a) ?_ (Gi m j h);cases k with
   |inl i=>obtain⟨t,rfl⟩:=a;rfl
   |inr x=>obtain⟨t,rfl⟩:=a;rfl
section
variable {a c o:Expr}
def Ar(f:aC->Od):aC->Od:=λb=>(f b).bind λd=>match d with
 |.list ds=>(qQ ds).bind λa=>if a.length+1<4096 then Y (.int (l5 [] a).length) else Z
 |_=>Z
theorem yB{K:Type}[DecidableEq K]:∀(b a:List K),(l5 a b).length<=a.length+b.length
 |[],a=>by simp[l5]
 |k::b,a=>by have d:=yB b (qP a k);have c:=Cq a k;rw[show l5 a (k::b)=l5 (qP a k) b from rfl,ax];omega
theorem Ic{a r:Pos} (hc:X.calm=true) (D:Gl X "len") (A:X.mg "len"=Z) (C:Gl X "set") (z:X.mg "set"=Z) (ha:PD X e f)
  (L:zr0 (starEach [.Call (.Name "set" r) [e] [] a] X.env=[(false,eval (.Call (.Name "set" r) [e] [] a) X.env)])) (J:zr0 (starEach [e] X.env=[(false,eval e X.env)])):
  PD X (.Call (.Name "len" p) [.Call (.Name "set" r) [e] [] a] [] pos) (Ar f):=by
 intro g s N H Q I ⟨O,d,hs,e,k⟩;obtain⟨x,e1,M⟩:=bind_some e;obtain⟨j,rfl⟩:∃j,x=.list j:=by cases x<;>first|exact{_,rfl}|cases M
 obtain⟨c,e2,m⟩:=bind_some (show (qQ j).bind (λc=>if c.length+1<4096 then Y (fZ.int (l5 [] c).length) else Z)=Y d from M);by_cases y:c.length+1<4096
 .rw[ai y] at m;cases m;refine bA (ni I D A PySem.boot_len ?_);refine da ?_ (by rw[L];rfl) (by rfl);rw[L];refine bT ?_;refine bA (ni I C z (by rfl) ?_);refine bF ?_ (by rw[J];rfl) (by rfl);rw[J];refine bT (iu (@ha g s N H (λv H1=>dV H H1/\bC X.K H1 (.list j) v) I {O,_,hs,e1,λv H1 S i=>{(S),i}}) ?_);rintro u1 t1 ⟨v1,H1,G,U,q,i1⟩;refine cg ?_;sleep 1;obtain⟨l,ws,rfl,R,u⟩:=bC.fj.mp i1;sleep 2;cases U;sleep 1;obtain⟨W,T,⟨o,n,ho,E,_,h⟩,z1⟩:=G.list R;sleep 2;refine xy (knd:=gI X.prog X.w) (G.ok.hd hc) ho E h (by simpa using Gi e2 u T) (by unfold scanBound;exact y) λh' P hd V=>cg ?_;sleep 1;obtain⟨o',F,ep,t,g1,g2,g3,g4,g5,g6,g7,g8⟩:=hd;sleep 2;have b:F.size=(l5 [] c).length:=g8;have B:=yB c ([]:List Key);refine call_len_set g1 g2 g3 g7 (by rw[b];simp at B;omega) ?_;rw[b];exact{.int _,H1,(G.kept (t':=P) V).tok _,{_,rfl},(k.later q).here (bC.d5.mpr rfl)}
 .rw[aq y] at m;cases m
def KL(I:c7 X pins σ H s){x:fZ}(h:SeqAt.shaped x=true)(m:bC X.K H x v)(k:gg v u)(z:A.units+x.depth<cLine):
  ∃e:Value->Bool,∀(d:fZ) (w:V) (y:Value),SeqAt.shaped d=true->bC X.K H d w->gg w y->SeqAt.EqAt A s y u (e y)/\e y=fZ.eqv d x:=by
 obtain⟨t,j⟩:=I.oq (aZ h) m k;refine{λy=>@decide (∃d a,Reads s.heap y d a/\SeqAt.shaped d=true/\fZ.eqv d x=true) (Classical.propDecidable _),λd w y b n c=>?_};obtain⟨a,f⟩:=I.oq (aZ b) n c;have i:@decide (∃d a,Reads s.heap y d a/\SeqAt.shaped d=true/\fZ.eqv d x=true) (Classical.propDecidable _)=fZ.eqv d x:=by
  cases q:fZ.eqv d x with
  |true=>exact @decide_eq_true _ (Classical.propDecidable _) {(d),a,f,b,q}
  |false=>refine @decide_eq_false _ (Classical.propDecidable _) ?_;rintro⟨p,r,l,o,g⟩;have:=SeqAt.Reads.unique d p y _ _ (aZ b) f l;subst this;rw[q] at g;cases g
 refine{?_,i};show SeqAt.EqAt A s y u (@decide _ (Classical.propDecidable _));rw[i];refine SeqAt.eqAt_reads d x A s _ _ a t f j (aZ b) (aZ h) ?_;have:min d.depth x.depth<=x.depth:=fA _ _;omega
theorem KN(hu:X.A.units+64<cLine):Rz X "list.index" (λx vs H Q=>∃d J c,bC X.K H d x/\a9 X.K H J vs/\vF d J=Y c/\KD X.K H c Q):=by
 intro O s σ H v vs u us Q I rx rv h;sleep 1;obtain⟨d,J,cc,i1,i2,e,k⟩:=h;sleep 2;unfold vF at e;split at e
 .rename_i r x;by_cases l:SeqAt.shaped x=true/\r.all SeqAt.shaped=true/\x.depth<=60/\r.length<=sizeLine
  .rw[ai l] at e;obtain⟨j,e1,rfl⟩:=aj.mp e;sleep 1;obtain⟨h1,V,⟨dj,U,h4⟩,T⟩:=rG e1;sleep 2;simp only[Nat.sub_zero] at V U T;sleep 1;obtain⟨p,w,rfl,sq,P⟩:=bC.fj.mp i1;sleep 2;cases rx;obtain⟨v2,rfl,i3⟩:=ir i2;obtain⟨N,rfl,B⟩:=rv.one;sleep 1;obtain⟨a,f,⟨⟨cls,dd,W,sl⟩,n,R,S,Z',q⟩,z1⟩:=I.list sq;sleep 2;simp only at S q;subst S q;obtain⟨G,he⟩:=KL I (A:=X.A.in1) l.1 i3 B (by show X.A.units+1+x.depth<cLine;omega);have sh:∀d∈r,SeqAt.shaped d=true:=aI.mp l.2.1;have b:∀(i:Nat) (y:Value),a[i]?=Y y->∃d,r[i]?=Y d/\SeqAt.EqAt X.A.in1 s y N (G y)/\G y=fZ.eqv d x:=λi y t=>by
    have E:i<w.length:=by rw[f.length];exact(aS.mp t).1
    have hw:w[i]?=Y w[i]:=aN E;obtain⟨y',o,z⟩:=f.get hw;rw[t] at o;cases o;obtain⟨d,q,C⟩:=P.get' hw;obtain⟨g,M⟩:=he d _ y (sh d (bU q)) C z;exact{(d),q,g,M}
   have hj:j<a.toArray.size:=by rw[aB,<-f.length,<-P.length];exact V
   refine cW F.slot_list_index {_,R,rfl} F.entry_list_index (F.args_list_index_2 _ _) (SeqAt.list_indexAt p a.toArray n dd sl N G j hj ?_ ?_ ?_) {R,λy t=>?_,?_}
   .have h6:=l.2.2.2;have h7:sizeLine<2 ^ 62:=by decide
    omega
   .obtain⟨d,g,_,L⟩:=b j (a.toArray[j]) (by simp);rw[U] at g;cases g;rw[L];exact h4
   .intro m hm D;obtain⟨d,g,_,L⟩:=b m (a.toArray[m]) (by simp);rw[L];exact T m d D g
   .obtain⟨i,hi⟩:=List.mem_iff_getElem?.mp (show y∈a by simpa using t);obtain⟨d,_,M,_⟩:=b i y hi;exact M
   .exact{.int _,H,I.tok _,{_,rfl},k.here (bC.d5.mpr rfl)}
  .rw[aq l] at e;cases e
 .cases e
def KP(g:fZ->Lp->Od)(f:aC->Od)(b:aC->Option Lp):aC->Od:=λa=>(f a).bind λd=>(b a).bind λc=>match d with | .list z=>g (.list z) c|_=>Z
def Ux{a:Str}{n:String}{g:fZ->Lp->Od} (j:Slot "list" a n) (q:typeOf (.builtin n)=pure (.type "method_descriptor")) (D:Rz X n (λx vs H Q=>∃d ds c,bC X.K H d x/\a9 X.K H ds vs/\g d ds=Y c/\KD X.K H c Q)) (C:PD X o f) (E:xh X (e::es) ff)
  (i:zr0 (attributeBase o a X.env (eval o X.env)=eval o X.env))
  (l:((backTo gv (starEach (e::es) X.env)).all (λx=>!x.1)&&(backToKw gv (keywordEach [] X.env)).all (λx=>x.1.isSome)
  &&decide ((e::es).length+([]:List Keyword).length+(if ([]:List Keyword).isEmpty then 0 else 1)<30))=true:=by rfl)
  (h:zr0 ((apos.endLine==gv.line)=true)) (m:zr0 (zE e es X)) (b:zr0 ((backTo gv (starEach es X.env)).any (·.1)=false)):
  PD X (.Call (.Attribute o a apos) (e::es) [] gv) (KP g f ff) :=
 PE.imp (yg cy j q D C E i l h m b) <| by
  rintro J H Q ⟨r,d,m,e,k⟩;obtain⟨x,I,G⟩:=bind_some e;obtain⟨ds,F,w⟩:=bind_some G;obtain⟨z,rfl⟩:∃z,x=.list z:=by cases x<;>first|exact{_,rfl}|cases w
  refine{r,_,m,I,λv N t u=>?_};sleep 1;obtain⟨p,vs,rfl,A,L⟩:=bC.fj.mp u;sleep 2;exact{.inl {(rfl),vs,A},r,ds,m.same t,F,λy M s B=>{_,ds,d,u.same s,B,w,k.later (t.trans s)}}
end
end L2
namespace L2
open PySem PySem.Spec PyProof.Rows
section
def vI(g:aC->Option Bool)(f:aC->Od)(e:aC):Lp->Option Lp
 |[]=>Y []
 |d::ds=>match d with
  |.tuple [a,b]=>(g (Y a::Y b::e)).bind λc=>if c then (f (Y a::Y b::e)).bind λy=>(vI g f e ds).bind λh=>Y (y::h) else vI g f e ds
  |_=>Z
def vJ(q:aC->Option Lp)(a:List (Nat×Str))(g:aC->Option Bool)(f:aC->Od):aC->Od:=λb=>
 (q b).bind λc=>if c.length<=sizeLine then (vI g f (mw a b) c).map .list else Z
def KQ{l:Expr}{a:Str}{n b o:Pos}{r:Nat}{i:Lx}{g:aC->Option Bool}
  (y:X.calm=true) (S:jM scope x) (t:scope.names.lookup a=Y .local) (m:∀p∈scope.names,p.2=.free->∃c,X.env.cells.lookup p.1=Y c) (k:kF X scope caps) (j:(x::a::caps.map (·.2)).Nodup)
  (v:F7 X (.Tuple [.Name x n,.Name a b] r o) iter q)
  (u:∀C s H fp,uH (kL X scope C (x::a::caps.map (·.2)) s H fp) i g)
  (w:∀C s H fp,PD (kL X scope C (x::a::caps.map (·.2)) s H fp) l f):HP X (.ListComp l [{.Tuple [.Name x n,.Name a b] r o,iter,i,0}] scope pos) scope iter (tD X.K (vJ q caps g f)):=
 (B7 (bd:=OE 2 (JW (F6 0) (JW (F6 1) Xc))) (λ_ G ds vs=>a9 X.K G ds vs) a9.length (λh s=>h.same s) [x,a] (vI g f) y S m k v (λC s H fp=>OF rfl (ym (vq 0 j rfl (.inl (cv S.var)) (.inr (cv S.var))) (ym (vq 1 j rfl (.inl (cv t)) (.inr (cv t))) JX))) u (λC s H fp=>F9 (w C s H fp) rfl) yo (λ_ _ e=>by cases e;rfl) λc d ds B h=>by
  unfold vI at h;split at h
  .obtain⟨z,A,e⟩:=bind_some h;exact{[Y _,Y _],z,rfl,rfl,A,F8 e}
  .cases h).data
def HP.pe2{e:Expr}{j:Str}{k b l:Pos}{n:Nat}{d:Lx}{t:TE} (h:HP X (.ListComp e [{.Tuple [.Name x k,.Name j b] n l,iter,d,0}] scope pos) scope iter t) (S:jM scope x) (g:∀p∈scope.names,p.2=.free->∃c,X.env.cells.lookup p.1=Y c)
  (r:zr 2 (∀x,foldedSetIterable iter X.env x=pure x)):PE X (.ListComp e [{.Tuple [.Name x k,.Name j b] n l,iter,d,0}] scope pos) t:=by
 intro a s i H Q I y;rw[eval_ListComp];refine dJ (use:=Z) rfl r (nq g) S.kind S.loc (@h a s i H Q (compPost (model X.prog X.w) X.A X.xe Z (EP X a i Q)) I y ?_);intro D C E B F m z v u o q;exact{m,v,λG f=>{.ref D,B,z.vu u o f,rfl,q}}
end
section
variable {a c:Expr}{rest:Lx}
def Xz(d:fZ):Option Bool:=match d with | .bool b=>Y b|_=>Z
def rJ(f g:aC->Od):aC->Od:=λa=>(f a).bind λd=>(Xz d).bind λb=>if b then g a else Y (.bool false)
def KS{b:Bool}(h:Xz d=Y b):d=.bool b:=by cases d<;>first|(cases h;rfl)|cases h
def Pj{b:BoolOp}(h:PD X a f):PD X (.BoolOp b [a] pos) f:=S5 h
def Pk(l:PD X a fa)(j:PD X (.BoolOp .And (b::rest) pos) fb):PD X (.BoolOp .And (a::b::rest) pos) (rJ fa fb) :=
 PE.imp (S6 l j) <| by
  rintro q H Q ⟨g,d,h,e,k⟩;obtain⟨x,o,n⟩:=bind_some e;obtain⟨y,m,c⟩:=bind_some n;cases KS m;refine{g,_,h,o,λv p f i=>{y,bC.d6.mp i,?_}};cases y with
  |true=>rw[ai rfl] at c ⊢;exact{g,d,h.same f,c,k.later f}
  |false=>rw[aq aV] at c ⊢;cases c;exact k _ p f (bC.d6.mpr rfl)
def j_(x y:fZ):Od:=match x,y with | .bool a,.bool b=>Y (.bool (a==b))|_,_=>Z
def Es(x y:fZ):Od:=match x,y with | .bool a,.bool b=>Y (.bool (a != b))|_,_=>Z
def XA:ro X (compareOp .Is) j_:=by
 intro f s j H x y v u Q I b a ⟨d,i,c,h,g,e,k⟩;cases d<;>cases i<;>try (simp[j_] at e;done)
 cases e;rw[bC.d6.mp h] at b;rw[bC.d6.mp g] at a;cases b;cases a;exact is_bool {.bl _,H,I,rfl,k.here (bC.d6.mpr rfl)}
def KU:ro X (compareOp .IsNot) Es:=by
 intro f s j H x y v u Q I b a ⟨d,i,c,h,g,e,k⟩;cases d<;>cases i<;>try (simp[Es] at e;done)
 cases e;rw[bC.d6.mp h] at b;rw[bC.d6.mp g] at a;cases b;cases a;exact isnot_bool {.bl _,H,I,rfl,k.here (bC.d6.mpr rfl)}
def mY:Lp->Option (List Bool)
 |[]=>Y []
 |.bool b::r=>(mY r).map (b::·)
 |_::_=>Z
theorem rK:∀{b:Lp}{a:List Bool},mY b=Y a->b=a.map .bool
 |[],a,h=>by cases h;rfl
 |d::r,a,h=>by
  cases d<;>try (simp[mY] at h;done)
  obtain⟨c,e,rfl⟩:=aj.mp h;rw[rK e];rfl
def aaf:Lp->Od | [.list ds]=>(mY ds).map λa=>.bool (a.any id)|_=>Z
def Et:Lp->Od | [.list ds]=>(mY ds).map λa=>.bool (a.all id)|_=>Z
def Eu{K:Fg}{c:List Bool}{a:Lw}(i:a9 K H (c.map .bool) vs)(r:fv vs a){v:Value}(e:a[j]?=Y v):∃b,c[j]?=Y b/\v=.bool b:=by
 have n:j<a.length:=(aS.mp e).1;have k:=r.length;have d:=i.length;have f:j<c.length:=by simpa [k,d] using (by rw[ag] at d;omega:j<c.length)
 have q:(c.map fZ.bool)[j]?=Y (.bool c[j]):=by rw[aM,aN f];rfl
 obtain⟨x,m,l⟩:=i.get q;obtain⟨u,h,g⟩:=r.get m;rw[e] at h;cases h;rw[bC.d6.mp l] at g;exact{_,aN f,g}
def Uy(w:X.calm=true):vp X (.builtin "all") Et:=by
 intro j s E H G K Q I r ⟨D,c,i,e,k⟩
 match D,e with
 |[.list F],e=>
  obtain⟨d,C,rfl⟩:=aj.mp e;cases rK C;obtain⟨v,rfl,z⟩:=ir i;sleep 1;obtain⟨p,J,rfl,B,m⟩:=bC.fj.mp z;sleep 2;obtain⟨u,rfl,n⟩:=rh r;cases n;obtain⟨a,h,o,O⟩:=I.list B;have g:=o.isList;have f:p<(zB s):=by obtain⟨_,e,_⟩:=g;exact au e
  refine call_all_walk (dQ g ?_);refine{(zB s),[(zB s),p],[(zB s)],a.toArray.size,_,_,λi=>(d[i]?).getD true,rfl,Walks.list (A:=X.A.in1) (I.ok.hd w) _ p (aR f) a.toArray,
   {{_,aG _ rfl,rfl,rfl},g.push _},λi v M R S y l=>?_,λP L t=>?_}
  .obtain⟨b,e,rfl⟩:=Eu m h (by simpa using y);simp only[e,Option.getD_some] at l;exact cN l
  .have e:((List.range a.toArray.size).all λi=>(d[i]?).getD true)=d.all id:=by
    have N:=h.length;have q:=m.length;rw[ag] at q;rw[aB,show a.length=d.length by omega];exact LSm.range_all d
   rw[e];refine{.bl _,H,I.kept λb x e=>?_,rfl,k.here (bC.d6.mpr rfl)};exact t b x (λhm=>by rw[cG.mp hm] at e;exact bh _ (au e)) (af _ e)
def ti(X:Cx)(a:Scope):Bool:=a.names.all λp=>p.2 != .free||(X.env.kindOf p.1==Y .cell||X.env.kindOf p.1==Y .free)
def KW{d:Expr}{k:Pos}{b:Lx} (a:List (Nat×Str)) {g:aC->Option Bool}
  (t:F7 X (.Name x k) iter q)
  (n:∀C s H fp,uH (kL X scope C (x::a.map (·.2)) s H fp) b g)
  (u:∀C s H fp,PD (kL X scope C (x::a.map (·.2)) s H fp) d f)
  (v:zr0 (X.calm=true)) (S:zr 7 (jM scope x)) (j:zr0 (ti X scope=true)) (c:zr 8 (kF X scope a)) (i:zr 9 ((x::a.map (·.2)).Nodup))
  (o:zr 2 (∀x,foldedSetIterable iter X.env x=pure x)):PD X (.ListComp d [{.Name x k,iter,b,0}] scope pos) (i8 q a g f):=by
 intro l s m H Q I w;refine OJ v S (λp r e=>I.ok.has p.1 ?_) c i t n u o s m H Q I w;have:=aI.mp j p r;simp only[cz,bne_iff_ne,ne_eq,bw] at this;rcases this with h|h
 .exact absurd e h
 .exact h
def jU(I:c7 X pins σ H s)(a:ti X scope=true):∀p∈scope.names,p.2=.free->∃c,X.env.cells.lookup p.1=Y c:=λp b e=>I.ok.has p.1 (by
 have:=aI.mp a p b;simp only[cz,bne_iff_ne,ne_eq,bw] at this;rcases this with h|h
 .exact absurd e h
 .exact h)
end
section
variable {a c o i:Expr}
def iA(d:fZ):Option Bool:=match d with
 |.dict jG=>if gZ jG=true then Z else Y (!jG.isEmpty)
 |d=>D4 d
def uN(f:aC->Od):aC->Option Bool:=λa=>(f a).bind iA
def KY(h:PD X e f)(r:zr 2 (∀whole,isTrue e X.env whole=(do let v <-whole;standAt e.pos;holding [v] (truthy v)))):z6 X e (uN f) :=
 PT.imp (BO h r) <| by
  rintro u H Q ⟨l,b,q,e,k⟩;obtain⟨d,s,a⟩:=bind_some e;refine{l,d,q,s,λv t m j=>{b,?_,k t m}};cases d with
  |dict c=>
   unfold iA at a;by_cases g:gZ c=true
   .dsimp only at a;rw[ai g] at a;cases a
   .dsimp only at a;rw[aq g] at a;cases a;sleep 1;obtain⟨p,i,rfl,o,n⟩:=j.rn (by simpa using g);sleep 2;refine .inr (.inr {i,o,?_});have:=n.length;cases c<;>cases i<;>first|rfl|(simp at this)
  |_=>exact JP j a
def As:fZ->Bool
 |.none=>true
 |_=>false
def Uz(x y:fZ):Od:=match y with
 |.none=>Y (.bool (As x))
 |y=>j_ x y
def oB(x y:fZ):Od:=match y with
 |.none=>Y (.bool (!As x))
 |y=>Es x y
def RP{K:Fg}(i:bC K H d v):decide (v=.lz)=As d:=by
 cases d with
 |none=>rw[bC.iU.mp i];rfl
 |bool b=>rw[bC.d6.mp i];rfl
 |int j=>rw[bC.d5.mp i];rfl
 |str x=>rw[bC.eW.mp i];rfl
 |list a=>obtain⟨p,c,rfl,_⟩:=bC.fj.mp i;rfl
 |tuple a=>obtain⟨p,c,rfl,_⟩:=i.hU;rfl
 |dict e=>obtain⟨p,rfl,_⟩:=bC.ke.mp i;rfl
def UA:ro X (compareOp .Is) Uz:=by
 refine lu.imp (lu.or XA Tn) ?_;rintro x y H Q ⟨a,b,d,f,c,e,k⟩;cases b with
 |none=>cases e;exact .inr {bC.iU.mp c,k.here (bC.d6.mpr (by rw[RP f]))}
 |_=>exact .inl {(a),_,d,f,c,e,k}
def Ie:ro X (compareOp .IsNot) oB:=by
 refine lu.imp (lu.or KU N7) ?_;rintro x y H Q ⟨a,b,d,f,c,e,k⟩;cases b with
 |none=>cases e;exact .inr {bC.iU.mp c,k.here (bC.d6.mpr (by rw[RP f]))}
 |_=>exact .inl {(a),_,d,f,c,e,k}
structure Ig (K:Fg) (mg:Str->Ow) (x:Str) (d:fZ):Prop where
 ex:∃u v,mg x=Y u/\gg v u/\∀H:Hp,bC K H d v
def KZ(c:Ig X.K X.mg x d)(a:Gl X x)(b:zd0 (zg x)):PD X (.Name x pos) (dC d):=by sleep 1;obtain⟨u,v,h,g,f⟩:=c.ex;sleep 2;exact PE.imp (FG a h g b) <| by rintro i H Q ⟨j,m,l,e,k⟩;cases e;exact k.here (f H)
structure oD (P:Program) (w:World) (K:Fg) (mg:Str->Ow) (x:Str) (jG:List (fZ×fZ)):Prop where
 ex:∃(a:Addr) (vs:List (Key×Value)),mg x=Y (.ref a)/\(a==sysModules)=false/\(∀h:Heap,K.In h->h.DictOf (gI P w) a vs) /\
  ∀k:Key,(kQ (jH k) jG=Z/\valueAt vs k=Z)\/∃d v u,kQ (jH k) jG=Y d/\valueAt vs k=Y u/\gg v u/\∀H:Hp,bC K H d v
def RQ(a:List (fZ×fZ))(k:fZ):Od:=(rA k).map λ_=>(kQ k a).getD .none
def Pm(M:oD X.prog X.w X.K X.mg x jG)(J:Gl X x)(L:PD X e fb)(j:M1 X (.Name x p) "get" apos e gv)(o:zd0 (zg x)):PD X (.Call (.Attribute (.Name x p) "get" apos) [e] [] gv) (λρ=>(fb ρ).bind (RQ jG)):=by
 sleep 1;obtain⟨a,vs,P,O,B,N⟩:=M.ex;sleep 2;intro c s D H Q I ⟨ρ,d,G,W,k⟩;obtain⟨y,V,U⟩:=bind_some W;obtain⟨z,T,l⟩:=aj.mp U;have:=jb T;subst this;have C:=B s.heap I.oj;refine wpAny_Call_method j.base j.ZI j.line fC cH fM (kj I J P ?_ o);refine{C.typeIs,λb q=>?_,?_}
 .cases q;sleep 1;obtain⟨F,_,_,g,f,_⟩:=C;sleep 2;exact{F,g,f.2.1}
 rw[j.trees];refine dh rfl (eK (bT (iu (@L c s D H (λv H1=>dV H H1/\bC X.K H1 (jH z) v) I {ρ,_,G,V,λv H1 m i=>{(m),i}}) ?_)));rintro iv t ⟨v,H1,r,u,m,n⟩;refine cg ?_;rw[jT n] at u;have h:=B t.heap r.oj;refine call_meetsIn cH h.typeIs dS (dN _ _) (meets_dict_get (gI X.prog X.w) a (pB u) O) {_,h.mapOf,?_};have A:=k.later m;rcases N z with ⟨g,f⟩ | ⟨d',E,u',g,f,S,R⟩
 .rw[g] at l;subst l;rw[f];exact{.lz,H1,r.tok _,rfl,A.here (bC.iU.mpr rfl)}
 .rw[g] at l;subst l;rw[f];exact{E,H1,r.tok _,S,A.here (R H1)}
def K0(a:List (fZ×fZ))(k:fZ):Od:=(rA k).map λ_=>.bool (kQ k a).isSome
def K1(a:List (fZ×fZ))(k:fZ):Od:=(rA k).bind λ_=>kQ k a
def UB(A:oD X.prog X.w X.K X.mg x jG)(u:Gl X x)(z:PD X i fb)(g:D2 i)(h:zd0 (zg x)):PD X (.Subscript (.Name x p) i pos) (λρ=>(fb ρ).bind (K1 jG)):=by
 sleep 1;obtain⟨V,P,D,T,C,B⟩:=A.ex;sleep 2;intro a s o H Q I ⟨ρ,d,r,O,k⟩;obtain⟨y,N,M⟩:=bind_some O;obtain⟨m,L,c⟩:=bind_some M;have:=jb L;subst this;refine FY PySem.F.slot_dict_getitem.lookup g (kj I u D (iu (@z a s o H (λv H1=>dV H H1/\bC X.K H1 (jH m) v) I {ρ,_,r,N,λv H1 e i=>{(e),i}}) ?_) h);rintro S t ⟨v,H1,n,l,e,f⟩;rw[jT f] at l;have b:=C t.heap n.oj;refine{b.typeIs,?_};rcases B m with ⟨j,_⟩ | ⟨U,q,R,j,J,G,E⟩
 .rw[j] at c;cases c
 .rw[j] at c;cases c;exact wpAny_getItem_of (pB l) b.mapOf J {q,H1,n.tok _,G,(k.later e).here (E H1)}
end
def k_{K:Fg}{n:Int}{t:Tok}(h:mg x=Y (.int n t)):Ig K mg x (.int n):={_,.int n,h,{(t),rfl},λH=>bC.d5.mpr rfl}
def XB{K:Fg}{b:Array Value}{c:List V}(h:K.lookup a=Y (zy b n))(d:b.size<=sizeLine)(e:fv c b.toList)(H:Hp):pf K H a c:=.inr {_,b,n,h,rfl,rfl,d,e}
def l_{K:Fg}{b:Array Value}{c:Lr}(h:K.lookup a=Y (zy b n))(d:b.size<=sizeLine)(e:fv (c.map V.str) b.toList)(H:Hp):bC K H (.tuple (c.map .str)) (.ref a) :=
 bC.mu.mpr {a,_,rfl,XB h d e H,l8 c}
def Pn(P:Params)(x:Str)(t:Tok)(v:Value):DictEntry:={ hash:=fZ.keyHash P x,key:=.str x t,val:=v }
def Cr(w:World)(x:Str):fZ.keyHash w.params x=SQ w (.inr x):=by
 first
 |rfl
 | (unfold fZ.keyHash SQ hashStr;rfl)
theorem yC{P:Program}{w:World}:∀(l:List (Str×Tok×Value×fZ)),Pairs (gI P w) (l.map λq=>Pn w.params q.1 q.2.1 q.2.2.1) (l.map λq=>((.inr q.1:Key),q.2.2.1))
 |[]=>.nil
 |q::l=>.cons (o9 P w q.1 q.2.1) rfl (yC l)
theorem Cs{K:Fg}(k:Key):∀(l:List (Str×Tok×Value×fZ)),(∀q∈l,∃v,gg v q.2.2.1/\∀H:Hp,bC K H q.2.2.2 v) ->
  (kQ (jH k) (l.map λq=>(.str q.1,q.2.2.2))=Z/\valueAt (l.map λq=>((.inr q.1:Key),q.2.2.1)) k=Z)\/∃d v u,kQ (jH k) (l.map λq=>(.str q.1,q.2.2.2))=Y d/\valueAt (l.map λq=>((.inr q.1:Key),q.2.2.1)) k=Y u/\gg v u/\∀H:Hp,bC K H d v
 |[],_=>.inl {(rfl),rfl}
 |q::l,hv=>by
  by_cases e:(.inr q.1:Key)=k
  .right;obtain⟨v,g,f⟩:=hv q (by simp);have a:lA (.str q.1) (jH k)=true:=by rw[show fZ.str q.1=jH (.inr q.1) from rfl,jn];exact aW e
   exact{q.2.2.2,v,q.2.2.1,by simp[kQ,a],by simp[valueAt,cf,e],g,f}
  .have a:¬ lA (.str q.1) (jH k)=true:=by rw[show fZ.str q.1=jH (.inr q.1) from rfl,jn];simp[e]
   rcases Cs k l (λz h=>hv z (ao _ h)) with ⟨c,b⟩ | ⟨d,v,u,c,b,i⟩
   .exact .inl {by rw[ae];unfold kQ;rw[aq a];exact c,by simp only[valueAt,ae,cf,aE e];exact b}
   .exact .inr {d,v,u,by rw[ae];unfold kQ;rw[aq a];exact c,by simp only[valueAt,ae,cf,aE e];exact b,i}
def Po{P:Program}{K:Fg}{l:List (Str×Tok×Value×fZ)} (g:mg x=Y (.ref a)) (m:(a==sysModules)=false)
  (i:K.lookup a=Y { cls:=.type "dict",data:=.dict (l.map λq=>Pn w.params q.1 q.2.1 q.2.2.1).toArray n }) (d:(l.map (·.1)).Nodup) (f:∀q∈l,∃v,gg v q.2.2.1/\∀H:Hp,bC K H q.2.2.2 v):
  oD P w K mg x (l.map λq=>(.str q.1,q.2.2.2)):=by
 refine{a,l.map λq=>(.inr q.1,q.2.2.1),g,m,λh o=>?_,λk=>Cs k l f};refine{_,_,n,o a _ i,{(rfl),rfl,rfl},rfl,λe j=>?_,by simpa using yC l,?_}
 .have c:e∈l.map λq=>Pn w.params q.1 q.2.1 q.2.2.1:=by simpa using j
  obtain⟨q,_,rfl⟩:=aw.mp c;exact{.inr q.1,o9 P w q.1 q.2.1,Cr w q.1}
 .rw[dF];have:((λx:Key×Value=>x.1)∘λq:Str×Tok×Value×fZ=>((.inr q.1:Key),q.2.2.1))=(λz:Str=>(.inr z:Key))∘(·.1):=rfl;rw[this,<-dF];exact List.Pairwise.map _ (λa b h z=>h (by injection z)) d
section
variable {P:Program}{K:Fg}{A:Addr}{N:Nat}{its:Array Value}{d:Lp}
inductive SV:Lw->Lp->Prop
 |nil:SV [] []
 |cons {y:Str}{t:Tok}{l:Lw}{m:Lp} (h:SV l m):SV (.str y t::l) (.str y::m)
def SV.ok{l:Lw}{m:Lp}(h:SV l m):∃a:Lr,m=a.map .str/\fv (a.map V.str) l:=by
 induction h with
 |nil=>exact{[],rfl,.nil}
 |@cons y t l m _ b=>obtain⟨a,rfl,v⟩:=b;exact{y::a,rfl,.cons {(t),rfl} v}
def SV.tup(s:SV its.toList d)(l:K.lookup A=Y (zy its N))(z:its.size<=sizeLine)(H:Hp):bC K H (.tuple d) (.ref A):=by obtain⟨a,rfl,v⟩:=s.ok;exact l_ l z v H
def XC(X:K.In h)(G:h.Ns mainGlobals mg)(k:W.nsIn K mainGlobals x=Y (Y (.ref A)))(l:K.lookup A=Y (zy its N))(z:its.size<=sizeLine)(s:SV its.toList d):Ig K mg x (.tuple d):={.ref A,.ref A,W.mg_of X G k,rfl,s.tup l z}
inductive V8 (K:Fg) (w:World):List DictEntry->List (fZ×fZ)->Prop
 |nil:V8 K w [] []
 |cons {y:Str}{t:Tok}{V:Addr}{n:Nat}{its:Array Value}{d:Lp}{es:List DictEntry}{m:List (fZ×fZ)} (l:K.lookup V=Y (zy its n)) (z:its.size<=sizeLine) (s:SV its.toList d) (c:V8 K w es m):V8 K w ({fZ.keyHash w.params y,.str y t,.ref V}::es) ((.str y,.tuple d)::m)
def V8.ok{b:List DictEntry}{m:List (fZ×fZ)}(h:V8 K w b m):∃l:List (Str×Tok×Value×fZ),b=(l.map λq=>Pn w.params q.1 q.2.1 q.2.2.1)/\m=(l.map λq=>(.str q.1,q.2.2.2))/\∀q∈l,∃v,gg v q.2.2.1/\∀H:Hp,bC K H q.2.2.2 v:=by
 induction h with
 |nil=>exact{[],rfl,rfl,nofun}
 |@cons y t V n its d b m l z s _ e=>obtain⟨c,rfl,rfl,a⟩:=e;exact{(y,t,.ref V,.tuple d)::c,rfl,rfl,bV.mpr {{.ref V,rfl,s.tup l z},a}}
def kvS(l:List (Str×Lr)):List (fZ×fZ):=l.map λp=>(.str p.1,.tuple (p.2.map .str))
def kS:fZ->Str
 |.str y=>y
 |_=>Str.empty
def dictAt{b:List DictEntry}{m:List (fZ×fZ)}(X:K.In h)(G:h.Ns mainGlobals mg)(k:W.nsIn K mainGlobals x=Y (Y (.ref A)))(z:(A==sysModules)=false)(l:K.lookup A=Y { cls:=.type "dict",data:=.dict b.toArray N })(c:V8 K w b m)(d:(m.map λp=>kS p.1).Nodup):oD P w K mg x m:=by obtain⟨e,rfl,rfl,a⟩:=c.ok;exact Po (W.mg_of X G k) z l (by simpa [cU,kS] using d) a
end
section
variable {a c o i:Expr}{rest:List Stmt}{h:aC->Option Out}
def PS.frame{t:TS}(h:PS X st t):PS X st (λD σ H=>∃G B,H=b9 G B/\jv G B/\t { nx:=λa b=>jv b B->D.nx a (b9 b B),rt:=λv b=>jv b B->D.rt v (b9 b B),bk:=λa b=>jv b B->D.bk a (b9 b B),ct:=λa b=>jv b B->D.ct a (b9 b B) } σ G):=by
 intro i s σ H D I ⟨G,B,k,f,j⟩;subst k;sleep 1;obtain⟨m,l,_,_,c⟩:=Gd f.ok I f;sleep 2;refine iu (@h _ s σ G _ l j) λfl g q=>?_;cases fl with
 |next=>obtain⟨a,b,J,q⟩:=q;obtain⟨d,e⟩:=c b g a J;exact{a,_,e,q d}
 |brk=>obtain⟨a,b,J,q⟩:=q;obtain⟨d,e⟩:=c b g a J;exact{a,_,e,q d}
 |cont=>obtain⟨a,b,J,q⟩:=q;obtain⟨d,e⟩:=c b g a J;exact{a,_,e,q d}
 |ret u=>sleep 1;obtain⟨v,a,b,J,r,q⟩:=q;sleep 2;obtain⟨d,e⟩:=c b g a J;exact{v,a,_,e,r,q d}
def K2(i:Nat) {J b:Pos}{j:Expr}{p:Pos}{c:Lx} (a:List (Nat×Str)) {g:aC->Option Bool} (hN:X.N.Nodup)
  (R:F7 X (.Name x p) iter q)
  (Q:∀C s H fp,uH (kL X scope C (x::a.map (·.2)) s H fp) c g)
  (T:∀C s H fp,PD (kL X scope C (x::a.map (·.2)) s H fp) j f) (W:zd0 (i∉O))
  (U:zr0 (X.calm=true)) (S:zr 7 (jM scope x)) (l:zr0 (ti X scope=true)) (n:zr 8 (kF X scope a)) (u:zr 9 ((x::a.map (·.2)).Nodup))
  (w:zr0 (X.N[i]?=Y y)) (P:zr0 (X.env.scope.names.lookup y=Y .local)) (t:zr0 (swapsWith (.ListComp j [{.Name x p,iter,c,0}] scope pos) (Y (.Name y J)) b.line X.env=pure true))
  (h:zr 2 (∀x,foldedSetIterable iter X.env x=pure x)):mX X m O (.Assign [.Name y J] (.ListComp j [{.Name x p,iter,c,0}] scope pos) b) (bS (gf O (i8 q a g f)) i):=by
 intro K s E H D I V;refine PS.imp (PS.frame (Ad (Ga U S (jU I l) n u R Q T) S (jU I l) hN w P t h)) (?_) s E H D I V;rintro D E H ⟨L,o,G,h,e,k⟩;obtain⟨d,e1,rfl⟩:=aj.mp e;obtain⟨B,eH,fm,r⟩:=h.o.ex;refine{G,B,eH,fm,iz O L,d,h.o.rest,e1,λv G' F M A=>?_};exact k _ _ G' F (jJ.set {gQ.sT h.o.len r h.o.lz F A,h.z} W M)
def Ih{i:Expr}{b:Str}{k c l:Pos}{n:Nat}{d:Lx} (a:List (Nat×Str)) {g:aC->Option Bool}
  (t:F7 X (.Tuple [.Name x k,.Name b c] n l) iter q)
  (p:∀C s H fp,uH (kL X scope C (x::b::a.map (·.2)) s H fp) d g)
  (u:∀C s H fp,PD (kL X scope C (x::b::a.map (·.2)) s H fp) i f)
  (v:zr0 (X.calm=true)) (S:zr 7 (jM scope x)) (y:zr0 (scope.names.lookup b=Y .local)) (e:zr0 (ti X scope=true)) (h:zr 8 (kF X scope a)) (j:zr 9 ((x::b::a.map (·.2)).Nodup))
  (r:zr 2 (∀x,foldedSetIterable iter X.env x=pure x)):PD X (.ListComp i [{.Tuple [.Name x k,.Name b c] n l,iter,d,0}] scope pos) (vJ q a g f):=by
 intro m s o H Q I w;exact HP.pe2 (KQ v S y (jU I e) h j t p u) S (jU I e) r s o H Q I w
section
variable {K:Fg}{O':List Nat}
theorem il.snoc{k:Bool}(e:(ρ[j]?).join=Z):∀{O':List Nat}{B:List (Addr×HO)},il k K σ ρ G O' B↔il k K σ ρ G (O'++[j]) B
 |[],B=>{λh=>.inl {(e),h},λh=>by
   rcases h with ⟨_,h⟩ | ⟨d,v,g,f,a,_⟩
   .exact h
   .rw[a] at e;cases e}
 |i::O',B=>by
  constructor
  .rintro(⟨a,b⟩ | ⟨d,v,g,f,a,b,c,q,t⟩)
   .exact .inl {a,(il.snoc e).mp b}
   .exact .inr {d,v,g,f,a,b,c,q,(il.snoc e).mp t}
  .rintro(⟨a,b⟩ | ⟨d,v,g,f,a,b,c,q,t⟩)
   .exact .inl {a,(il.snoc e).mpr b}
   .exact .inr {d,v,g,f,a,b,c,q,(il.snoc e).mpr t}
def gQ.freeze(r:(O'++[j]).Nodup)(l:jI (O'++[j])=jI O')(h:gQ (O'++[j]) K σ ρ H G):∃D,dV G D/\gQ O' K σ ρ H D:=by
 have I:j∉O':=by rw[aX] at r;exact λz=>r.2.2 j z j (by simp) rfl
 cases hd:(ρ[j]?).join with
 |none=>
  obtain⟨B,w,f,b⟩:=h.ex;rw[l] at b;refine{G,.refl G,h.len,{B,w,f,(il.snoc hd).mpr b},λi d q k=>?_};by_cases a:i=j
  .subst a;rw[q] at hd;cases hd
  .exact h.lz i d q (by simp[k,a])
 |some d=>
  have e:=join_some hd;sleep 1;obtain⟨v,o,g,n,M,L,f,p,A,y,_,O⟩:=h.own r (by simp) e;sleep 2;have c:(o++(g++n)).Perm ((o++n)++g):=by rw[bb];exact dz _ bc
  have C:jv G ((o++n)++g):=f.perm c ((A.append y).append p.mh);have m:=C.B9 p.mh;have t:=O (b9 G g) m.same (C.B8 (A.append y));have w:H=b9 (b9 G g) (o++n):=by rw[L,ik f.nd c,hE]
  rw[<-w] at t;have F:j<ρ.length:=(aS.mp e).1;obtain⟨B,J,u,b⟩:=t.ex;rw[l] at b;have s:((ρ.set j Z)[j]?).join=Z:=by rw[aQ F];rfl
  refine{b9 G g,m.same,h.len,{B,J,u,((il.snoc s).mpr b).other λi k=>?_},λi N q k=>?_}
  .have:j≠i:=λz=>I (z▸k);exact{(av this).symm,rfl}
  .by_cases a:i=j
   .subst a;rw[e] at q;cases q;exact{v,M,p.IZ m.same λx E=>gp m.nd x E}
   .exact t.lz i N (by rw[av (Ne.symm a)];exact q) (by simp[k,a])
def gQ.K3(m:j∉O')(k:jI (O'++[j])=jI O')(h:gQ O' K σ ρ H G):gQ (O'++[j]) K σ (ρ.set j Z) H G:=by
 obtain⟨B,n,f,a⟩:=h.ex;rw[<-k] at a;have c:((ρ.set j Z)[j]?).join=Z:=by
  by_cases l:j<ρ.length
  .rw[aQ l];rfl
  .rw[cp (by simpa using l)];rfl
 refine{by simpa using h.len,{B,n,f,(il.snoc c).mp (a.other λi b=>?_)},λi d q b=>?_}
 .have:j≠i:=λz=>m (z▸b);exact{av this,rfl}
 .have g:i∉O':=λz=>b (by simp[z]);have e:j≠i:=λz=>b (by simp[z]);rw[av e] at q;exact h.lz i d q g
end
def K4(j:Nat):Out->Out
 |.nx ρ=>.nx (ρ.set j Z)
 |.bk ρ=>.bk (ρ.set j Z)
 |.ct ρ=>.ct (ρ.set j Z)
 |.rt d=>.rt d
def K5(j:Nat)(g:aC->Option Out):aC->Option Out:=λa=>(g a).map (K4 j)
def ug{O':List Nat}(j:Nat){n:List Stmt}(t:(O'++[j]).Nodup)(E:j≠0)(h:mQ X m O' n g)(i:zr0 (jI (O'++[j])=jI O')):mQ X m (O'++[j]) n (K5 j g) :=
 xb.imp h <| by
  rintro D x H ⟨y,o,G,w,e,k⟩;have C:j∉O':=by rw[aX] at t;exact λz=>t.2.2 j z j (by simp) rfl
  obtain⟨v,F,rfl⟩:=aj.mp e;obtain⟨M,r,u⟩:=w.o.freeze t i;have A:∀(a:St),(∀f c,m=.io f c->0∈O'++[j]/\a[0]?=Y (Y c)/\jI (O'++[j])=f)->∀f c,m=.io f c->0∈O'/\a[0]?=Y (Y c)/\jI O'=f:=λa B f c q=>by
   obtain⟨L,J,I⟩:=B f c q;refine{?_,J,i▸I};rcases ay.mp L with z|z
   .exact z
   .exact absurd (by simpa using z:0=j).symm E
  have s:∀(a:St) (b:aC) (H' l:Hp),jJ m O' X.K a b H' l->jJ m (O'++[j]) X.K a (b.set j Z) H' l:=λa b H' l q=>{q.o.K3 C i,λf c z=>{by simp[(q.z f c z).1],(q.z f c z).2.1,i▸(q.z f c z).2.2}}
  refine{y,v,M,{u,A x w.z},F,?_};cases v with
  |nx b=>exact λa H' l p q=>k a H' l (r.trans p) (s _ _ _ _ q)
  |bk b=>exact λa H' l p q=>k a H' l (r.trans p) (s _ _ _ _ q)
  |ct b=>exact λa H' l p q=>k a H' l (r.trans p) (s _ _ _ _ q)
  |rt d=>exact RJ.later r k
end
section
variable {a c o i:Expr}
def Pp{n:Int}{q:Pos}:PD X (.UnaryOp .USub (.Constant (.int n) j q) pos) (zI (-n)) :=
 PE.imp (Ww Tj JM) <| by rintro h H Q ⟨a,d,f,e,k⟩;cases e;exact{a,_,f,rfl,λv g b c=>{_,bC.d5.mp c,k _ g b (bC.d5.mpr rfl)}}
def Pq(G:oD X.prog X.w X.K X.mg x jG)(E:Gl X x)(F:PD X a fa)(D:zr 10 (behindInMarks .In (.Name x p)=false))(c:zd0 (zg x)):z6 X (.Compare a [.In] [.Name x p] pos) (fB (λρ=>(fa ρ).bind (K0 jG))):=by
 sleep 1;obtain⟨m,o,N,M,L,J⟩:=G.ex;sleep 2;have B:lu X (compareOp .In) (λy z H Q=>∃k:Key,y=kV k/\z=.ref m/\Q (.bl (valueAt o k).isSome) H):=by intro j s n H y z v u Q I A t ⟨k,h,g,q⟩;subst h g;cases t;exact wpAny_in_of (pB A) M (L s.heap I.oj).mapOf {.bl _,H,I.tok _,rfl,q}
 refine PT.imp (FK B F (FG (v:=.ref m) E N rfl c) D) ?_;rintro n H Q ⟨ρ,d,C,h,k⟩;obtain⟨y,g,R⟩:=bind_some (F4 h);obtain⟨l,P,O⟩:=aj.mp R;have:=jb P;subst this;refine{ρ,_,C,g,λv S r i=>{l,jT i,rfl,?_}};have b:=k S r;cases O;rcases J l with ⟨f,e⟩ | ⟨d',T,U,f,e,W,V⟩
 .rw[f] at b;rw[e];exact{_,rfl,b}
 .rw[f] at b;rw[e];exact{_,rfl,b}
def XD(y:PF X e f):PV X O e (NO f) :=
 PE.imp y <| by
  rintro J H Q ⟨r,d,G,p,C,k⟩;obtain⟨x,B,b⟩:=bind_some C;by_cases a:xu x=true
  .rw[ai a] at b;cases b;refine{r,d,p.full,B,λv F I n j s=>?_};have m:dV H (b9 F I):=n.trans j.same;obtain⟨E,g,A,h⟩:=p.grow m;refine k v _ E m g h ?_;cases d<;>try (simp[xu] at a;done)
   rename_i K;sleep 1;obtain⟨q,o,rfl,rfl,t⟩:=s.cont rfl;sleep 2;rcases t with ⟨D,c,l,rfl,i⟩ | ⟨_,_,l,_⟩
   .cases l;have u:H q=Z:=by
     cases w:H q with
     |none=>rfl
     |some z=>have:=n _ _ w;rw[j.free (q,.lst c) (by simp)] at this;cases this
    exact bC.fj.mpr {q,c,rfl,.inl (.inl (by rw[A q u];exact gp j.nd (q,.lst c) (by simp))),i.j0 a}
   .cases l
  .rw[aq a] at b;cases b
end
section
open PySem.AutoSeq1 Builtin
end
section
variable {a c o i:Expr}
def Au:Lp->Od
 |[.int i]=>Y (.int i)
 |[.bool b]=>Y (.int (if b then 1 else 0))
 |_=>Z
def UC:vp X (.type "int") Au:=by
 refine i6.imp Hy ?_;rintro f H Q ⟨d,c,i,e,k⟩
 match d,e with
 |[.int j],e=>cases e;obtain⟨v,rfl,a⟩:=ir i;exact .inl {j,by rw[bC.d5.mp a],k.here (bC.d5.mpr rfl)}
 |[.bool b],e=>cases e;obtain⟨v,rfl,a⟩:=ir i;exact .inr {b,by rw[bC.d6.mp a],k.here (bC.d5.mpr rfl)}
def Ct(x y:fZ):Od:=match x,y with
 |.list xs,.list a=>if xs.length+a.length<=sizeLine then Y (.list (xs++a)) else Z
 |_,_=>Z
def UD(A:PD X a fa)(z:PD X b fb):PF X (.BinOp a .Add b pos) (d2 Ct fa fb) :=
 PE.imp (Jn F0 A z) <| by
  rintro F H Q ⟨i,d,n,e,k⟩;obtain⟨u,E,D⟩:=bind_some e;obtain⟨v,C,c⟩:=bind_some D;obtain⟨g,rfl⟩:∃g,u=.list g:=by cases u<;>first|exact{_,rfl}|(cases v<;>cases c)
  obtain⟨f,rfl⟩:∃f,v=.list f:=by cases v<;>first|exact{_,rfl}|cases c
  dsimp only[Ct] at c;by_cases h:g.length+f.length<=sizeLine
  .rw[ai h] at c;cases c;refine{i,_,n,E,λv I l y=>{i,_,n.same l,C,λw G j x=>?_}};sleep 1;obtain⟨p,s,rfl,t,m⟩:=bC.fj.mp (y.same j);sleep 2;sleep 1;obtain⟨q,r,rfl,B,o⟩:=bC.fj.mp x;sleep 2;exact{p,q,s,r,rfl,rfl,t,B,by rw[<-m.length,<-o.length];exact h,(k.later (l.trans j)).xq (m.append o)}
  .rw[aq h] at c;cases c
end
section
variable {a c o:Expr}
end
end L2
namespace L2
open PySem PySem.Spec PyProof.Rows PySem.Builtin PySem.Builtin.Str
section
variable {a:Expr}{sts:List Stmt}
end
end L2
namespace L2
open PySem PySem.Spec PyProof.Rows
def K6(k v:fZ):List (fZ×fZ)->List (fZ×fZ)
 |[]=>[]
 | (y,d)::r=>if lA y k=true then (y,v)::r else (y,d)::K6 k v r
section
variable {K:Fg}
theorem uJ.split{n:Lp}:∀{ds:Lp}{vs:List V}{B:List (Addr×HO)}{j:Nat},uJ K G ds vs B->ds[j]?=Y (.list n) ->
  ∃p ws k h,vs[j]?=Y (.ref p)/\B=k++(p,.lst ws)::h/\a9 K G n ws/\∀g f,a9 K G g f->uJ K G (ds.set j (.list g)) vs (k++(p,.lst f)::h)
 |[],_,_,_,_,e=>by simp at e
 |d::ds,_,_,0,⟨v,Kd,k,h,a,b,c,t⟩,e=>by
  rw[bB] at e;cases e;subst a b;rcases c with ⟨c,_⟩ | ⟨g,p,ws,m,rfl,rfl,i⟩
  .cases c
  .cases m;exact{p,ws,[],h,rfl,rfl,i,λg f l=>{_,_,[(p,.lst f)],h,rfl,rfl,.inr {(g),p,f,rfl,rfl,rfl,l},t}}
 |d::ds,_,_,j+1,⟨v,Kd,k,h,a,b,c,t⟩,e=>by rw[bt] at e;subst a b;sleep 1;obtain⟨p,ws,q,o,m,rfl,i,r⟩:=uJ.split t e;sleep 2;exact{p,ws,k++q,o,m,by simp,i,λg f l=>{_,_,k,q++(p,.lst f)::o,rfl,by simp,c,r g f l}}
theorem uJ.length:∀{ds:Lp}{vs:List V}{B:List (Addr×HO)},uJ K G ds vs B->ds.length=vs.length
 |[],_,_,h=>by rw[h.1];rfl
 |_::_,_,_,⟨v,Kd,B1,B2,a,b,c,t⟩=>by rw[a,ax,ax,t.length]
theorem Ge.split{u:Lp}{y:Key}:∀{h:List (fZ×fZ)}{o:List (Key×V)}{B:List (Addr×HO)},Ge K G h o B->kQ (jH y) h=Y (.list u) ->
  ∃p ws m l,nO o y=Y (.ref p)/\B=m++(p,.lst ws)::l/\a9 K G u ws/\∀g f,a9 K G g f->Ge K G (K6 (jH y) (.list g) h) o (m++(p,.lst f)::l)
 |[],_,_,_,e=>by cases e
 | (k,d)::r,_,_,⟨z,v,r',m,l,a,a2,b,c,t⟩,e=>by
  subst a a2 b;rw[kQ] at e;by_cases q:z=y
  .subst q;have j:lA (jH z) (jH z)=true:=by rw[jn];simp
   rw[ai j] at e;cases e;rcases c with ⟨c,_⟩ | ⟨g,p,ws,n,rfl,rfl,i⟩
   .cases c
   .cases n;refine{p,ws,[],l,by simp[nO],rfl,i,λg f s=>?_};rw[K6,ai j];exact{z,_,r',[(p,.lst f)],l,rfl,rfl,rfl,.inr {(g),p,f,rfl,rfl,rfl,s},t}
  .have j:¬ lA (jH z) (jH y)=true:=by rw[jn];simpa using q
   rw[aq j] at e;sleep 1;obtain⟨p,ws,x,w,n,rfl,i,A⟩:=Ge.split t e;sleep 2;refine{p,ws,m++x,w,?_,by simp,i,λg f s=>?_}
   .unfold nO at n ⊢;rw[cf,aE q];exact n
   .rw[K6,aq j];exact{z,v,r',m,x++(p,.lst f)::w,rfl,rfl,by simp,c,A g f s}
end
def XE:Od->Option Lp
 |some (.list us)=>Y us
 |_=>Z
def Cu{o:Od}{a:Lp}(h:XE o=Y a):o=Y (.list a):=by
 cases o with
 |none=>cases h
 |some d=>cases d<;>first|(cases h;rfl)|cases h
def Ew(l a:fZ):Option Lp:=match l with
 |.list ds=>match a with | .int i=>XE (qd ds i)|_=>Z
 |.dict jG=>if gZ jG=true then Z else (rA a).bind λ_=>XE (kQ a jG)
 |_=>Z
def yD(l a:fZ)(b:Lp):fZ:=match l,a with
 |.list ds,.int i=>match zT ds.length i with|some j=>.list (ds.set j (.list b))|none=>l
 |.dict jG,a=>.dict (K6 a (.list b) jG)
 |l,_=>l
section
variable {a c o:Expr}{fk:aC->Od}
def XF(K:Fg)(d:St)(H:Hp)(c:fZ)(q p:Addr):Prop:=(∃a i,H q=Y (.lst a)/\c=.int i/\qd a i=Y (.ref p))\/∃b y,H q=Y (.dK b)/\c=jH y/\nO b y=Y (.ref p)
def XF.eq{K:Fg}{l:fZ}{q p k:Addr}(r:XF K σ H l q p)(m:XF K σ H' l q k)(e:dV H H'):p=k:=by
 rcases r with ⟨s,i,d,j,h⟩ | ⟨t,y,d,j,h⟩
 .rcases m with ⟨f,o,a,c,b⟩ | ⟨g,n,a,c,b⟩
  .rw[e _ _ d] at a;cases a;rw[j] at c;cases c;rw[h] at b;cases b;rfl
  .rw[e _ _ d] at a;cases a
 .rcases m with ⟨f,o,a,c,b⟩ | ⟨g,n,a,c,b⟩
  .rw[e _ _ d] at a;cases a
  .rw[e _ _ d] at a;cases a;have:=JL (j.symm.trans c);subst this;rw[h] at b;cases b;rfl
theorem gQ.inner{K:Fg}(C:O.Nodup)(h:gQ O K σ ρ H G){A:Pl}{l L:fZ}{N:Lp}(hi:A.ix∈O)(E:rE O A=true)(hd:o4 A ρ=Y l)(e:Ew l L=Y N):
  ∃q p u,uL K σ H A q/\H p=Y (.lst u)/\a9 K G N u/\XF K σ H L q p /\
   ∀b a,a9 K G b a->gQ O K σ (rD A (yD l L b) ρ) (upd H p (.lst a)) G:=by
 cases l<;>try (simp[Ew] at e;done)
 .rename_i F;cases L<;>try (simp[Ew] at e;done)
  rename_i i;have f:=Cu (show XE (qd F i)=Y N from e);sleep 1;obtain⟨q,ob,Bi,o,n,r,g,c,R,Q,B,J⟩:=h.Ec C hi hd rfl;sleep 2;rw[E] at B J;rcases B with ⟨ds',d,x,rfl,m⟩ | ⟨_,_,x,_⟩
  .cases x;have hl:=m.length;unfold qd at f;cases M:zT F.length i with
   |none=>rw[M] at f;cases f
   |some j=>
    rw[M] at f;sleep 1;obtain⟨p,u,t,s,e2,rfl,S,z⟩:=m.split (show F[j]?=_ from f);sleep 2;have k:∀a:List V,o++((q,HO.lst d)::((t++(p,HO.lst a)::s)++n))=(o++(q,HO.lst d)::t)++(p,HO.lst a)::(s++n):=λa=>by simp
    have X:qd d i=Y (.ref p):=by unfold qd;rw[<-hl,M];exact e2
    have U:H q=Y (.lst d):=by rw[g];exact gp c.nd (q,.lst d) (by simp)
    rw[k] at g c;refine{q,p,u,r,by rw[g];exact gp c.nd (p,.lst u) (by simp),S,.inl {(d),i,U,rfl,X},λb a T=>?_};have I:=z b a T;have ep:yD (.list F) (.int i) b=.list (F.set j (.list b)):=by simp only[yD,M]
    have P:o8 (o++((q,HO.lst d)::((t++(p,HO.lst a)::s)++n))):=R.append (.one aY (I.mh.append Q));have w:jv G ((o++(q,HO.lst d)::t)++(p,HO.lst a)::(s++n)):=c.put (by rw[<-k];exact P);rw[g,nT c.nd,ep,<-k];exact J G _ _ _ (.refl G) (.inl {_,d,rfl,rfl,I}) (by rw[k];exact w)
  .cases x
 .rename_i D;unfold Ew at e;dsimp only at e;by_cases W:gZ D=true
  .rw[ai W] at e;cases e
  rw[aq W] at e;obtain⟨y,e0,f⟩:=bind_some e;have f:=Cu f;have:=jb e0;subst this;sleep 1;obtain⟨q,ob,Bi,o,n,r,g,c,R,Q,B,J⟩:=h.Ec C hi hd (by show (!gZ D)=true;simpa using W);sleep 2;rw[E] at B J;rcases B with ⟨_,_,x,_⟩ | ⟨aag,v,x,rfl,m⟩
  .cases x
  .cases x;sleep 1;obtain⟨p,u,t,s,e2,rfl,S,z⟩:=m.split f;sleep 2;have k:∀a:List V,o++((q,HO.dK v)::((t++(p,HO.lst a)::s)++n))=(o++(q,HO.dK v)::t)++(p,HO.lst a)::(s++n):=λa=>by simp
   have U:H q=Y (.dK v):=by rw[g];exact gp c.nd (q,.dK v) (by simp)
   rw[k] at g c;refine{q,p,u,r,by rw[g];exact gp c.nd (p,.lst u) (by simp),S,.inr {(v),y,U,rfl,e2},λb a T=>?_};have I:=z b a T;have P:o8 (o++((q,HO.dK v)::((t++(p,HO.lst a)::s)++n))):=R.append (.one aY (I.mh.append Q));have w:jv G ((o++(q,HO.dK v)::t)++(p,HO.lst a)::(s++n)):=c.put (by rw[<-k];exact P);rw[g,nT c.nd,<-k];exact J G _ _ _ (.refl G) (.inr {_,v,rfl,rfl,I}) (by rw[k];exact w)
def Ex(b:Pl)(g f:aC->Od):aC->Option Out:=λa=>(o4 b a).bind λl=>(g a).bind λe=>(Ew l e).bind λc=>(f a).bind λd=>if c.length<sizeLine then Y (.nx (rD b (yD l e (c++[d])) a)) else Z
def Ii(hu:X.A.units+64<cLine) {π:Pl}{k:Expr}{b:Pos} (C:O.Nodup) (ho:PP X o π) (hk:PV X O k fk) (he:PV X O e f) (hsl:rj k) (m_:D2 k) (hO:zd0 (π.ix∈O)) (I:zr0 (rE O π=true))
  (W:zr0 (starEach [e] X.env=(false,eval e X.env)::starEach [] X.env))
  (J:zr0 (attributeBase (.Subscript o k b) "append" X.env (eval (.Subscript o k b) X.env)=eval (.Subscript o k b) X.env))
  (n_:zr0 (((backTo gv (starEach [e] X.env)).all (λx=>!x.1)&&(backToKw gv (keywordEach [] X.env)).all (λx=>x.1.isSome)&&decide (([e]:Lx).length+([]:List Keyword).length+(if ([]:List Keyword).isEmpty then 0 else 1)<30))=true))
  (E:zr0 ((apos.endLine==gv.line)=true)) (s:zr0 ((backTo gv (starEach [] X.env)).any (·.1)=false))
  (Q:zr0 (swapsWith (.Call (.Attribute (.Subscript o k b) "append" apos) [e] [] gv) Z pos.line X.env=pure false)):
  mX X m O (.Expr (.Call (.Attribute (.Subscript o k b) "append" apos) [e] [] gv) pos) (Ex π fk f) :=
 PS.imp (rf (yg cy PySem.F.slot_list_append PySem.F.type_list_append yi (PE.or (RA FV ho hk hsl) (FZ (by omega) ho hk m_)) (gR he kO W) J n_ E W s) Q) <| by
  rintro D σ H ⟨N,o,G,Q,e,kk⟩;obtain⟨l,e1,ea⟩:=bind_some e;obtain⟨kd,e2,eb⟩:=bind_some ea;obtain⟨us,e3,ec⟩:=bind_some eb;obtain⟨d,e4,ed⟩:=bind_some ec;by_cases hz:us.length<sizeLine
  .rw[ai hz] at ed;cases ed;sleep 1;obtain⟨q,p,ws,r,hp,iw,al,_⟩:=Q.o.inner C hO I e1 e3;sleep 2;have B:∀(S:Addr) (H1 j:Hp),dV H H1->dV G j->gQ O X.K σ N H1 j->XF X.K σ H1 kd q S->(∃c,H1 S=Y (.lst c))/\∀(u:V) (t w:Hp),dV H1 t->dV j w->gQ O X.K σ N t w->bC X.K w d u ->
     ∃a,t S=Y (.lst a)/\a.length<sizeLine/\D.nx σ (upd t S (.lst (a++[u]))):=λS H1 j n R L a1=>by
    sleep 1;obtain⟨q1,p2,c,r1,h,iw1,M,_⟩:=L.inner C hO I e1 e3;sleep 2;have:=uL.eq r r1 n;subst this;have:=a1.eq M (.refl H1);subst this;refine{{(c),h},λu t w P g h2 U=>?_};sleep 1;obtain⟨q2,p3,a,r2,V5,T,b2,cl⟩:=h2.inner C hO I e1 e3;sleep 2;have:=uL.eq r1 r2 P;subst this;have:=a1.eq b2 P;subst this;exact{a,V5,by rw[<-T.length];exact hz,kk _ _ w (R.trans g) {cl _ _ (T.append (a9.cons U a9.nil)),Q.z}}
   rcases al with ⟨xs,i,M,b2,b3⟩ | ⟨kv,y,M,b2,b3⟩
   .subst b2;refine .inl {q,r,N,.int i,G,Q.o,e2,λv H1 j n R L i1=>{q,xs,i,.ref p,rfl,bC.d5.mp i1,nj.of (n _ _ M),b3,?_}};obtain⟨⟨c,h⟩,tl⟩:=B p H1 j n R L (.inl {xs,i,n _ _ M,rfl,b3});refine{.inl {rfl,c,nj.of h},N,d,j,L,e4,λu t w P g h2 U=>?_};obtain⟨a,c1,c2,c3⟩:=tl u t w P g h2 U;exact{(p),a,u,rfl,rfl,c1,c2,c3}
   .subst b2;refine .inr {q,r,N,jH y,G,Q.o,e2,λv H1 j n R L i1=>{q,.ref p,rfl,by rw[jT i1,<-b3];exact qv.k (n _ _ M),?_}};obtain⟨⟨c,h⟩,tl⟩:=B p H1 j n R L (.inr {kv,y,n _ _ M,rfl,b3});refine{.inl {rfl,c,nj.of h},N,d,j,L,e4,λu t w P g h2 U=>?_};obtain⟨a,c1,c2,c3⟩:=tl u t w P g h2 U;exact{(p),a,u,rfl,rfl,c1,c2,c3}
  .rw[aq hz] at ed;cases ed
def XG(e:(B.map (·.1)).Nodup)(f:∀x∈B,H x.1=Y x.2):∃G,H=b9 G B/\(∀x∈B,G x.1=Z)/\∀a,(∀x∈B,x.1≠a)->G a=H a:=by
 let G:Hp:=λa=>if (∃x∈B,x.1=a) then Z else H a
 have d:∀a,(∀x∈B,x.1≠a)->G a=H a:=λa c=>aq λ⟨x,b,z⟩=>c x b z;have g:∀x∈B,G x.1=Z:=λx b=>ai {(x),b,rfl};exact{G,qh e f λa c=>(d a c).symm,g,d}
end
section
variable {a c o:Expr}
def d3(g:fZ->fZ->fZ->Od)(d c b:aC->Od):aC->Od:=λa=>(d a).bind λx=>(c a).bind λy=>(b a).bind λz=>g x y z
end
section
variable {a c o:Expr}
def AD(K:Fg)(b G:Hp)(d:Lp)(c:List V):Prop:=∃a B,G=b9 a B/\jv a B/\dV b a/\uJ K a d c B
theorem uJ.snoc{K:Fg}{G:Hp}{d:fZ}{v:V}{e:List (Addr×HO)}(i:NN K G d v e):∀{f:Lp}{g:List V}{B:List (Addr×HO)},uJ K G f g B->uJ K G (f++[d]) (g++[v]) (B++e)
 |[],_,_,h=>by obtain⟨rfl,rfl⟩:=h;exact{v,[],e,[],rfl,by simp,i,rfl,rfl}
 |x::f,_,_,⟨u,j,l,k,a,b,c,t⟩=>by subst a b;exact{u,_,l,k++e,rfl,by simp,c,uJ.snoc i t}
def AD.len{K:Fg}{b:Hp}(h:AD K b G ds vs):ds.length=vs.length:=by sleep 1;obtain⟨a,B,_,_,_,d⟩:=h;sleep 2;exact d.length
theorem AD.same{K:Fg}{b G g:Hp}{ds:Lp}{vs:List V}(h:AD K b G ds vs)(e:dV G g):AD K b g ds vs:=by
 sleep 1;obtain⟨q,B,rfl,f,s,d⟩:=h;sleep 2;have m:∀x∈B,g x.1=Y x.2:=λx c=>e _ _ (gp f.nd x c);obtain⟨l,p,o,n⟩:=XG f.nd m;have i:dV q l:=λa r k=>by
  have j:∀x∈B,x.1≠a:=λx c z=>by have:=f.free x c;rw[z,k] at this;cases this
  rw[n a j];exact e _ _ (by rw[gK j];exact k)
 exact{l,B,p,{f.nd,o,f.ok},s.trans i,d.same i}
def Ij(i:Nat) {py w:Pos}{r:Expr}{px:Pos}{A:Lx} (a:List (Nat×Str)) {g:aC->Option Bool} (hN:X.N.Nodup) (Xn:O.Nodup)
  (hi:F7 X (.Name x px) iter q)
  (ht:∀C s H fp,uH (kL X scope C (x::a.map (·.2)) s H fp) A g)
  (he:∀C s H fp,PF (kL X scope C (x::a.map (·.2)) s H fp) r f) (hO:zd0 (i∈O)) (o_:zr0 (jI O=true)) (h0:zr 11 (i≠0\/m=.dat\/m=.own))
  (hc:zr0 (X.calm=true)) (S:zr 7 (jM scope x)) (P:zr0 (ti X scope=true)) (R:zr 8 (kF X scope a)) (RR:zr 9 ((x::a.map (·.2)).Nodup))
  (hiy:zr0 (X.N[i]?=Y y)) (hy:zr0 (X.env.scope.names.lookup y=Y .local)) (hsw:zr0 (swapsWith (.ListComp r [{.Name x px,iter,A,0}] scope pos) (Y (.Name y py)) w.line X.env=pure true))
  (n:zr 2 (∀x,foldedSetIterable iter X.env x=pure x)):mX X m O (.Assign [.Name y py] (.ListComp r [{.Name x px,iter,A,0}] scope pos) w) (j7 (gf O (i8 q a g (NO f))) i):=by
 intro pins s F H D I hQ;have p_:∀C s H fp,PE (kL X scope C (x::a.map (·.2)) s H fp) r (λF G Q=>∃u J,ju X.K G F u/\NO f u=Y J/\∀v G',dV G G'->(∀b ds c,AD X.K b G ds c->AD X.K b G' (ds++[J]) (c++[v]))->Q v G'):=λC s H fp=>
  PE.imp (he C s H fp) <| by
   rintro F G Q ⟨u,J,n,e,k⟩;obtain⟨d,e1,t⟩:=bind_some e;by_cases E:xu d=true
   .rw[ai E] at t;cases t;refine{u,J,n,e1,λv G1 l sG fB M=>?_};cases J<;>try (simp[xu] at E;done)
    rename_i us;sleep 1;obtain⟨p,ob,rfl,rfl,oc⟩:=M.cont rfl;sleep 2;obtain⟨L,rfl,iw⟩:=oc.lst;refine k _ _ (sG.trans fB.same) λb ds c ad=>?_;sleep 1;obtain⟨h,B,rfl,f0,U,W⟩:=AD.same ad sG;sleep 2;have V:jv h ([(p,HO.lst L)]++B):=f0.join fB;have pm:([(p,HO.lst L)]++B).Perm (B++[(p,HO.lst L)]):=bc;refine{h,B++[(p,HO.lst L)],?_,V.perm pm (W.mh.append (.one aY .nil)),U,W.snoc (.inr {us,p,L,rfl,rfl,rfl,iw.j0 E})};rw[<-hE];exact ik V.nd pm
   .rw[aq E] at t;cases t
 refine PS.imp (PS.frame (Ad (vv (AD X.K) AD.len AD.same hc S (jU I P) R RR hi ht p_) S (jU I P) hN hiy hy hsw n)) (?_) s F H D I hQ;rintro D F H ⟨u,o,G,n,e,k⟩;obtain⟨d,e1,t⟩:=bind_some e;by_cases hl:i<u.length
 .rw[ai hl] at t;cases t;obtain⟨B,eH,fm,own⟩:=n.o.ex;refine{G,B,eH,fm,iz O u,d,n.o.rest,e1,{G,[],rfl,jv.nil,.refl G,rfl,rfl},λys G' j c ed sG hD hA T=>?_};subst ed;sleep 1;obtain⟨h,l,rfl,f0,U,W⟩:=hA;sleep 2;have hDf:jv (b9 h l) [(j,HO.lst c)]:={by simp,(λx E=>by simp at E;subst E;exact hD),.one aY .nil}
  have V:jv h ((j,HO.lst c)::l):=f0.join hDf;have eu:upd (b9 h l) j (.lst c)=b9 h ((j,HO.lst c)::l):=rfl;rw[eu] at T ⊢;have f2:jv h (B++((j,HO.lst c)::l)):=V.join T;have M:iZ (jI O) X.K h (.list ys) (.ref j) ((j,HO.lst c)::l):=by rw[o_];exact .inl {j,_,l,rfl,rfl,.inl {(ys),c,rfl,rfl,W}}
  have f3:jv h (((j,HO.lst c)::l)++B):=f2.perm bc (M.mh.append fm.ok);have e3:b9 (b9 h ((j,HO.lst c)::l)) B=b9 (b9 h B) ((j,HO.lst c)::l):=by rw[<-hE,<-hE];exact ik f2.nd bc
  have h1:gQ O X.K F u (b9 h B) h:=gQ.sT n.o.len own n.o.lz U (f3.B9 fm.ok);obtain⟨G2,s2,h2⟩:=h1.new Xn hO hl M (f3.B8 M.mh);rw[e3];refine k _ _ G2 (U.trans s2) {h2,λdp v0 z=>?_};rcases h0 with h0|h0|h0
  .rw[av h0];exact n.z dp v0 z
  .rw[h0] at z;cases z
  .rw[h0] at z;cases z
 .rw[aq hl] at t;cases t
end
structure Cv (P:Program) (w:World) (K:Fg) (mg:Str->Ow) (base:Heap) (c m:Str) (k n:Nat) (f:Lp->Od):Prop where
 ex:∃C a fd ps,iE K c C/\HB K C/\HC K C m a/\kz P w K mg base xf k a fd ps (Z6 K n f)/\jK K fd ps []
section
variable {a c o:Expr}{k:Nat}
def Gj{t c:Str}{F:Lp->Od} (N:Cv X.prog X.w X.K X.mg X.base t c j n F) (J:PD X o f) (I:iq k X.A) (O:xh X (e::es) ff) (M:zd0 (j<=k))
  (l:zr0 (zE e es X)) (m:zr0 ((backTo pos (starEach es X.env)).any (·.1)=false))
  (G:eval (.Call (.Attribute o c apos) (e::es) [] pos) X.env=(do
   let ov <-eval o X.env
   standAt apos.atName
   let (f,first) <-holding [ov] (getMethod ov c pl)
   callWith pos f first (backTo pos (starEach (e::es) X.env)) (backToKw pos (keywordEach [] X.env))):=by rfl):PF X (.Call (.Attribute o c apos) (e::es) [] pos) (nW t c n F f ff):=by
 sleep 1;obtain⟨C,a,fd,ps,P,r,L,Fn,b⟩:=N.ex;sleep 2;refine PE.imp (FP (pl:=pl) J r L (Fn.mono M) I b .nil qA O l m G) ?_;rintro σ H Q ⟨u,d,D,e,k⟩;obtain⟨x,W,h⟩:=bind_some e;by_cases i:oy t c x=true
 .rw[ai i] at h;obtain⟨s,V,g⟩:=bind_some h;by_cases q:s.length+1=n
  .rw[ai q] at g;refine{u,x,D,W,λv H1 z B=>?_};sleep 1;obtain⟨p,C',dx,U,rfl,T,S,R⟩:=rF i B;sleep 2;have:=T.uniq P;subst this;exact{p,dx,U,rfl,S,R,u,s,D.same z,V,λvs H2 y E=>{x::s,d,by rw[aK];exact a9.cons (B.same y) E,by simpa using q,g,k.later (z.trans y)}}
  .rw[aq q] at g;cases g
 .rw[aq i] at h;cases h
def Cw{q c:Str}{F:Lp->Od} (N:Cv X.prog X.w X.K X.mg X.base q c j n F) (B:PD X o f) (z:iq k X.A) (E:zd0 (j<=k))
  (u:eval (.Call (.Attribute o c apos) [] [] pos) X.env=(do
   let ov <-eval o X.env
   standAt apos.atName
   let (f,first) <-holding [ov] (getMethod ov c pl)
   callWith pos f first (backTo pos (starEach [] X.env)) (backToKw pos (keywordEach [] X.env))):=by rfl):PF X (.Call (.Attribute o c apos) [] [] pos) (nW q c n F f gm):=by
 sleep 1;obtain⟨C,a,V,U,G,m,D,S,b⟩:=N.ex;sleep 2;refine PE.imp (BQ (pl:=pl) B m D (S.mono E) z b .nil qA u) ?_;rintro T H Q ⟨s,d,y,e,k⟩;obtain⟨x,P,h⟩:=bind_some e;by_cases i:oy q c x=true
 .rw[ai i] at h;obtain⟨W,O,g⟩:=bind_some h;cases O;by_cases l:([]:Lp).length+1=n
  .rw[ai l] at g;refine{s,x,y,P,λv H1 t r=>?_};sleep 1;obtain⟨p,C',R,M,rfl,L,J,I⟩:=rF i r;sleep 2;have:=L.uniq G;subst this;exact{p,R,M,rfl,J,I,[x],d,a9.cons r a9.nil,by simpa using l,g,k.later t}
  .rw[aq l] at g;cases g
 .rw[aq i] at h;cases h
def tj(x y:fZ):Od:=match x,y with
 |.list xs,.int k=>if 0<=k/\k<=1000/\xs.length<=1000 then Y (.list (List.replicate k.toNat xs).flatten) else Z
 |_,_=>Z
theorem a9.rep{K:Fg}{H:Hp}{b:Lp}{a:List V}(h:a9 K H b a):∀k:Nat,a9 K H (List.replicate k b).flatten (List.replicate k a).flatten
 |0=>a9.nil
 |k+1=>by rw[bK,bK,cT,cT];exact h.append (a9.rep h k)
def UE(I:PF X a fa)(G:PD X b fb):PF X (.BinOp a .Mult b pos) (d2 tj fa fb) :=
 PE.imp (Jn TJ I G) <| by
  rintro N H Q ⟨o,d,z,e,k⟩;obtain⟨x,M,e⟩:=bind_some e;obtain⟨y,L,c⟩:=bind_some e;obtain⟨i,rfl⟩:∃i,x=.list i:=by cases x<;>first|exact{_,rfl}|(cases y<;>cases c)
  obtain⟨n,rfl⟩:∃n,y=.int n:=by cases y<;>first|exact{_,rfl}|cases c
  dsimp only[tj] at c;by_cases t:0<=n/\n<=1000/\i.length<=1000
  .rw[ai t] at c;cases c;refine{o,_,z,M,λv R S r h B=>?_};sleep 1;obtain⟨q,O,rfl,rfl,C⟩:=B.cont rfl;sleep 2;obtain⟨f,rfl,s⟩:=C.lst;refine{o,_,z.same (r.trans h.same),L,λu A j D=>?_};have E:A q=Y (.lst f):=j _ _ (gp h.nd (q,.lst f) (by simp));have P:=s.length;have g:(2:Int) ^ 63=9223372036854775808:=by decide
   have m:f.length*n.toNat<=sizeLine:=by
    have K:f.length<=1000:=by omega
    have J:n.toNat<=1000:=by omega
    exact bJ (Nat.mul_le_mul K J) (by decide)
   have l:=(s.same (h.same.trans j)).rep n.toNat;refine{q,n,f,rfl,bC.d5.mp D,E,by rw[g];omega,by rw[g];omega,m,λp F=>?_};exact k (.ref p) A [(p,.lst (List.replicate n.toNat f).flatten)] (r.trans (h.same.trans j)) {by simp,(λx w=>by simp at w;subst w;exact F),.one aY .nil} (iZ.Ug (.inl {_,_,rfl,rfl,l}))
  .rw[aq t] at c;cases c
def Ik(i:Nat) {py r:Pos}{l:Expr}{L:Pos}{t:Lx} (a:List (Nat×Str)) {g:aC->Option Bool} (hN:X.N.Nodup) (R:O.Nodup)
  (hi:F7 X (.Name x L) iter q)
  (ht:∀C s H fp,uH (kL X scope C (x::a.map (·.2)) s H fp) t g)
  (he:∀C s H fp,PD (kL X scope C (x::a.map (·.2)) s H fp) l f) (hO:zd0 (i∈O)) (o_:zr0 (jI O=false)) (h0:zr 11 (i≠0\/m=.dat\/m=.own))
  (hc:zr0 (X.calm=true)) (S:zr 7 (jM scope x)) (w:zr0 (ti X scope=true)) (A:zr 8 (kF X scope a)) (U:zr 9 ((x::a.map (·.2)).Nodup))
  (W:zr0 (X.N[i]?=Y y)) (hy:zr0 (X.env.scope.names.lookup y=Y .local)) (T:zr0 (swapsWith (.ListComp l [{.Name x L,iter,t,0}] scope pos) (Y (.Name y py)) r.line X.env=pure true))
  (j:zr 2 (∀x,foldedSetIterable iter X.env x=pure x)):mX X m O (.Assign [.Name y py] (.ListComp l [{.Name x L,iter,t,0}] scope pos) r) (j7 (gf O (i8 q a g f)) i):=by
 intro pins s u H D I hQ;have p_:∀C s H fp,PE (kL X scope C (x::a.map (·.2)) s H fp) l (λu G Q=>∃p F,ju X.K G u p/\f p=Y F/\∀v G',dV G G'->(∀(b:Hp) ds vs,a9 X.K G ds vs->a9 X.K G' (ds++[F]) (vs++[v]))->Q v G'):=λC s H fp=>
  PE.imp (he C s H fp) <| by rintro u G Q ⟨p,F,j,e,k⟩;exact{p,F,j,e,λv G1 sG iv=>k v G1 sG λb ds vs iw=>(iw.same sG).append (a9.cons iv a9.nil)}
 refine PS.imp (PS.frame (Ad (vv (λ_ G ds vs=>a9 X.K G ds vs) (λh=>h.length) (λh e=>h.same e) hc S (jU I w) A U hi ht p_) S (jU I w) hN W hy T j)) (?_) s u H D I hQ;rintro D u H ⟨p,o,G,j,e,k⟩;obtain⟨d,e1,J⟩:=bind_some e;by_cases V:i<p.length
 .rw[ai V] at J;cases J;obtain⟨B,eH,fm,M⟩:=j.o.ex;refine{G,B,eH,fm,iz O p,d,j.o.rest,e1,a9.nil,λys c n vs ed s0 hD hA E=>?_};subst ed;have f1:jv c [(n,HO.lst vs)]:={by simp,(λx hx=>by simp at hx;subst hx;exact hD),.one aY .nil}
  have eu:upd c n (.lst vs)=b9 c [(n,HO.lst vs)]:=rfl;rw[eu] at E ⊢;have f2:jv c (B++[(n,HO.lst vs)]):=f1.join E;have P:iZ (jI O) X.K c (.list ys) (.ref n) [(n,HO.lst vs)]:=by rw[o_];exact iZ.Ug (.inl {(ys),vs,rfl,rfl,hA})
  have f3:jv c ([(n,HO.lst vs)]++B):=f2.perm bc (P.mh.append fm.ok);have e3:b9 (b9 c [(n,HO.lst vs)]) B=b9 (b9 c B) [(n,HO.lst vs)]:=by rw[<-hE,<-hE];exact ik f2.nd bc
  have h1:gQ O X.K u p (b9 c B) c:=gQ.sT j.o.len M j.o.lz s0 (f3.B9 fm.ok);obtain⟨G2,s2,h2⟩:=h1.new R hO V P (f3.B8 P.mh);rw[e3];refine k _ _ G2 (s0.trans s2) {h2,λdp v0 z=>?_};rcases h0 with h0|h0|h0
  .rw[av h0];exact j.z dp v0 z
  .rw[h0] at z;cases z
  .rw[h0] at z;cases z
 .rw[aq V] at J;cases J
end
section
variable {a:Expr}
end
def Pu:Nat->(Lw->Prop)->Prop
 |0,p=>p []
 |n+1,p=>∀v,Pu n λa=>p (v::a)
theorem Pu.all:∀{n:Nat}{p:Lw->Prop},Pu n p->∀a:Lw,a.length=n->p a
 |0,_,h,[],_=>h
 |_+1,_,h,v::a,e=>(h v).all a (Nat.succ.inj e)
def NQ(x q:Str)(a:Stmt)(d:Lr):Prop:=∀(f b e:Value) (an:Option Addr) (qf ct:Value),Pu d.length λc=>bindArgs (W.fnOf x q (l7 a) (ie a) (bD a) .none f b e an qf ct) {c,[]}=pure (d.zip c)
theorem NQ.to{K:Fg}{q:Str}(h:NQ x q st ps)(F:DH K x q st a fd):jK K fd ps []:=F.binds λg b f j c i d e=>(h g b f j c i).all d e
def ic(K:Fg)(c:Str->Ow)(x:Str)(b:Stmt):Prop:=∃a d,c x=Y (.ref a)/\DH K x x b a d
def UG(K:Fg)(c m q:Str)(b:Stmt):Prop:=∃C a d,iE K c C/\HB K C/\HC K C m a/\DH K m q b a d
def K7(K:Fg)(d:Str->Ow)(c q:Str)(b:Stmt):Prop:=∃C a e,iE K c C/\d c=Y (.ref C)/\Mk K C a/\DH K "__init__" q b a e
section
variable {K:Fg}{m q:Str}{f:Addr}{od an:Option Addr}{sl:Array Ow}{oc kV dc pm cd ct:Value}
def fnAt(X:K.In h)(G:h.Ns mainGlobals mg)(a:W.nsIn K mainGlobals x=Y (Y (.ref f)))(l:K.lookup f=Y {oc,od,.func (W.fnOf x x (l7 st) (ie st) (bD st) .none kV dc pm an cd ct),sl})(c:W.codeIn K cd x=true)(k:W.keepIn K (.ref f)=true):ic K mg x st :=
 {f,_,W.mg_of X G a,z4 l c k}
def intAt{n:Int}{t:Tok}(X:K.In h)(G:h.Ns mainGlobals mg)(a:W.nsIn K mainGlobals x=Y (Y (.int n t))):Ig K mg x (.int n):=k_ (W.mg_of X G a)
def XH(a:W.nsIn K mainGlobals c=Y (Y (.ref C))) (p:W.plainGet K C Str.empty=true) (d:W.hasDictIn K C=true) (o:W.plainOver K C=true) (s:W.findIn K (.ref C) "__setattr__"=Y (Y (.builtin "object.__setattr__")))
  (n:W.findIn K (.ref C) x=Y Z):jw K c x:={C,a,{(p),d,o,s},n}
def q_(a:W.nsIn K mainGlobals c=Y (Y (.ref C))) (p:W.plainGet K C Str.empty=true) (d:W.hasDictIn K C=true) (o:W.plainOver K C=true) (s:W.findIn K (.ref C) "__setattr__"=Y (Y (.builtin "object.__setattr__")))
  (n:W.findIn K (.ref C) m=Y (Y (.ref f))) (i:W.isFn K (.ref f)=true) (l:K.lookup f=Y {oc,od,.func (W.fnOf m q (l7 st) (ie st) (bD st) .none kV dc pm an cd ct),sl}) (e:W.codeIn K cd q=true) (k:W.keepIn K (.ref f)=true):UG K c m q st :=
 {C,f,_,a,{(p),d,o,s},{(n),i,k},z4 l e k}
def UH(X:K.In h) (G:h.Ns mainGlobals mg) (a:W.nsIn K mainGlobals c=Y (Y (.ref C))) (m:W.makesIn K C=true) (b:W.keepIn K (.ref C)=true)
  (n:W.findIn K (.ref C) "__init__"=Y (Y (.ref f))) (i:W.isFn K (.ref f)=true) (l:K.lookup f=Y {oc,od,.func (W.fnOf "__init__" q (l7 st) (ie st) (bD st) .none kV dc pm an cd ct),sl}) (e:W.codeIn K cd q=true) (k:W.keepIn K (.ref f)=true):K7 K mg c q st :=
 {C,f,_,a,W.mg_of X G a,{(m),n,i,b},z4 l e k}
end
section
variable {P:Program}{K:Fg}{m q:Str}{N:Lr}{k:Nat}{fa:Addr}
abbrev yE(P:Program)(w:World)(K:W.Frag)(e:Str->Option Value)(c:Heap)(q:Str)(d:Stmt)(N:List Str)(k:Nat)(f:V->Md)(O:List Nat)(g:aC->Option Out):Prop :=
 ∀{v0:V}{fa:Addr}{b:Value}{A:Around}{a:List Env}{s:Shared}{H:Hp}{E:XK},iq k (A.deeper (envOfC q (bD d) (zB s) fa b))->(A.deeper (envOfC q (bD d) (zB s) fa b)).units+64<cLine->N.Nodup->O.Nodup ->
  mQ (sP xf P w K e c N q (bD d) fa b A a s H E).Rp (f v0) O (ie d) g
theorem gA(O:List Nat) (F:ic K mg x st) (f:yE P w K mg base x st N k (λ_=>.dat) O g) (S:zr 5 (iT N (N.take n) (bD st))) (e:zr0 (n=(N.take n).length)) (h:zd0 (∀i∈O,n<=i)) (c:zd0 (O.Nodup))
  (o:zr 6 (NQ x x st (N.take n))):nR P w K mg base x (k+1) n (ij N g):=by
 obtain⟨a,l,j,F⟩:=F;exact{a,l,N.take n,Ei F S e h λm A b s H E d=>f (v0:=.lz) d d.units S.nd c,j,F.kp,o.to F}
theorem K8(O:List Nat) (F:ic K mg x st) (f:yE P w K mg base x st N k (λ_=>.own) O g) (S:zr 5 (iT N (N.take n) (bD st))) (e:zr0 (n=(N.take n).length)) (h:zd0 (∀i∈O,n<=i)) (c:zd0 (O.Nodup))
  (o:zr 6 (NQ x x st (N.take n))):Ai P w K mg base x (k+1) n (HW N g):=by
 obtain⟨a,l,j,F⟩:=F;exact{a,l,N.take n,Uq F S e h λm A b s H E d=>f (v0:=.lz) d d.units S.nd c,j,F.kp,o.to F}
theorem Cy(O:List Nat) (F:ic K mg x st) (f:yE P w K mg base x st N k (.io (jI (0::O))) (0::O) g) (S:zr 5 (iT N (N.take n) (bD st))) (e:zr0 (n=(N.take n).length)) (h:zd0 (∀i∈O,n<=i)) (b:zd0 ((0::O).Nodup)) (j:zd0 (n≠0))
  (p:zr 6 (NQ x x st (N.take n))):Ej (jI (0::O)) P w K mg base x (k+1) n (nV N g):=by
 obtain⟨a,l,m,F⟩:=F;exact{a,l,N.take n,RL F S e j b h λq o A c s H E d=>f d d.units S.nd b,m,F.kp,p.to F}
def Av(O:List Nat) (F:K7 K mg c q st) (l:yE P w K mg base q st N k (.io (jI (0::O))) (0::O) g) (S:zr 5 (iT N (N.take n) (bD st))) (h:zr0 (n=(N.take n).length)) (m:zd0 (∀i∈O,n<=i)) (b:zd0 ((0::O).Nodup)) (o:zd0 (n≠0)) (j:zr0 (jI (0::O)=false))
  (v:zr 6 (NQ "__init__" q st (N.take n))):sX P w K mg base c (k+1) n (nV N g):=by
 sleep 1;obtain⟨C,a,p,t,r,M,F⟩:=F;sleep 2;have f:=RL F S h o b m λx u A d s H E e=>l e e.units S.nd b;rw[j] at f;exact{C,a,p,N.take n,t,r,M,f,v.to F}
def XI(O:List Nat) (F:UG K c m q st) (h:yE P w K mg base q st N k (λ_=>.dat) O g) (S:zr 5 (iT N (N.take n) (bD st))) (f:zr0 (n=(N.take n).length)) (j:zd0 (∀i∈O,n<=i)) (d:zd0 (O.Nodup))
  (t:zr 6 (NQ m q st (N.take n))):u5 P w K mg base c m (k+1) n (ij N g):=by
 sleep 1;obtain⟨C,a,l,p,o,M,F⟩:=F;sleep 2;exact{C,a,l,N.take n,p,o,M,Ei F S f j λr A b s H E e=>h (v0:=.lz) e e.units S.nd d,t.to F}
theorem UI{b:Str} (O:List Nat) (h:mg x=Y (.ref fa)) (F:ic K mg x st) (q:∀base:Heap,yE P w K mg base x st (b::N) k (λ_=>.dat) O g) (S:zr 5 (iT (b::N) [b] (bD st))) (r:zd0 (∀i∈O,1<=i)) (f:zd0 (O.Nodup))
  (y:zr 6 (NQ x x st [b])):∃d:FuncData,(∀(s:Shared) (u:Value),BindsTo s d {[u],[]} [(b,u)])/\∀base:Heap,K.In base->base.Ns mainGlobals mg->kz P w K mg base xf (k+1) fa d [b] (T9 K 1 (ij (b::N) g)):=by
 obtain⟨a,d,t,F⟩:=F;cases h.symm.trans t;refine{d,λs u=>?_,λbase _ _=>Ei F S rfl r λc A e s H E l=>q base (v0:=.lz) l l.units S.nd f};sleep 1;obtain⟨C,B,o,j,m,z,c,v,n,rfl,D,p⟩:=F.ex;sleep 2;exact .of_eq (y o j m z c v u)
variable {a:Expr}{fa:aC->Od}
def ixA(d:X.A.units+64<cLine)(g:PD X a fa)(f:PD X b fb)(e:zr 13 (rj b))(c:zr 13 (D2 b)):PD X (.Subscript a b pos) (zX fa fb):=Ud d g f e c
def r_{c:CmpOp}{g:fZ->fZ->Od}(d:ro X (compareOp c) g)(h:PD X a fa)(f:PD X b fb)(e:zr 14 (behindInMarks c b=false)):z6 X (.Compare a [c] [b] pos) (fB (d2 g fa fb)):=Ov d h f e
def s_{c:CmpOp}{g:fZ->fZ->Od}(d:ro X (compareOp c) g)(h:PD X a fa)(f:PD X b fb)(e:zr 14 (behindInMarks c b=false)):PD X (.Compare a [c] [b] pos) (d2 g fa fb):=TQ d h f e
end
section
variable {a c:Expr}
end
section
variable {prog:Program}{g:Array GenState}{d:Drawn}{t:Nat}{os:OsState}
variable {nm q:Str}{N:Addr}{bs bm UJ:Lw}{K9:Bool}{sn:Lr}{sub:Lw}{ab:Bool}{col:Option Bool}{dd:Option Addr}{k0 k1 k2 k3 k5:Ow}{B newId vK:String}
theorem qz(F:ExcBaseFacts B newId vK UJ) (T:OwnTail h UJ bm) {m:Str->Ow}{a:Lw}{u:Addr}{v:Obj}{Q:Fin->Shared->Prop}
  (k:h.get? C=Y (excClassObj nm q C N bs bm K9 sn sub ab col dd k0 k1 k2 k3 k5 newId)) (D:h.Ns N m) (G:m "__init__"=Y (.ref u))
  (p:h.get? u=Y v) (n:v.cls=.type "function")
  (z:∀h' e,Heap.MadeExcOf h h' e (.ref C) a->h.objs.size<=e ->
   wpAny (model prog w) A (call (.ref u) (.ref e::a)) (λr s'=>r=.none/\Q (.done (.ret (.ref e))) s') E {(h'),g,d,t,os}) (hrest:zr 12 (a.length<=sizeLine)):
  wpAny (model prog w) A (Builtin.«type.__call__» {.ref C::a,[]}) Q E {(h),g,d,t,os}:=by
 repeat (first|with_reducible refine wpAny_loadPart_at k ?_|with_reducible refine wpAny_madeBy_exc k ?_|wp_step)
 refine codeAny_call_builtin_code (Code.quiet_builtin _ F.quiet) (wpAny_check_new_subT F T k ?_);refine codeAny_exc_new_subT F T k ?_ hrest;show wpAny _ _ _ _ _ _;have c:=af { cls:=.ref C,data:=.fields #[.ref h.objs.size,.none,.none,.none,.bool false,.none] }
  (af { cls:=.type "tuple",data:=.seq a.toArray } k)
 have f:=af { cls:=.ref C,data:=.fields #[.ref h.objs.size,.none,.none,.none,.bool false,.none] }
  (af { cls:=.type "tuple",data:=.seq a.toArray } p)
 have j:((h.push { cls:=.type "tuple",data:=.seq a.toArray }).push { cls:=.ref C,data:=.fields #[.ref h.objs.size,.none,.none,.none,.bool false,.none] }).Ns N m :=
  let ⟨o,J,K,e,r⟩:=D;{o,J,K,af _ (af _ e),r}
 have i:((h.push { cls:=.type "tuple",data:=.seq a.toArray }).push
   { cls:=.ref C,data:=.fields #[.ref h.objs.size,.none,.none,.none,.bool false,.none] }).get? (h.objs.size+1)=Y
   { cls:=.ref C,data:=.fields #[.ref h.objs.size,.none,.none,.none,.bool false,.none] }:=by heap_get
 have s:(Value.ref C::bm).contains (.ref C)=true:=by simp
 have l:=T.keeps (h':=(h.push { cls:=.type "tuple",data:=.seq a.toArray }).push { cls:=.ref C,data:=.fields #[.ref h.objs.size,.none,.none,.none,.bool false,.none] })
  λb o e=>af _ (af _ e)
 unfold isInstance
 repeat (first|with_reducible refine wpAny_loadPart_at i ?_|(with_reducible refine wpAny_isSubtype_exc c ?_;rw[s])|wp_step)
 show wpAny _ _ (typeLookup (.ref C) _) _ _ _;refine wpAny_typeLookup_tail c j l F.mroIs F.init.lookup ?_;rw[G];refine bp (aa ?_);unfold bindSpecial;refine aa (cQ (T:="function") {_,f,n} ?_);rw[ai (by decide)];refine ak (aa (bM (z _ (h.objs.size+1) {λb o H=>af _ (af _ H),Heap.get?_none_of_le (fP _),h.objs.size,i,Heap.get?_none_of_le (aH _),?_} (fP _)) (λr s' y=>?_) λ_ _ x=>x))
 .exact af _ (Heap.get?_push_at rfl rfl)
 .obtain⟨rfl,I⟩:=y
  wp_walk
  exact I
def vL(F:ExcBaseFacts B newId vK UJ) (T:OwnTail h UJ bm) {j:Str->Ow}{a:Lw}{fI:Addr}{i:Obj}{Q:Px}
  (b:h.get? C=Y (excClassObj nm q C N bs bm K9 sn sub ab col dd k0 k1 k2 k3 k5 newId)) (m:h.Ns N j) (o:j "__init__"=Y (.ref fI))
  (f:h.get? fI=Y i) (c:i.cls=.type "function")
  (l:∀h' e,Heap.MadeExcOf h h' e (.ref C) a->h.objs.size<=e ->
   wpAny (model prog w) (A.under (.builtin "type.__call__" {.ref C::a,[]})) (call (.ref fI) (.ref e::a)) (λr s'=>r=.none/\Q (.ref e) s') E {(h'),g,d,t,os}) (hrest:zr 12 (a.length<=sizeLine)):
  wpAny (model prog w) A (call (.ref C) a) Q E {(h),g,d,t,os}:=by
 have u:=tc_lookup;have s:=tc_bind (.ref C);have p:({(h),g,d,t,os}:Shared).TypeIs (.ref C) "type":={_,b,rfl}
 refine wpAny_call (codeAny_of_tree ?_);show wpAny _ _ (callAny (.ref C) _) _ _ _
 repeat (any_goals (first|assumption|with_reducible refine wpAny_loadPart_at b ?_|wp_step))
 refine{rfl,?_};refine codeAny_call_builtin_at (Code.quiet_builtin _ (by decide +kernel)) entry_typeCall (wpAny_check_type_call_sub b (qz (hrest:=hrest) F T b m o f c λh' e n k=>?_));exact l h' e n k
end
section
variable {M:Model}{env:Env}
variable {nm q:Str}{N:Addr}{bs bm:Lw}{K9:Bool}{sn:Lr}{sub:Lw}{ab:Bool}{col:Option Bool}{dd:Option Addr}{k0 k1 k2 k3 k5:Ow}{newId:String}
end
section
variable {prog:Program}{g:Array GenState}{d:Drawn}{t:Nat}{os:OsState}
variable {nm q:Str}{N:Addr}{bs bm UJ:Lw}{K9:Bool}{sn:Lr}{sub:Lw}{ab:Bool}{col:Option Bool}{dd:Option Addr}{k0 k1 k2 k3 k5:Ow}{B newId vK:String}
theorem vM(F:ExcBaseFacts B newId vK UJ) (T:OwnTail h UJ bm) {e l:Addr}{a:Lw}{Q:Px}
  (n:h.get? C=Y (excClassObj nm q C N bs bm K9 sn sub ab col dd k0 k1 k2 k3 k5 newId)) (j:h.get? e=Y { cls:=.ref C,data:=.fields #[.ref l,.none,.none,.none,.bool false,.none] })
  (m:∀h',(∀b o,b≠e->h.get? b=Y o->h'.get? b=Y o)->h'.get? e=Y { cls:=.ref C,data:=.fields #[.ref h.objs.size,.none,.none,.none,.bool false,.none] } ->
   h'.get? h.objs.size=Y { cls:=.type "tuple",data:=.seq a.toArray }->Q .none {(h'),g,d,t,os}) (c:zr 12 (a.length<=sizeLine)):
  wpAny (model prog w) A (call (.builtin vK) (.ref e::a)) Q E {(h),g,d,t,os}:=by
 refine wpAny_call (codeAny_call_builtin F.init.plain F.initEntry (wpAny_check_init_subT F T n j rfl ?_));have i:=af { cls:=.type "tuple",data:=.seq a.toArray } j;have f:h.objs.size≠e:=df (au j)
 wp_walk
 refine m _ (λb o hb k=>?_) ?_ ?_
 .rw[aT _ _ (Ne.symm hb)];exact af _ k
 .rw[bq _ i rfl];rfl
 .rw[aT _ _ (Ne.symm f)];exact aG _ rfl
end
end L2
namespace L2
open PySem PySem.Spec PyProof.Rows PySem.W
open PySem.Builtin PySem.Builtin.ObjectAttr
structure Pw (K:Frag) (C:Addr):Prop where
 sa:findIn K (.ref C) "__setattr__"=Y (Y (.builtin "object.__setattr__"))
 cd:∃cd,clsIn K C=Y cd/\cd.hasDict=true/\cd.mro.contains (.type "object")=true/\∀self:Value,refuseLoop self "__setattr__" cd.mro=pure ()
section
variable {prog:Program}{K:Frag}{e:Addr}{vs:Array Value}{name:Str}{v:Value}
def La{b:Bool}{u:Tok}{Q:Fin->Shared->Prop} (X:K.In s.heap) (c:Pw K C) (j:s.heap.get? e=Y { cls:=.ref C,data:=.fields vs })
  (B:∀h' NP dx,h'.get? e=Y { cls:=.ref C,dict:=Y dx,data:=.fields vs }->s.heap.get? dx=Z->h'.Ns dx (λy=>if y=name then Y v else Z) ->
   (∀b o,b≠e->s.heap.get? b=Y o->h'.get? b=Y o)->Q (.done (.ret .none)) { s with heap:=h',toks:=NP }):
  wpAny (model prog w) A (storeInOwnDict (.ref e) (.ref C) (.str name u) name v b) Q E s:=by
 sleep 1;obtain⟨h,g,d,t,I⟩:=s;sleep 2;sleep 1;obtain⟨M,F,p,-,-⟩:=c.cd;sleep 2;have a:(h.push { cls:=.type "dict",data:=.dict #[] }).get? e=Y { cls:=.ref C,data:=.fields vs }:=af _ j;have f:e≠h.objs.size:=aR (au j);refine aa (ak (aa (aa (wpAny_loadPart j (aa ((looks_clsIn X F).here ?_))))));rw[p];show wpAny _ _ _ _ _ _;refine aa (wpAny_alloc' ?_);refine aa (wpAny_update' a ?_);refine ak ?_;have m:((h.push { cls:=.type "dict",data:=.dict #[] }).update e λo=>{ cls:=o.cls,dict:=Y h.objs.size,data:=o.data,slots:=o.slots }).get? h.objs.size
  =Y { cls:=.type "dict",data:=.dict #[] } :=
  (Heap.get?_update_ne _ _ _ _ f.symm).trans (Heap.get?_push_at rfl rfl)
 have l:((h.push { cls:=.type "dict",data:=.dict #[] }).update e λo=>{ cls:=o.cls,dict:=Y h.objs.size,data:=o.data,slots:=o.slots }).Ns h.objs.size (λ_=>Z) :=
  {_,#[],_,m,rfl,λe D=>absurd D (by simp),λ_=>rfl}
 show wpAny _ _ (storeInDict h.objs.size (.str name u) name v) _ _ _;unfold storeInDict newKeyGuard;refine aa (ak (aa (wpAny_nsSet1 (Heap.Ns1.of_empty l) λh' i x=>?_)));sleep 1;obtain⟨L,G,H,k,n,q⟩:=i.count (Within.cons name v Within.nil);sleep 2;refine aa (wpAny_lookBehind k (by rw[n];exact pastItsLine_dict (bJ q (by rw[ax,dn,sizeLine_eq];omega))) ?_)
 wp_walk
 refine B h' _ h.objs.size ?_ (Heap.get?_none_of_le (aH _)) i.ns λb J r z=>?_
 .exact(x.2 e f).trans (bq _ a rfl)
 .exact(x.2 b (aR (au z))).trans ((Heap.get?_update_ne _ _ _ _ r).trans (af _ z))
def UK{d:Tok} (X:K.In s.heap) (c:Pw K C) (n:findIn K (.ref C) name=Y Z) (i:s.heap.get? e=Y { cls:=.ref C,data:=.fields vs })
  (m:∀h' NP dx,h'.get? e=Y { cls:=.ref C,dict:=Y dx,data:=.fields vs }->s.heap.get? dx=Z->h'.Ns dx (λy=>if y=name then Y v else Z) ->
   (∀b o,b≠e->s.heap.get? b=Y o->h'.get? b=Y o)->R (.ok (.ret .none)) { s with heap:=h',toks:=NP }):
  codeAny (model prog w) A (.call (.builtin "object.__setattr__") {[.ref e,.str name d,v],[]}) R s:=by
 have I:InstAt s.heap e { cls:=.ref C,data:=.fields vs } C Z:={(i),rfl,rfl,trivial}
 sleep 1;obtain⟨h,j,r,g,l⟩:=id c.cd;sleep 2;have a:=PySem.F.store_object;have k:h.mro.isEmpty=false:=by cases q:h.mro with|nil=>rw[q] at g;cases g|cons _ _=>rfl
 have f:Looks (model prog w) s.heap (isInstance (.ref e) (.type "object")) true:=I.type.andThen (looks_mroIn X (by unfold mroIn;rw[j,aL,aq (by rw[k];decide),g]));have p:Looks (model prog w) s.heap (mroOf (.ref C)) h.mro:=(looks_clsIn X j).andThen .now;refine codeAny_call_builtin a.slot.plain a.entry (@check_slot (model prog w) _ _ s "object.__setattr__" "object" "__setattr__" (.ref e) [.str name d,v] [] _ a.kind a.split f (a.args (.ref e) (.str name d) v) ?_);rw[osa_eq,refuse_eq];refine aa (aa (I.type.here (aa (p.here ?_))));rw[l];refine ak (aa (I.type.here (aa ((looks_findIn X n).here (aa (ak ?_))))));exact La X c i λh' NP dx z x u t=>m h' NP dx z x u t
def UL{Q:Unit->Shared->Prop} (X:K.In s.heap) (c:Pw K C) (f:findIn K (.ref C) name=Y Z) (a:s.heap.get? e=Y { cls:=.ref C,data:=.fields vs })
  (d:∀h' NP dx,h'.get? e=Y { cls:=.ref C,dict:=Y dx,data:=.fields vs }->s.heap.get? dx=Z->h'.Ns dx (λy=>if y=name then Y v else Z) ->
   (∀b o,b≠e->s.heap.get? b=Y o->h'.get? b=Y o)->Q () { s with heap:=h',toks:=NP }):
  wpAny (model prog w) A (setAttr (.ref e) name v) Q E s :=
 set_plain X (ox:={ cls:=.ref C,data:=.fields vs }) (od:=Z) {(a),rfl,rfl,trivial} c.sa (UK (s:={ s with toks:=s.toks+1 }) X c f a d)
end
end L2
namespace L2
open PySem PySem.Spec PyProof.Rows PySem.W
open PySem.Builtin PySem.Builtin.ObjectAttr
structure Lb (K:Frag) (C:Addr):Prop where
 ga:findIn K (.ref C) "__getattribute__"=Y (Y (.builtin "BaseException.__getattribute__"))
 hook:findIn K (.ref C) "__getattr__"=Y Z
 sub:subIn K (.ref C) (.type "BaseException")=Y true
 cd:∃cd,clsIn K C=Y cd/\cd.hasDict=true
section
variable {prog:Program}{K:Frag}{e dx:Addr}{o:Obj}{name:Str}{v:Value}{m:Str->Ow}
def Lc(c:Value)(name:Str)(e:Tok):Builtin.«object.__getattribute__» {[c,.str name e],[]}=(typeOf c>>=λd=>ObjectAttr.find c d name>>=λr=>match r with
 |.value v=>ret v
 |.bind g a=>bindTo g a c d
 |.missing=>do
  if d==.type "module" then
   if <-isOpaqueModuleObj c then
    let b:=match (<-stack).drop 1 with
     | (.builtin "module.__getattribute__" ⟨m::_,_⟩,_)::_=>m==c
     |_=>false
    if !b then unsupported "thirdparty:object.__getattribute__:a-miss-on-an-opaque-module"
  if d==.type "type" then
   if let Y key <-opaqueClassAbove c then unsupported s!"thirdparty:{key.toString}.{name.toString}:object.__getattribute__-misses-on-an-opaque-class"
  noSuchAttribute c name):=by kernel_rfl
theorem UM{a:Tok} (X:K.In s.heap) (c:Lb K C) (t:findIn K (.ref C) name=Y Z) (d:s.heap.get? e=Y o) (j:o.cls=.ref C) (i:o.dict=Y dx) {g:Array Value} (h:o.data=.fields g)
  (k:s.heap.Ns dx m) (u:m name=Y v) (n:R (.ok (.ret v)) s):
  codeAny (model prog w) A (.call (.builtin "BaseException.__getattribute__") {[.ref e,.str name a],[]}) R s:=by
 obtain⟨y,od,l,b⟩:=o;dsimp only at j i h;subst j i h;sleep 1;obtain⟨od,z,B,q,p,r⟩:=id k;sleep 2;have I:InstAt s.heap e {.ref C,Y dx,.fields g,b} C (Y od):={(d),rfl,rfl,q}
 obtain⟨D,f,x⟩:=c.cd;refine codeAny_call_builtin (by decide +kernel) F.entry_bexc_ga (@check_slot (model prog w) _ _ s "BaseException.__getattribute__" "BaseException" "__getattribute__" (.ref e) [.str name a] [] _ (by decide +kernel) (by decide +kernel) (I.type.andThen (looks_subIn X c.sub)) (F.args_bexc_ga (.ref e) (.str name a)) ?_);rw[Lc];refine aa (I.type.here (aa ?_));unfold ObjectAttr.find;refine aa ((looks_findIn X t).here (aa (ak (aa (ak ?_)))));unfold ownThenClass inOwnDict ObjectAttr.ownDict;refine aa (aa (aa ?_));unfold loadHead;refine wpAny_loadPart d ?_;show wpAny _ _ (instanceDict e false) _ _ _;unfold instanceDict;refine aa (wpAny_loadPart d (aa ((looks_clsIn X f).here ?_)));rw[x];refine ak ?_;show wpAny _ _ (nsGet dx name) _ _ _;refine wpAny_nsGet k ?_;rw[u];exact aa (fH (ak (ak n)))
def UN{a:Bool}{Q:Px} (X:K.In s.heap) (c:Lb K C) (u:findIn K (.ref C) name=Y Z) (g:s.heap.get? e=Y o) (f:o.cls=.ref C) (d:o.dict=Y dx) {i:Array Value} (b:o.data=.fields i)
  (h:s.heap.Ns dx m) (x:m name=Y v) (y:handedIn v=true) (p:Q v { s with toks:=s.toks+1 }):wpAny (model prog w) A (getAttr (.ref e) name a) Q E s:=by
 have n:Looks (model prog w) s.heap (typeOf (.ref e)) (.ref C):=by sleep 1;obtain⟨od,F,G,t,q,r⟩:=id h;sleep 2;obtain⟨D,k,l,j⟩:=o;dsimp only at f d b;subst f d b;exact InstAt.type (od:=Y od) {(g),rfl,rfl,t}
 have z:Looks (model prog w) s.heap (hookBefore (.ref C)) Z:=looks_hook X (by rw[ai (show onTheHeap (.ref C)=true from rfl)];exact c.hook);refine aa (wpAny_mkText (bp (aa (n _ _ _ _ (λ_ _ e=>e) (aa (looks_findIn X c.ga _ _ _ _ (λ_ _ e=>e) ?_))))));dsimp only;rw[show (onTheHeap (.ref C)&&Value.builtin "BaseException.__getattribute__"==Value.builtin "object.__getattribute__")=false from by rw[show (Value.builtin "BaseException.__getattribute__"==Value.builtin "object.__getattribute__")=false from by decide +kernel,Bool.and_false],aq (by decide)];refine aa (z _ _ _ _ (λ_ _ e=>e) (aa (wpAny_attempt (bp ?_))));unfold callGetattribute;rw[show (a&&onTheHeap (Value.builtin "BaseException.__getattribute__"))=false from Bool.and_false _,aq (by decide)];unfold boundAndCalled;have B:bindSpecial (.builtin "BaseException.__getattribute__") (.ref e)=pure (.builtin "BaseException.__getattribute__",[.ref e]):=by kernel_rfl
 rw[B];refine aa (ak ?_);show wpAny _ _ (call (.builtin "BaseException.__getattribute__") [.ref e,.str name s.toks]) _ _ _;refine wpAny_call (UM (s:={ s with toks:=s.toks+1 }) X c u g f d b h x ?_);show wpAny _ _ (handedOut v) _ _ _;rw[handedOut_of y];exact ak p
end
end L2
namespace L2
open PySem PySem.Spec PyProof.Rows
structure BG (h₀:Heap) (fs:List Addr) (C e:Addr) (dx:Option Addr) (m:Str->Ow) (fl:Value) (h:Heap):Prop where
 keep:∀b o,h₀.get? b=Y o->b∉fs->h.get? b=Y o
 slot:∀b o,h₀.get? b=Y o->∃sl,h.get? b=Y { o with slots:=sl }
 new:h₀.get? e=Z
 UO:∀d,dx=Y d->h₀.get? d=Z
 ns:∀d,dx=Y d->h.Ns d m
 ob:∃oe vs T oT ts,h.get? e=Y oe/\(oe.cls=.ref C/\oe.dict=dx/\oe.data=.fields vs)/\vs[1]?=Y (.ref T)/\(h₀.get? T=Z/\T≠e)/\h.get? T=Y oT/\oT.data=.fields ts/\ts[3]?=Y fl
section
variable {M:Model}{h₀:Heap}{env:Env}{outer:List Env}{fs:List Addr}{L e:Addr}{oe:Obj}{vs:Array Value}{head fl:Value}{m:Str->Ow}{Py:Bool}{Q:Unit->Shared->Prop}
def pG{o:Obj}{f:Array Value->Array Value}:(o.mapFields f).dict=o.dict:=by obtain⟨_,_,d,_⟩:=o;cases d<;>rfl
def Ld{c:Heap}(k:∀b o,h.get? b=Y o->(∀vs,o.data≠.fields vs)->∃sl,c.get? b=Y { o with slots:=sl })(d:h.Ns a m):c.Ns a m:=Heap.UpToSlots.ns k d
def RS(f:A.frames=Y (env::outer)) (n:s.heap.FunFrames base (env::outer)) (w:env.frame=Y L) (p:s.heap.get? e=Y oe) (g:oe.data=.fields vs) (v:1<vs.size)
  (h:∀h' T oT ts,(∀b o,b≠e->s.heap.get? b=Y o->b∉tZ (env::outer)->h'.get? b=Y o)->(∀b o,b≠e->s.heap.get? b=Y o->∃sl,h'.get? b=Y { o with slots:=sl }) ->
   h'.get? e=Y (oe.mapFields (·.setIfInBounds 1 (.ref T)))->s.heap.get? T=Z->T≠e->h'.get? T=Y oT->oT.data=.fields ts->ts[3]?=Y (rawInt L)->Q () { s with heap:=h' }):
  wpAny M A (do let a <-frameOf env;let i <-entryPlaceOf L Py;let b <-EntryCells.newEntry head a .none (rawInt L) .none i;setField (.ref e) 1 b) Q E s:=by
 have u:e∉(env::outer).filterMap (·.frame):=λz=>by obtain⟨_,o,m,k⟩:=n.mem z;rw[p] at m;cases m;exact k vs g
 refine aa (wpAny_frameOf_fun f n w λc sl=>?_);refine aa (wpAny_entryPlaceOf λi l=>?_);unfold EntryCells.newEntry newFields;refine aa (cS ?_ (l.sizeOk5 _ _ _ _ _));have t:c.get? e=Y oe:=(sl.2.1 e u).trans p;have r:=λo=>af (h:=c) o t;have j:c.objs.size≠e:=df (au t);refine wpAny_setField (r _) g v (h _ c.objs.size _ _ (λb o nb q nf=>?_) (λb o nb q=>?_) (bq _ (r _) (Obj.isFreed_of_fields (Obj.data_mapFields g _))) ?_ j ((aT _ _ (Ne.symm j)).trans (aG c rfl)) rfl ?_)
 .rw[aT _ _ (Ne.symm nb)];exact af _ ((sl.2.1 b nf).trans q)
 .obtain⟨z,d⟩:=sl.2.2 b o q;refine{z,?_};rw[aT _ _ (Ne.symm nb)];exact af _ d
 .cases q:s.heap.get? c.objs.size with
  |none=>rfl
  |some o=>obtain⟨z,d⟩:=sl.2.2 _ o q;exact absurd (au d) (bh _)
 .first|(simp;done)|(rcases l with rfl | ⟨_,_,_,_,_,_,_,rfl⟩<;>simp)
theorem BG.lands(F:BG h₀ fs C e dx m fl s.heap)(h:∀h',BG h₀ fs C e dx m .none h'->Q () { s with heap:=h' }):wpAny M A (setFlight (.ref e) Z) Q E s:=by
 sleep 1;obtain⟨oe,vs,T,G,l,t,⟨D,B,v⟩,u,⟨r,p⟩,j,c,y⟩:=F.ob;sleep 2;have k:3<l.size:=(Array.getElem?_eq_some_iff.mp y).1;have a:∀b,b≠T->(s.heap.update T (Obj.mapFields (·.setIfInBounds 3 ((Z:Option Addr).elim Value.none λf=>rawInt f)))).get? b=s.heap.get? b:=λb x=>aT _ _ (Ne.symm x);have n:∀b o,h₀.get? b=Y o->b≠T:=λb o q z=>by rw[z,r] at q;cases q
 unfold setFlight;refine aa (cj t v u ?_);rw[ai (show (Value.ref T != Value.none)=true from by simp)];refine wpAny_setField j c k (h _ {λb o q g=>(a b (n b o q)).trans (F.keep b o q g),λb o q=>?_,F.new,F.UO,?_,oe,vs,T,_,_,(a e (Ne.symm p)).trans t,{(D),B,v},u,{(r),p},bq _ j (Obj.isFreed_of_fields (Obj.data_mapFields c _)),Obj.data_mapFields c _,by simp[k]})
 .obtain⟨w,e⟩:=F.slot b o q;exact{w,(a b (n b o q)).trans e}
 .intro d i;refine Ld (λb o q g=>{o.slots,(a b λz=>?_).trans q}) (F.ns d i);rw[z,j] at q;cases q;exact g l c
def Pz(j:A.frames=Y (env::outer)) (F:s.heap.FunFrames base (env::outer)) (u:env.frame=Y L) (a:∀b o,h₀.get? b=Y o->s.heap.get? b=Y o) (f:h₀.get? e=Z) (c:∀d,dx=Y d->h₀.get? d=Z) (B:∀d,dx=Y d->s.heap.Ns d m)
  (k:s.heap.get? e=Y oe) (K:oe.cls=.ref C) (J:oe.dict=dx) (g:oe.data=.fields vs) (v:vs[1]?=Y .none) (h:∀h',BG h₀ (tZ (env::outer)) C e dx m .none h'->Q () { s with heap:=h' }):wpAny M A (leaving env (.ref e)) Q E s:=by
 have t:=(Array.getElem?_eq_some_iff.mp v).1;unfold leaving noteFrame;simp only[u];refine aa (aa (cj k g v ?_));rw[aq (by decide)];have n:∀b o,h₀.get? b=Y o->b≠e:=λb o q z=>by rw[z,f] at q;cases q
 refine RS j F u k g t λh' T y w D r H p N G I x=>?_;refine BG.lands (s:={ s with heap:=h' }) (fl:=rawInt L) {λb o q i=>D b o (n b o q) (a b o q) i,λb o q=>r b o (n b o q) (a b o q),f,c,?_,_,_,T,y,w,H,{(Obj.cls_mapFields _ _).trans K,pG.trans J,Obj.data_mapFields g _},by simp[t],{?_,N},G,I,x} h
 .intro d l;refine Ld (λb o q i=>r b o (λz=>?_) q) (B d l);rw[z,k] at q;cases q;exact i vs g
 .cases q:h₀.get? T with
  |none=>rfl
  |some o=>rw[a T o q] at p;cases p
theorem BG.note(F:BG h₀ fs C e dx m .none s.heap)(r:A.frames=Y (env::outer))(hl:s.heap.FunFrames base (env::outer))(N:env.frame=Y L)(W:∀b∈tZ (env::outer),b∈fs)(h:∀h',BG h₀ fs C e dx m (rawInt L) h'->Q () { s with heap:=h' }):
  wpAny M A (noteFrame (.ref e) env) Q E s:=by
 sleep 1;obtain⟨oe,vs,T,oT,R,t,⟨c1,c2,g⟩,P,⟨X,U⟩,w,v,O⟩:=F.ob;sleep 2;have K:=(Array.getElem?_eq_some_iff.mp P).1;unfold noteFrame;simp only[N];refine aa (cj t g P ?_);rw[ai (show (Value.ref T != Value.none)=true from by simp)];refine aa (cj w v O ?_);rw[aq (show ¬ ((Value.none==rawInt L)=true) from by simp[rawInt])];refine aa (wpAny_setField w v (Array.getElem?_eq_some_iff.mp O).1 ?_);have a:∀b,b≠T->(s.heap.update T (Obj.mapFields (·.setIfInBounds 3 Value.none))).get? b=s.heap.get? b:=λb hb=>aT _ _ (Ne.symm hb);have H:∀b o,s.heap.get? b=Y o->(∀vs,o.data≠.fields vs)->b≠T:=λb o q c z=>by rw[z,w] at q;cases q;exact c R v
 have I:∀b o,h₀.get? b=Y o->b≠e:=λb o q z=>by rw[z,F.new] at q;cases q
 have n:∀b o,h₀.get? b=Y o->b≠T:=λb o q z=>by rw[z,X] at q;cases q
 refine RS (s:={ s with heap:=_ }) r (hl.of_keeps λb o q c=>{o,(a b (H b o q c)).trans q,rfl}) N ((a e (Ne.symm U)).trans t) g K λh' f l i V J e1 p G x D j=>?_;refine h h' {λb o q c=>V b o (I b o q) ((a b (n b o q)).trans (F.keep b o q c)) λz=>c (W b z),λb o q=>?_,F.new,F.UO,?_,_,_,f,l,i,e1,{(Obj.cls_mapFields _ _).trans c1,pG.trans c2,Obj.data_mapFields g _},by simp[K],{?_,G},x,D,j}
 .obtain⟨S,B⟩:=F.slot b o q;obtain⟨k,y⟩:=J b _ (I b o q) ((a b (n b o q)).trans B);exact{(k),y}
 .intro d u;refine Ld (λb o q c=>J b o (λz=>?_) ((a b (H b o q c)).trans q)) (F.ns d u);rw[z,t] at q;cases q;exact c vs g
 .cases q:h₀.get? f with
  |none=>rfl
  |some o=>obtain⟨S,B⟩:=F.slot f o q;have:=(a f (n f o q)).trans B;rw[p] at this;cases this
end
end L2
namespace L2
open PySem PySem.Spec PyProof.Rows PySem.W
def iS.there{P:Program}(x:iS P w H h a o):∃c,h.get? a=Y c:=by
 cases o with
 |lst d=>sleep 1;obtain⟨_,_,_,_,e⟩:=x;sleep 2;exact{_,e}
 |tup d=>sleep 1;obtain⟨_,_,_,_,e,_⟩:=x;sleep 2;exact{_,e}
 |dK b=>sleep 1;obtain⟨_,_,_,_,_,_,_,e,_⟩:=x;sleep 2;exact{_,e}
 |dT b=>sleep 1;obtain⟨_,_,_,_,_,_,_,e,_⟩:=x;sleep 2;exact{_,e}
 |set S n=>sleep 1;obtain⟨_,_,_,_,e,_⟩:=x;sleep 2;exact{_,e}
 |ins C m g=>sleep 1;obtain⟨_,_,_,e,_⟩:=x;sleep 2;exact{_,e}
 |own y=>exact x
 |xd g=>sleep 1;obtain⟨_,⟨_,_,_,e,_⟩,_⟩:=x;sleep 2;exact{_,e}
 |Rm k l=>obtain⟨_,_,_,e⟩:=x;exact{_,e}
 |IX c u=>exact{_,x.1}
 |NV j=>exact{_,x}
 |met f y=>exact{_,x}
 |ext i=>exact x.2.1
section
variable {p1 p3 p4 p5 p6 p7 p8 p9:Pos}
def tFs(i:Nat):TE:=λa H Q=>∃n:Int,a[i]?=Y (Y (.int n))/\(0<=n/\n<10000)/\∀x,Q (.str x) H
def XJ{a:Str}{x:Expr}(L:a.length<=1000)(B:PE X x (Wj i))(d:zr0 (evalEach [.Constant (.str a) j p1,.FormattedValue x (-1) Z p2] X.env=[eval (.Constant (.str a) j p1) X.env,eval (.FormattedValue x (-1) Z p2) X.env])):
  PE X (.JoinedStr [.Constant (.str a) j p1,.FormattedValue x (-1) Z p2] pos) (tFs i):=by
 rintro c s f H Q I ⟨n,e,⟨N,M⟩,q⟩;have C:n.natAbs<10 ^ 4:=by omega
 have K:=int_text_length_le10 (k:=4) (by decide) C;have D:n.natAbs.log2<1920:=by
  by_cases z:n.natAbs=0
  .rw[z];decide
  .exact aJ ((Nat.log2_lt (k:=14) z).mpr (by omega)) (by decide)
 refine wpAny_JoinedStr ?_;rw[d];have h:∀b:Str,(Str.empty++b).length=b.length:=λb=>by rw[jN];show 0+_=_;omega
 refine iu (@Jf X a j p1 c s f H (λv H'=>v=.str a/\H'=H) I {(rfl),rfl}) ?_;rintro v m ⟨y,l,F,p,A,w⟩;subst A w;obtain⟨t,rfl⟩:=p;refine{a,t,rfl,by rw[h,sizeLine_eq];omega,wpAny_FormattedValue_plain (iu (@B c m f l (λv H'=>v=.int n/\H'=l) F {_,e,rfl,rfl}) ?_)};rintro v J ⟨y,G,E,o,u,r⟩;subst u r;obtain⟨t',rfl⟩:=o;have g:(Str.empty++a++zZ (toString n)).length<=sizeLine:=by rw[jN,h,PySem.ofString_length,sizeLine_eq];omega
 exact wpAny_formatField_int D {_,_,rfl,g,g,.str _,G,E.tok _,{_,rfl},q _}
end
def Aw(K:Frag)(C:Addr)(b:Lw)(a:String)(c:Addr):Bool:=match K.lookup C with
 |some ⟨.type "type",_,.cls cd,sl⟩=>(match cd.mro,sl.toList with
  |.ref d::bm,[_,_,_,_,Y (.builtin n),_]=>d==C&&n==a&&!cd.hasDel&&tailIn K b bm&&nsOkIn K cd.ns&&nsIn K cd.ns "__init__"==Y (Y (.ref c))
  |_,_=>false)
 |_=>false
def UP:Lw:=[.type "ValueError",.type "Exception",.type "BaseException",.type "object"]
structure Le (h:Heap) (C fI:Addr):Prop where
 ex:∃(nm qn:Str) (N:Addr) (bs bm:Lw) (hd:Bool) (sn:Lr) (sub:Lw) (ab:Bool) (col:Option Bool) (dd:Option Addr) (k0 k1 k2 k3 k5:Ow) (mN:Str->Ow),
  h.get? C=Y (excClassObj nm qn C N bs bm hd sn sub ab col dd k0 k1 k2 k3 k5 "ValueError.__new__")/\h.Ns N mN/\mN "__init__"=Y (.ref fI)/\OwnTail h UP bm
def Ey{K:Frag}{N:Addr}{n:Str}{v:Value}(X:K.In h)(G:h.Ns N mg)(e:nsIn K N n=Y (Y v)):mg n=Y v:=by
 sleep 1;obtain⟨o,j,k,a,f,_,c⟩:=G;sleep 2;unfold nsIn at e;split at e
 .rename_i g i _ b;rw[X _ _ b] at a;cases a;cases f;split at e
  .rename_i l d;cases e;rw[<-c];unfold nsFind findBy;rw[<-Array.find?_toList,d];rfl
  .split at e<;>cases e
 .cases e
def tm{K:Frag}{fI:Addr}(X:K.In h)(q:Aw K C UP "ValueError.__new__" fI=true):Le h C fI:=by
 unfold Aw at q;split at q
 .rename_i A B f x;split at q
  .rename_i G E m k j i n g p o;simp only[aO,bw,Bool.not_eq_true'] at q;sleep 1;obtain⟨⟨⟨⟨⟨rfl,rfl⟩,a⟩,w⟩,b⟩,c⟩:=q;sleep 2;sleep 1;obtain⟨u,D,v,t,s,y,r,d,F,e,z⟩:=B;sleep 2;dsimp only at p a b c;subst p a;obtain rfl:f=#[m,k,j,i,Y (.builtin "ValueError.__new__"),g]:=by
    obtain⟨l⟩:=f;simp only at o;rw[o]
   exact{u,s,t,D,E,y,r,d,F,e,A,m,k,j,i,g,_,X _ _ x,.of_isNs (isNs_of_in X b),Ey X (.of_isNs (isNs_of_in X b)) c,tail_of_in X w}
  .cases q
 .cases q
structure Il (K:Frag) (C P fI:Addr):Prop where
 ex:Aw K C UP "ValueError.__new__" fI=true
 fn:isFn K (.ref fI)=true
 kp:keepIn K (.ref C)=true
 xc:Pw K C
 xg:Lb K C
 ln:findIn K (.ref C) "line"=Y Z
 pr:readsIn K P (.type "type")=true
 pc:findCls K (.ref P) (.type "type") "__init__"=Y (.val (.builtin "ValueError.__init__"))
 ps:specialIn K (.ref P) "__getattribute__"=Y (Y (.builtin "type.__getattribute__"))
section
variable {p1 p3 p4 p5 p6 p7 p8 p9:Pos}{P fI e t0:Addr}{n:Int}{a:Str}
def NR(a:Addr):Array Value:=#[.ref a,.none,.none,.none,.bool false,.none]
structure Cz (X:Cx) (H:Hp) (e:Addr):Prop where
 h:H e=Z
 l:e≠X.env.locals
 f:e∉X.fs
 c:∀x c,X.env.cells.lookup x=Y c->c≠e
 s:(zB X.iH)<=e
 p:∀p∈X.pn,p.1≠e
def Cz.pin{o:Obj}(M:Cz X H e)(I:c7 X [] σ H s)(b:s.heap.get? e=Y o)(c:∀v,o.data≠.cell v):c7 X [(e,o)] σ H s:=by
 refine I.l6 λp a=>?_;rcases cG.mp a with rfl
 exact{b,M.h,M.l,M.f,c}
def Cz.Lf{o:Obj}{a:Shared}(M:Cz X H e)(I:c7 X [(e,o)] σ H' a):Cz X H' e/\a.heap.get? e=Y o/\c7 X [] σ H' a:=by have z:=I.pin (e,o) (ar _ (cG.mpr rfl));exact{{z.2.1,M.l,M.f,M.c,M.s,M.p},z.1,I.l6 λp b=>by cases b}
theorem Ez(k:Il X.K C P fI) (U:Gl X "PointError") (S:X.mg "PointError"=Y (.ref P)) (h0:X.N[0]?=Y ("self":Str)) (h1:X.N[1]?=Y ("line":Str)) (u:BE X.env.scope "self") (t:BE X.env.scope "line")
  (I:c7 X [] σ H s) (M:Cz X H e) (g0:σ[0]?=Y (Y (.ref e))) (g1:σ[1]?=Y (Y (.int n))) (R:0<=n/\n<10000) (ha:a.length<=1000) (V:s.heap.get? e=Y { cls:=.ref C,data:=.fields (NR t0) })
  (i:swapsWith (.Call (.Attribute (.Name "PointError" p1) "__init__" p2) [.Name "self" p3,.JoinedStr [.Constant (.str a) j p4,.FormattedValue (.Name "line" p5) (-1) Z p6] p7] [] p8) Z p9.line X.env=pure false) (O:eval (.Call (.Attribute (.Name "PointError" p1) "__init__" p2) [.Name "self" p3,.JoinedStr [.Constant (.str a) j p4,.FormattedValue (.Name "line" p5) (-1) Z p6] p7] [] p8) X.env=(do
   let ov <-eval (.Name "PointError" p1) X.env
   standAt p2.atName
   let (f,first) <-holding [ov] (getMethod ov "__init__" pl)
   callWith p8 f first (backTo p8 (starEach [.Name "self" p3,.JoinedStr [.Constant (.str a) j p4,.FormattedValue (.Name "line" p5) (-1) Z p6] p7] X.env)) (backToKw p8 (keywordEach [] X.env)))):
  (zw X) (exec (.Expr (.Call (.Attribute (.Name "PointError" p1) "__init__" p2) [.Name "self" p3,.JoinedStr [.Constant (.str a) j p4,.FormattedValue (.Name "line" p5) (-1) Z p6] p7] [] p8) p9) X.env)
   (λf s'=>f=.next/\∃t',c7 X [] σ H s'/\s'.heap.get? e=Y { cls:=.ref C,data:=.fields (NR t') }) X.xe s:=by
 refine wpAny_Expr_any ?_ I.quiet i;refine W.methodCall_KW (kj I U S (method_cls I.oj k.ps (cls_value I.oj k.pr k.pc rfl ?_))) O;have I1:=(M.pin I V (λv z=>by cases z)).tok (s.toks+1);refine da (iu ((show PA X _ _ from gR (mn h0 u) (gR (XJ ha (mn h1 t)) kO)) _ _ σ H (λvs H'=>∃x,vs=[.ref e,.str x]/\H'=H) I1 {_,g0,n,g1,R,λx=>{(x),rfl,rfl}}) ?_);rintro w A ⟨vs,H2,I2,r,x,q,J⟩;subst q J;obtain⟨d,rfl⟩:∃d,w=[.ref e,.str x d]:=by
  cases r with
  |cons G B=>
   cases B with
   |cons E D=>cases D;obtain⟨d,rfl⟩:=E;exact{d,by rw[show _=Value.ref e from G]}
 obtain⟨b,m,o⟩:=M.Lf I2;sleep 1;obtain⟨nm,qn,N,bs,bm,hd,sn,y,ab,col,dd,k0,k1,k2,k3,k5,mN,hC,hN,hi,T⟩:=(tm o.oj k.ex).ex;sleep 2;sleep 1;obtain⟨h2,g2,d2,g,L⟩:=A;sleep 2;refine vM F.excBase_ValueError T hC m (λh' kp e' et=>?_) (by show 1<=sizeLine;decide);have I4:=o.turned (t':=g) (it:=e) kp b.h b.l (.inr b.s) b.c λp Q=>b.p p (by simpa using Q);exact{(rfl),_,I4,e'}
def Im(k:Il X.K C P fI) (T:X.N[0]?=Y ("self":Str)) (S:X.N[1]?=Y ("line":Str)) (G:BE X.env.scope "self") (F:BE X.env.scope "line")
  (I:c7 X [] σ H s) (M:Cz X H e) (V:σ[0]?=Y (Y (.ref e))) (U:σ[1]?=Y (Y (.int n))) (R:s.heap.get? e=Y { cls:=.ref C,data:=.fields (NR t0) })
  (r:X.ex=[]) (m:swapsWith (.Name "line" p3) (Y (.Attribute (.Name "self" p1) "line" p2)) p4.line X.env=pure false):
  (zw X) (exec (.Assign [.Attribute (.Name "self" p1) "line" p2] (.Name "line" p3) p4) X.env)
   (λf s'=>f=.next/\∃a t,c7 X [] σ H s'/\(H a=Z/\X.iH.heap.get? a=Z)/\s'.heap.Ns a (λy=>if y="line" then Y (.int n t) else Z)/\s'.heap.get? e=Y { cls:=.ref C,dict:=Y a,data:=.fields (NR t0) }) X.xe s:=by
 refine plainObj_wpAny_Assign_Attribute (iu (@mn X 1 _ p3 S F rfl rfl _ s σ H (λv H'=>v=.int n/\H'=H) (M.pin I R λv z=>by cases z) {_,U,rfl,rfl}) ?_) m;rintro u L ⟨y,E,I1,i,q,j⟩;subst q j;obtain⟨t,rfl⟩:=i;obtain⟨D,x,A⟩:=M.Lf I1;refine iu (@mn X 0 _ p1 T G rfl rfl _ L σ E (λv H'=>v=.ref e/\H'=E) (D.pin A x λv z=>by cases z) {_,V,rfl,rfl}) ?_;rintro u s2 ⟨y,H2,I2,i,q,j⟩;subst q j;obtain rfl:=show u=Value.ref e from i;obtain⟨d,w,g⟩:=D.Lf I2;refine UL g.oj k.xc k.ln w λh' J a a1 B a3 W=>?_;refine{rfl,a,t,g.turned (t':=J) (it:=e) W d.h d.l (.inr d.s) d.c λp Q=>d.p p (by simpa using Q),{?_,?_},a3,a1}
 .cases z:H2 a with
  |none=>rfl
  |some o=>obtain⟨O,b⟩:=(g.ip a o z).there;rw[B] at b;cases b
 cases z:X.iH.heap.get? a with
 |none=>rfl
 |some o=>obtain⟨O,b⟩:=g.base.there a o z (by rw[r];exact aU);rw[B] at b;cases b
def c7.since{s₁:Shared} (I:c7 X pins σ H s) (f:s₁.os=X.iH.os) (a:∀b o,s₁.heap.get? b=Y o->X.iH.heap.get? b=Y o) (d:(zB s₁)<=(zB X.iH))
  (h:∀b o,X.base.get? b=Y o->s₁.heap.get? b=Y o) (k:X.base.objs.size<=(zB s₁)) (g:s₁.heap.FunFrames X.base X.outer):c7 { X with iH:=s₁ } pins σ H s :=
 {{I.ok.mod,I.ok.kind,I.ok.glob,I.ok.blt,bJ d I.ok.above,I.ok.inj,I.ok.has,λx c j i=>bJ d (I.ok.SY x c j i),I.ok.hd,I.ok.frames,I.ok.S0,I.ok.S1,λb o e=>{h b o e,(I.ok.bs b o e).2},k,I.ok.DK,I.ok.zt,g,I.ok.Hq},
  I.os.trans f.symm,I.bare,{λb o e=>I.base.keep b o (a b o e),λb o e=>I.base.slot b o (a b o e),λb o e=>I.base.free b o (a b o e),λb o e=>I.base.there b o (a b o e),I.base.pa,I.base.oZ,I.base.qu},
  I.loc,I.cell,I.free,I.kM,I.pin,I.ip,I.len}
end
structure t_ (outer:List Env) (P:Program) (w:World) (H:Hp) (sb:Shared) (C e:Addr) (n:Int) (s':Shared):Prop where
 os:s'.os=sb.os
 bare:AllBare s'.gens
 un:Un (tZ outer) [] H H sb.heap s'.heap
 ip:oP P w H s'.heap
 ob:∃dx t0 t,(H dx=Z/\sb.heap.get? dx=Z)/\s'.heap.Ns dx (λy=>if y="line" then Y (.int n t) else Z)/\s'.heap.get? e=Y { cls:=.ref C,dict:=Y dx,data:=.fields (NR t0) }
def Gk(a:Str)(j:Nat)(o n m l k i h g f e d c b:Pos):List Stmt :=
 [.Expr (.Call (.Attribute (.Name "PointError" o) "__init__" n) [.Name "self" m,.JoinedStr [.Constant (.str a) j l,.FormattedValue (.Name "line" k) (-1) Z i] h] [] g) f,.Assign [.Attribute (.Name "self" e) "line" d] (.Name "line" c) b]
def PC(a:Str)(j:Nat)(l k i h g e d c:Pos):Prop:=∀b,∃n,eval (.Call (.Attribute (.Name "PointError" l) "__init__" k) [.Name "self" i,.JoinedStr [.Constant (.str a) j h,.FormattedValue (.Name "line" g) (-1) Z e] d] [] c) b=(do
   let m <-eval (.Name "PointError" l) b
   standAt k.atName
   let (f,first) <-holding [m] (getMethod m "__init__" n)
   callWith c f first (backTo c (starEach [.Name "self" i,.JoinedStr [.Constant (.str a) j h,.FormattedValue (.Name "line" g) (-1) Z e] d] b)) (backToKw c (keywordEach [] b)))
section
variable {p1 p3 p4 p5 p6 p7 p8 p9 q1 q2 q3 q4:Pos}{P fI e t0:Addr}{n:Int}{a:Str}
def EA(k:Il X.K C P fI) (w:Gl X "PointError") (v:X.mg "PointError"=Y (.ref P)) (l:X.N[0]?=Y ("self":Str)) (i:X.N[1]?=Y ("line":Str)) (h:BE X.env.scope "self") (g:BE X.env.scope "line")
  (I:c7 X [] σ H s) (M:Cz X H e) (o:σ[0]?=Y (Y (.ref e))) (m:σ[1]?=Y (Y (.int n))) (u:0<=n/\n<10000) (A:a.length<=1000) (x:s.heap.get? e=Y { cls:=.ref C,data:=.fields (NR t0) }) (d:X.ex=[]) (c:PC a j p1 p2 p3 p4 p5 p6 p7 p8):
  (zw X) (execs (Gk a j p1 p2 p3 p4 p5 p6 p7 p8 p9 q1 q2 q3 q4) X.env)
   (λf s'=>f=.next/\∃b t t0,c7 X [] σ H s'/\(H b=Z/\X.iH.heap.get? b=Z)/\s'.heap.Ns b (λy=>if y="line" then Y (.int n t) else Z)/\s'.heap.get? e=Y { cls:=.ref C,dict:=Y b,data:=.fields (NR t0) }) X.xe s:=by
 obtain⟨L,c⟩:=c X.env;refine wpAny_execs_cons (iu (Ez k w v l i h g I M o m u A x rfl c) ?_);rintro f J ⟨z,p,F,D⟩;subst z;refine wpAny_execs_cons (iu (Im k l i h g F M o m D d rfl) ?_);rintro f G ⟨z,b,t,E,r,q,B⟩;subst z;exact cJ {(rfl),b,t,p,E,r,q,B}
end
section
variable {P:Program}{K:Frag}{outer:List Env}{sb:Shared}{PE fI e t0:Addr}{q:Str}{k:Nat}{n:Int}{t:Tok}{a:Str}{p1 p3 p4 p5 p6 p7 p8 p9 q1 q2 q3 q4:Pos}
theorem Io(F:DH K "__init__" q st fI fd) (S:iT ["self","line"] ["self","line"] (bD st)) (hb:ie st=Gk a j p1 p2 p3 p4 p5 p6 p7 p8 p9 q1 q2 q3 q4) (bd:jK K fd ["self","line"] []) (kE:Il K C PE fI) (hm:mg "PointError"=Y (.ref PE))
  (hg:(bD st).names.lookup ("PointError":Str)=Y .globalImplicit) (N:(bD st).names.lookup ("self":Str)=Y .local) (M:(bD st).names.lookup ("line":Str)=Y .local) (ha:a.length<=1000) (hn:0<=n/\n<10000)
  (O:iq (k+1) A) (h:zJ P w K mg base A outer s H) (g:zJ P w K mg base A outer sb H) (U:sb.os=s.os) (hk:∀b o,sb.heap.get? b=Y o->s.heap.get? b=Y o) (i:(zB sb)<=e) (l:s.heap.get? e=Y { cls:=.ref C,data:=.fields (NR t0) }) (ht:PC a j p1 p2 p3 p4 p5 p6 p7 p8):
  codeAny (model P w) A (.call (.ref fI) {[.ref e,.int n t],[]}) (λr s'=>match r with | .ok (.ret u)=>u=.none/\t_ outer P w H sb C e n s' | _=>False) s:=by
 sleep 1;obtain⟨oc,od,kV,doc,pm,an,L,ct,T,rfl,lk,D⟩:=F.ex;sleep 2;have KX:K.In s.heap:=h.mod.Rn.keeps λb o e=>(h.bs b o e).1;have m:s.heap.NoLimit:=h.mod.nolimit.keeps λb o e=>(h.bs b o e).1;have d:∀y∈(["self","line"]:Lr).zip [Value.ref e,.int n t],(bD st).names.lookup y.1=Y .local\/((bD st).names.lookup y.1=Y .cell/\((cellsFrom ((zB s)+1) (bD st).names []).lookup y.1).isSome=true):=λy v=>by
  rcases ah.mp v with rfl|v
  .exact .inl N
  .rcases cG.mp v with rfl;exact .inl M
 have G:=bd s [Value.ref e,.int n t] KX rfl;refine codeAny_call_function O.depth (KX _ _ lk) rfl S.co S.gen rfl (codeRec_of KX D) (G _ _ _ _ ?_);refine wpAny_newFunctionEnv_cells S.kind d λenv B s1 x=>?_;subst B;refine{m.keeps x.toInCall.keep,codeAny_func ?_};have R:fv [V.ref e,V.int n] [Value.ref e,.int n t]:=.cons rfl (.cons {(t),rfl} .nil);have I:=(ye (CX:=xf) (E:=λ_ _ _=>False) S O.hd h rfl R x).since (s₁:=sb) U hk (dO (Nat.lt_of_le_of_lt i (au l))) (λb o z=>(g.bs b o z).1) g.NK g.o1;have I:=I.uF (λ_ _=>False);show wpAny _ _ (execs (ie st) _) _ _ _;rw[hb];refine bM (EA (X:=Cx.uF { sP xf P w K mg base ["self","line"] q (bD st) fI L A outer s H (λ_ _ _=>False) with iH:=sb } λ_ _=>False) kE hg hm rfl rfl (.inl N) (.inl M) I {?_,?_,?_,?_,i,λp hp=>by cases hp} rfl rfl hn ha (x.toInCall.keep e _ l) rfl ht) (λf s' ⟨z,dx,t',Q,J,nd,W,e2⟩=>?_) λ_ _ z=>z.elim
 .exact g.ip.fresh i
 .exact aR (au l)
 .intro z;obtain⟨_,o,ho,_⟩:=g.o1.mem z;exact absurd (aJ (au ho) i) (bh _)
 .intro y c hc;exact df (eY (au l) (x.above y c (bQ hc)))
 .subst z;exact{rfl,J.os,J.bare,J.base,J.ip,dx,Q,t',nd,W,e2}
end
end L2
namespace L2
open PySem PySem.Spec PyProof.Rows PySem.W
def oP.Lg{P:Program}{c:Heap}(x:oP P w H h)(k:∀b u o,H b=Y o->h.get? b=Y u->c.get? b=Y u):oP P w H c:=λa o e=>
 (x a o e).q8 (λb u hb q=>hb.elim (λz=>k b u o (by rw[z];exact e) q) λz=>k b u _ z q) (λ_ q=>q) λ_ _ q=>q
abbrev CA(n:Int)(t:Tok):Str->Option Value:=λy=>if y="line" then Y (.int n t) else Z
abbrev BH(C R:Addr)(n:Int):Addr:=if n<0 then R else C
structure Lh (P:Program) (w:World) (C R:Addr) (outer:List Env) (H:Hp) (s:Shared) (n:Int) (H':Hp) (e:Addr) (dx:Option Addr) (fl:Value) (h:Heap):Prop where
 ex:∃h₀ fs t,Un (tZ outer) [] H H' s.heap h₀/\oP P w H' h₀/\(∀b∈fs,H' b=Z/\(b∈tZ outer\/s.heap.get? b=Z))/\(∀b∈tZ outer,b∈fs)/\((n<0->dx=Z)/\(0<=n->∃d,dx=Y d))/\BG h₀ fs (BH C R n) e dx (CA n t) fl h
section
variable {P:Program}{R e:Addr}{outer:List Env}{n:Int}{fl:Value}
theorem Lh.un(F:Lh P w C R outer H s n H' e dx fl h):Un (tZ outer) [] H H' s.heap h/\oP P w H' h:=by
 sleep 1;obtain⟨h₀,v,t,u,i,k,r,-,F⟩:=F.ex;sleep 2;refine{{λb o q z j c=>?_,λb o q z d c=>?_,u.free,λb o q c=>?_,u.pa,u.oZ,u.qu},i.Lg λb o l z q=>?_}
 .refine F.keep b o (u.keep b o q z j c) λd=>?_;rcases(k b d).2 with y|y
  .exact j y
  .rw[q] at y;cases y
 .obtain⟨m,g⟩:=u.slot b o q z d c;obtain⟨a,f⟩:=F.slot b _ g;exact{(a),f}
 .obtain⟨p,g⟩:=u.there b o q c;obtain⟨a,f⟩:=F.slot b _ g;exact{_,f}
 .refine F.keep b o q λd=>?_;rw[(k b d).1] at z;cases z
end
def I7(P:Program)(w:World)(C R:Addr):IY:=λa H s E v b=>∃e d n c,v=.ref e/\b.os=s.os/\AllBare b.gens/\Lh P w C R a H s n c e d .none b.heap/\E (.int n 0) Z c
structure u_ (K:Frag) (mg:Str->Ow) (c:Str) (C:Addr):Prop where
 at_:mg c=Y (.ref C)
 ex:∃(PE fI:Addr) (fd:FuncData) (q:Str) (st:Stmt) (a:Str) (j:Nat) (p1 p2 p3 p4 p5 p6 p7 p8 p9 q1 q2 q3 q4:Pos),mg "PointError"=Y (.ref PE)/\Il K C PE fI/\DH K "__init__" q st fI fd/\iT ["self","line"] ["self","line"] (bD st) /\
  ie st=Gk a j p1 p2 p3 p4 p5 p6 p7 p8 p9 q1 q2 q3 q4/\jK K fd ["self","line"] []/\(bD st).names.lookup ("PointError":Str)=Y .globalImplicit/\(bD st).names.lookup ("self":Str)=Y .local/\(bD st).names.lookup ("line":Str)=Y .local /\
  a.length<=1000/\PC a j p1 p2 p3 p4 p5 p6 p7 p8
section
variable {R:Addr}{E:XK}{arg:Expr}{te:TE}{np:Pos}{k:Nat}
def UQ{l:Shared}{e B:Addr}{n:Int}{t:Tok} (I:c7 X pins σ H s) (K:s.heap.get? e=Z) (J:H e=Z) (i:X.stack=X.env::X.outer) (j:X.env.frame=Y X.env.locals) (c:X.ex=[])
  (r:X.xe=λe s'=>(zw X) (leaving X.env e) (λ_ Li=>I7 X.prog X.w C R X.outer X.q9 X.iH E e Li) (λe' Li=>I7 X.prog X.w C R X.outer X.q9 X.iH E e' Li) s') (a:c7 X pins σ H l)
  (k:∀d,dx=Y d->(H d=Z/\s.heap.get? d=Z)/\l.heap.Ns d (CA n t)) (v:(n<0->dx=Z)/\(0<=n->∃d,dx=Y d)) (L:l.heap.get? e=Y { cls:=.ref (BH C R n),dict:=dx,data:=.fields (NR B) }) (M:E (.int n 0) Z H):X.xe (.ref e) l:=by
 have m:∀b,b∈e::dx.toList->b=e\/dx=Y b:=λb z=>by
  rcases ah.mp z with z|z
  .exact .inl z
  .exact .inr (Option.mem_toList.mp z)
 have g:∀b o,X.iH.heap.get? b=Y o->b∉e::dx.toList:=λb o q z=>by
  obtain⟨x,f⟩:=I.base.there b o q (by rw[c];exact aU);rcases m b z with rfl|z
  .rw[K] at f;cases f
  .rw[(k b z).1.2] at f;cases f
 rw[r];have p:=a.ok.frames;rw[i] at p;have A:=a.stack;rw[i] at A;refine Pz (h₀:=hideAll l.heap (e::dx.toList)) p A j (λb o q=>of_hideAll _ q) (hideAll_none _ (by simp)) (λd hd=>hideAll_none _ (by simp[hd])) (λd hd=>(k d hd).2) L rfl rfl rfl rfl λN F=>?_;refine{e,dx,n,H,rfl,a.os,a.bare,{_,_,t,{λb o q z G h=>?_,λb o q z hb h=>?_,λb o q z h=>a.base.free b o q z (by rw[c];exact h),λb o q h=>?_,a.base.pa,a.base.oZ,a.base.qu},a.ip.Lg λb o u z q=>hideAll_get _ q λy=>?_,λb hb=>{?_,?_},λb hb=>?_,v,F},M}
 .exact hideAll_get _ (a.base.keep b o q z G (by rw[c];exact h)) (g b o q)
 .obtain⟨D,f⟩:=a.base.slot b o q z hb (by rw[c];exact h);exact{D,hideAll_get _ f (g b o q)}
 .obtain⟨x,f⟩:=a.base.there b o q (by rw[c];exact h);exact{x,hideAll_get _ f (g b o q)}
 .rcases m b y with rfl|y
  .rw[J] at z;cases z
  .rw[(k b y).1.1] at z;cases z
 .exact a.zx b (by rw[i];exact hb)
 .unfold tZ at hb;rw[b5,j] at hb;rcases ah.mp hb with rfl|hb
  .exact .inr (Heap.get?_none_of_le a.ok.above)
  .exact .inl hb
 .unfold tZ;rw[b5,j];exact ao _ hb
def CB{M:Model}{E:Px}{i:Env}{fI:Addr}{x:Sem Value}{Q:Flow->Shared->Prop} (k:A.handled=Z)
  (h:wpAny M A x (λv s₁=>∃e t dx,v=.ref e/\Le s₁.heap C fI/\s₁.heap.get? e=Y { cls:=.ref C,dict:=dx,data:=.fields (NR t) }/\E (.ref e) s₁) E s):wpAny M A (raiseStmt i (Y x) Z) Q E s:=by
 unfold raiseStmt;refine aa (bM h (λv s₁ a=>?_) λ_ _ x=>x);sleep 1;obtain⟨e,t,dx,rfl,c,l,m⟩:=a;sleep 2;sleep 1;obtain⟨w,r,N,O,o,J,q,j,P,n,L,G,F,D,B,z,y,c,K,I,T⟩:=c.ex;sleep 2;have f:(Value.ref C::o).contains (.type "BaseException")=true:=by rw[List.contains_cons,T.hasType (b:=true) (by decide +kernel),Bool.or_true]
 sleep 1;obtain⟨H,g,d,p,u⟩:=s₁;sleep 2
 repeat (first|with_reducible refine wpAny_loadPart_at l ?_|with_reducible refine wpAny_loadPart_at c ?_|(with_reducible refine wpAny_isSubtype_exc c ?_;rw[f])|wp_step)
 exact wpAny_raiseNew_none k m
def UR(E:XK)(c:TE):TS:=λ_ a H=>BP c DW a H λb d=>∃n,b=[.int n]/\(0<=n/\n<10000)/\E (.int n 0) Z d
theorem Lj(Aq:u_ X.K X.mg c C) (hg:Gl X c) (ha:PE X arg te) (hr:iq (k+2) X.A) (hc:X.calm=true) (J:X.stack=X.env::X.outer) (O:X.env.frame=Y X.env.locals) (Q:X.ex=[])
  (G:X.xe=λe s'=>(zw X) (leaving X.env e) (λ_ Li=>I7 X.prog X.w C R X.outer X.q9 X.iH E e Li) (λe' Li=>I7 X.prog X.w C R X.outer X.q9 X.iH E e' Li) s')
  (hs:zr0 (starEach [arg] X.env=[(false,eval arg X.env)])) (U:zd0 (zg c)):PS X (.Raise (Y (.Call (.Name c np) [arg] [] gv)) Z pos) (UR E te):=by
 intro f s y H D I h;sleep 1;obtain⟨PE,fI,fd,q,st,a,j,p1,p2,p3,p4,p5,p6,p7,p8,p9,q1,q2,q3,q4,hP,m,F,S,hb,bd,l2,l0,l1,hal,ht⟩:=Aq.ex;sleep 2;rw[arm_exec_Raise];refine aa (wpAny_standAt (CB (C:=C) (fI:=fI) (I.ok.hd hc) ?_));refine aa (bM (wpAny_Call_ofName (kj I hg Aq.at_ ?_ U)) (λv uI o=>aa (wpAny_standAt (ak o))) λ_ _ x=>x);refine W.callWith_K (first:=[]) (h₀:=X.base) I.ok.mod.Rn m.kp (iu ((show PA X [arg] (BP te DW) from gR ha kO hs) f s y H (λvs H'=>∃n,vs=[.int n]/\(0<=n/\n<10000)/\E (.int n 0) Z H') I h) ?_) hs rfl;rintro us s2 ⟨vs,H2,i,r,n,q1,q2,q3⟩;refine{i.oj,?_};subst q1;obtain⟨t,rfl⟩:∃t,us=[.int n t]:=by obtain⟨u,rfl,t,rfl⟩:=fv.one r;exact{(t),rfl}
 have eo:=tm i.oj m.ex;sleep 1;obtain⟨nm,qn,N,bs,bm,hd,sn,sub,ab,col,dd,k0,k1,k2,k3,k5,mN,hC,hN,hi,T⟩:=eo.ex;sleep 2;obtain⟨dI,sI,P⟩:∃oI,s2.heap.get? fI=Y oI/\oI.cls=.type "function":=by sleep 1;obtain⟨oc,od,kV,doc,pm,an,qf,ct,Q',_,lk,_⟩:=F.ex;sleep 2;refine{_,i.oj _ _ lk,?_};have z:((X.K.lookup fI).map (·.cls)==Y (.type "function"))=true:=m.fn;rw[lk] at z;simpa using z
 sleep 1;obtain⟨h2,g2,d2,B,l⟩:=s2;sleep 2;show wpAny _ _ (call (.ref C) [.int n t]) _ _ _;refine vL PySem.F.excBase_ValueError T hC hN hi sI P (λh' e hm hz=>?_) (by show 1<=sizeLine;decide);obtain⟨t0,he,-,-⟩:=hm.there;have I3:c7 X f y H2 {(h'),g2,d2,B,l}:=i.kept (t':=B) hm.keeps;have eb:=i.Jx.make C [.int n t] [];have e3:=I3.Jx.make C [.int n t] [];refine wpAny_call (cO (Io (sb:={(h2),g2,d2,B,l}) F S hb bd m hP l2 l0 l1 hal q2 (hr.make C [.int n t] []) e3 eb rfl hm.keeps hz he ht) λr s' M=>?_);rcases r with z|(u|_|_|_)<;>first|exact M.elim|skip
 obtain⟨rfl,M⟩:=M;have I4:c7 X f y H2 s':=by sleep 1;obtain⟨hh,g,d,t,os⟩:=s';sleep 2;obtain rfl:os=l:=M.os;exact i.call (ch:=[]) M.un M.ip M.bare λb z=>by cases z
 sleep 1;obtain⟨dx,t1,tt,V,L,p⟩:=M.ob;sleep 2;exact{rfl,e,t1,Y dx,rfl,tm I4.oj m.ex,p,UQ (n:=n) (t:=tt) i hm.new (i.ip.fresh hz) J O Q G I4 (λd hd=>by cases hd;exact{(V),L}) {λh=>absurd h (by omega),λ_=>{(dx),rfl}} (by rw[show BH C R n=C from aq (by omega)];exact p) q3}
end
end L2
namespace L2
open PySem PySem.Spec PyProof.Rows PySem.W
section
variable {R:Addr}{E:XK}{arg:Expr}{te:TE}{np:Pos}{k:Nat}
end
end L2
namespace L2
open PySem PySem.Spec PyProof.Rows PySem.W
structure Lk (K:Frag) (C:Addr):Prop where
 ty:typeIn K (.ref C)=Y (.type "type")
 cl:(clsIn K C).isSome=true
 sub:subIn K (.ref C) (.type "BaseException")=Y true
def Ip{K:Frag}{M:Model}{e c D:Addr}{f:Obj}{b:Bool}(X:K.In h)(k:Lk K D)(l:h.get? e=Y f)(m:f.cls=.ref c)(i:subIn K (.ref c) (.ref D)=Y b):Looks M h (excMatches (.ref e) (.ref D)) b:=by
 have u:Looks M h (isInstance (.ref D) (.type "tuple")) false:=(looks_typeIn X k.ty).andThen (Looks.of_pure tc_notTuple);have t:Looks M h (isType (.ref D)) true:=by
  obtain⟨x,a⟩:=Option.isSome_iff_exists.mp k.cl;unfold clsIn at a;split at a
  .rename_i y w n g j;intro C z B v k q;unfold isType loadHead;exact aa (wpAny_loadPart (k _ _ (X _ _ j)) (ak q))
  .cases a
 have r:Looks M h (isExcClass (.ref D)) true:=t.andThen (looks_subIn X k.sub);have p:Looks M h (typeOf (.ref e)) (.ref c):=m▸(Looks.ld l).andThen .now;have o:=looks_subIn (M:=M) X i;intro A Q E s d q;unfold excMatches;refine aa (u _ _ _ _ d (aa (ak ?_)));dsimp only;rw[dq];refine aa (aa (aa (r _ _ _ _ d (ak (ak (aa (p _ _ _ _ d ?_)))))));rw[dq];refine aa (aa (aa (o _ _ _ _ d ?_)));cases b
 .exact ak (ak (ak q))
 .exact ak (ak (ak q))
section
def c7.v_{m:Str->Ow}{v:Ow}{w:Heap}{D:Nat} (I:c7 X pins σ H s) (O:X.N.Nodup) (M:X.N[j]?=Y x)
  (L:∀(i:Nat) (y:Str) (v:V),X.N[i]?=Y y->σ[i]?=Y (Y v)->BE X.env.scope y->∃u,gg v u/\Wf X.env s.heap m y u) (K:w.Ns X.env.locals (λy=>if y=x then v else m y)) (d:Heap.SameBut X.env.locals s.heap w):c7 X pins (σ.set j Z) H { s with heap:=w,toks:=D }:=by
 sleep 1;obtain⟨R,⟨Q,S,T,J,_⟩,_⟩:=id I.loc;sleep 2;have a:∀b o,X.iH.heap.get? b=Y o->b≠X.env.locals:=λb o e=>aR (aJ (au e) I.ok.above);refine{I.ok,I.os,I.bare,{λb o e n t h=>?_,λb o e n t h=>?_,I.base.free,λb o e h=>?_,I.base.pa,I.base.oZ,I.base.qu},{_,K,λi y C g f P=>?_},λy c e=>?_,I.free,I.kM,λp G=>?_,I.ip.Lg λb u o z q=>?_,by simpa using I.len}
 .exact(d.2 b (a b o e)).trans (I.base.keep b o e n t h)
 .obtain⟨E,g⟩:=I.base.slot b o e n t h;exact{E,(d.2 b (a b o e)).trans g}
 .obtain⟨F,g⟩:=I.base.there b o e h;exact{F,(d.2 b (a b o e)).trans g}
 .by_cases l:i=j
  .subst l;by_cases B:i<σ.length
   .rw[aQ B] at f;cases f
   .rw[cp (by simpa using B)] at f;cases f
  .rw[av (Ne.symm l)] at f;obtain⟨u,r,q⟩:=L i y C g f P;refine{u,r,?_};rcases q with ⟨k,e⟩ | ⟨k,c,e,z⟩
   .refine .inl {k,?_};have:y≠x:=λz=>l (vf O g (z▸M));simp[this,e]
   .exact .inr {k,c,e,z.sameBut d (I.Wg y c e)}
 .obtain⟨v,z⟩:=I.cell y c e;exact{v,z.sameBut d (I.Wg y c e)}
 .obtain⟨e,n,A,r⟩:=I.pin p G;exact{(d.2 _ A).trans e,n,A,r}
 .refine(d.2 b ?_).trans q;rintro rfl;rw[I.free] at z;cases z
end
section
theorem BG.apart{b:Heap}{f:List Addr}{e:Addr}{m:Str->Ow}{g:Value}{o:Obj}(F:BG b f C e dx m g h)(q:b.get? a=Y o):a≠e/\∀d,dx=Y d->a≠d :=
 {λz=>by (rw[z,F.new] at q;cases q),λd c z=>by (rw[z,F.UO d c] at q;cases q)}
def c7.EB{u:HO}(I:c7 X pins σ H s)(B:H a=Z)(C:a≠X.env.locals)(z:X.iH.heap.get? a=Z)(D:∀x c,X.env.cells.lookup x=Y c->c≠a)(t:∀p∈X.pn++pins,p.1≠a)(g:iS X.prog X.w (upd H a u) s.heap a u):c7 X pins σ (upd H a u) s:=by
 have d:∀b v,H b=Y v->upd H a u b=Y v:=λb v e=>by rw[c8 (gz e B)];exact e
 refine{I.ok,I.os,I.bare,{I.base.keep,I.base.slot,λb o q n A=>?_,I.base.there,λb h q=>d _ _ (I.base.pa b h q),λb o v q=>d _ _ (I.base.oZ b o v q),λb r q=>?_},I.loc,I.cell,?_,λx c e=>?_,λp i=>?_,λb v e=>?_,I.len}
 .rw[c8 (λy=>by rw[y,z] at q;cases q)];exact I.base.free b o q n A
 .obtain⟨m,f⟩:=I.base.qu b r q;exact{m,d _ _ f}
 .rw[c8 (Ne.symm C)];exact I.free
 .rw[c8 (D x c e)];exact I.kM x c e
 .obtain⟨f,l,k⟩:=I.pin p i;exact{f,by rw[c8 (t p i)];exact l,k}
 .by_cases j:b=a
  .subst j;rw[eB] at e;cases e;exact g
  .rw[c8 j] at e;exact(I.ip b v e).q8 (λ_ _ _ q=>q) (λc q=>d c _ q) λc h q=>d c _ q
end
section
def Cx.susp(X:Cx)(e:Addr):Cx:={ X with A:=X.A.mark (Y (.ref e)),calm:=false,xe:=λ_ _=>False }
theorem c7.susp(I:c7 X pins σ H s)(e:Addr):c7 (X.susp e) pins σ H s :=
 {{I.ok.mod,I.ok.kind,I.ok.glob,I.ok.blt,I.ok.above,I.ok.inj,I.ok.has,I.ok.SY,(λz=>nomatch z),I.ok.frames,I.ok.S0,I.ok.S1,I.ok.bs,I.ok.NK,I.ok.DK,I.ok.zt,I.ok.o1,I.ok.Hq},I.os,I.bare,I.base,I.loc,I.cell,I.free,I.kM,I.pin,I.ip,I.len}
def c7.back{e:Addr}(a:X.Ok)(J:c7 (X.susp e) pins σ H s):c7 X pins σ H s:={a,J.os,J.bare,J.base,J.loc,J.cell,J.free,J.kM,J.pin,J.ip,J.len}
def pb.un(j:Nat)(D:pb):pb:={ nx:=λa H=>D.nx (a.set j Z) H,rt:=D.rt,bk:=λa H=>D.bk (a.set j Z) H,ct:=λa H=>D.ct (a.set j Z) H }
def RR(y:Str)(q:Str×Pos×List Stmt×Pos):ExceptHandler:=.ExceptHandler (Y (.Name q.1 q.2.1)) (Y y) q.2.2.1 q.2.2.2
def Tk(X:Cx)(c e:Addr)(j:Nat)(D:pb)(a:St)(H:Hp):List (Str×Pos×List Stmt×Pos)->Prop
 |[]=>False
 |q::r=>∃C b,(Gl X q.1/\X.mg q.1=Y (.ref C)/\(q.1==("__debug__":Str))=false)/\Lk X.K C/\subIn X.K (.ref c) (.ref C)=Y b/\if b=true then q.2.2.1≠[]/\∃t,xb (X.susp e) q.2.2.1 t/\t (D.un j) (a.set j (Y (.ref e))) H else Tk X c e j D a H r
variable {c e:Addr}{D:pb}{h₀:Heap}{fs:List Addr}{m:Str->Ow}{H3:Hp}
theorem Ll(M:X.env.scope.names.lookup y=Y .local) (U:X.N.Nodup) (S:X.N[j]?=Y y)
  (x:∀(h:Heap) (fl:Value) (tk:Nat),BG h₀ fs c e dx m fl h->c7 X pins σ H { s with heap:=h,toks:=tk }/\c7 X pins σ H3 { s with heap:=h,toks:=tk }):
  ∀(B:List (Str×Pos×List Stmt×Pos)) (h:Heap) (tk:Nat),BG h₀ fs c e dx m .none h->Tk X c e j D σ H3 B->(zw X) (handleBy (.ref e) X.env (B.map (RR y))) (SP X pins D) E { s with heap:=h,toks:=tk }
 |[],_,_,_,q=>q.elim
 | (n,np,i,L)::r,h,tk,F,q=>by
  sleep 1;obtain⟨C,b,⟨hg,hm,T⟩,kC,hb,q⟩:=q;sleep 2;have I:=(x h _ tk F).1;sleep 1;obtain⟨oe,vs,TT,oT,ts,he,⟨c1,c2,c3⟩,-,-,-,-,-⟩:=F.ob;sleep 2;show wpAny _ _ (handleBy (.ref e) X.env (.ExceptHandler (Y (.Name n np)) (Y y) i L::r.map (RR y))) _ _ _;refine wpAny_handleBy_cons (codeAny_handlers_test (dD I.ok.kind hg (Calls.loadGlobal_global (by rw[I.ok.glob];exact I.mod.glob.keeps I.bk) hm ?_) T)) (by intro q;cases q);refine(Ip I.oj kC he c1 hb).here ?_;cases b with
  |false=>exact Ll M U S x r h tk F q
  |true=>
   obtain⟨ne,t,ht,q⟩:=q;obtain⟨p,w,rfl⟩:∃p w,i=p::w:=by
    cases i with
    |nil=>exact absurd rfl ne
    |cons a l=>exact{(a),l,rfl}
   refine codeAny_handlers_suite_as ?_;refine BG.lands (s:={ s with heap:=h,toks:=tk }) F λh3 F3=>?_;have I3:=(x h3 _ tk F3).2;refine x6 (v:=.ref e) I3 U S (.inl M) rfl (λs4 I4 _=>?_) (.inr M);have hp:(X.env.scope.kind==.class||(X.env.scope.kind==.module&&X.env.locals != X.env.globals))=false:=by rw[I.ok.kind];rfl
   have o:∀(g:St) (H':Hp) (s5:Shared) (Q:Unit->Shared->Prop),c7 X pins g H' s5->(∀K,c7 X pins (g.set j Z) H' K->Q () K)->(zw X) (do bindName X.env y .none;unbindBehindTheSuite X.env y L) Q E s5:=λg H' s5 Q V k=>by obtain⟨m6,O,R⟩:=id V.loc;exact wpAny_nameGoes_keeps M O hp λh' v P A=>k _ (V.v_ U S R P A)
   refine bM (@ht pins s4 _ H3 (D.un j) (I4.susp e) q) (λf s5 B=>?_) λ_ _ z=>z.elim;cases f with
   |next=>obtain⟨g,H',J,d⟩:=B;exact o g H' s5 _ (J.back I.ok) λK G=>{_,H',G,d}
   |brk=>obtain⟨g,H',J,d⟩:=B;exact o g H' s5 _ (J.back I.ok) λK G=>{_,H',G,d}
   |cont=>obtain⟨g,H',J,d⟩:=B;exact o g H' s5 _ (J.back I.ok) λK G=>{_,H',G,d}
   |ret u=>sleep 1;obtain⟨v,g,H',J,W,d⟩:=B;sleep 2;exact o g H' s5 _ (J.back I.ok) λK G=>{(v),_,H',G,W,d}
end
section
variable {R:Addr}{D:pb}
theorem PH{H1 g:Hp}{O i:Shared}{e:Addr}{n:Int} (L:X.stack=X.env::X.outer) (hfm:X.env.frame=Y X.env.locals) (hex:X.ex=[]) (ly:X.env.scope.names.lookup y=Y .local) (hN:X.N.Nodup) (hj:X.N[j]?=Y y)
  (I:c7 X pins σ H1 O) (os:i.os=O.os) (bare:AllBare i.gens) (F:Lh X.prog X.w C R X.stack H1 O n g e dx .none i.heap)
  (hq:∀H3,dV g H3->g e=Z->(∀d,dx=Y d->g d=Z)->H3 e=Y (xo (BH C R n) dx e)->(n<0->dx=Z)->(0<=n->∃d,dx=Y d/\H3 d=Y (xl n d))->Tk X (BH C R n) e j D σ H3 hs):
  (zw X) (noteFrame (.ref e) X.env) (λ_ pq=>(zw X) (setFlight (.ref e) Z) (λ_ uI=>(zw X) (handleBy (.ref e) X.env (hs.map (RR y))) (SP X pins D) E uI) E pq) E i:=by
 sleep 1;obtain⟨h₀,fs,t,un,ip,Z2,r,M,F⟩:=F.ex;sleep 2;have l:∀(h:Heap) (fl:Value) (tk:Nat),BG h₀ fs (BH C R n) e dx (CA n t) fl h->c7 X pins σ g { i with heap:=h,toks:=tk }:=λh fl tk G=>by
  obtain⟨a,b⟩:=Lh.un (P:=X.prog) (w:=X.w) (C:=C) (R:=R) (outer:=X.stack) (H:=H1) (s:=O) (n:=n) (H':=g) {(h₀),fs,t,un,ip,Z2,r,M,G};have J:=I.call (g':=i.gens) (d':=i.drawn) (t':=tk) (ch:=[]) a b bare λb z=>by cases z
  rw[<-os] at J;exact J
 have I0:=l i.heap _ i.toks F;have hfr:=I0.ok.frames;rw[L] at hfr;have hl:=I0.stack;rw[L] at hl;have f:∀a o,O.heap.get? a=Y o->a≠e/\∀d,dx=Y d->a≠d:=λa o q=>by obtain⟨o',U⟩:=un.there a o q aU;exact F.apart U
 have B:∀a o,g a=Y o->a≠e/\∀d,dx=Y d->a≠d:=λa o q=>by obtain⟨ob,U⟩:=(ip a o q).there;exact F.apart U
 have K:∀b,(∀a o,O.heap.get? a=Y o->a≠b)->b≠X.env.locals/\X.iH.heap.get? b=Z/\(∀x c,X.env.cells.lookup x=Y c->c≠b)/\∀p∈X.pn++pins,p.1≠b:=λb f=>by
  refine{λz=>?_,?_,λx c h=>?_,λp hp=>f _ _ (I.pin p hp).1}
  .obtain⟨m,⟨o,_,_,A,_⟩,_⟩:=I.loc;exact f _ _ A z.symm
  .cases q:X.iH.heap.get? b with
   |none=>rfl
   |some o=>obtain⟨o',U⟩:=I.base.there b o q (by rw[hex];exact aU);exact absurd rfl (f _ _ U)
  .obtain⟨v,o,A,_⟩:=I.cell x c h;exact f _ _ A
 obtain⟨le,ze,ce,pe⟩:=K e λa o q=>(f a o q).1;have ne:g e=Z:=by
  cases q:g e with
  |none=>rfl
  |some o=>exact absurd rfl (B e o q).1
 have nd:∀d,dx=Y d->g d=Z:=λd S=>by
  cases q:g d with
  |none=>rfl
  |some o=>exact absurd rfl ((B d o q).2 d S)
 have T:∀(H':Hp) (h:Heap) (fl:Value),BG h₀ fs (BH C R n) e dx (CA n t) fl h->iS X.prog X.w H' h e (xo (BH C R n) dx e):=λH' h fl G=>by sleep 1;obtain⟨oe,vs,TT,oT,ts,Q,⟨c1,c2,c3⟩,-⟩:=G.ob;sleep 2;exact{{(oe),vs,Q,c1,c2,c3},{(oe),Q},by rintro h1 h2 ⟨o,v,q1,q2⟩ k;exact{o,v,k o q1,q2}}
 have all:∃H3,dV g H3/\H3 e=Y (xo (BH C R n) dx e)/\(0<=n->∃d,dx=Y d/\H3 d=Y (xl n d))/\∀(h:Heap) (fl:Value) (tk:Nat),BG h₀ fs (BH C R n) e dx (CA n t) fl h->c7 X pins σ H3 { i with heap:=h,toks:=tk }:=by
  cases dx with
  |none=>refine{upd g e (xo (BH C R n) Z e),iV ne,eB,λz=>?_,λh fl tk G=>(l h fl tk G).EB ne le ze ce pe (T _ h fl G)};obtain⟨d,z⟩:=M.2 z;cases z
  |some d=>
   obtain⟨ld,zz,cd,pd⟩:=K d λa o q=>(f a o q).2 d rfl;have nd:=nd d rfl;have V:e≠d:=λz=>by sleep 1;obtain⟨oe,vs,TT,oT,ts,Q,⟨c1,c2,c3⟩,-⟩:=F.ob;sleep 2;sleep 1;obtain⟨o,es,ep,A,S,_⟩:=F.ns d rfl;sleep 2;rw[<-z,Q] at A;cases A;rw[c3] at S;cases S
   have W:upd g d (xl n d) e=Z:=by rw[c8 V];exact ne
   refine{upd (upd g d (xl n d)) e (xo (BH C R n) (Y d) e),(iV nd).trans (iV W),eB,λ_=>{d,rfl,by rw[c8 (Ne.symm V),eB]},λh fl tk G=>?_};refine((l h fl tk G).EB (u:=xl n d) nd ld zz cd pd {{t,G.ns d rfl},?_,by rintro h1 h2 ⟨t,o,es,ep,q1,q2⟩ k;exact{t,o,es,ep,k o q1,q2}}).EB W le ze ce pe (T _ h fl G);sleep 1;obtain⟨o,es,ep,A,_⟩:=G.ns d rfl;sleep 2;exact{(o),A}
 sleep 1;obtain⟨H3,sm,Q,S,w_⟩:=all;sleep 2;refine F.note hfr hl hfm (λb z=>r b (by rw[L];exact z)) λh1 F1=>?_;refine BG.lands (s:={ i with heap:=h1 }) F1 λh2 F2=>?_;exact Ll (s:=i) ly hN hj (λh fl tk G=>{l h fl tk G,w_ h fl tk G}) hs h2 i.toks F2 (hq H3 sm ne nd Q M.1 S)
end
end L2
namespace L2
open PySem PySem.Spec PyProof.Rows PySem.W
section
variable {R:Addr}{fn:Str}{f:Addr}{sp:Sp}{kk:Nat}{t:TA}{p1 Ay:Pos}{q0:Str×Pos×List Stmt×Pos}
def XM(X:Cx)(C R:Addr)(j:Nat)(h:List (Str×Pos×List Stmt×Pos))(f:Sp)(t:TA)(g:V->St->St):TS:=λD b H=>t b H λc i=>f c i (λv a=>D.nx (g v b) a) λv _ a=>∃n,v=.int n 0 /\
 ∀(e:Addr) (dx:Option Addr) H3,dV a H3->a e=Z->(∀d,dx=Y d->a d=Z)->H3 e=Y (xo (BH C R n) dx e)->(n<0->dx=Z)->(0<=n->∃d,dx=Y d/\H3 d=Y (xl n d))->Tk X (BH C R n) e j D b H3 h
theorem US(F:kz X.prog X.w X.K X.mg X.base (I7 X.prog X.w C R) kk f fd ps sp) (hr:iq kk X.A) (x:Gl X fn) (o:X.mg fn=Y (.ref f)) (hk:keepIn X.K (.ref f)=true) (hb:jK X.K fd ps []) (ha:PA X (e::es) t) (m:X.xe=λ_ _=>False)
  (hN:X.N.Nodup) (hj:X.N[j]?=Y y) (ly:X.env.scope.names.lookup y=Y .local) (k:X.stack=X.env::X.outer) (B:X.env.frame=Y X.env.locals) (E:X.ex=[]) (G:zg fn) (he:zE e es X) (l:(backTo gv (starEach es X.env)).any (·.1)=false)
    {D:pb}{g:V->St->St}{Q:Px} (I:c7 X pins σ H s) (h:XM X C R j hs sp t g D σ H) (hq:∀v u H2 s',c7 X pins σ H2 s'->gg v u->D.nx (g v σ) H2->Q u s'):
  (zw X) (eval (.Call (.Name fn p) (e::es) [] gv) X.env) Q (λe s₁=>(zw X) (noteFrame e X.env) (λ_ pq=>(zw X) (setFlight e Z) (λ_ uI=>(zw X) (handleBy e X.env (hs.map (RR y))) (SP X pins D) X.xe uI) X.xe pq) X.xe s₁) s:=by
 have L:=@ha gv pins s σ H _ I h;rw[m] at L;refine bA (kj I x o ?_ G);refine W.callWith_K (h₀:=X.base) I.ok.mod.Rn hk (bM L (?_) λ_ _ z=>z.elim) he l;rintro i J ⟨M,H1,d,r,q⟩;refine{d.oj,?_};have hl:i.length=ps.length:=by rw[<-r.length];exact F.len _ _ _ _ q
 refine wpAny_call (cO (F.run X.A X.stack J H1 {i,[]} i M _ _ hr d.Jx (by have:=hb J i d.oj (by rw[aK];exact hl);rw[aK] at this;exact this) r q) λr s' b=>?_);cases r with
 |error v=>sleep 1;obtain⟨a,dx,n,H2,rfl,T,c,FL,n',en,hD⟩:=b;sleep 2;cases en;exact PH k B E ly hN hj d T c FL λH3 O n1 U h1 h2 h3=>hD a dx H3 O n1 U h1 h2 h3
 |ok fl=>
  cases fl with
  |ret u=>sleep 1;obtain⟨v,H2,I2,P,S⟩:=d.after b;sleep 2;exact hq v u H2 s' I2 P S
  |next=>exact False.elim b
  |brk=>exact False.elim b
  |cont=>exact False.elim b
def PK(F:kz X.prog X.w X.K X.mg X.base (I7 X.prog X.w C R) kk f fd ps sp) (x:iq kk X.A) (k:Gl X fn) (i:X.mg fn=Y (.ref f)) (z:keepIn X.K (.ref f)=true) (G:jK X.K fd ps []) (J:PA X (e::es) t) (g:X.xe=λ_ _=>False)
  (L:X.N.Nodup) (B:X.N[j]?=Y y) (r:X.env.scope.names.lookup y=Y .local) (b:X.stack=X.env::X.outer) (l:X.env.frame=Y X.env.locals) (m:X.ex=[]) (n:zg fn) (E:zE e es X) (d:(backTo gv (starEach es X.env)).any (·.1)=false)
  (c:swapsWith (.Call (.Name fn p) (e::es) [] gv) Z Ay.line X.env=pure false):PS X (.Try [.Expr (.Call (.Name fn p) (e::es) [] gv) Ay] ((q0::hs).map (RR y)) [] [] pos) (XM X C R j (q0::hs) sp t λ_ a=>a):=by
 intro o s a H D I h;refine wpAny_Try_except (wpAny_execs_cons (wpAny_Expr_any ?_ I.quiet c));exact US F x k i z G J g L B r b l m n E d I h λv u O P M Q q=>cJ (cJ {(a),O,M,q})
end
end L2
namespace L2
open PySem PySem.Spec PyProof.Rows PySem.W
section
variable {R:Addr}{E:XK}{arg:Expr}{np:Pos}{k:Nat}
def pH(f:aC->Od):aC->Option Out:=λa=>(f a).bind λd=>match d with
 |.int n=>if 0<=n/\n<10000 then Y (.rt (.int n)) else Z
 |_=>Z
def tq(B:u_ X.K X.mg c C) (t:Gl X c) (x:PD X arg f) (s:iq (k+2) X.A) (u:zr0 (X.calm=true)) (h:zr0 (X.stack=X.env::X.outer)) (l:zr0 (X.env.frame=Y X.env.locals)) (m:zr0 (X.ex=[]))
  (g:zr0 (X.xe=λe s'=>(zw X) (leaving X.env e) (λ_ Li=>I7 X.prog X.w C R X.outer X.q9 X.iH E e Li) (λe' Li=>I7 X.prog X.w C R X.outer X.q9 X.iH E e' Li) s'))
  (b:zr0 (starEach [arg] X.env=[(false,eval arg X.env)])) (p:zd0 (zg c)):mX X (.exc λn q=>E (.int n 0) Z q) O (.Raise (Y (.Call (.Name c np) [arg] [] gv)) Z pos) (pH f) :=
 PS.imp (Lj B t x s u h l m g b p) <| by
  rintro D F H ⟨r,o,G,b,e,k⟩;obtain⟨d,y,a⟩:=bind_some e;obtain⟨n,rfl⟩:∃n,d=.int n:=by cases d<;>first|exact{_,rfl}|cases a
  dsimp only at a;by_cases j:0<=n/\n<10000
  .rw[ai j] at a;cases a;rcases k with ⟨I,z,w⟩ | ⟨z,_⟩
   .cases z;exact{r,.int n,b.o.full,y,λv q s' i=>{n,by rw[bC.d5.mp i],j,w q (b.o.sub.trans s')}}
   .exact absurd rfl (z n)
  .rw[aq j] at a;cases a
def CC(f:aC->Od):aC->Option Out:=λa=>(f a).bind λd=>match d with
 |.int _=>Z
 |d=>Y (.rt d)
def Lm{W:Int->Hp->Prop}(h:PD X e f):mX X (.exc W) O (.Return (Y e) pos) (CC f) :=
 PS.imp (sN h) <| by
  rintro D p H ⟨g,o,G,b,e,k⟩;obtain⟨d,m,c⟩:=bind_some e;have a:∀n,d≠.int n:=λn z=>by subst z;cases c
  obtain rfl:o=.rt d:=by cases d<;>first|(cases c;rfl)|exact absurd rfl (a _)
  rcases k with ⟨l,z,w⟩ | ⟨_,k⟩
  .exact absurd z (a l)
  .exact{g,d,b.o.full,m,λv q j i=>KD.later k (b.o.sub.trans j) |>.here i}
end
def spX(K:Frag)(n:Nat)(f:Lp->Od):Sp:=λc H Q E=>∃a d,a9 K H a c/\a.length=n/\f a=Y d/\((∃m,d=.int m/\∀b,dV H b->E (.int m 0) Z b)\/((∀m,d≠.int m)/\KD K H d Q))
structure EC (P:Program) (w:World) (K:Frag) (mg:Str->Ow) (base:Heap) (C R:Addr) (x:Str) (k n:Nat) (f:Lp->Od):Prop where
 ex:∃a fd ps,kz P w K mg base (I7 P w C R) k a fd ps (spX K n f)/\mg x=Y (.ref a)/\keepIn K (.ref a)=true/\jK K fd ps []
section
variable {P:Program}{K:Frag}{R:Addr}{qual:Str}{fa:Addr}{N:Lr}{k:Nat}{f:Lp->Od}
theorem PL(F:DH K x qual st fa fd) (S:iT N ps (bD st)) (J:n=ps.length) (T:∀i∈O,n<=i)
  (b:∀(qf:Value) (A:Around) (outer:List Env) (s:Shared) (H:Hp) (E:XK),iq k (A.deeper (envOfC qual (bD st) (zB s) fa qf)) ->
   mQ (sP (I7 P w C R) P w K mg base N qual (bD st) fa qf A outer s H E) (.exc λn H'=>E (.int n 0) Z H') O (ie st) g):kz P w K mg base (I7 P w C R) (k+1) fa fd ps (spX K n (ij N g)):=by
 sleep 1;obtain⟨oc,od,kV,W,pm,an,qf,ct,B,rfl,D,t⟩:=F.ex;sleep 2;refine Ry D t S (by rintro vs H Q E ⟨c,d,i,l,_⟩;rw[<-i.length,l,J]) ?_;rintro A outer s H vs Q E I ⟨c,d,i,l,e,k⟩;refine{_,b qf A outer s H E I,?_};obtain⟨o,V,p⟩:=bind_some e;have u:=mv (N:=N) i;have a:∀i∈O,((gF N c)[i]?).join=Z:=λj L=>by
  have:¬ j<c.length:=by have:=T j L;omega
  unfold gF;rw[aP (by simpa using this),bR];split<;>rfl
 have r:∀f:List Nat,(∀i∈f,i∈O)->il (jI O) K (lS N vs) (gF N c) H f []:=by
  intro f;induction f with
  |nil=>intro _;rfl
  |cons j f G=>exact λh=>.inl {a j (h j (by simp)),G λi M=>h i (ao _ M)}
 refine{gF N c,o,H,{{u.1,{[],rfl,jv.nil,r O λ_ h=>h},λi d q _=>u.2 i d q},λdp v0 z=>nomatch z},V,?_};cases o with
 |rt d'=>cases p;exact k
 |nx v=>
  cases p;rcases k with ⟨m,z,_⟩ | ⟨_,k⟩
  .cases z
  .exact λX H' G' y U=>k .lz H' (y.trans U.o.sub) (bC.iU.mpr rfl)
 |bk _=>cases p
 |ct _=>cases p
def yF(f:Lp->Od):Lp->Od:=λa=>(f a).bind λd=>match d with
 |.int _=>Z
 |d=>Y d
theorem EC.own(h:EC P w K mg base C R x k n f):nR P w K mg base x k n (yF f):=by
 sleep 1;obtain⟨a,M,y,F,J,I,G⟩:=h.ex;sleep 2;have b:∀{ds d},yF f ds=Y d->f ds=Y d/\∀m,d≠.int m:=λ{ds d} e=>by
  obtain⟨j,N,t⟩:=bind_some e;have o:∀n,j≠.int n:=λn z=>by subst z;cases t
  obtain rfl:j=d:=by cases j<;>first|(cases t;rfl)|exact absurd rfl (o _)
  exact{(N),o}
 refine{a,M,y,{λvs H Q E ⟨ds,d,i,l,e,q⟩=>F.len vs H Q (λ_ _ _=>False) {ds,d,i,l,(b e).1,.inr {(b e).2,q}},?_},J,I,G};rintro A c s H g u vs Q E B O D r ⟨ds,d,i,l,e,q⟩;refine cO (F.run A c s H g u vs Q (λ_ _ _=>False) B O D r {ds,d,i,l,(b e).1,.inr {(b e).2,q}}) λr S p=>?_;cases r with
 |ok L=>cases L<;>exact p
 |error v=>sleep 1;obtain⟨e,T,n,U,_,_,_,_,z⟩:=p;sleep 2;exact z.elim
end
def jJ.unset{K:Frag}(h:jJ m O K σ ρ H G)(l:i∉O):jJ m O K (σ.set i Z) (ρ.set i Z) H G:=by
 obtain⟨B,t,f,d⟩:=h.o.ex;refine{{by simpa using h.o.len,{B,t,f,d.other λj e=>?_},λj w q e=>?_},λv r z=>?_}
 .have c:i≠j:=λz=>l (z▸e);exact{av c,av c}
 .by_cases c:j=i
  .subst c;by_cases k:j<ρ.length
   .rw[aQ k] at q;cases q
   .rw[cp (by simpa using k)] at q;cases q
  .rw[av (Ne.symm c)] at q;obtain⟨u,a,b⟩:=h.o.lz j w q e;exact{u,by rw[av (Ne.symm c)];exact a,b}
 .obtain⟨g,p,n⟩:=h.z v r z;have s:i≠0:=λq=>l (q▸g);exact{g,by rw[av s];exact p,n}
section
variable {P:Program}{K:Frag}{R:Addr}{qual:Str}{fa:Addr}{N:Lr}{k:Nat}{f:Lp->Od}
end
section
variable {R:Addr}{E:XK}{fn:Str}{ok:Lp->Bool}{f:Lp->Od}{k jj:Nat}
end
def Ln(c:Str)(v:Int):fZ:=if v<0 then .dict [(.bool true,.str c)] else .dict [(.bool true,.str c),(.str "line",.int v)]
def Y5(j:Nat):Out->Out
 |.nx ρ=>.nx (ρ.set j Z)
 |.bk ρ=>.bk (ρ.set j Z)
 |.ct ρ=>.ct (ρ.set j Z)
 |.rt d=>.rt d
theorem vy.un{m:Md}{O:List Nat}{K:Frag}{G:Hp}{D:pb}{j:Nat}(b:j∉O):∀{o:Out},vy m O K G D (Y5 j o)->vy m O K G (D.un j) o
 |.nx _,h=>λc H' a s h'=>h _ H' a s (h'.unset b)
 |.bk _,h=>λc H' a s h'=>h _ H' a s (h'.unset b)
 |.ct _,h=>λc H' a s h'=>h _ H' a s (h'.unset b)
 |.rt _,h=>h
def Iq(X:Cx)(e c:Addr)(m:Md)(O:List Nat)(h:aC->Option Out):List (Str×Pos×List Stmt×Pos)->Prop
 |[]=>False
 |q::r=>∃D b,(Gl X q.1/\X.mg q.1=Y (.ref D)/\(q.1==("__debug__":Str))=false)/\Lk X.K D/\subIn X.K (.ref c) (.ref D)=Y b/\if b=true then q.2.2.1≠[]/\mQ (X.susp e) m O q.2.2.1 h else Iq X e c m O h r
theorem Iq.tk{X:Cx}{e c:Addr}{m:Md}{O:List Nat}{h:aC->Option Out}{j:Nat}{D:pb}{d:St}{a:aC}{H G:Hp}{o:Out}(f:jJ m O X.K (d.set j (Y (.ref e))) a H G)(g:h a=Y o)(k:vy m O X.K G (D.un j) o):∀{l:List (Str×Pos×List Stmt×Pos)},Iq X e c m O h l->Tk X c e j D d H l
 |[],q=>q
 |_::_,⟨C,b,q1,q2,q3,q4⟩=>by
  refine{C,b,q1,q2,q3,?_};cases b with
  |false=>exact Iq.tk f g k q4
  |true=>exact{q4.1,_,q4.2,a,o,G,f,g,k}
def yG(n:Nat)(f:Lp->Od)(e:aC->Option Lp)(j:Nat)(h g:Str)(c b:aC->Option Out):aC->Option Out:=λa=>(e a).bind λds=>if ds.length=n then (f ds).bind λd=>match d with
 |.int v=>((if v<0 then b else c) (a.set j (Y (Ln (if v<0 then g else h) v)))).map (Y5 j)
 |_=>Y (.nx a) else Z
section
variable {R:Addr}{fn cP cR:Str}{ok:Lp->Bool}{f:Lp->Od}{Ay p1:Pos}{k jj:Nat}{h1 h2:aC->Option Out}{q0:Str×Pos×List Stmt×Pos}
def PM{v:Int}{n:Hp}{D:pb}{o:Out} (W:iE X.K cP C) (V:iE X.K cR R) (A:j∉O) (I:∀e,Iq X e C m O h1 hs) (F:(∀ρ,h2 ρ=Z)\/∀e,Iq X e R m O h2 hs) (B:jJ m O X.K σ ρ H G) (w:dV H n)
  (h:(if v<0 then h2 else h1) (ρ.set j (Y (Ln (if v<0 then cR else cP) v)))=Y o) (k:vy m O X.K G D (Y5 j o)):
  ∀(f:Addr) (dx:Option Addr) H3,dV n H3->n f=Z->(∀d,dx=Y d->n d=Z)->H3 f=Y (xo (BH C R v) dx f)->(v<0->dx=Z)->(0<=v->∃d,dx=Y d/\H3 d=Y (xl v d))->Tk X (BH C R v) f j D σ H3 hs:=λf dx H3 J Q P T S t=>by
 obtain⟨G1,L,E,r⟩:=B.o.grow (w.trans J);have b:∀a,n a=Z->H a=Z:=λa q=>by
  cases z:H a with
  |none=>rfl
  |some u=>rw[w a u z] at q;cases q
 have p:=(E f (b f Q)).trans T;have l:∀(c:Str) (i:Addr) (s:aC->Option Out),BH C R v=i->(∀e,Iq X e i m O s hs)->s (ρ.set j (Y (Ln c v)))=Y o->iE X.K c i->Tk X (BH C R v) f j D σ H3 hs:=λc i s y N M x=>by
  rw[y];rw[y] at p;refine Iq.tk (jJ.set {r,B.z} A ?_) M (vy.un A (vy.later L k)) (N f);unfold Ln;split
  .rename_i g;rw[S g] at p;exact bC.ke.mpr {f,rfl,.inr (.inr {c,i,x,.inl {(rfl),p}})}
  .rename_i g;obtain⟨d,rfl,U⟩:=t (by omega);exact bC.ke.mpr {f,rfl,.inr (.inr {c,i,x,.inr {v,d,rfl,p,(E d (b d (P d rfl))).trans U}})}
 by_cases g:v<0
 .rw[ai g,ai g] at h;rcases F with z|z
  .rw[z] at h;cases h
  .exact l cR R h2 (ai g) z h V
 .rw[aq g,aq g] at h;exact l cP C h1 (aq g) I h W
theorem Lo(j:Nat) (F:EC X.prog X.w X.K X.mg X.base C R fn jj n f) (hr:iq k X.A) (hN:X.N.Nodup) (u:Gl X fn) (ha:xh X (e::es) ff) (hP:iE X.K cP C) (hR:iE X.K cR R) (U:∀e,Iq X e C m O h1 (q0::hs)) (T:(∀ρ,h2 ρ=Z)\/∀e,Iq X e R m O h2 (q0::hs))
  (hj:zd0 (jj<=k)) (jO:zd0 (j∉O)) (r:zr0 (X.xe=λ_ _=>False)) (t:zr0 (X.N[j]?=Y y)) (W:zr0 (X.env.scope.names.lookup y=Y .local)) (h:zr0 (X.stack=X.env::X.outer)) (x:zr0 (X.env.frame=Y X.env.locals)) (B:zr0 (X.ex=[]))
  (i:zr0 (swapsWith (.Call (.Name fn p) (e::es) [] gv) Z Ay.line X.env=pure false)) (E:zd0 (zg fn)) (he:zr0 (zE e es X)) (q:zr0 ((backTo gv (starEach es X.env)).any (·.1)=false)):
  mX X m O (.Try [.Expr (.Call (.Name fn p) (e::es) [] gv) Ay] ((q0::hs).map (RR y)) [] [] pos) (yG n f ff j cP cR h1 h2):=by
 sleep 1;obtain⟨a,fd,ps,F,g1,g2,g3⟩:=F.ex;sleep 2;refine PS.imp (PK (F.mono hj) hr u g1 g2 g3 ha r hN t W h x B E he q i) ?_;rintro D S H ⟨ρ,o,G,b,e,k⟩;obtain⟨I,e1,c⟩:=bind_some e;by_cases s:I.length=n
 .rw[ai s] at c;obtain⟨d,e3,P⟩:=bind_some c;refine{ρ,I,b.o.full,e1,λvs H' J i'=>{I,d,i',s,e3,?_}};by_cases M:∃v,d=.int v
  .obtain⟨v,rfl⟩:=M;obtain⟨o',e5,rfl⟩:=aj.mp P;exact .inl {v,rfl,λQ g=>{v,rfl,PM hP hR jO U T b (J.trans g) e5 k}}
  .have L:∀v,d≠.int v:=λv z=>M {(v),z};obtain rfl:o=.nx ρ:=by cases d<;>first|(cases P;rfl)|exact absurd rfl (L _)
   refine .inr {L,λv Q g i2=>?_};obtain⟨G1,V,gn,l⟩:=b.o.grow (J.trans g);exact k S Q G1 V {l,b.z}
 .rw[aq s] at c;cases c
end
end L2
namespace L2
open PySem PySem.Spec PyProof.Rows PySem.W
open PySem.Builtin PySem.Builtin.ObjectAttr
structure UT (K:Frag) (C:Addr):Prop where
 ga:findIn K (.ref C) "__getattribute__"=Y (Y (.builtin "BaseException.__getattribute__"))
 hook:findIn K (.ref C) "__getattr__"=Y Z
 sub:subIn K (.ref C) (.type "BaseException")=Y true
 cl:(clsIn K C).isSome=true
 ha:findIn K (.ref C) "__class__"=Y (Y (.builtin "object.__class__"))
 hn:specialIn K (.builtin "object.__class__") "__get__"=Y (Y (.builtin "getset_descriptor.__get__"))
 tk:takesIn K (.builtin "object.__class__")=Y true
 mo:mroIn K C (.type "object")=Y true
section
variable {prog:Program}{K:Frag}{e:Addr}{oe:Obj}{od:Option Obj}
def Ir{b:Str}{a g:Value}(c:(clsIn K C).isSome=true)(f:findIn K (.ref C) b=Y (Y a))(e:specialIn K a "__get__"=Y (Y g))(d:takesIn K a=Y true):findObj K C od b=Y (.bind g a):=by obtain⟨h,c⟩:=Option.isSome_iff_exists.mp c;unfold findObj;rw[c,aL,f,aL];simp only[e,aL,d]
theorem PN{Q:Ow->Shared->Prop}(X:K.In s.heap)(c:UT K C)(I:InstAt s.heap e oe C od)(h:Q (Y (.ref C)) { s with toks:=s.toks+1 }):wpAny (model prog w) A (getAttr? (.ref e) "__class__") Q E s:=by
 have a:=I.type (M:=model prog w);have b:Looks (model prog w) s.heap (hookBefore (.ref C)) Z:=looks_hook X (by rw[ai (show onTheHeap (.ref C)=true from rfl)];exact c.hook);unfold getAttr? getAttrBy? getAttrBy;refine aa (wpAny_mkText (aa (wpAny_attempt (bp (aa (a _ _ _ _ (λ_ _ e=>e) (aa (looks_findIn X c.ga _ _ _ _ (λ_ _ e=>e) ?_))))))));dsimp only;rw[show (onTheHeap (.ref C)&&Value.builtin "BaseException.__getattribute__"==Value.builtin "object.__getattribute__")=false from by rw[show (Value.builtin "BaseException.__getattribute__"==Value.builtin "object.__getattribute__")=false from by decide +kernel,Bool.and_false],aq (by decide)];refine aa (b _ _ _ _ (λ_ _ e=>e) (aa (wpAny_attempt (bp ?_))));unfold callGetattribute;rw[aq (by decide)];unfold boundAndCalled;have d:bindSpecial (.builtin "BaseException.__getattribute__") (.ref e)=pure (.builtin "BaseException.__getattribute__",[.ref e]):=by kernel_rfl
 rw[d];refine aa (ak ?_);show wpAny _ _ (call (.builtin "BaseException.__getattribute__") [.ref e,.str "__class__" s.toks]) _ _ _;refine wpAny_call (codeAny_call_builtin (by decide +kernel) F.entry_bexc_ga (@check_slot (model prog w) _ _ _ "BaseException.__getattribute__" "BaseException" "__getattribute__" (.ref e) [.str "__class__" s.toks] [] _ (by decide +kernel) (by decide +kernel) (a.andThen (looks_subIn X c.sub)) (F.args_bexc_ga (.ref e) (.str "__class__" s.toks)) ?_));rw[Lc];refine aa (a _ _ _ _ (λ_ _ e=>e) (aa ((looks_find X I (Ir c.cl c.ha c.hn c.tk)) _ _ _ _ (λ_ _ e=>e) ?_)));show wpAny _ _ (holding [.builtin "object.__class__"] (call (.builtin "getset_descriptor.__get__") [.builtin "object.__class__",.ref e,.ref C])>>=λv=>ret v) _ _ _;refine aa (bp (wpAny_call (class_get (s:={ s with toks:=s.toks+1 }) X I c.mo ?_)));exact ak (handed_on rfl (ak h))
def CD(c:UT K C):KitX K (.ref e) (.ref C) (λh=>∃oe od,InstAt h e oe C od) where
 ty:=λ_ _ _ ⟨_,_,I⟩=>I.type
 it:=λ_ _ X _=>by
  obtain⟨m,a⟩:=Option.isSome_iff_exists.mp c.cl;unfold clsIn at a;split at a
  .rename_i o l g b f;intro v t u r k q;unfold isType loadHead;exact aa (wpAny_loadPart (k _ _ (X _ _ f)) (ak q))
  .cases a
 ne:=λh i s j n p X d=>by
  obtain⟨m,a⟩:=Option.isSome_iff_exists.mp c.cl;refine Bool.eq_false_iff.mpr λq=>?_;have e:C=i:=Value.ref.inj (bw.mp q);subst e;unfold clsIn at a;split at a
  .rename_i o l g b f;have z:=(X _ _ f).symm.trans d;cases z
  .cases a
 ca:=λX ⟨_,_,I⟩ k=>PN X c I k
end
def bC.ED{K:Frag}{r:List (fZ×fZ)}(h:bC K H (.dict ((.bool true,.str c)::r)) v):∃p C,v=.ref p/\iE K c C/\RD H p C c ((.bool true,.str c)::r):=by
 obtain⟨p,j,⟨k,b,a⟩ | ⟨f,C,m,l,b,a,i⟩ | ⟨f,C,b,a⟩⟩:=bC.ke.mp h
 .obtain⟨y,_,_,_,e,_⟩:=gs.dv.mp a;cases y<;>cases e
 .obtain⟨g,_⟩:=nQ.dv.mp i;cases g
 .obtain rfl:f=c:=by
   rcases a with ⟨z,_⟩ | ⟨n,d,z,_⟩<;>· injection z with z _;injection z with _ z;injection z with z;exact z.symm
  exact{(p),C,j,b,a}
def RD.inst{P:Program}{p:Addr}(k:oP P w H h)(x:RD H p C c jG):∃a q,InstAt h p a C q:=by
 rcases x with ⟨_,b⟩ | ⟨n,d,_,b,f⟩
 .obtain⟨⟨a,l,j,i,g,e⟩,_⟩:=k p _ b;refine{a,Z,j,i,?_,?_}
  .unfold notCls;rw[e]
  .rw[g];trivial
 .obtain⟨⟨a,l,j,i,g,e⟩,_⟩:=k p _ b;sleep 1;obtain⟨⟨t,o,r,s,m,_⟩,_⟩:=k d _ f;sleep 2;refine{a,Y o,j,i,?_,?_}
  .unfold notCls;rw[e]
  .rw[g];exact m
section
variable {pt:Pos}
def uh(l:List (Str×Bool))(d:fZ):Od:=match d with
 |.dict ((.bool true,.str c)::_)=>(l.lookup c).map .bool
 |_=>Z
def Iu(l:List (Str×Bool))(f:aC->Od):aC->Od:=λa=>(f a).bind (uh l)
def yH(K:Frag)(t:Value)(l:List (Str×Bool)):Prop:=∀q∈l,∃C,iE K q.1 C/\UT K C/\kitOne K (.ref C) t=Y q.2
def CF{tv:V}{t:Value}(o:∀u,gg tv u->u=t)(a:yH X.K t l):i6 X (.builtin "isinstance") (λxs H Q=>∃d v b,xs=[v,tv]/\bC X.K H d v/\uh l d=Y (.bool b)/\Q (.bl b) H):=by
 intro i s E H xs F Q I r h;sleep 1;obtain⟨d,v,b,rfl,y,e,q⟩:=h;sleep 2;sleep 1;obtain⟨u,k,rfl,n,f⟩:=Jq r;sleep 2;obtain rfl:=o k f;unfold uh at e;split at e
 .rename_i c G;obtain⟨L,D,B⟩:=aj.mp e;cases B;sleep 1;obtain⟨J,C,rfl,A,x⟩:=y.ED;sleep 2;cases n;have p:(c,b)∈l:=mem_of_lookup D;obtain⟨M,g,j,w⟩:=a _ p;obtain rfl:=A.uniq g;exact W.kia_one (CD j) I.oj (x.inst I.ip) w (λz=>nomatch z) λm=>{.bl b,H,I.tok m,rfl,q}
 .cases e
def CG{Q:VK}{tv:V}(h:tD X.K (Iu l f) σ H Q):YV (λxs H Q=>∃d v b,xs=[v,tv]/\bC X.K H d v/\uh l d=Y (.bool b)/\Q (.bl b) H) (BP (tD X.K f) (BP (λ_ H Q=>Q tv H) DW)) σ H Q:=by
 sleep 1;obtain⟨c,d,j,e,k⟩:=h;sleep 2;obtain⟨x,m,a⟩:=bind_some e;refine{c,x,j,m,λv n g i=>?_};obtain⟨b,rfl⟩:∃b,d=.bool b:=by
  unfold uh at a;split at a
  .obtain⟨b,_,z⟩:=aj.mp a;exact{b,z.symm}
  .cases a
 exact{x,v,b,rfl,i,a,(k.later g).here (bC.d6.mpr rfl)}
def UU{D:Addr} (n:PD X e f) (m:Gl X "isinstance") (k:X.mg "isinstance"=Z) (g:Gl X x) (d:X.mg x=Y (.ref D)) (a:yH X.K (.ref D) l) (i:zd0 (zg x))
  (j:zr0 (starEach [e,.Name x pt] X.env=(false,eval e X.env)::starEach [.Name x pt] X.env)) (b:zr0 (starEach [.Name x pt] X.env=(false,eval (.Name x pt) X.env)::starEach [] X.env)) (c:zr0 ((backTo pos (starEach [.Name x pt] X.env)).any (·.1)=false)):
  PD X (.Call (.Name "isinstance" p) [e,.Name x pt] [] pos) (Iu l f) :=
 PE.imp (pv (CF (tv:=.ref D) (λu z=>z) a) m k (by rfl) (gR n (gR (λpins s σ H Q I q=>kj I g d {.ref D,H,I,rfl,q} i) kO b) j) (by decide) (by decide) j c) λσ H Q h=>CG h
def UW{T:String} (q:PD X e f) (o:Gl X "isinstance") (n:X.mg "isinstance"=Z) (g:Gl X x) (d:X.mg x=Z) (k:bootBuiltins x=Y (.type T)) (a:yH X.K (.type T) l) (m:zd0 (x≠"__name__")) (i:zd0 (zg x))
  (j:zr0 (starEach [e,.Name x pt] X.env=(false,eval e X.env)::starEach [.Name x pt] X.env)) (b:zr0 (starEach [.Name x pt] X.env=(false,eval (.Name x pt) X.env)::starEach [] X.env)) (c:zr0 ((backTo pos (starEach [.Name x pt] X.env)).any (·.1)=false)):
  PD X (.Call (.Name "isinstance" p) [e,.Name x pt] [] pos) (Iu l f) :=
 PE.imp (pv (CF (tv:=.ty T) (λu z=>z) a) o n (by rfl) (gR q (gR (FH g d k (v:=.ty T) rfl m i) kO b) j) (by decide) (by decide) j c) λr H Q h=>CG h
def UX(c:Str)(d:fZ):Od:=match d with
 |.dict [(.bool true,.str a),(.str k,.int n)]=>if a=c/\k="line" then Y (.int n) else Z
 |_=>Z
def RT(c:Str)(f:aC->Od):aC->Od:=λa=>(f a).bind (UX c)
def Gm(U:PD X e f)(V:iE X.K c C)(B:Lb X.K C)(T:findIn X.K (.ref C) "line"=Y Z)(r:zr0 (attributeBase e "line" X.env (eval e X.env)=eval e X.env)):PD X (.Attribute e "line" pos) (RT c f):=by
 intro m s x H Q I h;sleep 1;obtain⟨A,d,S,e1,k⟩:=h;sleep 2;obtain⟨y,W,g⟩:=bind_some e1;refine FN r ?_;refine bM (@U m s x H (λv H'=>dV H H'/\bC X.K H' y v) I {A,y,S,W,λv H' w i=>{(w),i}}) (?_) λ_ _ z=>z;rintro u w ⟨v,H1,o,E,D,R⟩;obtain⟨n,rfl,rfl⟩:∃n,y=.dict [(.bool true,.str c),(.str "line",.int n)]/\d=.int n:=by
  have j:∀{z:Od},z=Y d->z=Z->∃n,y=.dict [(.bool true,.str c),(.str "line",.int n)]/\d=.int n:=λh q=>absurd (q.symm.trans h) nofun;cases y with
  |dict l=>
   rcases l with _ | ⟨⟨a,b⟩,l⟩
   .exact j g rfl
   cases a with
   |bool t=>
    cases t
    .exact j g rfl
    cases b with
    |str c'=>
     rcases l with _ | ⟨⟨a,b⟩,l⟩
     .exact j g rfl
     cases a with
     |str k=>
      cases b with
      |int n=>
       cases l
       .replace g:(if c'=c/\k="line" then Y (fZ.int n) else Z)=Y d:=g
        split at g
        .rename_i q;cases g;obtain⟨rfl,rfl⟩:=q;exact{_,rfl,rfl}
        .cases g
       .exact j g rfl
      |_=>exact j g rfl
     |_=>exact j g rfl
    |_=>exact j g rfl
   |_=>exact j g rfl
  |_=>exact j g rfl
 obtain⟨O,C',rfl,p,⟨z,_⟩ | ⟨n',d,z,N,M⟩⟩:=R.ED
 .cases z
 .cases z;obtain rfl:=V.uniq p;cases E;sleep 1;obtain⟨⟨oe,vs,L,J,G,F⟩,_⟩:=o.ip O _ N;sleep 2;obtain⟨⟨t,P⟩,_⟩:=o.ip d _ M;exact UN o.oj B T L J G F P (v:=.int n t) (ai rfl) rfl {.int n,H1,o.tok _,{(t),rfl},(k.later D).here (bC.d5.mpr rfl)}
end
section
variable {P:Program}{K:Frag}{qual:Str}{fa:Addr}{N:Lr}{k:Nat}
end
section
variable {f:Lp->Od}{jj k:Nat}{ea:Addr}
end
end L2
namespace L2
open PySem PySem.Spec PyProof.Rows PySem.W
def Gn:Lw->Bool
 |.ref _::r=>Gn r
 |l=>l==UP
theorem rL(b:Value):∀{l:Lw},Gn l=true->refuseLoop b "__setattr__" l=pure ()
 |[],h=>by cases h
 |.ref a::r,h=>by rw[refuseLoop_ref];exact rL b (l:=r) h
 |.none::r,h=>by cases h
 |.bool _::r,h=>by cases h
 |.int _ _::r,h=>by cases h
 |.float _ _::r,h=>by cases h
 |.str _ _::r,h=>by cases h
 |.builtin _::r,h=>by cases h
 |.type a::r,h=>by rw[bw.mp (show ((.type a::r:Lw)==UP)=true from h)];exact PySem.F.store_ValueError.passes b
 |.bytes _ _::r,h=>by cases h
 |.notImplemented::r,h=>by cases h
 |.ellipsis::r,h=>by cases h
theorem yI:∀{l:Lw},Gn l=true->l.contains (.type "object")=true
 |[],h=>by cases h
 |.ref a::r,h=>by rw[List.contains_cons,yI (l:=r) h,Bool.or_true]
 |.none::r,h=>by cases h
 |.bool _::r,h=>by cases h
 |.int _ _::r,h=>by cases h
 |.float _ _::r,h=>by cases h
 |.str _ _::r,h=>by cases h
 |.builtin _::r,h=>by cases h
 |.type a::r,h=>by rw[bw.mp (show ((.type a::r:Lw)==UP)=true from h)];decide +kernel
 |.bytes _ _::r,h=>by cases h
 |.notImplemented::r,h=>by cases h
 |.ellipsis::r,h=>by cases h
def xcd(K:Frag)(C:Addr):Bool:=(clsIn K C).any λa=>a.hasDict&&Gn a.mro
def XSt(q:Str)(b:Stmt):Prop:=∃(a:Str) (j:Nat) (p1 p2 p3 p4 p5 p6 p7 p8 p9 q1 q2 q3 q4:Pos),iT ["self","line"] ["self","line"] (bD b)/\ie b=Gk a j p1 p2 p3 p4 p5 p6 p7 p8 p9 q1 q2 q3 q4/\NQ "__init__" q b ["self","line"] /\
 (bD b).names.lookup ("PointError":Str)=Y .globalImplicit/\(bD b).names.lookup ("self":Str)=Y .local/\(bD b).names.lookup ("line":Str)=Y .local/\a.length<=1000/\PC a j p1 p2 p3 p4 p5 p6 p7 p8
def Gp(K:Frag)(a:Str->Ow)(c q:Str)(e:Stmt):Prop:=∃C,a c=Y (.ref C)/\∃d b f,a "PointError"=Y (.ref d)/\Il K C d b/\DH K "__init__" q e b f
section
variable {K:Frag}{q:Str}{PE f:Addr}{od an:Option Addr}{sl:Array Ow}{oc kV dc pm cd ct:Value}
def excAt(X:K.In h) (G:h.Ns mainGlobals mg) (a:nsIn K mainGlobals c=Y (Y (.ref C))) (p:nsIn K mainGlobals "PointError"=Y (Y (.ref PE))) (n:findIn K (.ref C) "__init__"=Y (Y (.ref f))) (z:Aw K C UP "ValueError.__new__" f=true) (y:isFn K (.ref f)=true) (v:keepIn K (.ref C)=true)
  (o:findIn K (.ref C) "__setattr__"=Y (Y (.builtin "object.__setattr__"))) (m:xcd K C=true) (x:findIn K (.ref C) "__getattribute__"=Y (Y (.builtin "BaseException.__getattribute__"))) (w:findIn K (.ref C) "__getattr__"=Y Z) (i:subIn K (.ref C) (.type "BaseException")=Y true)
  (u:findIn K (.ref C) "line"=Y Z) (s:readsIn K PE (.type "type")=true) (t:findCls K (.ref PE) (.type "type") "__init__"=Y (.val (.builtin "ValueError.__init__"))) (r:specialIn K (.ref PE) "__getattribute__"=Y (Y (.builtin "type.__getattribute__")))
  (l:K.lookup f=Y {oc,od,.func (fnOf "__init__" q (l7 st) (ie st) (bD st) .none kV dc pm an cd ct),sl}) (e:codeIn K cd q=true) (k:keepIn K (.ref f)=true):Gp K mg c q st:=by
 obtain⟨g,j,b⟩:=any_some m;have b:=Bool.and_eq_true_iff.mp b;exact{C,mg_of X G a,PE,f,_,mg_of X G p,{z,y,v,{o,g,j,b.1,yI b.2,λd=>rL d b.2},{x,w,i,g,j,b.1},u,s,t,r},z4 l e k}
def x_(E:Gp K mg c q st)(S:XSt q st)(b:mg c=Y (.ref C)):u_ K mg c C:=by
 sleep 1;obtain⟨D,a,PE,A,y,p,k,F⟩:=E;sleep 2;obtain rfl:D=C:=by rw[a] at b;injection b with z;injection z
 sleep 1;obtain⟨B,j,x,w,v,u,t,s,r,o,n,m,l,i,h,g,f,e,d⟩:=S;sleep 2;exact{a,PE,A,y,q,st,B,j,x,w,v,u,t,s,r,o,n,m,l,i,h,p,k,F,g,f,e.to F,d}
def PQ(E:Gp K mg c q st)(b:mg c=Y (.ref C)):Lb K C/\findIn K (.ref C) "line"=Y Z:=by
 sleep 1;obtain⟨d,a,PE,f,e,p,k,F⟩:=E;sleep 2;obtain rfl:d=C:=by rw[a] at b;injection b with z;injection z
 exact{k.xg,k.ln}
end
section
variable {K:Frag}{R D A1 A2 A3:Addr}
end
def Iq.hit{e c D:Addr}{h:aC->Option Out}{n:Str}{b:Pos}{a:List Stmt}{r:List (Str×Pos×List Stmt×Pos)}(g:Gl X n)(f:X.mg n=Y (.ref D))(k:Lk X.K D)(s:subIn X.K (.ref c) (.ref D)=Y true)(hs:mQ (X.susp e) m O a h)(d:zr 15 (a≠[]))(i:zd0 (zg n)):Iq X e c m O h ((n,b,a,pos)::r) :=
 {D,true,{(g),f,i},k,s,d,hs}
section
variable {R D:Addr}{A1 A2 A3:Addr}{fn:Str}{ok:Lp->Bool}{f:Lp->Od}{Ay p1 np np2 y_ ps2:Pos}{k jj:Nat}{h1 h2:aC->Option Out}{XN su2:List Stmt}
end
section
variable {P:Program}{K:Frag}{N:Lr}{k:Nat}{R:Addr}
abbrev XO(P:Program)(w:World)(K:Frag)(f:Str->Option Value)(c:Heap)(C R:Addr)(q:Str)(d:Stmt)(N:List Str)(k:Nat)(h:(Int->Hp->Prop)->Md)(O:List Nat)(g:aC->Option Out):Prop :=
 ∀{e:Addr}{b:Value}{A:Around}{a:List Env}{s:Shared}{H:Hp}{E:XK},iq k (A.deeper (envOfC q (bD d) (zB s) e b))->(A.deeper (envOfC q (bD d) (zB s) e b)).units+64<cLine->N.Nodup->O.Nodup ->
  mQ (sP (I7 P w C R) P w K f c N q (bD d) e b A a s H E) (h λn H'=>E (.int n 0) Z H') O (ie d) g
theorem UY(O:List Nat) (F:ic K mg x st) (f:XO P w K mg base C R x st N k .exc O g) (S:zr 5 (iT N (N.take n) (bD st))) (e:zr0 (n=(N.take n).length)) (h:zd0 (∀i∈O,n<=i)) (c:zd0 (O.Nodup))
  (o:zr 6 (NQ x x st (N.take n))):EC P w K mg base C R x (k+1) n (ij N g):=by
 obtain⟨a,l,j,F⟩:=F;exact{a,l,N.take n,PL F S e h λm A b s H E d=>f d d.units S.nd c,j,F.kp,o.to F}
end
end L2
namespace L2
open PySem PySem.Spec PyProof.Rows PySem.W
structure Lq (K:Frag) (mg:Str->Ow) (C R D A1 A2:Addr):Prop where
 cl:iE K "NoProgram" C/\iE K "NoRow" R
 mC:mg "NoProgram"=Y (.ref C)
 mD:mg "PointError"=Y (.ref D)
 m1:mg "TooGreat"=Y (.ref A1)
 m2:mg "NoFact"=Y (.ref A2)
 mR:mg "NoRow"=Y (.ref R)
 kD:Lk K D
 sub:subIn K (.ref C) (.ref D)=Y true
 tC:yH K (.ref C) [("NoProgram",true)]
 tV:yH K (.type "ValueError") [("NoProgram",true)]
 tT:UT K C/\kitAny K (.ref C) [.ref A2,.ref R,.ref A1]=Y false
def Az(K:Frag)(a:Str->Ow):Prop:=∃q:Addr×Addr×Addr×Addr×Addr,Lq K a q.1 q.2.1 q.2.2.1 q.2.2.2.1 q.2.2.2.2
def EE{K:Frag}(E:Az K mg):Addr×Addr×Addr×Addr×Addr:=Classical.choose E
def lB{K:Frag}(E:Az K mg):Lq K mg (EE E).1 (EE E).2.1 (EE E).2.2.1 (EE E).2.2.2.1 (EE E).2.2.2.2:=Classical.choose_spec E
section
variable {K:Frag}{R D A1 A2:Addr}
def UZ(X:K.In h) (G:h.Ns mainGlobals mg) (c:nsIn K mainGlobals "NoProgram"=Y (Y (.ref C))) (e:nsIn K mainGlobals "NoRow"=Y (Y (.ref R))) (l:nsIn K mainGlobals "PointError"=Y (Y (.ref D))) (n:nsIn K mainGlobals "TooGreat"=Y (Y (.ref A1))) (m:nsIn K mainGlobals "NoFact"=Y (Y (.ref A2)))
  (f:typeIn K (.ref D)=Y (.type "type")) (p:(clsIn K C).isSome=true) (o:(clsIn K D).isSome=true)
  (y:subIn K (.ref C) (.type "BaseException")=Y true) (x:subIn K (.ref D) (.type "BaseException")=Y true) (j:subIn K (.ref C) (.ref D)=Y true)
  (s:findIn K (.ref C) "__getattribute__"=Y (Y (.builtin "BaseException.__getattribute__"))) (r:findIn K (.ref C) "__getattr__"=Y Z)
  (z:findIn K (.ref C) "__class__"=Y (Y (.builtin "object.__class__"))) (i:specialIn K (.builtin "object.__class__") "__get__"=Y (Y (.builtin "getset_descriptor.__get__"))) (g:takesIn K (.builtin "object.__class__")=Y true)
  (k:mroIn K C (.type "object")=Y true)
  (w:kitOne K (.ref C) (.ref C)=Y true) (v:kitOne K (.ref C) (.type "ValueError")=Y true) (u:kitAny K (.ref C) [.ref A2,.ref R,.ref A1]=Y false):Az K mg:=by
 have d:UT K C:={(s),r,y,p,z,i,g,k}
 have a:∀(t:Value) (b:Bool),kitOne K (.ref C) t=Y b->yH K t [("NoProgram",b)]:=λt b q=>bV.mpr {{(C),c,d,q},List.forall_mem_nil _};exact{(C,R,D,A1,A2),{(c),e},mg_of X G c,mg_of X G l,mg_of X G n,mg_of X G m,mg_of X G e,{(f),o,x},j,a _ _ w,a _ _ v,d,u}
end
section
variable {R D A1 A2:Addr}{fn:Str}{f:Lp->Od}{Ay np y_:Pos}{k jj:Nat}{h1:aC->Option Out}{XN:List Stmt}
def Ls(j:Nat) (T:Lq X.K X.mg C R D A1 A2) (F:EC X.prog X.w X.K X.mg X.base C R fn jj n f) (v:iq k X.A) (E:X.N.Nodup) (h:Gl X fn) (i:Gl X "PointError") (B:xh X (e::es) ff) (r:∀ea,mQ (X.susp ea) m O XN h1)
  (s:zr 15 (XN≠[])) (x:zd0 (jj<=k)) (u:zd0 (j∉O)) (d:zr0 (X.xe=λ_ _=>False)) (g:zr0 (X.N[j]?=Y y)) (t:zr0 (X.env.scope.names.lookup y=Y .local)) (a:zr0 (X.stack=X.env::X.outer)) (l:zr0 (X.env.frame=Y X.env.locals)) (o:zr0 (X.ex=[]))
  (b:zr0 (swapsWith (.Call (.Name fn p) (e::es) [] gv) Z Ay.line X.env=pure false)) (q:zd0 (zg fn)) (z:zr0 (zE e es X)) (c:zr0 ((backTo gv (starEach es X.env)).any (·.1)=false)):
  mX X m O (.Try [.Expr (.Call (.Name fn p) (e::es) [] gv) Ay] [.ExceptHandler (Y (.Name "PointError" np)) (Y y) XN y_] [] [] pos) (yG n f ff j "NoProgram" "NoRow" h1 λ_=>Z) :=
 Lo (q0:=("PointError",np,XN,y_)) (hs:=[]) j F v E h B T.cl.1 T.cl.2 (λea=>Iq.hit i T.mD T.kD T.sub (r ea) s) (.inl λ_=>rfl) x u d g t a l o b q z c
end
theorem Gq{f:Lp->Od}{k:Nat}(O:nR X.prog X.w X.K X.mg X.base x j n f)(l:iq k X.A)(q:Gl X x)(o:zd0 (j<=k))(h:zd0 (zg x)):PD X (.Call (.Name x p) [] [] pos) (jL n f gm):=by
 sleep 1;obtain⟨a,y,u,F,m,i,b⟩:=O.ex;sleep 2;exact PE.imp (Jy (F.mono o) l q m i b .nil qA h) <| by
  rintro s H Q ⟨t,d,v,e,k⟩;obtain⟨z,r,c⟩:=bind_some e;cases r;by_cases g:([]:Lp).length=n
  .rw[ai g] at c;exact{[],d,a9.nil,g,c,k}
  .rw[aq g] at c;cases c
section
variable {pt p1 p3:Pos}{x1 x2 x3:Str}{A1 A2 A3:Addr}
def EF{D:Addr}(d:Gl X x)(c:X.mg x=Y (.ref D))(a:zg x):PE X (.Name x pt) (λ_ H Q=>Q (.ref D) H):=λb s e H Q I q=>kj I d c {.ref D,H,I,rfl,q} a
def Iv(L:iE X.K c C)(m:UT X.K C)(D:kitAny X.K (.ref C) [.ref A1,.ref A2,.ref A3]=Y false):i6 X (.builtin "isinstance") (λxs H Q=>∃d v b,xs=[v,.ref b]/\bC X.K H d v/\uh [(c,false)] d=Y (.bool false)/\H b=Y (.tup [.ref A1,.ref A2,.ref A3])/\Q (.bl false) H):=by
 intro l s N H xs O Q I r h;sleep 1;obtain⟨d,v,b,rfl,J,e,F,q⟩:=h;sleep 2;sleep 1;obtain⟨u,p,rfl,w,i⟩:=Jq r;sleep 2;obtain rfl:p=.ref b:=i;unfold uh at e;split at e
 .rename_i c' R;obtain⟨b',M,T⟩:=aj.mp e;sleep 1;obtain⟨S,C',rfl,k,E⟩:=J.ED;sleep 2;cases w;have B:=mem_of_lookup M;obtain⟨rfl,rfl⟩:=Prod.mk.inj (cG.mp B);obtain rfl:=L.uniq k;sleep 1;obtain⟨-,j,a,o,G,g,n,f⟩:=I.ip b _ F;sleep 2;obtain rfl:j=[.ref A1,.ref A2,.ref A3]:=by
   cases a with
   |cons A a=>cases a with
    |cons y a=>cases a with
     |cons x a=>cases A;cases y;cases x;cases a;rfl
  obtain⟨cl,V,U,P⟩:=o;dsimp only at g f;subst g f;exact W.kia_tup (CD m) I.oj (E.inst I.ip) G D (λz=>nomatch z) λt=>{.bl false,H,I.tok t,rfl,q}
 .cases e
def U0(B:PD X e f) (D:iE X.K c C) (l:UT X.K C/\kitAny X.K (.ref C) [.ref A1,.ref A2,.ref A3]=Y false) (A:Gl X "isinstance") (y:X.mg "isinstance"=Z) (G:Gl X x1) (F:Gl X x2) (E:Gl X x3) (u:X.mg x1=Y (.ref A1)) (t:X.mg x2=Y (.ref A2)) (s:X.mg x3=Y (.ref A3))
  (M:zd0 (zg x1)) (L:zd0 (zg x2)) (J:zd0 (zg x3))
  (h:zr0 (starEach [.Name x1 p1,.Name x2 p2,.Name x3 p3] X.env=(false,eval (.Name x1 p1) X.env)::starEach [.Name x2 p2,.Name x3 p3] X.env)) (r:zr0 (starEach [.Name x2 p2,.Name x3 p3] X.env=(false,eval (.Name x2 p2) X.env)::starEach [.Name x3 p3] X.env)) (o:zr0 (starEach [.Name x3 p3] X.env=(false,eval (.Name x3 p3) X.env)::starEach [] X.env))
  (g:zr0 (starEach [e,.Tuple [.Name x1 p1,.Name x2 p2,.Name x3 p3] cc pt] X.env=(false,eval e X.env)::starEach [.Tuple [.Name x1 p1,.Name x2 p2,.Name x3 p3] cc pt] X.env)) (i:zr0 (starEach [.Tuple [.Name x1 p1,.Name x2 p2,.Name x3 p3] cc pt] X.env=(false,eval (.Tuple [.Name x1 p1,.Name x2 p2,.Name x3 p3] cc pt) X.env)::starEach [] X.env)) (j:zr0 ((backTo pos (starEach [.Tuple [.Name x1 p1,.Name x2 p2,.Name x3 p3] cc pt] X.env)).any (·.1)=false)):
  PD X (.Call (.Name "isinstance" p) [e,.Tuple [.Name x1 p1,.Name x2 p2,.Name x3 p3] cc pt] [] pos) (Iu [(c,false)] f) :=
 PE.imp (pv (Iv D l.1 l.2) A y (by rfl) (gR B (gR (Jv (gR (EF G u M) (gR (EF F t L) (gR (EF E s J) kO o) r) h)) kO i) g) (by decide) (by decide) g j) <| by
  rintro N H Q ⟨n,d,g,e,k⟩;obtain⟨x,I,a⟩:=bind_some e;obtain rfl:d=.bool false:=by
   unfold uh at a;split at a
   .obtain⟨b,q,z⟩:=aj.mp a;obtain⟨-,rfl⟩:=Prod.mk.inj (cG.mp (mem_of_lookup q));exact z.symm
   .cases a
  exact{n,x,g,I,λv O h w=>{by show 3<=sizeLine;decide,λq m=>{x,v,q,rfl,w.same (iV m),a,eB,(k.later (h.trans (iV m))).here (bC.d6.mpr rfl)}}}
end
end L2
namespace K02
open PySem L2
def lY(i:Nat):Stmt:=PySem.Challenge.pw_pointsure_k02_no_program.main.body.getD i (.Pass {(0),0,0,0})
def Gr:List (fZ×fZ):=kvS [("new",["X","KIND"]),("row",["X"]),("func",["X","FUNCTION","A"]),("copy",["X","Y"]),("take",["X","Y","FIELD"]),("put",["Y","FIELD","X"]),("push",["Y","X"]),("pull",["X","Y"]),("do",["X","Y","A"]),("ask",["X","Y","METHOD","A"]),("straight",["X","Y","KIND","METHOD","A"]),("give",["X"]),("tell",["X"]),("rest",[]),("check",["Y","FIELD"]),("fresh",["X","KIND"]),("own",["X","Y","FIELD"]),("place",["Y","FIELD","X"])]
def oE:List (fZ×fZ):=kvS [("choose",[]),("some",["X"]),("same",["X","Y"])]
abbrev gG:=fq 0
abbrev jc:=fq 1
abbrev nA:=zI 0
abbrev l9:=fq 3
abbrev jP:=fq 4
abbrev vN:=zI (-1)
abbrev iF:=(a7 (bS (gf [2] (d2 iI (d2 dt (d2 ud l9 (zI 48271)) jP) (zI 2147483647))) 3)
(iy (kP (uN jc) (fB (d2 lZ gG (jR (bz nA (zQ vN))))))
(a7 (gU (.sl 2) (gf [2] (d2 iI gG (zI 5040))))
(bS (gf [2] (d2 HL gG (zI 5040))) 0))
(gU (.sl 2) (gf [2] (d2 iI (d2 ud (d2 iI (d2 ud l9 (zI 69621)) (zI 99991)) (zI 16807)) (zI 99989))))))
abbrev iO:=fq 2
abbrev rM:=zI 1
abbrev vO:=gk gm
abbrev Lu:=j7 (gf [2] vO) 2
abbrev EG:=(a7 Lu
(a7 (bS (gf [2] (d2 dt (d2 iI gG (zI 1000000007)) rM)) 3)
(a7 (jx (xi [2] (i9 (zI 14))) (.one 4) iF)
(f9 iO))))
def jo:=ij ["_law_cell","_law_digits","_law_found","_law_number","_law_k"] EG
abbrev vP:=dC .none
abbrev pI:=(vo (fB (d2 Uz jc vP)) (fB (d2 uK gG (jR (zC "g" (zC "h" gm))))))
abbrev hW:=gG
abbrev kh:=zI 2
abbrev n0:=zI 3
abbrev nB:=fq 3
abbrev tr:=fq 4
abbrev rN:=zI 5
abbrev Lv:=bz nB (zQ tr)
abbrev hY:=(a7 (bS (gf [1] vP) 3)
(a7 (iy (kP (fB (d2 BF iO nA)) (fB (d2 BF (d2 iI (zX gG iO) n0) nA)))
(bS (gf [1] (zX (gk (zC "ka" (zC "kb" gm))) (d2 iI (zX gG (d2 dt kh iO)) iO))) 3)
gd)
(a7 (bS (gf [1] (gq (zX (gk (bz (gk (zC "f" (zC "u" gm))) (bz (gk (zC "g" (zC "f" gm))) (zQ (gk (zC "h" (zC "u" gm))))))) iO) gO (g9 (d2 iI (zX gG (d2 dt rN iO)) n0)))) 4)
(a7 (bS (gf [1] (i8 (pC jP) [(3,"_law_elder")] pI hW)) 4)
(gU (.sl 1) (gf [1] (jR (bz (zX (gk (zC "ka" (zC "kb" (zC "kc" gm)))) iO) Lv))))))))
abbrev pJ:=zI 0
abbrev gH:=fq 0
abbrev gW:=fq 1
abbrev xA:=zX gH pJ
abbrev n4:=gk gm
abbrev yJ:=f9 gW
abbrev ui:=(a7 (j7 (gf [1] n4) 1)
(a7 (jx (xi [1] (i9 (d2 dt rM (d2 iI xA n0)))) (.one 2) hY)
yJ))
def lU:=ij ["_law_draw_here","_law_kinds_here","_law_k","_law_elder","_law_own"] ui
abbrev ba:aC->Option Bool:=(λ_=>Y true)
abbrev jd:=(zX (fq 0) (zI 0))
abbrev qF:=zN gW
abbrev kR:=fq 5
abbrev tu:=zI 4
abbrev Ly:=zX gH (d2 dt (zI 7) nB)
abbrev Lz:=gk (zC "m" (zC "n" gm))
abbrev EH:=zQ vO
abbrev jV:=(a7 (bS (gf [2] (gq (gk (zC "p" (zC "q" gm))) gO (g9 (d2 iI (zX gG (d2 dt rM l9)) n0)))) 4)
(a7 (bS (gf [2] (d2 dt (d2 dt (zX (zX jc (d2 iI (zX gG (d2 dt tu l9)) qF)) nA) (zA ".")) (zX Lz (d2 iI Ly kh)))) 5)
(iy (kP (fB (d2 jf (d2 iI (zX gG (d2 dt (zI 10) l9)) kh) nA)) (fB (d2 lZ kR (i8 (pC iO) [] ba jd))))
(gU (.sl 2) (gf [2] (jR (bz kR (bz jP EH)))))
(gU (.sl 2) (gf [2] (jR (bz (zX (gk (zC "fa" (zC "fb" (zC "fc" gm)))) l9) (bz jP (zQ (gq (gk (zC "k" (zC "l" gm))) gO (g9 (d2 iI Ly n0))))))))))))
abbrev uj:=(a7 Lu
(a7 (jx (xi [2] (i9 (d2 iI xA tu))) (.one 3) jV)
(f9 iO)))
def mZ:=ij ["_law_draw_here","_law_kinds_here","_law_heads_here","_law_k","_law_params","_law_method"] uj
abbrev kU:=(NO n4)
abbrev kW:=zI 1
abbrev XP:=d2 dt nB kW
abbrev mz:=(a7 (iy (kP (fB (d2 jf (d2 iI (zX jP (zI 13)) (zI 6)) rN)) (fB (d2 t7 l9 jc)))
(bS (gf [2,99] XP) 3)
gd)
(Ex (.sl 2) (gf [2,99] l9) (gf [2,99] jP)))
abbrev uk:=(a7 (j7 (gf [2,99] (i8 (i9 (d2 dt jc rM)) [] ba kU)) 2)
(a7 (bS (gf [2,99] nA) 3)
(a7 (jx (xi [2,99] (nY gG)) (.one 4) mz)
(f9 iO))))
def pK:=ij ["_law_draws","_law_many","_law_parts_here","_law_at","_law_draw_here"] uk
abbrev jW:=(fB (d2 lZ (zA ".") (zX (fq 0) (zI 0))))
abbrev i0:=fq 2
abbrev pL:=fq 6
abbrev mB:=fq 6
abbrev LA:=zX gW kW
abbrev RU:=zN i0
abbrev yK:=zX mB pJ
abbrev CH:=zX gW pJ
abbrev Gs:=zA "main"
abbrev pM:=(a7 (iy (fB (d2 qw xA Gs))
(f9 n4)
gd)
(a7 (j7 (gf [4] (gk (zQ (gk (zC "new" (zC "x" (zQ (zX (zX iO (d2 iI CH RU)) nA)))))))) 4)
(a7 (bS (gf [4] (i8 (pC l9) [] jW hW)) 5)
(a7 (iy (fB (d2 qw kR n4))
(a7 (bS (gf [4] (zX kR (d2 iI LA (zN kR)))) 6)
(gU (.sl 4) (gf [4] (d2 dt (gk (zC "func" (zC "y" (zQ yK)))) (gq (gk (zC "x" (zC "z" gm))) gO (g9 (zN (zX pL kh))))))))
gd)
(f9 jP)))))
def lV:=ij ["_law_head","_law_draw_here","_law_kinds_here","_law_heads_here","_law_rows","_law_funcs","_law_one"] pM
abbrev rO:=zN gH
abbrev nC:=(a7 (iy (fB (d2 t7 jc rO))
(f9 (zX gG jc))
gd)
(f9 nA))
def gu:=ij ["_law_script","_law_k"] nC
abbrev qR:=zI 2
abbrev um:=zX gH kW
abbrev CI:=zX gH qR
abbrev CJ:=zQ tr
abbrev EI:=zX (fq 0) (zI 0)
abbrev uo:=zA " "
abbrev LB:=fB (d2 uK (zA ".") EI)
abbrev LC:=bz gW (zQ nB)
abbrev kX:=(a7 (iy LB
(a7 (yr (gf [] (qj lE xA (zC "." gm))) (.many [1,2,3]))
(f9 (qj j8 uo (zQ (d2 dt (gk (zC "method" LC)) um)))))
gd)
(a7 (bS (gf [] (d2 dt (gk (zC "func" (zQ xA))) um)) 4)
(a7 (iy (fB (d2 qw CI n4))
(bS (gf [] (d2 dt (d2 dt jP (gk (zC "keeps" gm))) CI)) 4)
gd)
(f9 (qj j8 uo CJ)))))
def je:=ij ["_law_head","_law_kind","_law_dot","_law_method","_law_row"] kX
abbrev pO:=(a7 (bS (gf [] (d2 dt (d2 dt um CI) (gk (zC "x" (zC "y" (zC "z" gm)))))) 1)
(a7 (iy LB
(bS (gf [] (d2 dt jc (gk (zC "self" gm)))) 1)
gd)
yJ))
def kK:=ij ["_law_head","_law_names_here"] pO
abbrev EJ:=(a7 (bS (gf [] (gk (zC "new" (zC "copy" (zC "take" (zC "put" (zC "ask" (zC "do" (zC "new" (zC "func" (zC "tell" (zC "if" (zC "while" (zC "end" (zC "else" (zC "push" gm)))))))))))))))) 2)
(a7 (bS (gf [] (d2 dt iO (gk (zC "pull" (zC "row" (zC "give" (zC "take" (zC "put" (zC "ask" (zC "do" (zC "end" (zC "rest" (zC "copy" gm))))))))))))) 2)
(a7 (iy (uN jc)
(bS (gf [] (d2 dt iO (gk (zC "straight" (zC "check" (zC "fresh" (zC "own" (zC "place" gm)))))))) 2)
gd)
(f9 (zX iO (d2 iI xA RU))))))
def qS:=ij ["_law_draw_here","_law_wide","_law_some"] EJ
abbrev rP:=zQ i0
abbrev LD:=d2 iI (zX gH (zI 3)) (zI 3)
abbrev l3:=(a7 (bS (gf [] (zX jc (d2 iI um qF))) 2)
(a7 (iy (fB (d2 jf LD nA))
(f9 (gk (zC "choose" gm)))
gd)
(a7 (iy (fB (d2 jf LD rM))
(f9 (gk (zC "some" rP)))
gd)
(f9 (gk (zC "same" (bz iO (zQ (zX jc (d2 iI CI qF))))))))))
def l4:=ij ["_law_draw_here","_law_names_here","_law_x"] l3
abbrev tw:=zI 8
abbrev km:=(zX jc (d2 iI (d2 dt (zX iO (d2 dt tw gG)) (d2 ud rN gG)) qF))
abbrev AA:=(f9 (i8 (i9 iO) [(1,"_law_names_here"),(0,"_law_draw_here")] ba km))
def kY:=ij ["_law_draw_here","_law_names_here","_law_many"] AA
abbrev ko:=(fB (d2 uK (zA ".") (zX (fq 0) (zI 0))))
abbrev AB:=zN (fq 2)
abbrev m3:=fq 7
abbrev LF:=jL 3 kY (bz gW (bz i0 (zQ mB)))
abbrev uq:=fq 8
abbrev RV:=gf [] (zX i0 (d2 iI (zX gW kW) AB))
abbrev RW:=gf [] (zX i0 (d2 iI (zX gW qR) AB))
abbrev Gu:=zX gW (zI 5)
abbrev Gv:=zQ (fq 5)
abbrev EK:=zQ (fq 10)
abbrev rQ:=(a7 (bS RV 4)
(a7 (bS RW 5)
(a7 (bS (gf [] (zX (gk (bz nA (bz rM (bz rM (zQ kh))))) (d2 iI (zX jc (zI 7)) tu))) 6)
(a7 (bS (gf [] (i8 (pC l9) [] ko jd)) 7)
(a7 (iy (fB (d2 jf gG (zA "ask")))
(f9 (d2 dt (gk (zC "ask" (bz jP (bz kR (zQ (zX Lz (d2 iI Gu kh))))))) LF))
gd)
(a7 (iy (kP (fB (d2 jf gG (zA "straight"))) (fB (d2 qw m3 n4)))
(a7 (yr (gf [] (qj lE (zX m3 (d2 iI Gu (zN m3))) (zC "." gm))) (.many [8,9,10]))
(f9 (d2 dt (gk (zC "straight" (bz jP (bz kR (bz uq EK))))) LF)))
gd)
(f9 (d2 dt (gk (zC "do" (bz jP Gv))) LF))))))))
def j3:=ij ["_law_word_here","_law_draw_here","_law_names_here","_law_heads_here","_law_x","_law_y","_law_many","_law_methods","_law_kind","_law_dot","_law_method"] rQ
abbrev vQ:=fq 8
abbrev LG:=fB (d2 qw vQ vO)
abbrev XQ:=bz mB (zQ (fq 7))
abbrev AE:=zA "func"
abbrev LH:=bz (fq 5) (bz mB (zQ (fq 7)))
abbrev oF:=fq 9
abbrev AF:=zN vQ
abbrev LI:=bz (fq 5) (zQ mB)
abbrev ur:=(a7 (bS RV 5)
(a7 (bS RW 6)
(a7 (bS (gf [] (zX (gk (zC "f" (zC "g" (zC "h" (zC "u" (zC "v" gm)))))) (d2 iI (zX jc tu) rN))) 7)
(a7 (bS (gf [] (i8 (pC jP) [] jW hW)) 8)
(a7 (iy (fB (d2 uK gG (jR (zC "new" (zC "fresh" gm)))))
(f9 (gk (bz gG (bz kR (zQ (zX (zX l9 (d2 iI Gu (zN l9))) nA))))))
gd)
(a7 (iy (kP (fB (d2 jf gG AE)) LG)
(a7 (bS (gf [] (zX uq (d2 iI Gu AF))) 9)
(f9 (d2 dt (gk (zC "func" (bz kR (zQ (zX oF nA))))) (jL 3 kY (bz jc (bz iO (zQ (zN (zX oF kh)))))))))
gd)
(a7 (iy (fB (d2 uK gG (jR (zC "row" (zC "give" (zC "tell" gm))))))
(f9 (gk (bz gG Gv)))
gd)
(a7 (iy (fB (d2 uK gG (jR (zC "take" (zC "own" gm)))))
(f9 (gk (bz gG LH)))
gd)
(a7 (iy (fB (d2 uK gG (jR (zC "put" (zC "place" gm)))))
(f9 (gk (bz gG (bz pL (bz m3 Gv)))))
gd)
(a7 (iy (fB (d2 jf gG (zA "check")))
(f9 (gk (zC "check" XQ)))
gd)
(a7 (iy (fB (d2 uK gG (jR (zC "push" (zC "pull" gm)))))
(f9 (gk (bz gG LI)))
gd)
(a7 (iy (fB (d2 jf gG (zA "rest")))
(f9 (gk (zC "rest" gm)))
gd)
(f9 (gk (zC "copy" LI)))))))))))))))
def lW:=ij ["_law_word_here","_law_draw_here","_law_names_here","_law_kinds_here","_law_heads_here","_law_x","_law_y","_law_field","_law_funcs","_law_head"] ur
abbrev lC:=zQ gH
abbrev lM:=(qj j8 uo lC)
abbrev yL:=zQ mB
abbrev CK:=zQ nB
abbrev vR:=fq 10
abbrev Gw:=zA "else"
abbrev LJ:=jR (zC "if" (zC "while" gm))
abbrev AG:=zA "end"
abbrev LK:=gf [7,8] (zA "else")
abbrev jC:=(a7 (bS (gf [7,8] (jL 2 qS (bz oF CJ))) 10)
(iy (kP (fB (d2 uK vR LJ)) (fB (d2 t7 AF tw)))
(a7 (gU (.sl 7) (gf [7,8] (qj j8 uo (zQ (d2 dt (gk EK) (jL 2 l4 (bz oF yL)))))))
(gU (.sl 8) (gf [7,8] vR)))
(iy (kP (fB (d2 jf vR AG)) LG)
(a7 (Ee (.sl 8))
(gU (.sl 7) (gf [7,8] AG)))
(iy (kP (fB (d2 jf vR Gw)) (kP LG (fB (d2 jf (zX uq vN) (zA "if")))))
(a7 (sV (.sl 8) (gf [7,8] vN) LK)
(gU (.sl 7) LK))
(iy (fB (d2 uK vR (jR (zC "ask" (zC "do" (zC "straight" gm))))))
(gU (.sl 7) (gf [7,8] (qj j8 uo (zQ (jL 4 j3 (bz vR (bz oF (bz pL CK))))))))
(gU (.sl 7) (gf [7,8] (qj j8 uo (zQ (jL 5 lW (bz vR (bz oF (bz pL (bz iO CK))))))))))))))
abbrev yM:=gk (zC "end" gm)
abbrev vS:=(a7 (bS (gf [7,8] (jL 1 kK lC)) 6)
(a7 (j7 (gf [7,8] (i8 (pC kR) [] ba lM)) 7)
(a7 (j7 (gf [7,8] n4) 8)
(a7 (jx (xi [7,8] (nY jc)) (.one 9) jC)
(f9 (d2 dt m3 (d2 tj yM AF)))))))
def mE:=ij ["_law_head","_law_draws","_law_kinds_here","_law_heads_here","_law_wide","_law_begun_here","_law_names_here","_law_rows","_law_nest","_law_draw_here","_law_word_here"] vS
abbrev yN:=zQ gW
abbrev kZ:=(jL 2 jo (bz gG yN))
abbrev mF:=(a7 (bS (gf [9] (gk (zC "kind" EK))) 13)
(a7 (iy (fB (d2 oB (fq 11) vP))
(bS (gf [9] (d2 dt (fq 13) (gk (zC "of" (zQ (fq 11)))))) 13)
gd)
(gU (.sl 9) (gf [9] (qj j8 uo (zQ (d2 dt (d2 dt (fq 13) (gq (gk (zC "fields" gm)) gO (g9 (zN (fq 12))))) (fq 12))))))))
abbrev mG:=(a7 (gU (.sl 9) (gf [9] (jL 1 je (zQ (zX m3 (fq 15))))))
(j7 (NO (d2 Ct (d2 dt oF (jL 6 mE (bz (zX m3 (fq 15)) (bz (zX uq (d2 dt (fq 15) rM)) (bz pL (bz m3 (bz l9 EH))))))) yM)) 9))
abbrev XR:=g9 gW
abbrev LM:=bz (fq 0) (zQ (zI 0))
abbrev XS:=jL 2 gu LM
abbrev RX:=d2 jf (d2 iI (jL 2 gu LM) qR) pJ
abbrev U1:=g9 i0
abbrev LN:=jL 2 gu (bz gH (zQ kW))
abbrev EL:=zC "main" gm
abbrev CL:=(a7 (bS (gf [9] RX) 4)
(a7 (bS (gf [9] (jL 2 jo (bz (d2 HL XS kh) CJ))) 5)
(a7 (bS (gf [9] (jL 1 lU Gv)) 6)
(a7 (bS (gf [9] (jL 2 mZ (bz (jL 2 jo (bz LN CJ)) yL))) 7)
(a7 (bS (gf [9] (jL 2 pK (bz (i8 (pC (gq gG XR U1)) [(4,"_law_digits")] ba kZ) (zQ (zN m3))))) 8)
(a7 (j7 (gf [9] n4) 9)
(a7 (jx (xi [9] (nY pL)) (.many [10,11,12]) mF)
(a7 (bS (gf [9] (jR (zC "main" (bz n4 EH)))) 14)
(a7 (jx (xi [9] (i9 (zN m3))) (.one 15) mG)
(a7 (bS (gf [9] (jL 4 lV (bz (fq 14) LH))) 16)
(f9 (d2 dt (d2 dt (d2 dt oF (gk EL)) (jL 6 mE (bz (fq 14) (bz (zX uq nA) (bz pL (bz m3 (bz l9 (zQ (fq 16))))))))) yM))))))))))))
def pP:=ij ["_law_script","_law_start","_law_stop","_law_wide","_law_digits","_law_first","_law_kinds_here","_law_heads_here","_law_parts_here","_law_lines_here","_law_name","_law_elder","_law_own","_law_row","_law_main","_law_k","_law_begun_here"] CL
abbrev xB:=(f9 (KP vF gG EL))
def lN:=ij ["_law_lines_here"] xB
abbrev oQ:=(f9 (lT ["Program"] "text" gG))
def jy:=ij ["self"] oQ
abbrev RY:=zC "kind kq f" (zC "kind kq of ka f" (zC "kind kq of ka kb" gm))
abbrev EM:=zC "func" gm
abbrev tB:=(a7 (bS (gf [] (gk (zC "" (zC " " (zC "xx" (zC "copy x" (zC "copy x y z" (zC "copy x Y" (zC "new x" (zC "new x kz" (zC "give" (zC "rest x" (zC "take x y" gm))))))))))))) 0)
(a7 (bS (gf [] (d2 dt gG (gk (zC "put x f" (zC "ask x y" (zC "if" (zC "if some" (zC "if same x" (zC "while none" (zC "else x" (zC "end x" (zC "row x y" gm)))))))))))) 0)
(a7 (bS (gf [] (d2 dt gG (gk (zC "tell abcdefghi" (zC "kind" (zC "kind ka of" (zC "kind kq fields" (zC "kind kq of kz" (zC "method ka" (zC "main x" gm)))))))))) 0)
(a7 (bS (gf [] (d2 dt gG (gk (zC "copy  x y" (zC "copy x y " (zC " copy x y" (zC "do x" (zC "straight x y kz m" (zC "fresh x kz" (zC "own x y" gm)))))))))) 0)
(a7 (bS (gf [] (d2 dt gG (gk (zC "place x f" (zC "if choose x" (zC "while choose choose" (zC "check x" (zC "push x" (zC "pull x y z" EM))))))))) 0)
(f9 (d2 dt gG (gk (zC "End" (zC "tell x1" (zC "give ~" RY)))))))))))
def lH:=ij ["_law_some"] tB
abbrev rR:=(a7 (bS (gf [] (gk (zC "func fq p p" (zC "func fq p keeps p" (zC "func fq self" (zC "func fq keeps" (zC "func main" (zC "method ka m self" gm)))))))) 0)
(a7 (bS (gf [] (d2 dt gG (gk (zC "func fq p keeps k k" (zC "func fq keeps self" (zC "method kz m" (zC "method ka m p p" (zC "func fq p Q" gm)))))))) 0)
(a7 (bS (gf [] (d2 dt gG (gk (zC "copy x y" (zC "kind kq fields f f" (zC "kind ka" (zC "end" (zC "else" (zC "give x" EM))))))))) 0)
(f9 (d2 dt gG (gk (zC "main main" (zC "func abcdefghi" RY))))))))
def k6:=ij ["_law_some"] rR
abbrev yO:=zC " " gm
abbrev AH:=zA "kind"
abbrev ja:=(iy (fB (d2 qw (zX (qj hV (zX gG jc) yO) nA) AH))
yJ
gd)
abbrev tE:=(a7 (jx (xi [] (i9 rO)) (.one 1) ja)
(f9 rO))
def lI:=ij ["_law_lines_here","_law_k"] tE
abbrev LO:=zA "method"
abbrev j9:=(vo (fB (d2 jf (zX (qj hV (zX jc gG) yO) nA) LO)) (fB (d2 jf (gq (zX jc gG) gO (g9 (zI 6))) (zA "func f"))))
abbrev RZ:=zC "end" gm
abbrev Gx:=gq gH gO (g9 gW)
abbrev Gy:=gq gH (g9 gW) gO
abbrev R3:=fB (d2 jf (d2 iI (zX nB (zI 4)) qR) pJ)
abbrev LP:=gq gH gO (g9 kW)
abbrev LQ:=gq gH gO (g9 i0)
abbrev LR:=gq gH (g9 i0) gO
abbrev lJ:=(a7 (bS (gf [] (i8 (rp jc iO) [(0,"_law_lines_here")] j9 hW)) 4)
(a7 (iy (fB (d2 jf jP n4))
(f9 (jR (bz (d2 dt (d2 dt Gx LP) Gy) yN)))
gd)
(a7 (bS (gf [] (zX jP (d2 iI (zX l9 kh) (zN jP)))) 5)
(a7 (bS (gf [] (qj hV (zX gG kR) yO)) 6)
(a7 (bS (gf [] (qj j8 uo (zQ (d2 dt (gq pL gO (g9 (d2 dt kh (j5 Au (zQ (d2 jf yK LO)))))) (gq (gk (zC "q" gm)) gO (g9 (d2 iI (zX l9 n0) kh))))))) 7)
(a7 (iy R3
(f9 (jR (bz (d2 dt (d2 dt LQ (gk (bz m3 RZ))) LR) rP)))
gd)
(f9 (jR (bz (d2 dt (d2 dt Gx (gk (bz m3 (zC "give x" RZ)))) Gy) (zQ (d2 dt kR n0)))))))))))
def j4:=ij ["_law_lines_here","_law_first","_law_main","_law_draw_here","_law_heads_here","_law_at","_law_words","_law_row"] lJ
abbrev yP:=gk (zQ (fq 7))
abbrev LS:=fB (d2 qw (fq 6) vO)
abbrev R4:=kP (fB (d2 jf tr (zI 3))) LS
abbrev R5:=kP (fB (d2 jf tr (zI 4))) LS
abbrev R6:=kP (fB (d2 jf tr qR)) (fB (d2 BF i0 gW))
abbrev LU:=g9 (d2 dt (fq 2) (zI 1))
abbrev R7:=gq gH gO LU
abbrev R8:=gq gH LU gO
abbrev LV:=zC "rest" (zC "else" (zC "end" gm))
abbrev k7:=(a7 (bS (gf [] (d2 iI (zX l9 kh) rN)) 4)
(a7 (iy (fB (d2 t7 jP kh))
(a7 (bS (gf [] (zX (gk (bz (gk (zC "if choose" (zC "else" LV))) (zQ (gk (zC "while choose" LV))))) jP)) 5)
(f9 (jR (bz (d2 dt (d2 dt R7 kR) R8) (zQ (d2 dt iO (zX (gk (bz tu (zQ n0))) jP)))))))
gd)
(a7 (iy R6
(f9 (jR (bz (d2 dt (d2 dt LQ (gk (zC "kind kq" gm))) LR) rP)))
gd)
(a7 (bS (gf [] (gq (qj hV xA yO) (g9 n0) gO)) 6)
(a7 (iy R4
(a7 (bS (gf [] (d2 dt (zA "kind kq of ka fields new ") (zX pL (d2 iI (zX l9 n0) (zN pL))))) 7)
(f9 (jR (bz (d2 dt (d2 dt Gx yP) Gy) yN))))
gd)
(a7 (iy R5
(a7 (bS (gf [] (gk (zC "kind kq of ka" (zQ (d2 dt (d2 dt (zA "kind kr of kq fields ") (zX pL vN)) (zA " new")))))) 5)
(f9 (jR (bz (d2 dt (d2 dt Gx kR) Gy) (zQ (d2 dt jc rM))))))
gd)
(f9 (jR (bz (d2 dt (d2 dt R7 (gk (zC "if some x" (zC "while choose" (zC "end" (zC "else" (zC "else" gm))))))) R8) (zQ (d2 dt iO rN)))))))))))
def iW:=ij ["_law_lines_here","_law_first","_law_main","_law_draw_here","_law_way","_law_rows","_law_fields","_law_row"] k7
abbrev CM:=zX gW qR
abbrev XT:=d2 dt vQ kW
abbrev R9:=vo (fB (d2 jf i0 (zI 8))) (fB (d2 jf i0 (zI 9)))
abbrev vT:=zQ (fq 1)
abbrev LW:=g9 (d2 dt nB kW)
abbrev Sa:=bz gH (bz mB (bz vQ vT))
abbrev Sb:=gk (zC "while choose" (zC "if some x" gm))
abbrev LX:=g9 (d2 dt vQ (zI 1))
abbrev Sd:=gq gH gO LX
abbrev LY:=gq gH LX gO
abbrev LZ:=gq gH gO (g9 nB)
abbrev L1:=gq gH gO (g9 mB)
abbrev L3:=gq gH (g9 mB) gO
abbrev qG:=(a7 (bS (gf [] (d2 iI CH (zI 12))) 2)
(a7 (bS (gf [] (d2 iI LA rO)) 3)
(a7 (bS (gf [] (jL 0 lH gm)) 4)
(a7 (bS (gf [] (jL 0 k6 gm)) 5)
(a7 (bS (gf [] (jL 1 lI lC)) 6)
(a7 (iy (fB (d2 t7 iO kh))
(a7 (bS (gf [] (zX jP (d2 iI CM (zN jP)))) 7)
(f9 (jR (bz (d2 dt (d2 dt LZ yP) (gq gG LW gO)) CK))))
gd)
(a7 (iy (fB (d2 jf iO kh))
(f9 (jR (bz LZ CK)))
gd)
(a7 (iy (fB (d2 jf iO n0))
(a7 (bS (gf [] (zX kR (d2 iI CM (zN kR)))) 7)
(f9 (jR (bz (d2 dt (d2 dt L1 yP) L3) yL))))
gd)
(a7 (iy (fB (d2 jf iO tu))
(a7 (bS (gf [] (zX (gk (zC "" (zC "end" (zC "main" (zC "kind kq" (zC "func fq" (zC "rest" gm))))))) (d2 iI CM (zI 6)))) 7)
(f9 (jR (bz (d2 dt gG yP) (zQ rO)))))
gd)
(a7 (bS (gf [] (jL 1 lN lC)) 8)
(a7 (iy (fB (d2 jf iO rN))
(a7 (bS (gf [] (zX Sb (d2 iI CM kh))) 7)
(f9 (jR (bz (d2 dt (d2 dt Sd (d2 tj yP (zI 9))) LY) (zQ (d2 dt uq (zI 9)))))))
gd)
(a7 (iy R9
(f9 (jL 4 j4 Sa))
gd)
(a7 (iy (fB (d2 BF iO (zI 9)))
(f9 (jL 4 iW Sa))
gd)
(a7 (iy (fB (d2 jf iO (zI 6)))
(a7 (bS (gf [] (zX (gk (zC "else" (zC "main" (zC "kind kq" (zC "method ka m" EM))))) (d2 iI CM rN))) 7)
(f9 (jR (bz (d2 dt (d2 dt Sd yP) LY) (zQ XT)))))
gd)
(f9 (jR (bz (d2 dt (d2 dt L1 LP) L3) yL)))))))))))))))))
def jD:=ij ["_law_lines_here","_law_draw_here","_law_way","_law_at","_law_wrong","_law_heads_here","_law_first","_law_row","_law_main"] qG
abbrev AI:=dC .none
abbrev XU:=dC (.bool false)
abbrev Se:=jh 0 "Reading" "body" (gf [0] AI)
abbrev vU:=(a7 (yq 0 "Reading" "fields" (gf [0] (dC (.dict []))))
(a7 (yq 0 "Reading" "heads" (gf [0] (dC (.dict []))))
(a7 Se
(a7 (yq 0 "Reading" "blocks" (gf [0] n4))
(a7 (jh 0 "Reading" "over" (gf [0] XU))
(yq 0 "Reading" "later" (gf [0] n4)))))))
def mH:=nV ["self"] vU
abbrev nE:=(f9 (Z7 (Cj (Xw gG) (Cj (zA ".") (Cj (Xw jc) (λ_=>Y Str.empty))))))
def jE:=ij ["kind","method"] nE
abbrev Sf:=fB (d2 jf EI (zA "method"))
abbrev Sg:=fB (d2 jf EI AE)
abbrev pQ:=(a7 (iy Sf
(f9 (jL 2 jE (bz um (zQ CI))))
gd)
(a7 (iy Sg
(f9 um)
gd)
(f9 Gs)))
def gL:=ij ["head"] pQ
abbrev yQ:=gf [1] kW
abbrev Sh:=gf [1] (jR (bz tr (bz mB (zQ i0))))
abbrev ez:=(a7 (bS (gf [1] (qj hV kR yO)) 6)
(iy (fB (d2 jf yK AG))
(Eg 3 (λi j=>i - j) yQ)
(iy (fB (d2 BF l9 nA))
(a7 (iy (fB (d2 qw yK Gw))
(sV (.sl 1) (OO qF) Sh)
gd)
(iy (fB (d2 uK yK (dC (.tuple [(.str "if"),(.str "while")]))))
(Eg 3 (λi j=>i+j) yQ)
gd))
(iy (fB (d2 qw yK AH))
(a7 (bS (gf [1] (jL 1 gL yL)) 2)
(bS yQ 3))
gd))))
abbrev L4:=qj hV gH (zC "\n" gm)
abbrev oR:=(a7 (j7 (gf [1] (dC (.dict []))) 1)
(a7 (bS (gf [1] vP) 2)
(a7 (bS (gf [1] nA) 3)
(a7 (jx (xi [1] (yy L4)) (.many [4,5]) ez)
yJ))))
def kr:=ij ["text","rows","body","depth","line","row","words"] oR
abbrev jq:=(qj hV gG yO)
abbrev oS:=(f9 (i8 (pC (qj hV (nW "Program" "shown" 1 jy gG gm) (zC "\n" gm))) [] ba jq))
def ku:=ij ["program"] oS
abbrev EN:=zX nB pJ
abbrev fx:=(iy (fB (d2 jf EN AG))
(Eg 2 (λi j=>i - j) yQ)
(iy (kP (fB (d2 jf iO nA)) (fB (d2 qw EN AH)))
(a7 (sV (.sl 1) (gf [1] (jL 1 gL CK)) (gf [1] l9))
(bS yQ 2))
(iy (fB (d2 uK EN LJ))
(Eg 2 (λi j=>i+j) yQ)
gd)))
abbrev rS:=(a7 (j7 (gf [1] (dC (.dict []))) 1)
(a7 (bS (gf [1] nA) 2)
(a7 (jx (xi [1] (nY (jL 1 ku lC))) (.one 3) fx)
yJ)))
def ma:=ij ["program","heads","depth","words"] rS
abbrev L5:=NO (j5 lF (zQ (jL 1 ma (zQ gH))))
abbrev L6:=gf [0] (jL 1 kr vT)
abbrev pR:=(a7 (jh 0 "Program" "text" (gf [0] jc))
(a7 (jh 0 "Program" "numbered" L6)
(jh 0 "Program" "body_texts" L5)))
def hZ:=nV ["self","text"] pR
abbrev AJ:=g9 (zI 2)
abbrev Si:=gq gH AJ gO
abbrev L7:=j5 lF (zQ (gq gH AJ gO))
abbrev L8:=KP vF gW (zC "keeps" gm)
abbrev EO:=zA "keeps"
abbrev m5:=(a7 (iy (vo (fB (d2 qw xA AE)) (fB (d2 lZ EO Si)))
(f9 n4)
gd)
(a7 (bS (gf [] L7) 1)
(f9 (qi jc (g9 (d2 dt L8 rM)) gO))))
def h9:=HW ["head","names"] m5
abbrev AK:=dC (.bool false)
abbrev yR:=f9 AK
abbrev CN:=lT ["Reading"] "heads" gH
abbrev L9:=lT ["Row"] "function" gW
abbrev jX:=(a7 (iy (fB (d2 jf (lT ["Row"] "word" jc) (zA "straight")))
(f9 (d2 uK (jL 2 jE (bz (lT ["Row"] "kind" jc) (zQ (lT ["Row"] "method" jc)))) CN))
gd)
(a7 (iy (vo (fB (d2 jf L9 Gs)) (fB (d2 lZ L9 CN)))
yR
gd)
(f9 (d2 jf (zN (jL 1 h9 (zQ (zX CN L9)))) (zN (lT ["Row"] "handed" jc))))))
def ia:=ij ["reading","row"] jX
abbrev ER:=f9 AI
abbrev Iw:=(a7 (iy (fB (d2 uK xA (dC (.tuple [(.str "if"),(.str "while")]))))
(a7 (iy (kP (fB (d2 BF rO rM)) (fB (λρ=>(um ρ).bind (K0 oE))))
(f9 (d2 dt (jR (zC "CONDITION" gm)) (λρ=>(um ρ).bind (K1 oE))))
gd)
ER)
gd)
(f9 (λρ=>(xA ρ).bind (RQ Gr))))
def tF:=ij ["words"] Iw
abbrev xC:=(gU (.sl 1) (gf [1] (zA "A")))
abbrev ES:=(a7 (j7 (gf [1] (j5 lF (zQ (jL 1 tF lC)))) 1)
(a7 (Kq (fB (d2 t7 qF (d2 WU rO rM))) xC)
(f9 (d2 Uw jc (gq gG (g9 rM) gO)))))
def qT:=ij ["words","form"] ES
abbrev xD:=(fB (d2 jf gG (zA "A")))
abbrev qH:=jc
abbrev xE:=(fB (d2 uK gG (jR (zC "X" (zC "Y" (zC "A" gm))))))
abbrev U2:=jL 1 qT vT
abbrev Ma:=pC (jL 1 qT vT)
abbrev ET:=(a7 (bS (gf [0] (j5 Am (zQ U2))) 2)
(a7 (jh 0 "Row" "word" (gf [0] CH))
(a7 (jh 0 "Row" "condition" (gf [0] (d2 mx iO (zA "CONDITION"))))
(a7 (jh 0 "Row" "x" (gf [0] (d2 mx iO (zA "X"))))
(a7 (jh 0 "Row" "y" (gf [0] (d2 mx iO (zA "Y"))))
(a7 (jh 0 "Row" "kind" (gf [0] (d2 mx iO (zA "KIND"))))
(a7 (jh 0 "Row" "field" (gf [0] (d2 mx iO (zA "FIELD"))))
(a7 (jh 0 "Row" "method" (gf [0] (d2 mx iO (zA "METHOD"))))
(a7 (jh 0 "Row" "function" (gf [0] (d2 mx iO (zA "FUNCTION"))))
(a7 (jh 0 "Row" "handed" (gf [0] (vJ Ma [] xD qH)))
(jh 0 "Row" "names" (gf [0] (vJ Ma [] xE qH)))))))))))))
def mI:=nV ["self","words","parts"] ET
abbrev Mb:=lT ["Reading"] "body" (fq 0)
abbrev Sj:=OO (d2 jf Mb (zA "main"))
abbrev Mc:=uN (lT ["Reading"] "blocks" gH)
abbrev lO:=(a7 (iy Mc
(a7 (Ee (.fl 0 "Reading" "blocks"))
Kt)
gd)
(a7 (jh 0 "Reading" "over" Sj)
Se))
def jF:=nV ["reading"] lO
abbrev CO:=qD AK
abbrev Sk:=lT ["Reading"] "blocks" gH
abbrev EU:=qD (dC (.bool true))
abbrev kx:=(a7 (iy (vo (sR Mc) (fB (d2 qw (zX Sk vN) (zA "if"))))
CO
gd)
(a7 (sV (.fl 0 "Reading" "blocks") (gf [0] vN) (gf [0] Gw))
EU))
def iQ:=nV ["reading"] kx
abbrev jz:=(iy (sR (vD qy qy (zA "a") jc (zA "z")))
yR
gd)
abbrev rT:=(a7 (jx (xi [] (nY gG)) (.one 1) jz)
(f9 (d2 qw gG (zA ""))))
def md:=ij ["word","sign"] rT
abbrev yS:=(f9 (rJ (d2 qy rO tw) (jL 1 md lC)))
def n5:=ij ["word"] yS
abbrev ji:=(jL 1 n5 lC)
abbrev XW:=a7 (bS (gf [] (jL 1 tF (zQ gH))) 1) (a7 (iy (fB (d2 Uz gW AI)) (f9 AK) gd) (a7 (iy (kP (uN gW) (fB (d2 jf (zX gW (zI (-1))) (zA "A")))) (f9 (d2 V' (zN gH) (zN gW))) gd) (f9 (d2 jf (zN gH) (d2 dt (zN gW) kW)))))
abbrev Me:=(a7 (iy (vo (sR (uN gG)) (sR (uN (j5 Et (zQ (i8 (pC gG) [] ba ji))))))
yR
gd)
XW)
def mJ:=ij ["words","form"] Me
abbrev AL:=lT ["Reading"] "fields" (fq 0)
abbrev Mf:=lT ["Row"] "kind" (fq 3)
abbrev Sl:=kP (fB (d2 oB Mf AI)) (fB (d2 lZ Mf AL))
abbrev Mg:=lT ["Row"] "word" nB
abbrev gX:=(a7 (iy (fB (d2 jf iO yM))
(a7 (Ek (vC [0] 0 1 jF gm))
EU)
gd)
(a7 (iy (fB (d2 jf iO (gk (zC "else" gm))))
(Cf (vC [0] 0 1 iQ gm))
gd)
(a7 (iy (sR (uN (jL 1 mJ rP)))
CO
gd)
(a7 (bS (gf [0] (pE "Row" 2 mI rP)) 3)
(a7 (iy Sl
CO
gd)
(a7 (iy (fB (d2 uK Mg (dC (.tuple [(.str "if"),(.str "while")]))))
(gU (.fl 0 "Reading" "blocks") (gf [0] Mg))
gd)
(a7 (iy (fB (d2 uK Mg (jR (zC "func" (zC "straight" gm)))))
(gU (.fl 0 "Reading" "later") (gf [0] (jR LC)))
gd)
(qD (d2 qy (zN Sk) tw)))))))))
def eT:=nV ["reading","line","words","row"] gX
abbrev vV:=(f9 (d2 jf (Ar gG) rO))
def jr:=ij ["names"] vV
abbrev iB:=(a7 (iy (vo (uN (lT ["Reading"] "heads" (fq 0))) (vo (fB (d2 t7 (zN (fq 1)) (zI 2))) (fB (d2 uK (zX (fq 1) (zI 1)) (lT ["Reading"] "fields" (fq 0))))))
(qD (dC (.bool false)))
gd)
(a7 (bS (gf [0,3] (gq (fq 1) (g9 (zI 2)) gO)) 2)
(a7 (j7 (gf [0,3] (gk gm)) 3)
(a7 (iy (kP (uN (fq 2)) (fB (d2 jf (zX (fq 2) (zI 0)) (zA "of"))))
(a7 (iy (vo (fB (d2 t7 (zN (fq 2)) (zI 2))) (fB (d2 lZ (zX (fq 2) (zI 1)) (lT ["Reading"] "fields" (fq 0)))))
(qD (dC (.bool false)))
gd)
(a7 (j7 (NO (j5 lF (zQ (zX (lT ["Reading"] "fields" (fq 0)) (zX (fq 2) (zI 1)))))) 3)
(bS (gf [0,3] (gq (fq 2) (g9 (zI 2)) gO)) 2)))
gd)
(a7 (iy (kP (uN (fq 2)) (vo (fB (d2 qw (zX (fq 2) (zI 0)) (zA "fields"))) (fB (d2 t7 (zN (fq 2)) (zI 2)))))
(qD (dC (.bool false)))
gd)
(a7 (Ae (.sl 3) (gf [0,3] (qi (fq 2) (g9 (zI 1)) gO)))
(K5 3 (a7 (sV (.fl 0 "Reading" "fields") (gf [0] (zX (fq 1) (zI 1))) (gf [0] (fq 3)))
(qD (jL 1 jr (zQ (fq 3))))))))))))
def gY:=nV ["reading","words","behind","fields"] iB
abbrev lP:=(a7 (iy Sf
(f9 (j5 lF (zQ (gq gG (g9 n0) gO))))
gd)
(a7 (j7 (gf [1] L7) 1)
(a7 (iy (fB (d2 uK EO jc))
(f9 (qi jc gO (g9 L8)))
gd)
yJ)))
def i5:=HW ["head","names"] lP
abbrev Sm:=f9 (rJ (d2 lZ (zA "self") gW) (jL 1 jr vT))
abbrev jQ:=(a7 (iy (kP Sg (kP (fB (d2 uK EO Si)) (sR (uN (jL 1 h9 lC)))))
yR
gd)
(a7 (bS (gf [] (d2 dt (jL 1 i5 lC) (jL 1 h9 lC))) 1)
Sm))
def f6:=ij ["words","names"] jQ
abbrev Sn:=d2 uK (zX gW kW) AL
abbrev mi:=(a7 (iy (fB (d2 jf CH AE))
(f9 (rJ (d2 BF qF rM) (rJ (d2 qw LA Gs) (jL 1 f6 yN))))
gd)
(a7 (iy (fB (d2 jf CH LO))
(f9 (rJ (d2 BF qF kh) (rJ Sn (jL 1 f6 yN))))
gd)
(f9 (d2 jf jc (gk EL)))))
def hG:=ij ["reading","words"] mi
abbrev XX:=lT ["Reading"] "body" gH
abbrev U3:=jL 1 gL (zQ i0)
abbrev Mi:=OO Mb
abbrev Mj:=gf [0] (jL 1 gL (zQ i0))
abbrev iG:=(a7 (iy (uN (lT ["Reading"] "over" gG))
CO
gd)
(a7 (iy (fB (d2 oB XX vP))
(Cf (vC [0] 0 3 eT (bz jc rP)))
gd)
(a7 (iy (fB (d2 jf (zX iO nA) AH))
(Cf (vC [0] 0 2 gY rP))
gd)
(a7 (iy (vo (sR (uN (jL 2 hG (bz gG rP)))) (fB (d2 uK U3 CN)))
CO
gd)
(a7 (jh 0 "Reading" "body" Mj)
(a7 (sV (.fl 0 "Reading" "heads") Mi (gf [0] iO))
EU))))))
def b8:=nV ["reading","line","words"] iG
abbrev ee:=(O7 (Y4 (sR (uN (j5 Et (zQ (i8 (pC jP) [] ba ji))))) (Ur (hT (vC [1] 1 3 b8 Lv))))
(pH l9)
gd)
abbrev Ml:=bz gW (zQ (fq 5))
abbrev gB:=(iy (sR (uN (jL 2 ia Ml)))
(pH l9)
gd)
abbrev So:=iy (sR (uN (lT ["Reading"] "over" gW))) (pH AB) gd
abbrev Sq:=xi [] (nY (lT ["Reading"] "later" gW))
abbrev Sr:=jx (xi [1] (yy i0)) (.many [3,4]) ee
abbrev mK:=(a7 (j7 (gf [1] (pE "Reading" 1 mH gm)) 1)
(a7 (bS (gf [1] (i8 (pC L4) [] ba jq)) 2)
(a7 Sr
(a7 So
(K5 1 (a7 (jx Sq (.many [3,5]) gB)
(CC (pE "Program" 2 hZ lC))))))))
def ib:=ij ["text","reading","rows","line","words","row"] mK
abbrev Mm:=sR (uN (Iu [("NoProgram",true)] gW))
abbrev Mn:=RT "NoProgram" gW
abbrev xF:=(a7 (bS (gf [] vP) 1)
(a7 (yG 1 ib (zQ (qj j8 (zA "\n") lC)) 2 "NoProgram" "NoRow"
(bS (gf [] iO) 1) λ_=>Z)
(a7 (iy (vo Mm (uN (Iu [("NoProgram",false)] jc)))
ER
gd)
(a7 (iy (vo Mm (uN (Xb "bool" Mn)))
ER
gd)
(f9 Mn)))))
def nF:=ij ["_law_lines_here","_law_refusal","e"] xF
abbrev Mo:=qj j8 (zA "\n") (zQ mB)
abbrev CP:=(iy (fB (d2 qw (nW "Program" "shown" 1 jy (jL 1 (yF ib) (zQ Mo)) gm) Mo))
yR
gd)
abbrev vW:=(a7 (yr (gf [] (jL 2 jD (bz jc (zQ (jL 2 jo (bz (d2 dt (d2 HL m3 n0) rN) rP)))))) (.many [8,9]))
(iy (fB (d2 qw (jL 1 nF (zQ uq)) oF))
yR
gd))
abbrev Ss:=d2 dt (gk (bz pJ (zQ kW))) (gq gH AJ (g9 (zI 18)))
abbrev Su:=dC (.bool true)
abbrev Sv:=(a7 (bS (gf [] (jL 4 pP (bz gG (bz kh (bz (zI 63) (zQ Su)))))) 1)
(a7 (bS (gf [] RX) 2)
(a7 (bS (gf [] (jL 1 lN yN)) 3)
(a7 (bS (gf [] (zX Sb (d2 iI LN kh))) 4)
(a7 (bS (gf [] (d2 dt (d2 dt (d2 dt (gq jc gO LW) (d2 tj (gk CJ) tw)) (d2 tj yM tw)) (gq jc LW gO))) 5)
(a7 (jx (xi [] (nY (gk Ml))) (.one 6) CP)
(a7 (jx (xi [] (nY Ss)) (.one 7) vW)
(f9 Su))))))))
def Mp:=ij ["_law_script","_law_lines_here","_law_digits","_law_main","_law_row","_law_deep","_law_right","_law_cell","_law_wrong","_law_line"] Sv
def nH:XSt "NoProgram.__init__" (qe (lY 6) 0):={_,_,_,_,_,_,_,_,_,_,_,_,_,_,_,{rfl,rfl,rfl,by decide +kernel,rfl,by decide +kernel,by decide +kernel},rfl,(by intro _ _ _ _ _ _;(repeat' intro _);exact rfl),rfl,rfl,rfl,by decide,λa=>{_,rfl}}
structure Md (P:Program) (w:World) (K:Fg) (mg:Str->Ow):Prop where
 ValueError:mg "ValueError"=Z
 all:mg "all"=Z
 bool:mg "bool"=Z
 dict:mg "dict"=Z
 enumerate:mg "enumerate"=Z
 int:mg "int"=Z
 isinstance:mg "isinstance"=Z
 len:mg "len"=Z
 list:mg "list"=Z
 range:mg "range"=Z
 set:mg "set"=Z
 zip:mg "zip"=Z
 pS:jw K "Program" "body_texts"
 qU:jw K "Program" "numbered"
 vX:jw K "Program" "text"
 tG:jw K "Reading" "blocks"
 vY:jw K "Reading" "body"
 tH:jw K "Reading" "fields"
 uO:jw K "Reading" "heads"
 uP:jw K "Reading" "later"
 vZ:jw K "Reading" "over"
 uQ:jw K "Row" "condition"
 CQ:jw K "Row" "field"
 v5:jw K "Row" "function"
 AM:jw K "Row" "handed"
 EV:jw K "Row" "kind"
 AN:jw K "Row" "method"
 CS:jw K "Row" "names"
 EW:jw K "Row" "word"
 PR:jw K "Row" "x"
 PU:jw K "Row" "y"
 xG:Ig K mg "BLOCK_WORDS" (.tuple [(.str "if"),(.str "while")])
 rV:oD P w K mg "CONDITIONS" oE
 PY:oD P w K mg "FORMS" Gr
 xH:Ig K mg "MOST_BLOCKS" (.int 8)
 jY:Gp K mg "NoProgram" "NoProgram.__init__" (qe (lY 6) 0)
 xt:Az K mg
 EX:ic K mg "_law_draw" (lY 42)
 CT:ic K mg "_law_kinds" (lY 43)
 CU:ic K mg "_law_heads" (lY 44)
 CV:ic K mg "_law_parts" (lY 54)
 CW:ic K mg "_law_begun" (lY 52)
 xI:ic K mg "_law_cell_at" (lY 41)
 v7:ic K mg "_law_head_row" (lY 45)
 CY:ic K mg "_law_names" (lY 46)
 EY:ic K mg "_law_word" (lY 51)
 uR:ic K mg "_law_condition" (lY 50)
 AO:ic K mg "_law_handed" (lY 47)
 AQ:ic K mg "_law_caller" (lY 48)
 CZ:ic K mg "_law_plain" (lY 49)
 EZ:ic K mg "_law_body" (lY 53)
 C0:ic K mg "_law_lines" (lY 55)
 xJ:ic K mg "_law_main_at" (lY 59)
 uS:UG K "Program" "shown" "Program.shown" (qe (lY 25) 1)
 tI:ic K mg "_law_wrong_rows" (lY 56)
 rW:ic K mg "_law_heads_wrong" (lY 57)
 tJ:ic K mg "_law_first_head" (lY 58)
 tK:ic K mg "_law_told_again" (lY 60)
 rX:ic K mg "_law_nearly_good" (lY 61)
 xK:ic K mg "_law_spoiled" (lY 62)
 v8:K7 K mg "Reading" "Reading.__init__" (qe (lY 29) 0)
 xM:ic K mg "method_body" (lY 10)
 C1:ic K mg "head_body" (lY 11)
 uT:ic K mg "numbered_rows" (lY 26)
 uU:ic K mg "rows_of_words" (lY 12)
 AR:ic K mg "body_heads" (lY 13)
 v9:K7 K mg "Program" "Program.__init__" (qe (lY 25) 0)
 C2:ic K mg "head_kept" (lY 9)
 pT:ic K mg "names_what_is_told" (lY 39)
 Iy:ic K mg "form_of" (lY 22)
 E1:ic K mg "parts_of" (lY 23)
 E2:K7 K mg "Row" "Row.__init__" (qe (lY 18) 0)
 xN:ic K mg "close_block" (lY 37)
 uV:ic K mg "turns_to_else" (lY 38)
 AU:ic K mg "is_letters" (lY 19)
 Iz:ic K mg "is_name" (lY 20)
 Mq:ic K mg "is_row" (lY 21)
 wa:ic K mg "reads_within" (lY 36)
 E3:ic K mg "are_once" (lY 35)
 AV:ic K mg "reads_kind" (lY 32)
 xO:ic K mg "head_params" (lY 8)
 rY:ic K mg "are_heads_names" (lY 34)
 IA:ic K mg "is_head" (lY 33)
 C3:ic K mg "reads_row" (lY 31)
 wb:ic K mg "read_program" (lY 30)
 xP:ic K mg "_law_refused" (lY 63)
 XY:ic K mg "law" (lY 64)
local macro_rules
  |`(tactic|sleep 0)=>do
  let f:=λs=>zzz s #[]
  let n:=λs:String=>((s.splitOn " ").toArray.map λx=>(Lean.mkIdent x.toName:Lean.TSyntax `term))
  let b:=("kA _:PD _ _ (fq _),JR ? ?:xh _ _ _,JM:PD _ _ (dC _),z7:PD _ _ (dC _),TN:PD _ _ (dC _),WQ:PD _ _ (dC _),Pp:PD _ _ (dC _),KZ (Md.xG !) rfl:PD _ _ (dC _),KZ (Md.xH !) rfl:PD _ _ (dC _),ixA ? ? ?:PD _ _ (d2 gS _ _),r_ ? ? ?:z6 _ _ (fB (d2 _ _ _)),PF.pd (UE ? ?):PD _ _ (d2 tj _ _),WS ? ? ?:PD _ (.BinOp _ _ _ _) _,Kf ? ? ? #:PD _ _ (d2 mx _ _),s_ ? ? ?:PD _ (.Compare _ [1 _ _) _,Kl _ !:mX _ .own _ (.Return (some (.Name _ _)) _) _,Kk ?:mX _ .own _ _ (f9 _),O3 _ ! ? ! ? ?:PX _ _ _ _,K2 _ _ ? ? @ @:mX _ _ _ _ (bS (gf _ (i8 _ _ _ _)) _),OQ _ ? ?:mX _ _ _ _ (bS _ _),OR _ ? ? ?:mX _ _ _ _ (j7 _ _),Ed ? ? ?:mX _ _ _ _ (gU _ _),OT ? ? ? ? ?:mX _ _ _ _ (sV _ _ _),Ah PassesOwn.never ? ? ? ? ?:mX _ _ _ _ (jx _ _ _),OU _ ? ? ?:mX _ _ _ _ (jh _ _ _ _),Ko _ ? ? ?:mX _ _ _ _ (yq _ _ _ _),OV _ ? ? ?:mX _ _ _ _ (Eg _ _ _),OY ? ? ?:mX _ _ _ _ (yr _ _),OS ? ?:mX _ _ _ _ (Ee _),Kn _:PP _ _ (.sl _),Xs _ ?:PP _ _ _,Eh ? (Md.range !) ?:Uo _ _ _ (i9 _),KI ? (Md.enumerate !) ?:Uo _ _ _ (yy _),OW _ ?:PG _ (.Name _ _) _,OX _ _ ? ?:PG _ (.Tuple [2 _ _) _,HQ _ _ _ ? ?:PG _ _ _,KY ?:z6 _ _ (uN _),W8 ?:z6 _ (.BoolOp _ _ _) _,JY ! ! ? ?:PD _ _ (jL _ _ _),PF.pd (Ku ! ! ? ?):PD _ _ (jL _ _ _),B4 ON ? (Md.len !) ? ?:PD _ _ (j5 kJ _),B4 (Uy ?) ? (Md.all !) ? ?:PD _ _ (j5 Et _),yl UC ? (Md.int !) ? ?:PD _ _ (j5 Au _),Ue % ?:PD _ _ (lT _ _ _),Kx ! ? !:PD _ _ (nW _ _ _ _ _ gm),PF.pd (Cw ! ? !):PD _ _ (nW _ _ _ _ _ gm),O2 ! ? ! ?:PD _ _ (nW _ _ _ _ _ _),PF.pd (Gj ! ? ! ?):PD _ _ (nW _ _ _ _ _ _),Kz PySem.F.slot_str_join PySem.F.type_str_join O9 ? ?:PD _ _ (qj j8 _ _),Kz PySem.F.slot_str_partition PySem.F.type_str_partition Aj ? ?:PD _ _ (qj lE _ _),Ux PySem.F.slot_list_index PySem.F.type_list_index (KN !) ? ?:PD _ _ (KP _ _ _),KW _ ? @ @:PD _ _ (i8 _ _ _ _),Ih _ ? @ @:PD _ _ (vJ _ _ _ _),D6 ? (Md.range !) ?:F7 _ _ _ (i9 _),KA ? ?:PF _ _ (qj _ _ _),Ph ? ? (Md.list !) ?:PF _ _ (j5 lF _),Ku ! ! ? ?:PF _ _ (jL _ _ _),Cw ! ? !:PF _ _ (nW _ _ _ _ _ gm),Gj ! ? ! ?:PF _ _ (nW _ _ _ _ _ _),O1 ! ! ? ?:PF _ _ (pE _ _ _ _),PF.pd ?:PD _ _ (qj hV _ _),PF.pd ?:PD _ _ (j5 lF _),PF.pd ?:PD _ _ (qi _ _ _),PF.pd ?:PD _ _ (pE _ _ _ _),PF.pd ?:PD _ _ (d2 Uw _ _)".splitOn ",").toArray.map (·.splitOn ":")
  let t<-b.mapM λx=>f x[0]!
  let g<-b.mapM λx=>f x[1]!
  let a0:=n "OA vz JS vt Ul T1 TZ WW WY Pb TY El TV UA Ie WZ Ta Tb"
  let a1:=n "T5 T4 nU Xp Xq Ui Uj Uk OP Up KH Oz JQ Ox JT Pj OG J4 W2 Xo W7 Kh"
  let a2:=n "yp Ks Ky Oy T3 Pk"
  let a3:=n "Km JU Kv"
  let a4:=n "Md.pS Md.qU Md.vX Md.tG Md.vY Md.tH Md.uO Md.uP Md.vZ Md.uQ Md.CQ Md.v5 Md.AM Md.EV Md.AN Md.CS Md.EW Md.PR Md.PU"
  `(tactic|((try((with_reducible show mQ _ _ _ _ _);conv=>arg 4;whnf));repeat' first|(with_reducible first $[|exact $a0]* $[|refine $a1 ?_]* $[|refine $a2 ?_ ?_]* $[|refine $a3 ?_ ?_ ?_]*)|(first $[|((with_reducible show $g);refine $t)]*)|((with_reducible show jw _ _ _);first $[|exact $a4 ‹_›]*)|assumption|rfl|decide))
  |`(zS 0)=>`(by sleep 0)
section
variable {P:Program}{K:Fg} (M:Md P w K mg)
include M
theorem uu:nR P w K mg base "_law_draw" 1 2 jo :=
 gA [2] M.EX λd c b a=>zS 0
theorem AW:nR P w K mg base "_law_kinds" 1 1 lU :=
 gA [1] M.CT λd c b a=>zS 0
theorem AX:nR P w K mg base "_law_heads" 1 2 mZ :=
 gA [2] M.CU λd c b a=>zS 0
theorem AY:nR P w K mg base "_law_parts" 1 2 pK :=
 gA [2,99] M.CV λd c b a=>by
  sleep 0
  exact Ij 2 [] b a (zS 0) (λ_ _ _ _=>vt) (λ_ _ _ _=>(zS 0));exact Ii c a (Kn 2) (zS 0) (zS 0) (λ_ _=>rfl) (λ_ _=>rfl)
theorem AZ:nR P w K mg base "_law_begun" 1 4 lV :=
 gA [4] M.CW λd c b a=>zS 0
theorem pU:nR P w K mg base "_law_cell_at" 1 2 gu :=
 gA [] M.xI λd c b a=>zS 0
theorem uW:nR P w K mg base "_law_head_row" 1 1 je :=
 gA [] M.v7 λd c b a=>zS 0
theorem A0:nR P w K mg base "_law_names" 1 1 kK :=
 gA [] M.CY λd c b a=>zS 0
theorem C4:nR P w K mg base "_law_word" 1 2 qS :=
 gA [] M.EY λd c b a=>zS 0
theorem tL:nR P w K mg base "_law_condition" 1 2 l4 :=
 gA [] M.uR λd c b a=>zS 0
theorem qI:nR P w K mg base "_law_handed" 1 3 kY :=
 gA [] M.AO λd c b a=>zS 0
theorem xQ:nR P w K mg base "_law_caller" 2 4 j3 :=
 gA [] M.AQ λd c b a=>have:=qI M;zS 0
theorem A4:nR P w K mg base "_law_plain" 2 5 lW :=
 gA [] M.CZ λd c b a=>have:=qI M;zS 0
theorem C5:nR P w K mg base "_law_body" 3 6 mE :=
 gA [7,8] M.EZ λd c b a=>have:=xQ M;have:=tL M;have:=A0 M;have:=A4 M;have:=C4 M;by
  sleep 0
  exact Ik 7 [] b a (zS 0) (λ_ _ _ _=>vt) (λ_ _ _ _=>(zS 0))
theorem A5:nR P w K mg base "_law_lines" 4 4 pP :=
 gA [9] M.C0 λd c b a=>have:=AZ M;have:=C5 M;have:=pU M;have:=uu M;have:=uW M;have:=AX M;have:=AW M;have:=AY M;by
  sleep 0
  exact UD (zS 0) (zS 0)
theorem pV:nR P w K mg base "_law_main_at" 1 1 lN :=
 gA [] M.xJ λd c b a=>zS 0
theorem n6:u5 P w K mg base "Program" "shown" 1 1 jy :=
 XI [] M.uS λd c b a=>zS 0
theorem rZ:nR P w K mg base "_law_wrong_rows" 1 0 lH :=
 gA [] M.tI λd c b a=>zS 0
theorem qV:nR P w K mg base "_law_heads_wrong" 1 0 k6 :=
 gA [] M.rW λd c b a=>zS 0
theorem r8:nR P w K mg base "_law_first_head" 1 1 lI :=
 gA [] M.tJ λd c b a=>zS 0
theorem r9:nR P w K mg base "_law_told_again" 1 4 j4 :=
 gA [] M.tK λd c b a=>by
  sleep 0
  exact D7 rfl M.range (kA 1) (kA 2)
theorem qW:nR P w K mg base "_law_nearly_good" 1 4 iW :=
 gA [] M.rX λd c b a=>zS 0
theorem wc:nR P w K mg base "_law_spoiled" 2 2 jD :=
 gA [] M.xK λa d c b=>have:=r8 M;have:=pV M;have:=qW M;have:=r9 M;by
  sleep 0
  exact Gq (rZ M) a rfl;exact Gq (qV M) a rfl
theorem uX:sX P w K mg base "Reading" 1 1 mH :=
 Av [] M.v8 λd c b a=>zS 0
theorem pW:nR P w K mg base "method_body" 1 2 jE :=
 gA [] M.xM λd c b a=>by
  sleep 0
  exact Pc (Ak (RM (kA 0)) (Ak z7 (Ak (RM (kA 1)) Uu)))
theorem oG:nR P w K mg base "head_body" 2 1 gL :=
 gA [] M.C1 λd c b a=>have:=pW M;zS 0
theorem tM:nR P w K mg base "numbered_rows" 3 1 kr :=
 gA [1] M.uT λd c b a=>have:=oG M;zS 0
theorem tN:nR P w K mg base "rows_of_words" 2 1 ku :=
 gA [] M.uU λd c b a=>have:=n6 M;zS 0
theorem xR:nR P w K mg base "body_heads" 3 1 ma :=
 gA [1] M.AR λd c b a=>have:=oG M;have:=tN M;zS 0
theorem uY:sX P w K mg base "Program" 4 2 hZ :=
 Av [] M.v9 λd c b a=>have:=xR M;have:=tM M;by
  sleep 0
  exact XD (zS 0)
theorem sd:Ai P w K mg base "head_kept" 1 1 h9 :=
 K8 [] M.C2 λd c b a=>zS 0
theorem o6:nR P w K mg base "names_what_is_told" 2 2 ia :=
 gA [] M.pT λd c b a=>have:=sd M;have:=pW M;zS 0
theorem we:nR P w K mg base "form_of" 1 1 tF :=
 gA [] M.Iy λd c b a=>by
  sleep 0
  exact Pq M.rV rfl (zS 0);exact UB M.rV rfl (zS 0) (λ_ _=>rfl);exact Pm M.PY rfl (zS 0) {(rfl),rfl,rfl,rfl}
theorem C6:nR P w K mg base "parts_of" 2 1 qT :=
 gA [1] M.E1 λd c b a=>have:=we M;by
  sleep 0
  exact HS PassesOwn.never (zS 0) (zS 0);exact Er rfl rfl M.list rfl M.zip (kA 1) (zS 0)
theorem C7:sX P w K mg base "Row" 3 2 mI :=
 Av [] M.E2 λd c b a=>have:=C6 M;by
  sleep 0
  exact yl (Pd rfl) rfl M.dict (by rfl) (zS 0)
theorem wg:Ce P w K mg base "close_block" 1 1 jF :=
 Cy [] M.xN λd c b a=>by
  sleep 0
  exact HU a
theorem tP:Ce P w K mg base "turns_to_else" 1 1 iQ :=
 Cy [] M.uV λd c b a=>zS 0
theorem xS:nR P w K mg base "is_letters" 1 1 md :=
 gA [] M.AU λd c b a=>by
  sleep 0
  exact H0 El El z7 (kA 1) z7
theorem wh:nR P w K mg base "is_name" 2 1 n5 :=
 gA [] M.Iz λd c b a=>have:=xS M;zS 0
theorem IB:nR P w K mg base "is_row" 3 1 mJ :=
 gA [] M.Mq λd c b a=>have:=we M;have:=wh M;zS 0
theorem uZ:Ce P w K mg base "reads_within" 5 3 eT :=
 Cy [] M.wa λd c b a=>have:=C7 M;have:=wg M;have:=IB M;have:=tP M;by
  sleep 0
  exact HX (zS 0)
theorem uv:nR P w K mg base "are_once" 1 1 jr :=
 gA [] M.E3 λd c b a=>by
  sleep 0
  exact Ic rfl rfl M.len rfl M.set (kA 0)
theorem xT:Ce P w K mg base "reads_kind" 2 2 gY :=
 Cy [3] M.AV λd c b a=>have:=uv M;by
  sleep 0
  exact Ef a (Kn 3) (zS 0);exact ug (O':=[0]) 3 (by decide) (by decide) (have a:([0]:List Nat).Nodup:=by decide
  (zS 0))
theorem wj:Ai P w K mg base "head_params" 1 1 i5 :=
 K8 [1] M.xO λd c b a=>zS 0
theorem qX:nR P w K mg base "are_heads_names" 2 1 f6 :=
 gA [] M.rY λd c b a=>have:=uv M;have:=sd M;have:=wj M;zS 0
theorem E4:nR P w K mg base "is_head" 3 2 hG :=
 gA [] M.IA λd c b a=>have:=qX M;zS 0
theorem A6:Ce P w K mg base "reads_row" 6 3 b8 :=
 Cy [] M.C3 λd c b a=>have:=oG M;have:=E4 M;have:=xT M;have:=uZ M;zS 0
theorem oU:EC P w K mg base (EE M.xt).1 (EE M.xt).2.1 "read_program" 7 1 ib :=
 UY [1] M.wb λa d c b=>have:=uY M;have:=wh M;have:=o6 M;have:=A6 M;by
  sleep 0
  exact Kw (uX M) a rfl;exact Ah PassesOwn.leaving rfl (zS 0) (zS 0) (by decide) (nU (O8 (Xv (Us (zS 0) (O6 (O5 (O4 (zS 0)))))) (nU (tq (x_ M.jY nH (lB M.xt).mC) rfl (kA 3) a)) vz));exact tq (x_ M.jY nH (lB M.xt).mC) rfl (zS 0) a;exact ug (O':=[]) 1 (by decide) (by decide) (have b:([]:List Nat).Nodup:=by decide
  (yp (Ah PassesOwn.leaving rfl (zS 0) (zS 0) (by decide) (nU (Km (zS 0) (nU (tq (x_ M.jY nH (lB M.xt).mC) rfl (kA 3) a)) vz))) (nU (Lm (zS 0)))))
theorem wm:nR P w K mg base "_law_refused" 8 1 nF :=
 gA [] M.xP λc d b a=>by
  sleep 0
  exact Ls 2 (lB M.xt) (oU M) c b rfl rfl (zS 0) (λ_=>(zS 0));exact UU (kA 1) rfl M.isinstance rfl (lB M.xt).mC (lB M.xt).tC;exact U0 (kA 1) (lB M.xt).cl.1 (lB M.xt).tT rfl M.isinstance rfl rfl rfl (lB M.xt).m2 (lB M.xt).mR (lB M.xt).m1;exact UW (kA 1) rfl M.isinstance rfl M.ValueError (by rfl) (lB M.xt).tV;exact HM (b6 (b6 (cC rfl))) (Gm (kA 1) (lB M.xt).cl.1 (PQ M.jY (lB M.xt).mC).1 (PQ M.jY (lB M.xt).mC).2) rfl M.isinstance rfl M.bool (by rfl);exact Gm (kA 1) (lB M.xt).cl.1 (PQ M.jY (lB M.xt).mC).1 (PQ M.jY (lB M.xt).mC).2
theorem U4{d:Addr}(b:mg "law"=Y (.ref d)):∃c:FuncData,(∀(s:Shared) (u:Value),BindsTo s c {[u],[]} [("_law_script",u)])/\∀a:Heap,K.In a->a.Ns mainGlobals mg->kz P w K mg a xf 9 d c ["_law_script"] (T9 K 1 Mp) :=
 UI [] b M.XY λ_=>λf h g e=>have:=n6 M;have:=pU M;have:=uu M;have:=A5 M;have:=pV M;have:=wm M;have:=wc M;by
  sleep 0
  exact JY (EC.own (oU M)) f rfl (zS 0)
end
open PySem L2 PySem.StrLaws PySem.Builtin PySem.Builtin.Str
open PySem
def oV(i:Nat)(a:aC):fq i a=(a[i]?).join:=rfl
def xj(d:fZ)(a:aC):dC d a=Y d:=rfl
def se(o:fZ->fZ->Od)(f g:aC->Od)(a:aC):d2 o f g a=(f a).bind λx=>(g a).bind λy=>o x y:=rfl
def Mr(n:Nat)(f:Lp->Od)(b:aC->Option Lp)(a:aC):jL n f b a=(b a).bind λc=>if c.length=n then f c else Z:=rfl
def tQ(f:Lp->Od)(b:aC->Option Lp)(a:aC):j5 f b a=(b a).bind f:=rfl
def lK(a:aC):gm a=Y []:=rfl
def iC(f:aC->Od)(b:aC->Option Lp)(a:aC):bz f b a=(f a).bind λx=>(b a).bind λc=>Y (x::c):=rfl
def Sw(c:aC->Option Lp)(a:aC):jR c a=(c a).bind λb=>if b.length<=sizeLine then Y (.tuple b) else Z:=rfl
def XZ(c:aC->Option Lp)(a:aC):gk c a=(c a).bind λb=>if b.length<=sizeLine then Y (.list b) else Z:=rfl
def u6(f:aC->Od)(l h:FO)(a:aC):gq f l h a=(f a).bind λx=>(l a).bind λb=>(h a).bind λc=>sS x b c:=rfl
def u7(f:aC->Od)(a:aC):g9 f a=(f a).bind λd=>match d with | .int i=>Y (Y i)|_=>Z:=rfl
def u9(a:aC):gO a=Y Z:=rfl
def Ms(f:aC->Od)(l h:FO)(a:aC):qi f l h a=(f a).bind λx=>(l a).bind λb=>(h a).bind λc=>match x with | .list xs=>Y (.list (mP xs b c))|_=>Z:=rfl
def X0(o:fZ->Lp->Od)(f:aC->Od)(b:aC->Option Lp)(a:aC):qj o f b a=(f a).bind λd=>(b a).bind λc=>match d with | .str z=>o (.str z) c|_=>Z:=rfl
def X3(o:fZ->Lp->Od)(f:aC->Od)(b:aC->Option Lp)(a:aC):KP o f b a=(f a).bind λd=>(b a).bind λc=>match d with | .list z=>o (.list z) c|_=>Z:=rfl
def sf(b:Lr)(n:Str)(f:aC->Od)(a:aC):lT b n f a=(f a).bind (j6 b n):=rfl
def Mt(q:aC->Option Lp)(a:List (Nat×Str))(g:aC->Option Bool)(f:aC->Od)(b:aC):i8 q a g f b=(q b).bind λc=>if c.length<=sizeLine then (gP g f (mw a b) c).map .list else Z:=rfl
def U5(f:aC->Od)(a:aC):pC f a=(f a).bind λd=>match d with | .list ds=>Y ds | .tuple ds=>Y ds|_=>Z:=rfl
def U6(f:aC->Od)(a:aC):nY f a=(f a).bind λd=>match d with | .list ds=>Y ds | .tuple ds=>Y ds | .str x=>Y (qO x)|_=>Z:=rfl
def C8(f:aC->Od)(ρ:aC):f9 f ρ=(f ρ).map .rt:=rfl
def E5(f:aC->Od)(i:Nat)(a:aC):bS f i a=(f a).map λd=>.nx (a.set i (Y d)):=rfl
def E6(f:aC->Od)(i:Nat)(ρ:aC):j7 f i ρ=(f ρ).bind λd=>if i<ρ.length then Y (.nx (ρ.set i (Y d))) else Z:=rfl
def X4(a:aC):gd a=Y (.nx a):=rfl
def uw(O:List Nat)(f:aC->Od)(ρ:aC):gf O f ρ=f (iz O ρ):=rfl
def Sx(f:aC->Od)(a:aC):OO f a=(f a).bind λd=>if my d=true then Y d else Z:=rfl
def X5(f:aC->Od)(a:aC):NO f a=(f a).bind λd=>if xu d=true then Y d else Z:=rfl
def wo(O:List Nat)(f:aC->Option Lp)(a:aC):xi O f a=f (iz O a):=rfl
def A7(f:aC->Od)(a:aC):fB f a=(f a).bind λd=>match d with | .bool b=>Y b|_=>Z:=rfl
def Gz(f:aC->Od)(a:aC):uN f a=(f a).bind iA:=rfl
def U7(f:aC->Option Bool)(a:aC):sR f a=(f a).map (!·):=rfl
def X6(i:Nat)(o:Int->Int->Int)(f:aC->Od)(c:aC):Eg i o f c=(c[i]?).join.bind λx=>(f c).bind λd=>match x,d with | .int a,.int b=>Y (.nx (c.set i (Y (.int (o a b)))))|_,_=>Z:=rfl
def yT(b:Pl)(e c:aC->Od)(a:aC):sV b e c a=(o4 b a).bind λl=>(c a).bind λd=>(e a).bind λg=>(vA g d l).map λf=>.nx (rD b f a):=rfl
def GA(b:Pl)(f:aC->Od)(a:aC):gU b f a=(o4 b a).bind λl=>(f a).bind λd=>match l with | .list ds=>if ds.length<sizeLine then Y (.nx (rD b (.list (ds++[d])) a)) else Z|_=>Z:=rfl
def Sy(f:aC->Od)(b:Tg)(a:aC):yr f b a=(f a).bind λd=>(o5 b d a).map .nx:=rfl
def wq(q:aC->Option Lp)(b:Tg)(g:aC->Option Out)(a:aC):jx q b g a=(q a).bind λc=>jl (o5 b) g c a:=rfl
def Mu(f:aC->Od)(a:aC):qD f a=(OO f a).bind λd=>(a[0]?).join.map λb=>.rt (.tuple [d,b]):=rfl
def tR(i:Nat)(c n:Str)(f:aC->Od)(a:aC):jh i c n f a=(a[i]?).join.bind λx=>(f a).bind λd=>match x with | .dict ((.none,.str c')::r)=>if c'=c/\lD c n=false/\r.length<1000 then Y (.nx (a.set i (Y (.dict ((.none,.str c)::ou n d r))))) else Z|_=>Z:=rfl
def Mv(c b:Str)(n:Nat)(F:Lp->Od)(f:aC->Od)(e:aC->Option Lp)(a:aC):nW c b n F f e a=(f a).bind λd=>if oy c b d=true then (e a).bind λg=>if g.length+1=n then F (d::g) else Z else Z:=rfl
def U8(c:Str)(n:Nat)(F:Lp->Option (fZ×fZ))(b:aC->Option Lp)(a:aC):pE c n F b a=(b a).bind λe=>if e.length+1=n then (F (.dict [(.none,.str c)]::e)).bind λr=>match r with|(.none,d)=>Y d|_=>Z else Z:=rfl
def z_(b:aC->Option Str)(a:aC):Z7 b a=(b a).bind λz=>if z.length<=sizeLine then Y (.str z) else Z:=rfl
def A_(f:aC->Od)(b:aC->Option Str)(a:aC):Cj f b a=(f a).bind λd=>(b a).bind λz=>match d with | .str y=>Y (y++z)|_=>Z:=rfl
def B_(f:aC->Od)(a:aC):Xw f a=(f a).bind λd=>match d with | .str x=>if x.length<=sizeLine then Y (.str x) else Z|_=>Z:=rfl
def PZ(O:List Nat)(i n:Nat)(F:Lp->Option (fZ×fZ))(b:aC->Option Lp)(a:aC):vC O i n F b a=(a[i]?).join.bind λd=>(b (iz O a)).bind λc=>if c.length+1=n then (F (d::c)).bind λr=>if my r.1=true then Y (r.1,a.set i (Y r.2)) else Z else Z:=rfl
def U9(h:aC->Option (fZ×aC))(a:aC):Cf h a=(h a).bind λr=>(r.2[0]?).join.map λb=>.rt (.tuple [r.1,b]):=rfl
def C_(h:aC->Option (fZ×aC))(a:aC):hT h a=(h a).bind λr=>match r with|(.bool b,ρ')=>Y (b,ρ')|_=>Z:=rfl
def Va(h:aC->Option (Bool×aC))(a:aC):Ur h a=(h a).map λr=>(!r.1,r.2):=rfl
def D_(f:aC->Od)(a:aC):i9 f a=(f a).bind λd=>match d with | .int j=>if -(2 ^ 62)<=j/\j<2 ^ 62 then Y (kI 0 j.toNat) else Z|_=>Z:=rfl
def E_(f g:aC->Od)(a:aC):rp f g a=(f a).bind λd=>(g a).bind λb=>match d,b with | .int i,.int j=>if (-(2 ^ 62)<=i/\i<2 ^ 62/\-(2 ^ 62)<=j/\j<2 ^ 62) then Y (kI i (j - i).toNat) else Z|_,_=>Z:=rfl
def Vb(f:aC->Od)(a:aC):yy f a=(f a).bind λd=>match d with | .list ds=>Y (pF ds)|_=>Z:=rfl
def X7(b:Pl)(f:aC->Od)(a:aC):Ae b f a=(o4 b a).bind λl=>(f a).bind λd=>match l,d with | .list ds,.list es=>if ds.length+es.length<=sizeLine then Y (.nx (rD b (.list (ds++es)) a)) else Z|_,_=>Z:=rfl
def Y6(h:aC->Option Out):Option Out->Option Out
 |some (.nx ρ)=>h ρ
 |o=>o
def qJ(g h:aC->Option Out)(a:aC):a7 g h a=Y6 h (g a):=by
 unfold a7 Y6;cases g a with
 |none=>rfl
 |some o=>cases o<;>rfl
def wt(h:aC->Option Out)(a:aC):Y6 h (Y (.nx a))=h a:=rfl
def Mw(h:aC->Option Out)(d:fZ):Y6 h (Y (.rt d))=Y (.rt d):=rfl
def I8(c:Option Bool)(g h:aC->Option α)(ρ:aC):Option α:=match c with
 |some true=>g ρ
 |some false=>h ρ
 |none=>none
def X8{α:Type}(g h:aC->Option α)(a:aC):I8 (Y true) g h a=g a:=rfl
def IC{α:Type}(g h:aC->Option α)(ρ:aC):I8 (Y false) g h ρ=h ρ:=rfl
def Vc(c:aC->Option Bool)(g h:aC->Option Out)(ρ:aC):iy c g h ρ=I8 (c ρ) g h ρ:=by unfold iy I8;rcases c ρ with _|_|_<;>rfl
def Mx(f g:aC->Option Bool)(ρ:aC):kP f g ρ=I8 (f ρ) g (λ_=>Y false) ρ:=by unfold kP I8;rcases f ρ with _|_|_<;>rfl
def xU(f g:aC->Option Bool)(ρ:aC):vo f g ρ=I8 (f ρ) (λ_=>Y true) g ρ:=by unfold vo I8;rcases f ρ with _|_|_<;>rfl
def Vd(f g:aC->Od)(ρ:aC):rJ f g ρ=I8 ((f ρ).bind Xz) g (λ_=>Y (.bool false)) ρ:=by
 unfold rJ I8;rcases f ρ with _|d
 .rfl
 .simp only[aL];rcases Xz d with _|_|_<;>rfl
def X9(b:Bool):Xz (.bool b)=Y b:=rfl
def E7:Option Out->Od
 |some (.rt d)=>Y d
 |some (.nx _)=>Y .none
 |_=>Z
def wu(N:Lr)(g:aC->Option Out)(a:Lp):ij N g a=E7 (g (gF N a)):=by
 unfold ij E7;cases g (gF N a) with
 |none=>rfl
 |some o=>cases o<;>rfl
def A8(d:fZ):E7 (Y (.rt d))=Y d:=rfl
def P0(a:aC):E7 (Y (.nx a))=Y .none:=rfl
def Ve:Option Out->Od
 |some (.rt d)=>Y d
 |_=>Z
def Vf(N:Lr)(g:aC->Option Out)(a:Lp):HW N g a=Ve (g (gF N a)):=by
 unfold HW Ve;cases g (gF N a) with
 |none=>rfl
 |some o=>cases o<;>rfl
def P1(d:fZ):Ve (Y (.rt d))=Y d:=rfl
def xV:Option Out->Option (fZ×fZ)
 |some (.rt (.tuple [d,d0]))=>Y (d,d0)
 |some (.nx ρ)=>(ρ[0]?).join.map λd0=>(.none,d0)
 |_=>Z
def oH(N:Lr)(g:aC->Option Out)(e:Lp):nV N g e=xV (g (gF N e)):=by
 unfold nV;cases g (gF N e) with
 |none=>rfl
 |some o=>cases o<;>first|rfl|(rename_i d;cases d<;>first|rfl|(rename_i l;rcases l with _ | ⟨a,_ | ⟨b,_ | ⟨c,l⟩⟩⟩<;>rfl))
def m8(a b:fZ):xV (Y (.rt (.tuple [a,b])))=Y (a,b):=rfl
def P2(a:aC):xV (Y (.nx a))=(a[0]?).join.map λb=>(.none,b):=rfl
def oJ(N:Lr)(a:Lp):gF N a=a.map Y++List.replicate (N.length - a.length) Z:=rfl
def mT(ρ:aC):iz [] ρ=ρ:=rfl
def xW(i:Nat)(O:List Nat)(ρ:aC):iz (i::O) ρ=(iz O ρ).set i Z:=rfl
def Sz(i:Nat)(a:aC):o4 (.sl i) a=(a[i]?).join:=rfl
def SA(i:Nat)(d:fZ)(a:aC):rD (.sl i) d a=a.set i (Y d):=rfl
def sizeLine_eq:sizeLine=16777216:=by decide
def lx{a b:Prop}(x:a)(y:b):a/\b:={(x),y}
def F_:=lx @oV (lx @xj (lx @se (lx @Mr @tQ)))
def G_:=lx @lK (lx @iC (lx @Sw (lx @XZ (lx @u6 @u7))))
def H_:=lx @u9 (lx @Ms (lx @X0 (lx @X3 (lx @sf @Mt))))
def I_:=lx @U5 (lx @U6 (lx @C8 (lx @E5 (lx @E6 @X4))))
def J_:=lx @uw (lx @Sx (lx @X5 (lx @wo (lx @A7 @Gz))))
def K_:=lx @U7 (lx @X6 (lx @GA (lx @Sy (lx @wq @Mu))))
def L_:=lx @Mv (lx @U8 (lx @z_ (lx @A_ @B_)))
def M_:=lx @PZ (lx @U9 (lx @C_ (lx @Va (lx @Vb @X7))))
def N_:=lx @qJ (lx @wt (lx @Mw (lx @X8 (lx @IC @Vc))))
def O_:=lx @Mx (lx @xU (lx @Vd (lx @X9 (lx @wu @A8))))
def Ya:=lx @P0 (lx @Vf (lx @P1 (lx @oH (lx @m8 @P2))))
def Yb:=lx @oJ (lx @mT (lx @xW (lx @Sz (lx @SA @sizeLine_eq))))
local macro_rules
  |`(tactic|simp? only[$a,*])=>do
  let l:=("F_ G_ H_ I_ J_ K_ L_ M_ N_ O_ Ya Yb List.map_cons List.map_nil List.length_cons List.length_nil List.cons_append List.nil_append List.getElem?_cons_zero List.getElem?_cons_succ List.getElem?_nil Option.join_some Option.join_none Option.bind_some Option.bind_none Option.map_some Option.map_none List.set_cons_zero List.set_cons_succ List.replicate_zero List.replicate_succ Nat.reduceAdd Nat.reduceSub Nat.reduceLeDiff Nat.reduceLT Nat.reduceEqDiff Nat.zero_add if_true if_false Bool.not_true Bool.not_false reduceCtorEq and_self and_true true_and Nat.zero_le".splitOn " ").toArray.map λx=>(Lean.mkIdent x.toName:Lean.TSyntax `term)
  `(tactic|simp only[$a,*,↓reduceIte,$[$l:term],*])
def My:zZ "\n"={#[10]}:=by decide +kernel
def pX:zZ " "={#[32]}:=by decide +kernel
def P4:zZ "."={#[46]}:=by decide +kernel
theorem va{c:Nat}:∀(f d i g:List Nat),c∉f->c∉d->f++c::i=d++c::g->f=d/\i=g
 |[],[],_,_,_,_,h=>by simp at h;exact{(rfl),h}
 |[],a::d,_,_,_,h2,h=>by simp at h;exact absurd h.1 (by intro e;subst e;simp at h2)
 |a::f,[],_,_,h1,_,h=>by simp at h;exact absurd h.1 (by intro e;subst e;simp at h1)
 |a::f,b::d,i,g,h1,h2,h=>by simp only[bZ,List.cons.injEq] at h;simp only[ah,not_or] at h1 h2;obtain⟨k,j⟩:=va f d i g h1.2 h2.2 h.2;exact{by rw[h.1,k],j}
def Mz{c:Nat}(a d b:List Nat)(e:c∉a)(h:a=d++c::b):False:=e (by rw[h];simp)
def mj(c:Nat)(a b:Str)(r:Lr):(Str.join {#[c]} (a::b::r)).cps.toList=a.cps.toList++c::(Str.join {#[c]} (b::r)).cps.toList:=by show (a++({#[c]}:Str)++Str.join {#[c]} (b::r)).cps.toList=_;simp[fT]
theorem wx(c:Nat):∀(g f:Lr),g≠[]->f≠[]->(∀p∈g,c∉p.cps.toList)->(∀p∈f,c∉p.cps.toList)->Str.join {#[c]} g=Str.join {#[c]} f->g=f
 |[],_,h,_,_,_,_=>absurd rfl h
 |_::_,[],_,h,_,_,_=>absurd rfl h
 |[a],[b],_,_,_,_,h=>by have:a=b:=h;rw[this]
 |[a],b::j::r,_,_,h1,_,h=>by have e:=bG (λz:Str=>z.cps.toList) h;simp only[mj] at e;exact(Mz _ _ _ (h1 a (by simp)) e).elim
 |a::a2::r,[b],_,_,_,d,h=>by have e:=bG (λz:Str=>z.cps.toList) h;simp only[mj] at e;exact(Mz _ _ _ (d b (by simp)) e.symm).elim
 |a::a2::r,b::j::t,_,_,h1,d,h=>by have e:=bG (λz:Str=>z.cps.toList) h;simp only[mj] at e;obtain⟨n,m⟩:=va _ _ _ _ (h1 a (by simp)) (d b (by simp)) e;have l:a=b:=Str.ext' (dG.mp n);have k:=wx c (a2::r) (j::t) (by simp) (by simp) (λp i=>h1 p (by simp[i])) (λp i=>d p (by simp[i])) (Str.ext' (dG.mp m));rw[l,k]
def MA(x y:Str):Txt.split x y≠[]:=by
 unfold Txt.split;split
 .simp
 .split
  .simp
  .rw[partsBetween_eq];obtain⟨p,r,e⟩:=partsFrom_ne x y.length 0 (occurrences x y 0 x.length (x.length+1));rw[e];simp
def E8(c:Nat)(a:Lr)(d:a≠[])(h:∀p∈a,c∉p.cps.toList):Txt.split (Str.join {#[c]} a) {#[c]}=a :=
 wx c _ _ (MA _ _) d (λp b=>split_free _ c p b) h (join_split _ _)
theorem qK(x:Str)(w:Nat):∀(b:List Nat) (a:Nat),(partsFrom x w a b).length=b.length+1
 |[],_=>rfl
 |c::r,a=>by show (strSub x a c::partsFrom x w (c+w) r).length=_;simp[qK x w r]
abbrev wl(ws:List Str):fZ:=.list (ws.map .str)
def GB(c:Nat)(a:Lr)(b:a≠[])(h:∀p∈a,c∉p.cps.toList)(d:(Str.join {#[c]} a).length<=1000000):
  hV (.str (Str.join {#[c]} a)) [.str {#[c]}]=Y (wl a):=by
 have e:=occ_length_le_len (Str.join {#[c]} a) {#[c]} 0 (Str.join {#[c]} a).length ((Str.join {#[c]} a).length+1);show (if _ then _ else Z)=_;rw[ai {rfl,by rw[sizeLine_eq];omega,by rw[partsBetween_eq,qK,sizeLine_eq];omega},E8 c a b h]
theorem oz:∀a:Lr,nv (a.map .str)=Y a
 |[]=>rfl
 |p::a=>by show (nv (a.map .str)).map (p::·)=_;rw[oz a];rfl
def MB(c:Nat)(a:Lr){B:Nat}(b:∀y∈a,y.length<=B)(h:a.length*B+a.length<=1000000):
  j8 (.str {#[c]}) [wl a]=Y (.str (Str.join {#[c]} a)):=by
 show (nv (a.map .str)).bind (λtexts=>if JoinOk {#[c]} texts=true then Y (fZ.str (Txt.join {#[c]} texts)) else Z)=_;rw[oz];have:JoinOk {#[c]} a=true:=by unfold JoinOk;rw[joinFits b (by show _+a.length*1<=_;omega)];rfl
 show (if JoinOk {#[c]} a=true then Y (fZ.str (glued {#[c]} a)) else Z)=_;rw[ai this,glued_eq_join]
def C9(c:Nat)(a:Lr){B:Nat}(b:∀y∈a,y.length<=B):(Str.join {#[c]} a).length<=a.length*B+a.length:=by have d:=join_length_le {#[c]} a;have e:=sumLen_le a b;have:({#[c]}:Str).length=1:=rfl;rw[this] at d;omega
theorem yU(c k:Nat)(e:k≠c):∀d:Lr,(∀p∈d,k∉p.cps.toList)->k∉(Str.join {#[c]} d).cps.toList
 |[],_=>by simp[Str.join,Str.empty]
 |[a],h=>h a (by simp)
 |a::b::r,h=>by rw[mj];have:=yU c k e (b::r) (λp f=>h p (by simp[f]));have g:=h a (by simp);simp only[ay,ah,not_or];exact{(g),e,this}
def lQ(x:Str):Bool:=decide (1<=x.length)&&decide (x.length<=8)&&x.cps.toList.all λc=>decide (97<=c)&&decide (c<=122)
def k8:lQ x=true↔1<=x.length/\x.length<=8/\∀c∈x.cps.toList,97<=c/\c<=122:=by simp only[lQ,aO,br,aI,and_assoc]
def me(h:lQ x=true){c:Nat}(b:c<97):c∉x.cps.toList:=λa=>by have:=((k8.mp h).2.2 c a).1;omega
def mM(h:lQ x=true):fZ.strOk x=true:=by unfold fZ.strOk;rw[Array.all_eq_true_iff_forall_mem];intro c a;have:=((k8.mp h).2.2 c (by simpa using a)).2;simp;omega
def iX(h:fZ.strOk x=true):SeqAt.shaped (.str x)=true:=by simp[SeqAt.shaped,fZ.canLay0,fZ.depth,h]
def A9(a b:Str):fZ.eqv (.str a) (.str b)=(a==b):=by rw[fZ.eqv]
def ID{a b:Str}(d:fZ.strOk a=true)(c:fZ.strOk b=true):jf (.str a) (.str b)=Y (.bool (a==b)):=by rw[jf,ai {iX d,iX c},A9]
def MC{a b:Str}(d:fZ.strOk a=true)(c:fZ.strOk b=true):qw (.str a) (.str b)=Y (.bool (!(a==b))):=by rw[qw,ai {iX d,iX c},A9]
theorem qY:∀a:Lr,fZ.depthAll (a.map .str)=0
 |[]=>by simp[fZ.depthAll]
 |w::a=>by simp[fZ.depthAll,fZ.depth,qY a]
def qk{a:Lr}(h:∀w∈a,fZ.strOk w=true):SeqAt.shaped (wl a)=true:=by
 have:fZ.canLayAll0 (a.map .str)=true:=by rw[eQ];simpa using h
 simp[SeqAt.shaped,fZ.canLay0,fZ.depth,this,qY]
theorem ux:∀d c:Lr,fZ.eqvAll (d.map .str) (c.map .str)=decide (d=c)
 |[],[]=>by rw[bL,fZ.eqvAll];rfl
 |[],b::c=>by rw[bL,ae,fZ.eqvAll];simp
 |a::d,[]=>by rw[bL,ae,fZ.eqvAll];simp
 |a::d,b::c=>by
  rw[ae,ae,fZ.eqvAll,A9,ux d c];by_cases e:a=b
  .subst e;simp
  .simp[e]
def ME(b a:Lr):fZ.eqv (wl b) (wl a)=decide (b=a):=by rw[fZ.eqv,ux]
def wy{b a:Lr}(d:∀w∈b,fZ.strOk w=true)(c:∀w∈a,fZ.strOk w=true):jf (wl b) (wl a)=Y (.bool (decide (b=a))):=by rw[jf,ai {qk d,qk c},ME]
def Vg{a bs:Lr}(c:∀w∈a,fZ.strOk w=true)(b:∀w∈bs,fZ.strOk w=true):qw (wl a) (wl bs)=Y (.bool (!decide (a=bs))):=by rw[qw,ai {qk c,qk b},ME]
theorem Dc(x:Str):∀a:Lr,(a.map fZ.str).any (λy=>fZ.eqv y (.str x))=decide (x∈a)
 |[]=>by simp
 |y::a=>by
  rw[ae,bX,A9,Dc x a];by_cases e:y=x
  .subst e;simp
  .have b:¬ x=y:=λz=>e z.symm;simp[e,b]
def sg{ys:Lr}(b:fZ.strOk x=true)(a:∀w∈ys,fZ.strOk w=true):kG (.str x) (wl ys)=Y (decide (x∈ys)):=by show (if _ then _ else Z)=_;rw[ai {iX b,by rw[List.all_map,aI];intro w hw;exact iX (a w hw),by simp[fZ.depth]},Dc]
def lt1(c d:Nat):decide (([c]:List Nat)<[d])=decide (c<d):=by rw[lt_cons_cons];simp
def Yc:zZ "a"={#[97]}:=by decide +kernel
def Yd:zZ "z"={#[122]}:=by decide +kernel
def IE{c:Nat}(h:97<=c/\c<=122)(x:fZ):jz [Y x,Y (.str {#[c]})]=Y (.nx [Y x,Y (.str {#[c]})]):=by
 have d:qy (.str {#[97]}) (.str {#[c]})=Y (.bool true):=by show Y (fZ.bool (!decide (([c]:List Nat)<[97])))=_;rw[lt1,aE (by omega)];rfl
 have b:qy (.str {#[c]}) (.str {#[122]})=Y (.bool true):=by show Y (fZ.bool (!decide (([122]:List Nat)<[c])))=_;rw[lt1,aE (by omega)];rfl
 have a:vD qy qy (zA "a") jc (zA "z") [Y x,Y (.str {#[c]})]=Y true:=by simp only[vD,dC,fq,Yc,Yd,bt,bB,cu,aL,d,b];rfl
 simp? only[jz,a]
theorem wz(x:fZ):∀(l:List Nat) (o:Od),(∀c∈l,97<=c/\c<=122)->∃a,jl (o5 (.one 1)) jz (l.map λc=>.str {#[c]}) [Y x,o]=Y (.nx [Y x,a])
 |[],o,_=>{(o),rfl}
 |c::l,o,h=>by obtain⟨a,e⟩:=wz x l (Y (.str {#[c]})) λz b=>h z (by simp[b]);refine{a,?_};rw[ae,jl];show ((jz [Y x,Y (.str {#[c]})])).bind _=_;rw[IE (h c (by simp))];exact e
def Dd:fZ.strOk (zZ "")=true:=by decide +kernel
def P5(h:lQ x=true):n5 [.str x]=Y (.bool true):=by
 obtain⟨i,l,g⟩:=k8.mp h;obtain⟨k,e⟩:=wz (.str x) x.cps.toList Z g;have a:(x==zZ "")=false:=by rw[aF];intro z;subst z;exact absurd i (by decide +kernel)
 have f:md [.str x]=Y (.bool true):=by
  simp? only[md,rT]
  rw[show qO x=x.cps.toList.map λc=>fZ.str {#[c]} from rfl,e]
  simp? only[MC (mM h) Dd,a]
 have b:(x.length:Int)<=8:=by omega
 have d:x.length<=16777216:=by omega
 have j:qy (.int x.length) (.int 8)=Y (.bool true):=by simp[qy,WV,dI,b]
 simp? only[n5,yS,kJ,OC,ai d,f,j]
def gJ(a b:String):jf (.str (zZ a)) (.str (zZ b))=Y (.bool (a==b)):=by rw[ID (a8 a) (a8 b),jm]
def ki(a b:String):qw (.str (zZ a)) (.str (zZ b))=Y (.bool (!(a==b))):=by rw[MC (a8 a) (a8 b),jm]
def pY(l:Lp)(i:Int):gS (.list l) (.int i)=qd l i:=rfl
def Y7(l:Lp)(i:Int):gS (.tuple l) (.int i)=qd l i:=rfl
def xk(a:α)(l:List α):qd (a::l) 0=Y a:=by
 have:(0:Int)<((l.length:Nat):Int)+1:=by omega
 simp[qd,zT,this]
def Ja(a b:α)(l:List α):qd (a::b::l) 1=Y b:=by
 have:(1:Int)<((l.length:Nat):Int)+1+1:=by omega
 simp[qd,zT,this]
def at2(a b c:α)(l:List α):qd (a::b::c::l) 2=Y c:=by
 have:(2:Int)<((l.length:Nat):Int)+1+1+1:=by omega
 simp[qd,zT,this]
def wA(n d:Nat)(v:Int):HT.jZ n d (Y v)=if v<0 then (v+(n:Int)).toNat else min v.toNat n:=rfl
def n7(l:List α)(k:Nat)(a:k<=l.length):mP l (Y (k:Int)) Z=l.drop k:=by unfold mP;rw[wA,aq (by omega)];simp only[HT.jZ];rw[dX,Nat.min_eq_left a,cD];simp
def wB(l:List α)(k:Nat)(a:k<=l.length):mP l Z (Y (k:Int))=l.take k:=by unfold mP;rw[wA,aq (by omega)];simp only[HT.jZ];rw[dX,Nat.min_eq_left a];simp
def xX(a b:α)(l:List α):mP (a::b::l) (Y 2) Z=l:=by have:=n7 (a::b::l) 2 (by simp);simpa using this
def P_(a b c:α)(l:List α):mP (a::b::c::l) (Y 3) Z=l:=by have:=n7 (a::b::c::l) 3 (by simp);simpa using this
def ql(l:Lp):lF [.list l]=Y (.list l):=rfl
def yV(l:Lp)(a b:Option Int):sS (.list l) a b=Y (.list (mP l a b)):=rfl
def nJ(l:Lp):kJ [.list l]=Y (.int l.length):=rfl
theorem si(x:Str)(r:Lr):∀(a:Lr) (n:Nat),x∉a->oA (λy=>fZ.eqv y (.str x)) ((a++x::r).map .str) n=Y (n+a.length)
 |[],n,_=>by rw[bO,ae,oA,A9];simp
 |p::a,n,h=>by
  simp only[ah,not_or] at h;rw[bZ,ae,oA,A9,si x r a (n+1) h.2];have:¬ (p==x)=true:=by simpa using λz:p=x=>h.1 z.symm
  rw[aq this];simp only[ax]
  congr 1;omega
def tS{r:Lr}(b:fZ.strOk x=true)(a:∀w∈ps++x::r,fZ.strOk w=true)(h:x∉ps)(c:(ps++x::r).length<=1000):
  vF (.list ((ps++x::r).map .str)) [.str x]=Y (.int ps.length):=by
 show (if _ then _ else Z)=_;rw[ai {iX b,by rw[List.all_map,aI];intro w hw;exact iX (a w hw),by simp[fZ.depth],by rw[ag,sizeLine_eq];omega},si x r ps 0 h];simp
def ig(x y:fZ):uK x y=(kG x y).map .bool:=rfl
def jA(x y:fZ):lZ x y=(kG x y).map λb=>.bool (!b):=rfl
def kw(a:Lr):Lr:=if a=[] then [] else zZ "keeps"::a
def GC(f:Str)(r:Lr):gL [wl (zZ "func"::f::r)]=Y (.str f):=by
 have b:("func"=="method")=false:=by decide
 have a:("func"=="func")=true:=by decide
 simp? only[gL,pQ,wl,pY,xk,Ja,gJ,b,a]
def GD(k m:Str)(r:Lr)(f:k.length<=8)(e:m.length<=8):gL [wl (zZ "method"::k::m::r)]=Y (.str (k++(zZ "."++m))):=by
 have d:("method"=="method")=true:=by decide
 have c:k.length<=16777216:=by omega
 have b:m.length<=16777216:=by omega
 have a:(k++(zZ "."++m)).length<=16777216:=by rw[dB,dB,show (zZ ".").length=1 by decide +kernel];omega
 simp? only[gL,pQ,jE,nE,wl,pY,xk,Ja,at2,gJ,d,ai c,ai b,ai a,Str.append_empty]
def GF:gL [wl ["main"]]=Y (.str "main"):=by kernel_rfl
def P6(k m:Str)(r:Lr):i5 [wl (zZ "method"::k::m::r)]=Y (wl r):=by
 have a:("method"=="method")=true:=by decide
 simp? only[i5,lP,wl,pY,xk,gJ,a,yV,P_,ql]
def P7(k m:Str)(r:Lr):h9 [wl (zZ "method"::k::m::r)]=Y (wl []):=by
 have a:("method"=="func")=false:=by decide
 simp? only[h9,m5,wl,pY,xk,ki,a]
def MF{a:Lr}(h:∀w∈a,fZ.strOk w=true):∀w∈kw a,fZ.strOk w=true:=by
 intro w hw;unfold kw at hw;split at hw
 .simp at hw
 .rcases ah.mp hw with rfl|hw
  .exact a8 _
  .exact h w hw
def P8(f:Str){a:Lr}(i:∀w∈ps,fZ.strOk w=true)(j:∀w∈a,fZ.strOk w=true)(e:zZ "keeps"∉ps)(l:ps.length+a.length<=900):
  i5 [wl (zZ "func"::f::(ps++kw a))]=Y (wl ps):=by
 have g:("func"=="method")=false:=by decide
 have c:∀w∈ps++kw a,fZ.strOk w=true:=λw hw=>(ay.mp hw).elim (i w) (MF j w);have b:=sg (a8 "keeps") c;by_cases q:a=[]
 .subst q;have d:ps++kw []=ps:=by simp[kw]
  rw[d] at b ⊢;rw[aE e] at b
  simp? only[i5,lP,wl,pY,xk,gJ,g,yV,xX,ql,ig,b]
 .have d:kw a=zZ "keeps"::a:=by simp[kw,q]
  rw[d] at b c ⊢;rw[aW (by simp)] at b;have h:=tS (a8 "keeps") c e (by simp;omega);have k:mP ((ps++zZ "keeps"::a).map fZ.str) Z (Y (ps.length:Int))=ps.map .str:=by rw[wB _ _ (by simp)];simp
  simp? only[i5,lP,wl,pY,xk,gJ,g,yV,xX,ql,ig,b,h,k]
def GG(f:Str){a:Lr}(i:∀w∈ps,fZ.strOk w=true)(j:∀w∈a,fZ.strOk w=true)(e:zZ "keeps"∉ps)(m:ps.length+a.length<=900):
  h9 [wl (zZ "func"::f::(ps++kw a))]=Y (wl a):=by
 have g:("func"=="func")=true:=by decide
 have c:∀w∈ps++kw a,fZ.strOk w=true:=λw hw=>(ay.mp hw).elim (i w) (MF j w);have b:=sg (a8 "keeps") c;by_cases q:a=[]
 .subst q;have d:ps++kw []=ps:=by simp[kw]
  rw[d] at b ⊢;rw[aE e] at b
  simp? only[h9,m5,wl,pY,xk,ki,g,yV,xX,ql,jA,b]
 .have d:kw a=zZ "keeps"::a:=by simp[kw,q]
  rw[d] at b c ⊢;rw[aW (by simp)] at b;have h:=tS (a8 "keeps") c e (by simp;omega);have k:dt (zi ps.length) (.int 1)=Y (zi (ps.length+1:Nat)):=rfl;have l:mP ((ps++zZ "keeps"::a).map fZ.str) (Y ((ps.length+1:Nat):Int)) Z=a.map .str:=by
   rw[n7 _ _ (by simp),<-List.map_drop]
   congr 1
   simp[List.drop_append]
  simp? only[h9,m5,wl,pY,xk,ki,g,yV,xX,ql,jA,b,h,k,l]
theorem yW:∀a:Lr,qQ (a.map .str)=Y (a.map .inr)
 |[]=>rfl
 |w::a=>by show ((rA (.str w)).bind λk=>(qQ (a.map .str)).map (k::·))=_;rw[yW a];rfl
theorem wC{K:Type}[DecidableEq K]:∀(b a:List K),(a++b).Nodup->l5 a b=a++b
 |[],a,_=>by simp[l5]
 |k::b,a,h=>by
  have c:k∉a:=λz=>by rw[aX] at h;exact h.2.2 k z k (by simp) rfl
  show l5 (qP a k) b=_;have e:qP a k=a++[k]:=by simp[qP,c]
  rw[e,wC b (a++[k]) (by simpa using h)];simp
def GH{c:Lr}(h:c.Nodup)(g:c.length<=900):jr [wl c]=Y (.bool true):=by
 have d:(c.map (Sum.inr:Str->Key)).Nodup:=by unfold List.Nodup at h ⊢;exact List.Pairwise.map _ (λa b q z=>q (by injection z)) h
 have f:Ar gG [Y (.list (c.map .str))]=Y (.int c.length):=by show (qQ (c.map .str)).bind _=_;rw[yW];show (if _ then _ else Z)=_;rw[ai (by rw[ag];omega),wC _ _ (by simpa using d)];simp
 have e:jf (zi c.length) (zi c.length)=Y (.bool true):=by rw[jf,ai {by rfl,by rfl},fZ.eqv];simp
 simp? only[jr,vV,wl,f,nJ,ag,e]
def gD(H:List (Str×fZ)):fZ:=.dict (H.map λp=>(.str p.1,p.2))
theorem yX{t:Str}:∀{H:List (Str×fZ)},t∉H.map (·.1)->kQ (.str t) (H.map λp=>(.str p.1,p.2))=Z
 |[],_=>rfl
 |p::H,h=>by simp only[ae,ah,not_or] at h;rw[ae,kQ,aq (by show ¬ (decide (p.1=t))=true;simpa using λz:p.1=t=>h.1 z.symm)];exact yX h.2
theorem yY{t:Str}{d:fZ}:∀{H:List (Str×fZ)},(H.map (·.1)).Nodup->(t,d)∈H->kQ (.str t) (H.map λp=>(.str p.1,p.2))=Y d
 |[],_,h=>by simp at h
 |p::H,nd,h=>by
  rw[ae,bN] at nd;rw[ae,kQ];rcases ah.mp h with e|e
  .subst e;rw[ai (by show (decide (t=t))=true;simp)]
  .have:p.1≠t:=λz=>nd.1 (by rw[z];exact aw.mpr {(t,d),e,rfl});rw[aq (by show ¬ (decide (p.1=t))=true;simpa using this)];exact yY nd.2 e
theorem De{t:Str}:∀{H:List (Str×fZ)},t∉H.map (·.1)->((H.map λp=>((.str p.1:fZ),p.2)).any λx=>lA x.1 (.str t))=false
 |[],_=>rfl
 |p::H,h=>by
  simp only[ae,ah,not_or] at h;rw[ae,bX,De h.2];have:lA (.str p.1) (.str t)=false:=by show decide (p.1=t)=false;simpa using λz:p.1=t=>h.1 z.symm
  rw[this];rfl
def vb(H:List (Str×fZ)):gZ (H.map λp=>((.str p.1:fZ),p.2))=false:=by cases H<;>rfl
def E9{H:List (Str×fZ)}(h:t∉H.map (·.1))(a:H.length<=900):vA (.str t) d (gD H)=Y (gD (H++[(t,d)])):=by show (if _ then _ else Z)=_;rw[ai {by rw[ag,sizeLine_eq];omega,vb H}];show Y (fZ.dict (Cb (.str t) d _))=_;rw[Cb,aq (by rw[De h];simp)];simp[gD]
theorem GI{t:Str}:∀{H:List (Str×fZ)},t∈H.map (·.1)->(kQ (.str t) (H.map λp=>(.str p.1,p.2))).isSome=true
 |[],h=>by simp at h
 |p::H,h=>by
  rw[ae,kQ];by_cases q:p.1=t
  .rw[ai (by show (decide (p.1=t))=true;simpa using q)];rfl
  .rw[aq (by show ¬ (decide (p.1=t))=true;simpa using q)];refine GI ?_;rw[ae] at h;rcases ah.mp h with e|e
   .exact absurd e.symm q
   .exact e
def n8{H:List (Str×fZ)}:kG (.str t) (gD H)=Y (decide (t∈H.map (·.1))):=by
 show (if gZ _=true then Z else _)=_;rw[aq (by rw[vb];simp)];show Y (kQ (.str t) _).isSome=_;by_cases h:t∈H.map (·.1)
 .rw[aW h,GI h]
 .rw[aE h,yX h];rfl
def SD{H:List (Str×fZ)}(a:(H.map (·.1)).Nodup)(h:(t,d)∈H):gS (gD H) (.str t)=Y d:=by show (if gZ _=true then Z else _)=_;rw[aq (by rw[vb];simp)];exact yY a h
def P9(H:List (Str×fZ)):lF [gD H]=Y (wl (H.map (·.1))):=by show (if gZ _=true then Z else _)=_;rw[aq (by rw[vb];simp)];simp[wl,cU]
def qm:oB .none .none=Y (.bool false):=rfl
def sj(t:Str):oB (.str t) .none=Y (.bool true):=rfl
def mU(b:Bool):iA (.bool b)=Y b:=rfl
def hJ(b:Bool):my (.bool b)=true:=rfl
def Vh(b:Str):my (.str b)=true:=rfl
def Vi(b:Int):my (.int b)=true:=rfl
def GJ:my .none=true:=rfl
def Ba(a:Lr):xu (wl a)=true:=by simp[xu,wl,my]
def Qa(l:List α)(a:α):qd (l++[a]) (-1)=Y a:=by
 have c:(1:Int)<=(l.length:Int)+1:=by omega
 have b:(-1+((l.length:Int)+1)).toNat=l.length:=by omega
 simp[qd,zT,c,b]
def iJ{a:BD}{ρ1:aC}(h:(a d ρ).bind g=Y (.nx ρ1)):jl a g (d::ds) ρ=jl a g ds ρ1:=by rw[jl,h];rfl
def b7{A B:aC->Option Out}{a ρ1:aC}{o:Option Out}(c:A a=Y (.nx ρ1))(b:B ρ1=o):a7 A B a=o:=by rw[qJ,c,wt,b]
def iY{c:aC->Option Bool}{A B:aC->Option Out}{o:Option Out}(b:c ρ=Y true)(a:A ρ=o):iy c A B ρ=o:=by rw[Vc,b,X8,a]
def gC{c:aC->Option Bool}{A B:aC->Option Out}{o:Option Out}(b:c ρ=Y false)(a:B ρ=o):iy c A B ρ=o:=by rw[Vc,b,IC,a]
local macro_rules
| `(zF $a) => `(b7 (gC (by kernel_rfl) rfl) $a)
def c9(h:f (iz O ρ)=Y d):bS (gf O f) i ρ=Y (.nx (ρ.set i (Y d))):=by rw[E5,uw,h];rfl
abbrev tl{a b:aC->Option Out}(_:g=a7 a b):aC->Option Out:=b
abbrev el{c:aC->Option Bool}{a b g:aC->Option Out}(_:g=iy c a b):aC->Option Out:=b
abbrev Q_{a b c e r:aC->Option Out}(_:g=a7 a (a7 b (a7 c (a7 e r)))):aC->Option Out:=r
def MG{acc:Lp}{x:fZ}(a:(ρ[i]?).join=Y (.list acc))(b:acc.length<=1000)(h:f ρ=Y x):gU (.sl i) f ρ=Y (.nx (ρ.set i (Y (.list (acc++[x]))))):=by
 rw[GA,Sz,a,h];have z:acc.length<sizeLine:=by rw[sizeLine_eq];omega
 simp only[aL,ai z,SA]
def R_{N:Lr}{A B C E:aC->Option Out}{ρ0 ρ1 ρ2 a:aC}(g:gF N ds=ρ0)(f:A ρ0=Y (.nx ρ1))(e:B ρ1=Y (.nx ρ2))(c:C ρ2=Y (.nx a))(b:E a=Y (.rt d)):ij N (a7 A (a7 B (a7 C E))) ds=Y d:=by rw[wu,g,qJ,f,wt,qJ,e,wt,qJ,c,wt,b,A8]
def sk{a:Tg}{o:Option Out}(h:q (ρ.set i Z)=Y ds)(e:jl (o5 a) g ds ρ=o):jx (xi [i] q) a g ρ=o:=by rw[wq,wo,xW,mT,h];exact e
def Qb{a:Tg}{o:Option Out}(h:q ((ρ.set j Z).set i Z)=Y ds)(e:jl (o5 a) g ds ρ=o):jx (xi [i,j] q) a g ρ=o:=by rw[wq,wo,xW,xW,mT,h];exact e
def m9{T:aC->Option Bool}{C:aC->Od}{a:Lp}(c:q ρ=Y ds)(d:ds.length<=1000)(b:gP T C (mw caps ρ) ds=Y a):i8 q caps T C ρ=Y (.list a):=by rw[Mt,c];simp only[aL];rw[ai (by rw[sizeLine_eq];omega),b];rfl
def MH(a b:Str)(h:a.length+b.length<=1000):dt (.str a) (.str b)=Y (.str (a++b)):=by show (if _ then _ else Z)=_;rw[ai (by rw[sizeLine_eq];omega)]
def DI(i j:Int):jf (.int i) (.int j)=Y (.bool (i==j)):=by rw[jf,ai {by rfl,by rfl},fZ.eqv]
def neI(i j:Int):qw (.int i) (.int j)=Y (.bool (!(i==j))):=by rw[qw,ai {by rfl,by rfl},fZ.eqv]
def mf(k m:Str):Str:=k++(zZ "."++m)
def ln(ws:Lr):Str:=Str.join {#[32]} ws
def GR(ws:Lr):Prop:=ws≠[]/\(∀w∈ws,lQ w=true)/\ws.length<=12
def GR.len{ws:Lr}(h:GR ws):(Str.join {#[32]} ws).length<=108:=by have:=C9 32 ws (B:=8) λw hw=>(k8.mp (h.2.1 w hw)).2.1;have:=h.2.2;omega
def GR.split{ws:Lr}(h:GR ws):hV (.str (Str.join {#[32]} ws)) [.str {#[32]}]=Y (wl ws) :=
 GB 32 ws h.1 (λw hw=>me (h.2.1 w hw) (by decide)) (by have:=h.len;omega)
def GR.ok{a:Lr}(h:GR a):∀w∈a,fZ.strOk w=true:=λw hw=>mM (h.2.1 w hw)
structure Hb (t:Str) (ws:Lr):Prop where
 hd:(∃r,ws=zZ "func"::t::r)\/(∃k m r,ws=zZ "method"::k::m::r/\t=mf k m/\k.length<=8/\m.length<=8)\/(ws=[zZ "main"]/\t=zZ "main")
 tok:fZ.strOk t=true
def Hb.V9{a:Lr}(h:Hb t a):gL [wl a]=Y (.str t):=by
 rcases h.hd with ⟨r,rfl⟩ | ⟨k,m,r,rfl,rfl,c,b⟩ | ⟨rfl,rfl⟩
 .exact GC t r
 .exact GD k m r c b
 .exact GF
theorem Hb.w0{t:Str}{a:Lr}(h:Hb t a):∃(w0:String) (r:Lr),a=zZ w0::r/\(w0="func"\/w0="method"\/w0="main"):=by
 rcases h.hd with ⟨r,rfl⟩ | ⟨k,m,r,rfl,_⟩ | ⟨rfl,_⟩
 .exact{"func",_,rfl,.inl rfl}
 .exact{"method",_,rfl,.inr (.inl rfl)}
 .exact{"main",_,rfl,.inr (.inr rfl)}
inductive Wk:Nat->Str->List Lr->List (Str×Lr)->List (Lr×Str)->Prop
 |nil (b:Str):Wk 0 b [] [] []
 |kind (b:Str) (r:Lr) {rest:List Lr}{hs:List (Str×Lr)}{ns:List (Lr×Str)}:Wk 0 b rest hs ns->Wk 0 b ((zZ "kind"::r)::rest) hs ns
 |head (b:Str) {t:Str}{ws:Lr}{rest:List Lr}{hs:List (Str×Lr)}{ns:List (Lr×Str)}:Hb t ws->Wk 1 t rest hs ns->Wk 0 b (ws::rest) ((t,ws)::hs) ns
 |fin {d:Nat}{b:Str}{rest:List Lr}{hs:List (Str×Lr)}{ns:List (Lr×Str)}:Wk d b rest hs ns->Wk (d+1) b ([zZ "end"]::rest) hs ns
 |Jb {d:Nat}{b:Str}{rest:List Lr}{hs:List (Str×Lr)}{ns:List (Lr×Str)}:Wk (d+1) b rest hs ns->Wk (d+1) b ([zZ "else"]::rest) hs ns
 |row {d:Nat}{b:Str} (w0:String) (r:Lr) (bl:Bool) {rest:List Lr}{hs:List (Str×Lr)}{ns:List (Lr×Str)}:(w0=="end")=false->(w0=="else")=false->(w0=="if"||w0=="while")=bl ->
   Wk (if bl then d+2 else d+1) b rest hs ns->Wk (d+1) b ((zZ w0::r)::rest) hs ((zZ w0::r,b)::ns)
def wD(w0:String):kG (.str (zZ w0)) (.tuple [.str (zZ "if"),.str (zZ "while")])=Y (w0=="if"||w0=="while"):=by
 show (if _ then _ else Z)=_;rw[ai {iX (a8 _),by simp[iX (a8 _)],by simp[fZ.depth]}];simp only[bX,List.any_nil,du,A9,jm]
 congr 1
 rw[dy,dy (b:="while")]
abbrev IF:=Int×(List Str×Str)
def Vj(i:Nat)(x:IF):fZ×fZ:=(.int (i:Int),.tuple [.int x.1,wl x.2.1,.str x.2.2])
def so:Nat->List IF->List (fZ×fZ)
 |_,[]=>[]
 |i,x::r=>Vj i x::so (i+1) r
theorem GK:∀(E:List IF) (i:Nat) (x:IF),so i (E++[x])=so i E++[Vj (i+E.length) x]
 |[],i,x=>rfl
 |y::E,i,x=>by
  rw[bZ,so,so,GK E (i+1) x,bZ,ax]
  congr 4;omega
theorem Bb:∀(E:List IF) (i:Nat),(so i E).length=E.length
 |[],_=>rfl
 |y::E,i=>by rw[so,ax,Bb E,ax]
def Df(E:List IF)(i:Nat):gZ (so i E)=false:=by cases E<;>rfl
theorem GL:∀(E:List IF) (i n:Nat),i+E.length<=n->((so i E).any λx=>lA x.1 (zi n))=false
 |[],_,_,_=>rfl
 |y::E,i,n,h=>by
  rw[ax] at h;rw[so,bX,GL E (i+1) n (by omega)];have:lA (zi i) (zi n)=false:=by show decide ((i:Int)=(n:Int))=false;exact aE (by omega)
  show (lA (zi i) (zi n)||false)=false;rw[this];rfl
def Vk(E:List IF):kJ [.dict (so 0 E)]=Y (zi E.length):=by show (if gZ _=true then Z else Y (fZ.int ((so 0 E).length:Int)))=_;rw[aq (by rw[Df];simp),Bb]
def Vl(E:List IF)(x:IF)(a:E.length<=900):vA (zi E.length) (.tuple [.int x.1,wl x.2.1,.str x.2.2]) (.dict (so 0 E))=Y (.dict (so 0 (E++[x]))):=by show (if _ then _ else Z)=_;rw[ai {by rw[Bb,sizeLine_eq];omega,Df E 0}];show Y (fZ.dict (Cb _ _ _))=_;rw[Cb,aq (by rw[GL E 0 E.length (by omega)];simp),GK,Vj,fY]
def Ye:BF (.int 0) (.int 0)=Y (.bool false):=by kernel_rfl
def S_(d:Nat):BF (zi (d+1:Nat)) (.int 0)=Y (.bool true):=by show Y (fZ.bool (decide ((0:Int)<((d+1:Nat):Int))))=_;rw[aW (by omega)]
def Yf:jf (.int 0) (.int 0)=Y (.bool true):=by kernel_rfl
def T_(d:Nat):jf (zi (d+1:Nat)) (.int 0)=Y (.bool false):=by
 rw[DI]
 congr 2
def yZ(d:Nat):(((d+1:Nat):Int) - 1)=(d:Int):=by omega
def y0(d:Nat):((d:Nat):Int)+1=((d+1:Nat):Int):=by omega
def tU(k:Nat)(a:List Lr):Lp:=((a.map λb=>fZ.str (Str.join {#[32]} b)).zipIdx k).map λx=>.tuple [.int x.2,x.1]
def lX(k:Nat)(b:Lr)(a:List Lr):tU k (b::a)=.tuple [.int (k:Int),.str (Str.join {#[32]} b)]::tU (k+1) a:=by simp[tU,fD]
def jB(a:Str)(r:Lr):gS (wl (a::r)) (.int 0)=Y (.str a):=by simp only[wl,ae,pY,xk]
def hq(s:String)(a:Lr):Bool:=decide (a.head?=Y (zZ s))
def Jc:Nat->Nat->List Lr->List Nat
 |_,_,[]=>[]
 |0,k,ws::rest=>Jc (if hq "kind" ws then 0 else 1) (k+1) rest
 |d+1,k,ws::rest=>if hq "end" ws then Jc d (k+1) rest else if hq "else" ws then Jc (d+1) (k+1) rest else k::Jc (if hq "if" ws||hq "while" ws then d+2 else d+1) (k+1) rest
def Bc(s w:String)(r:Lr):hq s (zZ w::r)=(w==s):=by unfold hq;rw[List.head?_cons,<-jm,Bool.eq_iff_iff];simp
def Qc(x:fZ):∀{d:Nat}{b:Str}{a:List Lr}{D:List (Str×Lr)}{B:List (Lr×Str)},Wk d b a D B->∀(k:Nat) (E:List IF) (bd:fZ) (l r w:Od),(0<d->bd=.str b)->E.length+a.length<=900->(∀f∈a,GR f) ->
  ∃o u s q p,o.map (·.2)=B/\o.map (·.1)=(Jc d k a).map (λ(n:Nat)=>(n:Int))/\jl (o5 (.many [4,5])) ez (tU k a) [Y x,Y (.dict (so 0 E)),Y bd,Y (zi d),l,r,w]=Y (.nx [Y x,Y (.dict (so 0 (E++o))),u,Y (.int 0),s,q,p]):=by
 intro d b a D B h;induction h with
 |nil b=>intro k E bd l r w _ _ _;exact{[],Y bd,l,r,w,rfl,rfl,by rw[aK];rfl}
 |@kind b i j D B J y=>
  intro k E bd l r w F v m;have g:=m _ (bu ..);sleep 1;obtain⟨o,u,s,q,p,A,z,e⟩:=y (k+1) E bd (Y (zi k)) (Y (.str (Str.join {#[32]} (zZ "kind"::i)))) (Y (wl (zZ "kind"::i))) (by omega) (by simp at v ⊢;omega) λf hw=>m f (ao _ hw);sleep 2;refine{o,u,s,q,p,A,by rw[z,Jc,Bc];rfl,?_};rw[lX,iJ ?_,e];show ez [Y x,Y (.dict (so 0 E)),Y bd,Y (.int 0),Y (zi k),Y (.str (Str.join {#[32]} (zZ "kind"::i))),w]=_;have G:("kind"=="end")=false:=by decide
  have N:(!("kind"=="kind"))=false:=by decide
  simp? only[ez,pX,g.split,jB,gJ,ki,G,N,Ye]
  rfl
 |@head b t f j D B O J y=>
  intro k E bd l r w F v m;have g:=m _ (bu ..);sleep 1;obtain⟨o,u,s,q,p,A,z,e⟩:=y (k+1) E (.str t) (Y (zi k)) (Y (.str (Str.join {#[32]} f))) (Y (wl f)) (λ_=>rfl) (by simp at v ⊢;omega) λf hw=>m f (ao _ hw);sleep 2;refine{o,u,s,q,p,A,by
   obtain⟨c,r,M,hw⟩:=O.w0;have C:(c=="kind")=false:=by rcases hw with rfl|rfl|rfl<;>decide
   rw[z,Jc,M,Bc,C];rfl,?_}
  rw[lX,iJ ?_,e];show ez [Y x,Y (.dict (so 0 E)),Y bd,Y (.int 0),Y (zi k),Y (.str (Str.join {#[32]} f)),w]=_;obtain⟨c,r,M,hw⟩:=O.w0;have I:(c=="end")=false:=by rcases hw with rfl|rfl|rfl<;>decide
  have C:(c=="kind")=false:=by rcases hw with rfl|rfl|rfl<;>decide
  have G:gS (wl f) (.int 0)=Y (.str (zZ c)):=by rw[M];exact jB _ _
  simp? only[ez,pX,g.split,G,gJ,ki,I,C,Ye,O.V9]
  rfl
 |@fin d b j D B J y=>
  intro k E bd l r w F v m;have g:=m _ (bu ..);sleep 1;obtain⟨o,u,s,q,p,A,z,e⟩:=y (k+1) E bd (Y (zi k)) (Y (.str (Str.join {#[32]} [zZ "end"]))) (Y (wl [zZ "end"])) (λ_=>F (by omega)) (by simp at v ⊢;omega) λf hw=>m f (ao _ hw);sleep 2;refine{o,u,s,q,p,A,by rw[z,Jc,Bc];rfl,?_};rw[lX,iJ ?_,e];show ez [Y x,Y (.dict (so 0 E)),Y bd,Y (zi (d+1:Nat)),Y (zi k),Y (.str (Str.join {#[32]} [zZ "end"])),w]=_;have G:("end"=="end")=true:=by decide
  simp? only[ez,pX,g.split,jB,gJ,ki,G,yZ]
 |@Jb d b j D B J y=>
  intro k E bd l r w F v m;have g:=m _ (bu ..);sleep 1;obtain⟨o,u,s,q,p,A,z,e⟩:=y (k+1) E bd (Y (zi k)) (Y (.str (Str.join {#[32]} [zZ "else"]))) (Y (wl [zZ "else"])) (λ_=>F (by omega)) (by simp at v ⊢;omega) λf hw=>m f (ao _ hw);sleep 2;refine{o,u,s,q,p,A,by rw[z,Jc,Bc,Bc];rfl,?_};rw[lX,iJ ?_,e];show ez [Y x,Y (.dict (so 0 E)),Y bd,Y (zi (d+1:Nat)),Y (zi k),Y (.str (Str.join {#[32]} [zZ "else"])),w]=_;have G:("else"=="end")=false:=by decide
  have N:(!("else"=="else"))=false:=by decide
  have U:("else"=="if"||"else"=="while")=false:=by decide
  simp? only[ez,pX,g.split,jB,gJ,ki,G,N,S_,ig,wD,U]
 |@row d b c i V j D B I C P J y=>
  intro k E bd l r w F v m;have g:=m _ (bu ..);have L:=F (by omega);subst L;sleep 1;obtain⟨o,u,s,q,p,A,z,e⟩:=y (k+1) (E++[((k:Int),(zZ c::i,b))]) (.str b) (Y (zi k)) (Y (.str (Str.join {#[32]} (zZ c::i)))) (Y (wl (zZ c::i))) (λ_=>rfl) (by simp at v ⊢;omega) λf hw=>m f (ao _ hw);sleep 2;refine{((k:Int),(zZ c::i,b))::o,u,s,q,p,by rw[ae,A],by rw[ae,z,Jc,Bc,Bc,Bc,Bc,I,C,P];rfl,?_};rw[bb,fO] at e;rw[lX,iJ ?_,e];show ez [Y x,Y (.dict (so 0 E)),Y (.str b),Y (zi (d+1:Nat)),Y (zi k),Y (.str (Str.join {#[32]} (zZ c::i))),w]=_;have S:E.length<=900:=by simp at v;omega
  have Q:=Vl E ((k:Int),(zZ c::i,b)) S;have R:=Vk E;have K:=wD c;rw[P] at K;have H:sV (.sl 1) (OO qF) Sh [Y x,Y (.dict (so 0 E)),Y (.str b),Y (zi (d+1:Nat)),Y (zi k),Y (.str (Str.join {#[32]} (zZ c::i))),Y (wl (zZ c::i))] =
    Y (.nx [Y x,Y (.dict (so 0 (E++[((k:Int),(zZ c::i,b))]))),Y (.str b),Y (zi (d+1:Nat)),Y (zi k),Y (.str (Str.join {#[32]} (zZ c::i))),Y (wl (zZ c::i))]):=by
   simp? only[yT,R,Q,Vi]
  have T:(!(c=="else"))=true:=by rw[C];rfl
  cases V with
  |false=>simp? only[ez,pX,g.split,jB,gJ,ki,I,C,S_,H,ig,K,cq]
  |true=>simp? only[ez,pX,g.split,jB,gJ,ki,I,C,S_,H,ig,K,y0]
def hg(hs:List (Str×Lr)):List (Str×fZ):=hs.map λp=>(p.1,wl p.2)
def k9(a:List (Str×Lr)):(hg a).map (·.1)=a.map (·.1):=by simp[hg,cU]
def Qd(m:Od):∀{d:Nat}{b:Str}{a:List Lr}{i:List (Str×Lr)}{n:List (Lr×Str)},Wk d b a i n->∀(H:List (Str×fZ)) (w:Od),(H.map (·.1)++i.map (·.1)).Nodup->H.length+a.length<=900 ->
  ∃f,jl (o5 (.one 3)) fx (a.map wl) [m,Y (gD H),Y (zi d),w]=Y (.nx [m,Y (gD (H++hg i)),Y (.int 0),f]):=by
 intro d b a i n h;induction h with
 |nil b=>intro H w _ _;exact{w,by rw[show hg []=[] from rfl,aK];rfl}
 |@kind b q c i n s k=>
  intro H w g j;obtain⟨f,e⟩:=k H (Y (wl (zZ "kind"::q))) g (by simp at j ⊢;omega);refine{f,?_};rw[ae,iJ ?_,e];show fx [m,Y (gD H),Y (.int 0),Y (wl (zZ "kind"::q))]=_;have o:("kind"=="end")=false:=by decide
  have E:(!("kind"=="kind"))=false:=by decide
  have x:("kind"=="if"||"kind"=="while")=false:=by decide
  simp? only[fx,jB,gJ,ki,o,E,Yf,ig,wD,x]
  rfl
 |@head b t p c i n O s k=>
  intro H w g j;have A:t∉H.map (·.1):=λz=>by rw[aX] at g;exact g.2.2 t z t (by simp) rfl
  obtain⟨f,e⟩:=k (H++[(t,wl p)]) (Y (wl p)) (by simpa using g) (by simp at j ⊢;omega);refine{f,?_};have D:H++hg ((t,p)::i)=H++[(t,wl p)]++hg i:=by simp[hg]
  rw[ae,iJ ?_,e,D];show fx [m,Y (gD H),Y (.int 0),Y (wl p)]=_;obtain⟨l,r,C,hw⟩:=O.w0;have u:(l=="end")=false:=by rcases hw with rfl|rfl|rfl<;>decide
  have y:(l=="kind")=false:=by rcases hw with rfl|rfl|rfl<;>decide
  have o:gS (wl p) (.int 0)=Y (.str (zZ l)):=by rw[C];exact jB _ _
  simp? only[fx,yT,o,gJ,ki,u,y,Yf,O.V9,E9 A (show H.length<=900 by simp at j;omega)]
  rfl
 |@fin d b c i n s k=>
  intro H w g j;obtain⟨f,e⟩:=k H (Y (wl [zZ "end"])) g (by simp at j ⊢;omega);refine{f,?_};rw[ae,iJ ?_,e];show fx [m,Y (gD H),Y (zi (d+1:Nat)),Y (wl [zZ "end"])]=_;have o:("end"=="end")=true:=by decide
  simp? only[fx,jB,gJ,ki,o,yZ]
 |@Jb d b c i n s k=>
  intro H w g j;obtain⟨f,e⟩:=k H (Y (wl [zZ "else"])) g (by simp at j ⊢;omega);refine{f,?_};rw[ae,iJ ?_,e];show fx [m,Y (gD H),Y (zi (d+1:Nat)),Y (wl [zZ "else"])]=_;have o:("else"=="end")=false:=by decide
  have x:("else"=="if"||"else"=="while")=false:=by decide
  simp? only[fx,jB,gJ,ki,o,T_,ig,wD,x]
 |@row d b l q F c i n u y B s k=>
  intro H w g j;obtain⟨f,e⟩:=k H (Y (wl (zZ l::q))) g (by simp at j ⊢;omega);refine{f,?_};rw[ae,iJ ?_,e];show fx [m,Y (gD H),Y (zi (d+1:Nat)),Y (wl (zZ l::q))]=_;have v:=wD l;rw[B] at v;cases F with
  |false=>simp? only[fx,jB,gJ,ki,u,T_,ig,v,cq]
  |true=>simp? only[fx,jB,gJ,ki,u,T_,ig,v,y0]
def Dg(l:Lp)(a d:fZ):vA (.int (-1)) d (.list (l++[a]))=Y (.list (l++[d])):=by
 have c:(1:Int)<=(l.length:Int)+1:=by omega
 have b:(-1+((l.length:Int)+1)).toNat=l.length:=by omega
 show (zT _ (-1)).map _=_;simp[zT,c,b]
def nK(b a:Lr):wl (b++a)=.list (b.map .str++a.map .str):=by simp[wl]
def Bd(B:Lr)(b:Str):gS (wl (B++[b])) (.int (-1))=Y (.str b):=by rw[nK];exact Qa _ _
def Yg(s:String):∀w∈[zZ s],fZ.strOk w=true:=by intro w hw;simp at hw;subst hw;exact a8 _
def kH{a b:String}(h:(a==b)=false):zZ a≠zZ b:=by intro z;have:=jm a b;rw[z] at this;simp at this;rw[this] at h;simp at h
def Vm(b:Bool):Au [.bool b]=Y (.int (if b then 1 else 0)):=rfl
def tx(a:List Lr):Str:=Str.join {#[10]} (a.map ln)
structure Rt (rows:List Lr) (hs:List (Str×Lr)) (ns:List (Lr×Str)):Prop where
 wk:Wk 0 {#[]} rows hs ns
 gr:∀ws∈rows,GR ws
 nd:(hs.map (·.1)).Nodup
 tok:∀w∈hs.map (·.1),fZ.strOk w=true
 len:rows.length<=800
 ne:rows≠[]
def Pr(a:List (fZ×fZ)):fZ:=.dict ((.none,.str "Program")::a)
def MI(a:fZ)(x:Str):Prop:=j6 ["Program"] "text" a=Y (.str x)/\oy "Program" "shown" a=true
def Dh{a:fZ}(h:MI a x):jy [a]=Y (.str x):=by
 simp? only[jy,oQ,h.1]
structure y1 (ws:Lr):Prop where
 line:10∉(ln ws).cps.toList
 len:(ln ws).length<=108
 split:hV (.str (ln ws)) [.str {#[32]}]=Y (wl ws)
def GR.line{a:Lr}(h:GR a):10∉(ln a).cps.toList:=yU 32 10 (by decide) a λw hw=>me (h.2.1 w hw) (by decide)
def GR.xm{a:Lr}(h:GR a):y1 a:={h.line,h.len,h.split}
theorem pZ(T:aC->Option Bool)(C:aC->Od)(b:T=λ_=>Y true)(c:C=qj hV gG (zC (zZ " ") gm)):∀{a:List Lr},(∀ws∈a,y1 ws)->gP T C [] ((a.map ln).map .str)=Y (a.map wl)
 |[],_=>rfl
 |ws::a,h=>by
  have d:=pZ T C b c λx (f:x∈a)=>h x (by simp[f]);have g:=h ws (by simp);have e:C [Y (.str (ln ws))]=Y (wl ws):=by
   rw[c]
   simp? only[pX]
   exact g.split
  have i:T [Y (.str (ln ws))]=Y true:=by rw[b]
  rw[ae,ae,gP,i]
  simp? only[e,d]
def GN{a:List Lr}(h:∀ws∈a,y1 ws):∀y∈a.map ln,y.length<=108:=by intro y b;obtain⟨ws,hw,rfl⟩:=aw.mp b;exact(h ws hw).len
def y2{a:List Lr}(h:∀ws∈a,y1 ws)(d:a.length<=800)(b:a≠[]):hV (.str (tx a)) [.str (zZ "\n")]=Y (wl (a.map ln)):=by
 rw[My];refine GB 10 (a.map ln) (by simpa using b) (λp c=>?_) ?_
 .obtain⟨ws,hw,rfl⟩:=aw.mp c;exact(h ws hw).line
 .have:=C9 10 (a.map ln) (GN h);rw[ag] at this;omega
def Di{a:List Lr}(h:∀ws∈a,y1 ws)(b:a.length<=800):j8 (.str (zZ "\n")) [wl (a.map ln)]=Y (.str (tx a)):=by rw[My];exact MB 10 (a.map ln) (GN h) (by rw[ag];omega)
def Fb(T:aC->Option Bool)(C:aC->Od)(b:T=λ_=>Y true)(c:C=qj hV gG (zC (zZ " ") gm)){a:List Lr}(h:∀ws∈a,GR ws):gP T C [] ((a.map ln).map .str)=Y (a.map wl):=pZ T C b c λws hw=>(h ws hw).xm
def Dj{a:List Lr}(h:∀ws∈a,GR ws)(c:a.length<=800)(b:a≠[]):hV (.str (tx a)) [.str (zZ "\n")]=Y (wl (a.map ln)):=y2 (λws hw=>(h ws hw).xm) c b
def Qe{a:List Lr}(h:∀ws∈a,GR ws)(b:a.length<=800):j8 (.str (zZ "\n")) [wl (a.map ln)]=Y (.str (tx a)):=Di (λws hw=>(h ws hw).xm) b
section
variable {rows:List Lr}{hs:List (Str×Lr)}{ns:List (Lr×Str)}
def Qf(H:Rt rows hs ns){a:fZ}(b:MI a (tx rows)):ku [a]=Y (.list (rows.map wl)):=by
 have f:=H.len;have e:=Dj H.gr H.len H.ne;have d:=Fb ba jq rfl rfl H.gr;have c:((rows.map ln).map fZ.str).length<=16777216:=by simp;omega
 simp? only[ku,oS,b.2,Dh b,e,ai c,mw,d]
def MJ(H:Rt rows hs ns){pr:fZ}(c:MI pr (tx rows)):ma [pr]=Y (gD (hg hs)):=by
 have d:=Qf H c;have f:=H.len;obtain⟨e,a⟩:=Qd (Y pr) H.wk [] Z (by simpa using H.nd) (by simp;omega);have b:fZ.dict []=gD []:=rfl;rw[bO] at a
 simp? only[ma,rS,d,b]
 rw[show fZ.int 0=.int ((0:Nat):Int) from rfl,a]
 simp? only[xj]
def prog(a:List Lr)(hs:List (Str×Lr))(E:List IF):fZ:=Pr [(.str "text",.str (tx a)),(.str "numbered",.dict (so 0 E)),(.str "body_texts",wl (hs.map (·.1)))]
def Dk(H:Rt rows hs ns):∃E,(E.map (·.2)=ns/\E.map (·.1)=(Jc 0 0 rows).map λ(n:Nat)=>(n:Int))/\kr [.str (tx rows)]=Y (.dict (so 0 E)):=by
 have h:=H.len;have c:=Dj H.gr H.len H.ne;sleep 1;obtain⟨E,i,g,f,d,b,a,e⟩:=Qc (.str (tx rows)) H.wk 0 [] .none Z Z Z (by omega) (by simp;omega) H.gr;sleep 2;refine{E,{(b),a},?_};have q:pF ((rows.map ln).map fZ.str)=tU 0 rows:=by unfold pF tU;rw[dF];rfl
 rw[bO,show so 0 []=[] from rfl,show fZ.int ((0:Nat):Int)=.int 0 from rfl] at e
 simp? only[kr,oR,c,q,e]
def Qg{x:fZ}(h:f [Y (Pr []),Y x]=Y d):jh 0 "Program" "text" f [Y (Pr []),Y x]=Y (.nx [Y (Pr [(.str "text",d)]),Y x]):=by rw[tR,h];kernel_rfl
def Qh{a x:fZ}(h:f [Y (Pr [(.str "text",a)]),Y x]=Y d):jh 0 "Program" "numbered" f [Y (Pr [(.str "text",a)]),Y x]=Y (.nx [Y (Pr [(.str "text",a),(.str "numbered",d)]),Y x]):=by rw[tR,h];kernel_rfl
def Qi{a b x:fZ}(h:f [Y (Pr [(.str "text",a),(.str "numbered",b)]),Y x]=Y d):jh 0 "Program" "body_texts" f [Y (Pr [(.str "text",a),(.str "numbered",b)]),Y x]=Y (.nx [Y (Pr [(.str "text",a),(.str "numbered",b),(.str "body_texts",d)]),Y x]):=by rw[tR,h];kernel_rfl
def Qj(H:Rt rows hs ns):∃E,(E.map (·.2)=ns/\E.map (·.1)=(Jc 0 0 rows).map λ(n:Nat)=>(n:Int))/\hZ [Pr [],.str (tx rows)]=Y (.none,prog rows hs E):=by
 obtain⟨E,d,f⟩:=Dk H;refine{E,d,?_};have e:=MJ H (pr:=Pr [(.str "text",.str (tx rows)),(.str "numbered",.dict (so 0 E))]) {by kernel_rfl,by kernel_rfl};have c:(gf [0] jc) [Y (Pr []),Y (.str (tx rows))]=Y (.str (tx rows)):=rfl;have b:L6 [Y (Pr [(.str "text",.str (tx rows))]),Y (.str (tx rows))]=Y (.dict (so 0 E)):=by
  simp? only[f]
 have a:L5 [Y (Pr [(.str "text",.str (tx rows)),(.str "numbered",.dict (so 0 E))]),Y (.str (tx rows))]=Y (wl (hs.map (·.1))):=by
  simp? only[e,P9,k9,Ba]
 simp? only[hZ,pR,oH,oJ,qJ,Qg c,Qh b,Qi a]
 rfl
def Qk(E:List IF):MI (prog rows hs E) (tx rows):={by kernel_rfl,by kernel_rfl}
end
def Ql(l:List α)(k:Nat):qd l (k:Int)=l[k]?:=by
 unfold qd zT;by_cases h:k<l.length
 .simp[h]
 .simp[h]
def Rm(h:n<=1000):(-(2 ^ 62)<=(n:Int)/\(n:Int)<2 ^ 62):=by
 have e:(2:Int) ^ 62=4611686018427387904:=by decide
 rw[e];omega
def U_{j:Int}(h:f ρ=Y (.int j))(a:-(2 ^ 62)<=j/\j<2 ^ 62):i9 f ρ=Y (kI 0 j.toNat):=by rw[D_,h];simp only[aL];rw[ai a]
def Fc(n:Nat):kI 0 n=(List.range' 0 n).map λ(i:Nat)=>fZ.int (i:Int):=by unfold kI;rw[List.range_eq_range'];refine eX λa _=>?_;rw[Int.zero_add]
def wF(b:n<=1000)(a:aC)(f:aC->Od)(h:f a=Y (zi n)):i9 f a=Y ((List.range' 0 n).map λ(i:Nat)=>fZ.int (i:Int)):=by rw[U_ h (Rm b),dX,Fc]
section
variable {rows:List Lr}{hs:List (Str×Lr)}{ns:List (Lr×Str)}
def qo{a b:Str}(d:fZ.strOk a=true)(c:fZ.strOk b=true):fZ.strOk (a++b)=true:=by unfold fZ.strOk at *;rw[fT,Array.all_append,d,c];rfl
theorem mO{c:Str}(e:fZ.strOk c=true):∀{d:Lr},(∀w∈d,fZ.strOk w=true)->fZ.strOk (Str.join c d)=true
 |[],_=>Dd
 |[a],h=>h a (by simp)
 |a::b::r,h=>qo (qo (h a (by simp)) e) (mO e λw hw=>h w (by simp[hw]))
def Yh(h:∀ws∈rows,GR ws):fZ.strOk (tx rows)=true:=by refine mO (by decide +kernel) λy a=>?_;obtain⟨ws,hw,rfl⟩:=aw.mp a;exact mO (by decide +kernel) (h ws hw).ok
end
section
structure KR where
 nm:Str
 el:Option Str
 own:Lr
def MK:Option Str->Lr
 |none=>[]
 |some j=>[zZ "of",j]
def Dl:Lr->Lr
 |[]=>[]
 |a::l=>zZ "fields"::a::l
def f7(r:KR):Lr:=zZ "kind"::r.nm::(MK r.el++Dl r.own)
def V_(a:α)(l:List α):mP (a::l) (Y 1) Z=l:=by have:=n7 (a::l) 1 (by simp);simpa using this
def Be:iA (.list [])=Y false:=rfl
def Dm(a:fZ)(l:Lp):iA (.list (a::l))=Y true:=rfl
def Rg(c a b bl la:fZ)(ov:Bool):fZ:=.dict [(.none,.str "Reading"),(.str "fields",c),(.str "heads",a),(.str "body",b),(.str "blocks",bl),(.str "over",.bool ov),(.str "later",la)]
abbrev R0:fZ:=Rg (gD []) (gD []) .none (.list []) (.list []) false
variable {la:fZ}
def lg(d c b e:fZ)(a:Bool):j6 ["Reading"] "over" (Rg d c b e la a)=Y (.bool a):=by kernel_rfl
def lR(d c b e:fZ)(a:Bool):j6 ["Reading"] "body" (Rg d c b e la a)=Y b:=by kernel_rfl
def lh(d a b e:fZ)(c:Bool):j6 ["Reading"] "heads" (Rg d a b e la c)=Y a:=by kernel_rfl
def iR(a d b e:fZ)(c:Bool):j6 ["Reading"] "fields" (Rg a d b e la c)=Y a:=by kernel_rfl
def n9(e d b a:fZ)(c:Bool):j6 ["Reading"] "blocks" (Rg e d b a la c)=Y a:=by kernel_rfl
def ML(d c b e:fZ)(a:Bool):j6 ["Reading"] "later" (Rg d c b e la a)=Y la:=by kernel_rfl
def Fd{c a b:fZ}{x y:Od}(h:f [Y (Rg c a b bl la ov),x,y]=Y d):
  jh 0 "Reading" "body" f [Y (Rg c a b bl la ov),x,y]=Y (.nx [Y (Rg c a d bl la ov),x,y]):=by
 rw[tR,h];kernel_rfl
def Dn{f c:aC->Od}{a b:fZ}{H:List (Str×fZ)}{x y:Od}(j:f [Y (Rg a (gD H) b bl la ov),x,y]=Y (.str t))(i:c [Y (Rg a (gD H) b bl la ov),x,y]=Y d)(g:t∉H.map (·.1))(h:H.length<=900):
  sV (.fl 0 "Reading" "heads") f c [Y (Rg a (gD H) b bl la ov),x,y]=Y (.nx [Y (Rg a (gD (H++[(t,d)])) b bl la ov),x,y]):=by
 have e:o4 (.fl 0 "Reading" "heads") [Y (Rg a (gD H) b bl la ov),x,y]=Y (gD H):=by kernel_rfl
 rw[yT,e,j,i];simp only[aL,E9 g h,cm]
 kernel_rfl
theorem Bf{f c:aC->Od}{a b:fZ}{x y z:Od}(j:f [Y (Rg (gD F) a b bl la ov),x,y,z]=Y (.str t))(i:c [Y (Rg (gD F) a b bl la ov),x,y,z]=Y d)(g:t∉F.map (·.1))(h:F.length<=900):
  sV (.fl 0 "Reading" "fields") f c [Y (Rg (gD F) a b bl la ov),x,y,z]=Y (.nx [Y (Rg (gD (F++[(t,d)])) a b bl la ov),x,y,z]):=by
 have e:o4 (.fl 0 "Reading" "fields") [Y (Rg (gD F) a b bl la ov),x,y,z]=Y (gD F):=by kernel_rfl
 rw[yT,e,j,i];simp only[aL,E9 g h,cm]
 kernel_rfl
structure IG (F:fZ) (t:Str) (ws:Lr):Prop where
 nm:∀w∈ws,lQ w=true
 hd:∃w0 r,ws=zZ w0::r/\(w0="func"\/w0="method"\/w0="main")
 len:ws.length<=12
 V9:gL [wl ws]=Y (.str t)
 ish:∀hs b bl la ov,hG [Rg F hs b bl la ov,wl ws]=Y (.bool true)
 tok:fZ.strOk t=true
def GO{F:fZ}{a:Lr}(O:IG F t a){H:List (Str×fZ)}(c:t∉H.map (·.1))(e:H.length<=900)(i:Int):
  b8 [Rg F (gD H) .none (.list []) la false,.int i,wl a]=Y (.bool true,Rg F (gD (H++[(t,wl a)])) (.str t) (.list []) la false):=by
 obtain⟨b,r,g,hw⟩:=O.hd;have f:(b=="kind")=false:=by rcases hw with rfl|rfl|rfl<;>decide
 have m:gS (wl a) (.int 0)=Y (.str (zZ b)):=by rw[g];simp only[wl,ae,pY,xk]
 have l:=O.ish (gD H) .none (.list []) la false;have d:=n8 (t:=t) (H:=H);rw[aE c] at d;have k:Mj [Y (Rg F (gD H) .none (.list []) la false),Y (.int i),Y (wl a)]=Y (.str t):=by
  simp? only[O.V9]
 have j:Mi [Y (Rg F (gD H) (.str t) (.list []) la false),Y (.int i),Y (wl a)]=Y (.str t):=by
  simp? only[lR,Vh]
 have h:(gf [0] iO) [Y (Rg F (gD H) (.str t) (.list []) la false),Y (.int i),Y (wl a)]=Y (wl a):=by
  simp? only[xj]
 simp? only[b8,iG,lg,lR,lh,mU,qm,m,gJ,f,l,O.V9,ig,d,Fd k,Dn j h c e,hJ]
def Vn{i j:Int}(h:¬ i<j):t7 (.int i) (.int j)=Y (.bool false):=by simp[t7,dI,h]
def qZ:iA (gD [])=Y false:=by kernel_rfl
def SE(j:Nat)(g:aC->Option Out)(a:aC):K5 j g a=(g a).map (K4 j):=rfl
def Qm(b:Lr):mP ((Dl b).map fZ.str) (Y 1) Z=b.map .str:=by
 cases b with
 |nil=>rfl
 |cons a l=>rw[Dl,ae,V_]
def Vo{a b c d:Od}{x:fZ}(h:f [Z,b,c,Z]=Y x):bS (gf [0,3] f) 2 [a,b,c,d]=Y (.nx [a,b,Y x,d]):=by rw[E5,uw,xW,xW,mT];show (f [Z,b,c,Z]).map _=_;rw[h];rfl
theorem MM{r:KR}{a:fZ}(d:r.nm∉F.map (·.1))(e:iA a=Y false){b:fZ}:
  (vo (uN CN) (vo (fB (d2 t7 qF kh)) (fB Sn))) [Y (Rg (gD F) a b bl la ov),Y (wl (f7 r)),Z,Z]=Y false:=by
 have h:gS (wl (f7 r)) (.int 1)=Y (.str (r.nm)):=by simp only[f7,wl,ae,pY,Ja]
 have g:kJ [wl (f7 r)]=Y (.int (((f7 r).map fZ.str).length:Int)):=nJ _;have f:t7 (.int (((f7 r).map fZ.str).length:Int)) (.int 2)=Y (.bool false):=Vn (by simp[f7];omega);have c:=n8 (t:=r.nm) (H:=F);rw[aE d] at c
 simp? only[lh,e,g,f,h,iR,ig,c]
def Wa(F:List (Str×fZ))(a:Option Str)(inh:Lr):Prop:=match a with
 |none=>inh=[]
 |some j=>(j,wl inh)∈F
abbrev Yi:=iy (kP (uN i0) (fB (d2 jf (zX i0 pJ) (zA "of")))) (a7 (iy (vo (fB (d2 t7 AB qR)) (fB (d2 lZ (zX i0 kW) AL))) (qD AK) gd) (a7 (j7 (NO (j5 lF (zQ (zX AL (zX i0 kW))))) 3) (bS (gf [0,3] (gq i0 AJ gO)) 2))) gd
theorem SF{j:Str}{a c:Lr}(i:(F.map (·.1)).Nodup)(d:(j,wl c)∈F){e b w:fZ}:
  Yi [Y (Rg (gD F) e b bl la ov),Y w,Y (wl (zZ "of"::j::a)),Y (wl [])]=Y (.nx [Y (Rg (gD F) e b bl la ov),Y w,Y (wl a),Y (wl c)]):=by
 have h:("of"=="of")=true:=by decide
 have q:gS (wl (zZ "of"::j::a)) (.int 0)=Y (.str (zZ "of")):=by simp only[wl,ae,pY,xk]
 have g:gS (wl (zZ "of"::j::a)) (.int 1)=Y (.str (j)):=by simp only[wl,ae,pY,Ja]
 have p:sS (wl (zZ "of"::j::a)) (Y 2) Z=Y (wl a):=by simp only[wl,ae,yV,xX]
 have o:iA (wl (zZ "of"::j::a))=Y true:=rfl;obtain⟨n,r,m⟩:∃n:Nat,2<=n/\kJ [wl (zZ "of"::j::a)]=Y (zi n):={_,by simp,nJ _}
 have l:t7 (zi n) (.int 2)=Y (.bool false):=Vn (by omega);have f:=n8 (t:=j) (H:=F);rw[aW (aw.mpr {_,d,rfl})] at f;have k:=SD i d;refine iY ?_ (b7 (ρ1:=[Y (Rg (gD F) e b bl la ov),Y w,Y (wl (zZ "of"::j::a)),Y (wl [])]) (gC ?_ rfl) (b7 (ρ1:=[Y (Rg (gD F) e b bl la ov),Y w,Y (wl (zZ "of"::j::a)),Y (wl c)]) ?_ (Vo ?_)))
 .simp? only[o,q,gJ,h]
 .simp? only[m,l,g,iR,jA,f]
 .simp? only[iR,g,k,ql,Ba]
 .simp? only[p]
theorem MN{f:Option Str}{c d:Lr}(k:(F.map (·.1)).Nodup)(h:Wa F f d){g b w:fZ}:
  Yi [Y (Rg (gD F) g b bl la ov),Y w,Y (wl (MK f++Dl c)),Y (wl [])]=Y (.nx [Y (Rg (gD F) g b bl la ov),Y w,Y (wl (Dl c)),Y (wl d)]):=by
 cases f with
 |none=>
  have e:d=[]:=h;subst e;refine gC ?_ ?_
  .cases c with
   |nil=>simp? only[MK,Dl,wl,Be]
   |cons a l=>
    have i:("fields"=="of")=false:=by decide
    simp? only[MK,Dl,wl,Dm,pY,xk,gJ,i]
  .rfl
 |some j=>exact SF k h
theorem MO{r:KR}{v:Bool}{b:Lr}{c:fZ}(j:(F.map (·.1)).Nodup)(e:r.nm∉F.map (·.1))(p:iA c=Y false)(m:Wa F r.el b)(i:jr [wl (b++r.own)]=Y (.bool v))(k:F.length<=900)(w:b.length+r.own.length<=900):
  gY [Rg (gD F) c .none (.list []) la false,wl (f7 r)]=Y (.bool v,Rg (gD (F++[(r.nm,wl (b++r.own))])) c .none (.list []) la false):=by
 have z:(b.map fZ.str).length+(r.own.map fZ.str).length<=16777216:=by simp;omega
 have u:gS (wl (f7 r)) (.int 1)=Y (.str (r.nm)):=by simp only[f7,wl,ae,pY,Ja]
 have s:sS (wl (f7 r)) (Y 2) Z=Y (wl (MK r.el++Dl r.own)):=by simp only[f7,wl,ae,yV,xX]
 have g:iB [Y (Rg (gD F) c .none (.list []) la false),Y (wl (f7 r)),Z,Z]=Y (.rt (.tuple [.bool v,Rg (gD (F++[(r.nm,wl (b++r.own))])) c .none (.list []) la false])):=by
  refine b7 (gC (MM e p) rfl) (b7 (Vo (x:=wl (MK r.el++Dl r.own)) ?_) (b7 (ρ1:=[Y (Rg (gD F) c .none (.list []) la false),Y (wl (f7 r)),Y (wl (MK r.el++Dl r.own)),Y (wl [])]) ?_ (b7 (MN j m) (b7 (ρ1:=[Y (Rg (gD F) c .none (.list []) la false),Y (wl (f7 r)),Y (wl (Dl r.own)),Y (wl b)]) (gC ?_ rfl) (b7 (ρ1:=[Y (Rg (gD F) c .none (.list []) la false),Y (wl (f7 r)),Y (wl (Dl r.own)),Y (wl (b++r.own))]) ?_ ?_)))))
  .simp? only[s]
  .simp? only[xj];rfl
  .have n:r.own=[]\/∃a l,r.own=a::l:=by cases r.own<;>simp
   rcases n with q | ⟨a,l,q⟩
   .rw[q];simp? only[Dl,wl,Be]
   .have h:(!("fields"=="fields"))=false:=by decide
    have f:t7 (zi ((l.map fZ.str).length+1+1:Nat)) (.int 2)=Y (.bool false):=Vn (by omega);rw[q];simp? only[Dl,wl,Dm,pY,xk,ki,h,nJ,f]
  .simp? only[wl,Qm,ai z,aD]
  .rw[SE,b7 (Bf (t:=r.nm) (d:=wl (b++r.own)) ?_ ?_ e k) (o:=Y (.rt (.tuple [.bool v,Rg (gD (F++[(r.nm,wl (b++r.own))])) c .none (.list []) la false]))) ?_]
   .rfl
   .simp? only[u]
   .simp? only[xj]
   .simp? only[i,hJ]
 rw[gY,oH];show xV (iB [Y (Rg (gD F) c .none (.list []) la false),Y (wl (f7 r)),Z,Z])=_;rw[g,m8]
theorem sr{r:KR}{v:Bool}{inh:Lr}{hs:fZ}(c:(F.map (·.1)).Nodup)(d:r.nm∉F.map (·.1))(h:iA hs=Y false)(f:Wa F r.el inh)(b:jr [wl (inh++r.own)]=Y (.bool v))(e:F.length<=900)(g:inh.length+r.own.length<=900)(i:Int):
  b8 [Rg (gD F) hs .none (.list []) la false,.int i,wl (f7 r)]=Y (.bool v,Rg (gD (F++[(r.nm,wl (inh++r.own))])) hs .none (.list []) la false):=by
 have a:("kind"=="kind")=true:=by decide
 have k:gS (wl (f7 r)) (.int 0)=Y (.str (zZ "kind")):=by simp only[f7,wl,ae,pY,xk]
 have j:=MO (la:=la) c d h f b e g
 simp? only[b8,iG,lg,lR,mU,qm,k,gJ,a,j,hJ]
theorem GP{r:KR}{inh:Lr}{hs:fZ}(b:(F.map (·.1)).Nodup)(d:r.nm∉F.map (·.1))(g:iA hs=Y false)(f:Wa F r.el inh)(c:(inh++r.own).Nodup)(e:F.length<=900)(a:inh.length+r.own.length<=900)(i:Int):
  b8 [Rg (gD F) hs .none (.list []) la false,.int i,wl (f7 r)]=Y (.bool true,Rg (gD (F++[(r.nm,wl (inh++r.own))])) hs .none (.list []) la false):=sr b d g f (GH c (by simpa using a)) e a i
def GQ(h:aC->Option (fZ×aC))(a:aC):Ek h a=(h a).map λr=>.nx r.2:=rfl
def MP{c a b:fZ}{d:Bool}(h:f [Y (Rg c a b bl la ov)]=Y (.bool d)):
  jh 0 "Reading" "over" f [Y (Rg c a b bl la ov)]=Y (.nx [Y (Rg c a b bl la d)]):=by
 rw[tR,h];kernel_rfl
def MQ{c a b:fZ}(h:f [Y (Rg c a b bl la ov)]=Y d):
  jh 0 "Reading" "body" f [Y (Rg c a b bl la ov)]=Y (.nx [Y (Rg c a d bl la ov)]):=by
 rw[tR,h];kernel_rfl
def MR(b:fZ.strOk t=true)(F a:fZ):
  jF [Rg F a (.str t) (.list []) la false]=Y (.none,Rg F a .none (.list []) la (t==zZ "main")):=by
 have d:Sj [Y (Rg F a (.str t) (.list []) la false)]=Y (.bool (t==zZ "main")):=by
  simp? only[lR,ID b (a8 _),hJ]
 have c:(gf [0] vP) [Y (Rg F a (.str t) (.list []) la (t==zZ "main"))]=Y .none:=rfl
 simp? only[jF,lO,n9,Be,MP d,MQ c]
def Qn:jf (.list [.str "end"]) (.list [.str "end"])=Y (.bool true):=by kernel_rfl
def Vp(b:fZ.strOk t=true)(F a:fZ)(i:Int):
  b8 [Rg F a (.str t) (.list []) la false,.int i,wl ["end"]]=Y (.bool true,Rg F a .none (.list []) la (t==zZ "main")):=by
 have c:eT [Rg F a (.str t) (.list []) la false,.int i,.list [.str "end"]]=Y (.bool true,Rg F a .none (.list []) la (t==zZ "main")):=by
  simp? only[eT,gX,Qn,GQ,MR b,GJ,hJ]
 simp? only[b8,iG,wl,lg,lR,mU,sj,c,hJ]
theorem qp(T:aC->Option Bool)(C:aC->Od)(b:T=λ_=>Y true)(c:C=jL 1 n5 lC):∀(a:Lr),(∀w∈a,lQ w=true)->gP T C [] (a.map .str)=Y (a.map λ_=>.bool true)
 |[],_=>rfl
 |w::a,h=>by
  have d:=qp T C b c a λz f=>h z (by simp[f]);have e:C [Y (.str w)]=Y (.bool true):=by rw[c];simp? only[P5 (h w (by simp))]
  have g:T [Y (.str w)]=Y true:=by rw[b]
  rw[ae,gP,g]
  simp? only[e,d]
theorem wG{α:Type}:∀a:List α,mY (a.map λ_=>fZ.bool true)=Y (a.map λ_=>true)
 |[]=>rfl
 |w::a=>by show (mY (a.map λ_=>fZ.bool true)).map (true::·)=_;rw[wG a];rfl
def wH(a:List α):Et [.list (a.map λ_=>fZ.bool true)]=Y (.bool true):=by show (mY (a.map λ_=>fZ.bool true)).map _=_;rw[wG];simp
def Reads:Nat->fZ->List Lr->fZ->Prop
 |_,R,[],R'=>R=R'
 |n,R,ws::r,R'=>∃a,(∀w∈ws,lQ w=true)/\b8 [R,.int (n:Int),wl ws]=Y (.bool true,a)/\Reads (n+1) a r R'
def Vq:∀w∈[zZ "end"],lQ w=true:=by intro w hw;simp at hw;subst hw;decide +kernel
def Bg:∀w∈[zZ "else"],lQ w=true:=by intro w hw;simp at hw;subst hw;decide +kernel
def Y8(c:Option (Bool×aC))(g h:aC->Option Out):Option Out:=match c with
 |some (true,a)=>g a
 |some (false,a)=>h a
 |none=>Z
def SG(g h:aC->Option Out)(a:aC):Y8 (Y (false,a)) g h=h a:=rfl
def MS(c:aC->Option (Bool×aC))(g h:aC->Option Out)(a:aC):O7 c g h a=Y8 (c a) g h:=by unfold O7 Y8;rcases c a with _ | ⟨_|_,b⟩<;>rfl
def MT(g:aC->Option Bool)(h:aC->Option (Bool×aC))(ρ:aC):Y4 g h ρ=I8 (g ρ) (λρ=>Y (true,ρ)) h ρ:=by unfold Y4 I8;rcases g ρ with _|_|_<;>rfl
def IH{a:Lr}{R d b rw:fZ}{c:Od}{i:Int}(h:∀w∈a,lQ w=true)(hw:a.length<=900)(e:b8 [R,.int i,wl a]=Y (.bool true,d)):
  ee [Y b,Y R,Y rw,Y (.int i),Y (wl a),c]=Y (.nx [Y b,Y d,Y rw,Y (.int i),Y (wl a),c]):=by
 have j:=qp ba ji rfl rfl a h;have g:=wH a;have f:a.length<=16777216:=by omega
 simp? only[ee,MS,SG,MT,wl,ag,ai f,mw,j,g,mU]
 rw[show (fZ.list (List.map fZ.str a))=wl a from rfl,e]
 simp? only[hJ,SG]
def wI{n:Int}(h:f ρ=Y (.int n))(a:0<=n/\n<10000):pH f ρ=Y (.rt (.int n)):=by unfold pH;rw[h];exact ai a
def MU(g h:aC->Option Out)(a:aC):Y8 (Y (true,a)) g h=g a:=rfl
def MV{a:Lr}{R d b rw:fZ}{c:Od}{i:Int}(h:∀w∈a,lQ w=true)(hw:a.length<=900)(e:b8 [R,.int i,wl a]=Y (.bool false,d))(g:0<=i/\i<10000):
  ee [Y b,Y R,Y rw,Y (.int i),Y (wl a),c]=Y (.rt (.int i)):=by
 have k:=qp ba ji rfl rfl a h;have j:=wH a;have f:a.length<=16777216:=by omega
 have r:pH l9 [Y b,Y d,Y rw,Y (.int i),Y (wl a),c]=Y (.rt (.int i)):=wI rfl g
 simp? only[ee,MS,MU,MT,wl,ag,ai f,mw,k,j,mU]
 rw[show (fZ.list (List.map fZ.str a))=wl a from rfl,e]
 simp? only[hJ,MU]
 exact r
theorem q5(i rw:fZ)(c:Od):∀(d:List Lr) (n:Nat) (R g:fZ) (a b:Od),Reads n R d g->(∀ws∈d,ws.length<=900) ->
  ∃k j,∀f,jl (o5 (.many [3,4])) ee ((((d.map wl).zipIdx n).map λx=>.tuple [.int x.2,x.1])++f) [Y i,Y R,Y rw,a,b,c]=jl (o5 (.many [3,4])) ee f [Y i,Y g,Y rw,k,j,c]
 |[],n,R,g,a,b,h,_=>by cases h;exact{a,b,λ_=>rfl}
 |ws::d,n,R,g,a,b,⟨R1,h1,h2,h3⟩,hl=>by obtain⟨k,j,e⟩:=q5 i rw c d (n+1) R1 g (Y (.int n)) (Y (wl ws)) h3 λx l=>hl x (by simp[l]);refine{k,j,λf=>?_};rw[ae,fD,ae,bZ,jl];show (ee [Y i,Y R,Y rw,Y (.int n),Y (wl ws),c]).bind _=_;rw[IH h1 (hl ws (by simp)) h2];exact e f
end
def W_{i j:Int}(h:j<i):BF (.int i) (.int j)=Y (.bool true):=by simp[BF,dI,h]
def iL(b a:Lr)(h:b.length+a.length<=900):dt (wl b) (wl a)=Y (wl (b++a)):=by show (if _ then _ else Z)=_;rw[ai (by rw[ag,ag,sizeLine_eq];omega),<-aD]
def Dp{ks:Lr}(e:∀w∈ps++ks,fZ.strOk w=true)(c:zZ "self"∉ps++ks)(b:(ps++ks).Nodup)(d:ps.length+ks.length<=900){x:fZ}:
  Sm [x,Y (wl (ps++ks))]=Y (.rt (.bool true)):=by
 have a:=sg (a8 "self") e;rw[aE c] at a;have f:=GH b (by simpa using d)
 simp? only[jA,a,f]
def MW{b:Lr}(h:b≠[]):iA (wl b)=Y true:=by
 cases b with
 |nil=>exact absurd rfl h
 |cons a l=>rfl
def Qo(f:Str){a:Lr}(g:∀w∈ps,fZ.strOk w=true)(i:∀w∈a,fZ.strOk w=true)(k:zZ "keeps"∉ps)(p:zZ "self"∉ps++a)(o:(ps++a).Nodup)(h:ps.length+a.length<=900):
  f6 [wl (zZ "func"::f::(ps++kw a))]=Y (.bool true):=by
 have n:("func"=="func")=true:=by decide
 have r:∀w∈ps++kw a,fZ.strOk w=true:=λw hw=>(ay.mp hw).elim (g w) (MF i w);have s:∀w∈ps++a,fZ.strOk w=true:=λw hw=>(ay.mp hw).elim (g w) (i w);have b:=sg (a8 "keeps") r;have e:=P8 f g i k h;have d:=GG f g i k h;have j:=iL ps a h;have c:=λx=>Dp (x:=x) s p o h;by_cases q:a=[]
 .have l:ps++kw a=ps:=by simp[kw,q]
  rw[l] at b e d ⊢;rw[aE k] at b;simp only[wl,ae] at e d j c
  simp? only[f6,jQ,wu,oJ,qJ,c,wl,pY,xk,gJ,n,yV,xX,ig,b,e,d,j,c]
 .have l:kw a=zZ "keeps"::a:=by simp[kw,q]
  rw[l] at b e d ⊢;rw[aW (by simp)] at b;have m:=MW q;simp only[wl,ae] at e d j c m
  simp? only[f6,jQ,wu,oJ,qJ,c,wl,pY,xk,gJ,n,yV,xX,ig,b,e,d,j,c,m]
def Qp(k m:Str)(h:∀w∈ps,fZ.strOk w=true)(g:zZ "self"∉ps)(f:ps.Nodup)(c:ps.length<=900):
  f6 [wl (zZ "method"::k::m::ps)]=Y (.bool true):=by
 have i:("method"=="func")=false:=by decide
 have e:=P6 k m ps;have d:=P7 k m ps;have b:=iL ps [] (by simpa using c);have a:=λx=>Dp (x:=x) (ps:=ps) (ks:=[]) (by simpa using h) (by simpa using g) (by simpa using f) (by simpa using c);simp only[aK] at b a;simp only[wl,ae,bL] at e d b a
 simp? only[f6,jQ,wu,oJ,qJ,a,wl,pY,xk,gJ,i,yV,xX,ig,e,d,b,a]
def Qq(f:Str)(r:Lr)(c:fZ.strOk f=true)(b:f≠zZ "main")(a:f6 [wl (zZ "func"::f::r)]=Y (.bool true))(x:fZ):
  hG [x,wl (zZ "func"::f::r)]=Y (.bool true):=by
 have g:("func"=="func")=true:=by decide
 have d:(f==zZ "main")=false:=by simpa using b
 have e:BF (zi (((r.map fZ.str).length+1+1:Nat))) (.int 1)=Y (.bool true):=W_ (by omega);simp only[wl,ae] at a
 simp? only[hG,mi,wl,pY,xk,Ja,gJ,g,nJ,e,MC c (a8 "main"),d,a]
theorem Qr(k m:Str)(r:Lr)(g:k∈F.map (·.1))(a:f6 [wl (zZ "method"::k::m::r)]=Y (.bool true))(f b l e:fZ)(d:Bool):
  hG [Rg (gD F) f b l e d,wl (zZ "method"::k::m::r)]=Y (.bool true):=by
 have j:("method"=="func")=false:=by decide
 have h:("method"=="method")=true:=by decide
 have i:BF (zi (((r.map fZ.str).length+1+1+1:Nat))) (.int 2)=Y (.bool true):=W_ (by omega);have c:=n8 (t:=k) (H:=F);rw[aW g] at c;simp only[wl,ae] at a
 simp? only[hG,mi,wl,pY,xk,Ja,gJ,j,h,nJ,i,iR,ig,c,a]
def Qs{F:fZ}{f:Str}{a:Lr}(c:lQ f=true)(m:f≠zZ "main")(d:∀w∈ps,lQ w=true)(e:∀w∈a,lQ w=true)(l:zZ "keeps"∉ps)(k:zZ "self"∉ps++a)(i:(ps++a).Nodup)(r:ps.length<=5)(q:a.length<=3):
  IG F f (zZ "func"::f::(ps++kw a)):=by
 have g:=λw hw=>mM (d w hw);have h:=λw hw=>mM (e w hw);have n:ps.length+a.length<=900:=by omega
 refine{?_,{"func",_,rfl,.inl rfl},?_,GC _ _,λj b s p o=>Qq f _ (mM c) m (Qo f g h l k i n) _,mM c}
 .intro w hw;rcases ah.mp hw with rfl|hw
  .decide +kernel
  rcases ah.mp hw with rfl|hw
  .exact c
  rcases ay.mp hw with hw|hw
  .exact d w hw
  .unfold kw at hw;split at hw
   .simp at hw
   .rcases ah.mp hw with rfl|hw
    .decide +kernel
    .exact e w hw
 .have:(kw a).length<=a.length+1:=by unfold kw;split<;>simp
  simp only[ax,az];omega
def Bh{k m:Str}(a:lQ k=true)(b:lQ m=true):fZ.strOk (mf k m)=true :=
 qo (mM a) (qo (a8 _) (mM b))
theorem Qt{k m:Str}(l:k∈F.map (·.1))(a:lQ k=true)(c:lQ m=true)(d:∀w∈ps,lQ w=true)(j:zZ "self"∉ps)(f:ps.Nodup)(p:ps.length<=5):
  IG (gD F) (mf k m) (zZ "method"::k::m::ps):=by
 have e:=λw hw=>mM (d w hw);have h:=(k8.mp a).2.1;have g:=(k8.mp c).2.1;refine{?_,{"method",_,rfl,.inr (.inl rfl)},?_,GD _ _ _ h g,λi b q o n=>Qr k m ps l (Qp k m e j f (by omega)) _ _ _ _ _,Bh a c}
 .intro w hw;rcases ah.mp hw with rfl|hw
  .decide +kernel
  rcases ah.mp hw with rfl|hw
  .exact a
  rcases ah.mp hw with rfl|hw
  .exact c
  .exact d w hw
 .simp only[ax];omega
def GS(F:fZ):IG F (zZ "main") [zZ "main"] :=
 {by intro w hw;simp at hw;subst hw;decide +kernel,{"main",[],rfl,.inr (.inr rfl)},by decide,GF,λd b e c a=>by kernel_rfl,a8 _}
def Qu(w:String)(c x y k e m d:fZ)(b a:Lp):fZ:=.dict [(.none,.str "Row"),(.str "word",.str (zZ w)),(.str "condition",c),(.str "x",x),(.str "y",y),(.str "kind",k),(.str "field",e),(.str "method",m),(.str "function",d),(.str "handed",.list b),(.str "names",.list a)]
def GU(a:Lr):fZ:=match mI [.dict [(.none,.str "Row")],wl a] with
 |some (_,r)=>r
 |none=>.none
def Fe:aC->Option Out:=XW
def wJ{a:Lr}(g:GR a):mJ [wl a]=E7 (Fe [Y (wl a),Z]):=by
 have e:=qp ba ji rfl rfl a g.2.1;have d:=wH a;have c:(a.map fZ.str).length<=16777216:=by have:=g.2.2;rw[ag];omega
 have b:=MW g.1;show ij _ (a7 _ Fe) _=_;rw[wu,oJ];refine bG E7 (b7 (ρ1:=[Y (wl a),Z]) ?_ rfl);simp only[wl] at b
 simp? only[wl,b,ai c,mw,e,d,mU]
local macro_rules
| `(zR 0) => `(⟨⟨_, rfl⟩, fun h => (wJ h).trans (by kernel_rfl), by kernel_rfl, by kernel_rfl, by kernel_rfl⟩)
structure p0 (ws:Lr) (w0:String) (kd:Option Str) (row:fZ):Prop where
 hd:∃r,ws=zZ w0::r
 isr:GR ws->mJ [wl ws]=Y (.bool true)
 ini:mI [.dict [(.none,.str "Row")],wl ws]=Y (.none,row)
 kd:j6 ["Row"] "kind" row=Y (kd.elim .none .str)
 wd:j6 ["Row"] "word" row=Y (.str (zZ w0))
def p0.of{d:Lr}{f:String}{g:Option Str}(h:∃r,d=zZ f::r)(a:E7 (Fe [Y (wl d),Z])=Y (.bool true))(b:mI [.dict [(.none,.str "Row")],wl d]=Y (.none,GU d))(c:j6 ["Row"] "kind" (GU d)=Y (g.elim .none .str))(e:j6 ["Row"] "word" (GU d)=Y (.str (zZ f))):p0 d f g (GU d):={h,λh=>(wJ h).trans a,b,c,e}
def Qv(a b:Str){c:Lr}(h:c.length<=6):p0 (zZ "func"::a::b::c) "func" Z (Qu "func" .none (.str a) .none .none .none .none (.str b) (c.map .str) (.str a::c.map .str)):=by
 rcases c with _ | ⟨k,_ | ⟨j,_ | ⟨i,_ | ⟨g,_ | ⟨f,_ | ⟨e,_ | ⟨d,l⟩⟩⟩⟩⟩⟩⟩
 all_goals first|(exfalso;simp at h;done)|exact zR 0
def Yj(a b:Str){c:Lr}(h:c.length<=6):p0 (zZ "do"::a::b::c) "do" Z (Qu "do" .none (.str a) (.str b) .none .none .none .none (c.map .str) (.str a::.str b::c.map .str)):=by
 rcases c with _ | ⟨k,_ | ⟨j,_ | ⟨i,_ | ⟨g,_ | ⟨f,_ | ⟨e,_ | ⟨d,l⟩⟩⟩⟩⟩⟩⟩
 all_goals first|(exfalso;simp at h;done)|exact zR 0
def Vr(a b c:Str){d:Lr}(h:d.length<=6):p0 (zZ "ask"::a::b::c::d) "ask" Z (Qu "ask" .none (.str a) (.str b) .none .none (.str c) .none (d.map .str) (.str a::.str b::d.map .str)):=by
 rcases d with _ | ⟨m,_ | ⟨k,_ | ⟨j,_ | ⟨i,_ | ⟨g,_ | ⟨f,_ | ⟨e,l⟩⟩⟩⟩⟩⟩⟩
 all_goals first|(exfalso;simp at h;done)|exact zR 0
def uy(a b c d:Str){hs:Lr}(h:hs.length<=6):p0 (zZ "straight"::a::b::c::d::hs) "straight" (Y c) (Qu "straight" .none (.str a) (.str b) (.str c) .none (.str d) .none (hs.map .str) (.str a::.str b::hs.map .str)):=by
 rcases hs with _ | ⟨m,_ | ⟨k,_ | ⟨j,_ | ⟨i,_ | ⟨g,_ | ⟨f,_ | ⟨e,l⟩⟩⟩⟩⟩⟩⟩
 all_goals first|(exfalso;simp at h;done)|exact zR 0
def Bj{g d b c:fZ}{a:Lr}{w:Str}{x y z:Od}(h:f [Y (Rg g d b (wl a) c ov),x,y,z]=Y (.str w))(i:a.length<=900):
  gU (.fl 0 "Reading" "blocks") f [Y (Rg g d b (wl a) c ov),x,y,z]=Y (.nx [Y (Rg g d b (wl (a++[w])) c ov),x,y,z]):=by
 have e:o4 (.fl 0 "Reading" "blocks") [Y (Rg g d b (wl a) c ov),x,y,z]=Y (.list (a.map .str)):=by kernel_rfl
 have z:(a.map fZ.str).length<sizeLine:=by rw[sizeLine_eq,ag];omega
 rw[GA,e,h];simp only[aL,ai z,nK,ae,bL]
 kernel_rfl
def Dq{c a b:fZ}{L:Lp}{x y z:Od}(h:f [Y (Rg c a b bl (.list L) ov),x,y,z]=Y d)(g:L.length<=900):
  gU (.fl 0 "Reading" "later") f [Y (Rg c a b bl (.list L) ov),x,y,z]=Y (.nx [Y (Rg c a b bl (.list (L++[d])) ov),x,y,z]):=by
 have e:o4 (.fl 0 "Reading" "later") [Y (Rg c a b bl (.list L) ov),x,y,z]=Y (.list L):=by kernel_rfl
 have z:L.length<sizeLine:=by rw[sizeLine_eq];omega
 rw[GA,e,h];simp only[aL,ai z]
 kernel_rfl
def Yk(w0:String):kG (.str (zZ w0)) (.tuple [.str (zZ "func"),.str (zZ "straight")])=Y (w0=="func"||w0=="straight"):=by
 show (if _ then _ else Z)=_;rw[ai {iX (a8 _),by simp[iX (a8 _)],by simp[fZ.depth]}];simp only[bX,List.any_nil,du,A9,jm]
 congr 1
 rw[dy,dy (b:="straight")]
def le8(h:n<=8):qy (zi n) (.int 8)=Y (.bool true):=by
 have:(n:Int)<=8:=by omega
 simp[qy,WV,dI,this]
section
variable {hs:fZ}{bs:Lr}{L:Lp}
theorem Qw{a w:fZ}{i:Int}{b:Option Str}(h:j6 ["Row"] "kind" a=Y (b.elim .none .str))(c:∀k,b=Y k->k∈F.map (·.1)){R:fZ}(d:j6 ["Reading"] "fields" R=Y (gD F)):
  Sl [Y R,Y (.int i),Y w,Y a]=Y false:=by
 cases b with
 |none=>simp only[Option.elim] at h;simp? only[h,qm]
 |some k=>
  simp only[Option.elim] at h;have e:=n8 (t:=k) (H:=F);rw[aW (c k rfl)] at e
  simp? only[h,sj,d,jA,e]
theorem wK{v:Bool}{b:Lr}{w0:String}{n:Option Str}{a:fZ}(O:p0 b w0 n a)(g:GR b)(C:(w0=="end")=false)(B:(w0=="else")=false)(x:∀k,n=Y k->k∈F.map (·.1)){c d:Bool}(w:(w0=="if"||w0=="while")=c)(u:(w0=="func"||w0=="straight")=d)(y:qy (.int ((if c then bs++[zZ w0] else bs).length:Int)) (.int 8)=Y (.bool v))(l:bs.length<=900)(A:L.length<=900)(i:Int):
  eT [Rg (gD F) hs (.str t) (wl bs) (.list L) false,.int i,wl b]=Y (.bool v,Rg (gD F) hs (.str t) (wl (if c then bs++[zZ w0] else bs)) (.list (if d then L++[.tuple [.int i,a]] else L)) false):=by
 obtain⟨r,o⟩:=O.hd;have q:=wy g.ok (Yg "end");rw[aE (by intro z;rw[o] at z;injection z with z _;exact kH C z)] at q;have m:=wy g.ok (Yg "else");rw[aE (by intro z;rw[o] at z;injection z with z _;exact kH B z)] at m;have p:jf (wl b) (.list [.str (zZ "end")])=Y (.bool false):=q;have e:jf (wl b) (.list [.str (zZ "else")])=Y (.bool false):=m;have j:=wD w0;have h:=Yk w0;rw[w] at j;rw[u] at h;have f:=O.ini;have D:gX [Y (Rg (gD F) hs (.str t) (wl bs) (.list L) false),Y (.int i),Y (wl b),Z]=Y (.rt (.tuple [.bool v,Rg (gD F) hs (.str t) (wl (if c then bs++[zZ w0] else bs)) (.list (if d then L++[.tuple [.int i,a]] else L)) false])):=by
  refine b7 (gC (by simp? only[p]) rfl) (b7 (gC (by simp? only[e]) rfl) (b7 (gC (by simp? only[O.isr g,mU]) rfl) (b7 (ρ1:=[Y (Rg (gD F) hs (.str t) (wl bs) (.list L) false),Y (.int i),Y (wl b),Y a]) ?_ (b7 (gC (Qw O.kd x (iR ..)) rfl) (b7 (ρ1:=[Y (Rg (gD F) hs (.str t) (wl (if c then bs++[zZ w0] else bs)) (.list L) false),Y (.int i),Y (wl b),Y a]) ?_ (b7 (ρ1:=[Y (Rg (gD F) hs (.str t) (wl (if c then bs++[zZ w0] else bs)) (.list (if d then L++[.tuple [.int i,a]] else L)) false),Y (.int i),Y (wl b),Y a]) ?_ ?_))))))
  .simp? only[f]
  .cases c with
   |false=>exact gC (by simp? only[O.wd,ig,j]) rfl
   |true=>exact iY (by simp? only[O.wd,ig,j]) (Bj (by simp? only[O.wd]) l)
  .cases d with
   |false=>exact gC (by simp? only[O.wd,ig,h]) rfl
   |true=>exact iY (by simp? only[O.wd,ig,h]) (Dq (by simp? only[xj]) A)
  .have s:kJ [wl (if c then bs++[zZ w0] else bs)]=Y (.int ((if c then bs++[zZ w0] else bs).length:Int)):=by rw[nJ,ag]
   simp only[Mu,Sx,se,tQ,iC,sf,oV,lK,xj,bB,cu,aL,n9,s,y,hJ,cY,cm]
 rw[eT,oH];show xV (gX [Y (Rg (gD F) hs (.str t) (wl bs) (.list L) false),Y (.int i),Y (wl b),Z])=_;rw[D,m8]
theorem y3{c:Lr}{w0:String}{d:Option Str}{a:fZ}(O:p0 c w0 d a)(g:GR c)(o:(w0=="end")=false)(n:(w0=="else")=false)(l:∀k,d=Y k->k∈F.map (·.1)){b f:Bool}(j:(w0=="if"||w0=="while")=b)(h:(w0=="func"||w0=="straight")=f)(e:(if b then bs++[zZ w0] else bs).length<=8)(m:L.length<=900)(i:Int):
  eT [Rg (gD F) hs (.str t) (wl bs) (.list L) false,.int i,wl c]=Y (.bool true,Rg (gD F) hs (.str t) (wl (if b then bs++[zZ w0] else bs)) (.list (if f then L++[.tuple [.int i,a]] else L)) false) :=
 wK O g o n l j h (le8 e) (by cases b<;>simp at e<;>omega) m i
def qq{R b:fZ}{c:fZ}{a:Lr}{i:Int}(d:R=Rg (gD F) hs (.str t) bl c false)(h:eT [R,.int i,wl a]=Y (.bool true,b)):b8 [R,.int i,wl a]=Y (.bool true,b):=by
 subst d
 simp? only[b8,iG,lg,lR,mU,sj,h,hJ]
def gE{A B:aC->Option Out}{a:aC}(b:A a=Y (.rt d)):a7 A B a=Y (.rt d):=by rw[qJ,b,Mw]
def wL(a:Lr)(x:Str):iA (wl (a++[x]))=Y true:=by cases a<;>rfl
def Vs(x:Str)(i:Int):eT [Rg (gD F) hs (.str t) (wl (bs++[x])) (.list L) false,.int i,wl [zZ "end"]]=Y (.bool true,Rg (gD F) hs (.str t) (wl bs) (.list L) false):=by
 have c:jF [Rg (gD F) hs (.str t) (wl (bs++[x])) (.list L) false]=Y (.none,Rg (gD F) hs (.str t) (wl bs) (.list L) false):=by
  have b:lO [Y (Rg (gD F) hs (.str t) (wl (bs++[x])) (.list L) false)]=Y (.rt (.tuple [.none,Rg (gD F) hs (.str t) (wl bs) (.list L) false])):=by
   have p:Ee (.fl 0 "Reading" "blocks") [Y (Rg (gD F) hs (.str t) (wl (bs++[x])) (.list L) false)]=Y (.nx [Y (Rg (gD F) hs (.str t) (wl bs) (.list L) false)]):=by
    have e:o4 (.fl 0 "Reading" "blocks") [Y (Rg (gD F) hs (.str t) (wl (bs++[x])) (.list L) false)]=Y (wl (bs++[x])):=by kernel_rfl
    unfold Ee;rw[e,nK];have a:(bs.map fZ.str++[fZ.str x]).isEmpty=false:=by simp
    simp only[aL,ae,bL,List.dropLast_concat,a,cq,e9]
    kernel_rfl
   refine gE (iY ?_ (b7 p rfl))
   simp? only[n9,wL]
  rw[jF,oH];show xV (lO [Y (Rg (gD F) hs (.str t) (wl (bs++[x])) (.list L) false)])=_;rw[b,m8]
 have q:jf (wl [zZ "end"]) (.list [.str (zZ "end")])=Y (.bool true):=by kernel_rfl
 simp? only[eT,gX,q,GQ,c,GJ,hJ]
def Vt(i:Int):eT [Rg (gD F) hs (.str t) (wl (bs++[zZ "if"])) (.list L) false,.int i,wl [zZ "else"]]=Y (.bool true,Rg (gD F) hs (.str t) (wl (bs++[zZ "else"])) (.list L) false):=by
 have c:iQ [Rg (gD F) hs (.str t) (wl (bs++[zZ "if"])) (.list L) false]=Y (.bool true,Rg (gD F) hs (.str t) (wl (bs++[zZ "else"])) (.list L) false):=by
  have d:(!("if"=="if"))=false:=by decide
  have p:sV (.fl 0 "Reading" "blocks") (gf [0] vN) (gf [0] Gw) [Y (Rg (gD F) hs (.str t) (wl (bs++[zZ "if"])) (.list L) false)]=Y (.nx [Y (Rg (gD F) hs (.str t) (wl (bs++[zZ "else"])) (.list L) false)]):=by
   have e:o4 (.fl 0 "Reading" "blocks") [Y (Rg (gD F) hs (.str t) (wl (bs++[zZ "if"])) (.list L) false)]=Y (wl (bs++[zZ "if"])):=by kernel_rfl
   rw[yT,e]
   simp? only[nK,Dg]
   kernel_rfl
  have b:kx [Y (Rg (gD F) hs (.str t) (wl (bs++[zZ "if"])) (.list L) false)]=Y (.rt (.tuple [.bool true,Rg (gD F) hs (.str t) (wl (bs++[zZ "else"])) (.list L) false])):=by
   refine b7 (gC ?_ rfl) (b7 p rfl)
   simp? only[n9,wL,Bd,ki,d]
  rw[iQ,oH];show xV (kx [Y (Rg (gD F) hs (.str t) (wl (bs++[zZ "if"])) (.list L) false)])=_;rw[b,m8]
 have q:jf (wl [zZ "else"]) (.list [.str (zZ "end")])=Y (.bool false):=by kernel_rfl
 have a:jf (wl [zZ "else"]) (.list [.str (zZ "else")])=Y (.bool true):=by kernel_rfl
 simp? only[eT,gX,q,a,c,hJ]
end
def NF(x:Str):Prop:=x.cps.toList.head?≠Y 102
inductive Rk (K:Lr) (M:List (Str×Str)) (Fu:List (Str×Nat)):String->Lr->Prop
 |new {x k:Str}:k∈K->Rk K M Fu "new" [x,k]
 |fresh {x k:Str}:k∈K->Rk K M Fu "fresh" [x,k]
 |row {x:Str}:Rk K M Fu "row" [x]
 |give {x:Str}:Rk K M Fu "give" [x]
 |tell {x:Str}:Rk K M Fu "tell" [x]
 |take {x y z:Str}:Rk K M Fu "take" [x,y,z]
 |own {x y z:Str}:Rk K M Fu "own" [x,y,z]
 |put {x y z:Str}:Rk K M Fu "put" [x,y,z]
 |place {x y z:Str}:Rk K M Fu "place" [x,y,z]
 |check {x y:Str}:Rk K M Fu "check" [x,y]
 |push {x y:Str}:Rk K M Fu "push" [x,y]
 |pull {x y:Str}:Rk K M Fu "pull" [x,y]
 |copy {x y:Str}:Rk K M Fu "copy" [x,y]
 |rest:Rk K M Fu "rest" []
 |ask {x y m:Str}{hs:Lr}:hs.length<=3->Rk K M Fu "ask" (x::y::m::hs)
 |doo {x y:Str}{hs:Lr}:hs.length<=3->Rk K M Fu "do" (x::y::hs)
 |Dr {x y k m:Str}{hs:Lr}:hs.length<=3->k∈K->(k,m)∈M->Rk K M Fu "straight" (x::y::k::m::hs)
 |func {x f:Str}{hs:Lr}:NF x->hs.length<=3->(f,hs.length)∈Fu->Rk K M Fu "func" (x::f::hs)
inductive Ck:Lr->Prop
 |choose:Ck [zZ "choose"]
 |some {x:Str}:Ck [zZ "some",x]
 |same {x y:Str}:Ck [zZ "same",x,y]
inductive Bk (K:Lr) (M:List (Str×Str)) (Fu:List (Str×Nat)):Lr->List Lr->Lr->Prop
 |nil (bs:Lr):Bk K M Fu bs [] bs
 |row {bs MX:Lr}{w:String}{r:Lr}{rest:List Lr}:Rk K M Fu w r->Bk K M Fu bs rest MX->Bk K M Fu bs ((zZ w::r)::rest) MX
 |MY {bs MX:Lr}{w:String}{r:Lr}{rest:List Lr}:w="if"\/w="while"->Ck r->bs.length<8->Bk K M Fu (bs++[zZ w]) rest MX->Bk K M Fu bs ((zZ w::r)::rest) MX
 |Jb {bs MX:Lr}{rest:List Lr}:Bk K M Fu (bs++[zZ "else"]) rest MX->Bk K M Fu (bs++[zZ "if"]) ([zZ "else"]::rest) MX
 |fin {bs MX:Lr}{x:Str}{rest:List Lr}:Bk K M Fu bs rest MX->Bk K M Fu (bs++[x]) ([zZ "end"]::rest) MX
def Bk.app{K:Lr}{M:List (Str×Str)}{Fu:List (Str×Nat)}{a b c:Lr}{f bs:List Lr}(h:Bk K M Fu a f b)(e:Bk K M Fu b bs c):Bk K M Fu a (f++bs) c:=by
 induction h with
 |nil bs=>exact e
 |row k _ d=>exact .row k (d e)
 |MY w k l _ d=>exact .MY w k l (d e)
 |Jb _ d=>exact .Jb (d e)
 |fin _ d=>exact .fin (d e)
def Lt(M:List (Str×Str))(Fu:List (Str×Nat))(e:fZ):Prop:=∃i a,e=.tuple [.int i,a] /\
  ((∃k m,(k,m)∈M/\j6 ["Row"] "word" a=Y (.str (zZ "straight"))/\j6 ["Row"] "kind" a=Y (.str k)/\j6 ["Row"] "method" a=Y (.str m)) \/
   (∃f n b,(f,n)∈Fu/\j6 ["Row"] "word" a=Y (.str (zZ "func"))/\j6 ["Row"] "function" a=Y (.str f)/\j6 ["Row"] "handed" a=Y (.list b)/\b.length=n))
section
variable {K:Lr}{M:List (Str×Str)}{Fu:List (Str×Nat)}
structure Rr (K:Lr) (M:List (Str×Str)) (Fu:List (Str×Nat)) (ws:Lr) (w:String):Prop where
 ok:∃kd row,p0 ws w kd row/\(∀k,kd=Y k->k∈K)/\∀i:Int,(w=="func"||w=="straight")=true->Lt M Fu (.tuple [.int i,row])
 e1:(w=="end")=false
 e2:(w=="else")=false
def Rk.ok{w:String}{r:Lr}(h:Rk K M Fu w r):Rr K M Fu (zZ w::r) w/\(w=="if"||w=="while")=false:=by
 cases h with
 |@new _ k a | @fresh _ k a=>exact{{{Y k,_,.of {_,rfl} (zK 0) (zK 0) (zK 0) (zK 0),λk e=>by injection e with e;subst e;exact a,λi z=>absurd z (by decide)},by decide,by decide},by decide}
 |ask c=>exact{{{_,_,Vr _ _ _ (by omega),nofun,λi z=>absurd z (by decide)},by decide,by decide},by decide}
 |doo c=>exact{{{_,_,Yj _ _ (by omega),nofun,λi z=>absurd z (by decide)},by decide,by decide},by decide}
 |@Dr x y k m d c a b=>exact{{{_,_,uy _ _ _ _ (by omega),λk e=>by injection e with e;subst e;exact a,λi _=>{i,_,rfl,.inl {k,m,b,by kernel_rfl,by kernel_rfl,by kernel_rfl}}},by decide,by decide},by decide}
 |@func x f d _ c b=>exact{{{_,_,Qv _ _ (by omega),nofun,λi _=>{i,_,rfl,.inr {f,_,d.map .str,b,by kernel_rfl,by kernel_rfl,by kernel_rfl,ag ..}}},by decide,by decide},by decide}
 |_=>exact{{{Z,_,.of {_,rfl} (zK 0) (zK 0) (zK 0) (zK 0),nofun,λi z=>absurd z (by decide)},by decide,by decide},by decide}
def Ck.ok{w:String}(hw:w="if"\/w="while"){r:Lr}(h:Ck r):Rr K M Fu (zZ w::r) w/\(w=="if"||w=="while")=true/\(w=="func"||w=="straight")=false:=by rcases hw with rfl|rfl<;>cases h<;>exact{{{Z,_,.of {_,rfl} (zK 0) (zK 0) (zK 0) (zK 0),nofun,λi z=>absurd z (by decide)},by decide,by decide},by decide,by decide}
end
section
variable {K:Lr}{M:List (Str×Str)}{Fu:List (Str×Nat)}
structure TS where
 F:List (Str×fZ)
 H:List (Str×fZ)
 cur:Option (Str×Lr)
 ov:Bool
def TS.rg(a:TS)(L:Lp):fZ:=Rg (gD a.F) (gD a.H) (match a.cur with|none=>.none|some p=>.str p.1) (match a.cur with|none=>wl []|some p=>wl p.2) (.list L) a.ov
def NS(F:List (Str×fZ)):Prop:=(F.map (·.1)).Nodup/\∀p∈F,∃l,p.2=wl l/\l.length<=90
structure X_ (F₀:List (Str×fZ)) (Ok:fZ->Prop) (σ:TS) (ws:Lr) (sM:TS):Prop where
 gr:GR ws
 rd:∀(n:Nat) (L:Lp),L.length<=900->∃l,(∀e∈l,Ok e)/\l.length<=1/\b8 [σ.rg L,.int (n:Int),wl ws]=Y (.bool true,sM.rg (L++l))
 fo:NS σ.F->NS sM.F/\∀k∈σ.F.map (·.1),k∈sM.F.map (·.1)
inductive Pt (F₀:List (Str×fZ)) (Ok:fZ->Prop):TS->List Lr->TS->Prop
 |nil (σ:TS):Pt F₀ Ok σ [] σ
 |cons {σ σ1 Vu:TS}{ws:Lr}{rest:List Lr}:X_ F₀ Ok σ ws σ1->Pt F₀ Ok σ1 rest Vu->Pt F₀ Ok σ (ws::rest) Vu
section
variable {Ok Ok':fZ->Prop}{σ σ1 Vu:TS}
def Pt.app{b bs:List Lr}(h:Pt F₀ Ok σ b σ1)(a:Pt F₀ Ok σ1 bs Vu):Pt F₀ Ok σ (b++bs) Vu:=by
 induction h with
 |nil=>exact a
 |cons s _ c=>exact .cons s (c a)
theorem Pt.split:∀{d c:List Lr}{σ:TS},Pt F₀ Ok σ (d++c) Vu->∃σ1,Pt F₀ Ok σ d σ1/\Pt F₀ Ok σ1 c Vu
 |[],_,σ,h=>{σ,.nil σ,h}
 |_::d,c,_,.cons s h=>by obtain⟨σ1,a,b⟩:=Pt.split h;exact{σ1,.cons s a,b}
def Pt.reads{a:List Lr}(h:Pt F₀ Ok σ a σ1):∀(n:Nat) (L:Lp),L.length+a.length<=900->∃l,(∀e∈l,Ok e)/\l.length<=a.length/\Reads n (σ.rg L) a (σ1.rg (L++l)):=by
 induction h with
 |nil σ=>intro n L _;exact{[],by simp,by simp,by rw[aK];rfl}
 |cons s _ c=>intro n L f;simp only[ax] at f;obtain⟨l,k,o,j⟩:=s.rd n L (by omega);obtain⟨b,i,m,g⟩:=c (n+1) (L++l) (by rw[az];omega);refine{l++b,λe d=>(ay.mp d).elim (k e) (i e),by simp only[az,ax];omega,_,s.gr.2.1,j,?_};rw[<-bb];exact g
theorem Pt.gr{rows:List Lr}(h:Pt F₀ Ok σ rows σ1):∀ws∈rows,GR ws:=by
 induction h with
 |nil=>simp
 |cons s _ a=>
  intro ws hw;rcases ah.mp hw with rfl|hw
  .exact s.gr
  .exact a ws hw
theorem Pt.fo{e:List Lr}(h:Pt F₀ Ok σ e σ1):NS σ.F->NS σ1.F/\∀k∈σ.F.map (·.1),k∈σ1.F.map (·.1):=by
 induction h with
 |nil=>exact λh=>{h,λ_ h=>h}
 |cons s _ f=>exact λh=>let ⟨a,b⟩:=s.fo h;let ⟨c,d⟩:=f a;{c,λk g=>d k (b k g)}
end
theorem Ds{b:Lr}{w:String}(O:Rr K M Fu b w)(r:∀k∈K,k∈F.map (·.1))(g:GR b){i:Bool}(j:(w=="if"||w=="while")=i){H:List (Str×fZ)}{a:Lr}(p:(if i then a++[zZ w] else a).length<=8):
  X_ F (Lt M Fu) {F,H,Y (t,a),false} b {F,H,Y (t,if i then a++[zZ w] else a),false}:=by
 sleep 1;obtain⟨s,c,o,l,f⟩:=O.ok;sleep 2;refine{g,λn L q=>?_,λh=>{h,λ_ h=>h}};cases d:(w=="func"||w=="straight") with
 |false=>exact{[],by simp,by simp,by rw[aK];exact qq rfl (y3 o g O.e1 O.e2 (λk e=>r k (l k e)) j d p q n)}
 |true=>refine{[.tuple [.int (n:Int),c]],λe m=>?_,by simp,qq rfl (y3 o g O.e1 O.e2 (λk e=>r k (l k e)) j d p q n)};simp at m;subst m;exact f n d
theorem Bk.pt{e a:Lr}{b:List Lr}(h:Bk K M Fu e b a)(j:∀k∈K,k∈F.map (·.1)){H:List (Str×fZ)}:e.length<=8->(∀ws∈b,GR ws)->Pt F (Lt M Fu) {F,H,Y (t,e),false} b {F,H,Y (t,a),false}:=by
 induction h with
 |nil e=>intro _ _;exact .nil _
 |@row e a w r c k _ f=>intro g d;obtain⟨O,i⟩:=k.ok;exact .cons (Ds O j (d _ (bu ..)) i (by simpa using g)) (f g λws hw=>d ws (ao _ hw))
 |@MY e a w r c hw k l _ f=>intro g d;obtain⟨O,i,_⟩:=k.ok (K:=K) (M:=M) (Fu:=Fu) hw;exact .cons (Ds O j (d _ (bu ..)) i (by simp;omega)) (f (by simp;omega) λws hw=>d ws (ao _ hw))
 |@Jb e a c _ f=>intro g d;exact .cons (σ1:={F,H,Y (t,e++[zZ "else"]),false}) {d _ (bu ..),λn L _=>{[],by simp,by simp,by rw[aK];exact qq rfl (Vt n)},λh=>{h,λ_ h=>h}} (f (by simpa using g) λws hw=>d ws (ao _ hw))
 |@fin e a x c _ f=>intro g d;exact .cons (σ1:={F,H,Y (t,e),false}) {d _ (bu ..),λn L _=>{[],by simp,by simp,by rw[aK];exact qq rfl (Vs x n)},λh=>{h,λ_ h=>h}} (f (by simp at g;omega) λws hw=>d ws (ao _ hw))
structure Bo where
 t:Str
 hd:Lr
 rows:List Lr
def Bo.txt(b:Bo):List Lr:=b.hd::(b.rows++[[zZ "end"]])
def Bo.ent(b:Bo):Str×Lr:=(b.t,b.hd)
structure Dt (K:Lr) (M:List (Str×Str)) (Fu:List (Str×Nat)) (F:List (Str×fZ)) (b:Bo):Prop where
 hd:IG (gD F) b.t b.hd
 gr:∀ws∈b.rows,GR ws
 bk:Bk K M Fu [] b.rows []
 hb:Hb b.t b.hd
 gh:GR b.hd
def qa:GR [zZ "end"]:={by simp,Vq,by simp}
theorem Bo.pt(d:∀k∈K,k∈F.map (·.1)){b:Bo}(O:Dt K M Fu F b){H:List (Str×fZ)}(a:b.t∉H.map (·.1))(c:H.length<=900):
  Pt F (Lt M Fu) {(F),H,Z,false} b.txt {F,H++[(b.t,wl b.hd)],Z,b.t==zZ "main"}:=by
 exact .cons (σ1:={F,H++[(b.t,wl b.hd)],Y (b.t,[]),false}) {O.gh,λn L _=>{[],by simp,by simp,by rw[aK];exact GO O.hd a c n},λh=>{h,λ_ h=>h}} ((O.bk.pt d (by simp) O.gr).app (.cons (σ1:={F,H++[(b.t,wl b.hd)],Z,b.t==zZ "main"}) {qa,λn L _=>{[],by simp,by simp,by rw[aK];exact Vp O.hd.tok _ _ _},λh=>{h,λ_ h=>h}} (.nil _)))
theorem qr(c:∀k∈K,k∈F.map (·.1)):∀(a:List Bo) (H:List (Str×fZ)),(∀b∈a,Dt K M Fu F b/\b.t≠zZ "main")->(H.map (·.1)++a.map (·.t)).Nodup->H.length+a.length<=900 ->
  Pt F (Lt M Fu) {(F),H,Z,false} (a.flatMap Bo.txt) {F,H++hg (a.map Bo.ent),Z,false}
 |[],H,_,_,_=>by rw[bL,show hg []=[] from rfl,aK];exact .nil _
 |b::a,H,ho,nd,hl=>by
  have o:=ho b (by simp);have e:b.t∉H.map (·.1):=λz=>by rw[aX] at nd;exact nd.2.2 b.t z b.t (by simp) rfl
  have p:=Bo.pt c o.1 e (by omega);have g:(b.t==zZ "main")=false:=by simpa using o.2
  rw[g] at p;have q:=qr c a (H++[(b.t,wl b.hd)]) (λx d=>ho x (by simp[d])) (by simpa using nd) (by simp at hl ⊢;omega);have f:H++hg ((b::a).map Bo.ent)=H++[(b.t,wl b.hd)]++hg (a.map Bo.ent):=by simp[hg,Bo.ent]
  rw[f];exact p.app q
def Bk.wk{g a:Lr}{c:List Lr}(h:Bk K M Fu g c a){rest:List Lr}{j:List (Str×Lr)}:∀{d:List (Lr×Str)},Wk (a.length+1) t rest j d->∃b,Wk (g.length+1) t (c++rest) j b:=by
 induction h with
 |nil g=>intro d h;exact{(d),h}
 |@row g a w r rest k _ f=>intro d h;obtain⟨O,i⟩:=k.ok;obtain⟨b,e⟩:=f h;exact{_,.row w r false O.e1 O.e2 i e}
 |@MY g a w r rest hw k l _ f=>intro d h;obtain⟨O,i,_⟩:=k.ok (K:=K) (M:=M) (Fu:=Fu) hw;obtain⟨b,e⟩:=f h;rw[az] at e;exact{_,.row w r true O.e1 O.e2 i e}
 |@Jb g a rest _ f=>intro d h;obtain⟨b,e⟩:=f h;rw[az] at e ⊢;exact{_,.Jb e}
 |@fin g a x rest _ f=>intro d h;obtain⟨b,e⟩:=f h;rw[az];exact{_,.fin e}
theorem y4:∀(a:List Bo) (b:Str),(∀b∈a,Dt K M Fu F b)->∃d,Wk 0 b (a.flatMap Bo.txt) (a.map Bo.ent) d
 |[],b,_=>{[],.nil b}
 |x::a,b,ho=>by obtain⟨d,e⟩:=y4 a x.t λy f=>ho y (by simp[f]);have o:=ho x (by simp);obtain⟨c,g⟩:=o.bk.wk (t:=x.t) (rest:=[zZ "end"]::a.flatMap Bo.txt) (.fin e);refine{c,?_};rw[cV,ae,Bo.txt,bZ,bb];exact .head b o.hb g
theorem Du(b:Str){a:List Lr}{e:List (Str×Lr)}{d:List (Lr×Str)}(h:Wk 0 b a e d):∀c:List KR,Wk 0 b (c.map f7++a) e d
 |[]=>h
 |k::c=>.kind b _ (Du b h c)
structure Qx (M:List (Str×Str)) (Fu:List (Str×Nat)) (H:List (Str×fZ)):Prop where
 nd:(H.map (·.1)).Nodup
 m:∀k m,(k,m)∈M->mf k m∈H.map (·.1)/\k.length<=8/\m.length<=8
 f:∀f n,(f,n)∈Fu->fZ.strOk f=true/\f≠zZ "main"/\∃ws ks,(f,wl ws)∈H/\h9 [wl ws]=Y (wl ks)/\ks.length=n
def Yl(k m:Str)(e:k.length<=8)(d:m.length<=8):jE [.str k,.str m]=Y (.str (mf k m)):=by
 have c:k.length<=16777216:=by omega
 have b:m.length<=16777216:=by omega
 have a:(k++(zZ "."++m)).length<=16777216:=by rw[dB,dB,show (zZ ".").length=1 by decide +kernel];omega
 simp? only[jE,nE,ai c,ai b,ai a,Str.append_empty,mf]
def MZ{H:List (Str×fZ)}(T:Qx M Fu H){e:fZ}(x:Lt M Fu e){F b la:fZ}:∃i a,e=.tuple [.int i,a]/\ia [Rg F (gD H) b bl la ov,a]=Y (.bool true):=by
 obtain⟨i,a,rfl,h⟩:=x;refine{i,a,rfl,?_};rcases h with ⟨k,m,v,l,j,g⟩ | ⟨f,n,y,w,l,j,g,z⟩
 .obtain⟨q,p,d⟩:=T.m k m v;have o:("straight"=="straight")=true:=by decide
  have c:=n8 (t:=mf k m) (H:=H);rw[aW q] at c
  simp? only[ia,jX,l,gJ,o,j,g,Yl k m p d,lh,ig,c]
 .obtain⟨q,p,I,u,d,G,E⟩:=T.f f n w;have o:("func"=="straight")=false:=by decide
  have c:=n8 (t:=f) (H:=H);rw[aW (aw.mpr {_,d,rfl})] at c;have D:=SD T.nd d;have C:(f==zZ "main")=false:=by simpa using p
  have s:=ID q (a8 "main");rw[C] at s;have B:kJ [wl u]=Y (zi n):=by rw[nJ,ag,E]
  have A:kJ [.list y]=Y (zi n):=by rw[nJ,z]
  have r:=DI (n:Int) (n:Int);rw[fE] at r
  simp? only[ia,jX,l,gJ,o,j,g,s,lh,jA,c,D,G,B,A,r]
theorem uz{H:List (Str×fZ)}(T:Qx M Fu H){F b bl la:fZ}{ov:Bool}(g rw w:Od):∀(L:Lp) (a c:Od),(∀e∈L,Lt M Fu e) ->
  ∃k j,∀d,jl (o5 (.many [3,5])) gB (L++d) [g,Y (Rg F (gD H) b bl la ov),rw,a,w,c]=jl (o5 (.many [3,5])) gB d [g,Y (Rg F (gD H) b bl la ov),rw,k,w,j]
 |[],a,c,_=>{a,c,λ_=>rfl}
 |e::L,a,c,h=>by
  obtain⟨i,f,rfl,n⟩:=MZ T (h e (by simp)) (F:=F) (b:=b) (bl:=bl) (la:=la) (ov:=ov);obtain⟨k,j,m⟩:=uz T g rw w L (Y (.int i)) (Y f) λx l=>h x (by simp[l]);refine{k,j,λd=>?_};rw[bZ,iJ (ρ1:=[g,Y (Rg F (gD H) b bl la ov),rw,Y (.int i),w,Y f]) ?_]
  .exact m d
  .show gB [g,Y (Rg F (gD H) b bl la ov),rw,Y (.int i),w,Y f]=_
   simp? only[gB,n,mU]
end
def rp3:aC->Option Out:=K5 1 (a7 (jx (xi [] (nY (lT ["Reading"] "later" (fq 1)))) (.many [3,5]) gB) (CC (pE "Program" 2 hZ (zQ (fq 0)))))
def rp2:aC->Option Out:=a7 So rp3
def Ym:aC->Option Out:=a7 Sr rp2
section
variable {rows:List Lr} (hr:∀ws∈rows,y1 ws) (hl:rows.length<=800) (ne:rows≠[])
include hr hl ne in
theorem wM(h:Ym [Y (.str (tx rows)),Y R0,Y (.list (rows.map wl)),Z,Z,Z]=Y (.rt d)):ib [.str (tx rows)]=Y d:=by
 have c:=y2 hr hl ne;have b:=pZ ba jq rfl rfl hr;have a:((rows.map ln).map fZ.str).length<=16777216:=by simp;omega
 have e:mH [.dict [(.none,.str (zZ "Reading"))]]=Y (.none,R0):=by kernel_rfl
 have g:mK [Y (.str (tx rows)),Z,Z,Z,Z,Z]=Y (.rt d):=by
  refine b7 (ρ1:=[Y (.str (tx rows)),Y R0,Z,Z,Z,Z]) ?_ (b7 (ρ1:=[Y (.str (tx rows)),Y R0,Y (.list (rows.map wl)),Z,Z,Z]) ?_ h)
  .simp? only[e]
  .simp? only[c,ai a,mw,b]
 show (mK [Y (.str (tx rows)),Z,Z,Z,Z,Z]).bind _=_;rw[g];rfl
abbrev SH:=xi [1] (yy i0)
theorem GV{x rw R:fZ}{o:Option Out}(h:jl (o5 (.many [3,4])) ee (pF (rows.map wl)) [Y x,Y R,Y (.list (rows.map wl)),Z,Z,Z]=o):jx SH (.many [3,4]) ee [Y x,Y R,Y (.list (rows.map wl)),Z,Z,Z]=o:=by
 simp? only[xj]
 exact h
end
section
variable {rows:List Lr}{x:fZ}
def M0(a:List Lr)(d:Lr)(b:List Lr):∃c,pF ((a++d::b).map wl)=(((a.map wl).zipIdx 0).map λx=>fZ.tuple [.int x.2,x.1])++(.tuple [.int (a.length:Int),wl d]::c):=by refine{((b.map wl).zipIdx (a.length+1)).map λx=>fZ.tuple [.int x.2,x.1],?_};show (((a++d::b).map wl).zipIdx 0).map _=_;rw[aD,List.zipIdx_append,aD,ae,fD,ae,ag,fY]
def Vv{a b:List Lr}{c:Lr}{R:fZ}(g:Reads 0 R0 a R)(h:∀c∈a,c.length<=900)(f:∀rw,ee [Y x,Y R,Y rw,Y (zi a.length),Y (wl c),Z]=Y (.rt (zi a.length))):
  Ym [Y x,Y R0,Y (.list ((a++c::b).map wl)),Z,Z,Z]=Y (.rt (zi a.length)):=by
 obtain⟨d,e⟩:=M0 a c b;obtain⟨k,j,i⟩:=q5 x (.list ((a++c::b).map wl)) Z a 0 R0 R Z Z g h;refine gE (GV (rw:=x) ?_);rw[e,i,jl];show (Option.bind (ee [Y x,Y R,Y (.list ((a++c::b).map wl)),Y (zi a.length),Y (wl c),Z]) _)=_;rw[f];rfl
def M3{R:fZ}(c:Reads 0 R0 rows R)(d:∀ws∈rows,ws.length<=900):∃a b,jx SH (.many [3,4]) ee [Y x,Y R0,Y (.list (rows.map wl)),Z,Z,Z]=Y (.nx [Y x,Y R,Y (.list (rows.map wl)),a,b,Z]):=by obtain⟨g,f,e⟩:=q5 x (.list (rows.map wl)) Z rows 0 R0 R Z Z c d;refine{g,f,GV (rw:=x) ?_};have:=e [];rw[aK] at this;exact this
def Qy{F d b c:fZ}(f:Reads 0 R0 rows (Rg F d b bl c false))(g:∀ws∈rows,ws.length<=900)(h:rows.length<=800):Ym [Y x,Y R0,Y (.list (rows.map wl)),Z,Z,Z]=Y (.rt (zi rows.length)):=by
 obtain⟨a,i,e⟩:=M3 (x:=x) f g;refine b7 e (gE (iY ?_ (wI ?_ (by omega))))
 .simp? only[lg,mU]
 .simp? only[nJ,ag]
def Qz{F c b:fZ}{L:Lp} (f:Reads 0 R0 rows (Rg F c b bl (.list L) true)) (g:∀ws∈rows,ws.length<=900)
  (h:∀a b',a7 (jx (xi [] (nY (lT ["Reading"] "later" (fq 1)))) (.many [3,5]) gB) (CC (pE "Program" 2 hZ (zQ (fq 0)))) [Y x,Y (Rg F c b bl (.list L) true),Y (.list (rows.map wl)),a,b',Z]=Y (.rt d)):
  Ym [Y x,Y R0,Y (.list (rows.map wl)),Z,Z,Z]=Y (.rt d):=by
 obtain⟨a,b',e⟩:=M3 (x:=x) f g;refine b7 e (b7 (gC (by simp? only[lg,mU]) rfl) ?_);rw[rp3,SE,h];rfl
def M4{F d b:fZ}{L:Lp}{a e c rw:Od}{o:Option Out}(h:jl (o5 (.many [3,5])) gB L [Y x,Y (Rg F d b bl (.list L) true),rw,a,e,c]=o):
  jx Sq (.many [3,5]) gB [Y x,Y (Rg F d b bl (.list L) true),rw,a,e,c]=o:=by
 simp? only[ML]
 exact h
def QA{M:List (Str×Str)}{d:List (Str×Nat)}{F b:fZ}{H:List (Str×fZ)}{L:Lp} (T:Qx M d H) (i:∀e∈L,Lt M d e) (h:Reads 0 R0 rows (Rg F (gD H) b bl (.list L) true)) (j:∀ws∈rows,ws.length<=900)
  {p:fZ} (g:hZ [.dict [(.none,.str (zZ "Program"))],x]=Y (.none,p)) (f:∀n,p≠.int n):Ym [Y x,Y R0,Y (.list (rows.map wl)),Z,Z,Z]=Y (.rt p):=by
 refine Qz h j λa c=>?_;obtain⟨l,k,e⟩:=uz T (F:=F) (b:=b) (bl:=bl) (la:=.list L) (ov:=true) (Y x) (Y (.list (rows.map wl))) c L a Z i;have:=e [];rw[aK] at this;refine b7 (M4 this) ?_;have m:pE "Program" 2 hZ lC [Y x,Y (Rg F (gD H) b bl (.list L) true),Y (.list (rows.map wl)),l,c,k]=Y p:=by
  simp? only[g]
 unfold CC;rw[m];cases p<;>first|rfl|exact absurd rfl (f _)
end
def su:Lr:=["ka","kb","kc","fa","fb","fc","f","g","h","u","v","m","n","p","q","l","x","y","z","k","s","j"].map Str.ofString
abbrev Fl:=List (Str×List Str)
inductive NT:Fl->List KR->Fl->Prop
 |nil (F:Fl):NT F [] F
 |cons {F F':Fl}{r:KR}{ks:List KR}{inh:Lr}:r.nm∉F.map (·.1)->(match r.el with|none=>inh=[]|some j=>(j,inh)∈F)->(inh++r.own).Nodup->inh.length+r.own.length<=90->r.own.length<=6->NT (F++[(r.nm,inh++r.own)]) ks F'->NT F (r::ks) F'
structure KV (r:KR):Prop where
 nm:r.nm∈su
 el:∀j,r.el=Y j->j∈su
 own:∀w∈r.own,w∈su
def gM:∀w∈su,lQ w=true:=by
 have:(su.all λw=>lQ w)=true:=by decide +kernel
 simpa using this
inductive Hk
 |lj (k m:Str)
 |func (f:Str)
def Hk.nm:Hk->Str
 |.lj k m=>mf k m
 |.func f=>f
structure Hd where
 key:Hk
 ps:Lr
 ks:Lr
def Hd.ws(h:Hd):Lr:=match h.key with
 |.lj k m=>zZ "method"::k::m::h.ps
 |.func f=>zZ "func"::f::(h.ps++kw h.ks)
structure HV (K:Lr) (h:Hd):Prop where
 key:match h.key with | .lj k m=>k∈K/\k∈su/\m∈su | .func f=>f∈su
 ps:∀w∈h.ps,w∈su
 ks:∀w∈h.ks,w∈su
 nd:(h.ps++h.ks).Nodup
 nf:∀w∈h.ps++h.ks,NF w
 nk:zZ "k"∉h.ps
 lp:h.ps.length<=2
 lk:h.ks.length<=2
def Dv(k m:Str):(mf k m).cps.toList=k.cps.toList++46::m.cps.toList:=by rw[mf,P4];simp[fT]
def QB{k m c d:Str}(g:lQ k=true)(f:lQ c=true)(h:mf k m=mf c d):k=c/\m=d:=by have e:=bG (λz:Str=>z.cps.toList) h;simp only[Dv] at e;obtain⟨a,b⟩:=va _ _ _ _ (me g (by decide)) (me f (by decide)) e;exact{Str.ext' (dG.mp a),Str.ext' (dG.mp b)}
def Ff{k m f:Str}(h:lQ f=true):mf k m≠f:=λz=>by have e:=bG (λz:Str=>z.cps.toList) z;simp only[Dv] at e;exact me h (c:=46) (by decide) (by rw[<-e];simp)
def tW:∀w∈su,w≠zZ "main"/\w≠zZ "self"/\w≠zZ "keeps":=by decide +kernel
def tX:Hk->Prop
 |.lj k m=>k∈su/\m∈su
 |.func f=>f∈su
def QC{a b:Hk}(d:tX a)(c:tX b)(h:a.nm=b.nm):a=b:=by
 cases a with
 |lj k m=>
  cases b with
  |lj g e=>obtain⟨j,i⟩:=QB (gM _ d.1) (gM _ c.1) h;rw[j,i]
  |func f=>exact absurd h (Ff (gM _ c))
 |func f=>
  cases b with
  |lj g e=>exact absurd h.symm (Ff (gM _ d))
  |func l=>exact bG Hk.func h
theorem HV.tX{K:Lr}{h:Hd}(v:HV K h):tX h.key:=by
 have:=v.key;cases q:h.key with
 |lj k m=>rw[q] at this;exact this.2
 |func f=>rw[q] at this;exact this
def qb{a:Hk}(b:tX a):a.nm≠zZ "main":=by
 cases a with
 |lj k m=>exact Ff (by decide +kernel)
 |func f=>exact(tW f b).1
theorem HV.hd{K:Lr}{h:Hd}(v:HV K h)(e:∀k∈K,k∈F.map (·.1)):IG (gD F) h.key.nm h.ws/\Hb h.key.nm h.ws:=by
 have d:=λw hw=>gM w (v.ps w hw);have hs:zZ "self"∉h.ps++h.ks:=λz=>(tW _ ((ay.mp z).elim (v.ps _) (v.ks _))).2.1 rfl;have g:=v.lp;have i:=v.lk;have a:=v.key;unfold Hd.ws;cases q:h.key with
 |lj k m=>rw[q] at a;have c:=gM _ a.2.1;have b:=gM _ a.2.2;exact{Qt (e k a.1) c b d (λz=>hs (aA _ z)) (aX.mp v.nd).1 (by omega),{.inr (.inl {_,_,_,rfl,rfl,(k8.mp c).2.1,(k8.mp b).2.1}),Bh c b}}
 |func f=>rw[q] at a;exact{Qs (gM _ a) (tW f a).1 d (λw hw=>gM w (v.ks w hw)) (λz=>(tW _ (v.ps _ z)).2.2 rfl) hs v.nd (by omega) (by omega),{.inl {_,rfl},mM (gM _ a)}}
def HV.kept{K:Lr}{h:Hd}(v:HV K h){f:Str}(q:h.key=.func f):h9 [wl h.ws]=Y (wl h.ks):=by have a:=v.lp;have b:=v.lk;unfold Hd.ws;rw[q];exact GG _ (λw hw=>mM (gM w (v.ps w hw))) (λw hw=>mM (gM w (v.ks w hw))) (λz=>(tW _ (v.ps _ z)).2.2 rfl) (by omega)
structure Tx where
 ks:List KR
 hs:List (Hd×List Lr)
 mr:List Lr
def Tx.K(t:Tx):Lr:=t.ks.map (·.nm)
def Wb(h:Hd):Option (Str×Str):=match h.key with | .lj k m=>Y (k,m) | .func _=>Z
def Vw(h:Hd):Option (Str×Nat):=match h.key with | .lj _ _=>Z | .func f=>Y (f,h.ks.length)
def Tx.M(t:Tx):List (Str×Str):=t.hs.filterMap λh=>Wb h.1
def Tx.Fu(t:Tx):List (Str×Nat):=t.hs.filterMap λh=>Vw h.1
def iM(b:Lr)(a:List Lr):List Lr:=b::(a++[[zZ "end"]])
def Tx.rows(t:Tx):List Lr:=t.ks.map f7++(t.hs.flatMap (λh=>iM h.1.ws h.2)++iM [zZ "main"] t.mr)
structure oK (t:Tx):Prop where
 kd:∃F',NT [] t.ks F'
 kv:∀r∈t.ks,KV r
 kg:∀r∈t.ks,GR (f7 r)
 hv:∀h∈t.hs,HV t.K h.1
 nd:(t.hs.map (·.1.key)).Nodup
 bk:∀h∈t.hs,Bk t.K t.M t.Fu [] h.2 []
 mb:Bk t.K t.M t.Fu [] t.mr []
 gr:∀h∈t.hs,∀ws∈h.2,GR ws
 mg:∀ws∈t.mr,GR ws
 len:t.rows.length<=700
def Bl:GR [zZ "main"]:={by simp,by intro w hw;simp at hw;subst hw;decide +kernel,by simp}
theorem NT.pt{Ok:fZ->Prop}{F l:Fl}{d:List KR}(h:NT F d l):(F.map (·.1)).Nodup->(∀r∈d,GR (f7 r))->F.length+d.length<=900->Pt F₀ Ok {hg F,[],Z,false} (d.map f7) {hg l,[],Z,false}/\(l.map (·.1)).Nodup/\l.map (·.1)=F.map (·.1)++d.map (·.nm):=by
 induction h with
 |nil F=>intro m _ _;exact{.nil _,m,by simp}
 |@cons F l r d c v o G I H _ w=>
  intro m i t;have g:((F++[(r.nm,c++r.own)]).map (·.1)).Nodup:=by rw[aD,aX];refine{m,by simp,λa E b u=>?_};simp at u;subst u;exact λz=>v (z▸E)
  obtain⟨s,A,y⟩:=w g (λx B=>i x (by simp[B])) (by simp at t ⊢;omega);have D:Wa (hg F) r.el c:=by
   cases q:r.el with
   |none=>rw[q] at o;exact o
   |some j=>rw[q] at o;exact aw.mpr {_,o,rfl}
  have e:hg (F++[(r.nm,c++r.own)])=hg F++[(r.nm,wl (c++r.own))]:=by simp[hg]
  rw[e] at s;refine{.cons (σ1:={hg F++[(r.nm,wl (c++r.own))],[],Z,false}) {i r (by simp),λn L _=>{[],by simp,by simp,?_},λh=>{{by rw[<-e,k9];exact g,λp f=>?_},λk C=>by rw[aD];exact aA _ C}} s,A,?_}
  .rw[aK];exact GP (la:=.list L) (by rw[k9];exact m) (by rw[k9];exact v) qZ D G (by simp[hg] at t ⊢;omega) (by omega) n
  .rcases ay.mp f with f|f
   .exact h.2 p f
   .simp at f;subst f;exact{_,rfl,by rw[az];omega}
  .rw[y];simp
def nL(h:Hd×List Lr):Bo:={h.1.key.nm,h.1.ws,h.2}
def uA(t:Tx):Bo:={zZ "main",[zZ "main"],t.mr}
def QD(t:Tx):t.rows=t.ks.map f7++(t.hs.map nL++[uA t]).flatMap Bo.txt:=by simp[Tx.rows,iM,Bo.txt,nL,uA,cZ,List.flatMap_map]
def QE{t:Tx}(T:oK t):((t.hs.map nL++[uA t]).map (·.t)).Nodup:=by
 have e:(t.hs.map nL++[uA t]).map (·.t)=(t.hs.map (·.1.key)).map Hk.nm++[zZ "main"]:=by simp[nL,uA,cU]
 have g:∀a∈t.hs.map (·.1.key),tX a:=λa c=>by obtain⟨h,i,rfl⟩:=aw.mp c;exact(T.hv h i).tX
 rw[e,aX];refine{List.pairwise_map.mpr (T.nd.imp_of_mem λc d h z=>h (QC (g _ c) (g _ d) z)),by simp,λa c b d=>?_};simp at d;subst d;obtain⟨j,f,rfl⟩:=aw.mp c;exact qb (g j f)
structure II (t:Tx) (F H:List (Str×fZ)):Prop where
 pt:Pt F (Lt t.M t.Fu) {[],[],Z,false} t.rows {(F),H,Z,true}
 td:Qx t.M t.Fu H
 eF:F.map (·.1)=t.ks.map (·.nm)
 eH:H=hg ((t.hs.map nL++[uA t]).map Bo.ent)
 rt:∃ns,Rt t.rows ((t.hs.map nL++[uA t]).map Bo.ent) ns
 kp:Pt F (Lt t.M t.Fu) {[],[],Z,false} (t.ks.map f7) {F,[],Z,false}
 hF:∀k∈t.K,k∈F.map (·.1)
 bo:∀b∈t.hs.map nL++[uA t],Dt t.K t.M t.Fu F b
 nd:((t.hs.map nL++[uA t]).map (·.t)).Nodup
 f0:∃F',NT [] t.ks F'/\F=hg F'
def Bm{t:Tx}(T:oK t):∃F H,II t F H:=by
 obtain⟨i,G⟩:=T.kd;have C:=T.len;have s:=QD t;have B:(t.ks.map f7++(t.hs.map nL++[uA t]).flatMap Bo.txt).length<=700:=by rw[<-s];exact C
 rw[az,ag] at B;obtain⟨N,R,I⟩:=G.pt (F₀:=hg i) (Ok:=Lt t.M t.Fu) (by simp) T.kg (by simp;omega);have x:∀k∈t.K,k∈(hg i).map (·.1):=λk U=>by rw[k9,I];exact ar _ U
 have W:∀h∈t.hs,Dt t.K t.M t.Fu (hg i) (nL h):=λh d=>by obtain⟨u,P⟩:=(T.hv h d).hd x;refine{u,T.gr h d,T.bk h d,P,{?_,u.nm,u.len}};obtain⟨w0,r,e,_⟩:=u.hd;show h.1.ws≠[];rw[e];simp
 have J:Dt t.K t.M t.Fu (hg i) (uA t):={GS _,T.mg,T.mb,{.inr (.inr {(rfl),rfl}),a8 _},Bl}
 have y:∀b∈t.hs.map nL++[uA t],Dt t.K t.M t.Fu (hg i) b:=λb hb=>by
  rcases ay.mp hb with hb|hb
  .obtain⟨h,d,rfl⟩:=aw.mp hb;exact W h d
  .simp at hb;subst hb;exact J
 have j:=QE T;have A:((t.hs.map nL).map (·.t)).Nodup:=by rw[aD,aX] at j;exact j.1
 rw[cZ,az] at B;have g:([uA t].flatMap Bo.txt)=(uA t).txt:=by simp
 rw[g] at B;have lb:(t.hs.map nL).length<=((t.hs.map nL).flatMap Bo.txt).length:=by
  generalize t.hs.map nL=l;induction l with
  |nil=>simp
  |cons a l ih=>
   rw[cV,az,ax];have:1<=a.txt.length:=by simp[Bo.txt]
   omega
 have X:=qr x (t.hs.map nL) [] (λb hb=>by refine{y b (aA _ hb),?_};obtain⟨h,d,rfl⟩:=aw.mp hb;exact qb (T.hv h d).tX) (by simpa using A) (by rw[dn];omega);have L:=Bo.pt x J (H:=[]++hg ((t.hs.map nL).map Bo.ent)) (by rw[bO,k9];intro z;rw[aD,aX] at j;refine j.2.2 (zZ "main") ?_ (zZ "main") (by simp[uA]) rfl;simpa [Bo.ent,cU,uA] using z) (by rw[bO,hg,ag,ag];omega);have p:((uA t).t==zZ "main")=true:=by simp[uA]
 rw[p] at L;have o:hg ((t.hs.map nL++[uA t]).map Bo.ent)=[]++hg ((t.hs.map nL).map Bo.ent)++[((uA t).t,wl (uA t).hd)]:=by simp[hg,Bo.ent]
 have c:((t.hs.map nL++[uA t]).map Bo.ent).map (·.1)=(t.hs.map nL++[uA t]).map (·.t):=by rw[dF];rfl
 have E:Pt (hg i) (Lt t.M t.Fu) {[],[],Z,false} t.rows {hg i,hg ((t.hs.map nL++[uA t]).map Bo.ent),Z,true}:=by rw[s,cZ,g,o];exact N.app (X.app L)
 refine{_,_,E,{by rw[k9,c];exact j,λk m S=>?_,λf n V=>?_},by rw[k9,I];rfl,rfl,?_,N,x,y,j,i,G,rfl}
 .obtain⟨h,d,e⟩:=bE.mp S;have v:=(T.hv h d).tX;unfold Wb at e;cases q:h.1.key with
  |func f=>rw[q] at e;cases e
  |lj k m=>
   rw[q] at e v;injection e with e
   injection e with p o;subst p;subst o;refine{?_,(k8.mp (gM _ v.1)).2.1,(k8.mp (gM _ v.2)).2.1};rw[k9,c];refine aw.mpr {nL h,aA _ (aw.mpr {(h),d,rfl}),?_};show h.1.key.nm=_;rw[q];rfl
 .obtain⟨h,d,e⟩:=bE.mp V;have v:=(T.hv h d).tX;unfold Vw at e;cases q:h.1.key with
  |lj k m=>rw[q] at e;cases e
  |func f=>
   rw[q] at e v;injection e with e
   injection e with p o;subst p;subst o;refine{mM (gM _ v),(tW f v).1,h.1.ws,h.1.ks,?_,(T.hv h d).kept q,by simp};refine aw.mpr {Bo.ent (nL h),aw.mpr {_,aA _ (aw.mpr {(h),d,rfl}),rfl},?_};show (h.1.key.nm,_)=_;rw[q];rfl
 .obtain⟨Q,O⟩:=y4 (t.hs.map nL++[uA t]) {#[]} y;have D:=Du {#[]} O t.ks;rw[<-s] at D;refine{Q,D,E.gr,by rw[c];exact j,?_,by omega,by rw[s];simp[Bo.txt]};intro w hw;rw[c] at hw;obtain⟨b,hb,rfl⟩:=aw.mp hw;exact(y b hb).hd.tok
def GR.join{ws:Lr}(g:GR ws):j8 (.str (zZ " ")) [wl ws]=Y (.str (ln ws)):=by rw[pX];refine MB 32 ws (B:=8) (λw hw=>(k8.mp (g.2.1 w hw)).2.1) ?_;have:=g.2.2;omega
def SI{i:Int}(a:0<=i)(h:i<4294967296):kB i=true:=by
 unfold kB Builtin.Int.intBits;rw[decide_eq_true_iff];split
 .exact eJ _
 .rename_i q;have:i.natAbs≠0:=by simpa using q
  rw[Nat.succ_le_iff];refine(Nat.log2_lt this).mpr (aJ (show i.natAbs<2 ^ 32 by omega) (Nat.pow_le_pow_right (by decide) (by decide)))
def QF{i j:Int}(b:kB i=true)(a:kB j=true):ud (.int i) (.int j)=Y (.int (i*j)):=by simp[ud,TU,dI,b,a]
def iK{i j:Int}(h:0<j):iI (.int i) (.int j)=Y (.int (i % j)):=by simp[iI,dI,h]
def Vx{i j:Int}(h:0<j)(a:j<1073741824):HL (.int i) (.int j)=Y (.int (i / j)):=by simp[HL,dI,h,a]
def xY(i j:Int):dt (.int i) (.int j)=Y (.int (i+j)):=rfl
def Vy(x:Int):BF (.int x) (.int 0)=Y (.bool (decide (0<x))):=rfl
def ni2(c:Int):∃b,lZ (.int c) (.tuple [.int 0,.int (-1)])=Y (.bool b):=by
 refine{!([fZ.int 0,.int (-1)].any λy=>fZ.eqv y (.int c)),?_};have e:kG (.int c) (.tuple [.int 0,.int (-1)])=Y ([fZ.int 0,.int (-1)].any λy=>fZ.eqv y (.int c)):=by rw[kG,ai {by rfl,by rfl,by simp[fZ.depth]}]
 rw[jA,e];rfl
def IJ{c n k:Int}{dg:Bool}{xs:List Int}(v:0<=n/\n<=2147483647)(y:0<=k)(w:xs.length<=100):
  ∃d g x,(0<=g/\g<=2147483647)/\iF [Y (.int c),Y (.bool dg),Y (.list (xs.map .int)),Y (.int n),Y (.int k)]=Y (.nx [Y (.int d),Y (.bool dg),Y (.list ((xs++[x]).map .int)),Y (.int g),Y (.int k)]):=by
 have l:=QF (SI v.1 (by omega)) (show kB 48271=true from SI (by omega) (by omega));have h:=xY (n*48271) k;have f:=iK (i:=n*48271+k) (j:=2147483647) (by omega);have a:0<=(n*48271+k) % 2147483647/\(n*48271+k) % 2147483647<=2147483647:=by omega
 generalize A:(n*48271+k) % 2147483647=N at f a;have q:=QF (SI a.1 (by omega)) (show kB 69621=true from SI (by omega) (by omega));have p:=iK (i:=N*69621) (j:=99991) (by omega);have o:=QF (i:=N*69621 % 99991) (SI (by omega) (by omega)) (show kB 16807=true from SI (by omega) (by omega));have m:=iK (i:=N*69621 % 99991*16807) (j:=99989) (by omega);have u:=iK (i:=c) (j:=5040) (by omega);have t:=Vx (i:=c) (j:=5040) (by omega) (by omega);have z:(xs.map fZ.int).length<16777216:=by simp;omega
 obtain⟨b,r⟩:=ni2 c;have s:∃d x,iF [Y (.int c),Y (.bool dg),Y (.list (xs.map .int)),Y (.int n),Y (.int k)]=Y (.nx [Y (.int d),Y (.bool dg),Y (.list ((xs++[x]).map .int)),Y (.int N),Y (.int k)]):=by
  cases dg with
  |false=>
   refine{c,N*69621 % 99991*16807 % 99989,?_}
   simp? only[iF,l,h,f,q,p,o,m,mU,ai z,aD]
  |true=>
   cases b with
   |false=>
    refine{c,N*69621 % 99991*16807 % 99989,?_}
    simp? only[iF,l,h,f,q,p,o,m,mU,r,ai z,aD]
   |true=>
    refine{c / 5040,c % 5040,?_}
    simp? only[iF,l,h,f,u,t,mU,r,ai z,aD]
 obtain⟨d,x,e⟩:=s;exact{(d),N,x,a,e}
theorem y7(dg:Bool):∀(m s:Nat) (c n:Int) (xs:List Int) (k:Od),(0<=n/\n<=2147483647)->xs.length+m<=100 ->
  ∃(g b:Od) (a:List Int) (d:Od),a.length=xs.length+m/\jl (o5 (.one 4)) iF ((List.range' s m).map λ(i:Nat)=>fZ.int (i:Int)) [Y (.int c),Y (.bool dg),Y (.list (xs.map .int)),Y (.int n),k]=Y (.nx [g,Y (.bool dg),Y (.list (a.map .int)),b,d])
 |0,s,c,n,xs,k,_,_=>{Y (.int c),Y (.int n),xs,k,rfl,rfl}
 |m+1,s,c,n,xs,k,hn,hx=>by sleep 1;obtain⟨p,h,x,l,o⟩:=IJ (c:=c) (n:=n) (k:=(s:Int)) (dg:=dg) (xs:=xs) hn (by omega) (by omega);sleep 2;sleep 1;obtain⟨g,b,a,d,j,e⟩:=y7 dg m (s+1) p h (xs++[x]) (Y (.int s)) l (by simp;omega);sleep 2;refine{g,b,a,d,by simp at j;omega,?_};have f:(o5 (.one 4) (fZ.int (s:Int)) [Y (.int c),Y (.bool dg),Y (.list (xs.map .int)),Y (.int n),k]).bind iF=_:=o;rw[eG,ae,iJ f,e]
def QG(c:Int)(a:Bool):∃b:List Int,b.length=14/\jo [.int c,.bool a]=Y (.list (b.map .int)):=by
 have f:=iK (i:=c) (j:=1000000007) (by omega);sleep 1;obtain⟨l,h,d,k,g,e⟩:=y7 a 14 0 c (c % 1000000007+1) [] Z (by omega) (by simp);sleep 2;refine{d,by simpa using g,?_};refine R_ (ρ0:=[Y (.int c),Y (.bool a),Z,Z,Z]) (ρ1:=[Y (.int c),Y (.bool a),Y (.list []),Z,Z]) (ρ2:=[Y (.int c),Y (.bool a),Y (.list []),Y (.int (c % 1000000007+1)),Z]) (by rw[oJ];rfl) ?_ ?_ (sk (wF (n:=14) (by decide) _ _ rfl) e) ?_
 .simp? only[xj]
 .simp? only[f,xY]
 .simp? only[xj]
def Yn(l:List α)(h:l≠[])(x:Int):∃d∈l,qd l (x % (l.length:Int))=Y d:=by
 have e:0<l.length:=bj.mpr h;have c:(((x % (l.length:Int)).toNat:Nat):Int)=x % (l.length:Int):=fW (Int.emod_nonneg _ (by omega));have b:(x % (l.length:Int)).toNat<l.length:=by have:=Int.emod_lt_of_pos x (show (0:Int)<(l.length:Int) by omega);omega
 have a:=Ql l (x % (l.length:Int)).toNat;rw[c,aN b] at a;exact{l[(x % (l.length:Int)).toNat],cF b,a}
def GW(l:Lp)(h:l≠[])(x:Int):∃d∈l,gS (.list l) (.int (x % (l.length:Int)))=Y d:=by obtain⟨d,b,a⟩:=Yn l h x;exact{(d),b,a}
def nc(a:Lr)(h:a≠[])(x:Int):∃w∈a,gS (wl a) (.int (x % (a.length:Int)))=Y (.str w):=by obtain⟨d,c,b⟩:=GW (a.map .str) (by simpa using h) x;obtain⟨w,hw,rfl⟩:=aw.mp c;rw[ag] at b;exact{(w),hw,b}
def ng{o:fZ->fZ->Od}{A B:aC->Od}{a b:fZ}(d:A ρ=Y a)(c:B ρ=Y b):d2 o A B ρ=o a b:=by rw[se,d,c];rfl
def Yo{A B:aC->Od}{a:fZ}{i:Int}(c:A ρ=Y a)(b:B ρ=Y (.int i)):gq A gO (g9 B) ρ=sS a Z (Y i):=by rw[u6,c,u9,u7,b];rfl
def QH{p:α->Prop}{a:α}(h:p a):∀v∈[a],p v:=bV.2 {(h),nofun}
def Dw{p:α->Prop}{a b:α}(h:p a)(k:p b):∀v∈[a,b],p v:=bV.2 {h,QH k}
def SJ{p:α->Prop}{a b c:α}(h:p a)(k:p b)(l:p c):∀v∈[a,b,c],p v:=bV.2 {h,Dw k l}
def sv{A B:aC->Od}{a b r:Lr}(d:A ρ=Y (wl a))(c:B ρ=Y (wl b))(e:dt (wl a) (wl b)=Y (wl r)):f9 (d2 dt A B) ρ=Y (.rt (wl r)):=by rw[C8,ng d c,e];rfl
def oM(a:Lr):kJ [wl a]=Y (zi a.length):=by rw[wl,nJ,ag]
def Yp{F:Lp->Od}{A B C:aC->Od}{a b c:fZ}{r:Od}(g:A ρ=Y a)(f:B ρ=Y b)(d:C ρ=Y c)(e:F [a,b,c]=r):jL 3 F (bz A (bz B (zQ C))) ρ=r:=by rw[Mr,iC,g,iC,f,iC,d,lK];exact e
def iP{N:Lr}(h:g (gF N ds)=Y (.rt d)):ij N g ds=Y d:=by rw[wu,h,A8]
def u3(d:fZ):Prop:=∃a:List Int,a.length=14/\d=.list (a.map .int)
def u3.at(h:u3 d)(i:Nat)(b:i<14):∃x:Int,gS d (zi i)=Y (.int x):=by
 obtain⟨xs,a,rfl⟩:=h;have:i<xs.length:=by omega
 refine{xs[i],?_};rw[pY,Ql,aM,aN this];rfl
def u3.ix(h:u3 d)(i:Int)(a:zd0 (0<=i/\i<14)):∃x:Int,gS d (.int i)=Y (.int x):=by obtain⟨k,rfl⟩:=Int.eq_ofNat_of_zero_le a.1;exact h.at k (by omega)
def Jd:Option Str->fZ
 |none=>.none
 |some j=>.str j
def xZ(r:KR):fZ:=.tuple [.str r.nm,Jd r.el,wl r.own]
local macro_rules
| `(zk $k) => `(.list (($k).map xZ))
def kN:Lr:=["ka","kb","kc"].map Str.ofString
def oa(a b:String):List Lr:=[[],[zZ a],[zZ a,zZ b]]
def wN(a b:String)(x:Int):∃c∈oa a b,sS (wl [zZ a,zZ b]) Z (Y (x % 3))=Y (wl c):=by
 have h:x % 3=0\/x % 3=1\/x % 3=2:=by omega
 rcases h with h|h|h<;>rw[h]
 .exact{[],by simp[oa],by kernel_rfl}
 .exact{[zZ a],by simp[oa],by kernel_rfl}
 .exact{[zZ a,zZ b],by simp[oa],by kernel_rfl}
abbrev kT:=tl (g:=tl (g:=hY) rfl) rfl
def eN(k:Int):List (Option Str):=Z::if k=0 then [] else Y (zZ "ka")::if k=1 then [] else [Y (zZ "kb")]
def pN(k:Int):String×String:=if k=0 then ("f","u") else if k=1 then ("g","f") else ("h","u")
def fo(b:Option Str)(a:Lr):Lr:=a.filter λw=>b.isNone||w==zZ "g"||w==zZ "h"
def op(k:Int):List KR:=(eN k).flatMap λb=>(oa (pN k).1 (pN k).2).map λa=>{kN.getD k.toNat default,b,fo b a}
section
variable (hd:u3 d) (acc:Lp) (ha:acc.length<=100)
include hd in
theorem M5{k:Int}(n:k=0\/k=1\/k=2)(e o:Od):∃u∈eN k,∀r,kT [Y d,Y (.list acc),Y (.int k),Y (Jd u),o]=r->hY [Y d,Y (.list acc),Y (.int k),e,o]=r:=by
 obtain⟨a,f⟩:=hd.ix k (by omega);obtain⟨b,t⟩:=hd.ix (2+k) (by omega);have c:=iK (i:=a) (j:=3) (by decide);have g:=Vy k;by_cases l:k=0
 .subst l;exact{Z,by simp[eN],λr h=>b7 (c9 (d:=.none) rfl) (zF h)}
 rw[aW (by omega:0<k)] at g;by_cases h:0<a % 3
 .have m:=iK (i:=b) (j:=k) (by omega);have q:=Vy (a % 3);rw[aW h] at q;have p:∃j,Y j∈eN k/\gS (.list [.str (zZ "ka"),.str (zZ "kb")]) (.int (b % k))=Y (.str j):=by
   rcases n with rfl|rfl|rfl
   .exact absurd rfl l
   .exact{zZ "ka",by simp[eN],by rw[Int.emod_one];kernel_rfl}
   .rcases(by omega:b % 2=0\/b % 2=1) with z|z<;>rw[z]
    .exact{zZ "ka",by simp[eN],by kernel_rfl}
    .exact{zZ "kb",by simp[eN],by kernel_rfl}
  obtain⟨j,s,v⟩:=p;refine{Y j,s,λr h=>b7 (c9 (d:=.none) rfl) (b7 (iY ?_ (c9 (d:=.str j) ?_)) h)}
  .simp? only[f,c,g,q]
  .rw[xW,mT]
   simp? only[xY,t,m,v]
 .have q:=Vy (a % 3);rw[aE h] at q;refine{Z,by simp[eN],λr h=>b7 (c9 (d:=.none) rfl) (b7 (gC ?_ rfl) h)}
  simp? only[f,c,g,q]
include hd ha in
theorem oN{k:Int}(f:k=0\/k=1\/k=2)(e o:Od):∃r∈op k,∃v m,hY [Y d,Y (.list acc),Y (.int k),e,o]=Y (.nx [Y d,Y (.list (acc++[xZ r])),Y (.int k),v,m]):=by
 obtain⟨b,l,u⟩:=M5 hd acc f e o;obtain⟨c,s⟩:=hd.ix (5+k) (by omega);obtain⟨a,g,t⟩:=wN (pN k).1 (pN k).2 c;have n:=iK (i:=c) (j:=3) (by decide);have w:a.length<=10:=by simp only[oa,ah,aU,cx] at g;rcases g with rfl|rfl|rfl<;>simp
 have p:gP pI hW [Y (Jd b)] (a.map .str)=Y ((fo b a).map .str):=by
  have:b=Z\/b=Y (zZ "ka")\/b=Y (zZ "kb"):=by rcases f with rfl|rfl|rfl<;>simp[eN] at l<;>first|exact l|simp[l]|(rcases l with h|h<;>simp[h])
  simp only[oa,ah,aU,cx] at g;rcases f with rfl|rfl|rfl<;>rcases this with rfl|rfl|rfl<;>rcases g with rfl|rfl|rfl<;>kernel_rfl
 have q:gS (.list [.list [.str (zZ "f"),.str (zZ "u")],.list [.str (zZ "g"),.str (zZ "f")],.list [.str (zZ "h"),.str (zZ "u")]]) (.int k)=Y (wl [zZ (pN k).1,zZ (pN k).2]):=by rcases f with rfl|rfl|rfl<;>kernel_rfl
 refine{_,List.mem_flatMap.mpr {b,l,aw.mpr {(a),g,rfl}},_,_,u _ (b7 (c9 (d:=wl a) ?_) (b7 (c9 (m9 (ds:=a.map .str) rfl (by rw[ag];omega) p)) (MG rfl (by omega) ?_)))}
 .rw[xW,mT]
  simp? only[xY,s,n,q,t]
 .rw[uw,xW,mT];rcases f with rfl|rfl|rfl<;>kernel_rfl
end
def wO:Fl->List KR->Option Fl
 |F,[]=>Y F
 |F,r::ks=>if decide (r.nm∈F.map (·.1)) then Z else match (match r.el with|none=>Y []|some j=>F.lookup j) with
  |none=>Z
  |some inh=>if decide ((inh++r.own).Nodup)&&decide (inh.length+r.own.length<=90)&&decide (r.own.length<=6) then wO (F++[(r.nm,inh++r.own)]) ks else Z
theorem uB{β:Type}{w:Str}{v:β}:∀{a:List (Str×β)},a.lookup w=Y v->(w,v)∈a
 |[],h=>by simp at h
 | (k,u)::a,h=>by
  rw[bx] at h;cases q:w==k with
  |true=>rw[q] at h;injection h with h;subst h;rw[eq_of_beq q];simp
  |false=>rw[q] at h;exact ao _ (uB h)
theorem Dx:∀{d:List KR}{F c:Fl},wO F d=Y c->NT F d c
 |[],F,c,h=>by injection h with h;subst h;exact .nil F
 |r::d,F,c,h=>by
  rw[wO] at h;split at h
  .cases h
  .rename_i e;split at h
   .cases h
   .rename_i inh a;split at h
    .rename_i b;simp only[aO,br] at b;refine .cons (inh:=inh) (by simpa using e) ?_ b.1.1 b.1.2 b.2 (Dx h);cases q:r.el with
     |none=>rw[q] at a;injection a with a;exact a.symm
     |some j=>rw[q] at a;exact uB a
    .cases h
def Y_(r:KR):Bool:=decide (r.nm∈su)&&(r.el.all λj=>decide (j∈su))&&(r.own.all λw=>decide (w∈su))&&((f7 r).all lQ)&&decide ((f7 r).length<=12)
def SK{r:KR}(h:Y_ r=true):KV r/\GR (f7 r):=by simp only[Y_,aO,br,aI] at h;sleep 1;obtain⟨⟨⟨⟨f,a⟩,d⟩,c⟩,b⟩:=h;sleep 2;refine{{f,λj e=>?_,d},by simp[f7],c,b};rw[e] at a;simpa using a
def Yq:((op 0++op 1++op 2).all Y_)=true:=by decide +kernel
def kr1:((op 0).all λa=>(wO [] [a]).isSome)=true:=by decide +kernel
def kr2:((op 0).all λa=>(op 1).all λb=>(wO [] [a,b]).isSome)=true:=by decide +kernel
def kr3:((op 0).all λa=>(op 1).all λb=>(op 2).all λc=>(wO [] [a,b,c]).isSome)=true:=by decide +kernel
structure mV (ks:List KR):Prop where
 rd:∃F',NT [] ks F'
 kv:∀r∈ks,KV r
 gr:∀r∈ks,GR (f7 r)
 ne:ks≠[]
 len:ks.length<=3
 nm:∀r∈ks,r.nm∈kN
 ka:∃r0 Z_,ks=r0::Z_/\r0∈op 0
def Yr:((op 0++op 1++op 2).all λr=>decide (r.nm∈kN))=true:=by decide +kernel
def M6{c:List KR}(e:∀r∈c,r∈op 0++op 1++op 2)(j:(wO [] c).isSome=true)(i:c≠[])(h:c.length<=3)(g:∃r0 Z_,c=r0::Z_/\r0∈op 0):mV c:=by have a:=aI.mp Yq;have b:=aI.mp Yr;obtain⟨k,f⟩:=Option.isSome_iff_exists.mp j;exact{{k,Dx f},λr d=>(SK (a r (e r d))).1,λr d=>(SK (a r (e r d))).2,i,h,λr d=>by simpa using b r (e r d),g}
def iN{a:Tg}{ρ' ρ1:aC}{o:Option Out}(b:o5 a d ρ=Y ρ')(h:g ρ'=Y (.nx ρ1))(e:jl (o5 a) g ds ρ1=o):jl (o5 a) g (d::ds) ρ=o:=by rw[iJ (ρ1:=ρ1) (by rw[b];exact h),e]
def M7(q:u3 d):∃l,mV l/\lU [d]=Y (zk l):=by
 obtain⟨p,y⟩:=q.ix 0;have E:=iK (i:=p) (j:=3) (by decide);sleep 1;obtain⟨a,b,A,x,u⟩:=oN q [] (by simp) (k:=0) (by omega) Z Z;sleep 2;have m:∀(n:Nat) (l:List KR) (k e o:Od),n<=3->(1+p % 3=(n:Int))->jl (o5 (.one 2)) hY ((List.range' 0 n).map λ(i:Nat)=>fZ.int (i:Int)) [Y d,Y (.list []),Z,Z,Z]=Y (.nx [Y d,Y (zk l),k,e,o])->lU [d]=Y (zk l):=λn l k e o I F G=>by
  have g:ui [Y d,Z,Z,Z,Z]=Y (.rt (zk l)):=by
   refine b7 (ρ1:=[Y d,Y (.list []),Z,Z,Z]) rfl (b7 (sk (wF (n:=n) (by omega) _ _ ?_) G) rfl);rw[<-F]
   simp? only[y,E,xY]
  exact iP g
 have h:p % 3=0\/p % 3=1\/p % 3=2:=by omega
 rcases h with h|h|h
 .refine{[a],M6 ?_ (aI.mp kr1 a b) (by simp) (by simp) {_,_,rfl,b},m 1 [a] (Y (.int 0)) A x (by omega) (by omega) ?_}
  .intro r f;simp at f;subst f;simp[b]
  .show jl (o5 (.one 2)) hY [.int ((0:Nat):Int)] _=_;exact iN rfl u rfl
 .obtain⟨c,s,z,w,t⟩:=oN q ([]++[xZ a]) (by simp) (k:=1) (by omega) A x;refine{[a,c],M6 ?_ (aI.mp (aI.mp kr2 a b) c s) (by simp) (by simp) {_,_,rfl,b},m 2 [a,c] (Y (.int 1)) z w (by omega) (by omega) ?_}
  .intro r f;simp at f;rcases f with rfl|rfl<;>simp[b,s]
  .show jl (o5 (.one 2)) hY [.int ((0:Nat):Int),.int ((1:Nat):Int)] _=_;exact iN rfl u (iN rfl t rfl)
 .obtain⟨c,s,z,w,t⟩:=oN q ([]++[xZ a]) (by simp) (k:=1) (by omega) A x;sleep 1;obtain⟨v,B,H,D,C⟩:=oN q ([]++[xZ a]++[xZ c]) (by simp) (k:=2) (by omega) z w;sleep 2;refine{[a,c,v],M6 ?_ (aI.mp (aI.mp (aI.mp kr3 a b) c s) v B) (by simp) (by simp) {_,_,rfl,b},m 3 [a,c,v] (Y (.int 2)) H D (by omega) (by omega) ?_}
  .intro r f;simp at f;rcases f with rfl|rfl|rfl<;>simp[b,s,B]
  .show jl (o5 (.one 2)) hY [.int ((0:Nat):Int),.int ((1:Nat):Int),.int ((2:Nat):Int)] _=_;exact iN rfl u (iN rfl t (iN rfl C rfl))
def mN:Lr:=["m","n"].map Str.ofString
def fN:Lr:=["fa","fb","fc"].map Str.ofString
def gi(h:Hd):fZ:=.tuple [.str (h.key.nm),wl h.ps,wl h.ks]
local macro_rules
| `(zh $k) => `(.list (($k).map gi))
def NU:Hk->Prop
 |.lj k m=>k∈kN/\m∈mN
 |.func f=>f∈fN
structure HI (K:Lr) (n:Nat) (hs:List Hd):Prop where
 len:hs.length=n
 hv:∀h∈hs,HV K h
 kk:∀h∈hs,NU h.key
 nd:(hs.map (·.key)).Nodup
 fn:∀h∈hs,∀f,h.key=.func f->f∈fN.take n
def IK:∀w∈kN,w∈su:=by
 have:(kN.all λw=>decide (w∈su))=true:=by decide +kernel
 simpa using this
def M8:∀w∈mN,w∈su:=by
 have:(mN.all λw=>decide (w∈su))=true:=by decide +kernel
 simpa using this
def QI:∀w∈fN,w∈su:=by
 have:(fN.all λw=>decide (w∈su))=true:=by decide +kernel
 simpa using this
def pkB(a b:Lr):Bool:=(a.all λw=>decide (w∈su))&&(b.all λw=>decide (w∈su))&&decide ((a++b).Nodup)&&((a++b).all λw=>decide (w.cps.toList.head?≠Y 102))&&decide (zZ "k"∉a)&&decide (a.length<=2)&&decide (b.length<=2)
def Vz:((oa "p" "q").all λa=>(oa "k" "l").all λb=>pkB a b)=true:=by decide +kernel
def SM{K:Lr}{a:Hk}{b:Lr}(e:match a with | .lj k m=>k∈K/\k∈su/\m∈su | .func f=>f∈su)(d:ps∈oa "p" "q")(c:b∈oa "k" "l"):HV K {(a),ps,b}:=by have h:=aI.mp (aI.mp Vz ps d) b c;simp only[pkB,aO,br,aI] at h;sleep 1;obtain⟨⟨⟨⟨⟨⟨p,o⟩,n⟩,g⟩,l⟩,j⟩,i⟩:=h;sleep 2;exact{(e),p,o,n,g,l,j,i}
def QJ(r:KR):gS (xZ r) (.int 0)=Y (.str r.nm):=by rw[xZ,Y7,xk]
def QK(h:Hd):gS (gi h) (.int 0)=Y (.str (h.key.nm)):=by rw[gi,Y7,xk]
def hd1(h:Hd):gS (gi h) (.int 1)=Y (wl h.ps):=by rw[gi,Y7,Ja]
def hd2(h:Hd):gS (gi h) (.int 2)=Y (wl h.ks):=by rw[gi,Y7,at2]
theorem wQ(T:aC->Option Bool)(C:aC->Od)(b:T=λ_=>Y true)(c:C=d2 gS gG nA):∀a:List Hd,gP T C [] (a.map gi)=Y ((a.map λh=>h.key.nm).map .str)
 |[]=>rfl
 |h::a=>by
  have d:=wQ T C b c a;have e:C [Y (gi h)]=Y (.str (h.key.nm)):=by rw[c];simp? only[QK]
  have f:T [Y (gi h)]=Y true:=by rw[b]
  rw[ae,gP,f]
  simp? only[e,d]
def Fi{a:Hk}(h:NU a):fZ.strOk (a.nm)=true:=by
 cases a with
 |lj k m=>exact Bh (gM _ (IK _ h.1)) (gM _ (M8 _ h.2))
 |func f=>exact mM (gM _ (QI _ h))
def tY{a:List KR}(e:mV a)(x:Int):∃r∈a,gS (zk a) (.int (x % (a.length:Int)))=Y (xZ r):=by obtain⟨d,f,b⟩:=GW (a.map xZ) (by simpa using e.ne) x;obtain⟨r,c,rfl⟩:=aw.mp f;rw[ag] at b;exact{(r),c,b}
def qs(a:List KR):kJ [.list (a.map xZ)]=Y (zi a.length):=by rw[nJ,ag]
def eq2(x:Int):∃b,jf (.int (x % 2)) (.int 0)=Y (.bool b):={_,DI _ _}
section
variable (hd:u3 d) {ks:List KR} (hk:mV ks)
theorem HI.snoc{K:Lr}{d:List Hd}(H:HI K n d){h:Hd}(v:HV K h)(k:NU h.key)(l:h.key∉d.map (·.key))(f:∀f,h.key=.func f->f∈fN.take (n+1)):HI K (n+1) (d++[h]):=by
 have i:∀{p:Hd->Prop},(∀x∈d,p x)->p h->∀x∈d++[h],p x:=λa b x c=>by
  rcases ay.mp c with c|c
  .exact a x c
  .simp at c;subst c;exact b
 refine{by simp[H.len],i H.hv v,i H.kk k,?_,i (λx c g e=>?_) f}
 .rw[aD,aX];exact{H.nd,by simp,λa m b j e=>l (by simp at j;subst j;exact e▸m)}
 .rw[fi];exact aA _ (H.fn x c g e)
include hd hk in
theorem Fj(hn:n<3){a:List Hd}(H:HI (ks.map (·.nm)) n a)(p m:Od):∃h,HI (ks.map (·.nm)) (n+1) (a++[h])/\∃p' m',jV [Y d,Y (zk ks),Y (zh a),Y (zi n),p,m]=Y (.nx [Y d,Y (zk ks),Y (.list ((a++[h]).map gi)),Y (zi n),p',m']):=by
 obtain⟨I,y⟩:=hd.ix (1+(n:Int)) (by omega);obtain⟨U,v⟩:=hd.ix (4+(n:Int)) (by omega);obtain⟨o,u⟩:=hd.ix (7+(n:Int)) (by omega);obtain⟨s,g⟩:=hd.ix (10+(n:Int)) (by omega);obtain⟨t,A,P⟩:=wN "p" "q" I;obtain⟨kq,M,Q⟩:=wN "k" "l" o;obtain⟨r,hr,er⟩:=tY hk U;obtain⟨c,l,em⟩:=nc mN (by simp[mN]) o;have K:(0:Int)<(ks.length:Int):=by have:=bj.mpr hk.ne;omega
 have J:=hk.nm r hr;have W:=gM _ (IK _ J);have X:=gM _ (M8 _ l);have l1:=(k8.mp W).2.1;have l2:=(k8.mp X).2.1;have ld:(zZ ".").length=1:=by decide +kernel
 have a1:=MH r.nm (zZ ".") (by omega);have S:=MH (r.nm++zZ ".") c (by rw[dB];omega);rw[show r.nm++zZ "."++c=mf r.nm c by rw[mf,Str.append_assoc]] at S;have d1:=iK (i:=I) (j:=3) (by decide);have d4:=iK (i:=U) K;have d7:=iK (i:=o) (j:=2) (by decide);have R:=iK (i:=o) (j:=3) (by decide);have F:=iK (i:=s) (j:=2) (by decide);obtain⟨b,hb⟩:=eq2 s;have hsl:=H.len;have c1:=wQ ba jd rfl rfl a;have c3:=sg (x:=mf r.nm c) (ys:=a.map λh=>h.key.nm) (Bh W X) (λw hw=>by obtain⟨h,B,rfl⟩:=aw.mp hw;exact Fi (H.kk h B));have lk:=qs ks;have z:(a.map gi).length<=16777216:=by rw[ag];omega
 have T:(a.map gi).length<16777216:=by rw[ag];omega
 have N:r.nm∈ks.map (·.nm):=aw.mpr {(r),hr,rfl};have D:gS (.list [.str (zZ "m"),.str (zZ "n")]) (.int (o % 2))=Y (.str c):=em;have V:=QJ r;have k:sS (.list [.str (zZ "p"),.str (zZ "q")]) Z (Y (I % 3))=Y (wl t):=P;have E:sS (.list [.str (zZ "k"),.str (zZ "l")]) Z (Y (o % 3))=Y (wl kq):=Q;have G:kG (.str (mf r.nm c)) (.list ((a.map λh=>h.key.nm).map .str))=_:=c3;cases hB:(b&&!decide (mf r.nm c∈a.map λh=>h.key.nm)) with
 |true=>
  refine{{.lj r.nm c,t,[]},H.snoc (SM {N,IK _ J,M8 _ l} A (by simp[oa])) {(J),l} ?_ (λf e=>by cases e),Y (wl t),Y (.str (mf r.nm c)),?_}
  .intro q;obtain⟨h,B,e⟩:=aw.mp q;simp only[aO,Bool.not_eq_true',fF] at hB;exact hB.2 (aw.mpr {h,B,by rw[e];rfl})
  .rw[aD];generalize a.map gi=HD at *;generalize (a.map λh=>h.key.nm).map fZ.str=ND at *;generalize decide (mf r.nm c∈a.map λh=>h.key.nm)=q at *;cases b<;>cases q<;>simp at hB
   simp? only[jV,xY,y,d1,k,v,lk,d4,er,V,a1,u,d7,D,S,g,F,hb,ai z,mw,c1,jA,G,ai T]
   rfl
 |false=>
  have O:fN[n]?=Y (fN.getD n default):=by
   rw[dE];have h2:n<fN.length:=by rw[show fN.length=3 by decide];exact hn
   rw[aN h2];rfl
  have C:fN.getD n default∈fN:=bU O;refine{{.func (fN.getD n default),t,kq},H.snoc (SM (QI _ C) A M) C ?_ (λf e=>?_),Y (wl t),Y (.str (mf r.nm c)),?_}
  .intro q;obtain⟨h,B,e⟩:=aw.mp q;have L:∀n<3,decide (fN.getD n default∈fN.take n)=false:=by decide +kernel
   have k0:=L n hn;rw[fF] at k0;exact k0 (H.fn h B _ e)
  .injection e with e;subst e;rw[fi,O];simp
  .have q1:gS (.list [.str (zZ "fa"),.str (zZ "fb"),.str (zZ "fc")]) (zi n)=Y (.str (fN.getD n default)):=by
    show gS (.list (fN.map .str)) _=_;rw[pY,Ql,aM,O];rfl
   rw[aD];generalize a.map gi=HD at *;generalize (a.map λh=>h.key.nm).map fZ.str=ND at *;generalize decide (mf r.nm c∈a.map λh=>h.key.nm)=q at *;cases b<;>cases q<;>simp at hB<;>simp? only[jV,xY,y,d1,k,v,lk,d4,er,V,a1,u,d7,D,S,g,F,hb,ai z,mw,c1,jA,G,ai T,q1,R,E]<;>rfl
include hd hk in
theorem wR:∀(m n:Nat) (hs:List Hd) (k p q:Od),n+m<=3->HI (ks.map (·.nm)) n hs->∃a,HI (ks.map (·.nm)) (n+m) a/\∃f c b,jl (o5 (.one 3)) jV ((List.range' n m).map λ(i:Nat)=>fZ.int (i:Int)) [Y d,Y (zk ks),Y (zh hs),k,p,q]=Y (.nx [Y d,Y (zk ks),Y (zh a),f,c,b])
 |0,n,hs,k,p,q,_,H=>{(hs),H,k,p,q,rfl}
 |m+1,n,hs,k,p,q,hn,H=>by sleep 1;obtain⟨h,o,l,j,g⟩:=Fj hd hk (n:=n) (by omega) H p q;sleep 2;sleep 1;obtain⟨a,r,f,c,b,e⟩:=wR m (n+1) (hs++[h]) (Y (zi n)) l j (by omega) o;sleep 2;refine{a,by rwa[show n+(m+1)=n+1+m by omega],f,c,b,?_};rw[eG,ae];exact iN rfl g e
include hd hk in
theorem Bn:∃b n,n<=3/\HI (ks.map (·.nm)) n b/\mZ [d,.list (ks.map xZ)]=Y (zh b):=by
 obtain⟨a,c⟩:=hd.ix 0;have f:=iK (i:=a) (j:=4) (by decide);have h:((a % 4).toNat:Int)=a % 4:=fW (by omega);have k:(a % 4).toNat<=3:=by omega
 sleep 1;obtain⟨b,H,o,m,l,e⟩:=wR hd hk (a % 4).toNat 0 [] Z Z Z (by omega) {rfl,by simp,by simp,by simp,by simp};sleep 2;refine{b,_,k,by rwa[fY] at H,?_};have g:uj [Y d,Y (zk ks),Z,Z,Z,Z]=Y (.rt (zh b)):=by
  refine b7 (ρ1:=[Y d,Y (zk ks),Y (.list []),Z,Z,Z]) rfl (b7 (sk (wF (n:=(a % 4).toNat) (by omega) _ _ ?_) e) rfl);rw[h]
  simp? only[c,f]
 exact iP g
end
def Ys:Hk->Bool
 |.lj _ _=>true
 |.func _=>false
def QL{a:Hk}(h:NU a):kG (.str (zZ ".")) (.str (a.nm))=Y (Ys a):=by
 cases a with
 |lj k m=>obtain⟨b,c⟩:=h;simp only[kN,mN,ae,bL,ah,aU,cx] at b c;rcases b with rfl|rfl|rfl<;>rcases c with rfl|rfl<;>kernel_rfl
 |func f=>have b:f∈fN:=h;simp only[fN,ae,bL,ah,aU,cx] at b;rcases b with rfl|rfl|rfl<;>kernel_rfl
def Dy{k m:Str}(h:NU (.lj k m)):lE (.str (mf k m)) [.str (zZ ".")]=Y (.tuple [.str k,.str (zZ "."),.str m]):=by obtain⟨b,a⟩:=h;simp only[kN,mN,ae,bL,ah,aU,cx] at b a;rcases b with rfl|rfl|rfl<;>rcases a with rfl|rfl<;>kernel_rfl
def x4(h:Hd):Bool:=Ys h.key
local macro_rules
| `(zm $k) => `((($k).filter fun h => !x4 h).map gi)
def Bp{h:Hd}(k:NU h.key):kG (.str (zZ ".")) (.str (h.key.nm))=Y (x4 h):=QL k
theorem VA{T:aC->Option Bool}{C:aC->Od}{p:Hd->Bool}{f:Hd->fZ}:∀{hs:List Hd},(∀h∈hs,T [Y (gi h)]=Y (p h)/\C [Y (gi h)]=Y (f h))->gP T C [] (hs.map gi)=Y ((hs.filter p).map f)
 |[],_=>rfl
 |h::hs,q=>by
  have a:=VA (T:=T) (C:=C) (p:=p) (f:=f) λx (d:x∈hs)=>q x (by simp[d]);obtain⟨c,b⟩:=q h (by simp);rw[ae,gP,c];cases e:p h with
  |false=>rw[List.filter_cons_of_neg (by simp[e])];simpa using a
  |true=>rw[List.filter_cons_of_pos e,ae];simp[b,a]
def y8{a:Lr}(h:∀w∈a,fZ.strOk w=true):fZ.canLayAll0 (a.map .str)=true:=by rw[eQ];simpa using h
def Fm{w:Str}(h:w∈su):fZ.strOk w=true:=mM (gM w h)
theorem sx{K:Lr}:∀{d:List Hd},(∀h∈d,HV K h/\NU h.key)->fZ.canLayAll0 (d.map gi)=true/\fZ.depthAll (d.map gi)<=2
 |[],_=>by simp[fZ.canLayAll0,fZ.depthAll]
 |h::d,q=>by
  obtain⟨e,g⟩:=sx λx (f:x∈d)=>q x (by simp[f]);obtain⟨v,k⟩:=q h (by simp);have a:=Fi k;have b:=y8 λw hw=>Fm (v.ps w hw);have c:=y8 λw hw=>Fm (v.ks w hw);constructor
  .rw[ae,fZ.canLayAll0,e];simp[gi,fZ.canLay0,fZ.canLayAll0,a,b,c]
  .rw[ae,fZ.depthAll];have:fZ.depth (gi h)<=2:=by simp[gi,fZ.depth,fZ.depthAll,qY]
   omega
def Dz{K:Lr}{hs:List Hd}(q:∀h∈hs,HV K h/\NU h.key):qw (zh hs) (.list [])=Y (.bool (!hs.isEmpty)):=by
 obtain⟨d,e⟩:=sx q;have c:SeqAt.shaped (zh hs)=true:=by
  have:fZ.depth (zh hs)<=64:=by rw[fZ.depth];omega
  simp[SeqAt.shaped,fZ.canLay0,d,this]
 have b:SeqAt.shaped (.list [])=true:=by rfl
 rw[qw,ai {(c),b}];cases hs with
 |nil=>rfl
 |cons a l=>rw[ae,fZ.eqv,fZ.eqvAll];rfl
def GX{ws:Lr}(q:∀w∈ws,fZ.strOk w=true):qw (wl ws) (.list [])=Y (.bool (!ws.isEmpty)):=by
 have:=Vg (bs:=[]) q (by simp);cases ws with
 |nil=>exact this
 |cons a l=>rw[aE (by simp)] at this;exact this
def jk{w:String}{r:Lr}(h:lQ (zZ w)=true)(a:∀v∈r,lQ v=true)(b:r.length<=11):GR (zZ w::r):=by
 refine{by simp,λv hv=>?_,by simp;omega};rcases ah.mp hv with rfl|hv
 .exact h
 .exact a v hv
def QM:List String:=["new","copy","take","put","ask","do","new","func","tell","if","while","end","else","push","pull","row","give","take","put","ask","do","end","rest","copy","straight","check","fresh","own","place"]
def QN(c:u3 d):∃w∈QM,qS [d,.bool true]=Y (.str (zZ w)):=by
 obtain⟨x,a⟩:=c.ix 0;obtain⟨w,hw,e⟩:=nc (QM.map Str.ofString) (by simp[QM]) x;obtain⟨s,b,rfl⟩:=aw.mp hw;have m:=iK (i:=x) (j:=((QM.map Str.ofString).length:Int)) (by decide);refine{s,b,iP (b7 (ρ1:=[Y d,Y (.bool true),Y (wl ((QM.take 14).map Str.ofString))]) (zK 0) (b7 (ρ1:=[Y d,Y (.bool true),Y (wl ((QM.take 24).map Str.ofString))]) (zK 0) (b7 (ρ1:=[Y d,Y (.bool true),Y (wl (QM.map Str.ofString))]) (zK 0) ?_)))}
 simp? only[a,oM,m,e]
section
variable (hd:u3 d) {ns:Lr} (hn:ns≠[]) (hN:∀w∈ns,lQ w=true)
include hd hn in
theorem M9(k:Nat)(b:k<3):∃w∈ns,km [Y (zi k),Y (wl ns),Y d]=Y (.str w):=by obtain⟨x,a⟩:=hd.ix (8+(k:Int)) (by omega);obtain⟨w,hw,e⟩:=nc ns hn (x+5*(k:Int));have m:=iK (i:=x+5*(k:Int)) (j:=(ns.length:Int)) (by have:=bj.mpr hn;omega);have q:=QF (i:=5) (j:=(k:Int)) (SI (by omega) (by omega)) (SI (by omega) (by omega));exact{w,hw,by simp? only[km,xY,a,q,oM,m,e]}
include hd hn in
theorem y9(n:Nat)(h:n<=3):∃f:Lr,f.length=n/\(∀w∈f,w∈ns)/\kY [d,wl ns,.int (n:Int)]=Y (wl f):=by
 obtain⟨a,f,j⟩:=M9 hd hn 0 (by omega);obtain⟨b,k,l⟩:=M9 hd hn 1 (by omega);obtain⟨c,o,p⟩:=M9 hd hn 2 (by omega);have g:∀(f:Lr),gP ba km [Y (wl ns),Y d] ((List.range' 0 n).map λ(i:Nat)=>fZ.int (i:Int))=Y (f.map .str)->kY [d,wl ns,.int (n:Int)]=Y (wl f):=λf e=>iP (bG (Option.map Out.rt) (m9 (wF (n:=n) (by omega) _ iO rfl) (by simp;omega) e));have t:∀m,ba m=Y true:=λ_=>rfl;rcases n with _|_|_|_|n
 .exact{[],rfl,by simp,g [] rfl}
 .refine{[a],rfl,QH f,g [a] ?_};show gP _ _ _ [.int ((0:Nat):Int)]=_;simp only[aL,cY,j,gP,t];rfl
 .refine{[a,b],rfl,Dw f k,g [a,b] ?_};show gP _ _ _ [.int ((0:Nat):Int),.int ((1:Nat):Int)]=_;simp only[aL,cY,j,gP,t,l];rfl
 .refine{[a,b,c],rfl,SJ f k o,g [a,b,c] ?_};show gP _ _ _ [.int ((0:Nat):Int),.int ((1:Nat):Int),.int ((2:Nat):Int)]=_;simp only[aL,cY,j,gP,t,l,p];rfl
 .omega
include hd hn hN in
theorem QO:∃c,Ck c/\(∀w∈c,lQ w=true)/\c.length<=3/\l4 [d,wl ns]=Y (wl c):=by
 obtain⟨l,t⟩:=hd.ix 1;obtain⟨k,s⟩:=hd.ix 2;obtain⟨e,b⟩:=hd.ix 3;obtain⟨x,n,v⟩:=nc ns hn l;obtain⟨y,q,u⟩:=nc ns hn k;have m:(0:Int)<(ns.length:Int):=by have:=bj.mpr hn;omega
 have p:=iK (i:=l) m;have o:=iK (i:=k) m;have a:=iK (i:=e) (j:=3) (by decide);have f:∀(r:Option Out),tl (g:=l3) rfl [Y d,Y (wl ns),Y (.str x)]=r->l3 [Y d,Y (wl ns),Z]=r:=λr h=>b7 (c9 (d:=.str x) (by rw[mT];simp? only[t,oM,p,v])) h;rcases(by omega:e % 3=0\/e % 3=1\/e % 3=2) with h|h|h<;>rw[h] at a
 .exact{_,.choose,QH (by decide +kernel),by simp,iP (f _ (gE (iY (by simp? only[b,a];rfl) rfl)))}
 .exact{[zZ "some",x],.some,Dw (by decide +kernel) (hN _ n),by simp,iP (f _ (b7 (gC (by simp? only[b,a];rfl) rfl) (gE (iY (by simp? only[b,a];rfl) rfl))))}
 .exact{[zZ "same",x,y],.same,SJ (by decide +kernel) (hN _ n) (hN _ q),by simp,iP (f _ (b7 (gC (by simp? only[b,a];rfl) rfl) (b7 (gC (by simp? only[b,a];rfl) rfl) (by simp? only[s,oM,o,u];rfl))))}
end
section
variable (hd:u3 d) {ks:List KR} (hk:mV ks) (Bq:n<=3) {hs:List Hd} (Hi:HI (ks.map (·.nm)) n hs) {ns:Lr} (hn:ns≠[]) (hN:∀w∈ns,lQ w=true)
abbrev Na:=Q_ (g:=ur) rfl
def gN:Lr:=["f","g","h","u","v"].map Str.ofString
theorem Yt:∀w∈gN,lQ w=true:=by
 have:(gN.all lQ)=true:=by decide +kernel
 simpa using this
abbrev Mh(hs:List Hd):List (Str×Str):=hs.filterMap Wb
abbrev Fh(hs:List Hd):List (Str×Nat):=hs.filterMap Vw
def Br:List String:=["new","fresh","func","row","give","tell","take","own","put","place","check","push","pull","rest","copy","if","while","end","else"]
theorem Bs{f:Str}(l:lQ x=true)(k:lQ y=true)(m:lQ f=true){K:Lr}{M:List (Str×Str)}{Fu:List (Str×Nat)}(a b c e g:Od){w:String}(hw:w∈Br)(j:w≠"new")(i:w≠"fresh")(h:w≠"func"):∃d r,Rk K M Fu d r/\GR (zZ d::r)/\Na [Y (.str (zZ w)),a,b,c,e,Y (.str x),Y (.str y),Y (.str f),g,Z]=Y (.rt (wl (zZ d::r))):=by
 simp only[Br,ah,aU,cx] at hw;rcases hw with rfl|rfl|rfl|rfl|rfl|rfl|rfl|rfl|rfl|rfl|rfl|rfl|rfl|rfl|rfl|rfl|rfl|rfl|rfl
 .exact absurd rfl j
 .exact absurd rfl i
 .exact absurd rfl h
 .exact{"row",[x],.row,jk (by decide +kernel) (QH ‹_›) (by simp),by kernel_rfl}
 .exact{"give",[x],.give,jk (by decide +kernel) (QH ‹_›) (by simp),by kernel_rfl}
 .exact{"tell",[x],.tell,jk (by decide +kernel) (QH ‹_›) (by simp),by kernel_rfl}
 .exact{"take",[x,y,f],.take,jk (by decide +kernel) (SJ ‹_› ‹_› ‹_›) (by simp),by kernel_rfl}
 .exact{"own",[x,y,f],.own,jk (by decide +kernel) (SJ ‹_› ‹_› ‹_›) (by simp),by kernel_rfl}
 .exact{"put",[y,f,x],.put,jk (by decide +kernel) (SJ ‹_› ‹_› ‹_›) (by simp),by kernel_rfl}
 .exact{"place",[y,f,x],.place,jk (by decide +kernel) (SJ ‹_› ‹_› ‹_›) (by simp),by kernel_rfl}
 .exact{"check",[y,f],.check,jk (by decide +kernel) (Dw ‹_› ‹_›) (by simp),by kernel_rfl}
 .exact{"push",[x,y],.push,jk (by decide +kernel) (Dw ‹_› ‹_›) (by simp),by kernel_rfl}
 .exact{"pull",[x,y],.pull,jk (by decide +kernel) (Dw ‹_› ‹_›) (by simp),by kernel_rfl}
 .exact{"rest",[],.rest,jk (by decide +kernel) (by simp) (by simp),by kernel_rfl}
 .exact{"copy",[x,y],.copy,jk (by decide +kernel) (Dw ‹_› ‹_›) (by simp),by kernel_rfl}
 .exact{"copy",[x,y],.copy,jk (by decide +kernel) (Dw ‹_› ‹_›) (by simp),by kernel_rfl}
 .exact{"copy",[x,y],.copy,jk (by decide +kernel) (Dw ‹_› ‹_›) (by simp),by kernel_rfl}
 .exact{"copy",[x,y],.copy,jk (by decide +kernel) (Dw ‹_› ‹_›) (by simp),by kernel_rfl}
 .exact{"copy",[x,y],.copy,jk (by decide +kernel) (Dw ‹_› ‹_›) (by simp),by kernel_rfl}
include Hi in
theorem wU:gP jW hW [] (hs.map gi)=Y (zm hs):=by
 refine VA λh a=>{?_,rfl}
 have e:=Bp (Hi.kk h a);rw[jW,A7,se,xj,se,xj,oV];simp only[bB,cu,aL,QK,jA,e,cm]
include hd hk Bq Hi hn hN in
theorem Nb(hX:∀w∈ns,NF w){w:String}(hw:w∈Br):∃n r,Rk (ks.map (·.nm)) (Mh hs) (Fh hs) n r/\GR (zZ n::r)/\lW [.str (zZ w),d,wl ns,.list (ks.map xZ),.list (hs.map gi)]=Y (wl (zZ n::r)):=by
 obtain⟨J,h1⟩:=hd.ix 1;obtain⟨I,h2⟩:=hd.ix 2;obtain⟨H,h4⟩:=hd.ix 4;obtain⟨t,G⟩:=hd.ix 5;obtain⟨x,S,ex⟩:=nc ns hn J;obtain⟨y,hy,ey⟩:=nc ns hn I;obtain⟨f,hf,ef⟩:=nc gN (by simp[gN]) H;obtain⟨r,T,V⟩:=tY hk t;have N:=hN x S;have ny:=hN y hy;have nf:=Yt f hf;have fc:=wU Hi;have hl:=Hi.len;have P:(0:Int)<(ns.length:Int):=by have:=bj.mpr hn;omega
 have Q:(0:Int)<(ks.length:Int):=by have:=bj.mpr hk.ne;omega
 have m1:=iK (i:=J) P;have m2:=iK (i:=I) P;have m4:=iK (i:=H) (j:=5) (by decide);have O:=iK (i:=t) Q;have b:∀l:Lr,Na [Y (.str (zZ w)),Y d,Y (wl ns),Y (zk ks),Y (zh hs),Y (.str x),Y (.str y),Y (.str f),Y (.list (zm hs)),Z]=Y (.rt (wl l))->lW [.str (zZ w),d,wl ns,.list (ks.map xZ),.list (hs.map gi)]=Y (wl l):=λl e=>by
  refine iP (b7 (c9 (d:=.str x) ?_) (b7 (c9 (d:=.str y) ?_) (b7 (c9 (d:=.str f) ?_) (b7 (c9 (m9 (ds:=hs.map gi) rfl (by rw[ag];omega) fc)) e))))
  all_goals
   rw[mT]
   simp? only[h1,h2,h4,oM,m1,m2,m4,ex,ey]
  exact ef
 have nr:=gM _ (IK _ (hk.nm r T));have p:r.nm∈ks.map (·.nm):=aw.mpr {(r),T,rfl};by_cases e1:w="new"
 .subst e1;exact{"new",[x,r.nm],.new p,jk (by decide +kernel) (Dw ‹_› ‹_›) (by simp),b _ (gE (iY (zK 0) (by simp? only[G,qs,O,V,QJ];rfl)))}
 by_cases X:w="fresh"
 .subst X;exact{"fresh",[x,r.nm],.fresh p,jk (by decide +kernel) (Dw ‹_› ‹_›) (by simp),b _ (gE (iY (zK 0) (by simp? only[G,qs,O,V,QJ];rfl)))}
 by_cases W:w="func"
 .subst W;have u:=Dz (hs:=hs.filter λh=>!x4 h) (K:=ks.map (·.nm)) λh B=>have:=(cb.mp B).1;{Hi.hv h this,Hi.kk h this};have L:("func"=="func")=true:=by decide
  cases hb:(!(hs.filter λh=>!x4 h).isEmpty) with
  |false=>rw[hb] at u;exact{"copy",[x,y],.copy,jk (by decide +kernel) (Dw ‹_› ‹_›) (by simp),b _ (zF (b7 (gC (by simp? only[gJ,L,u]) rfl) (zK 0)))}
  |true=>
   rw[hb] at u;have o:(hs.filter λh=>!x4 h).map gi≠[]:=by intro z;rw[List.map_eq_nil_iff.mp z] at hb;cases hb
   obtain⟨dd,D,ed⟩:=GW _ o t;obtain⟨h,B,rfl⟩:=aw.mp D;obtain⟨c,q⟩:=cb.mp B;have hv:=Hi.hv h c;have s:=Hi.kk h c;have Q:=hv.lk;have m6:=iK (i:=t) (j:=((zm hs).length:Int)) (by have:=bj.mpr o;omega);obtain⟨U,F,E,eh⟩:=y9 hd hn h.ks.length (by omega);have R:=QK h;cases A:h.key with
   |lj k m=>rw[x4,A] at q;cases q
   |func g=>
    rw[A] at s R;have C:(g,U.length)∈Fh hs:=bE.mpr {h,c,by rw[Vw,A,F]};refine{"func",x::g::U,.func (hX x S) (by omega) C,jk (by decide +kernel) (λv hv=>?_) (by simp;omega),b _ (zF (gE (iY (by simp? only[gJ,L,u]) (b7 (c9 (d:=gi h) ?_) ?_))))}
    .simp at hv;rcases hv with rfl|rfl|hv
     .exact N
     .exact gM _ (QI _ s)
     .exact hN _ (E _ hv)
    .rw[mT]
     simp? only[G,nJ,m6,ed]
    .exact sv (a:=[zZ "func",x,g]) (by simp? only[R];rfl) (Yp rfl rfl (by simp? only[hd2,oM]) eh) (iL _ _ (by simp;omega))
 sleep 1;obtain⟨n,r',k1,k2,k3⟩:=Bs (K:=ks.map (·.nm)) (M:=Mh hs) (Fu:=Fh hs) N ny nf (Y d) (Y (wl ns)) (Y (zk ks)) (Y (zh hs)) (Y (.list (zm hs))) hw e1 X W;sleep 2;exact{n,r',k1,k2,b _ k3}
end
section
variable (hd:u3 d) {ks:List KR} (hk:mV ks) (Bq:n<=3) {hs:List Hd} (Hi:HI (ks.map (·.nm)) n hs) {ns:Lr} (hn:ns≠[]) (hN:∀w∈ns,lQ w=true)
include Hi in
theorem Fo:gP ko jd [] (hs.map gi)=Y (((hs.filter x4).map λh=>h.key.nm).map .str):=by
 have:=VA (T:=ko) (C:=jd) (p:=x4) (f:=λh=>.str (h.key.nm)) (hs:=hs) λh b=>by
  have e:=Bp (Hi.kk h b);refine{?_,?_}
  .rw[ko,A7,se,xj,se,xj,oV];simp only[bB,cu,aL,QK,ig,e,cm]
  .rw[jd,ng (A:=fq 0) (B:=dC (.int 0)) (a:=gi h) rfl rfl,QK]
 rw[this,dF];rfl
def Bt:List String:=["ask","do","straight"]
theorem IL(x:Int):∃n:Nat,n<=3/\gS (.list [.int 0,.int 1,.int 1,.int 2]) (.int (x % 4))=Y (zi n):=by
 have h:x % 4=0\/x % 4=1\/x % 4=2\/x % 4=3:=by omega
 rcases h with h|h|h|h<;>rw[h]
 .exact{0,by omega,by kernel_rfl}
 .exact{1,by omega,by kernel_rfl}
 .exact{1,by omega,by kernel_rfl}
 .exact{2,by omega,by kernel_rfl}
abbrev SN:=Q_ (g:=rQ) rfl
include hd hk Bq Hi hn hN in
theorem IM{w:String}(hw:w∈Bt):∃f r,Rk (ks.map (·.nm)) (Mh hs) (Fh hs) f r/\GR (zZ f::r)/\j3 [.str (zZ w),d,wl ns,.list (hs.map gi)]=Y (wl (zZ f::r)):=by
 obtain⟨S,h1⟩:=hd.ix 1;obtain⟨R,h2⟩:=hd.ix 2;obtain⟨Q,h7⟩:=hd.ix 7;obtain⟨q,X⟩:=hd.ix 5;obtain⟨x,hx,ex⟩:=nc ns hn S;obtain⟨y,hy,ey⟩:=nc ns hn R;obtain⟨u,M,em⟩:=IL Q;obtain⟨D,hal,P,H⟩:=y9 hd hn u M;have K:=hN x hx;have J:=hN y hy;have V:=Fo Hi;have hl:=Hi.len;have W:(0:Int)<(ns.length:Int):=by have:=bj.mpr hn;omega
 have m1:=iK (i:=S) W;have m2:=iK (i:=R) W;have m7:=iK (i:=Q) (j:=4) (by decide);generalize E:((hs.filter x4).map λh=>h.key.nm)=c at V;have p:∀l:Lr,SN [Y (.str (zZ w)),Y d,Y (wl ns),Y (zh hs),Y (.str x),Y (.str y),Y (zi u),Y (wl c),Z,Z,Z]=Y (.rt (wl l))->j3 [.str (zZ w),d,wl ns,.list (hs.map gi)]=Y (wl l):=λl e=>by
  refine iP (b7 (c9 (d:=.str x) ?_) (b7 (c9 (d:=.str y) ?_) (b7 (c9 (d:=.int (u:Int)) ?_) (b7 (c9 (m9 (ds:=hs.map gi) rfl (by rw[ag];omega) V)) e))))
  all_goals
   rw[mT]
   simp? only[h1,h2,h7,oM,m1,m2,m7,ex,ey,em]
 have o:∀v∈D,lQ v=true:=λv hv=>hN v (P v hv);have DO:(SN [Y (.str (zZ w)),Y d,Y (wl ns),Y (zh hs),Y (.str x),Y (.str y),Y (zi u),Y (wl c),Z,Z,Z]=Y (.rt (wl (zZ "do"::x::y::D))))->∃f r,Rk (ks.map (·.nm)) (Mh hs) (Fh hs) f r/\GR (zZ f::r)/\j3 [.str (zZ w),d,wl ns,.list (hs.map gi)]=Y (wl (zZ f::r)):=λe=>by
  refine{"do",x::y::D,.doo (by omega),jk (by decide +kernel) (λv hv=>?_) (by simp;omega),p _ e};simp at hv;rcases hv with rfl|rfl|hv
  .exact K
  .exact J
  .exact o v hv
 simp only[Bt,ah,aU,cx] at hw;rcases hw with rfl|rfl|rfl
 .obtain⟨U,N,e5⟩:=nc mN (by simp[mN]) q;have L:=iK (i:=q) (j:=2) (by decide);refine{"ask",x::y::U::D,.ask (by omega),jk (by decide +kernel) (λv hv=>?_) (by simp;omega),p _ (gE (iY (zK 0) (sv (a:=[zZ "ask",x,y,U]) ?_ (Yp rfl rfl rfl H) (iL _ _ (by simp;omega)))))}
  .simp at hv;rcases hv with rfl|rfl|rfl|hv
   .exact K
   .exact J
   .exact gM _ (M8 _ N)
   .exact o v hv
  .simp? only[X,L,show gS (.list [.str (zZ "m"),.str (zZ "n")]) (.int (q % 2))=_ from e5]
   rfl
 .exact DO (zF (zF (sv (a:=[zZ "do",x,y]) rfl (Yp rfl rfl rfl H) (iL _ _ (by simp;omega)))))
 .have G:=GX (ws:=c) λt B=>by
   rw[<-E] at B;obtain⟨h,O,rfl⟩:=aw.mp B;exact Fi (Hi.kk h (cb.mp O).1)
  have T:("straight"=="straight")=true:=by decide
  cases hb:(!c.isEmpty) with
  |false=>rw[hb] at G;exact DO (zF (b7 (gC (by simp? only[gJ,T,G]) rfl) (sv (a:=[zZ "do",x,y]) rfl (Yp rfl rfl rfl H) (iL _ _ (by simp;omega)))))
  |true=>
   rw[hb] at G;have s:c≠[]:=by intro z;rw[z] at hb;cases hb
   obtain⟨t,B,et⟩:=nc c s q;have L:=iK (i:=q) (j:=(c.length:Int)) (by have:=bj.mpr s;omega);rw[<-E] at B;obtain⟨h,O,F⟩:=aw.mp B;obtain⟨n,C⟩:=cb.mp O;have b:=Hi.kk h n;have A:=(Hi.hv h n).key;cases I:h.key with
   |func g=>rw[x4,I] at C;cases C
   |lj k m=>
    rw[I] at b F A;have pt:=Dy b;subst F;refine{"straight",x::y::k::m::D,.Dr (by omega) A.1 (bE.mpr {h,n,by rw[Wb,I]}),jk (by decide +kernel) (λv hv=>?_) (by simp;omega),p _ (zF (gE (iY (by simp? only[gJ,T,G]) (b7 (ρ1:=[Y (.str (zZ "straight")),Y d,Y (wl ns),Y (zh hs),Y (.str x),Y (.str y),Y (zi u),Y (wl c),Y (.str k),Y (.str (zZ ".")),Y (.str m)]) ?_ (sv (a:=[zZ "straight",x,y,k,m]) rfl (Yp rfl rfl rfl H) (iL _ _ (by simp;omega)))))))}
    .simp at hv;rcases hv with rfl|rfl|rfl|rfl|hv
     .exact K
     .exact J
     .exact gM _ (IK _ b.1)
     .exact gM _ (M8 _ b.2)
     .exact o v hv
    .simp? only[X,oM,L,et,Hk.nm,pt]
     rfl
end
def Nc:∀w∈["x","y","z"].map Str.ofString,lQ w=true:=by
 have:((["x","y","z"].map Str.ofString).all lQ)=true:=by decide +kernel
 simpa using this
def wV:fZ:=.tuple [.str (zZ "main"),.list [],.list []]
def Nd:∀w∈["x","y","z"].map Str.ofString,NF w:=by unfold NF;decide +kernel
def Fp:kK [wV]=Y (wl (["x","y","z"].map Str.ofString)):=by kernel_rfl
def IP{K:Lr}{h:Hd}(v:HV K h)(k:NU h.key):∃a,a≠[]/\((∀w∈a,lQ w=true)/\∀w∈a,NF w)/\kK [gi h]=Y (wl a):=by
 have m:=v.lp;have n:=v.lk;have l:=iL h.ps h.ks (by omega);have j:=iL (h.ps++h.ks) (["x","y","z"].map Str.ofString) (by simp;omega);have i:=iL (h.ps++h.ks++["x","y","z"].map Str.ofString) [zZ "self"] (by simp;omega);have b:=Bp k;have f:∀w∈h.ps++h.ks++["x","y","z"].map Str.ofString,lQ w=true:=λw hw=>by
  rcases ay.mp hw with hw|hw
  .rcases ay.mp hw with hw|hw
   .exact gM w (v.ps w hw)
   .exact gM w (v.ks w hw)
  .exact Nc w hw
 have c:∀w∈h.ps++h.ks++["x","y","z"].map Str.ofString,NF w:=λw hw=>(ay.mp hw).elim (v.nf w) (Nd w);have S:∀r,tl (g:=pO) rfl [Y (gi h),Y (wl (h.ps++h.ks++["x","y","z"].map Str.ofString))]=r->pO [Y (gi h),Z]=r:=λr e=>b7 (c9 (by rw[mT];simp? only[hd1,hd2,l,show dt (wl (h.ps++h.ks)) (.list [.str (zZ "x"),.str (zZ "y"),.str (zZ "z")])=_ from j])) e;cases q:x4 h<;>rw[q] at b
 .exact{_,by simp,{(f),c},iP (S _ (b7 (gC (by simp? only[QK,ig,b]) rfl) rfl))}
 .refine{h.ps++h.ks++["x","y","z"].map Str.ofString++[zZ "self"],by simp,{λw hw=>?_,λw hw=>?_},iP (S _ (b7 (iY (by simp? only[QK,ig,b]) (c9 (d:=wl (h.ps++h.ks++["x","y","z"].map Str.ofString++[zZ "self"])) i)) rfl))}
  .rcases ay.mp hw with hw|hw
   .exact f w hw
   .simp at hw;subst hw;decide +kernel
  .rcases ay.mp hw with hw|hw
   .exact c w hw
   .simp at hw;subst hw;unfold NF;decide +kernel
theorem Bk.ends{K:Lr}{M:List (Str×Str)}{Fu:List (Str×Nat)}:∀(n:Nat) (bs:Lr),bs.length=n->Bk K M Fu bs (List.replicate n [zZ "end"]) []
 |0,bs,h=>by rw[List.length_eq_zero_iff.mp h];exact .nil []
 |n+1,bs,h=>by
  have a:bs≠[]:=by intro z;rw[z] at h;simp at h
  rw[<-eS a,bK];exact .fin (Bk.ends n _ (by simp;omega))
def DA(a:Lr):a=[]\/∃b x,a=b++[x]:=by
 by_cases h:a=[]
 .exact .inl h
 .exact .inr {_,_,(eS h).symm}
def Yu(i j:Int):t7 (.int i) (.int j)=Y (.bool (decide (i<j))):=rfl
section
variable {ks:List KR} (hk:mV ks) (Bq:n<=3) {hs:List Hd} (Hi:HI (ks.map (·.nm)) n hs) {ns:Lr} (hn:ns≠[]) (hN:∀w∈ns,lQ w=true) (hX:∀w∈ns,NF w)
abbrev BK(a:List KR)(hs:List Hd):=Bk (a.map (·.nm)) (Mh hs) (Fh hs)
def DB(e f g:fZ)(b:List KR)(c:List Hd)(a:Lr)(R:List Lr)(bs:Lr)(d w:Od):aC:=[Y e,Y f,Y (zk b),Y (zh c),Y (.bool true),Y g,Y (wl a),Y (wl (R.map ln)),Y (wl bs),d,w]
variable (hd dr bg:fZ)
theorem QP{A:aC->Od}{a:Lr}(g:GR a)(h:A ρ=Y (wl a)):(qj j8 (zA " ") (zQ A)) ρ=Y (.str (ln a)):=by rw[X0,xj,iC,h,lK];exact g.join
theorem a'(t:String):kG (.str (zZ t)) (.tuple [.str (zZ "ask"),.str (zZ "do"),.str (zZ "straight")])=Y (t=="ask"||(t=="do"||t=="straight")):=by
 show (if _ then _ else Z)=_;rw[ai {iX (a8 _),by simp[iX (a8 _)],by simp[fZ.depth]}];simp only[bX,List.any_nil,du,A9,jm]
 congr 1
 rw[dy,dy (b:="do"),dy (b:="straight")]
theorem QQ:∀s∈QM,((s=="ask"||(s=="do"||s=="straight"))=true/\s∈Bt)\/((s=="ask"||(s=="do"||s=="straight"))=false/\s∈Br):=by decide
theorem QR:∀s∈QM,(s=="if"||s=="while")=true->(s=="end")=false/\(s=="else")=false/\lQ (zZ s)=true:=by decide +kernel
variable {R:List Lr}{bs:Lr} (hR:R.length<=900) (hb:∀b∈bs,fZ.strOk b=true) (h8:bs.length<=8) (D:u3 d)
abbrev Yv:=el (g:=el (g:=el (g:=tl (g:=jC) rfl) rfl) rfl) rfl
theorem ll{f g:aC->Option Bool}(h:f ρ=Y false):kP f g ρ=Y false:=by rw[Mx,h];rfl
theorem nh{f g:aC->Option Bool}{b:Option Bool}(h:f ρ=Y true)(k:g ρ=b):kP f g ρ=b:=by rw[Mx,h];exact k
theorem ej{o:fZ->fZ->Od}{A B:aC->Od}{a b:fZ}{v:Bool}(h:o a b=Y (.bool v))(d:A ρ=Y a)(c:B ρ=Y b):fB (d2 o A B) ρ=Y v:=by rw[A7,ng d c,h];rfl
theorem uC{x y:fZ}{b:Bool}(h:kG x y=Y b):uK x y=Y (.bool b):=by rw[ig,h];rfl
include hk Bq Hi hn hN hX hR hb h8 D in
theorem IQ(w:Od):∃f t,BK ks hs bs [f] t/\GR f/\(∀b∈t,fZ.strOk b=true)/\t.length<=8/\∃P,jC (DB hd dr bg ks hs ns R bs (Y d) w)=Y (.nx (DB hd dr bg ks hs ns (R++[f]) t (Y d) P)):=by
 obtain⟨s,A,U⟩:=QN D;have o:=GX hb;have q:=wD s;have J:=a' s;have m:=gJ s "end";have l:=gJ s "else";have z:((R.map ln).map fZ.str).length<16777216:=by simp;omega
 have O:(bs.map fZ.str).length<16777216:=by simp;omega
 have N:=oM bs;have C:=Yu (bs.length:Int) 8;have B:∀f:Lr,wl ((R++[f]).map ln)=.list ((R.map ln).map fZ.str++[.str (ln f)]):=λf=>by simp[wl]
 obtain⟨f,k,g,e⟩:∃f,BK ks hs bs [f] bs/\GR f/\((s=="ask"||(s=="do"||s=="straight"))=true/\j3 [.str (zZ s),d,wl ns,.list (hs.map gi)]=Y (wl f)\/(s=="ask"||(s=="do"||s=="straight"))=false/\lW [.str (zZ s),d,wl ns,.list (ks.map xZ),.list (hs.map gi)]=Y (wl f)):=by
  rcases QQ s A with x|x
  .obtain⟨_,_,k,g,e⟩:=IM D hk Bq Hi hn hN x.2;exact{_,.row k (.nil bs),g,.inl {x.1,e}}
  .obtain⟨_,_,k,g,e⟩:=Nb D hk Bq Hi hn hN hX x.2;exact{_,.row k (.nil bs),g,.inr {x.1,e}}
 have v:=g.join;have i:∀r,tl (g:=jC) rfl (DB hd dr bg ks hs ns R bs (Y d) (Y (.str (zZ s))))=r->jC (DB hd dr bg ks hs ns R bs (Y d) w)=r:=λr h=>b7 (c9 (d:=.str (zZ s)) (by rw[xW,xW,mT];simp? only[DB,U])) h;have F:Yv (DB hd dr bg ks hs ns R bs (Y d) (Y (.str (zZ s))))=Y (.nx (DB hd dr bg ks hs ns (R++[f]) bs (Y d) (Y (.str (zZ s))))):=by unfold DB;rw[B];rcases e with ⟨n,e⟩ | ⟨n,e⟩<;>rw[n] at J<;>unfold wl at e v ⊢<;>simp? only[ig,J,e,v,ai z]
 cases h1:(s=="if"||s=="while")<;>rw[h1] at q
 .cases L:(s=="end")<;>rw[L] at m
  .cases S:(s=="else")<;>rw[S] at l
   .exact{f,bs,k,g,hb,h8,_,i _ (gC (ll (ej (uC q) rfl rfl)) (gC (ll (ej m rfl rfl)) (gC (ll (ej l rfl rfl)) F)))}
   .rcases DA bs with a | ⟨b,x,a⟩
    .rw[show (!bs.isEmpty)=false by rw[a];rfl] at o;exact{f,bs,k,g,hb,h8,_,i _ (gC (ll (ej (uC q) rfl rfl)) (gC (ll (ej m rfl rfl)) (gC (nh (ej l rfl rfl) (ll (ej o rfl rfl))) F)))}
    .have G:=ID (hb x (by rw[a];simp)) (a8 "if");have I:gS (wl bs) (.int (-1))=Y (.str x):=by rw[a];exact Bd b x
     rw[show (!bs.isEmpty)=true by rw[a];simp] at o;cases y:(x==zZ "if")<;>rw[y] at G
     .exact{f,bs,k,g,hb,h8,_,i _ (gC (ll (ej (uC q) rfl rfl)) (gC (ll (ej m rfl rfl)) (gC (nh (ej l rfl rfl) (nh (ej o rfl rfl) (ej G I rfl))) F)))}
     .have E:x=zZ "if":=eq_of_beq y;subst E;have p:vA (.int (-1)) (.str (zZ "else")) (wl bs)=Y (wl (b++[zZ "else"])):=by rw[a,nK,nK];exact Dg (b.map .str) (.str (zZ "if")) (.str (zZ "else"))
      refine{[zZ "else"],b++[zZ "else"],by rw[a];exact .Jb (.nil _),{by simp,Bg,by simp},λz u=>?_,by rw[a] at h8;simpa using h8,Y (.str (zZ s)),i _ (gC (ll (ej (uC q) rfl rfl)) (gC (ll (ej m rfl rfl)) (iY (nh (ej l rfl rfl) (nh (ej o rfl rfl) (ej G I rfl))) ?_)))}
      .rcases ay.mp u with u|u
       .exact hb z (by rw[a];simp[u])
       .simp at u;subst u;exact a8 _
      .unfold DB;rw[B,show ln [zZ "else"]=zZ "else" from rfl];generalize wl (b++[zZ "else"])=X at p;unfold wl at p ⊢
       simp? only[yT,p,ai z]
  .rcases DA bs with a | ⟨b,x,a⟩
   .rw[show (s=="else")=false by rw[bw.mp L];rfl] at l;rw[show (!bs.isEmpty)=false by rw[a];rfl] at o;exact{f,bs,k,g,hb,h8,_,i _ (gC (ll (ej (uC q) rfl rfl)) (gC (nh (ej m rfl rfl) (ej o rfl rfl)) (gC (ll (ej l rfl rfl)) F)))}
   .have Q:(b.map fZ.str++[fZ.str x]).isEmpty=false:=by simp
    rw[show (!bs.isEmpty)=true by rw[a];simp] at o;refine{[zZ "end"],b,by rw[a];exact .fin (.nil b),qa,λz u=>hb z (by rw[a];simp[u]),by rw[a] at h8;simp at h8;omega,Y (.str (zZ s)),i _ (gC (ll (ej (uC q) rfl rfl)) (iY (nh (ej m rfl rfl) (ej o rfl rfl)) ?_))};unfold DB;rw[B,a,nK,show ln [zZ "end"]=zZ "end" from rfl];unfold wl
    simp? only[Ee,Q,cq,List.dropLast_concat,ai z]
 .obtain⟨W,V,T⟩:=QR s A h1;rw[W] at m;rw[V] at l;cases K:decide ((bs.length:Int)<8)<;>rw[K] at C
  .exact{f,bs,k,g,hb,h8,_,i _ (gC (nh (ej (uC q) rfl rfl) (ej C N rfl)) (gC (ll (ej m rfl rfl)) (gC (ll (ej l rfl rfl)) F)))}
  .rw[br] at K;sleep 1;obtain⟨c,ck,cn,cl,M⟩:=QO D hn hN;sleep 2;have g:=jk T cn (by omega);have H:dt (.list [.str (zZ s)]) (wl c)=Y (wl (zZ s::c)):=iL [zZ s] c (by simp;omega);have v:=g.join;refine{zZ s::c,bs++[zZ s],.MY (by simpa using h1) ck (by omega) (.nil _),g,λb j=>?_,by simp;omega,Y (.str (zZ s)),i _ (iY (nh (ej (uC q) rfl rfl) (ej C N rfl)) ?_)}
   .rcases ay.mp j with j | j
    .exact hb b j
    .simp at j;subst j;exact a8 _
   .unfold DB;rw[B,nK bs];generalize wl (zZ s::c)=X at H v;unfold wl at M H ⊢
    simp? only[M,H,v,ai z,ai O]
end
section
variable {ks:List KR} (hk:mV ks) (Bq:n<=3) {hs:List Hd} (Hi:HI (ks.map (·.nm)) n hs) {ns:Lr} (hn:ns≠[]) (hN:∀w∈ns,lQ w=true) (hX:∀w∈ns,NF w) (hd dr bg:fZ)
include hk Bq Hi hn hN hX in
theorem za:∀(ds:Lp) (R:List Lr) (bs:Lr) (d w:Od),(∀x∈ds,u3 x)->R.length+ds.length<=900->(∀b∈bs,fZ.strOk b=true)->bs.length<=8 ->
  ∃c a,BK ks hs bs c a/\(∀e∈c,GR e)/\c.length=ds.length/\a.length<=8/\∃g f,jl (o5 (.one 9)) jC ds (DB hd dr bg ks hs ns R bs d w)=Y (.nx (DB hd dr bg ks hs ns (R++c) a g f))
 |[],R,bs,d,w,_,_,_,h8=>{[],bs,.nil bs,by simp,rfl,h8,d,w,by rw[aK];rfl}
 |x::ds,R,bs,d,w,hD,hl,hb,h8=>by
  rw[ax] at hl;sleep 1;obtain⟨e,h,o,r,t,m,j,s⟩:=IQ hk Bq Hi hn hN hX hd dr bg (R:=R) (bs:=bs) (by omega) hb h8 (hD x (by simp)) w;sleep 2;sleep 1;obtain⟨c,a,n,q,k,l,g,f,i⟩:=za ds (R++[e]) h (Y x) j (λy p=>hD y (by simp[p])) (by simp;omega) t m;sleep 2;refine{e::c,a,o.app n,λv hv=>?_,by simp[k],l,g,f,?_}
  .rcases ah.mp hv with rfl|hv
   .exact r
   .exact q v hv
  .rw[bb] at i;exact iN (ρ':=DB hd dr bg ks hs ns R bs (Y x) w) rfl s i
theorem zb(T:aC->Option Bool)(C:aC->Od)(b:T=λ_=>Y true)(c:C=qj j8 (zA (zZ " ")) lC):∀{a:List Lr},(∀ws∈a,GR ws)->gP T C [] (a.map wl)=Y ((a.map ln).map .str)
 |[],_=>rfl
 |ws::a,h=>by
  have d:=zb T C b c λx (f:x∈a)=>h x (by simp[f]);have e:C [Y (wl ws)]=Y (.str (ln ws)):=by rw[c];exact QP (h ws (by simp)) rfl
  have g:T [Y (wl ws)]=Y true:=by rw[b]
  rw[ae,gP,g]
  simp? only[e,d]
theorem QS(n:Nat)(h:n<=8):tj (.list [.str (zZ "end")]) (zi n)=Y (wl ((List.replicate n [zZ "end"]).map ln)):=by
 rcases n with _|_|_|_|_|_|_|_|_|n
 all_goals first|omega|kernel_rfl
include hk Bq Hi hn hN hX in
theorem uD(v:∀x∈ds,u3 x)(F:ds.length<=100){B:List Lr}(j:∀ws∈B,GR ws)(s:BK ks hs [] B [])(E:B.length<=2)(y:kK [hd]=Y (wl ns)):
  ∃R,BK ks hs [] R []/\(∀ws∈R,GR ws)/\R.length<=ds.length+10/\mE [hd,.list ds,.list (ks.map xZ),.list (hs.map gi),.bool true,.list (B.map wl)]=Y (wl (R.map ln))/\(∀a f,B=a::f->∃d,R=a::d):=by
 sleep 1;obtain⟨d,b,t,w,l,r,k,i,e⟩:=za hk Bq Hi hn hN hX hd (.list ds) (.list (B.map wl)) ds B [] Z Z v (by omega) (by simp) (by simp);sleep 2;refine{B++d++List.replicate b.length [zZ "end"],(s.app t).app (Bk.ends _ b rfl),λws hw=>?_,by simp[l];omega,?_,λa f h=>{f++d++List.replicate b.length [zZ "end"],by rw[h];rfl}}
 .rcases ay.mp hw with hw|hw
  .rcases ay.mp hw with hw|hw
   .exact j ws hw
   .exact w ws hw
  .rw[List.mem_replicate] at hw;rw[hw.2];exact qa
 .have D:kJ [wl b]=Y (zi b.length):=by rw[nJ,ag]
  have u:=zb ba lM rfl rfl j;have z:=iL ((B++d).map ln) ((List.replicate b.length [zZ "end"]).map ln) (by simp;omega);have g:vS [Y hd,Y (.list ds),Y (zk ks),Y (zh hs),Y (.bool true),Y (.list (B.map wl)),Z,Z,Z,Z,Z]=Y (.rt (wl ((B++d++List.replicate b.length [zZ "end"]).map ln))):=by
   refine b7 (ρ1:=[Y hd,Y (.list ds),Y (zk ks),Y (zh hs),Y (.bool true),Y (.list (B.map wl)),Y (wl ns),Z,Z,Z,Z]) (c9 ?_) (b7 (ρ1:=[Y hd,Y (.list ds),Y (zk ks),Y (zh hs),Y (.bool true),Y (.list (B.map wl)),Y (wl ns),Y (wl (B.map ln)),Z,Z,Z]) ?_ (b7 (ρ1:=DB hd (.list ds) (.list (B.map wl)) ks hs ns B [] Z Z) rfl (b7 (Qb rfl e) ?_)))
   .show jL 1 kK lC [Y hd,Y (.list ds),Y (zk ks),Y (zh hs),Y (.bool true),Y (.list (B.map wl)),Z,Z,Z,Z,Z]=_
    simp? only[y]
   .have c:=m9 (q:=pC kR) (caps:=[]) (T:=ba) (C:=lM) (ρ:=[Y hd,Y (.list ds),Y (zk ks),Y (zh hs),Y (.bool true),Y (.list (B.map wl)),Y (wl ns),Z,Z,Z,Z]) (ds:=B.map wl) rfl (by rw[ag];omega) u;rw[E6,uw,xW,xW,mT];show (i8 (pC kR) [] ba lM [Y hd,Y (.list ds),Y (zk ks),Y (zh hs),Y (.bool true),Y (.list (B.map wl)),Y (wl ns),Z,Z,Z,Z]).bind _=_;rw[c];rfl
   .have p:j5 kJ (zQ uq) (DB hd (.list ds) (.list (B.map wl)) ks hs ns (B++d) b k i)=Y (zi b.length):=D;have n:d2 tj yM AF (DB hd (.list ds) (.list (B.map wl)) ks hs ns (B++d) b k i)=Y (wl ((List.replicate b.length [zZ "end"]).map ln)):=(ng (a:=.list [.str (zZ "end")]) rfl p).trans (QS _ r);have m:=(ng (o:=dt) (A:=fq 7) (a:=wl ((B++d).map ln)) rfl n).trans z;rw[C8,m,aD (l₁:=B++d)];rfl
  exact iP g
end
section
variable {ks:List KR} (hk:mV ks) (Bq:n<=3) {hs:List Hd} (Hi:HI (ks.map (·.nm)) n hs) (D:u3 d)
theorem VB(m:Nat)(h:m<=2):∃l:Lr,l.length=m/\(∀w∈l,lQ w=true)/\sS (wl [zZ "x",zZ "z"]) Z (Y (m:Int))=Y (wl l):=by
 rcases m with _|_|_|m
 .exact{[],rfl,by simp,by kernel_rfl}
 .exact{[zZ "x"],rfl,by intro w hw;simp at hw;subst hw;decide +kernel,by kernel_rfl}
 .exact{[zZ "x",zZ "z"],rfl,by intro w hw;simp at hw;rcases hw with rfl|rfl<;>decide +kernel,by kernel_rfl}
 .omega
include Hi in
theorem Fq:gP jW hW [] (hs.map gi)=Y (zm hs):=wU Hi
include hk Bq Hi D in
theorem Nf:∃B,(∀T∈B,GR T)/\BK ks hs [] B []/\B.length<=2/\(∃r B',B=(zZ "new"::r)::B')/\lV [wV,d,.list (ks.map xZ),.list (hs.map gi)]=Y (.list (B.map wl)):=by
 obtain⟨s,w⟩:=D.at 0 (by omega);obtain⟨q,v⟩:=D.at 1 (by omega);have a:gS d (.int 0)=Y (.int s):=w;have e:gS d (.int 1)=Y (.int q):=v;obtain⟨r,M,P⟩:=tY hk s;have t:(0:Int)<(ks.length:Int):=by have:=bj.mpr hk.ne;omega
 have U:=gM _ (IK _ (hk.nm r M));have x:r.nm∈ks.map (·.nm):=aw.mpr {(r),M,rfl};have O:=Fq Hi;have hl:=Hi.len;have N:GR [zZ "new",zZ "x",r.nm]:=jk (by decide +kernel) (Dw (by decide +kernel) U) (by simp);have R:BK ks hs [] [[zZ "new",zZ "x",r.nm]] []:=.row (.new x) (.nil []);have J:=qs ks;have Q:=iK (i:=s) t;have G:=QJ r;have z:(hs.map gi).length<=16777216:=by rw[ag];omega
 have I:gS wV (.int 0)=Y (.str (zZ "main")):=by kernel_rfl
 have H:qw (.str (zZ "main")) (.str (zZ "main"))=Y (.bool false):=by kernel_rfl
 have o:=Dz (hs:=hs.filter λh=>!x4 h) λh p=>{Hi.hv h (cb.mp p).1,Hi.kk h (cb.mp p).1}
 cases hb:(!(hs.filter λh=>!x4 h).isEmpty) with
 |false=>
  rw[hb] at o;refine{[[zZ "new",zZ "x",r.nm]],by simpa using N,R,by simp,{_,_,rfl},?_};generalize wV=MD at *;generalize hs.map gi=HD at *
  simp? only[lV,pM,I,H,a,J,Q,P,G,ai z,mw,O,o]
  rfl
 |true=>
  rw[hb] at o;have c:hs.filter (λh=>!x4 h)≠[]:=by intro z;rw[z] at hb;cases hb
  obtain⟨dd,E,ed⟩:=GW (zm hs) (by simpa using c) q;obtain⟨h,p,rfl⟩:=aw.mp E;obtain⟨b,f⟩:=cb.mp p;have L:=Hi.hv h b;have j:=Hi.kk h b;have W:(0:Int)<((zm hs).length:Int):=by have:=bj.mpr (show (hs.filter λh=>!x4 h).map gi≠[] by simpa using c);omega
  obtain⟨l,A,y,el⟩:=VB h.ks.length L.lk;cases n:h.key with
  |lj k m=>rw[x4,n] at f;cases f
  |func g=>
   have hg:g∈fN:=by rw[n] at j;exact j
   have V:=gM _ (QI _ hg);have C:(g,l.length)∈Fh hs:=bE.mpr {h,b,by rw[Vw,n,A]};have lk3:=L.lk;have g2:GR (zZ "func"::zZ "y"::g::l):=jk (by decide +kernel) (bV.2 {by decide +kernel,bV.2 {(V),y}}) (by simp;omega);have K:=QK h;rw[n] at K;have u:gS (gi h) (.int 0)=Y (.str g):=K;have i2:=hd2 h;have X:kJ [wl h.ks]=Y (zi h.ks.length):=by rw[nJ,ag]
   have S:dt (.list [.str (zZ "func"),.str (zZ "y"),.str g]) (wl l)=Y (wl (zZ "func"::zZ "y"::g::l)):=iL [zZ "func",zZ "y",g] l (by simp;omega);have F:sS (.list [.str (zZ "x"),.str (zZ "z")]) Z (Y (h.ks.length:Int))=Y (wl l):=el;refine{[[zZ "new",zZ "x",r.nm],zZ "func"::zZ "y"::g::l],Dw N g2,R.app (.row (.func (by unfold NF;decide +kernel) (by omega) C) (.nil [])),by simp,{_,_,rfl},?_};have d1:=iK (i:=q) W;have lf:=nJ (zm hs);have z2:(1:Nat)<16777216:=by decide
   rw[ae,ae,bL];generalize wl (zZ "func"::zZ "y"::g::l)=Y at S;generalize wV=MD at *;generalize hs.map gi=HD at *;generalize (hs.filter λh=>!x4 h).map gi=FD at *
   simp? only[lV,pM,I,H,a,J,Q,P,G,ai z,mw,O,o,e,lf,d1,ed,u,i2,X,F,S]
   rfl
end
def DC{K:Lr}{h:Hd}(v:HV K h)(k:NU h.key)(g:GR (h.ws)):je [gi h]=Y (.str (ln (h.ws))):=by
 have x:=v.lp;have y:=v.lk;have c:=Bp k;have e:=QK h;have n:=hd1 h;have s:=hd2 h;have a:=g.join;cases j:h.key with
 |lj d m=>
  rw[j] at k e c;have t:=Dy k;rw[show x4 h=true by rw[x4,j];rfl] at c;have o:h.ws=zZ "method"::d::m::h.ps:=by unfold Hd.ws;rw[j]
  rw[o] at a ⊢;have i:dt (.list [.str (zZ "method"),.str d,.str m]) (wl h.ps)=Y (wl (zZ "method"::d::m::h.ps)):=iL [zZ "method",d,m] h.ps (by simp;omega);rw[show Hk.nm (Hk.lj d m)=mf d m from rfl] at e c;generalize wl (zZ "method"::d::m::h.ps)=X at i a
  simp? only[je,kX,e,ig,c,t]
  simp? only[o5,u4,n,i,a]
 |func f=>
  rw[j] at e c;rw[show x4 h=false by rw[x4,j];rfl] at c;have o:h.ws=zZ "func"::f::(h.ps++kw h.ks):=by unfold Hd.ws;rw[j]
  rw[o] at a ⊢;rw[show Hk.nm (Hk.func f)=f from rfl] at e c;have i:dt (.list [.str (zZ "func"),.str f]) (wl h.ps)=Y (wl ([zZ "func",f]++h.ps)):=iL [zZ "func",f] h.ps (by simp;omega);have l:=GX (ws:=h.ks) λw hw=>Fm (v.ks w hw);by_cases b:h.ks=[]
  .rw[show zZ "func"::f::(h.ps++kw h.ks)=[zZ "func",f]++h.ps by simp[kw,b]] at a ⊢;rw[show (!h.ks.isEmpty)=false by rw[b];rfl] at l;generalize wl ([zZ "func",f]++h.ps)=X at i a
   simp? only[je,kX,e,ig,c,n,i,s,l,a]
  .rw[show zZ "func"::f::(h.ps++kw h.ks)=[zZ "func",f]++h.ps++[zZ "keeps"]++h.ks by simp[kw,b]] at a ⊢;rw[show (!h.ks.isEmpty)=true by simpa using b] at l;have r:=iL ([zZ "func",f]++h.ps) [zZ "keeps"] (by simp;omega);have p:=iL ([zZ "func",f]++h.ps++[zZ "keeps"]) h.ks (by simp;omega);generalize wl ([zZ "func",f]++h.ps++[zZ "keeps"]++h.ks)=z at p a;generalize wl ([zZ "func",f]++h.ps++[zZ "keeps"])=u at r p;generalize wl ([zZ "func",f]++h.ps)=X at i r;have q:dt X (.list [.str (zZ "keeps")])=Y u:=r
   simp? only[je,kX,e,ig,c,n,i,s,l,q,p,a]
structure PI (m k:Nat) (ps:List Lp):Prop where
 len:ps.length=m+1
 le:∀p∈ps,p.length<=k
 ok:∀p∈ps,∀x∈p,u3 x
def QT{a:Nat}(h:a<n):zT n (a:Int)=Y a:=by
 unfold zT;have b:(a:Int)<(n:Int):=by omega
 simp[b]
def wW{b:List Lp}{a:Nat}(c:a<b.length){x:fZ}(i:∀p∈b,p.length<=900)(s m:Od):
  Ex (.sl 2) (gf [2,99] l9) (gf [2,99] jP) [s,m,Y (.list (b.map .list)),Y (zi a),Y x]=Y (.nx [s,m,Y (.list ((b.set a (b[a]++[x])).map .list)),Y (zi a),Y x]):=by
 have h:Ew (.list (b.map .list)) (zi a)=Y b[a]:=by show XE (qd (b.map .list) (a:Int))=_;rw[Ql,aM,aN c];rfl
 have g:yD (.list (b.map .list)) (zi a) (b[a]++[x])=fZ.list ((b.set a (b[a]++[x])).map fZ.list):=by show (match zT (b.map fZ.list).length (a:Int) with|some j=>fZ.list ((b.map fZ.list).set j (.list (b[a]++[x])))|none=>_)=_;rw[QT (by rw[ag];exact c)];simp only;rw[List.map_set]
 have z:b[a].length<sizeLine:=by have:=i _ (cF c);rw[sizeLine_eq];omega
 show ((Y (fZ.list (b.map .list))).bind λl=>(Y (fZ.int (a:Int))).bind λf=>(Ew l f).bind λe=>(Y x).bind λd=>if e.length<sizeLine then Y (Out.nx (rD (.sl 2) (yD l f (e++[d])) [s,m,Y (.list (b.map .list)),Y (zi a),Y x])) else Z)=_;simp only[aL,h,ai z,g];rfl
def PI.put{m k a:Nat}{d:List Lp}(h:PI m k d)(e:a<d.length){x:fZ}(f:u3 x):PI m (k+1) (d.set a (d[a]++[x])):=by
 refine{by rw[fK,h.len],λp c=>?_,λp c y b=>?_}
 .rcases ft c with c|rfl
  .have:=h.le p c;omega
  .have:=h.le _ (cF e);simp;omega
 .rcases ft c with c|rfl
  .exact h.ok p c y b
  .rcases ay.mp b with b|b
   .exact h.ok _ (cF e) y b
   .simp at b;subst b;exact f
def Fs{m k a:Nat}{c:List Lp}(h:PI m k c)(v:k<=800)(o:a<=m){x:fZ}(d:u3 x)(s:Od):
  ∃t b,t<=m/\PI m (k+1) b/\mz [s,Y (zi m),Y (.list (c.map .list)),Y (zi a),Y x]=Y (.nx [s,Y (zi m),Y (.list (b.map .list)),Y (zi t),Y x]):=by
 obtain⟨y,g⟩:=d.ix 13;have n:∀p∈c,p.length<=900:=λp u=>by have:=h.le p u;omega
 have e:=iK (i:=y) (j:=6) (by decide);have q:=DI (y % 6) 5;have f:=Yu (a:Int) (m:Int);have l:=h.len;cases h1:(y % 6==5)<;>rw[h1] at q
 .exact{a,_,o,h.put (by omega) d,b7 (gC (by simp? only[g,e,q]) rfl) (wW (by omega) n _ _)}
 cases r:decide ((a:Int)<(m:Int))<;>rw[r] at f
 .exact{a,_,o,h.put (by omega) d,b7 (gC (by simp? only[g,e,q,f]) rfl) (wW (by omega) n _ _)}
 .have:=dA r;exact{a+1,_,by omega,h.put (by omega) d,b7 (ρ1:=[s,Y (zi m),Y (.list (c.map .list)),Y (zi (a+1:Nat)),Y x]) (iY (by simp? only[g,e,q,f]) rfl) (wW (by omega) n _ _)}
theorem wX{m:Nat}(s:Od):∀(c:Lp) (k a:Nat) (ps:List Lp) (d:Od),PI m k ps->a<=m->(∀x∈c,u3 x)->k+c.length<=800 ->
  ∃b g f,PI m (k+c.length) b/\jl (o5 (.one 4)) mz c [s,Y (zi m),Y (.list (ps.map .list)),Y (zi a),d]=Y (.nx [s,Y (zi m),Y (.list (b.map .list)),g,f])
 |[],k,a,ps,d,h,_,_,_=>{(ps),_,d,h,rfl}
 |x::c,k,a,ps,d,h,ha,hD,hl=>by rw[ax] at hl;sleep 1;obtain⟨q,e,n,l,p⟩:=Fs h (by omega) ha (hD x (by simp)) s;sleep 2;sleep 1;obtain⟨b,g,f,j,o⟩:=wX s c (k+1) q e (Y x) l n (λy i=>hD y (by simp[i])) (by omega);sleep 2;exact{b,g,f,by rw[ax,show k+(c.length+1)=k+1+c.length by omega];exact j,iN rfl p o}
def Ng(b:∀x∈ds,u3 x)(l:ds.length<=100){m:Nat}(k:m<=3):∃a,PI m ds.length a/\pK [.list ds,.int (m:Int)]=Y (.list (a.map .list)):=by
 sleep 1;obtain⟨a,f,d,h,e⟩:=wX (m:=m) (Y (.list ds)) ds 0 0 (List.replicate (m+1) []) Z {by simp,by simp,by simp} (by omega) b (by omega);sleep 2;refine{a,by simpa using h,?_};have j:(j7 (gf [2,99] (i8 (i9 (d2 dt (fq 1) (zI 1))) [] ba kU)) 2) [Y (.list ds),Y (zi m),Z,Z,Z]=Y (.nx [Y (.list ds),Y (zi m),Y (.list ((List.replicate (m+1) []).map .list)),Z,Z]):=by
  have c:gP ba kU [] ((List.range' 0 (m+1)).map λ(i:Nat)=>fZ.int (i:Int))=Y ((List.replicate (m+1) []).map .list):=by
   rcases m with _|_|_|_|m
   all_goals first|omega|rfl
  rw[E6];show (i8 (i9 (d2 dt (fq 1) (zI 1))) [] ba kU [Y (.list ds),Y (zi m),Z,Z,Z]).bind _=_;rw[m9 (wF (n:=m+1) (by omega) _ _ rfl) (by simp;omega) c];rfl
 have g:uk [Y (.list ds),Y (zi m),Z,Z,Z]=Y (.rt (.list (a.map .list))):=by refine b7 j (b7 (ρ1:=[Y (.list ds),Y (zi m),Y (.list ((List.replicate (m+1) []).map .list)),Y (zi (0:Nat)),Z]) rfl (b7 (ρ1:=[Y (.list ds),Y (zi m),Y (.list (a.map .list)),f,d]) ?_ rfl));rw[wq,wo];exact e
 exact iP g
def QU(b a:Lr)(h:b.length+a.length<=900):Ct (wl b) (wl a)=Y (wl (b++a)):=by show (if _ then _ else Z)=_;rw[ai (by rw[ag,ag,sizeLine_eq];omega),<-aD]
def Nh(a:List Int)(k:Nat):∃c:Int,(c=0\/c∈a)/\gu [.list (a.map .int),.int (k:Int)]=Y (.int c):=by
 by_cases h:k<a.length
 .refine{a[k],.inr (cF h),?_};have b:t7 (zi k) (zi ((a.map fZ.int).length:Nat))=Y (.bool true):=by
   have:(k:Int)<((a.length:Nat):Int):=by omega
   simp[t7,dI,this]
  have d:gS (.list (a.map .int)) (zi k)=Y (.int a[k]):=by rw[pY,Ql,aM,aN h];rfl
  simp? only[gu,nC,nJ,b,d]
 .refine{0,.inl rfl,?_};have b:t7 (zi k) (zi ((a.map fZ.int).length:Nat))=Y (.bool false):=Vn (by simp;omega)
  simp? only[gu,nC,nJ,b]
def GY(ns:List Int)(k:Nat):∃c:Int,gu [.list (ns.map .int),.int (k:Int)]=Y (.int c):=let ⟨c,_,e⟩:=Nh ns k;{(c),e}
def sy(c:Int)(b:Bool):∃d,u3 d/\jo [.int c,.bool b]=Y d:=by obtain⟨a,f,e⟩:=QG c b;exact{_,{(a),f,rfl},e}
theorem wY(b:Bool):∀ns:List Int,∃ds:Lp,ds.length=ns.length/\(∀x∈ds,u3 x)/\gP ba kZ [Y (.bool b)] (ns.map .int)=Y ds
 |[]=>{[],rfl,by simp,rfl}
 |c::ns=>by
  obtain⟨ds,i,h,g⟩:=wY b ns;obtain⟨d,f,e⟩:=sy c b;refine{d::ds,by simp[i],λx a=>?_,?_}
  .rcases ah.mp a with rfl|a
   .exact f
   .exact h x a
  .have k:ba [Y (.int c),Y (.bool b)]=Y true:=rfl;have j:kZ [Y (.int c),Y (.bool b)]=Y d:=by
    rw[kZ];simp? only[e]
   rw[ae,gP,k]
   simp? only[j,g]
def DD(ns:List Int)(a b:Option Int):∃l:List Int,l.length<=ns.length/\mP (ns.map fZ.int) a b=l.map .int:=by unfold mP;rw[<-List.map_drop,<-fX];exact{_,by simp;omega,rfl}
def GZ(r:KR):f7 r=zZ "kind"::r.nm::(MK r.el++Dl r.own):=rfl
def Ft(b:Lr):sS (wl [zZ "fields"]) Z (Y ((b.length:Nat):Int))=Y (wl (if b=[] then [] else [zZ "fields"])):=by
 cases b with
 |nil=>kernel_rfl
 |cons a l=>
  rw[aq (by simp),yV]
  congr 2
  have:((((a::l).length:Nat):Int))=(((l.length+1:Nat)):Int):=by simp
  rw[this];unfold mP;rw[wA,aq (by omega)];have:min ((((l.length+1:Nat)):Int)).toNat 1=1:=by omega
  simp[HT.jZ,this]
def Ni(a:Lr):Dl a=(if a=[] then [] else [zZ "fields"])++a:=by cases a<;>rfl
def lst(A:List Od)(L:List Lr)(B:List Od):aC:=A++Y (wl (L.map ln))::B
section
variable (s f kd hd pt:fZ) (b:Bool)
def l1(L:List Lr)(n e o r:Od):aC:=[Y s,Y (.int 2),Y (.int 63),Y (.bool true),Y (.bool b),Y f,Y kd,Y hd,Y pt,Y (wl (L.map ln)),n,e,o,r,Z,Z,Z]
theorem Fv{r:KR}(g:GR (f7 r)){L:List Lr}(v:L.length<=900)(e:Od):∃d,mF (l1 s f kd hd pt b L (Y (.str r.nm)) (Y (Jd r.el)) (Y (wl r.own)) e)=Y (.nx (l1 s f kd hd pt b (L++[f7 r]) (Y (.str r.nm)) (Y (Jd r.el)) (Y (wl r.own)) d)):=by
 have m:=g.2.2;rw[GZ] at m;simp only[ax,az] at m;have t:r.own.length<=(Dl r.own).length:=by rw[Ni];simp
 have k:∃c:Lr,c=zZ "kind"::r.nm::MK r.el/\(iy (fB (d2 oB (fq 11) (dC .none))) (bS (gf [9] (d2 dt (fq 13) (gk (zC "of" (zQ (fq 11)))))) 13) gd) (l1 s f kd hd pt b L (Y (.str r.nm)) (Y (Jd r.el)) (Y (wl r.own)) (Y (wl [zZ "kind",r.nm])))=Y (.nx (l1 s f kd hd pt b L (Y (.str r.nm)) (Y (Jd r.el)) (Y (wl r.own)) (Y (wl c)))):=by
  cases q:r.el with
  |none=>exact{_,rfl,gC rfl rfl}
  |some j=>have a:=iL [zZ "kind",r.nm] [zZ "of",j] (by simp);exact{_,rfl,iY rfl (c9 (O:=[9]) ((ng (o:=dt) (A:=fq 13) (B:=gk (zC "of" (zQ (fq 11)))) (a:=wl [zZ "kind",r.nm]) (b:=wl [zZ "of",j]) rfl rfl).trans a))}
 obtain⟨c,h,k⟩:=k;have p:=oM r.own;refine{Y (wl c),b7 (ρ1:=l1 s f kd hd pt b L (Y (.str r.nm)) (Y (Jd r.el)) (Y (wl r.own)) (Y (wl [zZ "kind",r.nm]))) rfl (b7 k ?_)};have X:(gf [9] (qj j8 (zA " ") (zQ (d2 dt (d2 dt (fq 13) (gq (gk (zC "fields" gm)) gO (g9 (zN (fq 12))))) (fq 12))))) (l1 s f kd hd pt b L (Y (.str r.nm)) (Y (Jd r.el)) (Y (wl r.own)) (Y (wl c)))=Y (.str (ln (f7 r))):=by
  have w:(if r.own=[] then [] else [zZ "fields"]).length<=1:=by split<;>simp
  have u:(MK r.el).length<=2:=by cases r.el<;>simp[MK]
  have n:=iL c (if r.own=[] then [] else [zZ "fields"]) (by rw[h];simp;omega);have l:=iL (c++(if r.own=[] then [] else [zZ "fields"])) r.own (by rw[h];simp;omega);rw[show c++(if r.own=[] then [] else [zZ "fields"])++r.own=f7 r by rw[h,GZ,Ni];simp] at l;rw[uw,xW,mT]
  simp? only[l1,p,show sS (.list [.str (zZ "fields")]) Z (Y (r.own.length:Int))=_ from Ft r.own,n,l,g.join]
 have:=MG (ρ:=l1 s f kd hd pt b L (Y (.str r.nm)) (Y (Jd r.el)) (Y (wl r.own)) (Y (wl c))) (i:=9) (acc:=(L.map ln).map .str) rfl (by simp;omega) X;rw[this];unfold l1;rw[aD,ae,bL,nK];rfl
theorem uE:∀(a:List KR) (L:List Lr) (n e o r:Od),(∀r∈a,GR (f7 r))->L.length+a.length<=900 ->
  ∃g h d c,jl (o5 (.many [10,11,12])) mF (a.map xZ) (l1 s f kd hd pt b L n e o r)=Y (.nx (l1 s f kd hd pt b (L++a.map f7) g h d c))
 |[],L,n,e,o,r,_,_=>{n,e,o,r,by rw[show L++List.map f7 []=L from aK L];rfl}
 |k::a,L,n,e,o,r,hg,hl=>by rw[ax] at hl;obtain⟨j,m⟩:=Fv s f kd hd pt b (hg k (by simp)) (L:=L) (by omega) r;sleep 1;obtain⟨g,h,d,c,i⟩:=uE a (L++[f7 k]) (Y (.str k.nm)) (Y (Jd k.el)) (Y (wl k.own)) j (λx l=>hg x (by simp[l])) (by simp;omega);sleep 2;refine{g,h,d,c,?_};rw[bb] at i;exact iN (ρ':=l1 s f kd hd pt b L (Y (.str k.nm)) (Y (Jd k.el)) (Y (wl k.own)) r) rfl m i
end
def wZ{K:Lr}{h:Hd}(v:HV K h):GR (h.ws):=by have o:=(v.hd (F:=K.map λk=>(k,.none)) λk a=>aw.mpr {(k,.none),aw.mpr {(k),a,rfl},rfl}).1;refine{?_,o.nm,o.len};obtain⟨b,r,e,_⟩:=o.hd;rw[e];simp
section
variable {ks:List KR} (hk:mV ks) (Bq:n<=3) {hs:List Hd} (Hi:HI (ks.map (·.nm)) n hs) {ps:List Lp}{q:Nat} (hq:q<=63) (hp:PI n q ps) (s f:fZ) (b:Bool)
def l2(s f:fZ)(b:Bool)(c:List KR)(d:List Hd)(a:List Lp)(L:List Lr)(x y z u v:Od):aC:=[Y s,Y (.int 2),Y (.int 63),Y (.bool true),Y (.bool b),Y f,Y (zk c),Y (zh d),Y (.list (a.map .list)),Y (wl (L.map ln)),x,y,z,u,Y wV,v,Z]
include hk Bq Hi hq hp in
theorem Fw{h:Hd}(d:hs[i]?=Y h){L:List Lr}(K:L.length<=700)(x y z u:Od):∃R,BK ks hs [] R []/\(∀n∈R,GR n)/\R.length<=73/\mG (l2 s f b ks hs ps L x y z u (Y (zi i)))=Y (.nx (l2 s f b ks hs ps (L++iM (h.ws) R) x y z u (Y (zi i)))):=by
 have m:h∈hs:=bU d;have v:=Hi.hv h m;have k:=Hi.kk h m;have E:=wZ v;have j:i<hs.length:=by
  rcases Nat.lt_or_ge i hs.length with h1|h1
  .exact h1
  .rw[cp h1] at d;cases d
 rw[Hi.len] at j;have c:i+1<ps.length:=by rw[hp.len];omega
 sleep 1;obtain⟨H,q,⟨p,g⟩,o⟩:=IP v k;sleep 2;have a:=cF c;sleep 1;obtain⟨R,A,w,J,t,_⟩:=uD hk Bq Hi q p g (gi h) (ds:=ps[i+1]) (hp.ok _ a) (by have:=hp.le _ a;omega) (B:=[]) (by simp) (.nil []) (by simp) o;sleep 2;have I:=hp.le _ a;refine{R,A,w,by omega,?_};have l:gS (zh hs) (zi i)=Y (gi h):=by rw[pY,Ql,aM,d];rfl
 have C:gS (.list (ps.map .list)) (zi (i+1:Nat))=Y (.list ps[i+1]):=by rw[pY,Ql,aM,aN c];rfl
 have D:=DC v k E;refine b7 (ρ1:=l2 s f b ks hs ps (L++[h.ws]) x y z u (Y (zi i))) ((MG (acc:=(L.map ln).map .str) (x:=.str (ln h.ws)) rfl (by simp;omega) ?_).trans ?_) ?_
 .rw[uw,xW,mT]
  simp? only[l2,l,D]
 .unfold l2;rw[aD,ae,bL,nK];rfl
 have G:=iL ((L++[h.ws]).map ln) (R.map ln) (by simp;omega);have F:=QU ((L++[h.ws]).map ln++R.map ln) [zZ "end"] (by simp;omega);have e:(L++iM (h.ws) R).map ln=(L++[h.ws]).map ln++R.map ln++[zZ "end"]:=by simp[iM];rfl
 unfold l2;rw[e];have r:mE [gi h,_,_,_,_,.list []]=_:=t
 simp? only[l,show dt (zi i) (.int 1)=Y (zi (i+1:Nat)) from rfl,C,r,G,show Ct (wl ((L++[h.ws]).map ln++R.map ln)) (.list [.str (zZ "end")])=_ from F,Ba]
def og(a:List (Hd×List Lr)):List Lr:=a.flatMap λh=>iM (h.1.ws) h.2
def Nj(c:List KR)(d:List Hd)(a:List (Hd×List Lr)):Prop:=∀h∈a,BK c d [] h.2 []/\(∀b∈h.2,GR b)/\h.2.length<=73
theorem w8{b:List KR}{d:List Hd}:∀{a:List (Hd×List Lr)},Nj b d a->(og a).length<=a.length*75
 |[],_=>by simp[og]
 |h::a,o=>by
  have f:=w8 λx (c:x∈a)=>o x (by simp[c]);have:=(o h (by simp)).2.2;have e:og (h::a)=iM (h.1.ws) h.2++og a:=rfl;rw[e,az,ax];have:(iM (h.1.ws) h.2).length=h.2.length+2:=by simp[iM]
  omega
include hk Bq Hi hq hp in
theorem sC{L0:List Lr}(g:L0.length<=3)(x y z u:Od):∀(m i:Nat) (acc:List (Hd×List Lr)) (v:Od),i+m=n->acc.map (·.1)=hs.take i->Nj ks hs acc ->
  ∃a d,a.map (·.1)=hs/\Nj ks hs a/\jl (o5 (.one 15)) mG ((List.range' i m).map λ(i:Nat)=>fZ.int (i:Int)) (l2 s f b ks hs ps (L0++og acc) x y z u v)=Y (.nx (l2 s f b ks hs ps (L0++og a) x y z u d))
 |0,i,acc,v,hi,ha,ho=>{acc,v,by rw[ha,cD (by rw[Hi.len];omega)],ho,rfl}
 |m+1,i,acc,v,hi,ha,ho=>by
  have e:i<hs.length:=by rw[Hi.len];omega
  have q:acc.length=i:=by have:=bG List.length ha;rw[ag,bP] at this;omega
  have B:=w8 ho;have j:hs[i]?=Y hs[i]:=aN e;sleep 1;obtain⟨R,p,o,l,k⟩:=Fw hk Bq Hi hq hp s f b j (L:=L0++og acc) (by rw[az];omega) x y z u;sleep 2;have w:L0++og acc++iM (hs[i].ws) R=L0++og (acc++[(hs[i],R)]):=by simp[og]
  rw[w] at k;obtain⟨a,d,t,r,A⟩:=sC g x y z u m (i+1) (acc++[(hs[i],R)]) (Y (zi i)) (by omega) (by rw[aD,ha,fi,j];rfl) (λh c=>by
   rcases ay.mp c with c|c
   .exact ho h c
   .simp at c;subst c;exact{(p),o,l})
  refine{a,d,t,r,?_};rw[eG,ae];exact iN (ρ':=l2 s f b ks hs ps (L0++og acc) x y z u (Y (zi i))) rfl k A
end
def f'{F:Lp->Od}{A B:aC->Od}{a b:fZ}(d:A ρ=Y a)(c:B ρ=Y b):jL 2 F (bz A (zQ B)) ρ=F [a,b]:=by rw[Mr,iC,d,iC,c,lK];rfl
structure j' (ns:List Int) (t:Tx) (hs:List Hd) (n:Nat):Prop where
 ok:oK t
 kk:mV t.ks
 hi:HI t.K n hs
 n3:n<=3
 eM:t.M=Mh hs
 eF:t.Fu=Fh hs
 ln:pP [.list (ns.map .int),.int 2,.int 63,.bool true]=Y (wl (t.rows.map ln))
 rl:t.rows.length<=400
 b0:∃r R,t.mr=(zZ "new"::r)::R
 dr:∃(c0 c1:Int) (b:Bool) (f d1:fZ),gu [.list (ns.map .int),.int 0]=Y (.int c0)/\gu [.list (ns.map .int),.int 1]=Y (.int c1)/\jf (.int (c0 % 2)) (.int 0)=Y (.bool b)/\jo [.int (c0 / 2),.bool b]=Y f/\jo [.int c1,.bool b]=Y d1/\lU [f]=Y (.list (t.ks.map xZ))/\mZ [d1,.list (t.ks.map xZ)]=Y (zh hs)
def Nk{ns:List Int}(hns:ns.length<=63):∃t k n,j' ns t k n:=by
 obtain⟨J,Q⟩:=GY ns 0;obtain⟨c1,e1⟩:=GY ns 1;obtain⟨b,U⟩:∃b,jf (.int (J % 2)) (.int 0)=Y (.bool b):={_,DI _ _}
 obtain⟨f,T,X⟩:=sy (J / 2) b;obtain⟨d1,D,F⟩:=sy c1 b;obtain⟨g,p,V⟩:=M7 T;sleep 1;obtain⟨k,n,m,H,W⟩:=Bn D p;sleep 2;obtain⟨l,hll,G⟩:=DD ns (Y 2) (Y 63);obtain⟨ds,hdl,hD,ec⟩:=wY b l;obtain⟨s,L,ep⟩:=Ng hD (by omega) m;sleep 1;obtain⟨B,B1,B2,B3,B0,eb⟩:=Nf p m H T;sleep 2;have C:0<s.length:=by rw[L.len];omega
 have A:=cF C;have lq:=L.le _ A;sleep 1;obtain⟨R,k1,k2,k3,k4,k0⟩:=uD p m H (ns:=["x","y","z"].map Str.ofString) (by simp) Nc Nd wV (ds:=s[0]) (L.ok _ A) (by omega) B1 B2 B3 Fp;sleep 2;have hkl:=p.len;sleep 1;obtain⟨x,y,z,u,E⟩:=uE (.list (ns.map .int)) f (zk g) (zh k) (.list (s.map .list)) b g [] Z Z Z Z p.gr (by simp;omega);sleep 2;sleep 1;obtain⟨c,v,K,S,I⟩:=sC p m H (q:=ds.length) (by omega) L (.list (ns.map .int)) f b (L0:=g.map f7) (by simp;omega) x y z u n 0 [] Z (by omega) (by simp) (by intro h w;simp at w);sleep 2;rw[bO] at E;have N:og ([]:List (Hd×List Lr))=[]:=rfl;rw[N,aK] at I;have al:c.length<=3:=by have:=bG List.length K;rw[ag,H.len] at this;omega
 have bl:=w8 S;let t:Tx:={(g),c,R}
 have O:t.M=Mh k:=by show c.filterMap (λh=>Wb h.1)=k.filterMap Wb;rw[<-K,fe];rfl
 have P:t.Fu=Fh k:=by show c.filterMap (λh=>Vw h.1)=k.filterMap Vw;rw[<-K,fe];rfl
 have eR:t.rows=g.map f7++og c++iM [zZ "main"] R:=by show g.map f7++(og c++iM [zZ "main"] R)=_;rw[bb]
 have rl:t.rows.length<=400:=by
  rw[eR];have:(iM [zZ "main"] R).length=R.length+2:=by simp[iM]
  simp only[az,ag,this];omega
 have hm:∀h∈c,h.1∈k:=λh w=>by rw[<-K];exact aw.mpr {(h),w,rfl}
 refine{t,k,n,{p.rd,p.kv,p.gr,λh w=>H.hv _ (hm h w),?_,λh w=>?_,?_,λh w=>(S h w).2.1,k2,by omega},p,H,m,O,P,?_,rl,(let ⟨r,B',e⟩:=B0;let ⟨R',e2⟩:=k0 _ _ e;{(r),R',e2}),J,c1,b,f,d1,Q,e1,U,X,F,V,W}
 .show (c.map (·.1.key)).Nodup;have:c.map (·.1.key)=k.map (·.key):=by rw[<-K,dF];rfl
  rw[this];exact H.nd
 .rw[O,P];exact(S h w).1
 .rw[O,P];exact k1
 have m0:=iK (i:=J) (j:=2) (by decide);have v0:=Vx (i:=J) (j:=2) (by omega) (by omega);have ix:gS (.list (s.map .list)) (zi (0:Nat))=Y (.list s[0]):=by rw[pY,Ql,aM,aN C];rfl
 refine iP (b7 (c9 (d:=.bool b) ?_) (b7 (c9 (d:=f) ?_) (b7 (c9 (d:=.list (g.map xZ)) ?_) (b7 (c9 (d:=.list (k.map gi)) ?_) (b7 (c9 (d:=.list (s.map .list)) ?_) (b7 (ρ1:=l1 (.list (ns.map .int)) f (zk g) (zh k) (.list (s.map .list)) b [] Z Z Z Z) rfl (b7 (sk rfl E) (b7 (ρ1:=l2 (.list (ns.map .int)) f b g k s (g.map f7) x y z u Z) rfl (b7 (sk (wF (n:=n) (by omega) _ _ ?_) I) (b7 (c9 (d:=.list (B.map wl)) ?_) ?_))))))))))
 .rw[xW,mT]
  simp? only[show gu [.list (ns.map .int),.int 0]=_ from Q,m0,U]
 .rw[xW,mT]
  simp? only[show gu [.list (ns.map .int),.int 0]=_ from Q,v0,X]
 .rw[xW,mT]
  simp? only[V]
 .rw[xW,mT]
  simp? only[show gu [.list (ns.map .int),.int 1]=_ from e1,F,W]
 .rw[xW,mT];refine(f' (m9 (ds:=l.map .int) ?_ (by rw[ag];omega) ec) (b:=.int (n:Int)) ?_).trans ep
  .simp? only[yV,G]
  .simp? only[nJ,ag,H.len]
 .show kJ [.list (k.map gi)]=_;rw[nJ,ag,H.len]
 .rw[xW,mT]
  simp? only[l2,eb]
 .have a3:=iL ((g.map f7++og c).map ln) [zZ "main"] (by simp;omega);have a4:=iL ((g.map f7++og c).map ln++[zZ "main"]) (R.map ln) (by simp;omega);have a5:=iL ((g.map f7++og c).map ln++[zZ "main"]++R.map ln) [zZ "end"] (by simp;omega);have e:(g.map f7++og c++iM [zZ "main"] R).map ln=(g.map f7++og c).map ln++[zZ "main"]++R.map ln++[zZ "end"]:=by
   simp[iM];exact{(rfl),rfl}
  rw[eR,e];refine bG (Option.map Out.rt) (((ng (o:=dt) (b:=wl [zZ "end"]) (((ng (o:=dt) (((ng (o:=dt) (a:=wl ((g.map f7++og c).map ln)) (b:=wl [zZ "main"]) rfl rfl).trans a3)) ?_).trans a4)) rfl)).trans a5)
  simp? only[l2,show gS (.list (s.map .list)) (.int 0)=_ from ix,k4]
def o7(W:Lr)(a:TS):Prop:=∀(L:Lp) (tx rw:fZ) (i:Int),0<=i/\i<10000->L.length<=900->ee [Y tx,Y (a.rg L),Y rw,Y (.int i),Y (wl W),Z]=Y (.rt (.int i))
structure Rf (rows:List Lr) (n:Nat):Prop where
 ln:∀ws∈rows,y1 ws
 len:rows.length<=800
 rd:ib [.str (tx rows)]=Y (zi n)
def qc{m:fZ->Prop}{d:TS}{c a:List Lr}{W:Lr}(P:Pt F₀ m {[],[],Z,false} c d)(j:∀ws∈a,y1 ws)(e:(c++W::a).length<=800)(h:y1 W)(b:o7 W d)(k:n=c.length):Rf (c++W::a) n:=by
 subst k;have i:=e;rw[az] at i;have g:∀ws∈c++W::a,y1 ws:=λws hw=>by
  rcases ay.mp hw with hw|hw
  .exact(P.gr ws hw).xm
  .rcases ah.mp hw with rfl|hw
   .exact h
   .exact j ws hw
 obtain⟨l,_,o,f⟩:=P.reads 0 [] (by simp;omega);rw[bO] at f;exact{g,e,wM g e (by simp) (Vv (R:=d.rg l) f (λws hw=>by have:=(P.gr ws hw).2.2;omega) λrw=>b l _ rw _ (by omega) (by omega))}
def QV{j:fZ->Prop}{c:TS}{a:List Lr}(P:Pt F₀ j {[],[],Z,false} a c)(h:c.ov=false)(d:a.length<=800):Rf a a.length:=by
 have f:∀b∈a,y1 b:=λb hw=>(P.gr b hw).xm;refine{f,d,?_};by_cases e:a=[]
 .subst e;kernel_rfl
 obtain⟨F,H,i,k⟩:=c;simp only at h;subst h;obtain⟨l,_,m,g⟩:=P.reads 0 [] (by simp;omega);exact wM f d e (Qy g (λb hw=>by have:=(P.gr b hw).2.2;omega) d)
def o7.of{W:Lr}{a:TS}(b:∀w∈W,lQ w=true)(hw:W.length<=900)(h:∀(L:Lp) (i:Int),L.length<=900->∃R',b8 [a.rg L,.int i,wl W]=Y (.bool false,R')):o7 W a:=λL d rw i hi c=>by obtain⟨R',e⟩:=h L i c;exact MV b hw e hi
def Nl(W:Lr):Bool:=decide (W.length<=12)&&(match gP ba ji [] (W.map .str) with
 |some l=>(match Et [.list l] with
  |some (.bool false)=>true
  |_=>false)
 |none=>false)
def QW{W:Lr}(h:Nl W=true):W.length<=12/\∃l,gP ba ji [] (W.map .str)=Y l/\Et [.list l]=Y (.bool false):=by
 simp only[Nl,aO,br] at h;obtain⟨b,a⟩:=h;refine{b,?_};cases q:gP ba ji [] (W.map .str) with
 |none=>rw[q] at a;cases a
 |some l=>
  rw[q] at a;simp only at a;split at a
  .rename_i e;exact{(l),rfl,e}
  .cases a
def o7.nm{W:Lr}{a:TS}(h:Nl W=true):o7 W a:=λL b rw i hi _=>by
 obtain⟨f,l,e,d⟩:=QW h;have c:W.length<=16777216:=by omega
 have r:pH (fq 3) [Y b,Y (a.rg L),Y rw,Y (.int i),Y (wl W),Z]=Y (.rt (.int i)):=wI rfl hi;unfold wl at r
 simp? only[ee,MS,MU,MT,wl,ag,ai c,mw,e,d,mU]
 exact r
def Bu{c b:fZ}{d:fZ}{v:Bool}{a:Lr}{i:Int}(h:eT [Rg (gD F) c (.str x) bl b false,.int i,wl a]=Y (.bool v,d)):b8 [Rg (gD F) c (.str x) bl b false,.int i,wl a]=Y (.bool v,d):=by
 simp? only[b8,iG,lg,lR,mU,sj,h,hJ]
section
variable {hs la:fZ}{W:Lr}
def G3(g:GR W)(c:W≠[zZ "end"])(b:W≠[zZ "else"]):jf (wl W) (.list [.str (zZ "end")])=Y (.bool false)/\jf (wl W) (.list [.str (zZ "else")])=Y (.bool false):=by have q:=wy g.ok (Yg "end");rw[aE c] at q;have a:=wy g.ok (Yg "else");rw[aE b] at a;exact{(q),a}
def w9(g:GR W)(d:W≠[zZ "end"])(c:W≠[zZ "else"])(h:mJ [wl W]=Y (.bool false))(i:Int):b8 [Rg (gD F) hs (.str t) bl la false,.int i,wl W]=Y (.bool false,Rg (gD F) hs (.str t) bl la false):=by
 obtain⟨b,a⟩:=G3 g d c;refine Bu ?_
 simp? only[eT,gX,b,a,h,mU,hJ]
theorem QX(g:GR W)(l:W≠[zZ "end"])(j:W≠[zZ "else"]){w:String}{k:Str}{a:fZ}(O:p0 W w (Y k) a)(h:k∉F.map (·.1))(i:Int):b8 [Rg (gD F) hs (.str t) bl la false,.int i,wl W]=Y (.bool false,Rg (gD F) hs (.str t) bl la false):=by
 obtain⟨f,d⟩:=G3 g l j;have b:=O.ini;have c:=O.kd;simp only[Option.elim] at c;have e:=n8 (t:=k) (H:=F);rw[aE h] at e;refine Bu ?_
 simp? only[eT,gX,f,d,O.isr g,mU,b,c,sj,iR,jA,e,hJ]
def QY{a:Lr}(h:a=[]\/∃b x,a=b++[x]/\fZ.strOk x=true/\x≠zZ "if")(i:Int):b8 [Rg (gD F) hs (.str t) (wl a) la false,.int i,wl [zZ "else"]]=Y (.bool false,Rg (gD F) hs (.str t) (wl a) la false):=by
 have c:iQ [Rg (gD F) hs (.str t) (wl a) la false]=Y (.bool false,Rg (gD F) hs (.str t) (wl a) la false):=by
  rcases h with rfl | ⟨b,x,rfl,g,f⟩
  .rfl
  .have d:=MC g (a8 "if");rw[show (x==zZ "if")=false by simpa using f] at d
   simp? only[iQ,kx,n9,wL,Bd,d,hJ]
 have q:jf (wl [zZ "else"]) (.list [.str (zZ "end")])=Y (.bool false):=by kernel_rfl
 have e:jf (wl [zZ "else"]) (.list [.str (zZ "else")])=Y (.bool true):=by kernel_rfl
 refine Bu ?_
 simp? only[eT,gX,q,e,c,hJ]
def G4{b:fZ}(i:Int):b8 [Rg (gD F) hs b bl la true,.int i,wl W]=Y (.bool false,Rg (gD F) hs b bl la true):=by
 simp? only[b8,iG,lg,mU,hJ]
end
section
variable {H:List (Str×fZ)}{la:fZ}
def lr{w:String}{r:Lr}(b:(w=="kind")=false){a:fZ}(h:hG [Rg (gD F) a .none (wl []) la false,wl (zZ w::r)]=Y (.bool false))(i:Int):b8 [Rg (gD F) a .none (wl []) la false,.int i,wl (zZ w::r)]=Y (.bool false,Rg (gD F) a .none (wl []) la false):=by
 simp? only[b8,iG,lg,lR,mU,qm,jB,gJ,b,h,hJ]
def Nm{w:String}{r:Lr}(b:(w=="kind")=false)(h:hG [Rg (gD F) (gD H) .none (wl []) la false,wl (zZ w::r)]=Y (.bool true))(c:gL [wl (zZ w::r)]=Y (.str t))(a:t∈H.map (·.1))(i:Int):b8 [Rg (gD F) (gD H) .none (wl []) la false,.int i,wl (zZ w::r)]=Y (.bool false,Rg (gD F) (gD H) .none (wl []) la false):=by
 have e:=n8 (t:=t) (H:=H);rw[aW a] at e
 simp? only[b8,iG,lg,lR,lh,mU,qm,jB,gJ,b,h,c,ig,e,hJ]
def oh{r:Lr}{a b:fZ}(h:gY [Rg (gD F) a .none (wl []) la false,wl (zZ "kind"::r)]=Y (.bool false,b))(i:Int):b8 [Rg (gD F) a .none (wl []) la false,.int i,wl (zZ "kind"::r)]=Y (.bool false,b):=by
 have c:("kind"=="kind")=true:=by decide
 simp? only[b8,iG,lg,lR,mU,qm,jB,gJ,c,h,hJ]
def Bv{x:fZ}{w:String}{r:Lr}(g:GR (zZ w::r))(d:(w=="func")=false)(c:(w=="method")=false)(b:zZ w::r≠[zZ "main"]):hG [x,wl (zZ w::r)]=Y (.bool false):=by
 have q:=wy g.ok (Yg "main");rw[aE b] at q;have a:jf (wl (zZ w::r)) (.list [.str (zZ "main")])=Y (.bool false):=q
 simp? only[hG,mi,jB,gJ,d,c,a]
def VC{p:Str×fZ}:iA (gD (p::H))=Y true:=rfl
def G5{p:Str×fZ}{W:Lr}{b:fZ}:gY [Rg (gD F) (gD (p::H)) b bl la ov,wl W]=Y (.bool false,Rg (gD F) (gD (p::H)) b bl la ov):=by
 have g:iB [Y (Rg (gD F) (gD (p::H)) b bl la ov),Y (wl W),Z,Z]=Y (.rt (.tuple [.bool false,Rg (gD F) (gD (p::H)) b bl la ov])):=by
  refine gE (iY ?_ rfl)
  simp? only[lh,VC]
 rw[gY,oH];show xV (iB [Y (Rg (gD F) (gD (p::H)) b bl la ov),Y (wl W),Z,Z])=_;rw[g,m8]
theorem Bw{W:Lr}{b:fZ}(h:W=[zZ "kind"]\/∃nm r,W=zZ "kind"::nm::r/\nm∈F.map (·.1)):gY [Rg (gD F) (gD []) b bl la ov,wl W]=Y (.bool false,Rg (gD F) (gD []) b bl la ov):=by
 have g:iB [Y (Rg (gD F) (gD []) b bl la ov),Y (wl W),Z,Z]=Y (.rt (.tuple [.bool false,Rg (gD F) (gD []) b bl la ov])):=by
  refine gE (iY ?_ rfl);rcases h with rfl | ⟨nm,r,rfl,h⟩
  .rfl
  .have e:gS (wl (zZ "kind"::nm::r)) (.int 1)=Y (.str nm):=by simp only[wl,ae,pY,Ja]
   have d:=oM (zZ "kind"::nm::r);have c:t7 (.int ((zZ "kind"::nm::r).length:Int)) (.int 2)=Y (.bool false):=Vn (by simp;omega);have a:=n8 (t:=nm) (H:=F);rw[aW h] at a;rw[xU,Gz,sf,oV];simp only[bB,cu,aL,lh,qZ,IC,xU,A7,se,tQ,iC,lK,oV,bt,d,xj,c,e,sf,iR,ig,a,cm]
 rw[gY,oH];show xV (iB [Y (Rg (gD F) (gD []) b bl la ov),Y (wl W),Z,Z])=_;rw[g,m8]
inductive KB (F:List (Str×fZ)):Lr->Prop
 |nof {a:String}{r:Lr}:(a=="of")=false->(a=="fields")=false\/r=[]->KB F (zZ a::r)
 |sh:KB F [zZ "of"]
 |un {j:Str}{r:Lr}:j∉F.map (·.1)->KB F (zZ "of"::j::r)
 |el {j:Str}{a:String}{r inh:Lr}:(j,wl inh)∈F->(a=="fields")=false\/r=[]->KB F (zZ "of"::j::zZ a::r)
def Ha{a:String}{r:Lr}(h:(a=="fields")=false\/r=[])(x y z:Od):(kP (uN (fq 2)) (vo (fB (d2 qw (zX (fq 2) (zI 0)) (zA "fields"))) (fB (d2 t7 (zN (fq 2)) (zI 2))))) [x,y,Y (wl (zZ a::r)),z]=Y true:=by
 have t:iA (wl (zZ a::r))=Y true:=rfl;cases q:(a=="fields") with
 |false=>simp? only[t,jB,ki,q]
 |true=>
  rcases h with h|rfl
  .rw[h] at q;cases q
  .simp? only[t,jB,ki,q]
   rfl
theorem Yw(w:NS F){nm:Str}{r:Lr}(h:KB F r)(b:fZ)(k:iA b=Y false):∃A,gY [Rg (gD F) b .none (wl []) la false,wl (zZ "kind"::nm::r)]=Y (.bool false,A):=by
 refine{Rg (gD F) b .none (wl []) la false,?_};have m:gS (wl (zZ "kind"::nm::r)) (.int 1)=Y (.str nm):=by simp only[wl,ae,pY,Ja]
 have y:sS (wl (zZ "kind"::nm::r)) (Y 2) Z=Y (wl r):=by simp only[wl,ae,yV,xX]
 have f:=oM (zZ "kind"::nm::r);have e:t7 (.int ((zZ "kind"::nm::r).length:Int)) (.int 2)=Y (.bool false):=Vn (by simp;omega);have c:=n8 (t:=nm) (H:=F);have g:iB [Y (Rg (gD F) b .none (wl []) la false),Y (wl (zZ "kind"::nm::r)),Z,Z]=Y (.rt (.tuple [.bool false,Rg (gD F) b .none (wl []) la false])):=by
  by_cases i:nm∈F.map (·.1)
  .rw[aW i] at c;refine gE (iY ?_ rfl);rw[xU,Gz,sf,oV];simp only[bB,cu,aL,lh,k,IC,xU,A7,se,tQ,iC,lK,oV,bt,f,xj,e,m,sf,iR,ig,c,cm]
  rw[aE i] at c;refine b7 (ρ1:=[Y (Rg (gD F) b .none (wl []) la false),Y (wl (zZ "kind"::nm::r)),Z,Z]) (gC ?_ rfl) (b7 (Vo (x:=wl r) ?_) (b7 (ρ1:=[Y (Rg (gD F) b .none (wl []) la false),Y (wl (zZ "kind"::nm::r)),Y (wl r),Y (wl [])]) rfl ?_))
  .rw[xU,Gz,sf,oV];simp only[bB,cu,aL,lh,k,IC,xU,A7,se,tQ,iC,lK,oV,bt,f,xj,e,m,sf,iR,ig,c,cm]
  .simp? only[y]
  have n:("of"=="of")=true:=by decide
  cases h with
  |nof v u=>
   refine b7 (gC ?_ rfl) (gE (iY (Ha u _ _ _) rfl));rename_i a r;have t:iA (wl (zZ a::r))=Y true:=rfl
   simp? only[t,jB,gJ,v]
  |sh=>exact gE (iY (zK 0) (gE (iY (zK 0) rfl)))
  |@un j r d=>
   have t:iA (wl (zZ "of"::j::r))=Y true:=rfl;have z:gS (wl (zZ "of"::j::r)) (.int 1)=Y (.str j):=by simp only[wl,ae,pY,Ja]
   have p:=oM (zZ "of"::j::r);have o:t7 (.int ((zZ "of"::j::r).length:Int)) (.int 2)=Y (.bool false):=Vn (by simp;omega);have l:=n8 (t:=j) (H:=F);rw[aE d] at l;refine gE (iY (by simp? only[t,jB,gJ,n]) (gE (iY ?_ rfl)));rw[xU,A7,se,tQ,iC,oV,lK,xj];simp only[bB,bt,cu,aL,p,o,IC,A7,se,oV,xj,z,sf,iR,jA,l,cm,Bool.not_false]
  |@el j a r q d s=>exact b7 (SF w.1 d) (gE (iY (Ha s _ _ _) rfl))
 rw[gY,oH];show xV (iB [Y (Rg (gD F) b .none (wl []) la false),Y (wl (zZ "kind"::nm::r)),Z,Z])=_;rw[g,m8]
end
structure Nn (σ:TS):Prop where
 ov:σ.ov=false
 fo:NS σ.F
 kn:∀k∈σ.F.map (·.1),k∈kN
def zc:zZ "kz"∉kN/\zZ "kq"∉kN/\zZ "kr"∉kN:=by decide +kernel
theorem sD{V:Lr} (g:GR V) (d:∀F hs t bl la i,zZ "kz"∉F.map (·.1)->∃R',b8 [Rg (gD F) hs (.str t) bl la false,.int i,wl V]=Y (.bool false,R'))
  (a:∀F H la i,NS F->zZ "kz"∉F.map (·.1)->∃R',b8 [Rg (gD F) (gD H) .none (wl []) la false,.int i,wl V]=Y (.bool false,R')) {b:TS} (s:Nn b):o7 V b:=by
 refine o7.of g.2.1 (by have:=g.2.2;omega) λL i _=>?_;obtain⟨F,H,e,l⟩:=b;obtain⟨k,j,h⟩:=s;simp only at k j h;subst k;have f:zZ "kz"∉F.map (·.1):=λz=>zc.1 (h _ z);cases e with
 |none=>exact a F H _ i j f
 |some c=>exact d F _ _ _ _ i f
def mS(W:List String):Lr:=W.map Str.ofString
def Y9(V:Lr):Bool:=V.all lQ&&decide (V.length<=12)&&decide (V≠[zZ "end"])&&decide (V≠[zZ "else"])&&decide (V≠[zZ "main"])
def Np(V:Lr):Bool:=match mJ [wl V] with
 |some (.bool false)=>true
 |_=>false
structure Gb (V:Lr):Prop where
 gr:GR V
 n1:V≠[zZ "end"]
 n2:V≠[zZ "else"]
 n3:V≠[zZ "main"]
def q7{V:Lr}(a:V≠[])(h:Y9 V=true):Gb V:=by simp only[Y9,aO,br,aI] at h;exact{{a,h.1.1.1.1,h.1.1.1.2},h.1.1.2,h.1.2,h.2}
def Bx{V:Lr}(h:Np V=true):mJ [wl V]=Y (.bool false):=by
 unfold Np at h;split at h
 .assumption
 .cases h
def A'(w:String)(r:List String):Bool:=Y9 (mS (w::r))&&Np (mS (w::r))&&!(w=="kind")&&!(w=="func")&&!(w=="method")
def VD{w:String}{r:List String}(h:A' w r=true){a:TS}(s:Nn a):o7 (mS (w::r)) a:=by simp only[A',aO,Bool.not_eq_true'] at h;sleep 1;obtain⟨⟨⟨⟨f,e⟩,d⟩,c⟩,b⟩:=h;sleep 2;have g:=q7 (by simp[mS]) f;exact sD g.gr (λF hs t bl la i _=>{_,w9 g.gr g.n1 g.n2 (Bx e) i}) (λF H la i _ _=>{_,lr d (Bv (r:=mS r) g.gr c b g.n3) i}) s
def D':List String->Bool
 |[]=>false
 |a::r=>if a=="of" then (match r with | []=>true|j::c=>j=="kz"||(j=="ka"&&(match c with | []=>false|a::r=>!(a=="fields")||r.isEmpty))) else !(a=="fields")||r.isEmpty
theorem VE(m:NS F)(i:zZ "kz"∉F.map (·.1)){b:List String}(h:D' b=true):KB F (mS b):=by
 have f:∀{a:String}{r:List String},(!(a=="fields")||r.isEmpty)=true->(a=="fields")=false\/mS r=[]:=λ{a r} h=>by
  cases r with
  |nil=>exact .inr rfl
  |cons _ _=>simp only[List.isEmpty_cons,du,Bool.not_eq_true'] at h;exact .inl h
 cases b with
 |nil=>cases h
 |cons a r=>
  rw[D'.eq_def] at h;dsimp only at h;cases q:(a=="of") with
  |false=>rw[q] at h;exact .nof q (f (by simpa using h))
  |true=>
   rw[q,ai rfl] at h;rw[bw.mp q];cases r with
   |nil=>exact .sh
   |cons j c=>
    by_cases d:zZ j∈F.map (·.1)
    .simp only[cz,aO] at h;rcases h with h | ⟨n,h⟩
     .rw[bw.mp h] at d;exact absurd d i
     .cases c with
      |nil=>cases h
      |cons a r=>obtain⟨p,g,e⟩:=aw.mp d;obtain⟨l,k,_⟩:=m.2 p g;refine .el (inh:=l) (j:=zZ j) ?_ (f (by simpa using h));rw[<-e,<-k];exact g
    .exact .un d
def E'(r:List String):Bool:=Y9 (mS ("kind"::r))&&Np (mS ("kind"::r))&&(match r with | []=>true|_::b=>D' b)
def VF{r:List String}(h:E' r=true){a:TS}(s:Nn a):o7 (mS ("kind"::r)) a:=by
 simp only[E',aO] at h;obtain⟨⟨j,f⟩,d⟩:=h;have g:=q7 (by simp[mS]) j;refine sD g.gr (λF hs t bl la i _=>{_,w9 g.gr g.n1 g.n2 (Bx f) i}) (λF H la i fo c=>?_) s;cases H with
 |cons p H=>exact{_,oh (r:=mS r) G5 i}
 |nil=>
  cases r with
  |nil=>exact{_,oh (r:=[]) (Bw (.inl rfl)) i}
  |cons nm b=>obtain⟨k,e⟩:=Yw (la:=la) fo (nm:=zZ nm) (VE fo c d) (gD []) qZ;exact{k,oh (r:=mS (nm::b)) e i}
def cB(W:List String):Bool:=Nl (mS W)||(match W with|w::r=>if w=="kind" then E' r else A' w r | []=>false)
def Nq{W:List String}(h:cB W=true){a:TS}(s:Nn a):o7 (mS W) a:=by
 unfold cB at h;rw[cz] at h;rcases h with h|h
 .exact o7.nm h
 .cases W with
  |nil=>cases h
  |cons w r=>
   cases q:(w=="kind") with
   |true=>rw[bw.mp q];exact VF (by simpa [q] using h) s
   |false=>exact VD (by simpa [q] using h) s
def Fx{V:Lr}(g:Gb V){w:String}{r:Lr}(h:V=zZ w::r)(f:(w=="kind")=false)(e:(w=="func")=false)(d:(w=="method")=false){a:fZ}(O:p0 V w (Y (zZ "kz")) a){b:TS}(s:Nn b):o7 V b:=by subst h;exact sD g.gr (λF hs t bl la i c=>{_,QX g.gr g.n1 g.n2 O c i}) (λF H la i _ _=>{_,lr f (Bv g.gr e d g.n3) i}) s
def W3:List (List String):=[["new","x","kz"],["fresh","x","kz"],["straight","x","y","kz","m"]]
def W4:List (List String):=[["func"],["method","ka"]]
def VG{W:List String}(h:W∈W3){a:TS}(s:Nn a):o7 (mS W) a:=by
 simp only[W3,W4,ah,aU,cx] at h;rcases h with rfl|rfl|rfl
 .exact Fx (q7 (by simp[mS]) (by decide +kernel)) rfl (by decide) (by decide) (by decide) (.of {_,rfl} (zK 0) (zK 0) (zK 0) (zK 0)) s
 .exact Fx (q7 (by simp[mS]) (by decide +kernel)) rfl (by decide) (by decide) (by decide) (.of {_,rfl} (zK 0) (zK 0) (zK 0) (zK 0)) s
 .exact Fx (q7 (by simp[mS]) (by decide +kernel)) rfl (by decide) (by decide) (by decide) (uy _ _ _ _ (hs:=[]) (by simp)) s
def VH{W:List String}(h:W∈W4){a:TS}(s:Nn a):o7 (mS W) a:=by
 simp only[W3,W4,ah,aU,cx] at h;rcases h with rfl|rfl
 .have g:=q7 (V:=mS ["func"]) (by simp[mS]) (by decide +kernel);exact sD g.gr (λF hs t bl la i _=>{_,w9 g.gr g.n1 g.n2 (zK 0) i}) (λF H la i _ _=>{_,lr (w:="func") (r:=[]) (by decide) (zK 0) i}) s
 .have g:=q7 (V:=mS ["method","ka"]) (by simp[mS]) (by decide +kernel);exact sD g.gr (λF hs t bl la i _=>{_,w9 g.gr g.n1 g.n2 (zK 0) i}) (λF H la i _ _=>{_,lr (w:="method") (r:=mS ["ka"]) (by decide) (zK 0) i}) s
def Za:Lp->Lr->Bool
 |[],[]=>true
 |.str x::l,y::r=>x==y&&Za l r
 |_,_=>false
theorem Nr:∀{l:Lp}{r:Lr},Za l r=true->l=r.map .str
 |[],[],_=>rfl
 |[],_::_,h=>by cases h
 |d::l,r,h=>by
  cases d with
  |str x=>
   cases r with
   |nil=>cases h
   |cons y r=>simp only[Za,aO,bw] at h;rw[h.1,Nr h.2];rfl
  |_=>cases r<;>cases h
def Yx(V:Lr):Bool:=decide (10∉(ln V).cps.toList)&&decide ((ln V).length<=108)&&(match hV (.str (ln V)) [.str {#[32]}] with|some (.list l)=>Za l V|_=>false)
def Fy{V:Lr}(h:Yx V=true):y1 V:=by
 simp only[Yx,aO,br] at h;obtain⟨⟨c,b⟩,a⟩:=h;refine{c,b,?_};split at a
 .rename_i l e;rw[e,Nr a,wl]
 .cases a
def WR:List (List String):=[[""],["",""],["xx"],["copy","x"],["copy","x","y","z"],["copy","x","Y"],["new","x"],["new","x","kz"],["give"],["rest","x"],["take","x","y"],
 ["put","x","f"],["ask","x","y"],["if"],["if","some"],["if","same","x"],["while","none"],["else","x"],["end","x"],["row","x","y"],
 ["tell","abcdefghi"],["kind"],["kind","ka","of"],["kind","kq","fields"],["kind","kq","of","kz"],["method","ka"],["main","x"],
 ["copy","","x","y"],["copy","x","y",""],["","copy","x","y"],["do","x"],["straight","x","y","kz","m"],["fresh","x","kz"],["own","x","y"],
 ["place","x","f"],["if","choose","x"],["while","choose","choose"],["check","x"],["push","x"],["pull","x","y","z"],["func"],
 ["End"],["tell","x1"],["give","~"],["kind","kq","f"],["kind","kq","of","ka","f"],["kind","kq","of","ka","kb"]]
def HR:List (List String):=[["func","fq","p","p"],["func","fq","p","keeps","p"],["func","fq","self"],["func","fq","keeps"],["func","main"],["method","ka","m","self"],
 ["func","fq","p","keeps","k","k"],["func","fq","keeps","self"],["method","kz","m"],["method","ka","m","p","p"],["func","fq","p","Q"],
 ["copy","x","y"],["kind","kq","fields","f","f"],["kind","ka"],["end"],["else"],["give","x"],["func"],
 ["main","main"],["func","abcdefghi"],["kind","kq","f"],["kind","kq","of","ka","f"],["kind","kq","of","ka","kb"]]
def Yy:lH []=Y (wl (WR.map λW=>ln (mS W))):=by kernel_rfl
def Yz:k6 []=Y (wl (HR.map λW=>ln (mS W))):=by kernel_rfl
def VI:(WR.all λW=>Yx (mS W)&&(cB W||decide (W∈W3)||decide (W∈W4)))=true:=by decide +kernel
def Nt{W:List String}(h:W∈WR):y1 (mS W)/\∀{a:TS},Nn a->o7 (mS W) a:=by
 have q:=aI.mp VI W h;simp only[aO,cz,br] at q;refine{Fy q.1,λs=>?_};rcases q.2 with (h|h)|h
 .exact Nq h s
 .exact VG h s
 .exact VH h s
def H1:List (List String):=[["fq","p","p"],["fq","p","keeps","p"],["fq","self"],["fq","keeps"],["main"],["fq","p","keeps","k","k"],["fq","keeps","self"],[]]
def H3:List (List String):=[["method","ka","m","self"],["method","ka","m","p","p"],["method","kz","m"],["kind","kq","fields","f","f"],["kind","ka"]]
def YA(W:List String):Bool:=(mS W).all lQ&&decide (W.length<=12)&&(match W with|w::_=>!(w=="kind")&&!(w=="func")&&!(w=="method") | []=>false)&&decide (mS W≠[zZ "main"])
def VJ:(HR.all λW=>Yx (mS W)&&(or (cB W) (YA W)||decide (W∈H1.map ("func"::·))||decide (W∈H3)))=true:=by decide +kernel
def VL{x:fZ}{r:List String}(h:r∈H1):hG [x,wl (mS ("func"::r))]=Y (.bool false):=by simp only[H1,ah,aU,cx] at h;rcases h with rfl|rfl|rfl|rfl|rfl|rfl|rfl|rfl<;>kernel_rfl
def VM:(H1.all λr=>(mS ("func"::r)).all lQ&&decide (r.length<=11))=true:=by decide +kernel
theorem By{l b j:fZ}{k m:Str}{r:Lr}(h:k∉F.map (·.1)\/f6 [wl (zZ "method"::k::m::r)]=Y (.bool false)):hG [Rg (gD F) l b bl j ov,wl (zZ "method"::k::m::r)]=Y (.bool false):=by
 have i:("method"=="func")=false:=by decide
 have g:("method"=="method")=true:=by decide
 have e:=oM (zZ "method"::k::m::r);have d:BF (.int ((zZ "method"::k::m::r).length:Int)) (.int 2)=Y (.bool true):=W_ (by simp;omega);have a:=n8 (t:=k) (H:=F);have f:gS (wl (zZ "method"::k::m::r)) (.int 1)=Y (.str k):=by simp only[wl,ae,pY,Ja]
 generalize ((zZ "method"::k::m::r).length:Int)=n at e d;by_cases c:k∈F.map (·.1)
 .rw[aW c] at a;have h:=h.resolve_left (λz=>z c)
  simp? only[hG,mi,jB,f,gJ,i,g,e,d,iR,ig,a,h]
 .rw[aE c] at a
  simp? only[hG,mi,jB,f,gJ,i,g,e,d,iR,ig,a]
theorem Nu{W:List String}(h:W∈HR):y1 (mS W)/\∀{F:List (Str×fZ)},Nn {F,[],Z,false}->zZ "ka"∈F.map (·.1)->F.length<=900->o7 (mS W) {F,[],Z,false}:=by
 have z:=aI.mp VJ W h;simp only[aO,cz,br] at z;refine{Fy z.1,λ{F} s ka g=>?_};have d:∀{k},k∉kN->k∉F.map (·.1):=λh z=>h (s.kn _ z);rcases z.2 with ((h|h)|h)|h
 .exact Nq h s
 .simp only[YA,aO,br,aI] at h;obtain⟨⟨⟨a,b⟩,c⟩,f⟩:=h;cases W with
  |nil=>cases c
  |cons w r=>
   simp only[aO,Bool.not_eq_true'] at c;have j:(mS (w::r)).length<=12:=by simpa [mS] using b
   exact o7.of a (by omega) λL i _=>{_,lr (w:=w) (r:=mS r) c.1.1 (Bv {by simp,a,j} c.1.2 c.2 f) i}
 .obtain⟨r,e,rfl⟩:=aw.mp h;have q:=aI.mp VM r e;simp only[aO,br,aI] at q;exact o7.of q.1 (by have:=q.2;simp[mS];omega) λL i _=>{_,lr (w:="func") (r:=mS r) (by decide) (VL e) i}
 .simp only[H3,ah,aU,cx] at h;rcases h with rfl|rfl|rfl|rfl|rfl
  .exact o7.of (by decide +kernel) (by decide) λL i _=>{_,lr (w:="method") (r:=mS ["ka","m","self"]) (by decide) (By (.inr (zK 0))) i}
  .exact o7.of (by decide +kernel) (by decide) λL i _=>{_,lr (w:="method") (r:=mS ["ka","m","p","p"]) (by decide) (By (.inr (zK 0))) i}
  .exact o7.of (by decide +kernel) (by decide) λL i _=>{_,lr (w:="method") (r:=mS ["kz","m"]) (by decide) (By (.inl (d zc.1))) i}
  .exact o7.of (by decide +kernel) (by decide) λL i _=>{_,sr (r:={zZ "kq",Z,mS ["f","f"]}) (inh:=[]) s.fo.1 (d zc.2.1) qZ rfl (v:=false) (zK 0) g (by decide) i}
  .exact o7.of (by decide +kernel) (by decide) λL i _=>{_,oh (r:=mS ["ka"]) (Bw (.inr {_,_,rfl,ka})) i}
def I'(d:fZ):Prop:=∃a n,d=.tuple [wl (a.map ln),.int ((n:Nat):Int)]/\Rf a n
def js{A d e:aC->Od}{L X:List Lr}{a b:Nat}(q:L.length<=700)(r:a<=b)(f:b<=L.length)(c:A ρ=Y (wl (L.map ln)))(j:fa ρ=Y (zi a))(i:d ρ=Y (wl (X.map ln)))(h:fb ρ=Y (zi b))(g:e ρ=Y (zi n))(p:X.length<=100):
  f9 (jR (bz (d2 dt (d2 dt (gq A gO (g9 fa)) d) (gq A (g9 fb) gO)) (zQ e))) ρ=Y (.rt (.tuple [wl ((L.take a++X++L.drop b).map ln),.int (n:Int)])):=by
 have l:sS (wl (L.map ln)) Z (Y (a:Int))=Y (wl ((L.take a).map ln)):=by rw[wl,yV,wB _ _ (by simp;omega)];simp[wl,fX]
 have k:sS (wl (L.map ln)) (Y (b:Int)) Z=Y (wl ((L.drop b).map ln)):=by rw[wl,yV,n7 _ _ (by simpa using f)];simp[wl,List.map_drop]
 have o:=iL ((L.take a).map ln) (X.map ln) (by simp;omega);have m:=iL ((L.take a).map ln++X.map ln) ((L.drop b).map ln) (by simp only[az,ag,bP,bY];omega);rw[C8,Sw,iC,se,se,u6,c,u9,u7,j,i,u6,c,u9,u7,h,iC,g,lK];simp only[aL,l,k,o,m,ax,dn];rw[ai (by rw[sizeLine_eq];decide),<-aD,<-aD];rfl
section
variable {t:Tx}{H:List (Str×fZ)} (T:oK t) (kk:mV t.ks) (P:II t F H)
include P kk in
theorem YB:∀k∈F.map (·.1),k∈kN:=λk a=>by rw[P.eF] at a;obtain⟨r,b,rfl⟩:=aw.mp a;exact kk.nm r b
theorem Fz:NS []:={by simp,by simp}
include P kk in
theorem zd{a:Nat}(u:a<t.rows.length):∃d,Pt F (Lt t.M t.Fu) {[],[],Z,false} (t.rows.take a) d/\Nn d:=by
 have p:=P.pt;rw[<-List.take_append_drop a t.rows] at p;obtain⟨d,g,f⟩:=p.split;have o:=f.fo (g.fo Fz).1;refine{d,g,?_,(g.fo Fz).1,λk n=>YB kk P k (o.2 k n)};cases q:t.rows.drop a with
 |nil=>have:=bG List.length q;simp at this;omega
 |cons w r=>
  rw[q] at f;cases f with
  |cons s _=>
   obtain⟨l,_,_,e⟩:=s.rd 0 [] (by simp);obtain⟨j,v,c,m⟩:=d;cases m with
   |false=>rfl
   |true=>have:∀x b i h,b8 [Rg (gD j) x b i h true,.int ((0:Nat):Int),wl w]=Y (.bool false,Rg (gD j) x b i h true):=λx b i h=>G4 _;rw[TS.rg,this] at e;injection e with e;injection e with e _;injection e with e;cases e
def Tx.kl(t:Tx):Nat:=t.ks.length
def Tx.bd(t:Tx):List Lr:=t.hs.flatMap λh=>iM h.1.ws h.2
def Tx.ml(t:Tx):Nat:=t.ks.length+t.bd.length
theorem jt(t:Tx):t.rows=t.ks.map f7++(t.bd++[zZ "main"]::(t.mr++[[zZ "end"]])):=rfl
theorem sE(t:Tx):t.rows.take t.kl=t.ks.map f7/\t.rows.drop t.kl=t.bd++[zZ "main"]::(t.mr++[[zZ "end"]]):=by rw[jt];exact{List.take_left' (by simp[Tx.kl]),List.drop_left' (by simp[Tx.kl])}
theorem Bz(t:Tx):t.rows.take t.ml=t.ks.map f7++t.bd/\t.rows.drop t.ml=[zZ "main"]::(t.mr++[[zZ "end"]]):=by rw[jt,<-bb];exact{List.take_left' (by simp[Tx.ml]),List.drop_left' (by simp[Tx.ml])}
theorem sF(t:Tx):t.rows.take (t.ml+1)=t.ks.map f7++t.bd++[[zZ "main"]]/\t.rows.drop (t.ml+1)=t.mr++[[zZ "end"]]:=by rw[jt,show t.ks.map f7++(t.bd++[zZ "main"]::(t.mr++[[zZ "end"]]))=(t.ks.map f7++t.bd++[[zZ "main"]])++(t.mr++[[zZ "end"]]) by simp];exact{List.take_left' (by simp[Tx.ml];omega),List.drop_left' (by simp[Tx.ml];omega)}
theorem oW(t:Tx):t.kl<=t.ml/\t.ml+1<t.rows.length:=by rw[jt];simp[Tx.kl,Tx.ml];omega
theorem BA(t:Tx):t.bd=(t.hs.map nL).flatMap Bo.txt:=by simp[Tx.bd,iM,Bo.txt,nL,List.flatMap_map]
def hH(t:Tx):List (Str×fZ):=hg ((t.hs.map nL).map Bo.ent)
theorem vc:∀l:List Bo,l.length<=(l.flatMap Bo.txt).length
 |[]=>by simp
 |a::l=>by
  rw[cV,az,ax];have:=vc l;have:1<=a.txt.length:=by simp[Bo.txt]
  omega
include T P in
theorem BB:Pt F (Lt t.M t.Fu) {[],[],Z,false} (t.ks.map f7++t.bd) {F,hH t,Z,false}:=by have a:=P.nd;have d:=vc (t.hs.map nL);have c:=T.len;rw[jt,BA] at c;simp only[az,ag] at d c;rw[aD,aX] at a;have:=qr P.hF (t.hs.map nL) [] (λb hb=>{P.bo b (aA _ hb),by obtain⟨h,e,rfl⟩:=aw.mp hb;exact qb (T.hv h e).tX}) (by simpa using a.1) (by simp;omega);rw[bO] at this;rw[BA];exact P.kp.app this
include T P in
theorem IS:Pt F (Lt t.M t.Fu) {[],[],Z,false} (t.ks.map f7++t.bd++[[zZ "main"]]) {F,hH t++[(zZ "main",wl [zZ "main"])],Y (zZ "main",[]),false}:=by
 have a:=P.nd;have c:=vc (t.hs.map nL);have b:=T.len;rw[jt,BA] at b;simp only[az,ag] at c b;rw[aD,aX] at a;refine(BB T P).app (.cons (σ1:={F,hH t++[(zZ "main",wl [zZ "main"])],Y (zZ "main",[]),false}) {Bl,λn L _=>{[],by simp,by simp,?_},λh=>{h,λ_ h=>h}} (.nil _));rw[aK];refine GO (GS (gD F)) (H:=hH t) (λz=>?_) ?_ n
 .rw[hH,k9] at z;refine a.2.2 (zZ "main") ?_ (zZ "main") (by simp[uA]) rfl;simpa [Bo.ent,cU] using z
 .simp[hH,hg];omega
theorem QZ(t:Tx)(P:II t F H):∀a∈t.rows,y1 a:=λa hw=>(P.pt.gr a hw).xm
end
def kb{W:List String}(h:((mS W).all lQ&&decide (W.length<=12)&&!W.isEmpty)=true):GR (mS W):=by simp only[aO,br,aI,Bool.not_eq_true',List.isEmpty_eq_false_iff] at h;exact{by simpa [mS] using h.2,h.1.1,by simpa [mS] using h.1.2}
def YC(a:List α)(x:α)(b:List α):a++[x]++b=a++x::b:=by simp
section
variable {t:Tx}{H:List (Str×fZ)} (T:oK t) (kk:mV t.ks) (P:II t F H)
include T P in
theorem oO(a:Nat):∀b∈t.rows.drop a,y1 b:=λb hw=>QZ t P b (List.mem_of_mem_drop hw)
include T kk P in
theorem VN{W:List String}(h:W∈WR){a:Nat}(b:a<t.rows.length):Rf (t.rows.take a++[mS W]++t.rows.drop (a+1)) a:=by obtain⟨c,p,s⟩:=zd kk P b;have l:=T.len;rw[YC];exact qc p (oO T P _) (by simp;omega) (Nt h).1 ((Nt h).2 s) (by simp;omega)
include T kk P in
theorem Q0{a:Nat}(b:a<t.rows.length):Rf (t.rows.take a) a:=by obtain⟨c,p,s⟩:=zd kk P b;have l:=T.len;have:=QV p s.ov (by simp;omega);rwa[bP,Nat.min_eq_left (by omega)] at this
include T kk P in
theorem FA:Nn {F,[],Z,false}:={rfl,(P.kp.fo Fz).1,YB kk P}
include kk P in
theorem VO:∃c∈oa "f" "u",∃a,t.ks={zZ "ka",Z,c}::a/\(zZ "ka",wl c)∈F:=by
 obtain⟨b,a,e,i⟩:=kk.ka;have h:b={zZ "ka",Z,b.own}/\b.own∈oa "f" "u":=by
  obtain⟨q,f,i⟩:=List.mem_flatMap.mp i;simp[eN] at f;subst f;obtain⟨o,n,rfl⟩:=aw.mp i;have:fo Z o=o:=by simp[fo]
  rw[this];exact{(rfl),n}
 obtain⟨r,g,rfl⟩:=P.f0;refine{b.own,h.2,a,by rw[e,<-h.1],?_};have d:∀{A B:Fl}{k:List KR},NT A k B->∀p∈A,p∈B:=λh=>by
  induction h with
  |nil=>exact λ_ h=>h
  |cons _ _ _ _ _ _ l=>exact λp m=>l p (aA _ m)
 rw[e,h.1] at g;cases g with
 |cons _ j _ _ _ g=>have j:_=[]:=j;subst j;exact aw.mpr {_,d g (zZ "ka",b.own) (by simp),rfl}
include T kk P in
theorem xa{W:Lr}{X:List Lr}(c:y1 W)(a:∀ws∈X,y1 ws)(d:X.length<=10)(b:o7 W {F,[],Z,false}):Rf (t.rows.take t.kl++(W::X)++t.rows.drop t.kl) t.kl:=by
 have l:=T.len;have:=(oW t).2;have:=(oW t).1;have e:t.rows.take t.kl++(W::X)++t.rows.drop t.kl=t.rows.take t.kl++W::(X++t.rows.drop t.kl):=by simp
 rw[e,(sE t).1];refine qc P.kp (λws hw=>(ay.mp hw).elim (a ws) (oO T P _ ws)) ?_ c b (by simp[Tx.kl]);simp only[az,ax,ag,bY];have:t.kl=t.ks.length:=rfl;omega
include T kk P in
theorem Hc:F.length<=900:=by have:=bG List.length P.eF;have:=kk.len;simp at *;omega
include T kk P in
theorem Q1{W:List String}(h:W∈HR):Rf (t.rows.take t.kl++[mS W]++t.rows.drop t.kl) t.kl:=by sleep 1;obtain⟨a,_,_,_,b⟩:=VO kk P;sleep 2;exact xa T kk P (Nu h).1 (by simp) (by simp) ((Nu h).2 (FA T kk P) (aw.mpr {_,b,rfl}) (Hc T kk P))
include T kk P in
theorem He:Rf (t.rows.take t.kl++t.rows.take 1++t.rows.drop t.kl) t.kl:=by
 sleep 1;obtain⟨a,f,b,e,c⟩:=VO kk P;sleep 2;have d:t.rows.take 1=[f7 {zZ "ka",Z,a}]:=by rw[jt,e];rfl
 have g:=kk.gr {zZ "ka",Z,a} (by rw[e];simp);rw[d];exact xa T kk P g.xm (by simp) (by simp) (o7.of g.2.1 (by have:=g.2.2;omega) λL i _=>{_,oh (Bw (.inr {_,_,rfl,aw.mpr {_,c,rfl}})) i})
def W5:List (List String):=[[""],["end"],["main"],["kind","kq"],["func","fq"],["rest"]]
theorem VP:(W5.all λW=>Yx (mS W)&&(Nl (mS W)||(mS W).all lQ))=true:=by decide +kernel
include T P in
theorem VQ{W:List String}(h:W∈W5):Rf (t.rows++[mS W]) t.rows.length:=by
 have q:=aI.mp VP W h;simp only[aO,cz,aI] at q;have l:=T.len;have a:(mS W).length<=900:=by simp only[W5,ah,aU,cx] at h;rcases h with rfl|rfl|rfl|rfl|rfl|rfl<;>decide
 refine qc P.pt (by simp) (by simp;omega) (Fy q.1) ?_ rfl;rcases q.2 with q|q
 .exact o7.nm q
 .exact o7.of q a λL i _=>{_,G4 i}
abbrev σm(t:Tx)(F:List (Str×fZ))(a:List Str):TS:={F,hH t++[(zZ "main",wl [zZ "main"])],Y (zZ "main",a),false}
include T P in
theorem zf{X1 X2:List Lr}{W bs:Lr}(b:Bk t.K t.M t.Fu [] X1 bs)(g:∀ws∈X1,GR ws)(d:∀ws∈X2,y1 ws)(f:y1 W)(j:X1.length+X2.length<=20)(c:o7 W (σm t F bs))(i:n=t.ml+1+X1.length):Rf (t.rows.take (t.ml+1)++(X1++W::X2)++t.rows.drop (t.ml+1)) n:=by
 have p:=(IS T P).app (b.pt P.hF (by simp) g);have l:=T.len;have:=(oW t).2;have e:t.rows.take (t.ml+1)++(X1++W::X2)++t.rows.drop (t.ml+1)=(t.ks.map f7++t.bd++[[zZ "main"]]++X1)++W::(X2++t.rows.drop (t.ml+1)):=by rw[(sF t).1];simp
 have h:t.rows.take (t.ml+1)=t.ks.map f7++t.bd++[[zZ "main"]]:=(sF t).1;have a:=bG List.length h;rw[e];refine qc p (λws hw=>(ay.mp hw).elim (d ws) (oO T P _ ws)) ?_ f c ?_
 .simp only[az,ax,bP,bY] at a ⊢;omega
 .simp only[az,bP] at a ⊢;omega
theorem sJ{bs:Lr}(h:bs=[]\/∃b x,bs=b++[x]/\fZ.strOk x=true/\x≠zZ "if"):o7 [zZ "else"] (σm t F bs):=o7.of Bg (by simp) λL i _=>{_,QY h i}
theorem qt:GR [zZ "else"]:={by simp,Bg,by simp}
def W6:List (List String):=[["main"],["kind","kq"],["method","ka","m"],["func"]]
theorem VR:(W6.all λW=>(mS W).all lQ&&decide (W.length<=12)&&!W.isEmpty&&Np (mS W)&&decide (mS W≠[zZ "end"])&&decide (mS W≠[zZ "else"]))=true:=by decide +kernel
include T P in
theorem Q2{W:List String}(h:W∈["else"]::W6):Rf (t.rows.take (t.ml+1)++[mS W]++t.rows.drop (t.ml+1)) (t.ml+1):=by
 rcases ah.mp h with rfl|h
 .exact zf T P (X1:=[]) (X2:=[]) (.nil []) (by simp) (by simp) qt.xm (by simp) (sJ (.inl rfl)) rfl
 .have q:=aI.mp VR W h;simp only[aO] at q;obtain⟨⟨⟨d,c⟩,b⟩,a⟩:=q;have g:=kb (W:=W) (by simp only[aO];exact d);exact zf T P (X1:=[]) (X2:=[]) (.nil []) (by simp) (by simp) g.xm (by simp) (o7.of g.2.1 (by have:=g.2.2;omega) λL i _=>{_,w9 g (dA b) (dA a) (Bx c) i}) rfl
def IT:List (List String):=[["while","choose"],["if","some","x"]]
include T P in
theorem Nv{W:List String}(h:W∈IT):∃w r,mS W=zZ w::r/\(w="if"\/w="while")/\Ck r/\GR (mS W):=by
 simp only[IT,ah,aU,cx] at h;rcases h with rfl|rfl
 .exact{"while",_,rfl,.inr rfl,.choose,kb (by decide +kernel)}
 .exact{"if",_,rfl,.inl rfl,.some,kb (by decide +kernel)}
theorem VS{K:Lr}{M:List (Str×Str)}{Fu:List (Str×Nat)}{w:String}{r:Lr}(hw:w="if"\/w="while")(c:Ck r):∀(n:Nat) (bs:Lr),bs.length+n<=8->Bk K M Fu bs (List.replicate n (zZ w::r)) (bs++List.replicate n (zZ w))
 |0,bs,_=>by simpa using Bk.nil bs
 |n+1,bs,h=>by have:=VS (K:=K) (M:=M) (Fu:=Fu) hw c n (bs++[zZ w]) (by simp;omega);rw[bK,bK];refine .MY hw c (by omega) ?_;simpa using this
include T P in
theorem Q3{W:List String}(h:W∈IT):Rf (t.rows.take (t.ml+1)++List.replicate 9 (mS W)++t.rows.drop (t.ml+1)) (t.ml+9):=by
 sleep 1;obtain⟨w,r,e,hw,c,g⟩:=Nv T P h;sleep 2;have b:=VS (K:=t.K) (M:=t.M) (Fu:=t.Fu) hw c 8 [] (by simp);rw[bO] at b;rw[e] at g ⊢;have:=zf T P (X1:=List.replicate 8 (zZ w::r)) (X2:=[]) (W:=zZ w::r) b (λws hw=>by rw[(List.mem_replicate.mp hw).2];exact g) (by simp) g.xm (by simp) (n:=t.ml+9) ?_ (by simp)
 .exact this
 refine o7.of g.2.1 (by have:=g.2.2;omega) λL i l=>?_;sleep 1;obtain⟨⟨⟨q,a,o,j,_⟩,p,m⟩,f,d⟩:=c.ok (K:=t.K) (M:=t.M) (Fu:=t.Fu) hw;sleep 2;exact{_,Bu (wK o g p m (λk e=>P.hF k (j k e)) f d (v:=false) (by simp[qy,WV,dI]) (by simp) l i)}
end
def J'(n:Nat):strSliceIndices Z (Y 6) 1 n=List.range (min 6 n):=by
 unfold strSliceIndices sliceRange;simp only[show (1:Int) > 0 by decide,cY,show ¬ (6:Int)<0 by decide,e9];have e:(max 0 (min 6 (n:Int)))=((min 6 n:Nat):Int):=by omega
 rw[e];have:(if (0:Int)<((min 6 n:Nat):Int) then (((min 6 n:Nat):Int) - 0+1 - 1) / 1 else 0).toNat=min 6 n:=by split<;>omega
 rw[this];refine(eX λk _=>?_).trans (List.map_id _);show (0+1*(k:Int)).toNat=k;omega
def Nw(x:Str):(Txt.slice x Z (Y 6)).cps.toList=x.cps.toList.take 6:=by
 unfold Txt.slice;rw[J',List.length_range];have b:x.length=x.cps.toList.length:=by show x.cps.size=_;simp
 split
 .rename_i h;simp only[BEq.rfl,Bool.true_and,bw] at h;rw[cD (by omega)]
 .rw[b];generalize d:x.cps.toList=l;show (List.filterMap (λi=>x.cps[i]?) (List.range (min 6 l.length))).toArray.toList=_;rw[List.toList_toArray,show (λi=>x.cps[i]?)=λi=>l[i]? from funext λi=>by rw[<-d,Array.getElem?_toList]];have a:∀(m:Nat) (l:List Nat),m<=l.length->List.filterMap (λi=>l[i]?) (List.range m)=l.take m:=λm=>by
   induction m with
   |zero=>intro l _;simp
   |succ m c=>intro l h;rw[List.range_succ,List.filterMap_append,c l (by omega),fi];simp only[b5,List.filterMap_nil];cases l[m]?<;>rfl
  rw[a _ _ (by omega),Nat.min_def];split
  .rfl
  .rw[cD (aH _),cD (by omega)]
def hB(a:Lr):Bool:=(match a with|w::_=>w==zZ "method" |[]=>false)||(Txt.slice (ln a) Z (Y 6)==zZ "func f")
def Q4{d:Lr}(g:GR d)(h:hB d=true):(∃r,d=zZ "method"::r)\/∃x r,d=zZ "func"::x::r/\¬ NF x:=by
 unfold hB at h;simp only[cz] at h;obtain⟨w,r,rfl⟩:∃w r,d=w::r:=by
  cases d with
  |nil=>exact absurd rfl g.1
  |cons w r=>exact{(w),r,rfl}
 rcases h with h|h
 .exact .inl {r,by rw[eq_of_beq h]}
 right;have e:=bG (λz:Str=>z.cps.toList) (eq_of_beq h);simp only[Nw] at e;rw[show (zZ "func f").cps.toList=[102,117,110,99,32,102] by decide +kernel] at e;have f:=me (g.2.1 w (by simp)) (c:=32) (by decide);cases r with
 |nil=>rw[show ln [w]=w from rfl] at e;exact absurd (by have:=fU (show 32∈w.cps.toList.take 6 by rw[e];simp);exact this) f
 |cons x r=>
  have i:(ln (w::x::r)).cps.toList=[102,117,110,99,32,102]++(ln (w::x::r)).cps.toList.drop 6:=by rw[<-e,List.take_append_drop]
  have o:(ln (w::x::r)).cps.toList=w.cps.toList++32::(ln (x::r)).cps.toList:=mj 32 w x r;rw[o] at i;have n:w.cps.toList++32::(ln (x::r)).cps.toList=[102,117,110,99]++32::(102::(w.cps.toList++32::(ln (x::r)).cps.toList).drop 6):=i;obtain⟨a,b⟩:=va _ _ _ _ f (by decide) n;refine{x,r,?_,λj=>?_}
  .rw[show w=zZ "func" from Str.ext' (dG.mp (a.trans (by decide +kernel)))]
  .have p:=me (g.2.1 x (by simp)) (c:=32) (by decide);have m:x.cps.toList≠[]:=λz=>by
    have:=(k8.mp (g.2.1 x (by simp))).1;have k:x.length=x.cps.toList.length:=by show x.cps.size=_;simp
    rw[k,z] at this;simp at this
   apply j;cases r with
   |nil=>rw[show ln [x]=x from rfl] at b;rw[b];rfl
   |cons y r=>
    rw[show (ln (x::y::r)).cps.toList=x.cps.toList++32::(ln (y::r)).cps.toList from mj 32 x y r] at b;cases q:x.cps.toList with
    |nil=>exact absurd q m
    |cons c l=>rw[q] at b;injection b with b _;rw[b];rfl
def Bk.noH{K:Lr}{M:List (Str×Str)}{u:List (Str×Nat)}{n l:Lr}{f:List Lr}(h:Bk K M u n f l):∀j∈f,(∀r,j≠zZ "method"::r)/\(∀x r,j=zZ "func"::x::r->NF x)/\j≠[zZ "main"]:=by
 have e:∀{w:String}{r:Lr},(w=="method")=false->(w=="func")=false->(w=="main")=false->(∀g,zZ w::r≠zZ "method"::g)/\(∀x g,zZ w::r=zZ "func"::x::g->NF x)/\zZ w::r≠[zZ "main"]:=λt s q=>
  {λg z=>by injection z with z _;exact kH t z,λx g z=>by injection z with z _;exact absurd z (kH s),λz=>by injection z with z _;exact kH q z}
 have c:∀{j:Lr}{d:List Lr}{p:Lr->Prop},p j->(∀x∈d,p x)->∀x∈j::d,p x:=λa b x m=>by
  rcases ah.mp m with rfl|m
  .exact a
  .exact b x m
 induction h with
 |nil=>simp
 |@row n l w r d k _ i=>
  refine c ?_ i;cases k with
  |func o=>exact{λg z=>by injection z with z _;exact kH (by decide) z,λx g z=>by injection z with _ z;injection z with z _;rw[<-z];exact o,λz=>by injection z with z _;exact kH (by decide) z}
  |_=>exact e (by decide) (by decide) (by decide)
 |MY hw _ _ _ i=>exact c (by rcases hw with rfl|rfl<;>exact e (by decide) (by decide) (by decide)) i
 |Jb _ i=>exact c (e (by decide) (by decide) (by decide)) i
 |fin _ i=>exact c (e (by decide) (by decide) (by decide)) i
section
variable {t:Tx}{H:List (Str×fZ)} (T:oK t) (kk:mV t.ks) (P:II t F H)
def Ca(h:Hd)(b:Bool):Hd:={h.key,if b then [zZ "q"] else [],[]}
theorem Q5{K:Lr}{h:Hd}(v:HV K h)(b:Bool):HV K (Ca h b):=by refine{v.key,?_,by simp[Ca],?_,?_,?_,?_,by simp[Ca]}<;>cases b<;>simp only[Ca,cY,e9,cq]<;>(try unfold NF)<;>decide +kernel
theorem Hf{K:Lr}{h:Hd}(v:HV K h):∃w r,h.ws=zZ w::r/\(w=="kind")=false:=by
 unfold Hd.ws;cases h.key with
 |lj k m=>exact{"method",_,rfl,by decide}
 |func f=>exact{"func",_,rfl,by decide}
theorem DE{K:Lr}{h:Hd}(v:HV K h)(c:∀k∈K,k∈F.map (·.1))(a:h.key.nm∈H.map (·.1)):o7 h.ws {(F),H,Z,false}:=by obtain⟨o,_⟩:=v.hd c;obtain⟨w,r,e,hw⟩:=Hf v;have i:=o.ish (gD H) .none (wl []);have b:=o.V9;have g:=o.nm;have l:=o.len;rw[e] at i b g l ⊢;exact o7.of g (by omega) λL n _=>{_,Nm hw (i _ _) b a n}
variable {Wc hs2:List (Hd×List Lr)}{h:Hd×List Lr} (eH:t.hs=Wc++h::hs2)
include eH in
theorem Q6:h∈t.hs:=by rw[eH];simp
include T P eH in
theorem Q7(b:Bool):Rf (t.rows.take t.ml++[(Ca h.1 b).ws,[zZ "end"]]++t.rows.drop t.ml) t.ml:=by
 have v:=T.hv h (Q6 eH);have l:=T.len;have:=(oW t).2;have a:t.rows.take t.ml++[(Ca h.1 b).ws,[zZ "end"]]++t.rows.drop t.ml=(t.ks.map f7++t.bd)++(Ca h.1 b).ws::([zZ "end"]::t.rows.drop t.ml):=by rw[(Bz t).1];simp
 rw[a];refine qc (BB T P) (λws hw=>?_) ?_ (wZ (Q5 v b)).xm (DE (Q5 v b) P.hF ?_) (by simp[Tx.ml])
 .rcases ah.mp hw with rfl|hw
  .exact qa.xm
  .exact oO T P _ ws hw
 .simp only[az,ax,ag,bY];have:t.ml=t.ks.length+t.bd.length:=rfl;omega
 .rw[hH,k9];exact aw.mpr {Bo.ent (nL h),aw.mpr {nL h,aw.mpr {h,Q6 eH,rfl},rfl},rfl}
def YD(t:Tx)(a:List (Hd×List Lr)):Nat:=t.kl+(a.flatMap λh=>iM h.1.ws h.2).length
include T P eH in
theorem Nx(b:Bool):Rf (t.rows.take t.kl++[(Ca h.1 b).ws,[zZ "give",zZ "x"],[zZ "end"]]++t.rows.drop t.kl) (YD t Wc+3):=by
 have v:=T.hv h (Q6 eH);have l:=T.len;have f:=Q5 v b;obtain⟨o,n⟩:=f.hd P.hF;have s:GR [zZ "give",zZ "x"]:=kb (W:=["give","x"]) (by decide +kernel);let a:Bo:={h.1.key.nm,(Ca h.1 b).ws,[[zZ "give",zZ "x"]]}
 have m:Dt t.K t.M t.Fu F a:={o,QH s,.row .give (.nil []),n,wZ f}
 have d:=P.nd;rw[eH,aD,aD,aD,aX,aX] at d;have e:h.1.key.nm≠zZ "main":=qb v.tX;have g:=Bo.pt P.hF m (H:=[]) (by simp) (by simp);rw[show (a.t==zZ "main")=false by simpa using e] at g;have p:(Wc.map nL).length<=t.rows.length:=by have:=vc (t.hs.map nL);rw[jt,BA];rw[eH] at this ⊢;simp only[az,ag,ax] at this ⊢;omega
 have k:=qr P.hF (Wc.map nL) [(a.t,wl a.hd)] (λx r=>by
  obtain⟨y,q,rfl⟩:=aw.mp r;have c:y∈t.hs:=by rw[eH];exact aA _ q
  exact{P.bo _ (aA _ (aw.mpr {(y),c,rfl})),qb (T.hv y c).tX}) (by
  show ([h.1.key.nm]++(Wc.map nL).map (·.t)).Nodup;rw[fO,bN];exact{λz=>d.1.2.2 _ z _ (by simp[nL]) rfl,d.1.1}) (by simp at p ⊢;omega)
 have i:t.rows.take t.kl++[(Ca h.1 b).ws,[zZ "give",zZ "x"],[zZ "end"]]++t.rows.drop t.kl=(t.ks.map f7++(a.txt++(Wc.map nL).flatMap Bo.txt))++h.1.ws::(h.2++[zZ "end"]::((hs2.flatMap λh=>iM h.1.ws h.2)++[zZ "main"]::(t.mr++[[zZ "end"]]))):=by rw[(sE t).1,(sE t).2,Tx.bd,eH];simp[Bo.txt,a,iM,nL,List.flatMap_map,cZ]
 have j:=oO T P t.kl;rw[(sE t).2,Tx.bd,eH,cZ,cV] at j;have u:t.rows.length=t.ks.length+(t.bd.length+(1+(t.mr.length+1))):=by rw[jt];simp;omega
 rw[i];refine qc (P.kp.app (g.app k)) (λws hw=>j ws ?_) ?_ (wZ v).xm (DE v P.hF (by simp[a])) ?_
 .simp only[iM,ay,ah] at hw ⊢
  grind
 .rw[<-i];simp only[az,ax,dn,bP,bY];omega
 .simp[YD,a,Bo.txt,Tx.kl,iM,nL,List.flatMap_map];omega
end
section
variable {t:Tx}{H:List (Str×fZ)} (T:oK t) (kk:mV t.ks) (P:II t F H)
include T P in
theorem Ny:Rf (t.rows.take (t.ml+1)++[["if","choose"],["else"],["rest"],["else"],["end"]].map mS++t.rows.drop (t.ml+1)) (t.ml+4) :=
 zf T P (X1:=[["if","choose"],["else"],["rest"]].map mS) (X2:=[mS ["end"]]) (.MY (.inl rfl) .choose (by simp) (.Jb (bs:=[]) (.row .rest (.nil [zZ "else"])))) (SJ (kb (by decide +kernel)) qt (kb (by decide +kernel))) (QH qa.xm) qt.xm (by simp) (sJ (.inr {[],_,rfl,a8 _,kH (by decide)})) rfl
include T P in
theorem Nz:Rf (t.rows.take (t.ml+1)++[["while","choose"],["rest"],["else"],["end"]].map mS++t.rows.drop (t.ml+1)) (t.ml+3) :=
 zf T P (X1:=[["while","choose"],["rest"]].map mS) (X2:=[mS ["end"]]) (.MY (.inr rfl) .choose (by simp) (.row .rest (.nil [zZ "while"]))) (Dw (kb (by decide +kernel)) (kb (by decide +kernel))) (QH qa.xm) qt.xm (by simp) (sJ (.inr {[],_,rfl,a8 _,kH (by decide)})) rfl
include T P in
theorem DF:Rf (t.rows.take (t.ml+1)++[["if","some","x"],["while","choose"],["end"],["else"],["else"]].map mS++t.rows.drop (t.ml+1)) (t.ml+5) :=
 zf T P (X1:=[["if","some","x"],["while","choose"],["end"],["else"]].map mS) (X2:=[]) (.MY (.inl rfl) .some (by simp) (.MY (.inr rfl) .choose (by simp) (.fin (bs:=[zZ "if"]) (.Jb (bs:=[]) (.nil [zZ "else"])))))
  (bV.2 {kb (by decide +kernel),SJ (kb (by decide +kernel)) qa qt}) (by simp) qt.xm (by simp) (sJ (.inr {[],_,rfl,a8 _,kH (by decide)})) rfl
include T P in
theorem Q8(h:t.kl<t.ml):Rf (t.rows.take t.ml++[mS ["kind","kq"]]++t.rows.drop t.ml) t.ml:=by
 have l:=T.len;have:=(oW t).2;have g:GR (mS ["kind","kq"]):=kb (by decide +kernel);rw[YC,(Bz t).1];refine qc (BB T P) (oO T P _) ?_ g.xm ?_ (by simp[Tx.ml])
 .have e:=bG List.length (Bz t).1;simp only[az,ax,bP,bY,ag] at e ⊢;omega
 .cases q:t.hs with
  |nil=>
   have:t.ml=t.kl:=by unfold Tx.ml Tx.bd Tx.kl;rw[q];simp
   omega
  |cons a l=>
   have e:hH t=(a.1.key.nm,wl a.1.ws)::hg ((l.map nL).map Bo.ent):=by unfold hH;rw[q];rfl
   rw[e];exact o7.of g.2.1 (by decide) λL i _=>{_,oh (r:=mS ["kq"]) G5 i}
theorem IU{a:Lr}(h:a∈oa "f" "u")(b:a≠[]):a=mS ["f"]\/a=mS ["f","u"]:=by
 simp only[oa,ah,aU,cx] at h;rcases h with rfl|rfl|rfl
 .exact absurd rfl b
 .exact .inl rfl
 .exact .inr rfl
abbrev YE(f:Str):KR:={zZ "kq",Y (zZ "ka"),[zZ "new",f]}
abbrev VT:KR:={zZ "kq",Y (zZ "ka"),[]}
abbrev VU(f:Str):KR:={zZ "kr",Y (zZ "kq"),[f,zZ "new"]}
theorem BC{f:Str}(h:f∈mS ["f","u"]):GR (f7 (YE f))/\GR (f7 (VU f))/\dt (.str (zZ "kind kq of ka fields new ")) (.str f)=Y (.str (ln (f7 (YE f))))/\(dt (.str (zZ "kind kr of kq fields ")) (.str f)).bind (λx=>dt x (.str (zZ " new")))=Y (.str (ln (f7 (VU f)))):=by
 simp only[mS,ae,bL,ah,aU,cx] at h;rcases h with rfl|rfl
 .exact{kb (W:=["kind","kq","of","ka","fields","new","f"]) (by decide +kernel),kb (W:=["kind","kr","of","kq","fields","f","new"]) (by decide +kernel),by kernel_rfl,by kernel_rfl}
 .exact{kb (W:=["kind","kq","of","ka","fields","new","u"]) (by decide +kernel),kb (W:=["kind","kr","of","kq","fields","u","new"]) (by decide +kernel),by kernel_rfl,by kernel_rfl}
theorem sL{a:Lr}(h:a=mS ["f"]\/a=mS ["f","u"]){f:Str}(b:f∈a):f∈mS ["f","u"]/\jr [wl (a++[zZ "new",f])]=Y (.bool false)/\jr [wl (a++[f,zZ "new"])]=Y (.bool false):=by
 rcases h with rfl|rfl<;>simp only[mS,ae,bL,ah,aU,cx] at b
 .subst b;exact{by simp[mS],by kernel_rfl,by kernel_rfl}
 .rcases b with rfl|rfl<;>exact{by simp[mS],by kernel_rfl,by kernel_rfl}
include T kk P in
theorem Q9{a:Lr}(b:a=mS ["f"]\/a=mS ["f","u"])(c:(zZ "ka",wl a)∈F){f:Str}(d:f∈a):Rf (t.rows.take t.kl++[f7 (YE f)]++t.rows.drop t.kl) t.kl:=by
 obtain⟨h,e,_⟩:=sL b d;obtain⟨g,_⟩:=BC h;have s:=FA T kk P;have j:a.length<=2:=by rcases b with rfl|rfl<;>decide
 exact xa T kk P g.xm (by simp) (by simp) (o7.of g.2.1 (by have:=g.2.2;omega) λL i _=>{_,sr (r:=YE f) (inh:=a) s.fo.1 (λz=>zc.2.1 (s.kn _ z)) qZ c e (Hc T kk P) (by simp;omega) i})
include T kk P in
theorem NA{c:Lr}(j:c=mS ["f"]\/c=mS ["f","u"])(w:(zZ "ka",wl c)∈F){f:Str}(y:f∈c):Rf (t.rows.take t.kl++[f7 VT,f7 (VU f)]++t.rows.drop t.kl) (t.kl+1):=by
 obtain⟨C,_,B⟩:=sL j y;obtain⟨_,g,_⟩:=BC C;have D:GR (f7 VT):=kb (W:=["kind","kq","of","ka"]) (by decide +kernel);have s:=FA T kk P;have l:=T.len;have:=(oW t).2;have:=(oW t).1;have v:=bG List.length P.eF;have G:=kk.len;simp only[ag] at v;have E:c.length<=2:=by rcases j with rfl|rfl<;>decide
 have u:c.Nodup:=by rcases j with rfl|rfl<;>decide +kernel
 have m:zZ "kq"∉F.map (·.1):=λz=>zc.2.1 (s.kn _ z);have h:NS (F++[(zZ "kq",wl c)]):=by
  refine{?_,λp d=>?_}
  .rw[aD,aX];refine{s.fo.1,by simp,λa A b o z=>?_};simp at o;subst o;subst z;exact m A
  .rcases ay.mp d with d|d
   .exact s.fo.2 p d
   .simp at d;subst d;exact{c,rfl,by omega}
 have q:X_ F (Lt t.M t.Fu) {F,[],Z,false} (f7 VT) {F++[(zZ "kq",wl c)],[],Z,false}:=by refine{D,λn L _=>{[],by simp,by simp,?_},λ_=>{h,λk x=>by rw[aD];exact aA _ x}};have:=GP (la:=.list L) (r:=VT) (inh:=c) (hs:=gD []) s.fo.1 m qZ w (by simpa using u) (Hc T kk P) (by simp;omega) (n:Int);rw[aK] at this ⊢;exact this
 have e:t.rows.take t.kl++[f7 VT,f7 (VU f)]++t.rows.drop t.kl=(t.ks.map f7++[f7 VT])++f7 (VU f)::t.rows.drop t.kl:=by rw[(sE t).1];simp
 rw[e];refine qc (P.kp.app (.cons q (.nil _))) (oO T P _) ?_ g.xm (o7.of g.2.1 (by have:=g.2.2;omega) λL i _=>{_,sr (r:=VU f) (inh:=c) h.1 ?_ qZ (show Wa _ (Y (zZ "kq")) c from ar _ (by simp)) B (by have:=Hc T kk P;simp;omega) (by simp;omega) i}) (by simp[Tx.kl])
 .simp only[az,ax,dn,ag,bY];have:t.kl=t.ks.length:=rfl;omega
 .rw[aD];intro z;rcases ay.mp z with z|z
  .exact zc.2.2 (s.kn _ z)
  .simp at z;exact kH (by decide) z
end
def DG{rows:List Lr}{ws:Lr}(h:rows[i]?=Y ws):gS (wl (rows.map ln)) (zi i)=Y (.str (ln ws)):=by simp only[wl,pY];rw[Ql,aM,aM,h];rfl
def Hg{a:fZ}{k:Nat}{w:String}{r:Lr}(g:GR (zZ w::r))(h:gS a (zi k)=Y (.str (ln (zZ w::r)))):ja [Y a,Y (zi k)]=if w=="kind" then Y (.nx [Y a,Y (zi k)]) else Y (.rt (zi k)):=by
 have b:hV (.str (ln (zZ w::r))) [.str (zZ " ")]=Y (wl (zZ w::r)):=g.split;cases q:(w=="kind") with
 |true=>exact gC (by simp? only[h,b,jB,ki,q]) rfl
 |false=>exact iY (by simp? only[h,b,jB,ki,q]) rfl
theorem Hh{ls:fZ}{j m:Nat}{w:String}{r:Lr}(g:GR (zZ w::r))(hw:(w=="kind")=false):∀(n k:Nat) (a:Od),k+n=j->n<m->(∀i,k<=i->i<j->∃q,GR (zZ "kind"::q)/\gS ls (zi i)=Y (.str (ln (zZ "kind"::q))))->gS ls (zi j)=Y (.str (ln (zZ w::r))) ->
  jl (o5 (.one 1)) ja ((List.range' k m).map λ(i:Nat)=>fZ.int (i:Int)) [Y ls,a]=Y (.rt (zi j))
 |n,k,a,e,hm,hk,hj=>by
  cases m with
  |zero=>omega
  |succ m=>
   rw[eG,ae];cases n with
   |zero=>
    have:k=j:=by omega
    subst this;rw[jl];show (ja [Y ls,Y (zi k)]).bind _=_;rw[Hg g hj,hw];rfl
   |succ n=>obtain⟨q,d,c⟩:=hk k (by omega) (by omega);refine iN rfl (Hg (w:="kind") d c) ?_;exact Hh g hw n (k+1) _ (by omega) (by omega) (λi h1 b=>hk i (by omega) b) hj
section
variable {t:Tx}{H:List (Str×fZ)} (T:oK t) (kk:mV t.ks) (P:II t F H)
theorem VV(t:Tx)(T:oK t):∃w r,t.rows[t.kl]?=Y (zZ w::r)/\(w=="kind")=false:=by
 have e:t.rows[t.kl]?=(t.bd++[zZ "main"]::(t.mr++[[zZ "end"]]))[0]?:=by rw[jt,aP (by simp[Tx.kl])];simp[Tx.kl]
 rw[e];cases q:t.hs with
 |nil=>exact{"main",[],by simp[Tx.bd,q],by decide}
 |cons h b=>obtain⟨w,r,a,hw⟩:=Hf (T.hv h (by rw[q];simp));exact{w,r,by simp[Tx.bd,q,iM,a],hw}
include T P in
theorem NB:lI [wl (t.rows.map ln)]=Y (zi t.kl):=by
 obtain⟨w,r,e,hw⟩:=VV t T;have l:=T.len;have c:=oW t;have g:=P.pt.gr _ (bU e);refine iP (gE ?_);rw[wq,wo,mT,wF (n:=t.rows.length) (by omega) _ _ (by show kJ [wl (t.rows.map ln)]=_;rw[oM,ag])];refine Hh (ls:=wl (t.rows.map ln)) g hw t.kl 0 Z (by omega) (by omega) (λi _ hi=>?_) (DG e);have a:i<t.ks.length:=hi;have b:t.rows[i]?=Y (f7 t.ks[i]):=by rw[jt,bf (by simpa using a),aM,aN a];rfl
 exact{_,P.pt.gr _ (bU b),DG b}
theorem Ra{a:Lr}(g:GR a)(h:ln a=zZ "main"):a=[zZ "main"] :=
 wx 32 a [zZ "main"] g.1 (by simp) (λp b=>me (g.2.1 p b) (by decide)) (λp b=>me (Bl.2.1 p b) (by decide)) h
include T P in
theorem Rb:zZ "main"∉(t.ks.map f7++t.bd).map ln:=λz=>by
 obtain⟨a,hw,e⟩:=aw.mp z;have b:a∈t.rows:=by
  rw[jt];rcases ay.mp hw with hw|hw
  .exact aA _ hw
  .exact ar _ (aA _ hw)
 have:=Ra (P.pt.gr a b) e;subst this;rcases ay.mp hw with hw|hw
 .obtain⟨r,_,e⟩:=aw.mp hw;injection e with e _;exact kH (by decide) e
 .obtain⟨h,c,hw⟩:=List.mem_flatMap.mp hw;rcases ah.mp hw with e|hw
  .unfold Hd.ws at e;cases q:h.1.key with
   |lj k m=>rw[q] at e;injection e with e _;exact kH (by decide) e
   |func f=>rw[q] at e;injection e with e _;exact kH (by decide) e
  .rcases ay.mp hw with hw|hw
   .exact((T.bk h c).noH _ hw).2.2 rfl
   .simp at hw;exact kH (by decide) hw
include T P in
theorem Hj:lN [wl (t.rows.map ln)]=Y (zi t.ml):=by
 have l:=T.len;have e:t.rows.map ln=(t.ks.map f7++t.bd).map ln++zZ "main"::(t.mr++[[zZ "end"]]).map ln:=by rw[jt];simp;rfl
 have d:∀w∈(t.ks.map f7++t.bd).map ln++zZ "main"::(t.mr++[[zZ "end"]]).map ln,fZ.strOk w=true:=λw hw=>by rw[<-e] at hw;obtain⟨c,a,rfl⟩:=aw.mp hw;exact mO (by decide +kernel) (P.pt.gr c a).ok
 have b:=tS (a8 "main") d (Rb T P) (by rw[<-e,ag];omega);rw[<-e,show ((t.ks.map f7++t.bd).map ln).length=t.ml by simp[Tx.ml]] at b;refine iP ?_
 simp? only[wl,b]
end
def K'{g:aC->Od}{i j:Int}(b:f ρ=Y (.int i))(a:g ρ=Y (.int j))(h:-(2 ^ 62)<=i/\i<2 ^ 62/\-(2 ^ 62)<=j/\j<2 ^ 62):rp f g ρ=Y (kI i (j - i).toNat):=by rw[E_,b,a];simp only[aL];rw[ai h]
def IV(a n:Nat):kI (a:Int) n=(List.range' a n).map λ(i:Nat)=>fZ.int (i:Int):=by unfold kI;rw[List.range'_eq_map_range,dF];refine eX λk _=>?_;simp
def YF{a b:Nat}(h:a<=1000)(e:b<=1000){g:aC->Od}(k:f ρ=Y (zi a))(j:g ρ=Y (zi b)):rp f g ρ=Y ((List.range' a (b - a)).map λ(i:Nat)=>fZ.int (i:Int)):=by have d:=Rm h;have c:=Rm e;rw[K' k j {d.1,d.2,c.1,c.2},show ((b:Int) - (a:Int)).toNat=b - a by omega,IV]
theorem zj{T:aC->Option Bool}{C:aC->Od}{cap:aC}{p:Nat->Bool}:∀{l:List Nat},(∀k∈l,T (Y (zi k)::cap)=Y (p k)/\C (Y (zi k)::cap)=Y (zi k))->gP T C cap (l.map λ(k:Nat)=>fZ.int (k:Int))=Y ((l.filter p).map λ(k:Nat)=>fZ.int (k:Int))
 |[],_=>rfl
 |k::l,q=>by
  have a:=zj (T:=T) (C:=C) (cap:=cap) (p:=p) λx (d:x∈l)=>q x (by simp[d]);obtain⟨c,b⟩:=q k (by simp);rw[ae,gP,c];cases e:p k with
  |false=>rw[List.filter_cons_of_neg (by simp[e])];simpa using a
  |true=>rw[List.filter_cons_of_pos e,ae];simp[b,a]
def Rc(l:List Nat):jf (.list (l.map λ(k:Nat)=>fZ.int (k:Int))) (.list [])=Y (.bool l.isEmpty):=by
 have c:∀l:List Nat,fZ.canLayAll0 (l.map λ(k:Nat)=>fZ.int (k:Int))=true/\fZ.depthAll (l.map λ(k:Nat)=>fZ.int (k:Int))<=1:=λl=>by
  induction l with
  |nil=>simp[fZ.canLayAll0,fZ.depthAll]
  |cons a l b=>rw[ae,fZ.canLayAll0,fZ.depthAll,b.1];exact{rfl,by have:=b.2;simp[fZ.depth];omega}
 have d:SeqAt.shaped (.list (l.map λ(k:Nat)=>fZ.int (k:Int)))=true:=by
  have:fZ.depth (.list (l.map λ(k:Nat)=>fZ.int (k:Int)))<=64:=by rw[fZ.depth];have:=(c l).2;omega
  simp[SeqAt.shaped,fZ.canLay0,(c l).1,this]
 rw[jf,ai {d,by rfl}];cases l with
 |nil=>rfl
 |cons a l=>rw[ae,fZ.eqv,fZ.eqvAll];rfl
def VW{f g:aC->Option Bool}{b:Option Bool}(h:f ρ=Y false)(k:g ρ=b):vo f g ρ=b:=by rw[xU,h];exact k
def YG{f g:aC->Option Bool}(h:f ρ=Y true):vo f g ρ=Y true:=by rw[xU,h];rfl
def YH{i:fZ}{k:Nat}{a:Lr}(g:GR a)(h:gS i (zi k)=Y (.str (ln a))):j9 [Y (zi k),Y i]=Y (hB a):=by
 obtain⟨w,r,rfl⟩:∃w r,a=w::r:=by
  cases a with
  |nil=>exact absurd rfl g.1
  |cons w r=>exact{(w),r,rfl}
 have f:hV (.str (ln (w::r))) [.str (zZ " ")]=Y (wl (w::r)):=g.split;have b:=ID (g.ok w (by simp)) (a8 "method");have j:gS (wl (w::r)) (.int 0)=Y (.str w):=by simp only[wl,ae,pY,xk]
 unfold hB;simp only;cases hb:(w==zZ "method")<;>rw[hb] at b
 .have n:(ln (w::r)).length<=sizeLine:=by have:(ln (w::r)).length<=108:=g.len;rw[sizeLine_eq];omega
  have c:fZ.strOk (Txt.slice (ln (w::r)) Z (Y 6))=true:=by have e:fZ.strOk (ln (w::r))=true:=mO (by decide +kernel) g.ok;unfold fZ.strOk at e ⊢;rw[Array.all_eq_true_iff_forall_mem] at e ⊢;intro x d;refine e x ?_;rw[<-Array.mem_toList_iff] at d ⊢;rw[Nw] at d;exact fU d
  have m:=ID c (a8 "func f");have l:sS (.str (ln (w::r))) Z (Y 6)=Y (.str (Txt.slice (ln (w::r)) Z (Y 6))):=ai n;refine(VW (ej b ?_ rfl) (ej m ?_ rfl)).trans (by rw[Bool.false_or])
  .simp? only[h,f,j]
  .simp? only[h,l]
 .exact(YG (ej b (by simp? only[h,f,j]) rfl)).trans (by rw[Bool.true_or])
section
variable {t:Tx}{H:List (Str×fZ)} (T:oK t) (kk:mV t.ks) (P:II t F H)
theorem zo:∀(f:List (Hd×List Lr)) {K:Lr}{M:List (Str×Str)}{Fu:List (Str×Nat)} (_:∀h∈f,GR h.1.ws/\Bk K M Fu [] h.2 []/\∀a∈h.2,GR a) (i:Nat) (a:Lr),(f.flatMap λh=>iM h.1.ws h.2)[i]?=Y a->hB a=true->∃c h d,f=c++h::d/\i=(c.flatMap λh=>iM h.1.ws h.2).length/\a=h.1.ws
 |[],_,_,_,_,i,a,e,_=>by simp at e
 |h::f,K,M,Fu,ho,i,a,e,hb=>by
  obtain⟨g,b,n⟩:=ho h (by simp);rw[cV] at e;by_cases l:i<(iM h.1.ws h.2).length
  .rw[bf l] at e;cases i with
   |zero=>exact{[],h,f,rfl,rfl,by simp[iM] at e;exact e.symm}
   |succ i=>
    exfalso;rw[iM,bt] at e;have hm:=bU e;rcases ay.mp hm with hm|hm
    .obtain⟨s,q,_⟩:=b.noH a hm;rcases Q4 (n a hm) hb with ⟨r,z⟩ | ⟨x,r,z,j⟩
     .exact s r z
     .exact j (q x r z)
    .simp at hm;subst hm;exact absurd hb (by decide +kernel)
  .rw[aP (by omega)] at e;sleep 1;obtain⟨c,m,d,p,t,o⟩:=zo f (λx k=>ho x (by simp[k])) _ a e hb;sleep 2;refine{h::c,m,d,by rw[p];rfl,?_,o};rw[cV,az];omega
include T P in
theorem NC{k:Nat}{c:Lr}(l:t.kl<=k)(j:k<t.ml)(e:t.rows[k]?=Y c)(g:hB c=true):∃a h b,t.hs=a++h::b/\k=YD t a/\c=h.1.ws:=by have i:k<t.ks.length+t.bd.length:=j;have f:t.ks.length<=k:=l;rw[jt,aP (by simpa using f),bf (by simp;omega)] at e;sleep 1;obtain⟨a,h,b,o,n,m⟩:=zo t.hs (K:=t.K) (M:=t.M) (Fu:=t.Fu) (λh d=>{wZ (T.hv h d),T.bk h d,T.gr h d}) _ c e g;sleep 2;refine{a,h,b,o,?_,m};simp only[ag] at n;unfold YD Tx.kl;omega
end
section
variable {t:Tx}{H:List (Str×fZ)} (T:oK t) (kk:mV t.ks) (P:II t F H) (D:u3 d)
theorem YI{K:Lr}{h:Hd}(v:HV K h):∃(a:String) (r base:Lr),h.ws=zZ a::r/\sS (wl h.ws) Z (Y (2+if a=="method" then 1 else 0))=Y (wl base)/\base.length<=3/\∀b:Bool,(Ca h b).ws=base++if b then [zZ "q"] else []:=by
 unfold Hd.ws;cases q:h.key with
 |lj k m=>refine{"method",_,[zZ "method",k,m],rfl,?_,by simp,λb=>by cases b<;>simp[Ca,q]};show sS (wl (zZ "method"::k::m::h.ps)) Z (Y ((3:Nat):Int))=_;rw[wl,yV,wB _ _ (by simp)];rfl
 |func f=>refine{"func",_,[zZ "func",f],rfl,?_,by simp,λb=>by cases b<;>simp[Ca,q,kw]};show sS (wl (zZ "func"::f::(h.ps++kw h.ks))) Z (Y ((2:Nat):Int))=_;rw[wl,yV,wB _ _ (by simp)];rfl
theorem YJ(x:Int):∃b:Bool,sS (.list [.str (zZ "q")]) Z (Y (x % 2))=Y (wl (if b then [zZ "q"] else [])):=by
 rcases(by omega:x % 2=0\/x % 2=1) with h|h<;>rw[h]
 .exact{false,by kernel_rfl}
 .exact{true,by kernel_rfl}
theorem vd(b:List Lr){a:Nat}(c:a<=b.length):sS (wl (b.map ln)) Z (Y (a:Int))=Y (wl ((b.take a).map ln)):=by rw[wl,yV,wB _ _ (by simpa using c)];simp[wl,fX]
include T kk P D in
theorem Rh:∃x,I' x/\j4 [wl (t.rows.map ln),.int (t.kl:Int),.int (t.ml:Int),d]=Y x:=by
 have l:=T.len;obtain⟨m1,m2⟩:=oW t;have gr:=P.pt.gr;obtain⟨m,h2⟩:=D.ix 2;obtain⟨I,h3⟩:=D.ix 3;obtain⟨u,N⟩:=D.ix 4;have M:gP j9 hW [Y (wl (t.rows.map ln))] ((List.range' t.kl (t.ml - t.kl)).map λ(k:Nat)=>fZ.int (k:Int))=Y (((List.range' t.kl (t.ml - t.kl)).filter λk=>hB (t.rows.getD k [])).map λ(k:Nat)=>fZ.int (k:Int)):=by
  refine zj λk p=>{?_,rfl}
  rw[List.mem_range'_1] at p;have C:k<t.rows.length:=by omega
  have e:t.rows[k]?=Y (t.rows.getD k []):=by rw[dE,aN C];rfl
  exact YH (gr _ (bU e)) (DG e)
 generalize hl:(List.range' t.kl (t.ml - t.kl)).filter (λk=>hB (t.rows.getD k []))=f at M;have S:∀r,tl (g:=lJ) rfl [Y (wl (t.rows.map ln)),Y (zi t.kl),Y (zi t.ml),Y d,Y (.list (f.map λ(k:Nat)=>fZ.int (k:Int))),Z,Z,Z]=r->lJ [Y (wl (t.rows.map ln)),Y (zi t.kl),Y (zi t.ml),Y d,Z,Z,Z,Z]=r:=λr e=>
  b7 (c9 (m9 (YF (a:=t.kl) (b:=t.ml) (by omega) (by omega) rfl rfl) (by simp;omega) M)) e
 have s:=Rc f;cases q:f with
 |nil=>rw[q] at s S;exact{_,{_,_,rfl,(He T kk P)},iP (S _ (gE (iY (ej s rfl rfl) (js l (by omega) (by omega) rfl rfl (vd t.rows (a:=1) (by omega)) rfl rfl (by simp;omega)))))}
 |cons k0 hr=>
  have K:f≠[]:=by rw[q];simp
  rw[show f.isEmpty=false by rw[q];rfl] at s;obtain⟨k,p,ek⟩:=Yn f K m;have F:gS (.list (f.map λ(k:Nat)=>fZ.int (k:Int))) (.int (m % (f.length:Int)))=Y (zi k):=by rw[pY,show qd (f.map λ(k:Nat)=>fZ.int (k:Int)) (m % (f.length:Int))=(qd f (m % (f.length:Int))).map λ(k:Nat)=>fZ.int (k:Int) by unfold qd;simp;rfl,ek];rfl
  have y:=iK (i:=m) (j:=(f.length:Int)) (by have:=bj.mpr K;omega);rw[<-hl,cb,List.mem_range'_1] at p;have B:k<t.rows.length:=by omega
  have E:t.rows[k]?=Y (t.rows.getD k []):=by rw[dE,aN B];rfl
  sleep 1;obtain⟨A,h,X,H,e2,e3⟩:=NC T P (by omega) (by omega) E p.2;sleep 2;rw[e3] at E;have v:=T.hv h (Q6 H);sleep 1;obtain⟨J,r,o,ew,eb,lb,eq⟩:=YI v;sleep 2;obtain⟨b,G⟩:=YJ I;have g:=wZ (Q5 v b);have gw:=wZ v;have Q:hV (.str (ln h.1.ws)) [.str (zZ " ")]=Y (wl h.1.ws):=gw.split;have U:=DG E;have W:gS (wl h.1.ws) (.int 0)=Y (.str (zZ J)):=by rw[ew];exact jB _ _
  have O:=iL o (if b then [zZ "q"] else []) (by cases b<;>simp<;>omega);rw[<-eq b] at O;have V:=g.join;have R:=iK (i:=I) (j:=2) (by decide);have L:=iK (i:=u) (j:=2) (by decide);have w:=DI (u % 2) 0;have a2:=xY 2 (if J=="method" then 1 else 0);have c:∀x,(a7 (iy R3 _ gd) _:aC->Option Out) [Y (wl (t.rows.map ln)),Y (zi t.kl),Y (zi t.ml),Y d,Y (.list (f.map λ(k:Nat)=>fZ.int (k:Int))),Y (zi k),Y (wl h.1.ws),Y (.str (ln (Ca h.1 b).ws))]=Y (.rt x)->j4 [wl (t.rows.map ln),.int (t.kl:Int),.int (t.ml:Int),d]=Y x:=λx ex=>by
   refine iP (S _ (b7 (gC (ej s rfl rfl) rfl) (b7 (c9 (d:=.int (k:Int)) ?_) (b7 (c9 (d:=wl h.1.ws) ?_) (b7 (c9 (d:=.str (ln (Ca h.1 b).ws)) ?_) ex)))))
   .rw[mT];simp? only[h2,nJ,ag,y,F]
   .rw[mT];simp? only[U,Q]
   .rw[mT];simp? only[W,gJ,Vm,a2,eb,h3,R,G,O,V]
  cases z:(u % 2==0)<;>rw[z] at w
  .exact{_,{_,_,rfl,(Nx T P H b)},c _ (b7 (gC (by simp? only[N,L,w]) rfl) (js (n:=YD t A+3) l (by omega) (by omega) rfl rfl (by simp? only[xj];rfl) rfl (by rw[<-e2];rfl) (by simp)))}
  .exact{_,{_,_,rfl,(Q7 T P H b)},c _ (gE (iY (by simp? only[N,L,w]) (js l (by omega) (by omega) rfl rfl (by simp? only[xj];rfl) rfl rfl (by simp))))}
end
section
variable {t:Tx}{H:List (Str×fZ)} (T:oK t) (kk:mV t.ks) (P:II t F H) (D:u3 d)
theorem YK(i j:Int):t7 (.int i) (.int j)=Y (.bool (decide (i<j))):=rfl
theorem YL(i j:Int):BF (.int i) (.int j)=Y (.bool (decide (j<i))):=rfl
include kk P in
theorem VX:∃a∈oa "f" "u",(zZ "ka",wl a)∈F/\∃x,gS (wl (t.rows.map ln)) (.int 0)=Y (.str x)/\∃ws,hV (.str x) [.str (zZ " ")]=Y (wl ws)/\sS (wl ws) (Y 3) Z=Y (wl a):=by sleep 1;obtain⟨a,b,c,e,d⟩:=VO kk P;sleep 2;have g:=kk.gr {zZ "ka",Z,a} (by rw[e];simp);refine{a,b,d,_,DG (rows:=t.rows) (i:=0) (ws:=f7 {zZ "ka",Z,a}) (by rw[jt,e];rfl),_,g.split,?_};simp only[oa,ah,aU,cx] at b;rcases b with rfl|rfl|rfl<;>kernel_rfl
theorem VY{a:Lr}(h:a∈oa "f" "u"):qw (wl a) (.list [])=Y (.bool (!a.isEmpty)):=by
 refine GX λw hw=>?_;simp only[oa,ah,aU,cx] at h;rcases h with rfl|rfl|rfl<;>simp at hw
 .subst hw;exact a8 _
 .rcases hw with rfl|rfl<;>exact a8 _
theorem NG{a:Lr}(h:a=mS ["f"]\/a=mS ["f","u"]):∃f∈a,gS (wl a) (.int (-1))=Y (.str f):=by
 rcases h with rfl|rfl
 .exact{zZ "f",by simp[mS],by kernel_rfl}
 .exact{zZ "u",by simp[mS],by kernel_rfl}
abbrev FC(t:Tx)(d:fZ)(w:Int)(a b c:Option fZ):aC:=[Y (wl (t.rows.map ln)),Y (zi t.kl),Y (zi t.ml),Y d,Y (.int w),a,b,c]
abbrev VZ:=d2 qw (fq 6) vO
abbrev YM:=fB VZ
include T kk P D in
theorem IW:∃x,I' x/\iW [wl (t.rows.map ln),.int (t.kl:Int),.int (t.ml:Int),d]=Y x:=by
 have l:=T.len;obtain⟨m1,m2⟩:=oW t;obtain⟨u,h2⟩:=D.ix 2;obtain⟨J,h3⟩:=D.ix 3;have L:=iK (i:=u) (j:=5) (by decide);have hw:0<=u % 5/\u % 5<5:=by omega
 generalize u % 5=w at L hw;sleep 1;obtain⟨c,M,N,x0,F,Q,B,c3⟩:=VX kk P;sleep 2;have p:=VY M;have S:∀x,tl (g:=k7) rfl (FC t d w Z Z Z)=Y (.rt x)->iW [wl (t.rows.map ln),.int (t.kl:Int),.int (t.ml:Int),d]=Y x:=λx e=>iP (b7 (c9 (d:=.int w) (by rw[mT];simp? only[h2,L])) e);have k:=YK w 2;by_cases h:w<2
 .rw[aW h] at k;rcases(by omega:w=0\/w=1) with rfl|rfl
  .exact{_,{_,_,rfl,(Ny T P)},S _ (gE (iY (ej k rfl rfl) (b7 (c9 (zK 0)) (js (a:=t.ml+1) (b:=t.ml+1) (n:=t.ml+4) l (by omega) (by omega) rfl rfl rfl rfl rfl (by decide)))))}
  .exact{_,{_,_,rfl,(Nz T P)},S _ (gE (iY (ej k rfl rfl) (b7 (c9 (zK 0)) (js (a:=t.ml+1) (b:=t.ml+1) (n:=t.ml+3) l (by omega) (by omega) rfl rfl rfl rfl rfl (by decide)))))}
 rw[aE h] at k;have R:=DI w 2;have v:=YL (t.ml:Int) (t.kl:Int);have I:(fB (d2 jf jP kh)) (FC t d w Z Z Z)=Y (w==2):=ej R rfl rfl;by_cases h':w=2/\t.kl<t.ml
 .obtain⟨rfl,hk⟩:=h';rw[aW (by omega)] at v;exact{_,{_,_,rfl,(Q8 T P hk)},S _ (b7 (gC (ej k rfl rfl) rfl) (gE (iY (nh I (ej v rfl rfl)) (js  (X:=[mS ["kind","kq"]]) l (by omega) (by omega) rfl rfl (zK 0) rfl rfl (by decide)))))}
 have V:R6 (FC t d w Z Z Z)=Y false:=by
  by_cases z:w=2
  .subst z;rw[aE (by omega)] at v;exact nh I (ej v rfl rfl)
  .exact ll (I.trans (by rw[aF.mpr z]))
 have A:∀x,tl (g:=tl (g:=tl (g:=tl (g:=k7) rfl) rfl) rfl) rfl (FC t d w Z (Y (wl c)) Z)=Y (.rt x)->iW [wl (t.rows.map ln),.int (t.kl:Int),.int (t.ml:Int),d]=Y x:=λx e=>
  S x (b7 (gC (ej k rfl rfl) rfl) (b7 (gC V rfl) (b7 (c9 (d:=wl c) (by rw[mT];simp? only[F,B,c3])) e)))
 have E:=DI w 3;have C:=DI w 4;by_cases o:c=[]
 .rw[show (!c.isEmpty)=false by rw[o];rfl] at p;have O:∀{j:Int}{b:Bool},jf (.int w) (.int j)=Y (.bool b)->(kP (fB (d2 jf jP (zI j))) YM) (FC t d w Z (Y (wl c)) Z)=Y false:=λ{j b} e=>by
   cases b
   .exact ll (ej e rfl rfl)
   .exact nh (ej e rfl rfl) (ej p rfl rfl)
  exact{_,{_,_,rfl,DF T P},A _ (b7 (gC (O E) rfl) (b7 (gC (O C) rfl) (js (a:=t.ml+1) (b:=t.ml+1) (n:=t.ml+5) (X:=[["if","some","x"],["while","choose"],["end"],["else"],["else"]].map mS) l (by omega) (by omega) rfl rfl (zK 0) rfl rfl (by decide))))}
 rw[show (!c.isEmpty)=true by simpa using o] at p;have m:=IU M o;by_cases s:w=3
 .subst s;obtain⟨f,q,H⟩:=nc c o J;have W:=iK (i:=J) (j:=(c.length:Int)) (by have:=bj.mpr o;omega);obtain⟨_,_,G,_⟩:=BC (sL m q).1;refine{_,{_,_,rfl,(Q9 T kk P m N q)},A _ (gE (iY (nh (ej E rfl rfl) (ej p rfl rfl)) (b7 (c9 (d:=.str (ln (f7 (YE f)))) ?_) (js l (by omega) (by omega) rfl rfl rfl rfl rfl (by simp)))))};rw[mT];simp? only[h3,oM,W,H,G]
 have K:R4 (FC t d w Z (Y (wl c)) Z)=Y false:=ll ((ej E rfl rfl).trans (by rw[aF.mpr s]));by_cases r:w=4
 .subst r;obtain⟨f,q,H⟩:=NG m;obtain⟨_,_,_,G⟩:=BC (sL m q).1;refine{_,{_,_,rfl,(NA T kk P m N q)},A _ (b7 (gC K rfl) (gE (iY (nh (ej C rfl rfl) (ej p rfl rfl)) (b7 (c9 (d:=wl ([f7 VT,f7 (VU f)].map ln)) ?_) (js (n:=t.kl+1) l (by omega) (by omega) rfl rfl rfl rfl rfl (by simp))))))};rw[mT];obtain⟨y,e1,e2⟩:=Option.bind_eq_some_iff.mp G
  simp? only[H,e1,e2]
  rfl
 have U:R5 (FC t d w Z (Y (wl c)) Z)=Y false:=ll ((ej C rfl rfl).trans (by rw[aF.mpr r]));exact{_,{_,_,rfl,DF T P},A _ (b7 (gC K rfl) (b7 (gC U rfl) (js (a:=t.ml+1) (b:=t.ml+1) (n:=t.ml+5) (X:=[["if","some","x"],["while","choose"],["end"],["else"],["else"]].map mS) l (by omega) (by omega) rfl rfl (zK 0) rfl rfl (by decide))))}
end
section
variable {t:Tx}{H:List (Str×fZ)} (T:oK t) (kk:mV t.ks) (P:II t F H) (D:u3 d)
theorem zp(X:List α)(f:α->Str)(a:X≠[])(x:Int):∃W∈X,gS (wl (X.map f)) (.int (x % (X.length:Int)))=Y (.str (f W)):=by obtain⟨w,hw,e⟩:=nc (X.map f) (by simpa using a) x;obtain⟨W,b,rfl⟩:=aw.mp hw;rw[ag] at e;exact{(W),b,e}
theorem fn0{F:Lp->Od}{r:Od}(e:F []=r):jL 0 F gm ρ=r:=e
theorem YN{F:Lp->Od}{A:aC->Od}{a:fZ}{r:Od}(b:A ρ=Y a)(e:F [a]=r):jL 1 F (zQ A) ρ=r:=by rw[Mr,iC,b,lK];exact e
theorem L'{F:Lp->Od}{A B C E:aC->Od}{a b c:fZ}{r:Od}(i:A ρ=Y a)(h:B ρ=Y b)(g:C ρ=Y c)(f:E ρ=Y d)(e:F [a,b,c,d]=r):jL 4 F (bz A (bz B (bz C (zQ E)))) ρ=r:=by rw[Mr,iC,i,iC,h,iC,g,iC,f,lK];exact e
theorem NH{A:aC->Od}{x:fZ}(h:A ρ=Y x):f9 A ρ=Y (.rt x):=by rw[C8,h];rfl
abbrev ve(W:List String):Str:=ln (mS W)
abbrev Ri(t:Tx)(d:fZ)(w:Int)(a:Nat)(r m:Option fZ):aC:=[Y (wl (t.rows.map ln)),Y d,Y (.int w),Y (zi a),Y (wl (WR.map ve)),Y (wl (HR.map ve)),Y (zi t.kl),r,m]
abbrev sp5:=tl (g:=Q_ (g:=qG) rfl) rfl
abbrev sp6:=tl (g:=sp5) rfl
abbrev sp7:=tl (g:=sp6) rfl
abbrev sp8:=tl (g:=sp7) rfl
abbrev sp9:=tl (g:=tl (g:=sp8) rfl) rfl
include T kk P D in
theorem FE:∃x,I' x/\jD [wl (t.rows.map ln),d]=Y x:=by
 have l:=T.len;obtain⟨m1,m2⟩:=oW t;obtain⟨B,h0⟩:=D.ix 0;obtain⟨q,h1⟩:=D.ix 1;obtain⟨g,s⟩:=D.ix 2;have O:=iK (i:=B) (j:=12) (by decide);have hw:0<=B % 12/\B % 12<12:=by omega
 generalize B % 12=w at O hw;have Q:=iK (i:=q) (j:=(t.rows.length:Int)) (by omega);obtain⟨a,U,ea⟩:∃a:Nat,a<t.rows.length/\q % (t.rows.length:Int)=(a:Int):=by have p1:=Int.emod_nonneg q (show (t.rows.length:Int)≠0 by omega);have p2:=Int.emod_lt_of_pos q (show (0:Int)<(t.rows.length:Int) by omega);exact{(q % (t.rows.length:Int)).toNat,by omega,by omega}
 rw[ea] at Q;have LL:kJ [wl (t.rows.map ln)]=Y (zi t.rows.length):=by rw[oM,ag]
 have S:∀x,sp5 (Ri t d w a Z Z)=Y (.rt x)->jD [wl (t.rows.map ln),d]=Y x:=λx e=>by
  refine iP (b7 (c9 (d:=.int w) ?_) (b7 (c9 (d:=.int (a:Int)) ?_) (b7 (c9 (d:=wl (WR.map ve)) ?_) (b7 (c9 (d:=wl (HR.map ve)) ?_) (b7 (c9 (d:=.int (t.kl:Int)) ?_) e)))))
  .rw[mT];simp? only[h0,O]
  .rw[mT];simp? only[h1,LL,Q]
  .rw[mT];exact fn0 Yy
  .rw[mT];exact fn0 Yz
  .rw[mT];exact YN rfl (NB T P)
 have f:=YK w 2;by_cases c2:w<2
 .rw[aW c2] at f;obtain⟨W,k,m⟩:=zp WR ve (by decide) g;have h:=iK (i:=g) (j:=(WR.length:Int)) (by decide);refine{_,{_,_,rfl,(VN T kk P k U)},S _ (gE (iY (ej f rfl rfl) (b7 (c9 (d:=.str (ve W)) ?_) (js (b:=a+1) l (by omega) (by omega) rfl rfl rfl rfl rfl (by simp)))))};rw[mT];simp? only[s,oM,ag,h,m]
 rw[aE c2] at f;have G:=DI w 2;by_cases L:w=2
 .rw[L] at G;refine{_,{_,_,rfl,Q0 T kk P U},S _ (b7 (gC (ej f rfl rfl) rfl) (gE (iY (ej (v:=true) (by rw[L];exact G) rfl rfl) ?_)))};have:=vd t.rows (a:=a) (by omega)
  simp? only[this]
 rw[aF.mpr L] at G;have N:∀x,sp7 (Ri t d w a Z Z)=Y (.rt x)->jD [wl (t.rows.map ln),d]=Y x:=λx e=>S x (b7 (gC (ej f rfl rfl) rfl) (b7 (gC (ej G rfl rfl) rfl) e));have r:=DI w 3;by_cases c4:w=3
 .obtain⟨W,k,m⟩:=zp HR ve (by decide) g;have h:=iK (i:=g) (j:=(HR.length:Int)) (by decide);rw[bw.mpr c4] at r;refine{_,{_,_,rfl,(Q1 T kk P k)},N _ (gE (iY (ej r rfl rfl) (b7 (c9 (d:=.str (ve W)) ?_) (js l (by omega) (by omega) rfl rfl rfl rfl rfl (by simp)))))};rw[mT];simp? only[s,oM,ag,h,m]
 rw[aF.mpr c4] at r;have F:=DI w 4;by_cases c5:w=4
 .obtain⟨W,k,m⟩:=zp W5 ve (by decide) g;have h:=iK (i:=g) (j:=6) (by decide);rw[bw.mpr c5] at F;have R:=VQ T P k;refine{_,{_,_,rfl,R},N _ (b7 (gC (ej r rfl rfl) rfl) (gE (iY (ej F rfl rfl) (b7 (c9 (d:=.str (ve W)) ?_) ?_))))}
  .rw[mT];simp? only[s,h];exact m
  .have ad:=iL (t.rows.map ln) [ve W] (by simp;omega);have M:dt (wl (t.rows.map ln)) (.list [.str (ve W)])=_:=ad;rw[aD]
   simp? only[M,LL]
 rw[aF.mpr c5] at F;have A:∀x,sp9 (Ri t d w a Z (Y (zi t.ml)))=Y (.rt x)->jD [wl (t.rows.map ln),d]=Y x:=λx e=>N x (b7 (gC (ej r rfl rfl) rfl) (b7 (gC (ej F rfl rfl) rfl) (b7 (c9 (d:=.int (t.ml:Int)) (YN rfl (Hj T P))) e)));have o:=DI w 5;by_cases c6:w=5
 .obtain⟨W,k,m⟩:=zp IT ve (by decide) g;have h:=iK (i:=g) (j:=2) (by decide);rw[bw.mpr c6] at o;refine{_,{_,_,rfl,(Q3 T P k)},A _ (gE (iY (ej o rfl rfl) (b7 (c9 (d:=.str (ve W)) ?_) (js (a:=t.ml+1) (b:=t.ml+1) (n:=t.ml+9) (X:=List.replicate 9 (mS W)) l (by omega) (by omega) rfl rfl (zK 0) rfl rfl (by simp)))))};rw[mT];simp? only[s,h];exact m
 rw[aF.mpr c6] at o;have p:=DI w 8;have C:=DI w 9;have u:=YL w 9;by_cases K:w=8\/w=9
 .obtain⟨x,I,J⟩:=Rh T kk P D;refine{x,I,A x (b7 (gC (ej o rfl rfl) rfl) (gE (iY ?_ ?_)))}
  .rcases K with c|c
   .rw[bw.mpr c] at p;exact YG (ej p rfl rfl)
   .rw[aF.mpr (by omega)] at p;rw[bw.mpr c] at C;exact VW (ej p rfl rfl) (ej C rfl rfl)
  .exact NH (L' rfl rfl rfl rfl J)
 rw[aF.mpr (λz=>K (.inl z))] at p;rw[aF.mpr (λz=>K (.inr z))] at C;have H:R9 (Ri t d w a Z (Y (zi t.ml)))=Y false:=VW (ej p rfl rfl) (ej C rfl rfl);by_cases y:9<w
 .obtain⟨x,I,J⟩:=IW T kk P D;rw[aW y] at u;refine{x,I,A x (b7 (gC (ej o rfl rfl) rfl) (b7 (gC H rfl) (gE (iY (ej u rfl rfl) (NH (L' rfl rfl rfl rfl J))))))}
 rw[aE y] at u;have E:=DI w 6;by_cases V:w=6
 .obtain⟨W,k,m⟩:=zp (["else"]::W6) ve (by decide) g;have h:=iK (i:=g) (j:=5) (by decide);rw[bw.mpr V] at E;refine{_,{_,_,rfl,(Q2 T P k)},A _ (b7 (gC (ej o rfl rfl) rfl) (b7 (gC H rfl) (b7 (gC (ej u rfl rfl) rfl) (gE (iY (ej E rfl rfl) (b7 (c9 (d:=.str (ve W)) ?_) (js (a:=t.ml+1) (b:=t.ml+1) (n:=t.ml+1) l (by omega) (by omega) rfl rfl rfl rfl rfl (by simp))))))))};rw[mT];simp? only[s,h];exact m
 rw[aF.mpr V] at E;exact{_,{_,_,rfl,(He T kk P)},A _ (b7 (gC (ej o rfl rfl) rfl) (b7 (gC H rfl) (b7 (gC (ej u rfl rfl) rfl) (b7 (gC (ej E rfl rfl) rfl) (js l (by omega) (by omega) rfl rfl (vd t.rows (a:=1) (by omega)) rfl rfl (by simp;omega))))))}
end
def YO{f:Lp->Od}{c h:Str}{b g:aC->Option Out}{v:Int}(a:ff ρ=Y ds)(d:ds.length=n)(e:f ds=Y (.int v))(i:0<=v):yG n f ff j c h b g ρ=(b (ρ.set j (Y (.dict [(.bool true,.str c),(.str "line",.int v)])))).map (Y5 j):=by
 have q:¬ v<0:=by omega
 unfold yG Ln;rw[a];simp only[aL,d,cY,e,aq q]
abbrev rfD(n:Int):fZ:=.dict [(.bool true,.str (zZ "NoProgram")),(.str (zZ "line"),.int n)]
def FF{a:List Lr}(R:Rf a n):nF [wl (a.map ln)]=Y (zi n):=by
 have j:=Di R.ln R.len;have b:=R.rd;have c:(yG 1 ib (zQ (qj j8 (zA (zZ "\n")) lC)) 2 (zZ "NoProgram") (zZ "NoRow") (bS (gf [] iO) 1) λ_=>Z) [Y (wl (a.map ln)),Y .none,Z]=Y (.nx [Y (wl (a.map ln)),Y (rfD n),Z]):=by
  refine(YO (ds:=[.str (tx a)]) ?_ rfl b (by omega)).trans rfl
  simp? only[j]
 refine iP (b7 (c9 (d:=.none) rfl) (b7 c (b7 (gC (by rfl) rfl) (b7 (gC (by rfl) rfl) rfl))))
def NI{t:Tx}(T:oK t):∃p,ib [.str (tx t.rows)]=Y (.dict p)/\MI (.dict p) (tx t.rows)/\(∀a∈t.rows,GR a):=by obtain⟨F,H,P⟩:=Bm T;obtain⟨g,b⟩:=P.rt;obtain⟨E,_,d⟩:=Qj b;have c:=T.len;obtain⟨l,f,h,e⟩:=P.pt.reads 0 [] (by simp;omega);have:=wM (λa hw=>(P.pt.gr a hw).xm) (by omega) b.ne (QA P.td f e (λa hw=>by have:=(P.pt.gr a hw).2.2;omega) d (λn z=>by cases z));exact{_,this,Qk E,P.pt.gr}
def Rj{f:Lp->Od}(h:f ds=Y (.dict jG)):yF f ds=Y (.dict jG):=by unfold yF;rw[h];rfl
def oX(t:Tx)(W:List String):Tx:={t.ks,t.hs,List.replicate 8 (mS W)++(List.replicate 8 [zZ "end"]++t.mr)}
def zq(t:Tx)(W:List String):(oX t W).rows=t.rows.take (t.ml+1)++List.replicate 8 (mS W)++List.replicate 8 [zZ "end"]++t.rows.drop (t.ml+1):=by rw[(sF t).1,(sF t).2];simp[Tx.rows,oX,Tx.bd,iM]
def Rl{t:Tx}(T:oK t)(f:t.rows.length<=400){W:List String}(d:W∈IT):oK (oX t W):=by
 obtain⟨F,H,P⟩:=Bm T;sleep 1;obtain⟨w,r,e,hw,c,g⟩:=Nv T P d;sleep 2;have b:=VS (K:=t.K) (M:=t.M) (Fu:=t.Fu) hw c 8 [] (by simp);rw[<-e,bO] at b;refine{T.kd,T.kv,T.kg,T.hv,T.nd,T.bk,b.app ((Bk.ends 8 _ (by simp)).app T.mb),T.gr,λa h=>?_,?_}
 .rcases ay.mp h with h|h
  .rw[(List.mem_replicate.mp h).2];exact g
  .rcases ay.mp h with h|h
   .rw[(List.mem_replicate.mp h).2];exact qa
   .exact T.mg a h
 .rw[zq];simp only[az,List.length_replicate,bP,bY];omega
def SO{t:Tx}(T:oK t){a0 f d a3 a4 a5 c b a:Od}:CP [a0,f,d,a3,a4,a5,Y (wl (t.rows.map ln)),c,b,a]=Y (.nx [a0,f,d,a3,a4,a5,Y (wl (t.rows.map ln)),c,b,a]):=by
 obtain⟨p,e,i,k⟩:=NI T;have n:=T.len;have j:=Qe k (by omega);have g:=Yh k;have h:=MC g g;rw[fE] at h;have l:=Dh i;have m:=Rj e;refine gC (ej h ?_ ?_) rfl
 .have o:jL 1 (yF ib) (zQ (qj j8 (zA (zZ "\n")) yL)) [a0,f,d,a3,a4,a5,Y (wl (t.rows.map ln)),c,b,a]=Y (.dict p):=YN (by simp? only[j]) m;rw[Mv,o];simp only[aL,i.2,cY,lK];exact l
 .simp? only[j]
def YP{ns:List Int}{t:Tx}{H:List (Str×fZ)}(T:oK t)(g:mV t.ks)(P:II t F H){b:Bool}{a0 a3 a4 a5 a6:Od}(c:Int)(q p:Od):∃o m,vW [a0,Y (wl (t.rows.map ln)),Y (.bool b),a3,a4,a5,a6,Y (.int c),q,p]=Y (.nx [a0,Y (wl (t.rows.map ln)),Y (.bool b),a3,a4,a5,a6,Y (.int c),o,m]):=by obtain⟨d,D,k⟩:=sy (c / 3+5) b;sleep 1;obtain⟨x,⟨e,n,rfl,R⟩,h⟩:=FE T g P D;sleep 2;have l:=Vx (i:=c) (j:=3) (by omega) (by omega);have f:=neI (n:Int) (n:Int);rw[fE] at f;refine{Y (wl (e.map ln)),Y (zi n),b7 (ρ1:=[a0,Y (wl (t.rows.map ln)),Y (.bool b),a3,a4,a5,a6,Y (.int c),Y (wl (e.map ln)),Y (zi n)]) ?_ (gC (ej f (YN rfl (FF R)) rfl) rfl)};rw[Sy,uw,mT,(f' (a:=wl (t.rows.map ln)) (b:=d) rfl ((f' (a:=.int (c / 3+5)) (b:=.bool b) (by simp? only[l,xY]) rfl).trans k)).trans h];rfl
theorem Hl{t:Tx}{F H:List (Str×fZ)}(T:oK t)(i:mV t.ks)(P:II t F H){b:Bool}{a0 a3 a4 a5 a6:Od}:∀(l:List Int) (f d a:Od),∃o h g,jl (o5 (.one 7)) vW (l.map .int) [a0,Y (wl (t.rows.map ln)),Y (.bool b),a3,a4,a5,a6,f,d,a]=Y (.nx [a0,Y (wl (t.rows.map ln)),Y (.bool b),a3,a4,a5,a6,o,h,g])
 |[],f,d,a=>{(f),d,a,rfl}
 |c::l,f,d,a=>by obtain⟨h,g,e⟩:=YP (ns:=l) T i P (b:=b) (a0:=a0) (a3:=a3) (a4:=a4) (a5:=a5) (a6:=a6) c d a;obtain⟨n,m,k,j⟩:=Hl T i P l (Y (.int c)) h g;exact{n,m,k,iN rfl e j}
def NJ:∀c:List Int,c.length<=63->(∀x∈c,kB x=true)->Mp [.list (c.map .int)]=Y (.bool true):=λc p _=>by
 obtain⟨t,R,n,L⟩:=Nk p;obtain⟨F,H,P⟩:=Bm L.ok;sleep 1;obtain⟨C,e,b,f,V,y,w,v,_⟩:=L.dr;sleep 2;have T:=L.ok;have m:=L.rl;obtain⟨Q,O⟩:=oW t;have N:=iK (i:=C) (j:=2) (by decide);have M:=iK (i:=e) (j:=2) (by decide);obtain⟨W,r,u⟩:=zp IT ve (by decide) e;have g:gS (.list [.str (zZ "while choose"),.str (zZ "if some x")]) (.int (e % 2))=Y (.str (ve W)):=u;obtain⟨l,U,s⟩:=DD c (Y 2) (Y 18);obtain⟨G,E,D,z⟩:=Hl L.ok L.kk P (b:=b) (a0:=Y (.list (c.map .int))) (a3:=Y (zi t.ml)) (a4:=Y (.str (ve W))) (a5:=Y (wl ((oX t W).rows.map ln))) (a6:=Y (wl ((oX t W).rows.map ln))) ([0,1]++l) Z Z Z;have A:=Rl T m r;have S:Sv [Y (.list (c.map .int)),Z,Z,Z,Z,Z,Z,Z,Z,Z]=Y (.rt (.bool true)):=by
  refine b7 (c9 (d:=wl (t.rows.map ln)) (L' rfl rfl rfl rfl L.ln)) (b7 (c9 (d:=.bool b) ?_) (b7 (c9 (d:=.int (t.ml:Int)) (YN rfl (Hj T P))) (b7 (c9 (d:=.str (ve W)) ?_) (b7 (c9 (d:=wl ((oX t W).rows.map ln)) ?_) (b7 (ρ1:=[Y (.list (c.map .int)),Y (wl (t.rows.map ln)),Y (.bool b),Y (zi t.ml),Y (.str (ve W)),Y (wl ((oX t W).rows.map ln)),Y (wl ((oX t W).rows.map ln)),Z,Z,Z]) ?_ (b7 (ρ1:=[Y (.list (c.map .int)),Y (wl (t.rows.map ln)),Y (.bool b),Y (zi t.ml),Y (.str (ve W)),Y (wl ((oX t W).rows.map ln)),Y (wl ((oX t W).rows.map ln)),G,E,D]) ?_ rfl))))))
  .rw[mT];simp? only[y,N,v]
  .rw[mT];simp? only[w,M,g]
  .have e:=vd t.rows (a:=t.ml+1) (by omega);have B:sS (wl (t.rows.map ln)) (Y ((t.ml+1:Nat):Int)) Z=Y (wl ((t.rows.drop (t.ml+1)).map ln)):=by rw[wl,yV,n7 _ _ (by simp;omega)];simp[wl,List.map_drop]
   have k:tj (.list [.str (ve W)]) (.int 8)=Y (wl ((List.replicate 8 (mS W)).map ln)):=by kernel_rfl
   have h:tj (.list [.str (zZ "end")]) (.int 8)=Y (wl ((List.replicate 8 [zZ "end"]).map ln)):=by kernel_rfl
   have K:=iL ((t.rows.take (t.ml+1)).map ln) ((List.replicate 8 (mS W)).map ln) (by simp;omega);have J:=iL ((t.rows.take (t.ml+1)).map ln++(List.replicate 8 (mS W)).map ln) ((List.replicate 8 [zZ "end"]).map ln) (by simp;omega);have a3:=iL ((t.rows.take (t.ml+1)).map ln++(List.replicate 8 (mS W)).map ln++(List.replicate 8 [zZ "end"]).map ln) ((t.rows.drop (t.ml+1)).map ln) (by simp;omega);rw[<-aD,<-aD,<-aD,<-zq] at a3;refine(ng (o:=dt) ((ng (o:=dt) ((ng (o:=dt) ((Yo (i:=((t.ml+1:Nat):Int)) rfl rfl).trans e) ((ng (o:=tj) rfl rfl).trans k)).trans K) ((ng (o:=tj) rfl rfl).trans h)).trans J) B).trans ?_;rw[<-aD,<-aD];exact a3
  .rw[wq,wo,mT];exact iN rfl (SO T) (iN rfl (SO A) rfl)
  .rw[wq,wo,mT];have I:dt (.list [.int 0,.int 1]) (.list (l.map .int))=Y (.list (([0,1]++l).map .int)):=by
    show (if _ then _ else Z)=_;rw[ai (by rw[sizeLine_eq];simp;omega)];rfl
   have q:nY Ss [Y (.list (c.map .int)),Y (wl (t.rows.map ln)),Y (.bool b),Y (zi t.ml),Y (.str (ve W)),Y (wl ((oX t W).rows.map ln)),Y (wl ((oX t W).rows.map ln)),Z,Z,Z]=Y (([0,1]++l).map .int):=by
    simp? only[yV,s,I]
   rw[q];exact z
 exact iP S
end K02
namespace PySem.W.Fast
local macro_rules|`(#check $s:str)=>return Lean.mkNullNode (<-(s.getString.splitOn " ").toArray.mapM λx=>`(def $(Lean.mkIdent (.mkSimple s!"tw{x.foldl (λn c=>n*52+(c.toNat-if c.toNat<97 then 39 else 97)) 0}")):ident:=0))
#check "bENdKigHkwul WMDdtQdpPkb tLMeLbncXvc bkYOZYicghcn cikmNYUoXOcH chVVFmGdydbz chHuOPfCOWcK AROOJQhVgYm buvkNTzaUtRY uKeoHmNkQUc cbxynNGHmzte QIZmrUrrhfN bXrucZlxQwIW JKMuxefcWFr baSKJzXKbpcA bPvxcUQTygPQ bcWkRXdQOSMQ QXdBKTGpXnp NEVVPxcFDPV bRjmQWkbgupc cpRdcjHKDbLu byWkslTxhQUp bQriXpkwfvTo bOkReafRfXrt lMdNTVltvOS dFmKdcjxTAP QVrUxhTDkKh JnbTYzUJHBV bwSneKWhqJdJ bCuFvBPjklvT cmouCuvMyrnL ceuKGjxpuXuv bYVGdwMyYQsh bmQbIgoaGrlH cwVizivsDHSX rjFJvhHJuxB CBqcDpxeTCW bKaZfqjIlSQd bqZcNMVrarKg bGIuDDYMywrk bYYOizUuokwm XVTblPIdUuL bDCBhbBKUaIU besepyDjiRkj bYfGpKtaaOWe crcgnriwxKQb bPvitIRQuAR zGfqPvWMiDw bMiIxCiKlFfC UYPDzHDwsUH cgXkamXoVzko gekHYReumkg ckQjntmHzBfv udBOxTQnfeH ZKSwqmkhcDb cnIzlDpKmXHU WaGsyhPQHdR SwNAHjVTWbO cnxQukjYsTlm bcgObIdmjpYA RnqHEMevPFF bzfdvcmQKbsJ clbIIHSUCXje bpSgAuOfGlTG bklRGMdvnFf bXjTQAZmOAVc bynYgZRalHEQ bGdDaYpCFZeb cdlknNRijUJj TenpSnIoQVC bmCSKNskWezu cpzsrSidtPCY ytJeRCgVIUC bbijaRshJSoY rylSERXrZuV byLogAAddSJO bAFrkbEyoMCw cjlMokevCLpA NZuIHBlTYmE bBUbrsNkjBqV doewlSbcbFF bbRrqgIyxnic jQnhjsjOXE cdWitjBqZdgF bFXSiMWainmf RYHbGtLOJof cnapkjAkmIYJ CXmqSXpsIVQ vWachtzMavx HDUrSoEtlLq pmPPiXuyxQB WoBXQyRQYER bxPIbfJBiqKj bxSSfvWMpVFl bdcQWSzJZPyX chvEnXgBhKwD bWtddAGXllnE bHLPbeIQygHQ ldoqFQVcaMt bEjKCEjrVlRC cnETwOuIRiGN cqemCzRXUkPw bSnjoxyLzDmg bKpIkdftbORj blJoUmtAaVoy bINteelIEqDB bMBKKEJAHZhk cvEtBBDFeLZy ViBhnbOABoW tcNpDiXamhQ bkjSTMyUjZuz cpsPprAVJfhO bPlIDvECkuzH cvTIhcHZggcV iqXaQnsxeLl bbopUzzMgTdW sKMjkpwTTRh ojfGqOhHLLM bpEYYjGmrmnK bhRzJlWcqFUB cfYKboOmuABR coXvfXKSAZMi bESzUcardgQz bOJcWjzBScYV ciQsPIzTniGl AQmpCrnQwTk DjmaMdwYBwn bTBBvhzhOYPv tFSlusIhBaD bRNfPDUQQQXY oAvGyhkkudk blMDwETCXkit bbWeVtiNmiZG pAiKjuBShPZ byDGBqHtkndd bAYgmaKHZEXL bJoRBdDPACYS XAPwmhFrqAY JIljHAriiSU cdPWFjZNNehs bbkEasHIHVTK ccTCeNCtFBFr cbBVwajtDjNf IJabtLYtXC ciBlmoKXZElO boJoSSIcoWcb bWWkoJOaSsMU XCFFSxJPMvl cbiaHKcQjvhF AhaPxxlzzx ctTkxcXWfnPi LEMmBZycHQU bteBEifIvCWg buHBjgPKiGyY bZxFpBJLfvNw cdrPAhrYfxrZ bvKbWvrIKBKU brpGwPPYQDyg bwbgPaSykqzu AmedMCZRWbC TvKsZcEBRJx btjVcEmKMqMQ cxcnaWedtZPd bGCWsbtRYXEw NipbvlhhEOl cpkTjViTjwVt PrNGqczWXvr lBqNiFIFRI QDUzkVJISve ZdsIMgccYMO CqRKZPUcRiT bXmMulfdLhWJ coLdqWiQmsFK bEqlNIzcbNSg cwABymccaPSx cwBJlJWXgjgJ bjYdLjMFetpT skWtEJEpWov QEscrcopoAO FiQFGJimHNC coLjEohgXmwp bGmuMTrBMYqN bYWFqVfjptzJ biBtJvRAiWdq BHihVcrQIEU zWYOSrjaBvN zczfGBzCzYw bsrHtkOduFrD olaxfoUEZgh bLceUFkGZdnt bxQkNbuAavNk YJJUnLWxTom iCejZuOkErR ewPmKcXKCWu bdbllZnPZLtm cnwrwfxMtSNS caZAdnMjjToa coxfIYOzBuhh ctmCvmpgKgfg ckMAWffohfGT fjGypxCohtI crxJpZpliuaA bZVCMIFClnkp bAovUkTnqqjT bwctmEhBHAsx BhwGhgylWBT chwDxKnIUMQi bdiMNNhRSqDc bWUIUQvidHoZ YotyQnZZSQ cdjzOrisMnte bhEXlBgSCOJO csbgvtmRksAS eCFDKGfImaS clVWUYxXpthY pMiuljOOZNr cpPaXiCTbeDa ciTVtCpdjEAc XWCFUgJsLJj syLjiwmKgvm cwLskafBYrdt GEozOVDBVho imSxCLAUaxm eHZECzfIefT ZapTCsxSbDt cfIOwknpmQzy bnWjhspEFkhv bpXhVgKufHtp baBOlKiKiDZV bnVOtWMpKuRh ZwIXxZIipAo mPUmudzhFhr vCJUXiaYHOV ckmzeSonPpvd bUymYrXtAkyy cwRSfvWENDzd bBCercdWEbyP UvWmoXUsNSs beThNNJADSvN cxYPTDVgjOU cnojPBQePrdI bCJZWmmyeFRo xWlPzElbbzR bExtMqwlMxZF yNcOROPoHDK bOwwefmXpVKo MyxEYzKUzAS VwWaiVqQOJm zoScIyvwIsz ciYiivQoSjjQ cgxkVWElBejK bTmGYtTpZbVO LcyiNnFmCUG cotimSrbUZqH IveUbWxDubW RGNgMaOcJfk qKHZVldyNUa bUxSTwsCCXYg QzvtkSGwsrO bLXBwQeefzyS bmblfSsgTHsv bAzwcCHzAxvx IpESjetgfcX bQIvpFqjtnmu cmQqrlKImIjJ fqPFqNnCdmb bcyDKwdIULV sMTmRuNfRhA bmLYMRNsUbjE ctDsRavQnpGZ TRYcvsIfubJ KHUTtpQDaPM AqGUcPyhgxJ bsPWNUvEjfeX lFVKSrzuxnF PdWjtzUIfnV SqnATJuQSCg CnKjNrdvQCE bwQlkeYymOIQ eAGWvhaeeiP bYAveOAVMTEG LnMKvkXuoLJ bdngoibsILtQ chHvdYbIctkF cesEklIghbhJ NFFcYgFXGVW NioFHPDckHR bgCzJRueQrRP bMVkKeMOZYFG bKrfFmLtnuVr fNVcJBzVWej MVAwJEKbRFT ZfkrCpQdGiy hTrqyrwmxNZ bGRPGevPhXWV bxtHDhBixDUq FkCVXoRYsQq VKMtciXepYR beReVWNIUegb DBVmZnQMnVp bEDSNFmktrtr casKPyPQINgB bNTsgVVOMNEA ApdniMiSonA QjHiyQGaTAN ciZdZPmWNNZn cfEguwAIbTAz bgXXBXTBrZKv cvNRhDPthNzW rNGsrAgjXf eGiWMddkBFK bXrMZHulUNEK bvQyOSKcOWmL msntSsUqdCO cidIaQdmqFeC bTNlTmBbUJPz bIucNsudVGtd SekqIWxwFwQ WUiYfxCMDac bOXFxdUPNByR bxSvAZjNzhZL bmnVQgIngCPS TmVperQFhHP RhPcefdszjS buxOWxkmWWvx wbWYuGWeJbz"
end PySem.W.Fast
end
set_option Elab.async false
set_option linter.all false
set_option maxRecDepth 100000
open PySem PySem.W PyProof.Rows
set_option maxHeartbeats 0 in
theorem PySem.Challenge.cw_pointsure_k02_no_program_holds : PySem.Challenge.rw_pointsure_k02_no_program.Holds := by
  w_on; o_law; k_head; (case hw => w_witness2)
  k_fill
  refine L2.HN (l := PySem.Challenge.rw_pointsure_k02_no_program) (n := 63) (k := 9) (x := "_law_script") (f := K02.Mp) rfl (by decide) rfl ⟨rfl, by decide, by decide⟩ (fun w h Y => PySem.W.kIn_of Y) ?F K02.NJ
  case F =>
    intro w mg fa h KX G hmg
    refine K02.U4 ?zM hmg
    constructor
    all_goals first
   |(refine PySem.W.mg_none_of KX G ?_;first|k_is|decide)
   |(apply L2.XH<;>first|k_is|decide)
   |(apply L2.fnAt KX G<;>first|k_is|decide)
   |(apply L2.q_<;>first|k_is|decide)
   |(apply L2.UH KX G<;>first|k_is|decide)
   |(apply L2.excAt KX G <;> first | k_is | decide | kernel_rfl)
   |(apply L2.UZ KX G <;> first | k_is | decide | kernel_rfl)
   |(apply L2.XC KX G <;> first | k_is | decide | (repeat' constructor))
   |(apply L2.dictAt KX G <;> first | k_is | decide +kernel | (repeat' first | k_is | decide | constructor))
   |(apply L2.intAt KX G<;>first|k_is|decide)
