import PyProof.Rows.All
import Wide.All
import OpenK.AllK
import Wide.FinOn
import Lean
import PyProof.EqAt
import PyProof.EqKinds
import PyProof.TupleCall
import PyProof.ExcInit
import PyProof.ExcClass3
import PyProof.StationsW
import PyProof.ExcArgs
import PyProof.NsDelKeeps
import KE.KIsAll
import PyProof.DictWalks
import KE.KRevIter
import KE.KRevSl
import PyProof.AttrMissHeap
import PySem.Challenge.RW_pointsure_k47_a_row_otherwise
noncomputable section
abbrev Od:=Option PySem.PyData
abbrev Lp:=List PySem.PyData
abbrev Lr:=List PySem.Str
abbrev Lw:=List PySem.Value
abbrev Ow:=Option PySem.Value
abbrev Ax:=List (PySem.Addr × PySem.Obj)
abbrev Px:=PySem.Value → PySem.Shared → Prop
abbrev Lx:=List PySem.Expr
abbrev Fg:=PySem.W.Frag
set_option Elab.async false
set_option linter.all false
set_option hygiene false
set_option compiler.extract_closed false
set_option genSizeOfSpec false
set_option bootstrap.genMatcherCode false
set_option genSizeOf false
set_option genInjectivity false
set_option maxRecDepth 100000
set_option maxHeartbeats 4000000
theorem zq0(h:1=1:=by rfl):1=1:=h
theorem zp0(h:1=1:=by decide):1=1:=h
def zzz(s:String)(v:Array (Lean.TSyntax `term)):Lean.MacroM (Lean.TSyntax `term):=do
 let k<-(((s.replace "(" " ( ").replace ")" " ) ").splitOn " ").foldlM (λ(k:List (Array (Lean.TSyntax `term))) t=>do
  let q:=λx=>match k with|a::r=>a.push x::r|r=>r
  match t with
  |""=>pure k
  |"("=>pure (#[]::k)
  |")"=>match k with|a::b::r=>pure (b.push (Lean.Syntax.mkApp a[0]! (a.extract 1 a.size))::r)|r=>pure r
  |"_"=>return q (<-`(_))
  |"?"=>return q (<-`(?_))
  |"!"=>return q (<-`(‹_›))
  |"#"=>return q (<-`(⟨rfl,rfl,rfl,rfl⟩))
  |"@"=>return q (<-`(fun _ _ _ _=>?_))
  |"%"=>return q (<-`(fun _ h=>(List.mem_singleton.mp h) ▸ ?_))
  |"[1"=>return q (<-`([_]))
  |"[2"=>return q (<-`([_,_]))
  |"0"=>return q v[0]!
  |"1"=>return q v[1]!
  |"2"=>return q v[2]!
  |t=>if t.front=='.' then return q (<-`(.$(Lean.mkIdent (t.drop 1).toString.toName))) else if t.front=='~' then return q (Lean.Syntax.mkStrLit (t.drop 1).toString) else return q (Lean.mkIdent t.toName)) [#[]]
 let a:=k.head!
 return Lean.Syntax.mkApp a[0]! (a.extract 1 a.size)
theorem zq1(h:1=1:=by first|exact .inl rfl|exact .inr rfl|assumption):1=1:=h
theorem zq2(h:1=1:=by intro _;rfl):1=1:=h
theorem zq3(h:1=1:=by first|exact cx rfl|exact bX rfl):1=1:=h
theorem zq4(h:1=1:=by exact{rfl,rfl,rfl,by decide +kernel,rfl,by decide +kernel,by decide +kernel}):1=1:=h
theorem zq5(h:1=1:=by intro _ _ _ _ _ _;(repeat' intro _);exact rfl):1=1:=h
theorem zq6(h:1=1:=by first|exact cx rfl|exact bX (cx rfl)|exact bX (bX rfl)):1=1:=h
theorem zq7(h:1=1:=by with_unfolding_all rfl):1=1:=h
theorem zq8(h:1=1:=by exact{rfl,by decide +kernel,by decide +kernel,rfl,aZ}):1=1:=h
theorem zq9(h:1=1:=by repeat' (first|exact aZ|refine{{rfl,.inl rfl,rfl},?_}|refine{{rfl,.inr rfl,rfl},?_})):1=1:=h
theorem zq10(h:1=1:=by decide +kernel):1=1:=h
theorem zq11(h:1=1:=by simp):1=1:=h
theorem zq12(h:1=1:=by first|exact .inl (by decide)|exact .inr (.inl rfl)|exact .inr (.inr rfl)):1=1:=h
theorem zq13(h:1=1:=by size_fits):1=1:=h
theorem zq14(h:1=1:=by exact λ_ _=>rfl):1=1:=h
theorem zq15(h:1=1:=by first|exact JT _|with_unfolding_all rfl):1=1:=h
local macro_rules|`(zr $n:num $t)=>`(autoParam $t $(Lean.mkIdent (.str (.mkSimple s!"zq{n.getNat}") "_auto_1")))|`(zr0 $t)=>`(autoParam $t zq0._auto_1)|`(zd0 $t)=>`(autoParam $t zp0._auto_1)
local macro_rules|`({$a:term,*})=>`(⟨$a,*⟩)
local macro_rules|`(tactic|sleep 1)=>`(tactic|refine Classical.byContradiction fun qQ9=>?_)|`(tactic|sleep 2)=>`(tactic|refine qQ9 ?_)
local macro_rules(kind:=Lean.Parser.Command.declaration)|s=>do (if s.getPos?.isNone then Lean.Macro.throwUnsupported else pure ());let s<-(match s with|`(def $n $g:optDeclSig $v:declVal)=>`(noncomputable def $n $g $v:declVal)|_=>pure ⟨s⟩);return s.raw.rewriteBottomUp (·.setInfo .none)
def aa:=@PySem.wpAny_bind
def ae:=@PySem.Heap.get?_push_of_some
def af:=@List.map_cons
def ag:=@List.mem_cons
def ah:=@if_pos
def ai:=@List.mem_cons_of_mem
def aj:=@List.length_map
def ak:=@Option.map_eq_some_iff
def ao:=@PySem.wpAny_pure
def aq:=@if_neg
def ar:=@List.mem_append_right
def au:=@PySem.Heap.lt_size
def av:=@List.mem_map
def aw:=@List.getElem?_set_ne
def ax:=@List.mem_append
def ay:=@List.length_cons
def az:=@decide_eq_false
def aA:=@List.size_toArray
def aB:=@List.getElem?_map
def aD:=@List.mem_append_left
def aE:=@Nat.le_refl
def aF:=@PySem.Heap.get?_push_size
def aG:=@List.append_nil
def aH:=@List.getElem?_eq_getElem
def aI:=@Nat.lt_of_lt_of_le
def aJ:=@Option.bind_some
def aK:=@List.getElem?_set_self
def aL:=@List.length_append
def aM:=@List.getElem?_eq_some_iff
def aN:=@List.not_mem_nil
def aO:=@Nat.ne_of_lt
def aP:=@PySem.Heap.get?_update_other
def aQ:=@List.getElem?_append_right
def aS:=@Bool.false_ne_true
def aT:=@beq_eq_false_iff_ne
def aU:=@decide_eq_true
def aV:=@List.map_append
def aW:=@List.append_assoc
def aX:=@PySem.SeqAt.canLay_of_shaped
def aY:=@List.all_eq_true
def aZ:=@True.intro
def a6:=@List.perm_append_comm
def a7:=@Nat.lt_irrefl
def a8:=@PySem.wpAny_holding
def a9:=@PySem.Heap.get?_update_self
def bb:=@List.length_pos_iff
def bc:=@List.nodup_append
def bf:=@List.cons_append
def bh:=@List.mem_cons_self
def bj:=@List.map_nil
def bp:=@List.lookup_cons
def bq:=@PySem.wpAny_mono
def br:=@PySem.wpAny_Call_Name_kw
def bt:=@List.getElem?_append_left
def bu:=@List.mem_filterMap
def bw:=@PyProof.Rows.slot_tuple_getitem
def bx:=@Nat.le_trans
def bA:=@List.filterMap_cons
def bB:=@Option.some.inj
def bE:=@List.nil_append
def bF:=@beq_iff_eq
def bG:=@List.getElem?_replicate
def bH:=@Bool.and_eq_true
def bJ:=@congrArg
def bK:=@PySem.mem_of_lookup
def bL:=@PyProof.Rows.callWith_type1
def bM:=@List.getElem?_cons_succ
def bN:=@PySem.Calls.spliced_cons
def bO:=@List.forall_mem_cons
def bP:=@List.nodup_cons
def bQ:=@List.any_cons
def bT:=@List.replicate_succ
def bU:=@List.getElem?_eq_none
def bV:=@List.find?_cons
def bW:=@List.getElem?_cons_zero
def bX:=@Or.inr
def bY:=@PySem.Calls.spliced_nil
def bZ:=@List.mem_filter
def b5:=@PySem.wpAny_execs_nil
def b6:=@PySem.wpAny_field
def b7:=@List.drop_eq_getElem_cons
def b8:=@PySem.codeAny_mono
def b9:=@List.mem_of_getElem?
def cb:=@PySem.lookup_relabel_local
def cf:=@PySem.Around.under_plainId
def cg:=@PySem.wpAny_truthy_bool
def cj:=@decide_eq_true_eq
def cm:=@PySem.F.plainAttrs_list
def cq:=@PySem.F.plain_extend_loop
def cu:=@or_false
def cv:=@Nat.le_add_right
def cw:=@List.getElem_mem
def cx:=@Or.inl
def cy:=@Bool.false_eq_true
def cz:=@PySem.F.slot_dict_get
def cA:=@PySem.wpAny_passesOwn
def cB:=@PySem.codeAny_builtin
def cC:=@PySem.wpAny_updateSeq
def cD:=@Option.map_some
def cE:=@PySem.wpAny_typeOf
def cF:=@PySem.wpAny_newObj_type
def cG:=@List.flatten_cons
def cH:=@PySem.call_meets
def cI:=@Array.length_toList
def cJ:=@PyProof.Rows.callWith_builtin1
def cK:=@PySem.wpAny_callSpecial?_slot
def cL:=@Nat.ne_of_gt
def cM:=@PySem.Calls.callWith_builtin
def cN:=@PySem.tupleKind_room_in1
def cO:=@Array.getElem?_eq_none
def cQ:=@List.forIn_cons
def cS:=@PySem.Paired.length
def cT:=@PySem.plainId_quiet
def cU:=@Bool.beq_comm
def cV:=@List.Perm.append_left
def cW:=@Function.comp_def
def cX:=@PySem.Str.length_append
def cY:=@PySem.Calls.Name_function_global
def cZ:=@Nat.zero_add
def c8:=@beq_self_eq_true
def c9:=@List.range'_succ
def de:=@PySem.F.args_tuple_add_2
def df:=@Bool.or_false
def dh:=@PySem.wpAny_comprehension_free
def dk:=@if_true
def dm:=@List.mem_singleton
def dq:=@Nat.zero_le
def du:=@PySem.F.entry_tuple_add
def dv:=@PySem.F.args_dict_get_2
def dw:=@Nat.le_of_lt
def dy:=@PySem.wpAny_pyNext_list_item
def dz:=@PySem.wpAny_pyIter_list
def dA:=@PySem.F.slot_tuple_add
def dB:=@PySem.F.entry_dict_get
def dD:=@PySem.Str.ofString_eq_toList
def dE:=@List.Perm.append_right
def dF:=@Int.toNat_natCast
def dG:=@PySem.wpAny_nextOf_list_item
def dH:=@List.map_map
def dJ:=@PySem.wpAny_pyNext_list_end
def dM:=@PySem.builtinLookup_eq_fast
def dN:=@Nat.lt_succ_self
def dO:=@List.length_take
def dP:=@PySem.wpAny_call_entry
def dQ:=@PySem.typeIs_str
def dR:=@Nat.le_of_not_lt
def dS:=@PySem.F.slot_str_split
def dU:=@Array.toList_inj
def dW:=@Option.join_some
def dX:=@Iff.rfl
def dY:=@PySem.Calls.evalArgs_plain
def dZ:=@List.of_mem_zip
def d8:=@List.length_set
def d9:=@List.length_nil
def eA:=@PySem.wpAny_specialOf
def eC:=@PySem.F.slot_zip_next
def eD:=@Bool.or_eq_true
def eE:=@PyProof.Rows.canLayAll_strs'
def eG:=@List.dropLast_concat_getLast
def eI:=@ne_true_of_eq_false
def eJ:=@Array.getElem?_push
def eK:=@List.flatMap_append
def eO:=@Nat.lt_trans
def eP:=@PySem.Heap.size_push
def eQ:=@List.filterMap_map
def eS:=@List.forIn_nil
def eU:=@PySem.F.args_str_split_2
def eV:=@List.mem_or_eq_of_mem_set
def eW:=@Option.isSome_map
def eX:=@of_decide_eq_true
def eY:=@PySem.F.entry_str_split
def eZ:=@PySem.noFill_tuple_add
def fe:=@Nat.min_le_right
def fg:=@PySem.F.plainAttrs_dict
def fh:=@List.drop_length
def fi:=@List.zipIdx_cons
def fq:=@decide_eq_false_iff_not
def ft:=@PySem.concat_meets
def fu:=@PySem.wpAny_rule
def fw:=@List.take_of_length_le
def fx:=@PySem.typeLookup_type
def fy:=@PySem.F.type_dict_get
def fz:=@List.singleton_append
def fA:=@Nat.le_succ
def fC:=@if_false
def fD:=@PySem.wpAny_seqItems
def fE:=@PySem.Str.cps_append
def fF:=@List.take_succ
def fG:=@List.getElem?_range
def fH:=@Int.toNat_of_nonneg
open Option renaming some→Y
open Option renaming none→Z
open PySem renaming PyData→fJ
variable  {x t y c:PySem.Str}{u:PySem.Value}{a C:PySem.Addr}{b e tg iter:PySem.Expr}{w:PySem.World}{h h' base:PySem.Heap}{α:Type}{pins:Ax}{s:PySem.Shared}{i j n:Nat}{A:PySem.Around}{E:Px}{pos p apos p2 fQ:PySem.Pos}{st:PySem.Stmt}{es:Lx}{body:List PySem.Stmt}{l:List (PySem.Str×Bool)}{R:PySem.Result->PySem.Shared->Prop}{dx:Option PySem.Addr}{ns:List (Lr×PySem.Str)}{mg:PySem.Str->Ow}{fd:PySem.FuncData}{ps:Lr}{ds:Lp}{scope:PySem.Scope}{items:Array PySem.Value}{d:PySem.PyData}{iV:List (PySem.PyData×PySem.PyData)}{caps:List (Nat×PySem.Str)}{dp ov:Bool}{O:List Nat}{F F₀:List (PySem.Str×PySem.PyData)}{hs:List (PySem.Str×Lr)}
local macro_rules
|`(zZ $a)=>zzz "PySem.Str.ofString 0" #[a]
| `(zK 0) => `(by kernel_rfl)
|`(zB $s)=>zzz "Array.size (PySem.Heap.objs (PySem.Shared.heap 0))" #[s]
|`(zg $x)=>zzz "Eq (BEq.beq 0 (PySem.Str.ofString ~__debug__)) Bool.false" #[x]
|`(zE $e $s $x)=>zzz "Eq (PySem.starEach (List.cons 0 1) (L2.Cx.env 2)) (List.cons (Prod.mk Bool.false (PySem.eval 0 (L2.Cx.env 2))) (PySem.starEach 1 (L2.Cx.env 2)))" #[e,s,x]
| `(zy $a $n) => `({ cls := .type "tuple", data := .seq $a $n })
| `(zl $a $n) => `({ cls := .type "list", data := .seq $a $n })
|`(zw $x)=>zzz "PySem.wpAny (PySem.model (L2.Cx.prog 0) (L2.Cx.w 0)) (L2.Cx.A 0)" #[x]
| `(zi $i) => `(.int ($i : Int))
namespace L2
open PySem PySem.Spec PyProof.Rows
abbrev Key:=Sum Int Str
def yB:Key->Value->Bool
 |.inl k,v=>Value.isInt k v
 |.inr x,v=>Value.isStrOf x v
def TZ(w:World):Key->Int
 |.inl k=>hashInt k
 |.inr x=>hashStr w x
def ip:∀{k:Key}{v:Value},yB k v=true->(∃i t,k=Sum.inl i/\v=Value.int i t)\/(∃x t,k=Sum.inr x/\v=Value.str x t)
 |.inl i,v,h=>by obtain⟨t,e⟩:=Value.isInt_shape (k:=i) (v:=v) h;exact .inl {(i),t,rfl,e}
 |.inr x,v,h=>by obtain⟨t,e⟩:=Value.isStrOf_shape (x:=x) (v:=v) h;exact .inr {(x),t,rfl,e}
def HU(i:Int)(t:Tok):yB (.inl i) (.int i t)=true:=by simp[yB,Value.isInt]
def HW(x:Str)(t:Tok):yB (.inr x) (.str x t)=true:=by simp[yB,Value.isStrOf]
def T1(a b:Int):decide ((Sum.inl a:Key)=Sum.inl b)=(a==b):=by
 by_cases e:a=b
 .subst e;simp
 .have h:¬ (Sum.inl a:Key)=Sum.inl b:=λq=>e (Sum.inl.inj q);rw[az h];exact(aT.mpr e).symm
def T2(a b:Str):decide ((Sum.inr a:Key)=Sum.inr b)=decide (a=b):=by
 by_cases e:a=b
 .subst e;simp
 .have h:¬ (Sum.inr a:Key)=Sum.inr b:=λq=>e (Sum.inr.inj q);rw[az h,az e]
def T3(a:Int)(b:Str):decide ((Sum.inl a:Key)=Sum.inr b)=false:=az (λq=>nomatch q)
def T4(a:Str)(b:Int):decide ((Sum.inr a:Key)=Sum.inl b)=false:=az (λq=>nomatch q)
def gp(c:Program)(w:World):PySem.KeyKind c w Key where
 is:=yB
 hash:=TZ w
 inj:=λv a b m g=>by
  rcases ip m with ⟨i,t,rfl,rfl⟩ | ⟨x,t,rfl,rfl⟩
  .rcases ip g with ⟨j,u,rfl,e⟩ | ⟨y,u,rfl,e⟩
   .injection e with d _;rw[d]
   .exact nomatch e
  .rcases ip g with ⟨j,u,rfl,e⟩ | ⟨y,u,rfl,e⟩
   .exact nomatch e
   .injection e with d _;rw[d]
 byValue:=λk v h=>by rcases ip h with ⟨i,t,rfl,rfl⟩ | ⟨x,t,rfl,rfl⟩<;>rfl
 pyHash:=λf h=>by
  rcases ip f with ⟨i,t,rfl,rfl⟩ | ⟨x,t,rfl,rfl⟩
  .exact wpAny_pyHash_int h
  .exact wpAny_pyHash_str h
 eqBool:=λl f h=>by
  rcases ip l with ⟨i,t,rfl,rfl⟩ | ⟨x,t,rfl,rfl⟩
  .rcases ip f with ⟨j,u,rfl,rfl⟩ | ⟨y,u,rfl,rfl⟩
   .rw[T1] at h;exact wpAny_eqBool_int h
   .rw[T3] at h;exact SeqAt.EqAt.int_str i t y u _ _ _ _ h
  .rcases ip f with ⟨j,u,rfl,rfl⟩ | ⟨y,u,rfl,rfl⟩
   .rw[T4] at h;exact SeqAt.EqAt.str_int x t j u _ _ _ _ h
   .rw[T2] at h;exact wpAny_eqBool_str h
 «strs»:=λk x t v h=>by
  rcases ip h with ⟨i,u,rfl,e⟩ | ⟨y,u,rfl,e⟩
  .exact nomatch e
  .injection e with d _;subst d;cases v<;>rfl
def BS(a:Program)(w:World)(i:Int)(t:Tok):(gp a w).is (.inl i) (.int i t)=true:=HU i t
def pv(a:Program)(w:World)(x:Str)(t:Tok):(gp a w).is (.inr x) (.str x t)=true:=HW x t
end L2
variable  {xs:List (List L2.Key×PySem.Addr×PySem.Value)}
namespace L2
open PySem PySem.Spec PyProof.Rows
inductive V where
 |kn|bl (b:Bool)|int (i:Int)|str (x:Str)|Wu (b:Array UInt8)|Y9 (b:UInt64)|ref (a:Addr)|ty (n:String)
 deriving DecidableEq
def fT:V->Value->Prop
 |.kn,u=>u=Value.none
 |.bl b,u=>u=Value.bool b
 |.int i,u=>∃t,u=Value.int i t
 |.str x,u=>∃t,u=Value.str x t
 |.Wu b,u=>∃t,u=Value.bytes b t
 |.Y9 b,u=>∃t,u=Value.float b t
 |.ref a,u=>u=Value.ref a
 |.ty n,u=>u=Value.type n
abbrev fK:List V->List Value->Prop:=Paired fT
theorem fK.length{xs:List V}{a:Lw}(r:fK xs a):xs.length=a.length:=cS r
theorem fK.get:∀{a:List V}{b:Lw}{i:Nat}{x:V},fK a b->a[i]?=Y x->∃u,b[i]?=Y u/\fT x u
 |_,_,_,_,.nil,e=>by simp at e
 |_,_,0,_,.cons r _,e=>by simp at e;subst e;exact{_,rfl,r}
 |_,_,i+1,x,.cons _ t,e=>by obtain⟨u,d,c⟩:=fK.get (i:=i) (x:=x) t (by simpa using e);exact{u,by simpa using d,c}
theorem fK.set{x:V}{u:Value}(r:fT x u):∀{a:List V}{b:Lw} (i:Nat),fK a b->fK (a.set i x) (b.set i u)
 |_,_,_,.nil=>.nil
 |_,_,0,.cons _ t=>.cons r t
 |_,_,i+1,.cons q t=>.cons q (fK.set r i t)
theorem fK.append:∀{b a:List V}{d c:Lw},fK b d->fK a c->fK (b++a) (d++c)
 |_,_,_,_,.nil,s=>s
 |_,_,_,_,.cons r t,s=>.cons r (fK.append t s)
theorem fK.take:∀{a:List V}{b:Lw} (n:Nat),fK a b->fK (a.take n) (b.take n)
 |_,_,0,_=>.nil
 |_,_,_+1,.nil=>.nil
 |_,_,n+1,.cons r t=>.cons r (fK.take n t)
theorem fK.drop:∀{a:List V}{b:Lw} (n:Nat),fK a b->fK (a.drop n) (b.drop n)
 |_,_,0,r=>r
 |_,_,_+1,.nil=>.nil
 |_,_,n+1,.cons _ t=>fK.drop n t
def o6:Option V->Ow->Prop
 |some v,Y u=>fT v u
 |none,Z=>True
 |_,_=>False
def KV{a:Type}:List (a×V)->List (a×Value)->Prop:=Paired λ(p:a×V) (q:a×Value)=>p.1=q.1/\fT p.2 q.2
def kV:Key->V
 |.inl i=>.int i
 |.inr x=>.str x
inductive HO where
 |lst (xs:List V)
 |tup (xs:List V)
 |dK (iV:List (Key×V))|dT (iV:List (List Key×V))
 |set (S:Int->Bool) (n:Nat)
 |ins (C dx:Addr) (fs:List (Str×V))
 |own (x:Addr)
 |xd (fs:List (Str×V))
 |met (f x:Addr)
 |Wv (lo hi:Int)
 |qY (o:Obj) (u:HO)
 |OH (ps:Array Value)
 |ext (φ:Heap->Prop)
abbrev Hp:=Addr->Option HO
def upd(H:Hp)(a:Addr)(o:HO):Hp:=λb=>if b=a then Y o else H b
def da{H:Hp}{o:HO}:upd H a o a=Y o:=by unfold upd;rw[ah rfl]
def cp{H:Hp}{b:Addr}{o:HO}(h:b≠a):upd H a o b=H b:=by unfold upd;rw[aq h]
def WH{H:Hp}{b:Addr}{o u:HO}(h:H a=Y o)(c:H b=Y u)(d:o≠u):a≠b:=by intro e;subst e;rw[h] at c;exact d (bB c)
def gs{H:Hp}{b:Addr}{o:HO}(h:H a=Y o)(h':H b=Z):a≠b:=by intro e;subst e;rw[h] at h';cases h'
section
variable (P:Program) (w:World)
def ia(H:Hp)(h:Heap)(a:Addr):HO->Prop
 |.lst xs=>xs.length<=sizeLine/\∃(b:Lw) (n:Nat),fK xs b/\h.get? a=Y (zl b.toArray n)
 |.tup xs=>xs.length<=sizeLine/\∃b:Lw,fK xs b/\IsTup h a b.toArray
 |.dK iV=>iV.length<=sizeLine/\(a==sysModules)=false/\∃d,KV iV d/\h.DictOf (gp P w) a d
 |.dT iV=>iV.length<=sizeLine/\(a==sysModules)=false/\∃xs:List (List Key×Addr×Value),
   Paired (λ(p:List Key×V) (q:List Key×Addr×Value)=>p.1=q.1/\H q.2.1=Y (.tup (p.1.map kV))/\fT p.2 q.2.2) iV xs /\
   ∃o i j,h.get? a=Y o/\o.ExactDict/\o.data=.dict i j/\i.toList=xs.map (entryOfKey (tupleKind (gp P w)))/\(xs.map (·.1)).Nodup
 |.set S n=>h.SetOf (intKind P w) a S n
 |.ins C dx fs=>H dx=Y (.own a)/\fs.length<=1000/\dx≠a/\h.get? a=Y (W.instObj C dx) /\
   ∃c,h.Ns1 dx c/\(∀f,o6 (fs.lookup f) (c f))/\PySem.Within c (fs.map (·.1))
 |.own _=>∃o,h.get? a=Y o
 |.xd fs=>∃c,h.Ns1 a c/\∀f,o6 (fs.lookup f) (c f)
 |.Wv lo hi=>∃t u v,h.get? a=Y { cls:=.type "range",data:=.fields #[.int lo t,.int hi u,.int 1 v] }
 |.qY o u=>h.get? a=Y o/\ia H h a u
 |.OH ps=>h.get? a=Y { cls:=.none,data:=.fields ps }
 |.met f x=>h.get? a=Y (W.methodObj (.ref f) (.ref x))
 |.ext φ=>φ h/\(∃o,h.get? a=Y o)/\∀g e:Heap,φ g->(∀o,g.get? a=Y o->e.get? a=Y o)->φ e
def nS(H:Hp)(h:Heap):Prop:=∀a o,H a=Y o->ia P w H h a o
end
section
variable {P:Program}{H H':Hp}{o:HO}
theorem ia.lt(x:ia P w H h a o):a<h.objs.size:=by
 cases o with
 |lst c=>obtain⟨_,_,_,_,e⟩:=x;exact au e
 |tup c=>obtain⟨_,_,_,p⟩:=x;exact p.lt
 |dK b=>sleep 1;obtain⟨_,_,_,_,o,_,_,e,_⟩:=x;sleep 2;exact au e
 |dT b=>sleep 1;obtain⟨_,_,_,_,o,_,_,e,_⟩:=x;sleep 2;exact au e
 |set S n=>sleep 1;obtain⟨o,_,_,_,e,_⟩:=x;sleep 2;exact au e
 |ins C m d=>obtain⟨_,_,_,e,_⟩:=x;exact au e
 |own y=>obtain⟨_,e⟩:=x;exact au e
 |xd d=>sleep 1;obtain⟨_,⟨_,_,_,e,_⟩,_⟩:=x;sleep 2;exact au e
 |Wv k l=>obtain⟨_,_,_,e⟩:=x;exact au e
 |qY j u=>obtain⟨e,_⟩:=x;exact au e
 |OH i=>exact au (show h.get? a=Y _ from x)
 |met f y=>exact au (show h.get? a=Y _ from x)
 |ext g=>obtain⟨_,⟨_,e⟩,_⟩:=x;exact au e
theorem Paired.T5{α β:Type}{F G:α->β->Prop}:∀{d:List α}{c:List β},Paired F d c->(∀a b,F a b->G a b)->Paired G d c
 |_,_,.nil,_=>.nil
 |_,_,.cons r t,f=>.cons (f _ _ r) (Paired.T5 t f)
def ia.pA(x:ia P w H h a o) (k:∀b u,(b=a\/H b=Y (.own a))->h.get? b=Y u->h'.get? b=Y u)
  (J:∀b,H b=Y (.own a)->H' b=Y (.own a)) (I:∀b xs,H b=Y (.tup xs)->H' b=Y (.tup xs)):ia P w H' h' a o:=by
 induction o with
 |lst xs=>obtain⟨z,l,n,r,e⟩:=x;exact{z,l,n,r,k _ _ (.inl rfl) e}
 |tup xs=>sleep 1;obtain⟨z,l,r,g,e,c⟩:=x;sleep 2;exact{z,l,r,g,k _ _ (.inl rfl) e,c}
 |dK A=>sleep 1;obtain⟨z,y,E,r,g,i,j,e,c⟩:=x;sleep 2;exact{z,y,E,r,g,i,j,k _ _ (.inl rfl) e,c}
 |dT A=>sleep 1;obtain⟨z,y,xs,r,g,i,j,e,c⟩:=x;sleep 2;exact{z,y,xs,Paired.T5 r λp q z=>{z.1,I _ _ z.2.1,z.2.2},g,i,j,k _ _ (.inl rfl) e,c}
 |set S n=>sleep 1;obtain⟨g,i,j,t,e,c⟩:=x;sleep 2;exact{g,i,j,t,k _ _ (.inl rfl) e,c}
 |ins C Q K=>sleep 1;obtain⟨d,z,F,e,s,⟨m,i,j,L,c⟩,r⟩:=x;sleep 2;exact{J _ d,z,F,k _ _ (.inl rfl) e,s,{m,i,j,k _ _ (.inr d) L,c},r}
 |own y=>obtain⟨g,e⟩:=x;exact{g,k _ _ (.inl rfl) e}
 |xd K=>sleep 1;obtain⟨s,⟨m,i,j,e,c⟩,r⟩:=x;sleep 2;exact{s,{m,i,j,k _ _ (.inl rfl) e,c},r}
 |Wv N O=>obtain⟨t,u,v,e⟩:=x;exact{t,u,v,k _ _ (.inl rfl) e}
 |qY g u G=>obtain⟨e,q⟩:=x;exact{k _ _ (.inl rfl) e,G q}
 |OH D=>have e:h.get? a=Y { cls:=.none,data:=.fields D }:=x;show h'.get? a=Y { cls:=.none,data:=.fields D };exact k a _ (.inl rfl) e
 |met f y=>have e:h.get? a=Y (W.methodObj (.ref f) (.ref y)):=x;show h'.get? a=Y (W.methodObj (.ref f) (.ref y));exact k a _ (.inl rfl) e
 |ext M=>obtain⟨p,⟨o,e⟩,B⟩:=x;exact{B _ _ p λo q=>k _ _ (.inl rfl) q,{o,k _ _ (.inl rfl) e},B}
theorem nS.lt(x:nS P w H h)(e:H a=Y o):a<h.objs.size:=(x a o e).lt
def nS.fresh(x:nS P w H h)(e:h.objs.size<=a):H a=Z:=by
 cases q:H a with
 |none=>rfl
 |some u=>exact absurd (aI (x.lt q) e) (a7 _)
def nS.kept(x:nS P w H h)(k:∀b u,h.get? b=Y u->h'.get? b=Y u):nS P w H h':=λa o e=>
 (x a o e).pA (λb u _ q=>k b u q) (λ_ q=>q) λ_ _ q=>q
def nS.laid(x:nS P w H h)(k:∀b u,h.get? b=Y u->h'.get? b=Y u)(i:h.objs.size<=a)(d:ia P w (upd H a o) h' a o):nS P w (upd H a o) h':=λb u e=>by
 have f:=x.fresh i;by_cases g:b=a
 .subst g;rw[da] at e;cases e;exact d
 .rw[cp g] at e;exact(x b u e).pA (λc v _ q=>k c v q) (λc q=>by rw[cp (gs q f)];exact q) λc j q=>by rw[cp (gs q f)];exact q
end
def Rd(H:Hp)(a:Addr)(u:HO):Prop:=H a=Y u\/∃o,H a=Y (.qY o u)
def Rd.ok{P:Program}{H:Hp}{u:HO}(r:Rd H a u)(x:nS P w H h):ia P w H h a u:=by
 rcases r with r | ⟨o,r⟩
 .exact x a u r
 .obtain⟨_,q⟩:=x a _ r;exact q
def WI:Option HO->Prop
 |some (.lst _)=>True
 |some (.dK _)=>True
 |some (.dT _)=>True
 |some (.set _ _)=>True
 |some (.ins _ _ _)=>True
 |some (.ext _)=>True
 |_=>False
section
variable {P:Program}{H:Hp}{x e:Addr}{o':HO}
def nS.write(p:nS P w H h) (i:WI (H x)) (o:e=x\/H e=Y (.own x)) (k:∀b u,b≠e->h.get? b=Y u->h'.get? b=Y u) (m:∃u,h'.get? e=Y u)
  (l:ia P w (upd H x o') h' x o'):nS P w (upd H x o') h':=λb u q=>by
 have d:∀c y,H c=Y (.own y)->c≠x:=λc y r z=>by subst z;rw[r] at i;exact i
 have f:∀c g,H c=Y (.tup g)->c≠x:=λc g r z=>by subst z;rw[r] at i;exact i
 by_cases j:b=x
 .subst j;rw[da] at q;cases q;exact l
 .rw[cp j] at q;by_cases a:b=e
  .have n:H b=Y (.own x):=by
    rcases o with z|z
    .exact absurd (a.trans z) j
    .rw[a];exact z
   rw[q] at n;cases n;obtain⟨v,s⟩:=m;exact{v,by rw[a];exact s}
  .refine(p b u q).pA (λc v hc r=>k c v ?_ r) (λc r=>by rw[cp (d c b r)];exact r) λc g r=>by rw[cp (f c g r)];exact r
   rcases hc with rfl|hc
   .exact a
   .rintro rfl;rcases o with z|z
    .exact d c b hc z
    .rw[hc] at z;cases z;exact j rfl
end
structure Un (fs ex:List Addr) (H H':Hp) (h h':Heap):Prop where
 keep:∀b o,h.get? b=Y o->H b=Z->b∉fs->b∉ex->h'.get? b=Y o
 slot:∀b o,h.get? b=Y o->H b=Z->b∈fs->b∉ex->∃sl,h'.get? b=Y { o with slots:=sl }
 free:∀b o,h.get? b=Y o->H b=Z->b∉ex->H' b=Z
 there:∀b o,h.get? b=Y o->b∉ex->∃o',h'.get? b=Y o'
 nT:∀b xs,H b=Y (.tup xs)->H' b=Y (.tup xs)
 m5:∀b o u,H b=Y (.qY o u)->H' b=Y (.qY o u)
 oa:∀b ps,H b=Y (.OH ps)->∃more,H' b=Y (.OH (ps++more))
section
variable {fs fs' ex ex':List Addr}{H H1 H2:Hp}{h1 h2:Heap}{x e:Addr}{o:HO}
def Un.any(u:Un fs ex H H1 h h1){b:Addr}{a:Obj}(q:h.get? b=Y a)(n:H b=Z)(c:b∉ex):∃e,h1.get? b=Y { a with slots:=e }:=by
 by_cases d:b∈fs
 .exact u.slot b a q n d c
 .exact{a.slots,u.keep b a q n d c}
def Un.kept(k:∀b u,h.get? b=Y u->h'.get? b=Y u):Un fs ex H H h h' :=
 {λb a q _ _ _=>k b a q,λb a q _ _ _=>{a.slots,k b a q},λ_ _ _ n _=>n,λb a q _=>{a,k b a q},λ_ _ q=>q,λ_ _ _ q=>q,λ_ c q=>{#[],by rw[q];simp}}
def Un.refl:Un fs ex H H h h:=Un.kept λ_ _ q=>q
def Un.laid(k:∀b u,h.get? b=Y u->h'.get? b=Y u)(e:h.objs.size<=a)(c:H a=Z):Un fs ex H (upd H a o) h h' where
 keep:=λb u q _ _ _=>k b u q
 slot:=λb u q _ _ _=>{u.slots,k b u q}
 free:=λb u q n _=>by rw[cp (aO (aI (au q) e))];exact n
 there:=λb u q _=>{u,k b u q}
 nT:=λb d q=>by rw[cp (gs q c)];exact q
 m5:=λb u d q=>by rw[cp (gs q c)];exact q
 oa:=λb f q=>{#[],by rw[cp (gs q c),q];simp}
def Un.write(c:WI (H x))(m:e=x\/H e=Y (.own x))(k:∀b u,b≠e->h.get? b=Y u->h'.get? b=Y u)(f:∃u,h'.get? e=Y u):Un fs ex H (upd H x o) h h':=by
 have g:∀b,H b=Z->b≠x:=λb n z=>by subst z;rw[n] at c;exact c
 have i:∀b,H b=Z->b≠e:=λb n z=>by
  subst z;rcases m with r|r
  .exact g b n r
  .rw[n] at r;cases r
 have d:∀b u,H b=Y u->¬ WI (Y u)->b≠x:=λb u q l z=>by subst z;rw[q] at c;exact l c
 refine{λb u q n _ _=>k b u (i b n) q,λb u q n _ _=>{u.slots,k b u (i b n) q},λb u q n _=>by rw[cp (g b n)];exact n,λb u q _=>?_,
  λb j q=>by rw[cp (d b _ q λz=>z)];exact q,λb u j q=>by rw[cp (d b _ q λz=>z)];exact q,λb p q=>{#[],by rw[cp (d b _ q λz=>z),q];simp}}
 by_cases a:b=e
 .subst a;exact f
 .exact{u,k b u a q}
end
def Za(h:Heap)(H:Hp):List Addr:=(List.range h.objs.size).filter λa=>(H a).isSome
def z7(h:Heap)(H:Hp):Heap:=W.hideAll h (Za h H)
def HX(h:Heap)(H:Hp):(z7 h H).objs.size=h.objs.size:=W.hideAll_size _ _
def JF{H:Hp}{b:Addr}{o:Obj}(e:h.get? b=Y o)(n:H b=Z):(z7 h H).get? b=Y o :=
 W.hideAll_get _ e λa=>by have q:(H b).isSome=true:=(bZ.mp a).2;rw[n] at q;simp at q
def OS{H:Hp}{b:Addr}{o:Obj}(e:(z7 h H).get? b=Y o):h.get? b=Y o/\H b=Z:=by
 have a:h.get? b=Y o:=W.of_hideAll (Za h H) e;refine{a,?_};cases q:H b with
 |none=>rfl
 |some x=>have c:b∈Za h H:=bZ.mpr {List.mem_range.mpr (au a),by simp[q]};have z:(z7 h H).get? b=Z:=W.hideAll_none (Za h H) c;rw[z] at e;cases e
def OT(g h:Heap)(L:Addr):Ax:=(List.range h.objs.size).filterMap λa=>if a=L\/(g.get? a).isSome=true then Z else (h.get? a).map λo=>(a,o)
def rest(g h:Heap)(L d:Addr):Ax:=(OT g h L).filter λp=>decide (p.1≠d)
end L2
variable  {H H' G G':L2.Hp}{o:L2.HO}{v:L2.V}{vs:List L2.V}{kv:List (L2.Key×L2.V)}{B:List (PySem.Addr×L2.HO)}
namespace L2
open PySem PySem.Spec PyProof.Rows
structure Mod (K:Fg) (mg:Str->Ow) (base:Heap):Prop where
 JG:K.In base
 glob:base.Ns mainGlobals mg
 blt:∃mb,base.Ns builtinsNs mb/\∀x:Str,x≠"__name__"->mb x=bootBuiltins x
 nolimit:base.NoLimit
structure Cx where
 prog:Program
 w:World
 K:Fg
 mg:Str->Ow
 base:Heap
 A:Around
 N:Lr
 gO:Shared
 lI:Hp
 env:Env
 outer:List Env
 stack:List Env
 ex:List Addr
 fn:Str->Bool
 calm:Bool
 pn:Ax
 xe:Px
def o7(l:List Env):List Addr:=l.filterMap (·.frame)
abbrev Cx.fs(X:Cx):List Addr:=o7 X.outer
def BP(a:Scope)(x:Str):Prop:=a.names.lookup x=Y .local\/a.names.lookup x=Y .cell\/a.names.lookup x=Y .free
def D5(a:Scope)(x:Str):Prop:=a.names.lookup x=Y .local\/a.names.lookup x=Y .cell
def WJ(a:Env)(h:Heap)(m:Str->Ow)(x:Str)(u:Value):Prop :=
 (a.kindOf x=Y .local/\m x=Y u)\/((a.kindOf x=Y .cell\/a.kindOf x=Y .free)/\∃c,a.cells.lookup x=Y c/\h.IsCell c (Y u))
structure Cx.Ok (X:Cx):Prop where
 mod:Mod X.K X.mg X.base
 kind:X.env.scope.kind=.function
 glob:X.env.globals=mainGlobals
 blt:X.env.builtins=builtinsNs
 above:(zB X.gO)<=X.env.locals
 inj:∀x y c,X.env.cells.lookup x=Y c->X.env.cells.lookup y=Y c->x=y
 has:∀x,(X.env.kindOf x=Y .cell\/X.env.kindOf x=Y .free)->∃c,X.env.cells.lookup x=Y c
 Si:∀x c,X.fn x=true->X.env.cells.lookup x=Y c->(zB X.gO)<=c
 hd:X.calm=true->X.A.handled=Z
 frames:X.A.frames=Y X.stack
 Sj:X.stack=X.outer\/(X.stack=X.env::X.outer/\X.env.frame=Y X.env.locals)
 Jx:∀b∈X.ex,b≠X.env.locals/\∀x c,X.env.cells.lookup x=Y c->c≠b
 bs:∀b o,X.base.get? b=Y o->X.gO.heap.get? b=Y o/\X.lI b=Z
 HY:X.base.objs.size<=(zB X.gO)
 BU:∀b o,X.base.get? b=Y o->b∉X.ex
 x5:∀b∈X.ex,b∉X.fs
 nC:X.gO.heap.FunFrames X.base X.outer
 BQ:∀b∈X.fs,X.lI b=Z
structure c6 (X:Cx) (pins:Ax) (σ:List (Option V)) (H:Hp) (s:Shared):Prop where
 ok:X.Ok
 os:s.os=X.gO.os
 bare:AllBare s.gens
 base:Un X.fs X.ex X.lI H X.gO.heap s.heap
 loc:∃m,s.heap.Ns X.env.locals m/\∀(i:Nat) (x:Str) (v:V),X.N[i]?=Y x->σ[i]?=Y (Y v)->BP X.env.scope x->∃u,fT v u/\WJ X.env s.heap m x u
 cell:∀x c,X.env.cells.lookup x=Y c->∃v,s.heap.IsCell c v
 free:H X.env.locals=Z
 j5:∀x c,X.env.cells.lookup x=Y c->H c=Z
 pin:∀p∈X.pn++pins,s.heap.get? p.1=Y p.2/\H p.1=Z/\p.1≠X.env.locals/\p.1∉X.fs/\∀v,p.2.data≠.cell v
 gR:nS X.prog X.w H s.heap
 len:σ.length=X.N.length
section
variable {X:Cx}{σ:List (Option V)}
def Cx.Ok.ZF(a:X.Ok){b:Addr}{o:Obj}(e:X.base.get? b=Y o):b∉X.fs:=λc=>by have:=(a.nC.mem c).1;rw[e] at this;cases this
theorem c6.bs(I:c6 X pins σ H s):∀b o,X.base.get? b=Y o->s.heap.get? b=Y o/\H b=Z:=λb o e=>
 {I.base.keep b o (I.ok.bs b o e).1 (I.ok.bs b o e).2 (I.ok.ZF e) (I.ok.BU b o e),I.base.free b o (I.ok.bs b o e).1 (I.ok.bs b o e).2 (I.ok.BU b o e)}
def c6.bk(I:c6 X pins σ H s):∀b o,X.base.get? b=Y o->s.heap.get? b=Y o:=λb o e=>(I.bs b o e).1
theorem c6.mod(I:c6 X pins σ H s):Mod X.K X.mg X.base:=I.ok.mod
def c6.og(I:c6 X pins σ H s):X.K.In s.heap:=I.ok.mod.JG.keeps I.bk
theorem c6.lt(I:c6 X pins σ H s):X.env.locals<(zB s):=by obtain⟨_,a,_⟩:=I.loc;exact a.lt
def c6.sz(I:c6 X pins σ H s):(zB X.gO)<=(zB s):=bx I.ok.above (dw I.lt)
def c6.ZG(I:c6 X pins σ H s)(h:(zB s)<=a):a∉X.fs:=λc=>by obtain⟨_,o,b,_⟩:=I.ok.nC.mem c;exact absurd (aI (au b) (bx I.sz h)) (a7 _)
def c6.WK(I:c6 X pins σ H s):∀x c,X.env.cells.lookup x=Y c->c≠X.env.locals:=λx c e z=>by obtain⟨v,o,d,f⟩:=I.cell x c e;sleep 1;obtain⟨m,⟨g,h,i,a,b,_⟩,_⟩:=I.loc;sleep 2;rw[z,a] at d;cases d;rw[b] at f;cases f
theorem c6.nC(I:c6 X pins σ H s):s.heap.FunFrames X.base X.outer:=by
 have d:∀(l:List Env),(∀b∈o7 l,b∈X.fs)->X.gO.heap.FunFrames X.base l->s.heap.FunFrames X.base l:=by
  intro l;induction l with
  |nil=>intro _ _;trivial
  |cons p r g=>intro f k;sleep 1;obtain⟨m,⟨L,o,a,j,i,n⟩,h⟩:=k;sleep 2;have c:L∈X.fs:=f L (by unfold o7;rw[bA,a];exact bh);obtain⟨q,e⟩:=I.base.slot L o i (I.ok.BQ L c) c λz=>I.ok.x5 L z c;exact{m,{(L),_,a,j,e,n},g (λb hb=>f b (by unfold o7;rw[bA,a];exact ai _ hb)) h}
 exact d X.outer (λ_ hb=>hb) I.ok.nC
theorem c6.stack(I:c6 X pins σ H s):s.heap.FunFrames X.base X.stack:=by
 rcases I.ok.Sj with e | ⟨e,b⟩
 .rw[e];exact I.nC
 .rw[e];obtain⟨m,a,_⟩:=I.loc;refine .cons (by rw[I.ok.kind];decide) b a ?_ I.nC;exact Heap.get?_none_of_le (bx I.ok.HY I.ok.above)
def c6.z8(I:c6 X pins σ H s):∀b∈o7 X.stack,b∈X.env.locals::X.fs:=λb a=>by
 rcases I.ok.Sj with e | ⟨e,c⟩
 .rw[e] at a;exact ai _ a
 .rw[e] at a;unfold o7 at a;rw[bA,c] at a;exact a
def c6.z9(I:c6 X pins σ H s):∀b∈o7 X.stack,H b=Z:=λb hb=>by
 rcases ag.mp (I.z8 b hb) with e|hb
 .rw[e];exact I.free
 .obtain⟨_,o,a,_⟩:=I.ok.nC.mem hb;exact I.base.free b o a (I.ok.BQ b hb) λz=>I.ok.x5 b z hb
def c6.step{g':Array GenState}{t':Nat}{d':Drawn}{ch:List Addr} (I:c6 X pins σ H s)
  (j:∀b∈ch,(b∈X.ex\/(zB X.gO)<=b)/\b≠X.env.locals/\(∀x c,X.env.cells.lookup x=Y c->c≠b)/\∀p∈X.pn++pins,p.1≠b)
  (h:∀b o,b≠X.env.locals->b∉X.fs->b∉ch->s.heap.get? b=Y o->H b=Z->h'.get? b=Y o)
  (B:∀b o,b≠X.env.locals->b∈X.fs->b∉ch->s.heap.get? b=Y o->H b=Z->∃sl,h'.get? b=Y { o with slots:=sl }) (f:∀b o,b∉ch->s.heap.get? b=Y o->H b=Z->H' b=Z)
  (C:∀b o,b∉ch->s.heap.get? b=Y o->∃o',h'.get? b=Y o')
  (F:∀b xs,H b=Y (.tup xs)->H' b=Y (.tup xs)) (K:∀b o u,H b=Y (.qY o u)->H' b=Y (.qY o u)) (G:∀b ps,H b=Y (.OH ps)->∃more,H' b=Y (.OH (ps++more)))
  (T:∀m,s.heap.Ns X.env.locals m->h'.Ns X.env.locals m) (N:nS X.prog X.w H' h') (hg:AllBare g'):
  c6 X pins σ H' { s with heap:=h',gens:=g',drawn:=d',toks:=t' }:=by
 have J:∀b o,X.gO.heap.get? b=Y o->b≠X.env.locals:=λb o e=>aO (aI (au e) I.ok.above);have y:∀b o,X.gO.heap.get? b=Y o->b∉X.ex->b∉ch:=λb o e a D=>by
  rcases(j b D).1 with z|z
  .exact a z
  .exact absurd (aI (au e) z) (a7 _)
 have t:∀x c,X.env.cells.lookup x=Y c->∀v,s.heap.IsCell c v->h'.IsCell c v:=by
  rintro x c e v ⟨o,E,O⟩;have g:c∉ch:=λz=>(j c z).2.2.1 x c e rfl;by_cases S:c∈X.fs
  .obtain⟨sl,q⟩:=B c o (I.WK x c e) S g E (I.j5 x c e);exact{_,q,O}
  .exact{o,h c o (I.WK x c e) S g E (I.j5 x c e),O}
 refine{I.ok,I.os,hg,{λb o e n D a=>?_,λb o e n D a=>?_,λb o e n a=>?_,λb o e a=>?_,λb xs e=>F b xs (I.base.nT b xs e),λb o xs e=>K b o xs (I.base.m5 b o xs e),λb ps e=>?_},?_,λx c e=>?_,?_,λx c e=>?_,λp R=>?_,N,I.len}
 .exact h b o (J b o e) D (y b o e a) (I.base.keep b o e n D a) (I.base.free b o e n a)
 .obtain⟨sl,A⟩:=I.base.slot b o e n D a;obtain⟨M,L⟩:=B b _ (J b o e) D (y b o e a) A (I.base.free b o e n a);exact{(M),L}
 .obtain⟨o',A⟩:=I.base.there b o e a;exact f b o' (y b o e a) A (I.base.free b o e n a)
 .obtain⟨o',A⟩:=I.base.there b o e a;exact C b o' (y b o e a) A
 .obtain⟨V,A⟩:=I.base.oa b ps e;obtain⟨U,L⟩:=G b _ A;exact{V++U,by rw[L,Array.append_assoc]}
 .obtain⟨m,W,hl⟩:=I.loc;refine{m,T m W,λi x v A L e3=>?_};obtain⟨u,r,l⟩:=hl i x v A L e3;refine{u,r,?_};rcases l with l | ⟨k,c,e,z⟩
  .exact .inl l
  .exact .inr {k,c,e,t x c e _ z}
 .obtain⟨v,z⟩:=I.cell x c e;exact{v,t x c e v z}
 .obtain⟨m,⟨o,_,_,E,_⟩,_⟩:=I.loc;exact f _ o (λz=>(j _ z).2.1 rfl) E I.free
 .obtain⟨v,o,E,O⟩:=I.cell x c e;exact f c o (λz=>(j c z).2.2.1 x c e rfl) E (I.j5 x c e)
 .obtain⟨e,n,Q,P,d⟩:=I.pin p R;have g:p.1∉ch:=λz=>(j p.1 z).2.2.2 p R rfl;exact{h p.1 p.2 Q P g e n,f p.1 p.2 g e n,Q,P,d}
def c6.un{t':Nat}(I:c6 X pins σ H s)(u:Un X.fs [] H H' s.heap h')(c:nS X.prog X.w H' h'):c6 X pins σ H' { s with heap:=h',toks:=t' }:=by sleep 1;obtain⟨m,⟨o,p,q,g,r⟩,_⟩:=id I.loc;sleep 2;obtain⟨j,i⟩:=u.any g I.free (by simp);exact I.step (g':=s.gens) (d':=s.drawn) (ch:=[]) (λ_ z=>nomatch z) (λb o _ hb _ e n=>u.keep b o e n hb (by simp)) (λb o _ hb _ e n=>u.slot b o e n hb (by simp)) (λb o _ e n=>u.free b o e n (by simp)) (λb o _ e=>u.there b o e (by simp)) u.nT u.m5 u.oa (λl hm=>by obtain⟨k,d,f,a,h⟩:=hm;rw[g] at a;cases a;exact{_,d,f,i,h}) c I.bare
def c6.call{g':Array GenState}{t':Nat}{d':Drawn}{ch:List Addr} (I:c6 X pins σ H s) (u:Un (o7 X.stack) ch H H' s.heap h') (f:nS X.prog X.w H' h') (l:AllBare g')
  (d:∀b∈ch,(b∈X.ex\/(zB X.gO)<=b)/\b≠X.env.locals/\(∀x c,X.env.cells.lookup x=Y c->c≠b)/\∀p∈X.pn++pins,p.1≠b):
  c6 X pins σ H' { s with heap:=h',gens:=g',drawn:=d',toks:=t' }:=by
 sleep 1;obtain⟨m,⟨o,y,A,j,r⟩,_⟩:=id I.loc;sleep 2;obtain⟨q,g⟩:=u.any j I.free λz=>(d _ z).2.1 rfl;exact I.step (ch:=ch) d (λb o g hb hc e n=>u.keep b o e n (λz=>(ag.mp (I.z8 b z)).elim g hb) hc) (λb o _ _ hc e n=>u.any e n hc) (λb o hc e n=>u.free b o e n hc) (λb o hc e=>u.there b o e hc) u.nT u.m5 u.oa (λv hm=>by obtain⟨t,h,i,a,k⟩:=hm;rw[j] at a;cases a;exact{_,h,i,g,k}) f l
def c6.turned{t':Nat}{it:Addr} (I:c6 X pins σ H s) (k:∀b o,b≠it->s.heap.get? b=Y o->h'.get? b=Y o) (g:H it=Z) (d:it≠X.env.locals)
  (j:it∈X.ex\/(zB X.gO)<=it) (i:∀x c,X.env.cells.lookup x=Y c->c≠it) (h:∀p∈X.pn++pins,p.1≠it):c6 X pins σ H { s with heap:=h',toks:=t' }:=by
 have a:∀b u,H b=Y u->b≠it:=λb u e z=>by rw[z,g] at e;cases e
 refine I.step (g':=s.gens) (d':=s.drawn) (ch:=[it]) (λb hb=>?_) (λb o _ _ hc e _=>k b o (λz=>hc (by simp[z])) e) (λb o _ _ hc e _=>{o.slots,k b o (λz=>hc (by simp[z])) e}) (λ_ _ _ _ n=>n)
  (λb o hc e=>{o,k b o (λz=>hc (by simp[z])) e}) (λ_ _ e=>e) (λ_ _ _ e=>e) (λb ps e=>{#[],by rw[e];simp}) (λm hm=>?_) (λb u e=>?_) I.bare
 .have e:b=it:=by simpa using hb
  subst e;exact{(j),d,i,h}
 .obtain⟨o,l,t,f,r⟩:=hm;exact{o,l,t,k _ o (Ne.symm d) f,r}
 .refine(I.gR b u e).pA (λc v hc q=>k c v ?_ q) (λ_ q=>q) λ_ _ q=>q;rcases hc with z|z
  .rw[z];exact a b u e
  .exact a c _ z
def c6.tok(I:c6 X pins σ H s)(t:Nat):c6 X pins σ H { s with toks:=t }:=I.un (h':=s.heap) (t':=t) Un.refl I.gR
theorem c6.kept{t':Nat}(I:c6 X pins σ H s)(k:∀b u,s.heap.get? b=Y u->h'.get? b=Y u):c6 X pins σ H { s with heap:=h',toks:=t' }:=I.un (Un.kept k) (I.gR.kept k)
theorem c6.laid{a:Addr}{o:HO}{t':Nat}(I:c6 X pins σ H s)(k:∀b u,s.heap.get? b=Y u->h'.get? b=Y u)(d:(zB s)<=a)(c:ia X.prog X.w (upd H a o) h' a o):
  c6 X pins σ (upd H a o) { s with heap:=h',toks:=t' }:=I.un (Un.laid k d (I.gR.fresh d)) (I.gR.laid k d c)
theorem c6.write{x e:Addr}{o:HO}{g:Nat} (I:c6 X pins σ H s) (d:WI (H x)) (f:e=x\/H e=Y (.own x)) (k:∀b u,b≠e->s.heap.get? b=Y u->h'.get? b=Y u) (a:∃u,h'.get? e=Y u)
  (c:ia X.prog X.w (upd H x o) h' x o):c6 X pins σ (upd H x o) { s with heap:=h',toks:=g }:=I.un (Un.write d f k a) (I.gR.write d f k a c)
def c6.l9{a:Ax}(I:c6 X pins σ H s)(h:∀p∈a,s.heap.get? p.1=Y p.2/\H p.1=Z/\p.1≠X.env.locals/\p.1∉X.fs/\∀v,p.2.data≠.cell v):c6 X a σ H s :=
 {I.ok,I.os,I.bare,I.base,I.loc,I.cell,I.free,I.j5,λp b=>(ax.mp b).elim (λz=>I.pin p (aD _ z)) (h p),I.gR,I.len}
def vL{N:Lr}(c:N.Nodup)(a:N[i]?=Y x)(b:N[j]?=Y x):i=j:=by obtain⟨g,e⟩:=aM.mp a;obtain⟨f,d⟩:=aM.mp b;exact(List.getElem_inj c).mp (e.trans d.symm)
def tj{M:Model}{Q:Unit->Shared->Prop} (I:c6 X pins σ H s) (hN:X.N.Nodup) (R:X.N[i]?=Y x) (l:D5 X.env.scope x) (r:fT v u)
  (h:∀s',c6 X pins (σ.set i (Y v)) H s'->(∃a,Heap.SameBut a s.heap s'.heap/\(a=X.env.locals\/X.env.cells.lookup x=Y a))->Q () s') (hf:zr 1 (X.fn x=true\/X.env.scope.names.lookup x=Y .local)):wpAny M A (storeName X.env x u) Q E s:=by
 obtain⟨m,hn,hl⟩:=id I.loc;have S:(X.env.scope.kind==.class||(X.env.scope.kind==.module&&X.env.locals != X.env.globals))=false:=by rw[I.ok.kind];rfl
 have D:i<σ.length:=by rw[I.len];exact(aM.mp R).1
 have K:=I.WK;have f:∀{a:Addr}{L:Heap},(∃o,s.heap.get? a=Y o/\H a=Z)->Heap.SameBut a s.heap L->nS X.prog X.w H L:=λ{a L} ha hs b ob e=>by
  obtain⟨_,_,t⟩:=ha;refine(I.gR b ob e).pA (λc U hc q=>(hs.2 c ?_).trans q) (λ_ q=>q) λ_ _ q=>q;rintro rfl;rcases hc with rfl|hc
  .rw[t] at e;cases e
  .rw[t] at hc;cases hc
 rcases l with C|C
 .refine wpAny_storeName_local C hn (λL hn' hs=>?_) S;obtain⟨oL,_,_,ZH,_⟩:=id hn;refine h _ {I.ok,I.os,I.bare,{λb o e n J l=>?_,λb o e n J l=>?_,I.base.free,λb o e l=>?_,I.base.nT,I.base.m5,I.base.oa},{_,hn',λj y v' g B e3=>?_},λy c e=>?_,I.free,I.j5,λp hp=>?_,f {oL,ZH,I.free} hs,by simpa using I.len} {_,hs,.inl rfl}
  .exact(hs.2 b (aO (aI (au e) I.ok.above))).trans (I.base.keep b o e n J l)
  .obtain⟨sl,g⟩:=I.base.slot b o e n J l;exact{sl,(hs.2 b (aO (aI (au e) I.ok.above))).trans g}
  .obtain⟨o',g⟩:=I.base.there b o e l;exact{o',(hs.2 b (aO (aI (au e) I.ok.above))).trans g}
  .by_cases F:j=i
   .subst F;rw[R] at g;cases g;rw[aK D] at B;cases B;exact{u,r,.inl {C,by simp}}
   .rw[aw (Ne.symm F)] at B;obtain⟨u',r',q⟩:=hl j y v' g B e3;refine{u',r',?_};rcases q with ⟨k,e⟩ | ⟨k,c,e,z⟩
    .refine .inl {k,?_};have:y≠x:=λe=>F (vL hN g (e▸R));simp[this,e]
    .exact .inr {k,c,e,z.sameBut hs (K y c e)}
  .obtain⟨U,z⟩:=I.cell y c e;exact{U,z.sameBut hs (K y c e)}
  .obtain⟨e,n,V,nf,d⟩:=I.pin p hp;exact{(hs.2 p.1 V).trans e,n,V,nf,d}
 .have G:X.fn x=true:=by
   rcases hf with z|z
   .exact z
   .rw[z] at C;cases C
  obtain⟨c,hc⟩:=I.ok.has x (.inl C);obtain⟨U,z⟩:=I.cell x c hc;refine wpAny_storeName_cell I.ok.kind C hc z (λL WL hs=>?_);obtain⟨oc,P,O⟩:=id z;refine h { s with heap:=L } {I.ok,I.os,I.bare,{λb o e n J l=>?_,λb o e n J l=>?_,I.base.free,λb o e l=>?_,I.base.nT,I.base.m5,I.base.oa},{m,hn.sameBut hs (Ne.symm (K x c hc)),λj y v' g B e3=>?_},λy W e=>?_,I.free,I.j5,λp hp=>?_,f {oc,P,I.j5 x c hc} hs,by simpa using I.len} {c,hs,.inr hc}
  .exact(hs.2 b (aO (aI (au e) (I.ok.Si x c G hc)))).trans (I.base.keep b o e n J l)
  .obtain⟨sl,g⟩:=I.base.slot b o e n J l;exact{sl,(hs.2 b (aO (aI (au e) (I.ok.Si x c G hc)))).trans g}
  .obtain⟨o',g⟩:=I.base.there b o e l;exact{o',(hs.2 b (aO (aI (au e) (I.ok.Si x c G hc)))).trans g}
  .by_cases F:j=i
   .subst F;rw[R] at g;cases g;rw[aK D] at B;cases B;exact{u,r,.inr {.inl C,c,hc,WL}}
   .rw[aw (Ne.symm F)] at B;obtain⟨u',r',q⟩:=hl j y v' g B e3;refine{u',r',?_};rcases q with q | ⟨k,W,e,z'⟩
    .exact .inl q
    .refine .inr {k,W,e,z'.sameBut hs ?_};rintro rfl;exact F (vL hN g (I.ok.inj _ _ _ e hc▸R))
  .by_cases T:W=c
   .subst T;exact{_,WL}
   .obtain⟨w2,z2⟩:=I.cell y W e;exact{w2,z2.sameBut hs T}
  .obtain⟨e,n,V,nf,d⟩:=I.pin p hp;refine{(hs.2 p.1 ?_).trans e,n,V,nf,d};intro q;rw[q,P] at e;have q':oc=p.2:=bB e;exact d U (by rw[<-q'];exact O)
def vM{M:Model}{Q:Unit->Shared->Prop} (I:c6 X pins σ H s) (d:X.N.Nodup) (b:X.N[i]?=Y x) (a:D5 X.env.scope x) (r:fT v u)
  (h:∀s',c6 X pins (σ.set i (Y v)) H s'->Q () s') (c:zr 1 (X.fn x=true\/X.env.scope.names.lookup x=Y .local)):wpAny M A (storeName X.env x u) Q E s :=
 tj I d b a r (λs' e _=>h s' e) c
def c6.WM{s':Shared}{ch:List Addr} (I:c6 X pins σ H s) (g:s'.os=s.os) (u:Un (o7 X.stack) ch H H' s.heap s'.heap) (a:nS X.prog X.w H' s'.heap) (h:AllBare s'.gens)
  (d:∀b∈ch,(b∈X.ex\/(zB X.gO)<=b)/\b≠X.env.locals/\(∀x c,X.env.cells.lookup x=Y c->c≠b)/\∀p∈X.pn++pins,p.1≠b):c6 X pins σ H' s':=by
 obtain⟨h',g',d',t',f⟩:=s';have e:f=s.os:=g;subst e;exact I.call (g':=g') (t':=t') (d':=d') u a h d
end
abbrev XK:=Value->Option Addr->Hp->Prop
abbrev St:=List (Option V)
abbrev VK:=V->Hp->Prop
abbrev TE:=St->Hp->VK->Prop
abbrev TT:=St->Hp->(Bool->Hp->Prop)->Prop
abbrev TA:=St->Hp->(List V->Hp->Prop)->Prop
structure o8 where
 nx:St->Hp->Prop
 rt:VK
 bk:St->Hp->Prop:=λ_ _=>False
 ct:St->Hp->Prop:=λ_ _=>False
abbrev TS:=o8->St->Hp->Prop
def EP(X:Cx)(a:Ax)(c:St)(Q:VK)(u:Value)(d:Shared):Prop:=∃v b,c6 X a c b d/\fT v u/\Q v b
def TP(X:Cx)(a:Ax)(d:St)(Q:Bool->Hp->Prop)(b:Bool)(e:Shared):Prop:=∃c,c6 X a d c e/\Q b c
def AP(X:Cx)(a:Ax)(d:St)(Q:List V->Hp->Prop)(e:Lw)(f:Shared):Prop:=∃b c,c6 X a d c f/\fK b e/\Q b c
def SP(X:Cx)(b:Ax)(D:o8)(f:Flow)(c:Shared):Prop :=
 match f with
 |.next=>∃a H',c6 X b a H' c/\D.nx a H'
 |.brk=>∃a H',c6 X b a H' c/\D.bk a H'
 |.cont=>∃a H',c6 X b a H' c/\D.ct a H'
 |.ret u=>∃v a H',c6 X b a H' c/\fT v u/\D.rt v H'
def PE(X:Cx)(e:Expr)(t:TE):Prop :=
 ∀⦃a:Ax⦄ (s:Shared) (σ:St) (H:Hp) (Q:VK),c6 X a σ H s->t σ H Q->(zw X) (eval e X.env) (EP X a σ Q) X.xe s
def PT(X:Cx)(e:Expr)(t:TT):Prop :=
 ∀⦃a:Ax⦄ (s:Shared) (σ:St) (H:Hp) (Q:Bool->Hp->Prop),c6 X a σ H s->t σ H Q->(zw X) (isTrue e X.env (eval e X.env)) (TP X a σ Q) X.xe s
def PW(X:Cx)(e:Expr)(t:TT):Prop :=
 ∀⦃a:Sem Value⦄ (pins:Ax) (s:Shared) (σ:St) (H:Hp) (Q:Bool->Hp->Prop),c6 X pins σ H s->t σ H Q->(zw X) (isTrue e X.env a) (TP X pins σ Q) X.xe s
def PW.pt{X:Cx}{t:TT}(h:PW X e t):PT X e t:=@h _
def PA(X:Cx)(b:Lx)(t:TA):Prop :=
 ∀⦃a:Pos⦄ (pins:Ax) (s:Shared) (σ:St) (H:Hp) (Q:List V->Hp->Prop),c6 X pins σ H s->t σ H Q->(zw X) (spliced (backTo a (starEach b X.env))) (AP X pins σ Q) X.xe s
def PS(X:Cx)(b:Stmt)(t:TS):Prop :=
 ∀⦃a:Ax⦄ (s:Shared) (σ:St) (H:Hp) (D:o8),c6 X a σ H s->t D σ H->(zw X) (exec b X.env) (SP X a D) X.xe s
def xZ(X:Cx)(b:List Stmt)(t:TS):Prop :=
 ∀⦃a:Ax⦄ (s:Shared) (σ:St) (H:Hp) (D:o8),c6 X a σ H s->t D σ H->(zw X) (execs b X.env) (SP X a D) X.xe s
def gY{t:Sem α}{Q b:α->Shared->Prop}{M:Model}(h:wpAny M A t Q E s)(c:∀a s,Q a s->b a s):wpAny M A t b E s:=bq h c λ_ _ x=>x
end L2
variable  {X:L2.Cx}{σ:L2.St}
namespace L2
open PySem PySem.Spec PyProof.Rows
section
def WN(i:Nat):TE:=λa H Q=>∃v,a[i]?=Y (Y v)/\Q v H
def tC(v:V):TE:=λ_ H Q=>Q v H
def mv{i:Nat}{x:Str}{g:Pos}(y:X.N[i]?=Y x)(p:BP X.env.scope x)(j:zd0 (zg x))(k:zd0 ((x==("__classdict__":Str))=false)):PE X (.Name x g) (WN i):=by
 intro f s o H Q I h;obtain⟨v,e,h⟩:=h;obtain⟨m,q,w⟩:=I.loc;obtain⟨u,r,l⟩:=w i x v y e p;have d:EP X f o Q u s:={(v),H,I,r,h}
 rcases l with ⟨b,t⟩ | ⟨b,c,n,a⟩
 .exact wpAny_Name (wpAny_loadName_local I.ok.kind b q t d) j
 .rcases b with b|b
  .exact wpAny_Name (wpAny_loadName_cell I.ok.kind b n a d) j
  .exact wpAny_Name (wpAny_loadName_free I.ok.kind b n a d k) j
def T6{i j pos}:PE X (.Constant (.int i) j pos) (tC (.int i)):=λ_ _ _ H _ I h=>wpAny_Constant_int {.int i,H,I.tok _,{_,rfl},h}
def WO{b j pos}:PE X (.Constant (.bool b) j pos) (tC (.bl b)):=λ_ _ _ H _ I h=>Constant_bool {.bl b,H,I,rfl,h}
def T7{j pos}:PE X (.Constant .none j pos) (tC .kn):=λ_ _ _ H _ I h=>Constant_none {.kn,H,I,rfl,h}
def JH{x j pos}:PE X (.Constant (.str x) j pos) (tC (.str x)):=λ_ _ _ H _ I h=>Calls.Constant_str {.str x,H,I.tok _,{_,rfl},h}
def Gl(X:Cx)(x:Str):Prop:=X.env.kindOf x=Y .globalImplicit
def kf{Q:Px} (I:c6 X pins σ H s) (b:Gl X x) (a:X.mg x=Y u) (h:Q u s)
  (c:zd0 (zg x)):(zw X) (eval (.Name x pos) X.env) Q E s :=
 cY I.ok.kind b (Calls.loadGlobal_global (by rw[I.ok.glob];exact I.mod.glob.keeps I.bk) a h) c
def oh{Q:Px} (I:c6 X pins σ H s) (d:Gl X x) (c:X.mg x=Z) (a:bootBuiltins x=Y u) (h:Q u s)
  (b:zd0 (x≠"__name__")) (e:zd0 (zg x)):(zw X) (eval (.Name x pos) X.env) Q E s:=by
 obtain⟨i,g,f⟩:=I.mod.blt;exact cY I.ok.kind d (Calls.loadGlobal_builtin (by rw[I.ok.glob];exact I.mod.glob.keeps I.bk) c (by rw[I.ok.blt];exact g.keeps I.bk) ((f x b).trans a) h) e
def Gd(b:Gl X x)(a:X.mg x=Y u)(r:fT v u)(c:zd0 (zg x)):PE X (.Name x pos) (tC v) :=
 λ_ _ _ H _ I h=>kf I b a {(v),H,I,r,h} c
def OU(d:Gl X x)(c:X.mg x=Z)(a:bootBuiltins x=Y u)(r:fT v u)(b:zd0 (x≠"__name__"))(e:zd0 (zg x)):PE X (.Name x pos) (tC v) :=
 λ_ _ _ H _ I h=>oh I d c a {(v),H,I,r,h} b e
variable {a:Expr}{ta tb:TE}
variable {tA Zb:TT}{rest:Lx}
def ZI(t u:TT):TT:=λa H Q=>t a H λc b=>if c=true then u a b Q else Q false b
def tOr(t u:TT):TT:=λa H Q=>t a H λc b=>if c=true then Q true b else u a b Q
def ZJ(t:TT):TT:=λa H Q=>t a H λc b=>Q (!c) b
def OV(f:PT X a tA):PW X (.BoolOp .And [a] pos) tA:=by
 intro g b s d H Q I h;refine isTrue_and (gY (@f b s d H Q I h) λc i e=>?_);cases c with
 |true=>exact isTrue_and_nil e
 |false=>exact e
def JI(f:PT X a tA):PW X (.BoolOp .Or [a] pos) tA:=by
 intro g b s d H Q I h;refine isTrue_or (gY (@f b s d H Q I h) λc i e=>?_);cases c with
 |false=>exact isTrue_or_nil e
 |true=>exact e
def T8(m:PT X a tA)(l:PW X (.BoolOp .And (b::rest) pos) Zb):PW X (.BoolOp .And (a::b::rest) pos) (ZI tA Zb):=by
 intro j d s e H Q I h;refine isTrue_and (gY (@m d s e H _ I h) ?_);rintro c k ⟨i,g,f⟩;cases c with
 |true=>exact @l j d k e i Q g f
 |false=>exact{(i),g,f}
def Sk(m:PT X a tA)(l:PW X (.BoolOp .Or (b::rest) pos) Zb):PW X (.BoolOp .Or (a::b::rest) pos) (tOr tA Zb):=by
 intro j d s e H Q I h;refine isTrue_or (gY (@m d s e H _ I h) ?_);rintro c k ⟨i,g,f⟩;cases c with
 |true=>exact{(i),g,f}
 |false=>exact @l j d k e i Q g f
def JK(e:PT X a tA):PT X (.UnaryOp .Not a pos) (ZJ tA):=by intro b s d H Q I h;exact isTrue_not (@e b s d H (λc H1=>Q (!c) H1) I h)
def WQ(e d:TE):TE:=λa H Q=>e a H λx b=>∃c,x=.bl c/\if c=true then d a b Q else Q (.bl false) b
def T9{op}{t:TE}(h:PE X a t):PE X (.BoolOp op [a] pos) t:=λb s c H Q I hw=>BoolOp_one (@h b s c H Q I hw)
def Ua(m:PE X a ta)(l:PE X (.BoolOp .And (b::rest) pos) tb):PE X (.BoolOp .And (a::b::rest) pos) (WQ ta tb):=by
 intro d s f H Q I h;refine BoolOp_and (gY (@m d s f H _ I h) ?_);rintro v j ⟨x,i,g,k,e⟩;obtain⟨c,rfl,e⟩:=e;cases k;refine cg ?_;cases c with
 |true=>exact @l d j f i Q g e
 |false=>exact{.bl false,i,g,rfl,e}
end
def nE(K:Fg)(H:Hp)(a:Addr)(b:List V):Prop :=
 Rd H a (.lst b) \/
  ∃(o:Obj) (its:Array Value) (n:Nat),K.lookup a=Y o/\o.cls=.type "list"/\o.dict=Z/\o.data=.seq its n/\its.size<=sizeLine/\fK b its.toList
def pB(K:Fg)(H:Hp)(a:Addr)(b:List V):Prop :=
 Rd H a (.tup b) \/
  ∃(o:Obj) (its:Array Value) (n:Nat),K.lookup a=Y o/\o.cls=.type "tuple"/\o.data=.seq its n/\its.size<=sizeLine/\fK b its.toList
def ZK:Value->Option V
 |.none=>Y .kn
 |.bool b=>Y (.bl b)
 |.int i _=>Y (.int i)
 |.str x _=>Y (.str x)
 |.bytes b _=>Y (.Wu b)
 |.float b _=>Y (.Y9 b)
 |.ref a=>Y (.ref a)
 |.type n=>Y (.ty n)
 |_=>Z
def fT.abs{x:V}(r:fT x u):ZK u=Y x:=by
 cases x with
 |kn=>cases r;rfl
 |bl _=>cases r;rfl
 |int _=>obtain⟨t,rfl⟩:=r;rfl
 |str _=>obtain⟨t,rfl⟩:=r;rfl
 |Wu _=>obtain⟨t,rfl⟩:=r;rfl
 |Y9 _=>obtain⟨t,rfl⟩:=r;rfl
 |ref _=>cases r;rfl
 |ty _=>cases r;rfl
def fT.inj{x y:V}(r:fT x u)(q:fT y u):x=y:=bB (r.abs.symm.trans q.abs)
theorem fK.inj:∀{a ys:List V}{b:Lw},fK a b->fK ys b->a=ys
 |_,_,_,.nil,.nil=>rfl
 |_,_,_,.cons r t,.cons r' t'=>by rw[r.inj r',fK.inj t t']
section
variable {xs ys:List V}
def nE.of{K:Fg}(h:H a=Y (.lst xs)):nE K H a xs:=.inl (.inl h)
def pB.of{K:Fg}(h:H a=Y (.tup xs)):pB K H a xs:=.inl (.inl h)
def c6.list(I:c6 X pins σ H s)(h:nE X.K H a xs):∃its:Lw,fK xs its/\PlainL s.heap a its.toArray/\xs.length<=sizeLine:=by
 rcases h with h | ⟨o,its,n,b,d,c,hs,hz,r⟩
 .obtain⟨z,its,n,r,e⟩:=h.ok I.gR;exact{its,r,{_,n,e,rfl,rfl,rfl},z}
 .refine{its.toList,r,{o,n,I.og a o b,d,c,by simpa using hs},?_};have e:=r.length;simp only[cI] at e;omega
def c6.tuple(I:c6 X pins σ H s)(h:pB X.K H a xs):∃b:Lw,fK xs b/\IsTup s.heap a b.toArray/\xs.length<=sizeLine:=by
 rcases h with h | ⟨o,b,n,c,d,hs,hz,r⟩
 .obtain⟨z,b,r,p⟩:=h.ok I.gR;exact{(b),r,p,z}
 .refine{b.toList,r,{o,I.og a o c,d,n,by simpa using hs},?_};have e:=r.length;simp only[cI] at e;omega
def c6.BV(I:c6 X pins σ H s)(h:nE X.K H a xs)(h':nE X.K H a ys):xs=ys:=by
 sleep 1;obtain⟨c,r,⟨o,n,e,_,_,d⟩,_⟩:=I.list h;sleep 2;sleep 1;obtain⟨b,i,⟨k,l,f,_,_,g⟩,_⟩:=I.list h';sleep 2;rw[e] at f;cases f;rw[d] at g;injection g with j _
 have:c=b:=by simpa using bJ Array.toList j
 subst this;exact r.inj i
def c6.HZ(I:c6 X pins σ H s)(h:pB X.K H a xs)(j:pB X.K H a ys):xs=ys:=by
 sleep 1;obtain⟨c,r,⟨o,e,_,n,d⟩,_⟩:=I.tuple h;sleep 2;sleep 1;obtain⟨b,i,⟨l,f,_,m,g⟩,_⟩:=I.tuple j;sleep 2;rw[e] at f;cases f;rw[d] at g;injection g with k _
 have:c=b:=by simpa using bJ Array.toList k
 subst this;exact r.inj i
end
abbrev Cx.vb(X:Cx)(E:Value->Shared->Prop):Cx:={ X with xe:=E }
abbrev Cx.Sl(X:Cx):Cx:=X.vb λ_ _=>False
theorem Cx.Ok.vb{X:Cx}(a:X.Ok)(E:Px):(X.vb E).Ok :=
 {a.mod,a.kind,a.glob,a.blt,a.above,a.inj,a.has,a.Si,a.hd,a.frames,a.Sj,a.Jx,a.bs,a.HY,a.BU,a.x5,a.nC,a.BQ}
def Cx.Ok.pC(a:(X.vb E).Ok):X.Ok :=
 {a.mod,a.kind,a.glob,a.blt,a.above,a.inj,a.has,a.Si,a.hd,a.frames,a.Sj,a.Jx,a.bs,a.HY,a.BU,a.x5,a.nC,a.BQ}
section
theorem c6.vb(I:c6 X pins σ H s)(E:Px):c6 (X.vb E) pins σ H s:={I.ok.vb E,I.os,I.bare,I.base,I.loc,I.cell,I.free,I.j5,I.pin,I.gR,I.len}
theorem c6.pC(I:c6 (X.vb E) pins σ H s):c6 X pins σ H s:={I.ok.pC,I.os,I.bare,I.base,I.loc,I.cell,I.free,I.j5,I.pin,I.gR,I.len}
theorem SP.pC{D:o8}{f:Flow}{c:Shared}(h:SP (X.vb E) pins D f c):SP X pins D f c:=by
 cases f with
 |next=>obtain⟨a,b,I,q⟩:=h;exact{a,b,I.pC,q}
 |brk=>obtain⟨a,b,I,q⟩:=h;exact{a,b,I.pC,q}
 |cont=>obtain⟨a,b,I,q⟩:=h;exact{a,b,I.pC,q}
 |ret u=>sleep 1;obtain⟨v,a,b,I,r,q⟩:=h;sleep 2;exact{v,a,b,I.pC,r,q}
theorem xZ.Sl{b:List Stmt}{t:TS}(h:xZ X.Sl b t):xZ X b t:=λa s c H D I hw=>
 bq (@h a s c H D (I.vb _) hw) (λ_ _ q=>q.pC) λ_ _ z=>False.elim z
end
section
variable {rest:List Stmt}{t u:TS}{te:TE}
def WR:TS:=λD a H=>D.nx a H
def ZL(t u:TS):TS:=λD a H=>t { D with nx:=u D } a H
def OW:xZ X [] WR:=λ_ _ a H _ I h=>b5 {(a),H,I,h}
def JL(g:PS X st t)(e:xZ X rest u):xZ X (st::rest) (ZL t u):=by
 intro a s c H D I h;refine wpAny_execs_cons (gY (@g a s c H { D with nx:=u D } I h) λf d q=>?_);cases f with
 |next=>obtain⟨b,j,i,q⟩:=q;exact @e a d b j D i q
 |ret v=>exact q
 |brk=>exact q
 |cont=>exact q
def OX(c:PS X st t):xZ X [st] t:=by
 intro a s b H D I h;refine wpAny_execs_cons (gY (@c a s b H D I h) λf d q=>?_);cases f with
 |next=>exact b5 q
 |ret v=>exact q
 |brk=>exact q
 |cont=>exact q
def c6.quiet(I:c6 X pins σ H s):interactive X.env=false:=by simp[interactive,I.ok.kind]
def WS(b:TE):TS:=λD a H=>b a H λ_ c=>D.nx a c
def rM(f:PE X e te)(d:zr0 (swapsWith e Z pos.line X.env=pure false)):PS X (.Expr e pos) (WS te):=by intro a s b H D I h;exact wpAny_Expr_any (gY (@f a s b H _ I h) <| by rintro v j ⟨x,i,g,k,c⟩;exact{(b),i,g,c}) I.quiet d
def ZM(b:TE):TS:=λD a H=>b a H D.rt
def qZ(d:PE X e te):PS X (.Return (Y e) pos) (ZM te):=by intro a s σ H D I h;exact wpAny_Return_some (gY (@d a s σ H _ I h) <| by rintro v i ⟨x,g,f,b,c⟩;exact{(x),σ,g,f,b,c})
def WT:TS:=λD _ H=>D.rt .kn H
def OY:PS X (.Return Z pos) WT:=λ_ _ a H _ I h=>wpAny_Return_none {.kn,a,H,I,rfl,h}
def ZN(c:TT)(t u:TS):TS:=λD a H=>c a H λb d=>if b=true then t D a d else u D a d
def Sm{c:Expr}{a b:List Stmt}{g:TT}(m:PT X c g)(o:xZ X a t)(n:xZ X b u):PS X (.If c a b pos) (ZN g t u):=by
 intro e s f H D I h;refine wpAny_If (gY (@m e s f H _ I h) ?_);rintro d i ⟨l,k,j⟩;cases d with
 |true=>exact @o e i f l D k j
 |false=>exact @n e i f l D k j
end
abbrev TG:=V->St->Hp->(St->Hp->Prop)->Prop
abbrev OZ:=List V->St->Hp->(St->Hp->Prop)->Prop
def PG(X:Cx)(a:Expr)(t:TG):Prop :=
 ∀⦃b:Ax⦄ (s:Shared) (σ:St) (H:Hp) (v:V) (u:Value) (Q:St->Hp->Prop),c6 X b σ H s->fT v u->t v σ H Q ->
  (zw X) (assign a X.env u) (λ_ s'=>∃c d,c6 X b c d s'/\Q c d) X.xe s
def OI(X:Cx)(d:Lx)(t:OZ):Prop :=
 ∀⦃a:Ax⦄ (s:Shared) (σ:St) (H:Hp) (vs:List V) (us:Lw) (Q:St->Hp->Prop),c6 X a σ H s->fK vs us->t vs σ H Q ->
  (zw X) (assignInOrder ((assignEach d X.env).map (·.2)) us) (λ_ s'=>∃b c,c6 X a b c s'/\Q b c) X.xe s
abbrev O0:=V->V->V->Hp->(Hp->Prop)->Prop
def BW(X:Cx)(t:O0):Prop :=
 ∀(a:Ax) (s:Shared) (σ:St) (H:Hp) (o i v:V) (ov iv u:Value) (Q:Hp->Prop),c6 X a σ H s->fT o ov->fT i iv->fT v u->t o i v H Q ->
  (zw X) (setItem ov iv u) (λ_ s'=>∃b,c6 X a σ b s'/\Q b) X.xe s
abbrev Zc:=V->V->Hp->VK->Prop
def Zd(X:Cx)(b:Operator)(t:Zc):Prop :=
 ∀(a:Ax) (s:Shared) (σ:St) (H:Hp) (x y:V) (v u:Value) (Q:VK),c6 X a σ H s->fT x v->fT y u->t x y H Q ->
  (zw X) (inplaceOp b v u) (EP X a σ Q) X.xe s
section
def Ge(i:Nat):TG:=λv a H Q=>Q (a.set i (Y v)) H
def nc(e:X.N.Nodup)(c:X.N[i]?=Y x)(b:D5 X.env.scope x)(d:zr 1 (X.fn x=true\/X.env.scope.names.lookup x=Y .local)):PG X (.Name x pos) (Ge i):=by intro a s g H v u Q I r h;exact wpAny_assign_Name (vM I e c b r (λs' f=>{_,H,f,h}) d)
def ZO:OZ:=λb a H Q=>b=[]/\Q a H
def WU(t:TG)(u:OZ):OZ:=λc b H Q=>∃v r,c=v::r/\t v b H λa d=>u r a d Q
def Aa:OI X [] ZO:=by intro a s b H c d Q I r h;obtain⟨e,h⟩:=h;subst e;cases r;exact assignInOrder_nil {(b),H,I,h}
def nU{t:TG}{u:OZ} (k:PG X e t) (j:OI X es u)
  (i:zr0 ((assignEach (e::es) X.env).map (·.2)=assign e X.env::(assignEach es X.env).map (·.2))):OI X (e::es) (WU t u):=by
 intro a s c H o q Q I r h;obtain⟨v,p,l,h⟩:=h;subst l;cases r with
 |cons r f=>rw[i];refine assignInOrder_cons (gY (@k a s c H _ _ _ I r h) ?_);rintro _ d ⟨b,n,m,g⟩;exact @j a d b n _ _ Q m f g
def ZP(K:Fg)(n:Nat)(t:OZ):TG:=λv c H Q=>∃a b,v=.ref a/\pB K H a b/\b.length=n/\t b c H Q
def D6{k:Nat}{t:OZ} (x:X.calm=true) (h:OI X es t)
  (q:zr0 ((assignEach es X.env).length=n)) (d:zr0 ((assignEach es X.env).findIdx? (·.1)=Z)):PG X (.Tuple es k pos) (ZP X.K n t):=by
 intro c s f H v u Q I r hw;sleep 1;obtain⟨a,i,z,p,w,hw⟩:=hw;sleep 2;subst z;cases r;obtain⟨j,g,m,B⟩:=I.tuple p;refine assign_Tuple_tuple (I.ok.hd x) m (by simp[q,<-w,g.length]) d λy l=>?_;have A:c6 X c f H { s with heap:=y }:=I.kept (t':=s.toks) λb o e=>l b o (aO (au e)) e;exact @h c _ f H i _ Q A (by simpa using g) hw
def ZQ(b c:TE)(t:O0):TG:=λv a H Q=>b a H λo f=>c a f λi e=>t o i v e λd=>Q a d
def Ub{o i:Expr}{c d:TE}{t:O0} (p:PE X o c) (q:PE X i d) (n:BW X t)
  (w:∀v,assign (.Subscript o i pos) X.env v=(do
   let ov <-holding [v] (eval o X.env);let iv <-holding [v,ov] (eval i X.env)
   standAt pos
   holding [v,ov,iv] (setItem ov iv v)
   release [v,ov,iv] []):=by intro _;rfl):PG X (.Subscript o i pos) (ZQ c d t):=by
 intro a s b H v u Q I r h;rw[w];refine aa (a8 (gY (@p a s b H _ I h) ?_));rintro ov f ⟨x,E,B,j,m⟩;refine aa (a8 (gY (@q a f b E _ B m) ?_));rintro iv e ⟨y,D,A,g,l⟩;refine aa (wpAny_standAt (aa (a8 (gY (@n a e b D x y v ov iv u _ A j g r l) ?_))));rintro _ F ⟨C,z,k⟩;exact wpAny_release {(b),C,z,k}
def Uc(b:TE)(g:TG):TS:=λD a H=>b a H λx c=>g x a c D.nx
def JM{c:TE}{g:TG} (l:PE X e c) (k:PG X tg g) (j:zr0 (swapsWithSole [tg] e pos.line X.env=pure false)) (hw:zr0 (swappedStores [tg] e X.env=pure Z))
  (m:zr0 ((assignEach [tg] X.env).map (·.2)=[assign tg X.env])):PS X (.Assign [tg] e pos) (Uc c g):=by
 intro a s b H D I h;refine wpAny_Assign_stores (gY (@l a s b H _ I h) ?_) j hw;rintro v d ⟨x,o,n,f,i⟩;rw[m];exact gY (@k a d b o x v _ n f i) λ_ p q=>q
def JN{c:TE}{a:Pos}(o:X.N.Nodup)(l:X.N[i]?=Y x)(j:D5 X.env.scope x)(n:PE X e c)(k:zr0 (swapsWith e (Y (.Name x a)) pos.line X.env=pure false))(m:zr 1 (X.fn x=true\/X.env.scope.names.lookup x=Y .local)):
  PS X (.Assign [.Name x a] e pos) (Uc c (Ge i)):=by
 intro b s d H D I h;refine wpAny_Assign_Name (gY (@n b s d H _ I h) ?_) k;rintro v t ⟨y,r,q,f,g⟩;exact vM q o l j f (λs2 p=>{_,r,p,g}) m
def ZR(i:Nat)(c:TE)(b:Zc):TS:=λD a H=>∃x,a[i]?=Y (Y x)/\c a H λy e=>b x y e λz d=>D.nx (a.set i (Y z)) d
def Ud{A:TE}{o:Operator}{t:Zc}{j:Pos}(T:X.N.Nodup)(B:X.N[i]?=Y x)(p:D5 X.env.scope x)(R:PE X e A)(L:Zd X o t)(Q:zr 1 (X.fn x=true\/X.env.scope.names.lookup x=Y .local)):
  PS X (.AugAssign (.Name x j) o e pos) (ZR i A t):=by
 intro a s q H D I h;obtain⟨v,U,h⟩:=h;obtain⟨m,M,P⟩:=I.loc;have n:BP X.env.scope x:=by rcases p with k|k;exact .inl k;exact .inr (.inl k)
 obtain⟨u,r,l⟩:=P i x v B U n;refine wpAny_AugAssign_Name ?_;have C:(zw X) (eval e X.env) (λw g=>(zw X) (inplaceOp o u w) (λr f=>(zw X) (storeName X.env x r) (λ_=>SP X a D .next) X.xe f) X.xe g) X.xe s:=by refine gY (@R a s q H _ I h) ?_;rintro w E ⟨y,H1,I1,G,K⟩;refine gY (@L a E q H1 v y u w _ I1 r G K) ?_;rintro z s2 ⟨zv,H2,W,F,J⟩;exact vM W T B p F (λs3 V=>{_,H2,V,J}) Q
 rcases l with ⟨b,O⟩ | ⟨b,c,S,d⟩
 .exact wpAny_loadName_local I.ok.kind b M O C
 .rcases b with b|b
  .exact wpAny_loadName_cell I.ok.kind b S d C
  .rcases p with k|k
   .have:X.env.scope.names.lookup x=Y .free:=b;rw[k] at this;cases this
   .have:X.env.scope.names.lookup x=Y .free:=b;rw[k] at this;cases this
def ZS(f:Int->Int->Int):Zc:=λx y H Q=>∃i j,x=.int i/\y=.int j/\Q (.int (f i j)) H
def Ue:Zd X .Add (ZS λi j=>i+j):=by intro a s f H x y v u Q I c b h;obtain⟨i,j,e,d,q⟩:=h;subst e;subst d;obtain⟨t,rfl⟩:=c;obtain⟨g,rfl⟩:=b;exact iadd_int {.int _,H,I.tok _,{_,rfl},q}
def Ug:Zd X .Sub (ZS λi j=>i - j):=by intro a s f H x y v u Q I c b h;obtain⟨i,j,e,d,q⟩:=h;subst e;subst d;obtain⟨t,rfl⟩:=c;obtain⟨g,rfl⟩:=b;exact isub_int {.int _,H,I.tok _,{_,rfl},q}
end
section
def Uh(c:TT)(h:TS):TS:=λD a H=>∃W:Nat->St->Hp->Prop,(∃m,W m a H)/\∀m a H,W m a H ->
 c a H λb f=>if b=true then ∃N:St->Hp->Prop,(∀d g,N d g->∃e,e<m/\W e d g)/\h { D with nx:=N,ct:=N,bk:=D.nx } a f else D.nx a f
def JO{c:Expr}{t:TT}{u:TS}(x:PassesOwn (model X.prog X.w) X.A X.env X.xe)(O:PT X c t)(P:xZ X body u):PS X (.While c body [] pos) (Uh t u):=by
 intro d s F H D I h;obtain⟨W,⟨M,J⟩,i⟩:=h;refine wpAny_While (codeAny_whileLoop (λn s'=>∃g E,c6 X d g E s'/\W n g E) ?_ M {(F),H,I,J});rintro n L ⟨e,C,Q,G⟩;refine cA x (gY (@O d L e C _ Q (i n e C G)) ?_);rintro b K ⟨B,z,l⟩;cases b with
 |true=>
  obtain⟨N,y,l⟩:=l;rw[ah rfl];refine cA x (gY (@P d K e B _ z l) λf R k=>?_);cases f with
  |next=>obtain⟨a,j,r,o⟩:=k;obtain⟨p,q,m⟩:=y a j o;exact{(p),q,a,j,r,m}
  |cont=>obtain⟨a,j,r,o⟩:=k;obtain⟨p,q,m⟩:=y a j o;exact{(p),q,a,j,r,m}
  |brk=>exact k
  |ret v=>exact k
 |false=>rw[aq aS];exact b5 {(e),B,z,l}
end
structure It where
 go:Nat->Hp->Prop
 Ui:Nat->Hp->V->Hp->Prop
 stop:Nat->Hp->Prop
def o9(X:Cx)(a:Ax)(H:Hp)(b:Addr):Prop :=
 H b=Z/\b≠X.env.locals/\b∉X.fs/\(b∈X.ex\/(zB X.gO)<=b)/\(∀x c,X.env.cells.lookup x=Y c->c≠b)/\∀p∈X.pn++a,p.1≠b
def c6.D7{b:Addr}(I:c6 X pins σ H s)(a:(zB s)<=b)(f:H' b=Z):o9 X pins H' b:=by
 refine{f,cL (aI I.lt a),I.ZG a,.inr (bx I.sz a),λx c e z=>?_,λp d z=>?_}
 .obtain⟨v,q⟩:=I.cell x c e;exact absurd (aI q.lt (by rw[z];exact a)) (a7 _)
 .exact absurd (aI (au (I.pin p d).1) (by rw[z];exact a)) (a7 _)
structure D8 (P:Program) (w:World) (K:Fg) (tg:Expr) (J:It) (fp:List Addr) (it:Addr) (tn:Nat->Heap->Prop):Prop where
 mem:it∈fp
 obj:∀i h,tn i h->∀b∈fp,∃o,h.get? b=Y o/\∀v,o.data≠.cell v
 keep:∀i h h',tn i h->(∀b∈fp,∀o,h.get? b=Y o->h'.get? b=Y o)->tn i h'
 item:∀(X:Cx),X.prog=P->X.w=w->X.K=K->X.calm=true->∀(i:Nat) (pins:Ax) (s:Shared) (σ:St) (H:Hp) (E:Px),c6 X pins σ H s->(∀b∈fp,o9 X pins H b)->tn i s.heap->J.go i H ->
  wpAny (model P w) X.A (pyNext (.ref it)) (λr s1=>∃u,r=Y u /\
   wpAny (model P w) X.A (letOwnedTupleGo tg (.ref it) u) (λ_ s2=>∃x H',c6 X pins σ H' s2/\fT x u/\J.Ui i H x H'/\tn (i+1) s2.heap/\∀b∈fp,H' b=Z) E s1) E s
 done:∀(X:Cx),X.prog=P->X.w=w->X.K=K->X.calm=true->∀(i:Nat) (pins:Ax) (s:Shared) (σ:St) (H:Hp) (E:Px),c6 X pins σ H s->(∀b∈fp,o9 X pins H b)->tn i s.heap->J.stop i H ->
  wpAny (model P w) X.A (pyNext (.ref it)) (λr s1=>r=Z/\c6 X pins σ H s1) E s
 self:∀(A:Around) (i:Nat) (s:Shared) (Q:Px) (E:Px),tn i s.heap->Q (.ref it) s->wpAny (model P w) A (pyIter (.ref it)) Q E s
abbrev TI:=St->Hp->(It->Hp->Prop)->Prop
def ZT(X:Cx)(a:Ax)(f:St)(g:Expr)(R:It->Hp->Prop)(c:Value)(d:Shared):Prop :=
 ∃(e:Addr) (fp:List Addr) (tn:Nat->Heap->Prop) (J:It) (H':Hp),c=.ref e/\c6 X a f H' d/\D8 X.prog X.w X.K g J fp e tn/\tn 0 d.heap/\(∀b∈fp,o9 X a H' b)/\R J H'
def PI(X:Cx)(d b:Expr)(c:TI):Prop :=
 ∀⦃a:Ax⦄ (s:Shared) (σ:St) (H:Hp) (R:It->Hp->Prop),c6 X a σ H s->c σ H R ->
  (zw X) (eval b X.env) (λv s1=>(zw X) (pyIter v) (ZT X a σ d R) X.xe s1) X.xe s
def yC{M:Model}{c:Addr}{o:Obj}{n:String}{b:Array Value}{Q:Unit->Shared->Prop} (d:s.heap.get? c=Y o) (g:o.cls=.type n) (f:o.data=.fields b)
    (e:["enumerate","zip","dict_itemiterator","dict_reverseitemiterator","odict_iterator","itertools.zip_longest","itertools.pairwise"].contains n=false) (a:Q () s):wpAny M A (letOwnedTupleGo tg (.ref c) u) Q E s:=by
  unfold letOwnedTupleGo;cases tg<;>first
    |exact ao a
    | (cases u<;>first
        |exact ao a
        | (refine aa (wpAny_load d ?_)
           rw[g,f];show wpAny M A (if (["enumerate","zip","dict_itemiterator","dict_reverseitemiterator","odict_iterator","itertools.zip_longest","itertools.pairwise"].contains n&&b[0]?==Y (rawInt _))=true then _ else _) Q E s;rw[aq (by intro h;rw[e,Bool.false_and] at h;cases h)];exact ao a))
def Itl(K:Fg)(a:Addr):It :=
 {λi H=>∃b x,nE K H a b/\b[i]?=Y x,λi H x c=>c=H/\∀b,nE K H a b->b[i]?=Y x,λi H=>∃b,nE K H a b/\b.length<=i}
def Itt(K:Fg)(a:Addr):It :=
 {λi H=>∃b x,pB K H a b/\b[i]?=Y x,λi H x c=>c=H/\∀b,pB K H a b->b[i]?=Y x,λi H=>∃b,pB K H a b/\b.length<=i}
def WV(a:Int)(n:Nat):It:={λi _=>i<n,λi H x b=>b=H/\x=.int (a+i),λi _=>n<=i}
def H0{P:Program}{K:Fg}(a j:Addr):D8 P w K tg (Itl K a) [j] j (λi h=>h.IsListIter j a i) where
 mem:=by simp
 obj:=λi h f b l=>by
  have e:b=j:=by simpa using l
  subst e;obtain⟨o,e,c,d⟩:=f;exact{o,e,λv z=>by rw[d] at z;cases z}
 keep:=λi h r f k=>f.at λo e=>k j (by simp) o e
 item:=by intro X C hw D O i g s N H E I q f B;subst C hw D;obtain⟨Q,x,n,A⟩:=B;obtain⟨y,t,p,T⟩:=I.list n;obtain⟨u,V,S⟩:=t.get A;sleep 1;obtain⟨M,L,W,J,G,F⟩:=q j (by simp);sleep 2;refine dy f p.isList (x:=u) (by simpa using V) λr m R=>?_;have I1:c6 X g N H { s with heap:=r }:=I.turned (t':=s.toks) (λb o l e=>(R.2 b l).trans e) M L J G F;obtain⟨o,e,c,d⟩:=id m;exact{u,rfl,yC (s:={ s with heap:=r }) e c d (by decide) {x,H,I1,S,{rfl,λys U=>by rw[I.BV U n];exact A},m,λb l=>(q b l).1}}
 done:=by intro X C hw D O i g s N H E I q f B;subst C hw D;obtain⟨Q,n,A⟩:=B;obtain⟨y,t,p,T⟩:=I.list n;sleep 1;obtain⟨M,L,W,J,G,F⟩:=q j (by simp);sleep 2;have hl:=t.length;exact dJ (I.ok.hd O) f p.isList (by simp;omega) λr eb=>{rfl,I.turned (t':=s.toks) (λb o l e=>eb b o l e) M L J G F}
 self:=λ_ _ _ _ _ f h=>wpAny_pyIter_listiter f h
def D9{P:Program}{K:Fg}(a l:Addr):D8 P w K tg (Itt K a) [l] l (λi h=>h.IsTupleIter l a i) where
 mem:=by simp
 obj:=λi h f b m=>by
  have e:b=l:=by simpa using m
  subst e;obtain⟨o,e,c,d⟩:=f;exact{o,e,λv z=>by rw[d] at z;cases z}
 keep:=λi h t f k=>f.at λo e=>k l (by simp) o e
 item:=by intro X C hw D O i g s N H E I r f B;subst C hw D;obtain⟨Q,x,q,A⟩:=B;obtain⟨j,y,p,T⟩:=I.tuple q;obtain⟨u,V,S⟩:=y.get A;sleep 1;obtain⟨M,L,W,J,G,F⟩:=r l (by simp);sleep 2;refine wpAny_pyNext_tuple_item f (show s.heap.IsTuple a j.toArray from p) (x:=u) (by simpa using V) λt n R=>?_;have I1:c6 X g N H { s with heap:=t }:=I.turned (t':=s.toks) (λb o m e=>(R.2 b m).trans e) M L J G F;obtain⟨o,e,c,d⟩:=id n;exact{u,rfl,yC (s:={ s with heap:=t }) e c d (by decide) {x,H,I1,S,{rfl,λys U=>by rw[I.HZ U q];exact A},n,λb m=>(r b m).1}}
 done:=by intro X C hw D O i g s N H E I r f B;subst C hw D;obtain⟨Q,q,A⟩:=B;obtain⟨j,y,p,T⟩:=I.tuple q;sleep 1;obtain⟨M,L,W,J,G,F⟩:=r l (by simp);sleep 2;have hl:=y.length;exact wpAny_pyNext_tuple_end (I.ok.hd O) f (show s.heap.IsTuple a j.toArray from p) (by simp;omega) λt eb=>{rfl,I.turned (t':=s.toks) (λb o m e=>eb b o m e) M L J G F}
 self:=λ_ _ _ _ _ f h=>wpAny_pyIter_tupleiter f h
def Ea{P:Program}{K:Fg}(d:Addr)(j:Int)(n:Nat):D8 P w K tg (WV j n) [d] d (λi h=>IsRangeIter h d (j+(i:Nat)*1) ((n:Int) - (i:Nat)) 1) where
 mem:=by simp
 obj:=λi h a b f=>by
  have e:b=d:=by simpa using f
  subst e;exact{_,a,λv z=>by have G:Data.fields _=Data.cell v:=z;cases G}
 keep:=λi h m a k=>k d (by simp) _ a
 item:=by intro X r hw u q i c s D H E I l a p;subst r hw u;sleep 1;obtain⟨C,B,M,A,y,x⟩:=l d (by simp);sleep 2;have W:=Walks.range (prog:=X.prog) (w:=X.w) (I.ok.hd q) d j 1 n;refine W.item i s _ _ p a λv m F L g J=>?_;obtain⟨t,rfl⟩:=L;have O:c6 X c D H { s with heap:=m,toks:=F }:=I.turned (λb o f e=>J b o (by simpa using f) e) C B A y x;refine{_,rfl,yC (s:={ s with heap:=m,toks:=F }) (n:="range_iterator") g rfl rfl (by decide) {.int (j+i),H,O,{t,?_},{(rfl),rfl},g,λb f=>(l b f).1}};rw[Int.mul_one]
 done:=by intro X r hw u q i c s D H E I l a p;subst r hw u;sleep 1;obtain⟨C,B,M,A,y,x⟩:=l d (by simp);sleep 2;exact wpAny_pyNext_range_end (I.ok.hd q) a (by have:n<=i:=p;omega) λm N=>{rfl,I.turned (t':=s.toks) (λb o f e=>N b o f e) C B A y x}
 self:=λ_ _ _ _ _ a h=>wpAny_pyIter_rangeiter a h
section
def WW(K:Fg)(e:TE):TI:=λc H R=>e c H λx b=>∃a,x=.ref a/\(∃d,nE K b a d)/\R (Itl K a) b
def ZU(K:Fg)(e:TE):TI:=λc H R=>e c H λx b=>∃a,x=.ref a/\(∃d,pB K b a d)/\R (Itt K a) b
def Gf{l:Expr}{g:TE}(r:PE X l g):PI X tg l (WW X.K g):=by
 intro c s i H R I h;refine gY (@r c s i H _ I h) ?_;rintro v d ⟨x,u,f,j,k⟩;obtain⟨a,e,⟨w,n⟩,q⟩:=k;subst e;cases j;obtain⟨m,y,p,z⟩:=f.list n;refine dz p.isList ?_;refine{(zB d),[(zB d)],_,_,u,rfl,f.kept (t':=d.toks) λb o e=>ae _ e,H0 a _,{_,aF _ rfl,rfl,rfl},λb t=>?_,q};have e:b=(zB d):=by simpa using t
 subst e;exact f.D7 (aE _) (f.gR.fresh (aE _))
def JP{l:Expr}{i:TE}(r:PE X l i):PI X tg l (ZU X.K i):=by
 intro d s j H R I h;refine gY (@r d s j H _ I h) ?_;rintro v c ⟨x,u,f,k,m⟩;obtain⟨a,e,⟨w,n⟩,q⟩:=m;subst e;cases k;obtain⟨g,y,p,z⟩:=f.tuple n;refine wpAny_pyIter_tuple (show c.heap.IsTuple a g.toArray from p) ?_;refine{(zB c),[(zB c)],_,_,u,rfl,f.kept (t':=c.toks) λb o e=>ae _ e,D9 a _,{_,aF _ rfl,rfl,rfl},λb t=>?_,q};have e:b=(zB c):=by simpa using t
 subst e;exact f.D7 (aE _) (f.gR.fresh (aE _))
def JQ{R:It->Hp->Prop}{a c:Int}{t u v:Tok}{d:Nat} (I:c6 X pins σ H s) (k:-(2 ^ 62)<=a) (j:a<2 ^ 62) (i:-(2 ^ 62)<=c) (h:c<2 ^ 62)
  (q:R (WV a (c - a).toNat) H):(zw X) (pyIter (.ref (zB s))) (ZT X pins σ tg R) E { s with heap:=s.heap.push { cls:=.type "range",data:=.fields #[.int a t,.int c u,.int 1 v] },toks:=d }:=by
 refine wpAny_pyIter_range (IsRange.new ..) (small_one k j i h) ?_;have f:c6 X pins σ H { s with heap:=s.heap.push { cls:=.type "range",data:=.fields #[.int a t,.int c u,.int 1 v] },toks:=d }:=I.kept λb o e=>ae _ e;refine{(s.heap.push { cls:=.type "range",data:=.fields #[.int a t,.int c u,.int 1 v] }).objs.size,[(s.heap.push { cls:=.type "range",data:=.fields #[.int a t,.int c u,.int 1 v] }).objs.size],_,_,H,rfl,
  f.kept (t':=d) λb o e=>ae _ e,Ea _ a (c - a).toNat,?_,λb g=>?_,q}
 .have m:a+((0:Nat):Int)*1=a:=by simp
  have l:(((c - a).toNat:Nat):Int) - ((0:Nat):Int)=Builtin.Range.rangeSize a c 1:=by rw[rangeSize_one];split<;>omega
  show IsRangeIter _ _ (a+((0:Nat):Int)*1) ((((c - a).toNat:Nat):Int) - ((0:Nat):Int)) 1;rw[m,l];exact aF _ rfl
 .have e:b=(s.heap.push { cls:=.type "range",data:=.fields #[.int a t,.int c u,.int 1 v] }).objs.size:=by simpa using g
  subst e;exact f.D7 (aE _) (f.gR.fresh (aE _))
def WX(c:TA):TI:=λa H R=>c a H λb d=>∃j:Int,b=[.int j]/\-(2 ^ 62)<=j/\j<2 ^ 62/\R (WV 0 j.toNat) d
def yD{a:Expr}{d:TA}(n:Gl X "range")(m:X.mg "range"=Z)(o:PA X [a] d)(l:zr0 (starEach [a] X.env=[(false,eval a X.env)])):PI X tg (.Call (.Name "range" p) [a] [] pos) (WX d):=by
 intro b s f H R I h;refine Call_ (oh I n m boot_range (bL (gY (@o pos b s f H _ I h) ?_) l rfl));rintro w x ⟨v,y,u,i,c⟩;obtain⟨j,e,c,k,q⟩:=c;subst e;cases i with
 |cons r g=>cases g;obtain⟨t,rfl⟩:=r;exact call_range_1 (JQ u (by omega) (by omega) c k (by simpa using q))
def ZV(f:TI)(g:TG)(h:TS):TS:=λD a H=>f a H λJ k=>∃W:Nat->Nat->St->Hp->Prop,(∃m,W 0 m a k)/\∀i m a H,W i m a H ->
 (J.stop i H/\D.nx a H)\/(J.go i H/\∃N:St->Hp->Prop,(∀b c,N b c->∃e,e<m/\W (i+1) e b c)/\∀x c,J.Ui i H x c->g x a c λd j=>h { D with nx:=N,ct:=N,bk:=D.nx } d j)
def vN(a:List Addr)(h:Heap):Ax:=a.filterMap λb=>(h.get? b).map λo=>(b,o)
def oj{a:List Addr}{b:Addr}{o:Obj}(c:b∈a)(e:h.get? b=Y o):(b,o)∈vN a h:=bu.mpr {b,c,by rw[e];rfl}
def H7{a:List Addr}{p:Addr×Obj}(c:p∈vN a h):p.1∈a/\h.get? p.1=Y p.2:=by
 obtain⟨b,d,e⟩:=bu.mp c;cases q:h.get? b with
 |none=>rw[q] at e;cases e
 |some o=>rw[q] at e;have f:(b,o)=p:=bB e;subst f;exact{(d),q}
def c6.pinned{a:List Addr}(I:c6 X pins σ H s)(i:∀b∈a,o9 X pins H b)(h:∀b∈a,∃o,s.heap.get? b=Y o/\∀v,o.data≠.cell v):c6 X (pins++vN a s.heap) σ H s :=
 I.l9 λp g=>(ax.mp g).elim (λz=>I.pin p (ar _ z)) λz=>by obtain⟨c,e⟩:=H7 z;obtain⟨l,k,j,_⟩:=i p.1 c;obtain⟨o,f,d⟩:=h p.1 c;rw[e] at f;cases f;exact{(e),l,k,j,d}
def c6.pD{pl:Ax}(I:c6 X (pins++pl) σ H s):c6 X pins σ H s:=I.l9 λp a=>I.pin p (ar _ (aD _ a))
def JR{wi:TI}{g:TG}{tb:TS} (M:PassesOwn (model X.prog X.w) X.A X.env X.xe) (hc:X.calm=true) (hi:PI X tg iter wi) (hg:PG X tg g) (p:xZ X body tb)
  (hs:zr 2 (∀x,foldedSetIterable iter X.env x=pure x)):PS X (.For tg iter body [] pos) (ZV wi g tb):=by
 intro c s σ H D I h;refine wpAny_For (gY (@hi c s σ H _ I h) λv s1 h1=>gY h1 λitv s2 h2=>?_) hs;sleep 1;obtain⟨it,P,tn,J,H2,e,I2,T,S,f2,W,⟨m0,w0⟩,E⟩:=h2;sleep 2;subst e;have l:∀{z:Hp},(∀b∈P,z b=Z)->∀b∈P,o9 X c z b:=λhn b p=>{hn b p,(f2 b p).2}
 refine codeAny_forLoop_any (λn s'=>∃i k z,c6 X c k z s'/\tn i s'.heap/\(∀b∈P,z b=Z)/\W i n k z) ?_ m0 {0,σ,H2,I2,S,λb p=>(f2 b p).1,w0};rintro n s3 ⟨i,j,Q,I3,K,O,w3⟩;rcases E i n j Q w3 with ⟨F,qn⟩ | ⟨go,N,hN,G⟩
 .refine cA M (gY (T.done X rfl rfl rfl @hc i c s3 j Q X.xe I3 (l O) K F) ?_);rintro r s4 ⟨V,I4⟩;subst V;exact b5 {(j),Q,I4,qn}
 .refine cA M (gY (T.item X rfl rfl rfl @hc i c s3 j Q X.xe I3 (l O) K go) ?_);rintro r s4 ⟨u,V,h4⟩;subst V;refine cA M (gY h4 ?_);rintro _ s5 ⟨x,H5,I5,r5,y5,C,fr5⟩;have I5':=I5.pinned (l fr5) (T.obj _ _ C);refine cA M (gY (@hg _ s5 j H5 x u _ I5' r5 (G x H5 y5)) ?_);rintro _ s6 ⟨R,H6,I6,q6⟩;refine cA M (gY (@p _ s6 R H6 _ I6 q6) λf U B=>?_);have q:∀{a:St}{y:Hp},c6 X (c++vN P s5.heap) a y U->N a y->∃m,m<n/\∃i k z,c6 X c k z U/\tn i U.heap/\(∀b∈P,z b=Z)/\W i m k z:=λ{a y} t L=>by
   obtain⟨m',hm,w7⟩:=hN a y L;refine{m',hm,i+1,a,y,t.pD,T.keep _ _ _ C λb p o e=>(t.pin (b,o) (ar _ (ar _ (oj p e)))).1,λb p=>?_,w7};obtain⟨o,e,d⟩:=T.obj _ _ C b p;exact(t.pin (b,o) (ar _ (ar _ (oj p e)))).2.1
  cases f with
  |next=>obtain⟨a,y,t,L⟩:=B;exact q t L
  |cont=>obtain⟨a,y,t,L⟩:=B;exact q t L
  |brk=>obtain⟨a,y,t,B⟩:=B;exact{a,y,t.pD,B}
  |ret v=>sleep 1;obtain⟨x7,a,y,t,r7,B⟩:=B;sleep 2;exact{x7,a,y,t.pD,r7,B}
end
abbrev R2:=V->V->Hp->VK->Prop
def kI(X:Cx)(f:Value->Value->Sem Value)(r:R2):Prop :=
 ∀(a:Ax) (s:Shared) (σ:St) (H:Hp) (x y:V) (v u:Value) (Q:VK),c6 X a σ H s->fT x v->fT y u->r x y H Q ->
  (zw X) (f v u) (EP X a σ Q) X.xe s
def ZW(X:Cx)(f:Value->Sem Value)(r:V->Hp->VK->Prop):Prop :=
 ∀(a:Ax) (s:Shared) (σ:St) (H:Hp) (x:V) (v:Value) (Q:VK),c6 X a σ H s->fT x v->r x H Q ->
  (zw X) (f v) (EP X a σ Q) X.xe s
def jb(X:Cx)(f:Value)(r:List V->Hp->VK->Prop):Prop :=
 ∀(a:Ax) (s:Shared) (σ:St) (H:Hp) (xs:List V) (us:Lw) (Q:VK),c6 X a σ H s->fK xs us->r xs H Q ->
  (zw X) (call f us) (EP X a σ Q) X.xe s
def ZX(X:Cx)(r:V->Hp->(Bool->Hp->Prop)->Prop):Prop :=
 ∀(a:Ax) (s:Shared) (σ:St) (H:Hp) (x:V) (v:Value) (Q:Bool->Hp->Prop),c6 X a σ H s->fT x v->r x H Q ->
  (zw X) (truthy v) (TP X a σ Q) X.xe s
def WY(r:R2)(c b:TE):TE:=λa H Q=>c a H λx e=>b a e λy d=>r x y d Q
def tUn(r:V->Hp->VK->Prop)(b:TE):TE:=λa H Q=>b a H λx c=>r x c Q
def rI(C:Int->Int->Prop)(g:Int->Int->V):R2:=λx y H Q=>∃i j,x=.int i/\y=.int j/\C i j/\Q (g i j) H
def OJ(g:Int->Int->V):R2:=λx y H Q=>∃i j,x=.int i/\y=.int j/\Q (g i j) H
def rU(g:Int->V):V->Hp->VK->Prop:=λx H Q=>∃i,x=.int i/\Q (g i) H
section
variable {a c:Expr}{ta tb tc:TE}
def Uj(l:PE X a ta) (k:PE X b tb) {R:V->V->Hp->Prop} (I:c6 X pins σ H s)
  (h:ta σ H λx H1=>tb σ H1 λy H2=>R x y H2) {Q:Px}{f:Value->Value->Sem Value}
  (j:∀v u s2 x y H2,c6 X pins σ H2 s2->fT x v->fT y u->R x y H2->(zw X) (f v u) Q X.xe s2):
  (zw X) (eval a X.env) (λv s₁=>(zw X) (eval b X.env) (λu pE=>(zw X) (f v u) Q X.xe pE) X.xe s₁) X.xe s:=by
 refine gY (@l pins s σ H _ I h) ?_;rintro v c ⟨x,H1,n,e,i⟩;refine gY (@k pins c σ H1 _ n i) ?_;rintro u s2 ⟨y,H2,m,d,g⟩;exact j v u s2 x y H2 m e d g
def JS{d:Operator}{r:R2}(i:kI X (binaryOp d) r)(k:PE X a ta)(j:PE X b tb):PE X (.BinOp a d b pos) (WY r ta tb):=by intro c s e H Q I h;exact wpAny_BinOp (Uj k j I h λv u s2 x y m l g f q=>@i c s2 e m x y v u Q l g f q)
def WZ{d:UnaryOp}{r:V->Hp->VK->Prop}(i:ZW X (unaryOp d) r)(j:PE X a ta):PE X (.UnaryOp d a pos) (tUn r ta):=by intro b s c H Q I h;exact UnaryOp_ (gY (@j b s c H _ I h) <| by rintro v e ⟨x,l,k,f,g⟩;exact @i b e c l x v Q k f g)
def ZY{f:Value->Value->Sem Value}{C:Int->Int->Prop}{g:Int->Int->Int}
  (a:∀(i j:Int) (t u:Tok) (s:Shared) (Q:Px) (E:Px),C i j->Q (.int (g i j) s.toks) { s with toks:=s.toks+1 }->(zw X) (f (.int i t) (.int j u)) Q E s):
  kI X f (rI C λi j=>.int (g i j)):=by
 intro b s l H x y v u Q I e d h;sleep 1;obtain⟨i,j,rfl,rfl,k,q⟩:=h;sleep 2;obtain⟨t,rfl⟩:=e;obtain⟨c,rfl⟩:=d;exact a i j t c s _ _ k {.int (g i j),H,I.tok _,{_,rfl},q}
def W0{f:Value->Value->Sem Value}{g:Int->Int->Int}
  (a:∀(i j:Int) (t u:Tok) (s:Shared) (Q:Px) (E:Px),Q (.int (g i j) s.toks) { s with toks:=s.toks+1 }->(zw X) (f (.int i t) (.int j u)) Q E s):
  kI X f (OJ λi j=>.int (g i j)):=by
 intro b s k H x y v u Q I e d h;obtain⟨i,j,rfl,rfl,q⟩:=h;obtain⟨t,rfl⟩:=e;obtain⟨c,rfl⟩:=d;exact a i j t c s _ _ {.int (g i j),H,I.tok _,{_,rfl},q}
def O1{f:Value->Value->Sem Value}{g:Int->Int->Bool}
  (a:∀(i j:Int) (t u:Tok) (s:Shared) (Q:Px) (E:Px),Q (.bool (g i j)) s->(zw X) (f (.int i t) (.int j u)) Q E s):
  kI X f (OJ λi j=>.bl (g i j)):=by
 intro b s k H x y v u Q I e d h;obtain⟨i,j,rfl,rfl,q⟩:=h;obtain⟨t,rfl⟩:=e;obtain⟨c,rfl⟩:=d;exact a i j t c s _ _ {.bl (g i j),H,I,rfl,q}
def W2(i j:Int):Prop:=0<j/\j<1073741824
def Uk:kI X (binaryOp .Add) (OJ λi j=>.int (i+j)):=W0 λ_ _ _ _ _ _ _ q=>add_int q
def Ul:kI X (binaryOp .Sub) (OJ λi j=>.int (i - j)):=W0 λ_ _ _ _ _ _ _ q=>sub_int q
def O2:kI X (binaryOp .FloorDiv) (rI W2 λi j=>.int (i / j)):=ZY λi j _ _ _ _ _ a q=>by have c:(0:Int)<j:=a.1;have b:j<1073741824:=a.2;exact floordiv_int (by omega) (by rw[Int.fdiv_eq_ediv_of_nonneg i (by omega)];exact q) (.inl (PyProof.noPylong_small (by omega)))
def Um:kI X (binaryOp .Mod) (rI (λ_ j=>0<j) λi j=>.int (i % j)):=ZY λi j _ _ _ _ _ a q=>by have b:(0:Int)<j:=a;exact mod_int' (by omega) (by rw[Int.fmod_eq_emod_of_nonneg i (by omega)];exact q)
def unI{f:Value->Sem Value}{g:Int->Int}
  (a:∀(i:Int) (t:Tok) (s:Shared) (Q:Px) (E:Px),Q (.int (g i) s.toks) { s with toks:=s.toks+1 }->(zw X) (f (.int i t)) Q E s):
  ZW X f (rU λi=>.int (g i)):=by
 intro b s d H x v Q I c h;obtain⟨i,rfl,q⟩:=h;obtain⟨t,rfl⟩:=c;exact a i t s _ _ {.int (g i),H,I.tok _,{_,rfl},q}
def Uo:ZW X (unaryOp .USub) (rU λi=>.int (-i)):=unI λ_ _ _ _ _ q=>neg_int q
end
section
variable {a c:Expr}{ta tb tc:TE}
def vO{Q:VK}{k a:Bool}(I:c6 X pins σ H s)(q:Q (.bl k) H)(e:k=a):EP X pins σ Q (.bool a) s:=by subst e;exact{.bl k,H,I,rfl,q}
def W3:kI X (compareOp .Lt) (OJ λi j=>.bl (decide (i<j))):=O1 λ_ _ _ _ _ _ _ q=>lt_int q
def W4:kI X (compareOp .LtE) (OJ λi j=>.bl (decide (i<=j))):=O1 λ_ _ _ _ _ _ _ q=>le_int q
def W5:kI X (compareOp .Gt) (OJ λi j=>.bl (decide (j<i))):=O1 λ_ _ _ _ _ _ _ q=>gt_int q
def W6:kI X (compareOp .GtE) (OJ λi j=>.bl (decide (j<=i))):=O1 λ_ _ _ _ _ _ _ q=>ge_int q
def Ia:kI X (compareOp .In) (λx y H Q=>∃i j,x=.str i/\y=.str j/\Q (.bl (!(Builtin.Str.occurrences j i 0 j.length 1).isEmpty)) H):=by intro a s d H x y v u Q I c b h;obtain⟨i,j,rfl,rfl,q⟩:=h;obtain⟨t,rfl⟩:=c;obtain⟨e,rfl⟩:=b;exact in_str (vO I q rfl)
def Up:kI X (compareOp .Is) (λx y H Q=>y=.kn/\Q (.bl (decide (x=.kn))) H):=by
 intro b s d H x y v u Q I a c h;obtain⟨rfl,q⟩:=h;cases c;refine is_none_gen (vO I q ?_);cases x<;>first
  | (cases a;rfl)
  | (obtain⟨t,rfl⟩:=a;rfl)
def O3:kI X (compareOp .IsNot) (λx y H Q=>y=.kn/\Q (.bl (!decide (x=.kn))) H):=by
 intro b s d H x y v u Q I a c h;obtain⟨rfl,q⟩:=h;cases c;refine isnot_none_gen (vO I q ?_);cases x<;>first
  | (cases a;rfl)
  | (obtain⟨t,rfl⟩:=a;rfl)
def Ab:kI X (compareOp .NotIn) (λx y H Q=>∃i j,x=.str i/\y=.str j/\Q (.bl (!(!(Builtin.Str.occurrences j i 0 j.length 1).isEmpty))) H):=by intro a s d H x y v u Q I c b h;obtain⟨i,j,rfl,rfl,q⟩:=h;obtain⟨t,rfl⟩:=c;obtain⟨e,rfl⟩:=b;exact notIn_str (vO I q rfl)
def kI.or{f:Value->Value->Sem Value}{r e:R2}(h:kI X f r)(g:kI X f e):kI X f (λx y H Q=>r x y H Q\/e x y H Q):=by
 intro a s b H x y v u Q I d c q;rcases q with q|q
 .exact @h a s b H x y v u Q I d c q
 .exact @g a s b H x y v u Q I d c q
def JT(b:Expr){a:CmpOp}(h:zd0 (a≠.In))(c:zd0 (a≠.NotIn)):behindInMarks a b=false:=by
 have e:(a==CmpOp.In)=false:=by cases a<;>first|rfl|exact absurd rfl h
 have d:(a==CmpOp.NotIn)=false:=by cases a<;>first|rfl|exact absurd rfl c
 cases b<;>simp[behindInMarks,e,d]
def O4{d:CmpOp}{r:R2}(i:kI X (compareOp d) r)(l:PE X a ta)(k:PE X b tb)(j:behindInMarks d b=false):PE X (.Compare a [d] [b] pos) (WY r ta tb):=by intro c s e H Q I h;exact wpAny_Compare1 (Uj l k I h λv u s2 x y n m g f q=>@i c s2 e n x y v u Q m g f q) j
def Sn(t:TE):TT:=λa H Q=>t a H λx b=>∃k,x=.bl k/\Q k b
def Gg{g:CmpOp}{r:R2}(t:kI X (compareOp g) r)(B:PE X a ta)(A:PE X b tb)(w:behindInMarks g b=false):PT X (.Compare a [g] [b] pos) (Sn (WY r ta tb)):=by
 intro d s f H Q I h;refine wpAny_isTrue_Compare1 (gY (@B d s f H _ I h) λv j ⟨x,J,E,n,q⟩=>gY (@A d j f J _ E q) λu i ⟨y,G,D,m,p⟩=>
  gY (@t d i f G x y v u _ D n m p) λc K ⟨z,F,C,l,k,e,o⟩=>?_) w
 subst e;cases l;exact cg {(F),C,o}
def JU(r g:R2)(f e d:TE):TE:=λa H Q=>f a H λx j=>e a j λy i=>r x y i λz b=>∃k,z=.bl k /\
 (if k=true then d a b λc h=>g y c h Q else Q (.bl false) b)
def JV{j g:CmpOp}{r n:R2} (M:kI X (compareOp j) r) (l:kI X (compareOp g) n) (R:PE X a ta) (P:PE X b tb) (O:PE X c tc)
  (N:zr 7 (lastMarks [j,g] [b,c]=false)):PE X (.Compare a [j,g] [b,c] pos) (JU r n ta tb tc):=by
 intro f s i H Q I h;refine Compare_chain (gY (@R f s i H _ I h) λv D ⟨x,H1,U,G,L⟩=>chain_link (gY (@P f D i H1 _ U L) λu C ⟨y,W,T,m,K⟩=>
  gY (@M f C i W x y v u _ T G m K) λd B ⟨z,q,p,F,k,e,o⟩=>?_)) N
 subst e;cases F;refine cg ?_;cases k with
 |false=>exact ite_ff {.bl false,q,p,rfl,o}
 |true=>exact ite_tt (chain_last (gY (@O f B i q _ p o) <| by rintro w A ⟨t,V,S,E,J⟩;exact @l f A i V y t u w Q S m E J))
def JW{j g:CmpOp}{r n:R2} (P:kI X (compareOp j) r) (l:kI X (compareOp g) n) (U:PE X a ta) (T:PE X b tb) (S:PE X c tc)
  (R:zr 7 (lastMarks [j,g] [b,c]=false)):PT X (.Compare a [j,g] [b,c] pos) (Sn (JU r n ta tb tc)):=by
 intro f s i H Q I h;refine isTrue_chain (gY (@U f s i H _ I h) λv D ⟨x,H1,I1,J,N⟩=>test_link (gY (@T f D i H1 _ I1 N) λu C ⟨y,H2,I2,m,M⟩=>
  gY (@P f C i H2 x y v u _ I2 J m M) λd B ⟨z,q,p,G,k,e,o⟩=>?_)) R
 subst e;cases G;refine cg ?_;cases k with
 |false=>obtain⟨k',W,O⟩:=o;cases W;exact ite_ff {(q),p,O}
 |true=>refine ite_tt (test_last (gY (@S f B i q _ p o) ?_));rintro w A ⟨t,H4,I4,F,L⟩;refine gY (@l f A i H4 y t u w _ I4 m F L) ?_;rintro d' s5 ⟨z2,H5,I5,E,k2,V,K⟩;subst V;cases E;exact cg {(H5),I5,K}
def Uq(K:Fg)(x:V)(H:Hp)(k:Bool):Prop :=
 match x with
 |.kn=>k=false
 |.bl b=>k=b
 |.int i=>k=(i != 0)
 |.str y=>y.length<=sizeLine/\k=((y.length:Int) != 0)
 |.Wu y=>y.size<=sizeLine/\k=((y.size:Int) != 0)
 |.ref p=>(∃a,nE K H p a/\k=!a.isEmpty)\/(∃a,pB K H p a/\k=!a.isEmpty)\/∃c,Rd H p (.dK c)/\k=!c.isEmpty
 |_=>False
def Eb{b:Type}{a:List (b×V)}{c:List (b×Value)}(r:KV a c):(!c.isEmpty)=!a.isEmpty:=by cases r<;>rfl
def vP{b:List V}{a:Lw}(r:fK b a):(!a.toArray.isEmpty)=!b.isEmpty:=by cases r<;>simp
def q5:(sizeLine:Nat)<2 ^ 63:=by rw[sizeLine_eq];decide
def Ur:ZX X (λx H Q=>∃k,Uq X.K x H k/\Q k H):=by
 intro u s C H x v Q I g h;obtain⟨k,e,q⟩:=h;have E:=q5;have D:sizeLine=16777216:=sizeLine_eq;cases x with
 |kn=>cases g;have a:k=false:=e;subst a;exact truthy_none {(H),I,q}
 |bl b=>cases g;have a:k=b:=e;subst a;exact cg {(H),I,q}
 |int i=>obtain⟨t,rfl⟩:=g;have a:k=(i != 0):=e;subst a;exact PySem.P.truthy_int {(H),I,q}
 |str y=>obtain⟨t,rfl⟩:=g;obtain⟨A,a⟩:y.length<=sizeLine/\k=((y.length:Int) != 0):=e;subst a;exact PySem.P.truthy_str (by omega) {H,I.tok _,q}
 |Wu y=>obtain⟨t,rfl⟩:=g;obtain⟨A,a⟩:y.size<=sizeLine/\k=((y.size:Int) != 0):=e;subst a;exact W.truthy_bytes (by omega) {H,I.tok _,q}
 |ref p=>
  cases g;have a:(∃f,nE X.K H p f/\k=!f.isEmpty)\/(∃f,pB X.K H p f/\k=!f.isEmpty)\/∃c,Rd H p (.dK c)/\k=!c.isEmpty:=e;rcases a with ⟨f,j,a⟩ | ⟨f,j,a⟩ | ⟨c,j,a⟩
  .subst a;obtain⟨o,r,n,z⟩:=I.list j;have d:=r.length;exact wpAny_truthy_list n.isList (by simp only[aA];omega) {H,I.tok _,by rw[vP r];exact q}
  .subst a;obtain⟨o,r,n,z⟩:=I.tuple j;have d:=r.length;exact truthy_tuple n (by simp only[aA];omega) {H,I.tok _,by rw[vP r];exact q}
  .subst a;obtain⟨z,B,l,r,m⟩:c.length<=sizeLine/\(p==sysModules)=false/\∃l,KV c l/\s.heap.DictOf (gp X.prog X.w) p l:=j.ok I.gR;have d:c.length=l.length:=cS r;exact wpAny_truthy_dict B m (by omega) {H,I.tok _,by rw[Eb r];exact q}
 |_=>exact(show False from e).elim
def BX(i:PE X a ta)(g:∀whole,isTrue a X.env whole=(do let v <-whole;standAt a.pos;holding [v] (truthy v))):
  PT X a (λσ H Q=>ta σ H λx c=>∃k,Uq X.K x c k/\Q k c):=by
 intro b s σ H Q I h;exact isTrue_plain (gY (@i b s σ H _ I h) <| by rintro v d ⟨x,l,j,e,f⟩;exact Ur b d σ l x v Q j e f) (g _)
def Ec:kI X (binaryOp .Add) (λx y H Q=>∃i j,x=.str i/\y=.str j/\i.length+j.length<=sizeLine/\Q (.str (i++j)) H):=by intro a s f H x y v u Q I d c h;sleep 1;obtain⟨i,j,rfl,rfl,e,q⟩:=h;sleep 2;obtain⟨t,rfl⟩:=d;obtain⟨b,rfl⟩:=c;exact add_str (λb tk=>{.str (i++j),H,I.tok _,{_,rfl},q}) e
def rN{x:V}{a:Lw}(r:fK [x] a):∃u,a=[u]/\fT x u:=by
 cases r with
 |cons c b=>cases b;exact{_,rfl,c}
def W7{x y:V}{b:Lw}(r:fK [x,y] b):∃u a,b=[u,a]/\fT x u/\fT y a:=by
 cases r with
 |cons f e=>
  cases e with
  |cons d c=>cases c;exact{_,_,rfl,f,d}
def Ib:jb X (.type "int") (λxs H Q=>(∃i,xs=[.int i]/\Q (.int i) H)\/∃k,xs=[.bl k]/\Q (.int (if k then 1 else 0)) H):=by
 intro a s c H xs d Q I r h;rcases h with ⟨i,rfl,q⟩ | ⟨k,rfl,q⟩
 .obtain⟨u,rfl,t,rfl⟩:=rN r;exact call_int_int {.int i,H,I,{_,rfl},q}
 .obtain⟨u,rfl,b⟩:=rN r;cases b;exact call_int_bool {.int (if k then 1 else 0),H,I.tok _,{_,rfl},q}
end
structure Ed (h:Heap) (x dx C:Addr) (mA:Str->Ow):Prop where
 obj:h.get? x=Y (W.instObj C dx)
 ns:h.Ns1 dx mA
 ne:dx≠x
def Ic{i:Addr}{f:Str->Ow}(n:h.Ns1 i f):∃d,h.get? i=Y d/\∀b,W.lookIn b d=Y (f b):=by
 sleep 1;obtain⟨o,g,s,k,p,m,_,l⟩:=n;sleep 2;refine{o,k,λb=>?_};have e:=l b;unfold nsFind findBy at e;rw[<-Array.find?_toList] at e;unfold W.lookIn;rw[p];dsimp only;split
 .rename_i y q;rw[q] at e;exact bJ Y e
 .rename_i q;rw[q] at e;have a:g.toList.any (·.refKey)=false:=by
   rw[List.any_eq_false];intro y j;obtain⟨z,t,c⟩:=m y (Array.mem_toList_iff.mp j);simp[DictEntry.refKey,c]
  have r:¬ g.toList.any (·.refKey)=true:=by rw[a];exact aS
  rw[aq r];exact bJ Y e
def Ed.look{x d:Addr}{c:Str->Ow}(I:Ed h x d C c):∃b,W.InstAt h x (W.instObj C d) C (Y b)/\∀a,W.lookIn a b=Y (c a) :=
 let ⟨b,e,f⟩:=Ic I.ns
 {b,{I.obj,rfl,rfl,e},f}
section
variable {prog:Program}{K:Fg}{x dx f:Addr}{mA:Str->Ow}{name:Str}{v:Value}
def O5{a:Bool}{Q:Px} (X:K.In s.heap) (I:Ed s.heap x dx C mA) (f:W.plainGet K C name=true) (e:W.hasDictIn K C=true)
  (g:W.findIn K (.ref C) name=Y Z) (c:mA name=Y v) (b:W.handedIn v=true) (h:Q v { s with toks:=s.toks+1 }):
  wpAny (model prog w) A (getAttr (.ref x) name a) Q E s:=by
 obtain⟨i,J,d⟩:=I.look;exact W.get_value X J (W.plainGet_of f).1 (W.findObj_own e g rfl (by rw[d,c])) b h
def JX{b:Sem Bool}{Q:Value×Lw->Shared->Prop} (X:K.In s.heap) (I:Ed s.heap x dx C mA) (a:W.plainGet K C name=true)
  (i:W.findIn K (.ref C) name=Y (Y (.ref f))) (e:W.isFn K (.ref f)=true) (d:mA name=Z) (h:Q (.ref f,[.ref x]) s):
  wpAny (model prog w) A (getMethod (.ref x) name b) Q E s:=by
 obtain⟨c,J,g⟩:=I.look;exact W.method_fn X J (W.plainGet_of a).1 (W.plainGet_of a).2 i (bF.mp e) (by show (W.lookIn name c).map (·.isSome)=Y false;rw[g,d];rfl) h
def O6{j:Lr}{Q:Unit->Shared->Prop} (X:K.In s.heap) (I:Ed s.heap x dx C mA)
  (n:W.findIn K (.ref C) "__setattr__"=Y (Y (.builtin "object.__setattr__"))) (o:W.plainOver K C=true) (l:W.takerIn K C name=Y Z) (p:W.hasDictIn K C=true)
  (hw:PySem.Within mA j) (m:j.length<=sizeLine)
  (h:∀h',Ed h' x dx C (λy=>if y=name then Y v else mA y)->Heap.SameBut dx s.heap h'->Q () { s with heap:=h',toks:=s.toks+2 }):
  wpAny (model prog w) A (setAttr (.ref x) name v) Q E s:=by
 obtain⟨z,J,D⟩:=I.look;refine W.set_plain X J n (W.osa_open (s:={ s with toks:=s.toks+1 }) (r:=Z) X J o l λb=>?_);obtain⟨F,q,g⟩:=W.any_some p;have k:s.heap.get? x=Y {.ref C,Y dx,.plain,#[]}:=I.obj;refine aa (ao (aa (aa (wpAny_loadPart k (aa (W.Looks.here (s:={ s with toks:=s.toks+1 }) (W.looks_clsIn X q) ?_))))));rw[g];refine ao (a:=Y dx) (aa (ao (aa ?_)));refine wpAny_nsSet1 (s:={ s with toks:=s.toks+1 }) I.ns λh' d c=>?_;sleep 1;obtain⟨B,t,u,e,f,i⟩:=d.count (PySem.Within.cons name v hw);sleep 2;refine aa (wpAny_lookBehind e (by rw[f];exact pastItsLine_dict (bx i (by rw[ay];omega))) ?_);exact ao (h _ {(c.2 _ (Ne.symm I.ne)).trans I.obj,d,I.ne} c)
def JY{a:Lw}{b:List (Str×Value)} (X:K.In s.heap) (c:W.makesIn K C=true)
  (e:W.findIn K (.ref C) "__init__"=Y (Y (.ref f))) (i:W.typeIn K (.ref f)=Y (.type "function"))
  (h:codeAny (model prog w) (A.under (.builtin "type.__call__" {.ref C::a,b})) (.call (.ref f) {.ref ((zB s)+1)::a,b}) (W.InitBack ((zB s)+1) R)
   { s with heap:=(s.heap.push W.emptyDict).push (W.instObj C (zB s)) }):
  codeAny (model prog w) A (.call (.ref C) {(a),b}) R s:=by
 obtain⟨k,g,d,t,j⟩:=s;exact W.make_core (W.makes_of X c) (W.looks_findIn X e) (λself=>W.bind_fn X self i) (.inl rfl) h
end
def mw(f:Str)(v:V):List (Str×V)->List (Str×V)
 |[]=>[(f,v)]
 | (g,x)::r=>if g=f then (g,v)::r else (g,x)::mw f v r
theorem uu(f g:Str)(v:V):∀c:List (Str×V),(mw f v c).lookup g=if g=f then Y v else c.lookup g
 |[]=>by
  show List.lookup g [(f,v)]=_;by_cases h:g=f
  .have a:(g==f)=true:=bF.mpr h;simp only[List.lookup,a,ah h]
  .have a:(g==f)=false:=aT.mpr h;simp only[List.lookup,a,aq h]
 | (k,x)::r=>by
  have d:=uu f g v r;rw[show mw f v ((k,x)::r)=(if k=f then (k,v)::r else (k,x)::mw f v r) from rfl];by_cases b:k=f
  .rw[ah b];by_cases h:g=k
   .have a:(g==k)=true:=bF.mpr h;simp only[List.lookup,a,ah (h.trans b)]
   .have a:(g==k)=false:=aT.mpr h;simp only[List.lookup,a,aq (λe:g=f=>h (e.trans b.symm))]
  .rw[aq b];by_cases h:g=k
   .have a:(g==k)=true:=bF.mpr h;simp only[List.lookup,a,aq (λe:g=f=>b (h.symm.trans e))]
   .have a:(g==k)=false:=aT.mpr h;simp only[List.lookup,a];exact d
theorem tm(f:Str)(v:V):∀b:List (Str×V),f∈(mw f v b).map (·.1)/\∀g,g∈b.map (·.1)->g∈(mw f v b).map (·.1)
 |[]=>{by simp[mw],λg h=>by simp at h}
 | (k,x)::r=>by
  obtain⟨d,c⟩:=tm f v r;rw[show mw f v ((k,x)::r)=(if k=f then (k,v)::r else (k,x)::mw f v r) from rfl];by_cases a:k=f
  .rw[ah a];subst a;exact{by simp,λg h=>by simpa using h}
  .rw[aq a];refine{?_,λg h=>?_}
   .rw[af];exact ai _ d
   .rw[af] at h ⊢;rcases ag.mp h with e|e
    .exact ag.mpr (.inl e)
    .exact ai _ (c g e)
theorem uv(f:Str)(v:V):∀b:List (Str×V),(mw f v b).length<=b.length+1
 |[]=>by simp[mw]
 | (k,x)::r=>by
  have c:=uv f v r;rw[show mw f v ((k,x)::r)=(if k=f then (k,v)::r else (k,x)::mw f v r) from rfl];by_cases a:k=f
  .rw[ah a,ay,ay];omega
  .rw[aq a,ay,ay];omega
def o6.some_of{o:Ow}(r:o6 (Y v) o):∃u,o=Y u/\fT v u:=by
 cases o with
 |none=>exact(show False from r).elim
 |some u=>exact{(u),rfl,r}
def o6.none_of{o:Ow}(r:o6 Z o):o=Z:=by
 cases o with
 |none=>rfl
 |some u=>exact(show False from r).elim
def Ie(r:fT v u):W.handedIn u=true:=by
 cases v with
 |kn=>cases (show u=Value.none from r);rfl
 |bl b=>cases (show u=Value.bool b from r);rfl
 |int i=>obtain⟨t,e⟩:=(show ∃t,u=Value.int i t from r);cases e;rfl
 |str x=>obtain⟨t,e⟩:=(show ∃t,u=Value.str x t from r);cases e;rfl
 |Wu b=>obtain⟨t,e⟩:=(show ∃t,u=Value.bytes b t from r);cases e;rfl
 |Y9 b=>obtain⟨t,e⟩:=(show ∃t,u=Value.float b t from r);cases e;rfl
 |ref a=>cases (show u=Value.ref a from r);rfl
 |ty n=>cases (show u=Value.type n from r);rfl
section
variable {P:Program}{dx:Addr}{fs fs':List (Str×V)}
def Ac(c:nS P w H h)(e:H a=Y (.ins C dx fs)):∃b,Ed h a dx C b/\(∀f,o6 (fs.lookup f) (b f))/\PySem.Within b (fs.map (·.1))/\fs.length<=1000/\H dx=Y (.own a):=by
 sleep 1;obtain⟨d,z,i,g,b,n,r,q⟩:=(show ia P w H h a (.ins C dx fs) from c a _ e);sleep 2
 exact{b,{(g),n,i},r,q,z,d}
end
structure Ig (K:Fg) (C:Addr):Prop where
 pg:W.plainGet K C Str.empty=true
 hd:W.hasDictIn K C=true
 po:W.plainOver K C=true
 sa:W.findIn K (.ref C) "__setattr__"=Y (Y (.builtin "object.__setattr__"))
def Ig.get{K:Fg}(c:Ig K C)(f:Str):W.plainGet K C f=true:=c.pg
def q7(K:Fg)(C:Addr)(f:Str):Prop:=W.findIn K (.ref C) f=Y Z
def q7.W8{K:Fg}{f:Str}(n:q7 K C f):W.takerIn K C f=Y Z:=by unfold W.takerIn;rw[show W.findIn K (.ref C) f=Y Z from n];rfl
structure Ih (K:Fg) (C:Addr) (m:Str) (f:Addr):Prop where
 at_:W.findIn K (.ref C) m=Y (Y (.ref f))
 fn:W.isFn K (.ref f)=true
 kp:W.keepIn K (.ref f)=true
section
variable {dx:Addr}{fs:List (Str×V)}{f:Str}
def Ee{b:Bool}{Q:Px} (I:c6 X pins σ H s) (e:H a=Y (.ins C dx fs)) (c:Ig X.K C) (n:q7 X.K C f) (l:fs.lookup f=Y v)
  (h:∀u s',c6 X pins σ H s'->fT v u->Q u s'):wpAny (model X.prog X.w) A (getAttr (.ref a) f b) Q E s:=by
 sleep 1;obtain⟨g,O,r,_,_,_⟩:=Ac I.gR e;sleep 2;obtain⟨u,i,d⟩:=o6.some_of (v:=v) (o:=g f) (by rw[<-l];exact r f);exact O5 I.og O (c.get f) c.hd n i (Ie d) (h u _ (I.tok _) d)
def vQ{m:Str}{g:Addr}{pl:Sem Bool}{Q:Value×Lw->Shared->Prop} (I:c6 X pins σ H s) (e:H a=Y (.ins C dx fs)) (c:Ig X.K C) (k:Ih X.K C m g) (l:fs.lookup m=Z)
  (h:Q (.ref g,[.ref a]) s):wpAny (model X.prog X.w) A (getMethod (.ref a) m pl) Q E s:=by
 sleep 1;obtain⟨b,O,r,_,_,_⟩:=Ac I.gR e;sleep 2;have d:b m=Z:=o6.none_of (by rw[<-l];exact r m);exact JX I.og O (c.get m) k.at_ k.fn d h
def Ef{y:V}{Q:Unit->Shared->Prop} (I:c6 X pins σ H s) (e:H a=Y (.ins C dx fs)) (c:Ig X.K C) (n:q7 X.K C f) (F:fs.length<1000) (m:fT y u)
  (h:∀s',c6 X pins σ (upd H a (.ins C dx (mw f y fs))) s'->Q () s'):wpAny (model X.prog X.w) A (setAttr (.ref a) f u) Q E s:=by
 sleep 1;obtain⟨j,O,r,i,_,k⟩:=Ac I.gR e;sleep 2;have p:(fs.map (·.1)).length<=sizeLine:=by rw[aj,sizeLine_eq];omega
 refine O6 I.og O c.sa c.po n.W8 c.hd i p λB d l=>h _ ?_;have v:∃o,B.get? dx=Y o:=by obtain⟨o,_,_,D,_⟩:=d.ns;exact{(o),D}
 refine I.write (x:=a) (e:=dx) (by rw[e];exact aZ) (.inr k) (λb q hb z=>(l.2 b hb).trans z) v ?_;refine{by rw[cp O.ne];exact k,?_,O.ne,d.obj,_,d.ns,λg=>?_,λg t=>?_}
 .have:=uv f y fs;omega
 .show o6 ((mw f y fs).lookup g) (if g=f then Y u else j g);rw[uu];by_cases q:g=f
  .rw[ah q,ah q];exact m
  .rw[aq q,aq q];exact r g
 .by_cases q:g=f
  .rw[q];exact(tm f y fs).1
  .refine(tm f y fs).2 g (i g λz=>t ?_);show (if g=f then Y u else j g)=Z;rw[aq q];exact z
def c6.made(I:c6 X pins σ H s):c6 X pins σ (upd (upd H (zB s) (.own ((zB s)+1))) ((zB s)+1) (.ins C (zB s) []))
  { s with heap:=(s.heap.push W.emptyDict).push (W.instObj C (zB s)) }:=by
 have d:(s.heap.push W.emptyDict).get? (zB s)=Y W.emptyDict:=aF s.heap rfl;have h:((s.heap.push W.emptyDict).push (W.instObj C (zB s))).get? ((zB s)+1)=Y (W.instObj C (zB s)):=by have:=aF (s.heap.push W.emptyDict) (o:=W.instObj C (zB s)) rfl;rwa[eP] at this
 have g:(s.heap.push W.emptyDict).Ns (zB s) (λ_=>Z):={W.emptyDict,#[],_,d,rfl,(λe he=>absurd he (by simp)),λ_=>rfl}
 have i:=I.laid (a:=(zB s)) (o:=.own ((zB s)+1)) (h':=s.heap.push W.emptyDict) (t':=s.toks) (λb u q=>ae _ q) (aE _) {_,d};refine i.laid (a:=(zB s)+1) (o:=.ins C (zB s) []) (t':=s.toks) (λb u q=>ae _ q) (Nat.le_of_eq (eP _ _)) ?_;have c:(zB s)≠(zB s)+1:=aO (dN _);refine{by rw[cp c,da],dq _,c,h,λ_=>Z,(Heap.Ns1.of_empty g).at λo q=>ae _ q,λ_=>aZ,λy f=>absurd rfl f}
def Gh{a:Program}{b:Env}{Q:Px} (c:attributeBase e f b (eval e b)=eval e b)
  (h:wpAny (model a w) A (eval e b) (λo s₁=>wpAny (model a w) A (getAttr o f true) Q E s₁) E s):wpAny (model a w) A (eval (.Attribute e f pos) b) Q E s :=
 Attribute_any_ h (by rw[arm_eval_Attribute,c])
end
def ZZ(K:Fg)(e:TE)(f:Str):TE:=λd H Q=>e d H λx c=>∃a C g b v,x=.ref a/\c a=Y (.ins C g b)/\Ig K C/\q7 K C f/\b.lookup f=Y v/\Q v c
def Z0(K:Fg)(h g:TE)(f:Str):TS:=λD b H=>g b H λy i=>h b i λx e=>∃a C d c,x=.ref a/\e a=Y (.ins C d c)/\Ig K C/\q7 K C f/\c.length<1000 /\
 D.nx b (upd e a (.ins C d (mw f y c)))
section
variable {o value:Expr}{f:Str}{pos' Z1:Pos}{ta tv:TE}
def JZ(j:PE X e ta)(k:attributeBase e f X.env (eval e X.env)=eval e X.env):PE X (.Attribute e f pos) (ZZ X.K ta f):=by intro b s d H Q I h;refine Gh k (gY (@j b s d H _ I h) ?_);rintro u z ⟨x,t,r,g,a,C,B,A,v,m,o,c,n,l,q⟩;subst m;obtain rfl:u=Value.ref a:=g;exact Ee r o c n l λw y p i=>{(v),t,p,i,q}
def J0(r:PE X o ta)(m:PE X value tv)(p:swapsWith value (Y (.Attribute o f pos')) pos.line X.env=pure false):PS X (.Assign [.Attribute o f pos'] value pos) (Z0 X.K ta tv f):=by intro b s d H D I h;refine plainObj_wpAny_Assign_Attribute (gY (@m b s d H _ I h) ?_) p;rintro u e ⟨y,B,A,g,q⟩;refine gY (@r b e d B _ A q) ?_;rintro k F ⟨x,L,z,i,a,C,J,G,t,v,c,n,l,j⟩;subst t;obtain rfl:k=Value.ref a:=i;exact Ef z v c n l g λE w=>{(d),_,w,j}
end
section
variable {Q:Px}{c:Value}{b:Bool}
end
structure hG (k:Nat) (A:Around):Prop where
 hd:A.handled=Z
 dp:A.depth+3*k+5<recursionLimit
 un:A.units+16*k+200<cLine
def hG.mono{k:Nat}(r:hG k A)(h:j<=k):hG j A:={r.hd,by have:=r.dp;omega,by have:=r.un;omega}
theorem hG.deeper{k:Nat}{A:Around}(r:hG (k+1) A)(a:Env):hG k (A.deeper a) :=
 {r.hd,by have:=r.dp;show A.depth+1+3*k+5<_;omega,by have:=r.un;show A.units+3+16*k+200<_;omega}
def Eg{a:Lw}{b:List (Str×Value)}:(A.under (.builtin "type.__call__" {.ref C::a,b})).depth=A.depth+1:=by
 first|rfl|simp[Around.under,Code.weight,Code.isCreation,Code.isGuard,Code.isCaller,Code.frames,Code.isFrame,guardIds]
def Eh{a:Lw}{b:List (Str×Value)}:(A.under (.builtin "type.__call__" {.ref C::a,b})).units=A.units+1:=by
 first|rfl|simp[Around.under,Code.cUnits,Code.frames,Code.isFrame]
def hG.make{k:Nat}(r:hG (k+1) A)(C:Addr)(a:Lw)(b:List (Str×Value)):hG k (A.under (.builtin "type.__call__" {.ref C::a,b})) :=
 {r.hd,by have:=r.dp;rw[Eg];omega,by have:=r.un;rw[Eh];omega}
theorem hG.depth{k:Nat}{A:Around}(r:hG k A):A.depth<recursionLimit:=by have:=r.dp;omega
theorem hG.units{k:Nat}{A:Around}(r:hG k A):A.units+64<cLine:=by have:=r.un;omega
def BY:TA:=λ_ H Q=>Q [] H
def vR(d:TE)(c:TA):TA:=λa H Q=>d a H λx f=>c a f λb e=>Q (x::b) e
section
variable {te:TE}{t:TA}
def mx:PA X [] BY:=λ_ _ _ _ H Q I h=>bY {[],H,I,.nil,h}
def jh(n:PE X e te)(m:PA X es t)(l:zr0 (zE e es X)):PA X (e::es) (vR te t):=by intro b a s c H Q I h;rw[l];show wpAny _ _ (spliced ((false,eval e X.env)::backTo b (starEach es X.env))) _ _ s;refine bN (gY (@n a s c H _ I h) ?_);rintro u f ⟨x,r,p,i,k⟩;exact gY (@m b a f c r _ p k) <| by rintro v w ⟨d,q,o,g,j⟩;exact{x::d,q,o,.cons i g,j}
def Z2(t:TA):TE:=λc H Q=>t c H λa b=>a.length<=sizeLine/\∀p,b p=Z->Q (.ref p) (upd b p (.tup a))
def Z3(t:TA):TE:=λc H Q=>t c H λa b=>a.length<=sizeLine/\∀p,b p=Z->Q (.ref p) (upd b p (.lst a))
def Us{x1}(h:PA X es t):PE X (.Tuple es x1 pos) (Z2 t):=by intro a s g H Q I k;refine wpAny_Tuple_spliced (gY (@h pos a s g H _ I k) ?_);rintro j c ⟨i,f,d,r,z,q⟩;refine{by rw[<-r.length];exact z,?_};have l:f (zB c)=Z:=d.gR.fresh (aE _);refine{.ref (zB c),upd f (zB c) (.tup i),d.laid (t':=c.toks) (λb u e=>ae _ e) (aE _) ?_,rfl,q _ l};exact{z,j,r,{_,aF _ rfl,rfl,_,rfl}}
def J4(h:PA X es t):PE X (.List es pos) (Z3 t):=by intro a s g H Q I k;refine wpAny_List_spliced (gY (@h pos a s g H _ I k) ?_);rintro j c ⟨i,f,d,r,z,q⟩;refine{by rw[<-r.length];exact z,?_};have l:f (zB c)=Z:=d.gR.fresh (aE _);refine{.ref (zB c),upd f (zB c) (.lst i),d.laid (t':=c.toks) (λb u e=>ae _ e) (aE _) ?_,rfl,q _ l};exact{z,j,0,r,aF _ rfl}
end
abbrev Sp:=List V->Hp->VK->XK->Prop
abbrev Jy:=List Env->Hp->Shared->XK->Value->Shared->Prop
structure vS (P:Program) (w:World) (K:Fg) (mg:Str->Ow) (base:Heap) (A:Around) (outer:List Env) (s:Shared) (H:Hp):Prop where
 frames:A.frames=Y outer
 mod:Mod K mg base
 bs:∀b o,base.get? b=Y o->s.heap.get? b=Y o/\H b=Z
 HY:base.objs.size<=(zB s)
 nC:s.heap.FunFrames base outer
 BQ:∀b∈o7 outer,H b=Z
 gR:nS P w H s.heap
 bare:AllBare s.gens
def CE(a:List Env)(P:Program)(w:World)(H:Hp)(s:Shared)(Q:VK)(u:Value)(b:Shared):Prop :=
 ∃v c,b.os=s.os/\AllBare b.gens/\Un (o7 a) [] H c s.heap b.heap/\nS P w c b.heap/\fT v u/\Q v c
def CR(c:Jy)(a:List Env)(P:Program)(w:World)(H:Hp)(s:Shared)(Q:VK)(E:XK)(r:Result)(b:Shared):Prop :=
 match r with
 |.ok (.ret u)=>CE a P w H s Q u b
 |.ok _=>False
 |.error e=>c a H s E e b
structure j6 (P:Program) (w:World) (K:Fg) (mg:Str->Ow) (base:Heap) (CX:Jy) (k:Nat) (f:Addr) (fd:FuncData) (ps:Lr) (sp:Sp):Prop where
 len:∀vs H Q E,sp vs H Q E->vs.length=ps.length
 run:∀(A:Around) (outer:List Env) (s:Shared) (H:Hp) (args:Args) (us:Lw) (vs:List V) (Q:VK) (E:XK),hG k A->vS P w K mg base A outer s H->BindsTo s fd args (ps.zip us)->fK vs us->sp vs H Q E ->
  codeAny (model P w) A (.call (.ref f) args) (CR CX outer P w H s Q E) s
theorem j6.mono{P:Program}{w:World}{K:Fg}{g:Str->Ow}{a:Heap}{l:Jy}{j k:Nat}{f:Addr}{i:FuncData}{e:Lr}{d:Sp}(F:j6 P w K g a l j f i e d)(h:j<=k):
  j6 P w K g a l k f i e d:={F.len,λA b s H c n m Q E o=>F.run A b s H c n m Q E (o.mono h)}
def vS.make{P:Program}{K:Fg}{a:List Env}(e:vS P w K mg base A a s H)(C:Addr)(b:Lw)(c:List (Str×Value)):
  vS P w K mg base (A.under (.builtin "type.__call__" {.ref C::b,c})) a s H:={by first|exact e.frames|(simpa [Around.under,Code.envs,Code.isFrame,pushEnvs] using e.frames),e.mod,e.bs,e.HY,e.nC,e.BQ,e.gR,e.bare}
section
variable {s':Shared}
def c6.Ii(I:c6 X pins σ H s):vS X.prog X.w X.K X.mg X.base X.A X.stack s H :=
 {I.ok.frames,I.ok.mod,I.bs,bx I.ok.HY I.sz,I.stack,I.z9,I.gR,I.bare}
def c6.after{Q:VK}(I:c6 X pins σ H s)(h:CE X.stack X.prog X.w H s Q u s'):EP X pins σ Q u s':=by sleep 1;obtain⟨v,k,i,a,f,e,r,q⟩:=h;sleep 2;obtain⟨j,g,d,t,c⟩:=s';obtain rfl:c=s.os:=i;exact{v,k,I.call (h':=j) (g':=g) (d':=d) (t':=t) (ch:=[]) f e a (λb z=>absurd z (by simp)),r,q}
end
def W9(d:Sp)(a:List V)(E:XK)(t:TA):TE:=λb H Q=>t b H λc e=>d (c++a) e Q E
def So(C:Addr)(m:Str)(g:Sp)(b:List V)(E:XK)(f:TE)(t:TA):TE:=λc H Q=>f c H λx e=>∃a h d,x=.ref a/\e a=Y (.ins C h d)/\d.lookup m=Z /\
 t c e λvs i=>g (x::(vs++b)) i Q E
def Sq(C:Addr)(f:Sp)(b:List V)(E:XK)(t:TA):TE:=λd H Q=>t d H λe c=>∀x a,c x=Z->c a=Z->a≠x ->
 f (.ref x::(e++b)) (upd (upd c a (.own x)) x (.ins C a [])) (λv g=>v=.kn/\Q (.ref x) g) E
def jc(K:Fg)(c:FuncData)(a:Lr)(b:Lw):Prop :=
 ∀(s:Shared) (us:Lw),K.In s.heap->(us++b).length=a.length->BindsTo s c {us,[]} (a.zip (us++b))
def jc.all{K:Fg}(h:∀us:Lw,us.length=ps.length->bindArgs fd {us,[]}=pure (ps.zip us)):jc K fd ps []:=λs us _ a=>by rw[aG] at a ⊢;exact .of_eq (h us a)
def om(b:Jy)(X:Cx)(E:XK):Prop:=∀(a:Ax) (σ:St) (H:Hp) (s:Shared) (e:Value) (s':Shared),c6 X a σ H s->b X.stack H s E e s'->X.xe e s'
section
variable {CX:Jy}{k:Nat}{f:Addr}{sp:Sp}{dvs:List V}{ds:Lw}{E:XK}{m:Str}{o:Expr}{ta:TE}{t:TA}
theorem Ei{Q:VK}{us:Lw} (F:j6 X.prog X.w X.K X.mg X.base CX k f fd ps sp) (g:hG k X.A) (l:jc X.K fd ps ds) (j:fK dvs ds) (d:om CX X E)
  (I:c6 X pins σ H s) (r:fK vs us) (h:sp (vs++dvs) H Q E):(zw X) (call (.ref f) us) (EP X pins σ Q) X.xe s:=by
 have b:fK (vs++dvs) (us++ds):=r.append j;have i:(us++ds).length=ps.length:=by rw[<-b.length];exact F.len _ _ _ _ h
 refine wpAny_call (b8 (F.run X.A X.stack s H {us,[]} (us++ds) (vs++dvs) Q E g I.Ii (l s us I.og i) b h) λr c a=>?_);cases r with
 |error e=>exact d pins σ H s e c I a
 |ok m=>
  cases m with
  |ret u=>exact I.after a
  |next=>exact False.elim a
  |brk=>exact False.elim a
  |cont=>exact False.elim a
def vD(F:j6 X.prog X.w X.K X.mg X.base CX k f fd ps sp) (j:hG k X.A) (n:Gl X x) (l:X.mg x=Y (.ref f)) (m:W.keepIn X.K (.ref f)=true) (v:jc X.K fd ps ds) (u:fK dvs ds) (i:om CX X E)
  (y:PA X (e::es) t) (c:zd0 (zg x)) (o:zr0 (zE e es X)) (b:zr0 ((backTo pos (starEach es X.env)).any (·.1)=false)):
  PE X (.Call (.Name x p) (e::es) [] pos) (W9 sp dvs E t):=by
 intro a s g H Q I h;refine br (kf I n l ?_ c);refine W.callWith_K (h₀:=X.base) I.ok.mod.JG m (gY (@y pos a s g H _ I h) ?_) o b;rintro B C ⟨z,D,d,r,q⟩;refine{d.og,?_};exact Ei F j v u i d r q
def Gi{pl:Sem Bool} (J:PE X o ta) (c:Ig X.K C) (j:Ih X.K C m f) (F:j6 X.prog X.w X.K X.mg X.base CX k f fd ps sp) (G:hG k X.A) (M:jc X.K fd ps ds) (L:fK dvs ds) (B:om CX X E) (N:PA X (e::es) t)
  (d:zr0 (zE e es X)) (g:zr0 ((backTo pos (starEach es X.env)).any (·.1)=false))
  (D:eval (.Call (.Attribute o m apos) (e::es) [] pos) X.env=(do
   let ov <-eval o X.env
   standAt apos.atName
   let (f,first) <-holding [ov] (getMethod ov m pl)
   callWith pos f first (backTo pos (starEach (e::es) X.env)) (backToKw pos (keywordEach [] X.env))):=by rfl):
  PE X (.Call (.Attribute o m apos) (e::es) [] pos) (So C m sp dvs E ta t):=by
 intro b s i H Q I h;refine W.methodCall_KW (pl:=pl) (gY (@J b s i H _ I h) ?_) D;rintro u v ⟨x,R,p,y,a,U,T,O,P,l,q⟩;subst O;obtain rfl:u=Value.ref a:=y;refine vQ p P c j l ?_;refine W.callWith_K (first:=[.ref a]) (h₀:=X.base) I.ok.mod.JG j.kp (gY (@N pos b v i R _ p q) ?_) d g;rintro us S ⟨vs,V,n,r,z⟩;refine{n.og,?_};exact Ei (us:=.ref a::us) (vs:=.ref a::vs) F G M L B n (.cons rfl r) z
def BZ{pl:Sem Bool} (r:PE X o ta) (c:Ig X.K C) (e:Ih X.K C m f) (F:j6 X.prog X.w X.K X.mg X.base CX k f fd ps sp) (p:hG k X.A) (v:jc X.K fd ps ds) (t:fK dvs ds) (j:om CX X E)
  (n:eval (.Call (.Attribute o m apos) [] [] pos) X.env=(do
   let ov <-eval o X.env
   standAt apos.atName
   let (f,first) <-holding [ov] (getMethod ov m pl)
   callWith pos f first (backTo pos (starEach [] X.env)) (backToKw pos (keywordEach [] X.env))):=by rfl):
  PE X (.Call (.Attribute o m apos) [] [] pos) (So C m sp dvs E ta BY):=by
 intro b s g H Q I h;refine W.methodCall_KW (pl:=pl) (gY (@r b s g H _ I h) ?_) n;rintro u B ⟨x,J,d,i,a,G,D,y,z,l,q⟩;subst y;obtain rfl:u=Value.ref a:=i;refine vQ d z c e l ?_;exact W.callWith_K0 (first:=[.ref a]) d.og e.kp (Ei (us:=[.ref a]) (vs:=[.ref a]) F p v t j d (.cons rfl .nil) q)
structure Mk (K:Fg) (C f:Addr):Prop where
 makes:W.makesIn K C=true
 init:W.findIn K (.ref C) "__init__"=Y (Y (.ref f))
 fn:W.isFn K (.ref f)=true
 kp:W.keepIn K (.ref C)=true
theorem B4{Q:VK}{us:Lw} (M:Mk X.K C f) (F:j6 X.prog X.w X.K X.mg X.base CX k f fd ps sp) (m:hG (k+1) X.A) (p:jc X.K fd ps ds) (o:fK dvs ds)
  (l:om CX X E) (I:c6 X pins σ H s) (r:fK vs us)
  (h:∀x dx,H x=Z->H dx=Z->dx≠x->sp (.ref x::(vs++dvs)) (upd (upd H dx (.own x)) x (.ins C dx [])) (λv H2=>v=.kn/\Q (.ref x) H2) E):
  (zw X) (call (.ref C) us) (EP X pins σ Q) X.xe s:=by
 have d:=h ((zB s)+1) (zB s) (I.gR.fresh (fA _)) (I.gR.fresh (aE _)) (aO (dN _));have b:=c6.made (C:=C) I;have c:fK (V.ref ((zB s)+1)::(vs++dvs)) (Value.ref ((zB s)+1)::(us++ds)):=.cons rfl (r.append o);have n:(Value.ref ((zB s)+1)::us++ds).length=ps.length:=by have e:=c.length;rw[F.len _ _ _ _ d] at e;exact e.symm
 refine wpAny_call (JY (f:=f) I.og M.makes M.init (bF.mp M.fn) (b8 (F.run _ X.stack _ _ {Value.ref ((zB s)+1)::us,[]} (Value.ref ((zB s)+1)::(us++ds)) _ _ E (m.make C us [])
  (b.Ii.make C us []) (p _ (Value.ref ((zB s)+1)::us) b.og n) c d) λr g a=>?_))
 cases r with
 |error e=>exact l pins σ _ _ e g b a
 |ok q=>
  cases q with
  |ret u=>sleep 1;obtain⟨v,z,y,i,t,j⟩:=b.after a;sleep 2;subst t;exact{i,{V.ref ((zB s)+1),z,y,rfl,j}}
  |next=>exact False.elim a
  |brk=>exact False.elim a
  |cont=>exact False.elim a
def O7(M:Mk X.K C f) (F:j6 X.prog X.w X.K X.mg X.base CX k f fd ps sp) (j:hG (k+1) X.A) (m:Gl X x) (l:X.mg x=Y (.ref C)) (u:jc X.K fd ps ds) (o:fK dvs ds) (i:om CX X E)
  (v:PA X (e::es) t) (c:zd0 (zg x)) (n:zr0 (zE e es X)) (b:zr0 ((backTo pos (starEach es X.env)).any (·.1)=false)):
  PE X (.Call (.Name x p) (e::es) [] pos) (Sq C sp dvs E t):=by
 intro a s g H Q I h;refine br (kf I m l ?_ c);refine W.callWith_K (h₀:=X.base) I.ok.mod.JG M.kp (gY (@v pos a s g H _ I h) ?_) n b;rintro z B ⟨y,D,d,r,q⟩;refine{d.og,?_};exact B4 M F j u o i d r q
def J5(M:Mk X.K C f) (F:j6 X.prog X.w X.K X.mg X.base CX k f fd ps sp) (d:hG (k+1) X.A) (g:Gl X x) (e:X.mg x=Y (.ref C)) (j:jc X.K fd ps ds) (i:fK dvs ds) (c:om CX X E)
  (a:zd0 (zg x)):PE X (.Call (.Name x p) [] [] pos) (Sq C sp dvs E BY):=by
 intro b s l H Q I h;refine br (kf I g e ?_ a);exact W.callWith_K0 I.og M.kp (B4 (us:=[]) M F d j i c I .nil h)
end
section
variable {CX:Jy}{k:Nat}{f:Addr}{ks:Lr}{sp:Sp}{E:XK}{m:Str}{aan:Pos}{o:Expr}{kws:List Keyword}{te ta:TE}{t tk:TA}{nm:Option Str}
variable {g:Lw->Lw->Lw}{gV:List V->List V->List V}
end
structure gU (N P:Lr) (sc:Scope):Prop where
 kind:sc.kind=.function
 co:sc.isCoroutine=false
 gen:sc.isGenerator=false
 nd:N.Nodup
 pre:N.take P.length=P
 par:∀x∈P,sc.names.lookup x=Y .local\/sc.names.lookup x=Y .cell
 Ut:∀y∈sc.names,y.2≠.free
theorem yE{b:Str->Option NameKind}{x:Str}:∀{a:List (Str×Value)}{m:Str->Ow},(∀v,(x,v)∉a)->bindL b a m x=m x
 |[],_,_=>rfl
 | (n,v)::r,m,h=>by
  unfold bindL;rw[yE λw hw=>h w (ai _ hw)];split
  .have:x≠n:=by rintro rfl;exact h v bh
   simp[this]
  .rfl
theorem yF{b:Str->Option NameKind}{x:Str}:∀{a:List (Str×Value)}{m:Str->Ow},(∀v,(x,v)∉a)->bindC b a m x=m x
 |[],_,_=>rfl
 | (n,v)::r,m,h=>by
  unfold bindC;rw[yF λw hw=>h w (ai _ hw)];split
  .rfl
  .have:x≠n:=by rintro rfl;exact h v bh
   simp[this]
theorem yG{a:Str->Option NameKind}{x:Str}{v:Value}:∀{P:Lr}{b:Lw}{i:Nat}{m:Str->Ow},P.Nodup->P[i]?=Y x->b[i]?=Y v->a x=Y .local ->
  bindL a (P.zip b) m x=Y v
 |[],_,_,_,_,h,_,_=>by simp at h
 |_::_,[],_,_,_,_,h,_=>by simp at h
 |p::P,w::b,0,m,nd,h1,h2,hk=>by simp at h1 h2;subst h1;subst h2;show bindL a ((p,w)::P.zip b) m p=_;unfold bindL;rw[yE λv c=>(bP.mp nd).1 (dZ c).1,ah hk];simp
 |p::P,w::b,i+1,m,nd,h1,h2,hk=>by show bindL a ((p,w)::P.zip b) m x=_;unfold bindL;exact yG (i:=i) (bP.mp nd).2 (by simpa using h1) (by simpa using h2) hk
theorem yH{a:Str->Option NameKind}{x:Str}{v:Value}:∀{P:Lr}{b:Lw}{i:Nat}{m:Str->Ow},P.Nodup->P[i]?=Y x->b[i]?=Y v->a x≠Y .local ->
  bindC a (P.zip b) m x=Y v
 |[],_,_,_,_,h,_,_=>by simp at h
 |_::_,[],_,_,_,_,h,_=>by simp at h
 |p::P,w::b,0,m,nd,h1,h2,hk=>by simp at h1 h2;subst h1;subst h2;show bindC a ((p,w)::P.zip b) m p=_;unfold bindC;rw[yF λv c=>(bP.mp nd).1 (dZ c).1,aq hk];simp
 |p::P,w::b,i+1,m,nd,h1,h2,hk=>by show bindC a ((p,w)::P.zip b) m x=_;unfold bindC;exact yH (i:=i) (bP.mp nd).2 (by simpa using h1) (by simpa using h2) hk
def kA(N:Lr)(vs:List V):St:=vs.map Y++List.replicate (N.length - vs.length) Z
def q8(CX:Jy)(P:Program)(w:World)(K:Fg)(i:Str->Ow)(d:Heap)(N:Lr)(c:Str)(a:Scope)(f:Addr)(h:Value)(A:Around)(b:List Env)(s:Shared)(H:Hp)(E:XK):Cx where
 prog:=P
 w:=w
 K:=K
 mg:=i
 base:=d
 A:=A.deeper (envOfC c a (zB s) f h)
 N:=N
 gO:=s
 lI:=H
 env:=envOfC c a (zB s) f h
 outer:=b
 stack:=envOfC c a (zB s) f h::b
 ex:=[]
 calm:=true
 fn:=λ_=>true
 pn:=[]
 xe:=λe j=>wpAny (model P w) (A.deeper (envOfC c a (zB s) f h)) (leaving (envOfC c a (zB s) f h) e) (λ_ g=>CX b H s E e g) (λk g=>CX b H s E k g) j
def B5{a:Scope}(h:a.names.lookup x=Y .cell):∃c,(cellsFrom n a.names []).lookup x=Y c:=by have q:=W.cellsFrom_some a.names n [] (.inl h);exact Option.isSome_iff_exists.mp q
def tq{CX:Jy}{P:Program}{K:Fg}{N:Lr}{g:Str}{f:Addr}{F:Value}{d:List Env}{I:Shared}{E:XK}{G:Lw}
  (S:gU N ps scope) (Q:A.handled=Z) (l:vS P w K mg base A d s H) (U:vs.length=ps.length) (r:fK vs G)
  (x:InCallC s (zB s) (bindL (envOfC g scope (zB s) f F).kindOf (ps.zip G) λ_=>Z) (cellsFrom ((zB s)+1) scope.names []) (bindC (envOfC g scope (zB s) f F).kindOf (ps.zip G) λ_=>Z) I):
  c6 (q8 CX P w K mg base N g scope f F A d s H E) [] (kA N vs) H I:=by
 have O:ps.length<=N.length:=by have:=bJ List.length S.pre;rw[dO] at this;omega
 obtain⟨D,T,rfl,L⟩:=x.done;have m:∀b:Addr,b∉(q8 CX P w K mg base N g scope f F A d s H E).ex:=λb z=>absurd (show b∈([]:List Addr) from z) (by simp);refine{{l.mod,S.kind,rfl,rfl,aE _,λy z c D j=>?_,λy o=>?_,λy c _ h=>?_,λ_=>Q,Around.frames_deeper l.frames,.inr {(rfl),rfl},λb z=>absurd z (m b),l.bs,l.HY,λb _ _=>m b,λb z=>absurd z (m b),l.nC,l.BQ},
  rfl,l.bare,Un.kept L,{_,x.toInCall.ns,λi y v D j V=>?_},λy c h=>{_,x.cell y c h},l.gR.fresh (aE _),λy c h=>?_,λp B=>absurd (show p∈([]:Ax) from B) (by simp),l.gR.kept L,?_}
 .exact name_of_addr x.apart (bK D) (bK j)
 .have o:scope.names.lookup y=Y .cell\/scope.names.lookup y=Y .free:=o;rcases o with o|o
  .exact B5 o
  .exact absurd rfl (S.Ut _ (bK o))
 .exact dw (x.above y c (bK h))
 .have C:i<vs.length:=by
   unfold kA at j;by_cases C:i<vs.length
   .exact C
   .rw[aQ (by simpa using C)] at j;rw[bG] at j;split at j<;>cases j
  have R:vs[i]?=Y v:=by
   unfold kA at j;rw[bt (by simpa using C),aB] at j;cases e:vs[i]? with
   |none=>rw[e] at j;cases j
   |some a=>rw[e] at j;cases j;rfl
  obtain⟨u,J,M⟩:=r.get R;have B:ps[i]?=Y y:=by rw[<-S.pre,List.getElem?_take_of_lt (by omega)];exact D
  have t:ps.Nodup:=by rw[<-S.pre];exact S.nd.sublist (List.take_sublist _ _)
  refine{u,M,?_};rcases S.par y (b9 B) with k|k
  .exact .inl {k,yG t B J k}
  .obtain⟨c,e⟩:=B5 (n:=(zB s)+1) k;refine .inr {.inl k,c,e,?_};have q:=x.cell y c e;rw[yH t B J (by show scope.names.lookup y≠_;rw[k];decide)] at q;exact q
 .exact l.gR.fresh (dw (x.above y c (bK h)))
 .unfold kA;show _=N.length;rw[aL,aj,List.length_replicate];omega
def Ka{C:Jy}{P:Program}{K:Fg}{k:Nat}{f:Addr}{h a:Str}{d:Arguments}{U T B R c X oc:Value}{an od:Option Addr}
  {F:Array Ow}{N:Lr}{D:Sp} (lk:K.lookup f=Y {oc,od,.func (W.fnOf h a d body scope U T B R an c X),F}) (M:W.codeIn K c a=true) (S:gU N ps scope)
  (l:∀vs H Q E,D vs H Q E->vs.length=ps.length)
  (j:∀(A:Around) (outer:List Env) (s:Shared) (H:Hp) (vs:List V) (Q:VK) (E:XK),hG k (A.deeper (envOfC a scope (zB s) f c))->D vs H Q E ->
   ∃t,xZ (q8 C P w K mg base N a scope f c A outer s H E) body t/\t { nx:=λ_ H'=>Q .kn H',rt:=Q } (kA N vs) H):
  j6 P w K mg base C (k+1) f (W.fnOf h a d body scope U T B R an c X) ps D:=by
 refine{l,λA outer s H args us vs Q E L z hb r m=>?_};have hl:=l _ _ _ _ m;have KX:K.In s.heap:=z.mod.JG.keeps λb o e=>(z.bs b o e).1;have G:s.heap.NoLimit:=z.mod.nolimit.keeps λb o e=>(z.bs b o e).1;have i:∀y∈ps.zip us,scope.names.lookup y.1=Y .local\/(scope.names.lookup y.1=Y .cell/\((cellsFrom ((zB s)+1) scope.names []).lookup y.1).isSome=true):=by
  rintro⟨n,v⟩ hy;rcases S.par n (dZ hy).1 with q|q
  .exact .inl q
  .exact .inr {q,W.cellsFrom_some _ _ _ (.inl q)}
 refine codeAny_call_function L.depth (KX _ _ lk) rfl S.co S.gen rfl (W.codeRec_of KX M) (hb _ _ _ _ ?_);refine wpAny_newFunctionEnv_cells S.kind i λenv he O x=>?_;subst he;refine{G.keeps x.toInCall.keep,codeAny_func ?_};obtain⟨t,ht,hq⟩:=j A outer s H vs Q E (L.deeper _) m;have I:c6 (q8 C P w K mg base N a scope f c A outer s H E) [] (kA N vs) H O:=tq S L.hd z hl r x;refine bq (@ht [] O (kA N vs) H _ I hq) (λfl s' hs=>?_) λe s' hs=>hs;have p:∀{g:St}{H':Hp}{v:V}{u:Value},c6 (q8 C P w K mg base N a scope f c A outer s H E) [] g H' s'->fT v u->Q v H'->CE outer P w H s Q u s' :=
  λ{g H' v u} J rv q=>{v,H',J.os,J.bare,J.base,J.gR,rv,q}
 cases fl with
 |ret u=>sleep 1;obtain⟨v,g,H',J,rv,q⟩:=hs;sleep 2;exact p J rv q
 |next=>obtain⟨g,H',J,q⟩:=hs;exact p (v:=V.kn) (u:=Value.none) J rfl q
 |brk=>obtain⟨_,_,_,q⟩:=hs;exact False.elim q
 |cont=>obtain⟨_,_,_,q⟩:=hs;exact False.elim q
section
variable {t:TA}{id T:String}{r:List V->Hp->VK->Prop}
def Ze(r:List V->Hp->VK->Prop)(t:TA):TE:=λa H Q=>t a H λb c=>r b c Q
def vT(u:jb X (.builtin id) r) (o:Gl X x) (n:X.mg x=Z) (l:bootBuiltins x=Y (.builtin id)) (v:PA X (e::es) t) (m:zd0 (x≠"__name__")) (c:zd0 (zg x))
  (q:zr0 (zE e es X)) (b:zr0 ((backTo pos (starEach es X.env)).any (·.1)=false)):PE X (.Call (.Name x p) (e::es) [] pos) (Ze r t):=by
 intro a s d H Q I h;refine br (oh I o n l ?_ m c);exact cJ (gY (@v pos a s d H _ I h) <| by rintro g i ⟨f,y,w,j,k⟩;exact @u a i d y f g Q w j k) q b
def yI(u:jb X (.type T) r) (o:Gl X x) (n:X.mg x=Z) (l:bootBuiltins x=Y (.type T)) (v:PA X (e::es) t) (m:zd0 (x≠"__name__")) (c:zd0 (zg x))
  (q:zr0 (zE e es X)) (b:zr0 ((backTo pos (starEach es X.env)).any (·.1)=false)):PE X (.Call (.Name x p) (e::es) [] pos) (Ze r t):=by
 intro a s d H Q I h;refine br (oh I o n l ?_ m c);exact bL (gY (@v pos a s d H _ I h) <| by rintro g i ⟨f,y,w,j,k⟩;exact @u a i d y f g Q w j k) q b
end
end L2
namespace HT
open PySem PyProof.Rows
section
open PySem.SeqAt
open PySem.AutoSeq1 (wpAny_loadPart')
open PySem.MeetsSeq PySem.MeetsSeq2 PySem.MeetsSeq3
end
section
variable {prog:Program}
def O8{t b:Addr}{d a:Lw}{Q:Px} (x:IsTup s.heap t d.toArray) (y:IsTup s.heap b a.toArray) (p:d≠[])
  (B:a=[]->Q (.ref t) s) (z:a≠[]->Q (.ref (zB s)) { s with heap:=s.heap.push { cls:=.type "tuple",data:=.seq (d++a).toArray } })
  (k:d.length+a.length<=sizeLine):wpAny (model prog w) A (binaryOp .Add (.ref t) (.ref b)) Q E s:=by
 sleep 1;obtain⟨⟨cls,u,data,m⟩,j,r,n,q⟩:=id x;sleep 2;sleep 1;obtain⟨⟨v,i,l,f⟩,c,h,o,g⟩:=id y;sleep 2;simp only at r q h g;subst r q h g;have e:d.toArray++a.toArray=(d++a).toArray:=by simp
 by_cases hw:a=[]
 .exact ft {_,j,rfl} {_,c,rfl} eZ seq_tuple_add dA du (de _ _)
   (tuple_addW1 t b d.toArray a.toArray n o u i m f (by simpa using p) (by simp[hw])) {j,c,B hw}
 .refine ft {_,j,rfl} {_,c,rfl} eZ seq_tuple_add dA du (de _ _)
   (tuple_addW2 t b d.toArray a.toArray n o u i m f (by simpa using p) (by simpa using hw) (by rw[aA,aA];exact k)) {j,c,?_}
  rw[e];exact z hw
def j3(n d:Nat):Option Int->Nat
 |none=>d
 |some v=>if v<0 then (v+(n:Int)).toNat else min v.toNat n
def Uu(n d:Nat)(b:d<=n)(o:Option Int):j3 n d o<=n:=by
 cases o with
 |none=>exact b
 |some v=>
  show (if v<0 then (v+(n:Int)).toNat else min v.toNat n)<=n;by_cases a:v<0
  .rw[ah a];omega
  .rw[aq a];exact fe _ _
def Gj(v:Int)(n d:Nat):(if v<0 then max (v+(n:Int)) 0 else min v (n:Int))=((j3 n d (Y v):Nat):Int):=by
 show (if v<0 then max (v+(n:Int)) 0 else min v (n:Int))=(((if v<0 then (v+(n:Int)).toNat else min v.toNat n):Nat):Int)
 by_cases a:v<0
 .simp only[ah a];omega
 .simp only[aq a];omega
def Ej(a b:Option Int)(n:Nat):Builtin.Slice.sliceAdjust a b 1 (n:Int)=(((j3 n 0 a:Nat):Int),((j3 n n b:Nat):Int)):=by
 have c:¬ ((1:Int)<0):=by omega
 unfold Builtin.Slice.sliceAdjust;simp only[c,fC];refine Prod.ext ?_ ?_
 .cases a with
  |none=>rfl
  |some v=>exact Gj v n 0
 .cases b with
  |none=>rfl
  |some v=>exact Gj v n n
def Ek(i j:Nat):Builtin.Slice.slicePlaces (i:Int) (j:Int) 1=j - i:=by
 unfold Builtin.Slice.slicePlaces;have a:(1:Int) > 0:=by omega
 simp only[a,dk,Int.ediv_one];split<;>omega
def vU{v:Value}{o:Option Int}{Q:Option Int->Shared->Prop}(p:IsPart v o)(h:Q o s):wpAny (model prog w) A (Builtin.Slice.slicePartIndex v) Q E s:=by
 cases p with
 |none=>exact slicePart_none h
 |int i t=>exact slicePart_int h
def nV{g:Addr}{f e:Value}{a c:Option Int}{Q:Int×Int×Nat->Shared->Prop} (k:s.heap.IsSliceOf g f e .none) (j:IsPart f a) (i:IsPart e c)
  (h:Q (((j3 n 0 a:Nat):Int),1,j3 n n c - j3 n 0 a) s):wpAny (model prog w) A (Builtin.Slice.sliceApplied (.ref g) (pure (n:Int))) Q E s:=by
 obtain⟨m,b,l,d⟩:=id k;unfold Builtin.Slice.sliceApplied Builtin.Slice.sliceFields;refine aa (aa (b6 b d (x:=f) rfl (aa (b6 b d (x:=e) rfl (aa (b6 b d (x:=.none) rfl (ao ?_)))))));refine aa (slicePart_none ?_);show wpAny _ _ (if ((1:Int)==0)=true then _ else _) _ _ s;rw[aq (by decide)];refine aa (vU j (aa (vU i (aa (ao ?_)))));show wpAny _ _ (match Builtin.Slice.sliceAdjust a c 1 (n:Int) with|(a,c)=>pure (a,(1:Int),Builtin.Slice.slicePlaces a c 1)) _ _ s;rw[Ej a c n];show wpAny _ _ (pure (((j3 n 0 a:Nat):Int),(1:Int),Builtin.Slice.slicePlaces ((j3 n 0 a:Nat):Int) ((j3 n n c:Nat):Int) 1)) _ _ s;rw[Ek];exact ao h
def Kb(a:Array Value)(i k:Nat):((List.range k).filterMap λ(m:Nat)=>a[((i:Int)+(m:Int)*1).toNat]?).toArray=((a.toList.drop i).take k).toArray:=by
 have e:(λ(m:Nat)=>a[((i:Int)+(m:Int)*1).toNat]?)=λm=>a[i+m]?:=by
  funext m
  have:((i:Int)+(m:Int)*1).toNat=i+m:=by omega
  rw[this]
 rw[e];have:=pick_run a i k;rw[eQ] at this;have b:((λx=>a[x]?)∘λx=>i+x)=λm=>a[i+m]?:=rfl;rw[b] at this;rw[this]
def rO{t e:Addr}{l k:Value}{b c:Option Int}{Q:Px} (d:IsTup s.heap t items) (n:s.heap.IsSliceOf e l k .none) (p:IsPart l b) (o:IsPart k c)
  (hw:¬ (j3 items.size 0 b=0/\j3 items.size items.size c=items.size))
  (h:Q (.ref (zB s)) { s with heap:=s.heap.push { cls:=.type "tuple",data:=.seq ((items.toList.drop (j3 items.size 0 b)).take (j3 items.size items.size c - j3 items.size 0 b)).toArray } })
  (u:items.size<=sizeLine):wpAny (model prog w) A (getItem (.ref t) (.ref e)) Q E s:=by
 have a:sizeOk (.seq ((items.toList.drop (j3 items.size 0 b)).take (j3 items.size items.size c - j3 items.size 0 b)).toArray):=by show ((items.toList.drop (j3 items.size 0 b)).take (j3 items.size items.size c - j3 items.size 0 b)).toArray.size<=sizeLine;rw[aA,dO,List.length_drop,cI];omega
 have z:j3 items.size items.size c<=items.size:=Uu _ _ (aE _) c;obtain⟨r,f,i,v⟩:=id n;have j:s.TypeIs (.ref e) "slice":={(r),f,i}
 unfold getItem
 try with_reducible refine a8 ?_
 first|refine aa (ao ?_)|skip
 refine aa (wpAny_sequenceKey d.typeIs (by decide) ?_);refine aa (cK (name:=zZ "__getitem__") d.typeIs bw
  (dP bw d.typeIs entry_tuple_getitem ?_ (args_tuple_getitem _ _)))
 show wpAny _ _ (Builtin.Tuple.tupleItemsOf (.ref t)>>=_) _ _ s;refine aa (tupleItemsOf_ d ?_);refine aa (cE j ?_);rw[ah (by decide)];refine aa (nV n p o ?_);have g:¬ ((((j3 items.size 0 b:Nat):Int)==0&&(1:Int)==1&&(j3 items.size items.size c - j3 items.size 0 b)==items.size)=true):=by intro q;rw[bH,bH] at q;have y:((j3 items.size 0 b:Nat):Int)=0:=eq_of_beq q.1.1;have x:j3 items.size items.size c - j3 items.size 0 b=items.size:=eq_of_beq q.2;exact hw {by omega,by omega}
 show wpAny _ _ (if (((j3 items.size 0 b:Nat):Int)==0&&(1:Int)==1&&(j3 items.size items.size c - j3 items.size 0 b)==items.size)=true then _ else _) _ _ s;rw[aq g,Kb]
 first
  |exact aa (m:=Builtin.Tuple.tupleExact _) (cF (ao {_,rfl,ao h}) a)
  |exact aa (m:=Builtin.Tuple.tupleExact _) (cF (aa (ao (ao {_,rfl,ao h}))) a)
  |exact aa (aa (m:=Builtin.Tuple.tupleExact _) (cF (ao (ao {_,rfl,ao h})) a))
  |exact aa (aa (m:=Builtin.Tuple.tupleExact _) (cF (ao {_,rfl,ao h}) a))
end
end HT
namespace L2
open PySem PySem.Spec PyProof.Rows
abbrev TO:=St->Hp->(Option Int->Hp->Prop)->Prop
def PO(X:Cx)(e:Option Expr)(t:TO):Prop :=
 ∀⦃a:Ax⦄ (s:Shared) (σ:St) (H:Hp) (Q:Option Int->Hp->Prop),c6 X a σ H s->t σ H Q ->
  (zw X) (evalPart e X.env) (λu s'=>∃o b,c6 X a σ b s'/\IsPart u o/\Q o b) X.xe s
def O9:TO:=λ_ H Q=>Q Z H
def Xa(t:TE):TO:=λa H Q=>t a H λx b=>∃i,x=.int i/\Q (Y i) b
section
variable {te:TE}{lo hi:Option Expr}{tl th:TO}
def Pa:PO X Z O9:=by intro a s b H Q I h;rw[evalPart_none];exact ao {Z,H,I,.none,h}
def Pb(h:PE X e te):PO X (Y e) (Xa te):=by intro a s b H Q I hw;rw[evalPart_some];refine gY (@h a s b H _ I hw) ?_;rintro u j ⟨x,g,f,c,d⟩;obtain⟨i,rfl,q⟩:=d;obtain⟨t,rfl⟩:=c;exact{Y i,g,f,.int i t,q}
def Gk(X:Cx)(r:V->Option Int->Option Int->Hp->VK->Prop):Prop :=
 ∀(a:Ax) (s:Shared) (σ:St) (H:Hp) (x:V) (v c b:Value) (lo hi:Option Int) (sl:Addr) (Q:VK),c6 X a σ H s->fT x v->s.heap.IsSliceOf sl c b .none->IsPart c lo->IsPart b hi->r x lo hi H Q ->
  ∃T d,typeLookup (.type T) "__getitem__"=pure (Y (.builtin d))/\s.TypeIs v T/\(zw X) (getItem v (.ref sl)) (EP X a σ Q) X.xe s
def Gk.or{r g:V->Option Int->Option Int->Hp->VK->Prop}(h:Gk X r)(l:Gk X g):Gk X (λx lo hi H Q=>r x lo hi H Q\/g x lo hi H Q):=by
 intro a s b H x v d c lo hi e Q I f k j i q;rcases q with q|q
 .exact @h a s b H x v d c lo hi e Q I f k j i q
 .exact @l a s b H x v d c lo hi e Q I f k j i q
def tSl(r:V->Option Int->Option Int->Hp->VK->Prop)(d:TE)(b c:TO):TE:=λa H Q=>d a H λx g=>b a g λl f=>c a f λu e=>r x l u e Q
def B6{r:V->Option Int->Option Int->Hp->VK->Prop}(A:Gk X r)(D:PE X e te)(B:PO X lo tl)(y:PO X hi th):PE X (.Subscript e (.Slice lo hi Z p2) pos) (tSl r te tl th):=by intro a s d H Q I h;refine Subscript_ (gY (@D a s d H _ I h) ?_);rintro v k ⟨x,M,K,m,p⟩;refine wpAny_Slice (gY (@B a k d M _ K p) ?_);rintro g j ⟨l,L,J,w,o⟩;refine gY (@y a j d L _ J o) ?_;rintro f c ⟨u,i,G,t,n⟩;rw[evalPart_none];refine ao ?_;have F:c6 X a d i { c with heap:=c.heap.push { cls:=.type "slice",data:=.fields #[g,f,.none] } }:=G.kept (t':=c.toks) λb N q=>ae _ q;obtain⟨T,O,E,z,C⟩:=A a { c with heap:=c.heap.push { cls:=.type "slice",data:=.fields #[g,f,.none] } } d i x v g f l u (zB c) Q F m (Heap.IsSliceOf.new ..) w t n;show (zw X) (subscriptTail e (.Slice lo hi Z p2) v (.ref (zB c))) (EP X a d Q) X.xe { c with heap:=c.heap.push { cls:=.type "slice",data:=.fields #[g,f,.none] } };exact tail_any (ops:=[.ref (zB c),v]) z E C (by with_unfolding_all rfl)
def B7(a:List V)(b c:Option Int):List V:=(a.drop (HT.j3 a.length 0 b)).take (HT.j3 a.length a.length c - HT.j3 a.length 0 b)
def uw(a:List V)(b c:Option Int):(B7 a b c).length<=a.length:=by unfold B7;rw[dO,List.length_drop];omega
def Z4(K:Fg):V->Option Int->Option Int->Hp->VK->Prop:=λx lo hi H Q=>∃a b,x=.ref a/\pB K H a b /\
 ¬ (HT.j3 b.length 0 lo=0/\HT.j3 b.length b.length hi=b.length)/\∀p,H p=Z->Q (.ref p) (upd H p (.tup (B7 b lo hi)))
def Uv:Gk X (Z4 X.K):=by
 intro f s p H x v u t lo hi w Q I j n l k h;sleep 1;obtain⟨a,d,rfl,m,hw,q⟩:=h;sleep 2;cases j;obtain⟨e,r,i,g⟩:=I.tuple m;have c:e.toArray.size=d.length:=by rw[aA];exact r.length.symm
 refine{"tuple",_,bw.lookup,i.typeIs,?_};refine HT.rO i n l k (by rw[c];exact hw) ?_ (by rw[c];exact g);rw[c];refine{.ref (zB s),_,I.laid (t':=s.toks) (o:=.tup (B7 d lo hi)) (λb ob q=>ae _ q) (aE _) ?_,rfl,q _ (I.gR.fresh (aE _))};exact{bx (uw d lo hi) g,_,(r.drop (HT.j3 d.length 0 lo)).take (HT.j3 d.length d.length hi - HT.j3 d.length 0 lo),IsTup.new _ _}
def Xb(K:Fg):R2:=λx y H Q=>∃a b d c,x=.ref a/\y=.ref b/\pB K H a d/\pB K H b c/\d≠[]/\d.length+c.length<=sizeLine /\
 (c=[]->Q (.ref a) H)/\(c≠[]->∀p,H p=Z->Q (.ref p) (upd H p (.tup (d++c))))
def fK.eB{a:List V}{b:Lw}(r:fK a b):b=[]↔a=[]:=by
 cases r with
 |nil=>simp
 |cons _ _=>simp
def Pc:kI X (binaryOp .Add) (Xb X.K):=by intro e s D H x y v u Q I l k h;sleep 1;obtain⟨a,b,j,i,rfl,rfl,C,B,A,g,n,m⟩:=h;sleep 2;cases l;cases k;obtain⟨t,d,r,_⟩:=I.tuple C;obtain⟨f,c,p,_⟩:=I.tuple B;refine HT.O8 r p (λz=>A (d.eB.mp z)) (λz=>{.ref a,H,I,rfl,n (c.eB.mp z)}) (λz=>?_) (by rw[<-d.length,<-c.length];exact g);refine{.ref (zB s),_,I.laid (t':=s.toks) (o:=.tup (j++i)) (λb ob q=>ae _ q) (aE _) ?_,rfl,m (λw=>z (c.eB.mpr w)) _ (I.gR.fresh (aE _))};exact{by rw[aL];exact g,_,d.append c,IsTup.new _ _}
end
def yJ(n:Nat)(i:Int):Option Nat:=if 0<=i then (if i<n then Y i.toNat else Z) else if -(n:Int)<=i then Y (i+n).toNat else Z
def q9(a:List α)(i:Int):Option α:=(yJ a.length i).bind λj=>a[j]?
def Gm{i:Int}(h:yJ n i=Y j):seqIndex? i n=Y j/\j<n/\-(n:Int)<=i/\i<n:=by
 unfold yJ at h;by_cases b:0<=i
 .rw[ah b] at h;by_cases a:i<n
  .rw[ah a] at h;have e:i.toNat=j:=bB h;exact{by rw[seqIndex_of b a,e],by omega,by omega,a}
  .rw[aq a] at h;cases h
 .rw[aq b] at h;by_cases a:-(n:Int)<=i
  .rw[ah a] at h;have e:(i+n).toNat=j:=bB h;exact{by rw[seqIndex_neg (by omega) a,e],by omega,a,by omega}
  .rw[aq a] at h;cases h
def Ad{a:List α}{i:Int}{v:α}(h:q9 a i=Y v):∃j,seqIndex? i a.length=Y j/\a[j]?=Y v/\j<a.length/\-(a.length:Int)<=i/\i<a.length:=by
 unfold q9 at h;cases e:yJ a.length i with
 |none=>rw[e] at h;cases h
 |some j=>rw[e] at h;obtain⟨f,d,c,b⟩:=Gm e;exact{(j),f,h,d,c,b}
def rP(b:Expr):Prop:=∀o i,subscripted b false o i=operate [o,i] (getItem o i)
def Gn(X:Cx)(r:R2):Prop :=
 ∀(b a:Expr) (pins:Ax) (s:Shared) (σ:St) (H:Hp) (x y:V) (v u:Value) (Q:VK),c6 X pins σ H s->fT x v->fT y u->r x y H Q ->
  subscripted a false v u=operate [v,u] (getItem v u)->(zw X) (subscriptTail b a v u) (EP X pins σ Q) X.xe s
def Sr(X:Cx)(b:String)(r:V->List V->Hp->VK->Prop):Prop :=
 ∀(a:Ax) (s:Shared) (σ:St) (H:Hp) (x:V) (xs:List V) (v:Value) (us:Lw) (Q:VK),c6 X a σ H s->fT x v->fK xs us->r x xs H Q ->
  (zw X) (call (.builtin b) (v::us)) (EP X a σ Q) X.xe s
section
variable {a:Expr}{ta tb:TE}
def Gn.or{r g:R2}(h:Gn X r)(j:Gn X g):Gn X (λx y H Q=>r x y H Q\/g x y H Q):=by
 intro a b c s d H x y v u Q I f e q i;rcases q with q|q
 .exact h a b c s d H x y v u Q I f e q i
 .exact j a b c s d H x y v u Q I f e q i
def Ss{r:R2}(i:Gn X r)(k:PE X a ta)(j:PE X b tb)(g:rP b):PE X (.Subscript a b pos) (WY r ta tb):=by intro c s d H Q I h;exact Subscript_ (Uj k j I h λv u s2 x y m l f e q=>i a b c s2 d m x y v u Q l f e q (g _ _))
def Xc(K:Fg):R2:=λx y H Q=>∃p a i v,x=.ref p/\y=.int i/\nE K H p a/\q9 a i=Y v/\Q v H
def Xd(K:Fg):R2:=λx y H Q=>∃p a i v,x=.ref p/\y=.int i/\pB K H p a/\q9 a i=Y v/\Q v H
def Xe:R2:=λx y H Q=>∃z i c,x=.str z/\y=.int i/\z.length<=sizeLine/\q9 z.cps.toList i=Y c/\Q (.str {#[c]}) H
def Gp:Gn X (Xc X.K):=by
 intro d e a s m H x y v u Q I D C h n;sleep 1;obtain⟨p,N,i,z,rfl,rfl,E,G,q⟩:=h;sleep 2;cases D;obtain⟨t,rfl⟩:=C;obtain⟨k,r,g,O⟩:=I.list E;sleep 1;obtain⟨j,c,M,R,L,J⟩:=Ad G;sleep 2;obtain⟨w,A,f⟩:=r.get M;have F:=r.length;have P:=q5;have b:EP X a m Q w s:={(z),H,I,f,q}
 by_cases o:0<=i
 .have l:i.toNat=j:=by
   rw[seqIndex_of o J] at c;exact bB c
  exact item_listR g.isList o (by omega) (by rw[l];simpa using A) b n
 .have l:(i+(k.toArray.size:Int)).toNat=j:=by
   rw[seqIndex_neg (by omega) L] at c;rw[aA,<-F];exact bB c
  exact subscriptTail_builtinR (x:=w) g.isList.typeIs slot_list_getitem.lookup
   (wpAny_getItem_list_neg (Q:=λr B=>r=w/\EP X a m Q r B) g.isList (by omega) (by rw[aA]<;>omega) (by omega) (by rw[l];simpa using A) {(rfl),b}) n
def Uw:Gn X (Xd X.K):=by
 intro b c a s f H x y v u Q I m l h o;sleep 1;obtain⟨p,G,i,z,rfl,rfl,A,C,q⟩:=h;sleep 2;cases m;obtain⟨t,rfl⟩:=l;obtain⟨n,r,g,J⟩:=I.tuple A;sleep 1;obtain⟨j,E,D,O,N,M⟩:=Ad C;sleep 2;obtain⟨w,F,d⟩:=r.get D;have B:=r.length;have L:=q5;have e:EP X a f Q w s:={(z),H,I,d,q}
 exact subscriptTail_builtinR (x:=w) g.typeIs slot_tuple_getitem.lookup
  (getItem_tuple (j:=j) (Q:=λr k=>r=w/\EP X a f Q r k) g (by omega) (by omega) (by rw[aA,<-B];exact E) (by simpa using F) {(rfl),e}) o
def Ux:Gn X Xe:=by
 intro a b d s A H x y v u Q I g f h k;sleep 1;obtain⟨z,i,c,rfl,rfl,C,m,q⟩:=h;sleep 2;obtain⟨t,rfl⟩:=g;obtain⟨B,rfl⟩:=f;sleep 1;obtain⟨j,e,p,E,o,n⟩:=Ad m;sleep 2;have l:z.cps.toList.length=z.length:=by simp[Str.length]
 rw[l] at e o n;have D:=q5;exact tail_any (dQ s z t) slot_str_getitem.lookup (getItem_str (c:=c) (by have w:decide (i < -(2 ^ 63:Int))=false:=az (by omega);have r:decide (i >= 2 ^ 63)=false:=az (by omega);rw[w,r,df]) (by rw[e];simpa using p) {.str {#[c]},H,I.tok _,{_,rfl},q}) k
def rIx(K:Fg):R2:=λx y H Q=>Xc K x y H Q\/Xd K x y H Q\/Xe x y H Q
def Uy:Gn X (rIx X.K):=Gp.or (Uw.or Ux)
def El(a:Lw)(n j:Nat)(u:Value):Obj.mapSeq (·.setIfInBounds j u) (zl a.toArray n)={ cls:=.type "list",data:=.seq (a.set j u).toArray n }:=by simp[Obj.mapSeq]
theorem c6.lst{a:Ax}{c:St}{H:Hp}{s:Shared}{p:Addr}{b:List V}(I:c6 X a c H s)(h:H p=Y (.lst b)):
  ∃(its:Lw) (n:Nat),fK b its/\s.heap.get? p=Y (zl its.toArray n)/\b.length<=sizeLine:=by
 obtain⟨z,its,n,r,e⟩:=I.gR p _ h;exact{(its),n,r,e,z}
def c6.Uz{p:Addr}{j d:List V}{c a:Lw}{g:Nat}{f:Obj->Obj} (I:c6 X pins σ H s) (h:H p=Y (.lst j))
  (l:s.heap.get? p=Y (zl c.toArray n)) (i:f (zl c.toArray n)=(zl a.toArray g)) (r:fK d a) (k:d.length<=sizeLine) (t:Nat):
  c6 X pins σ (upd H p (.lst d)) { s with heap:=s.heap.update p f,toks:=t }:=by
 have e:(s.heap.update p f).get? p=Y (zl a.toArray g):=by rw[a9 f l (by rw[i]<;>rfl),i]
 refine I.write (x:=p) (e:=p) (by rw[h];trivial) (.inl rfl) (λb u hb q=>(aP _ _ (Ne.symm hb)).trans q) {_,e} ?_;exact{(k),a,g,r,e}
def Xf:V->V->V->Hp->(Hp->Prop)->Prop:=λo i v H Q=>∃p a k j,o=.ref p/\i=.int k/\H p=Y (.lst a)/\yJ a.length k=Y j/\Q (upd H p (.lst (a.set j v)))
def Kc:BW X Xf:=by
 intro a s y H o i v F G u Q I B C A h;sleep 1;obtain⟨p,z,k,j,rfl,rfl,g,E,q⟩:=h;sleep 2;cases B;obtain⟨t,rfl⟩:=C;obtain⟨b,n,r,d,D⟩:=I.lst g;obtain⟨c,K,m,l⟩:=Gm E;have e:=r.length;have J:=q5;have x:c6 X a y (upd H p (.lst (z.set j v))) { s with heap:=s.heap.update p (Obj.mapSeq (·.setIfInBounds j u)) } :=
  I.Uz g d (El b n j u) (r.set A j) (by rw[d8];exact D) s.toks
 by_cases w:0<=k
 .have f:k.toNat=j:=by
   rw[seqIndex_of w l] at c;exact bB c
  exact W.ki_setAt d w (by omega) (by rw[aA,<-e];exact l) (by rw[f];exact{_,x,q})
 .have f:(k+(b.toArray.size:Int)).toNat=j:=by
   rw[seqIndex_neg (by omega) m] at c;rw[aA,<-e];exact bB c
  exact W.ki_setBack d (by omega) (by rw[aA,<-e];exact m) (by omega) (by rw[f];exact{_,x,q})
def Ae(a b:Option Int)(n:Nat):(sliceBounds a b Z n).1=((HT.j3 n 0 a:Nat):Int)/\(sliceBounds a b Z n).2.1=((HT.j3 n n b:Nat):Int)/\(sliceBounds a b Z n).2.2=1:=by
 refine{?_,?_,rfl}
 .cases a with
  |none=>simp[sliceBounds,HT.j3]
  |some i=>
   simp only[sliceBounds,HT.j3,Option.getD_none,show (1:Int) > 0 by decide,dk];by_cases h:i<0
   .simp only[h,dk]<;>omega
   .simp only[h,fC]<;>omega
 .cases b with
  |none=>simp[sliceBounds,HT.j3]
  |some i=>
   simp only[sliceBounds,HT.j3,Option.getD_none,show (1:Int) > 0 by decide,dk];by_cases h:i<0
   .simp only[h,dk]<;>omega
   .simp only[h,fC]<;>omega
def x6(a:Lw)(b c:Option Int):slicePick a.toArray b c Z=((a.drop (HT.j3 a.length 0 b)).take (HT.j3 a.length a.length c - HT.j3 a.length 0 b)).toArray:=by obtain⟨f,e,d⟩:=Ae b c a.toArray.size;unfold slicePick;rw[f,e,d];simp only[sliceRange_one,pick_run,aA]<;>rfl
def Z5(K:Fg):V->Option Int->Option Int->Hp->VK->Prop:=λx c d H Q=>∃a b,x=.ref a/\nE K H a b/\∀p,H p=Z->Q (.ref p) (upd H p (.lst (B7 b c d)))
def Gq:Gk X (Z5 X.K):=by intro g s u H x v y w e f z Q I j t l k h;obtain⟨a,c,rfl,p,q⟩:=h;cases j;obtain⟨m,r,i,n⟩:=I.list p;have d:=r.length;refine{"list",_,slot_list_getitem.lookup,i.isList.typeIs,?_};refine wpAny_getItem_list_slice i.isList t l k .none (by simp) ?_ (by rw[aA]<;>omega);rw[x6,<-d];refine{.ref (zB s),_,I.laid (t':=s.toks) (o:=.lst (B7 c e f)) (λb ob q=>ae _ q) (aE _) ?_,rfl,q _ (I.gR.fresh (aE _))};exact{bx (uw c e f) n,_,0,(r.drop (HT.j3 c.length 0 e)).take (HT.j3 c.length c.length f - HT.j3 c.length 0 e),aF _ rfl}
def Af:jb X (.builtin "len") (λxs H Q=>∃p b,xs=[.ref p]/\(nE X.K H p b\/pB X.K H p b)/\Q (.int b.length) H):=by
 intro g s k H xs l Q I r h;obtain⟨p,b,rfl,c,q⟩:=h;obtain⟨u,rfl,i⟩:=rN r;cases i;have m:=q5;rcases c with c|c
 .obtain⟨f,d,e,j⟩:=I.list c;have a:=d.length;exact Calls.call_len_list e.isList (by simp only[aA]<;>omega) {.int b.length,H,I.tok _,{s.toks+1,by rw[aA,a]},q}
 .obtain⟨f,d,e,j⟩:=I.tuple c;have a:=d.length;exact len_tuple e (by simp only[aA]<;>omega) {.int b.length,H,I.tok _,{s.toks+1,by rw[aA,a]},q}
def Ag:jb X (.builtin "len") (λxs H Q=>∃z,xs=[.str z]/\z.length<=sizeLine/\Q (.int z.length) H):=by intro a s b H xs c Q I r h;obtain⟨z,rfl,d,q⟩:=h;obtain⟨u,rfl,t,rfl⟩:=rN r;have e:=q5;exact len_str (by omega) {.int z.length,H,I.tok _,{_,rfl},q}
def jb.or{f:Value}{r e:List V->Hp->VK->Prop}(h:jb X f r)(g:jb X f e):jb X f (λxs H Q=>r xs H Q\/e xs H Q):=by
 intro a s b H xs c Q I d q;rcases q with q|q
 .exact @h a s b H xs c Q I d q
 .exact @g a s b H xs c Q I d q
def Ah:jb X (.type "list") (λxs H Q=>∃p d,xs=[.ref p]/\(nE X.K H p d\/pB X.K H p d)/\∀l,H l=Z->Q (.ref l) (upd H l (.lst d))):=by
 intro i s C H xs E Q I r h;obtain⟨p,d,rfl,m,q⟩:=h;obtain⟨u,rfl,D⟩:=rN r;cases D;have v:∀(a:Lw),fK d a->d.length<=sizeLine->∀(c:Heap) (g:Nat),(∀b B,s.heap.get? b=Y B->c.get? b=Y B) ->
   c.get? (zB s)=Y { cls:=.type "list",dict:=Z,data:=.seq a.toArray g,slots:=#[] }->EP X i C Q (.ref (zB s)) { s with heap:=c }:=λa f k c g j e=>
  {.ref (zB s),_,I.laid (t':=s.toks) j (aE _) (show ia X.prog X.w _ c _ (.lst d) from {(k),a,g,f,e}),rfl,q _ (I.gR.fresh (aE _))}
 rcases m with m|m
 .obtain⟨a,f,x,k⟩:=I.list m;have t:=f.length;obtain⟨o,y,A,n,z⟩:=x.isList;exact call_list_seq p (.inl rfl) y A z (λc g j e=>v a f k c g j e) (by simp only[aA]<;>omega)
 .obtain⟨a,f,x,k⟩:=I.tuple m;have t:=f.length;obtain⟨o,y,A,n,z⟩:=x;exact call_list_seq p (.inr rfl) y A z (λc g j e=>v a f k c g j e) (by simp only[aA]<;>omega)
def Z6(K:Fg)(T:String)(x:V)(H:Hp):Prop:=match x with
 |.str _=>T="str"
 |.int _=>T="int"
 |.ref p=>(T="list"/\∃b,nE K H p b)\/(T="tuple"/\∃o,K.lookup p=Y o/\o.cls=.type "tuple"/\o.dict=Z) \/
   (T="dict"/\((∃a,H p=Y (.dK a))\/∃a,H p=Y (.dT a)))\/(T="set"/\∃S n,H p=Y (.set S n))
 |_=>False
def Kd{T:String}{x:V}{v:Value}(I:c6 X pins σ H s)(r:fT x v)(f:Z6 X.K T x H):
  s.TypeIs v T/\∀a,v=.ref a->∃l,s.heap.get? a=Y l/\l.dict=Z:=by
 cases x with
 |str z=>obtain⟨t,rfl⟩:=r;cases (show T="str" from f);exact{dQ s z t,λ_ e=>nomatch e}
 |int i=>obtain⟨t,rfl⟩:=r;cases (show T="int" from f);exact{typeIs_int s i t,λ_ e=>nomatch e}
 |ref p=>
  cases r;rcases f with ⟨rfl,w,q⟩ | ⟨rfl,o,b,u,h⟩ | ⟨rfl,b⟩ | ⟨rfl,S,n,b⟩
  .obtain⟨m,_,k,_⟩:=I.list q;refine{k.isList.typeIs,λa e=>?_};cases e;sleep 1;obtain⟨o,n,e,c,h,_⟩:=k;sleep 2;exact{(o),e,h}
  .refine{{o,I.og p o b,u},λa e=>?_};cases e;exact{o,I.og _ o b,h}
  .have z:∃o,s.heap.get? p=Y o/\o.ExactDict:=by
    rcases b with ⟨g,b⟩ | ⟨g,b⟩
    .obtain⟨_,_,_,_,o,_,_,e,d,_⟩:=I.gR p _ b;exact{(o),e,d}
    .obtain⟨_,_,_,_,o,_,_,e,d,_⟩:=I.gR p _ b;exact{(o),e,d}
   obtain⟨o,e,d⟩:=z;refine{{o,e,d.1},λa j=>?_};cases j;exact{o,e,d.2.1}
  .obtain⟨o,_,_,_,e,d,_⟩:=I.gR p _ b;refine{{o,e,d.1},λa j=>?_};cases j;exact{o,e,d.2.1}
 |_=>exact False.elim f
def Z7(K:Fg)(T:String)(r:V->List V->Hp->VK->Prop)(c:TE):TE:=λb H Q=>c b H λx a=>Z6 K T x a/\r x [] a Q
def tBM(K:Fg)(T:String)(r:V->List V->Hp->VK->Prop)(d:TE)(t:TA):TE:=λa H Q=>d a H λx b=>Z6 K T x b/\t a b λc e=>r x c e Q
variable {o:Expr}{to:TE}{t:TA}{name:Str}{T id:String}{r:V->List V->Hp->VK->Prop}
def UA(m:PlainAttrs T) (d:Slot T name id) (e:typeOf (.builtin id)=pure (.type "method_descriptor")) (p:Sr X id r) (n:PE X o to)
  (c:zr0 (attributeBase o name X.env (eval o X.env)=eval o X.env)) (b:zr0 ((apos.endLine==fQ.line)=true)):PE X (.Call (.Attribute o name apos) [] [] fQ) (Z7 X.K T r to):=by
 intro a s f H Q I h;refine wpAny_Call_method0_late c b (gY (@n a s f H _ I h) ?_);rintro v k ⟨x,u,i,g,j,l⟩;obtain⟨t,q⟩:=Kd i g j;exact{T,id,m,d,e,t,q,cM rfl (PySem.evalArgs_none (@p a k f u x [] v [] Q i g .nil l))}
def yK(B:PlainAttrs T) (f:Slot T name id) (j:typeOf (.builtin id)=pure (.type "method_descriptor")) (E:Sr X id r) (D:PE X o to) (F:PA X (e::es) t)
  (d:zr0 (attributeBase o name X.env (eval o X.env)=eval o X.env))
  (g:((backTo fQ (starEach (e::es) X.env)).all (λx=>!x.1)&&(backToKw fQ (keywordEach [] X.env)).all (λx=>x.1.isSome)
  &&decide ((e::es).length+([]:List Keyword).length+(if ([]:List Keyword).isEmpty then 0 else 1)<30))=true:=by rfl)
  (c:zr0 ((apos.endLine==fQ.line)=true)) (C:zr0 (zE e es X)) (b:zr0 ((backTo fQ (starEach es X.env)).any (·.1)=false)):
  PE X (.Call (.Attribute o name apos) (e::es) [] fQ) (tBM X.K T r to t):=by
 intro a s i H Q I h;refine wpAny_Call_method_late d g c rfl (gY (@D a s i H _ I h) ?_);rintro v w ⟨x,N,m,k,q,A⟩;obtain⟨J,G⟩:=Kd m k q;refine{T,id,B,f,j,J,G,?_};have l:=@F fQ a w i N _ m A;rw[C] at l ⊢;refine cM (by show (false||(backTo fQ (starEach es X.env)).any (·.1))=false;rw[b]<;>rfl) (dY ?_);exact gY l <| by rintro p u ⟨n,M,L,y,z⟩;exact @E a u i M x n v p Q L k y z
end
def Z8(X:Cx)(b:String)(r:V->List V->Hp->VK->Prop):Prop :=
 ∀(a:Ax) (s:Shared) (σ:St) (H:Hp) (x:V) (xs:List V) (v:Value) (us:Lw) (Q:VK),c6 X a σ H s->fT x v->fK xs us->r x xs H Q ->
  (zw X) (call (.builtin b) (v::us)) (EP X a σ Q) X.xe s
def fK.one:∀{x:V}{a:Lw},fK [x] a->∃u,a=[u]/\fT x u
 |_,_,.cons r .nil=>{_,rfl,r}
def fK.zero:∀{a:Lw},fK [] a->a=[]
 |_,.nil=>rfl
theorem fK.dropLast{a:List V}{b:Lw}(h:fK a b):fK a.dropLast b.dropLast:=by
 induction h with
 |nil=>exact .nil
 |cons r t c=>
  cases t with
  |nil=>exact .nil
  |cons q d=>exact .cons r c
theorem fK.rep{a:List V}{b:Lw}(h:fK a b):∀k:Nat,fK (List.replicate k a).flatten (List.replicate k b).flatten
 |0=>.nil
 |k+1=>by rw[bT,bT,cG,cG];exact fK.append h (fK.rep h k)
def Em(l:List α):l.eraseIdx (l.length - 1)=l.dropLast:=by
 induction l with
 |nil=>rfl
 |cons a r c=>
  cases r with
  |nil=>rfl
  |cons b r=>
   have e:(a::b::r).length - 1=((b::r).length - 1)+1:=by have f:(a::b::r).length=r.length+2:=rfl;have d:(b::r).length=r.length+1:=rfl;omega
   rw[e,List.eraseIdx_cons_succ,c]
   all_goals rfl
theorem yL(a:Lw):∀(k:Nat) (acc:Lw),
  List.foldl (λx1 x2=>x1++x2) acc.toArray (List.replicate k a.toArray)=(acc++(List.replicate k a).flatten).toArray
 |0,acc=>by simp
 |k+1,acc=>by
  have e:acc.toArray++a.toArray=(acc++a).toArray:=by simp
  have b:(acc++a)++(List.replicate k a).flatten=acc++(List.replicate (k+1) a).flatten:=by rw[bT,cG,aW]
  rw[<-b,<-yL a k (acc++a),<-e,bT,List.foldl_cons]
section
variable {l b:Addr}{xs ys zs:List V}
def c6.UB{a its':Lw}{f:Array Value->Array Value}{b:Nat} (I:c6 X pins σ H s) (i:H l=Y (.lst xs))
  (e:s.heap.get? l=Y (zl a.toArray n)) (h:f a.toArray=its'.toArray) (d:fK ys its') (c:ys.length<=sizeLine):
  c6 X pins σ (upd H l (.lst ys)) { s with heap:=s.heap.update l (Obj.mapSeq f),toks:=b }:=by
 have q:=PySem.IsL.update e f;rw[h] at q;refine I.write (x:=l) (e:=l) (by rw[i];exact trivial) (.inl rfl) (λj u hb g=>(aP s.heap (Obj.mapSeq f) (Ne.symm hb)).trans g) {_,q} ?_;exact{(c),its',_,d,q}
def c6.UC{a:Lw}{t':Nat}(I:c6 X pins σ H s)(c:fK ys a)(b:ys.length<=sizeLine):
  c6 X pins σ (upd H (zB s) (.lst ys)) { s with heap:=s.heap.push { cls:=.type "list",data:=.seq a.toArray },toks:=t' } :=
 I.laid (λ_ _ q=>ae _ q) (aE _) {b,a,0,c,aF _ rfl}
theorem c6.fresh(I:c6 X pins σ H s):H (zB s)=Z:=I.gR.fresh (aE _)
def c6.Ke(I:c6 X pins σ H s)(b:H l=Y (.lst xs)):xs.length<=sizeLine/\∃(a:Lw) (n:Nat),fK xs a/\xs.length=a.length/\s.heap.get? l=Y (zl a.toArray n):=by obtain⟨z,a,n,r,e⟩:=I.gR l _ b;exact{z,a,n,r,r.length,e}
def B8(h:n<=sizeLine):Builtin.List.listTooLong n=false:=by unfold Builtin.List.listTooLong;exact az (by omega)
end
section
def Pd:V->List V->Hp->VK->Prop:=λx b H Q=>∃l a y,x=.ref l/\b=[y]/\H l=Y (.lst a)/\a.length<sizeLine/\Q .kn (upd H l (.lst (a++[y])))
theorem yM:Z8 X "list.append" Pd:=by intro b s i H x k v m Q I d f h;sleep 1;obtain⟨l,j,y,rfl,rfl,c,o,q⟩:=h;sleep 2;cases d;obtain⟨u,rfl,g⟩:=f.one;sleep 1;obtain⟨z,a,n,r,p,e⟩:=I.Ke c;sleep 2;refine cH F.slot_list_append {_,e,rfl} F.entry_list_append (F.args_list_append_2 _ _) (PySem.list_append l a.toArray n u (by rw[aA];omega)) {e,?_};refine{.kn,_,I.UB (its':=a++[u]) c e (by simp) (r.append (.cons g .nil)) ?_,rfl,q};rw[aL,List.length_singleton];omega
def Pe:V->List V->Hp->VK->Prop:=λx d H Q=>∃l b c a,x=.ref l/\d=[.ref b]/\H l=Y (.lst c)/\H b=Y (.lst a)/\c.length+a.length<=sizeLine/\Q .kn (upd H l (.lst (c++a)))
theorem Ij:Z8 X "list.extend" Pe:=by
 intro g s A H x E v G Q I j k h;sleep 1;obtain⟨l,b,D,B,rfl,rfl,i,w,J,q⟩:=h;sleep 2;cases j;obtain⟨u,rfl,m⟩:=k.one;cases m;sleep 1;obtain⟨z,c,n,r,K,e⟩:=I.Ke i;sleep 2;sleep 1;obtain⟨C,a,p,o,t,y⟩:=I.Ke w;sleep 2;have f:c.toArray.size+a.toArray.size<=sizeLine:=by rw[aA,aA];omega
 have d:¬ (!c.toArray.isEmpty&&Builtin.List.listTooLong (c.toArray.size+a.toArray.size))=true:=by rw[B8 f,Bool.and_false];exact aS
 refine cH F.slot_list_extend {_,e,rfl} F.entry_list_extend (F.args_list_extend_2 _ _)
  (AutoSeq1.list_extend_list_list_0 l c.toArray n b a.toArray p d (by rw[aA];omega) (by omega)) {e,y,?_}
 refine{.kn,_,I.UB (its':=c++a) i e (by simp) (r.append o) ?_,rfl,q};rw[aL];omega
def Z9:V->List V->Hp->VK->Prop:=λx b H Q=>∃l a y,x=.ref l/\b=[]/\H l=Y (.lst a)/\a[a.length - 1]?=Y y/\Q y (upd H l (.lst a.dropLast))
theorem UD:Z8 X "list.pop" Z9:=by
 intro d s p H x w v A Q I g i h;sleep 1;obtain⟨l,t,y,rfl,rfl,f,k,q⟩:=h;sleep 2;cases g;have c:=i.zero;subst c;sleep 1;obtain⟨z,a,n,r,o,e⟩:=I.Ke f;sleep 2;obtain⟨u,m,j⟩:=r.get k;have b:a.toArray[a.toArray.size - 1]?=Y u:=by show a.toArray[a.length - 1]?=Y u;rw[<-Array.getElem?_toList,<-o];exact m
 refine cH F.slot_list_pop {_,e,rfl} F.entry_list_pop (F.args_list_pop_1 _) (MeetsSeq.list_pop_last l a.toArray n u b (by rw[aA];omega)) {e,?_};refine{y,_,I.UB (its':=a.dropLast) f e ?_ r.dropLast ?_,j,q}
 .show a.toArray.eraseIdxIfInBounds (a.toArray.size - 1)=a.dropLast.toArray;rw[aA,List.eraseIdxIfInBounds_toArray,Em]
 .rw[List.length_dropLast];omega
def a_:R2:=λx y H Q=>∃l k a,x=.ref l/\y=.int k/\H l=Y (.lst a)/\-(2 ^ 63)<=k/\k<2 ^ 63/\a.length*k.toNat<=sizeLine /\
 ∀p,H p=Z->Q (.ref p) (upd H p (.lst (List.replicate k.toNat a).flatten))
def Pf(a:List α)(k:Nat):(List.replicate k a).flatten.length=k*a.length:=by
 induction k with
 |zero=>simp
 |succ k b=>rw[bT,cG,aL,b,Nat.succ_mul,Nat.add_comm]
theorem UE:kI X (binaryOp .Mult) a_:=by
 intro o s J H x y v u Q I A w h;sleep 1;obtain⟨l,k,K,rfl,rfl,C,E,D,p,q⟩:=h;sleep 2;cases A;obtain⟨t,rfl⟩:=w;sleep 1;obtain⟨z,b,n,r,B,e⟩:=I.Ke C;sleep 2;have f:b.toArray.size*k.toNat<=sizeLine:=by rw[aA,<-B];exact p
 have i:¬ b.toArray.size*k.toNat > (2 ^ 63 - 1) / 8:=by
  have:(sizeLine:Nat)<=(2 ^ 63 - 1) / 8:=by decide
  omega
 have g:¬ (!Builtin.List.listFitsIndex k)=true:=by rw[fitsIndex_both E D];exact aS
 have c:¬ Builtin.List.listTooLong (b.toArray.size*k.toNat)=true:=by rw[B8 f];exact aS
 have d:List.foldl (λx1 j=>x1++j) #[] (List.replicate (if b.toArray.isEmpty=true then 0 else k.toNat) b.toArray)=(List.replicate k.toNat b).flatten.toArray:=by
  have G:∀m:Nat,List.foldl (λx1 j=>x1++j) #[] (List.replicate m b.toArray)=(List.replicate m b).flatten.toArray:=λm=>by have:=yL b m [];rw[bE] at this;exact this
  rw[G];cases b with
  |nil=>simp
  |cons a L=>rw[aq (by simp)]
 refine wpAny_binaryOp_repeat_ref (T:="list") (U:="int") (by decide) {_,e,rfl} (λs'=>typeIs_int s' k t) noFill_list_mul F.fills_int_mul F.slot_int_rmul repeat_list F.slot_int_index.lookup
  (cH F.slot_int_rmul (typeIs_int s k t) F.entry_int_rmul (F.args_int_rmul_2 _ _) (int___rmul___int_list k t l b.toArray n)
   {e,rfl,{_,e,rfl},cH F.slot_list_mul {_,e,rfl} F.entry_list_mul (F.args_list_mul_2 _ _) (AutoListH.list___mul___list_int_3 l b.toArray n k t g i c) {e,?_}})
 rw[d];exact{.ref _,_,I.UC (t':=s.toks) (r.rep k.toNat) (by rw[Pf,Nat.mul_comm];exact p),rfl,q _ I.fresh}
end
section
variable {prog:Program}
end
end L2
namespace Zf
open PySem PySem.W PySem.Calls PyProof.Rows
def vc{P:Params}:∀(c:List Int) (vs:Lw),WellAll P h vs (c.map WData.int)->IntsAre vs c:=by
 intro c;induction c with
 |nil=>intro vs w;rw[bj] at w;cases w;exact .nil
 |cons n c d=>
  intro vs w;rw[af] at w;cases w with
  |cons a b=>cases a;exact .cons _ _ (d _ b)
def Ik{l:OpenLaw} (x:l.most=Y n) {P:Params}{b:List WData}{e:Lw}
  (f:l.row.toRowW.claim.pre b=true) (m:WellAll P h e b):
  ∃a p c,e=[Value.ref a]/\b=[WData.list (c.map WData.int)]/\h.get? a=Y { cls:=.type "list",data:=.seq p.toArray }/\IntsAre p c/\c.length<=n:=by
 have o:WShape.hasAll [] b [.list .int]=true:=(pre_splitW f).1;have s:l.pre.holds [] { args:=b }=true:=(pre_splitW f).2;obtain⟨d,r,rfl,A,z⟩:=hasAllW_cons o;obtain rfl:=hasAllW_nil z;obtain⟨B,rfl,y⟩:=hasW_list A;obtain⟨c,rfl⟩:=items_int y;have g:c.length<=n:=by
  unfold OpenLaw.pre at s;have k:(WTm.not (.lt (.lit (zi n)) (.len (.arg 0)))).holds [] { args:=[.list (c.map .int)] }=true:=by have k:=(holds_andW s).1;rw[x] at k;exact k
  have j:=condW_of k (w_not (w_lt w_lit (w_len_list (w_arg rfl))));rw[aj] at j;refine dR λq=>?_;have v:(n:Int)<((c.length:Nat):Int):=by omega
  first
   | (rw[aU v] at j;exact absurd j (by decide))
   | (simp at j;omega)
 cases m with
 |cons u t=>
  cases t;cases u with
  |list w i=>exact{_,_,c,rfl,rfl,w,vc c _ i,g}
def Il(l:OpenLaw)(a:List WData):l.row.toRowW.claim.post a (.bool true) a=true :=
 postW_of (r:=l.row.toRowW) (X:=(true==true))
  (show WShape.has [] (.bool true) .bool=true by first|rfl|decide|simp[WShape.has,WShape.arms,WShape.armsAll])
  (show (WTm.eq .res (.lit (.bool true))).value [] { args:=a,res:=Y (.bool true),after:=a }=Y (.bool (true==true)) from w_eq_bool (w_res rfl) w_lit) rfl
section
variable {prog:Program}{K:Frag}
end
end Zf
namespace L2
open PySem PySem.Spec PyProof.Rows
theorem yN:∀{a:Lw}{b:List Int},IntsAre a b->fK (b.map V.int) a
 |_,_,.nil=>.nil
 |_,_,.cons n t h=>.cons {(t),rfl} (yN h)
def Xg(H:Hp):Prop:=∀b,H b=Z\/∃o a,H b=Y (.qY o (.lst a))
def Kf{P:Program}{K:Fg}{O:Str->Ow}{CX:Jy}{k:Nat}{U:Addr}{sp:Sp}{c:Shared}{l:Lw}{y:List Int}
  (KX:K.In c.heap) (D:c.heap.Ns mainGlobals mg) (g:c.heap.Ns builtinsNs O) (S:∀x:Str,x≠"__name__"->O x=bootBuiltins x) (E:c.heap.NoLimit) (hg:c.gens=#[])
  (M:c.heap.get? a=Y { cls:=.type "list",data:=.seq l.toArray }) (hi:IntsAre l y) (hl:y.length<=sizeLine) (hr:hG k callerA)
  (F:∀base:Heap,K.In base->base.Ns mainGlobals mg->j6 P w K mg base CX k U fd [x] sp) (p:∀(s:Shared) (u:Value),BindsTo s fd {[u],[]} [(x,u)])
  (Q:∀H:Hp,Xg H->nE K H a (y.map V.int)->sp [.ref a] H (λv _=>v=.bl true) λ_ _ _=>False)
  (T:∀H e s',CX [] H c (λ_ _ _=>False) e s'->False):
  codeAny (model P w) callerA (.call (.ref U) {[.ref a],[]}) (λr s'=>r=.ok (.ret (.bool true))/\OldK c.heap s'.heap/\s'.os=c.os/\AllBare s'.gens) c:=by
 have rv:=yN hi;have A:=hi.length;have j:∀H:Hp,Xg H->nE K H a (y.map V.int)->nS P w H c.heap->(∀b,H b≠Z->b=a)->(H a≠Z->K.lookup a=Z) ->
   codeAny (model P w) callerA (.call (.ref U) {[.ref a],[]}) (λr s'=>r=.ok (.ret (.bool true))/\OldK c.heap s'.heap/\s'.os=c.os/\AllBare s'.gens) c:=by
  intro H hO hS C hA hK;have f:∀{b:Addr}{o:Obj},c.heap.get? b=Y o->H b=Z->(z7 c.heap H).get? b=Y o:=λe n=>JF e n;have N:∀{b:Addr}{o:Obj}{I:Array DictEntry}{J:Nat},c.heap.get? b=Y o->o.data=.dict I J->H b=Z:=λ{b o I J} e d=>by
   cases q:H b with
   |none=>rfl
   |some u=>have W:b=a:=hA b (by rw[q];simp);subst W;rw[M] at e;cases e;have d':Data.seq l.toArray _=Data.dict I J:=d;cases d'
  have i:∀{b:Addr}{m:Str->Ow},c.heap.Ns b m->(z7 c.heap H).Ns b m:=λ{b m} ⟨o,I,J,e,d,r⟩=>{o,I,J,f e (N e d),d,r}
  have G:K.In (z7 c.heap H):=λb o e=>f (KX b o e) (by
   cases q:H b with
   |none=>rfl
   |some u=>have W:b=a:=hA b (by rw[q];simp);subst W;rw[hK (by rw[q];simp)] at e;cases e)
  have hM:Mod K mg (z7 c.heap H):={G,i D,{O,i g,S},by obtain⟨mc,h1,h2⟩:=E;exact{mc,i h1,h2}}
  have e0:vS P w K mg (z7 c.heap H) callerA [] c H:={rfl,hM,λb o e=>OS e,Nat.le_of_eq (HX _ _),trivial,λb g=>absurd (show b∈([]:List Addr) from g) (by simp),C,.of_eq hg}
  refine b8 ((F _ G (i D)).run callerA [] c H {[.ref a],[]} [.ref a] [.ref a] _ _ hr e0 (p c (.ref a)) (.cons rfl .nil) (Q H hO hS)) λr s' h=>?_;cases r with
  |error e=>exact(T H e s' h).elim
  |ok fl=>
   cases fl with
   |next=>exact False.elim h
   |brk=>exact False.elim h
   |cont=>exact False.elim h
   |ret u=>
    sleep 1;obtain⟨v,H',os,L,X,B,r',q⟩:=h;sleep 2;have q':v=.bl true:=q;subst q';obtain rfl:u=Value.bool true:=r';refine{rfl,OldK.of_keep λb o e=>?_,os,L};cases q:H b with
    |none=>exact X.keep b o e q (by intro z;exact absurd (show b∈([]:List Addr) from z) (by simp)) (by simp)
    |some u=>
     rcases hO b with z | ⟨ob,xs,z⟩
     .rw[q] at z;cases z
     .have z2:=X.m5 b ob _ z;obtain⟨e1,_⟩:=C b _ z;obtain⟨e2,_⟩:=B b _ z2;rw[e] at e1;cases e1;exact e2
 cases R:K.lookup a with
 |some o=>have e:=KX a o R;rw[M] at e;cases e;refine j (λ_=>Z) (λ_=>.inl rfl) (.inr {_,l.toArray,_,R,rfl,rfl,rfl,by rw[aA,A];exact hl,by simpa using rv}) (λb u z=>by have t:(Z:Option HO)=Y u:=z;cases t) (λb z=>absurd rfl z) λz=>absurd rfl z
 |none=>
  refine j (λb=>if b=a then Y (.qY { cls:=.type "list",data:=.seq l.toArray } (.lst (y.map V.int))) else Z) (λb=>?_) (.inl (.inr {{ cls:=.type "list",data:=.seq l.toArray },ah rfl})) (λb u z=>?_) (λb z=>?_) λ_=>R
  .by_cases g:b=a
   .exact .inr {_,_,ah g}
   .exact .inl (aq g)
  .by_cases g:b=a
   .have t:=(ah g).symm.trans z;cases t;subst g;exact{M,by rw[aj];exact hl,l,_,rv,M}
   .have t:=(aq g).symm.trans z;cases t
  .by_cases g:b=a
   .exact g
   .exact absurd (aq g) z
def lB(s:Stmt)(j:Nat):Stmt:=match s with
 |.ClassDef _ _ _ body _ _ _ _ _ _ _=>body.getD j (.Pass {(0),0,0,0})
 |_=>.Pass {(0),0,0,0}
def ma(s:Stmt):Arguments:=match s with
 |.FunctionDef _ a _ _ _ _ _ _ _ _=>a
 |_=>{ posonlyargs:=[],args:=[],vararg:=Z,kwonlyargs:=[],kw_defaults:=[],kwarg:=Z,defaults:=[] }
def gK(s:Stmt):List Stmt:=match s with
 |.FunctionDef _ _ b _ _ _ _ _ _ _=>b
 |_=>[]
def bC(s:Stmt):Scope:=match s with
 |.FunctionDef _ _ _ _ _ _ sc _ _ _=>sc
 |_=>{ kind:=.function,names:=[],isGenerator:=false,isCoroutine:=false }
abbrev vd:Jy:=λ_ _ _ _ _ _=>False
abbrev E0:XK:=λ_ _ _=>False
def rQ:om vd X E0:=λ_ _ _ _ _ _ _ h=>h.elim
structure BR (K:Fg) (x qual:Str) (st:Stmt) (f:Addr) (fd:FuncData):Prop where
 ex:∃(oc:Value) (od:Option Addr) (kV doc pm:Value) (an:Option Addr) (l4 ct:Value) (b_:Array Ow),
  fd=W.fnOf x qual (ma st) (gK st) (bC st) .none kV doc pm an l4 ct/\K.lookup f=Y {oc,od,.func fd,b_}/\W.codeIn K l4 qual=true
 kp:W.keepIn K (.ref f)=true
section
variable {P:Program}{K:Fg}
theorem BR.ok{a:Str}{f:Addr}{N:Lr}{k:Nat}{c:Sp} (F:BR K x a st f fd) (S:gU N ps (bC st)) (d:∀vs H Q E,c vs H Q E->vs.length=ps.length)
  (b:∀(l4:Value) (A:Around) (outer:List Env) (s:Shared) (H:Hp) (vs:List V) (Q:VK) (E:XK),hG k (A.deeper (envOfC a (bC st) (zB s) f l4))->c vs H Q E ->
   ∃t,xZ (q8 vd P w K mg base N a (bC st) f l4 A outer s H E).Sl (gK st) t/\t { nx:=λ_ H'=>Q .kn H',rt:=Q } (kA N vs) H):j6 P w K mg base vd (k+1) f fd ps c:=by
 sleep 1;obtain⟨p,o,r,m,n,v,l4,u,i,rfl,j,g⟩:=F.ex;sleep 2;refine Ka j g S d λA outer s H vs Q E l e=>?_;obtain⟨t,h,q⟩:=b l4 A outer s H vs Q E l e;exact{t,h.Sl,q}
theorem BR.binds{a:Str}{f:Addr} (F:BR K x a st f fd)
  (h:∀(kV doc pm:Value) (an:Option Addr) (l4 ct:Value) (us:Lw),us.length=ps.length->bindArgs (W.fnOf x a (ma st) (gK st) (bC st) .none kV doc pm an l4 ct) {us,[]}=pure (ps.zip us)):jc K fd ps []:=by
 sleep 1;obtain⟨e,d,kV,doc,pm,an,l4,ct,b,rfl,g,c⟩:=F.ex;sleep 2;exact .all (h kV doc pm an l4 ct)
def Ai{a:Str}{f:Addr}{n:Value}{m j:Option Addr}{e:Array Ow}{h d g b i:Value} (l:K.lookup f=Y {n,m,.func (W.fnOf x a (ma st) (gK st) (bC st) .none h d g j b i),e})
  (c:W.codeIn K b a=true) (k:W.keepIn K (.ref f)=true):BR K x a st f (W.fnOf x a (ma st) (gK st) (bC st) .none h d g j b i):={{(n),m,h,d,g,j,b,i,e,rfl,l,c},k}
end
def dn(H H':Hp):Prop:=∀b o,H b=Y o->H' b=Y o
def dn.refl(H:Hp):dn H H:=λ_ _ h=>h
def dn.trans{e d:Hp}(a:dn H e)(b:dn e d):dn H d:=λc o h=>b c o (a c o h)
def dn.seq{K:Fg}{b:List V}(e:dn H H')(h:nE K H a b):nE K H' a b:=by
 rcases h with (h | ⟨o,h⟩)|h
 .exact .inl (.inl (e _ _ h))
 .exact .inl (.inr {o,e _ _ h})
 .exact .inr h
section
variable {κ:Type} [DecidableEq κ]
def nW(a:List (κ×V))(k:κ):Option V:=(a.find? λb=>decide (b.1=k)).map (·.2)
def m8(a:List (κ×V))(k:κ)(v:V):List (κ×V) :=
 if (a.any λb=>decide (b.1=k))=true then a.map (λb=>if b.1=k then (b.1,v) else b) else a++[(k,v)]
def rR{p:κ×V}{r:List (κ×V)}{k:κ}(e:p.1=k):nW (p::r) k=Y p.2:=by simp[nW,bV,e]
def pF{p:κ×V}{r:List (κ×V)}{k:κ}(e:¬ p.1=k):nW (p::r) k=nW r k:=by simp[nW,bV,e]
theorem B9(k:κ):∀a:List (κ×V),(a.any λb=>decide (b.1=k))=(nW a k).isSome
 |[]=>rfl
 |p::r=>by
  rw[bQ];by_cases e:p.1=k
  .simp only[rR e,aU e,Bool.true_or,Option.isSome_some]
  .rw[pF e,az e,Bool.false_or];exact B9 k r
def ng(a:List (κ×V))(k:κ)(v:V):(m8 a k v).length<=a.length+1:=by
 unfold m8;split
 .rw[aj];omega
 .rw[aL,ay,d9];omega
def o6.nX{o:Option V}{u:Ow}(r:o6 o u):o.isSome=u.isSome:=by
 cases o with
 |none=>cases u with
  |none=>rfl
  |some _=>exact(show False from r).elim
 |some _=>cases u with
  |none=>exact(show False from r).elim
  |some _=>rfl
theorem o6.getD{o:Option V}{u:Ow}{d:V}{a:Value}(r:o6 o u)(b:fT d a):fT (o.getD d) (u.getD a):=by
 cases o with
 |none=>cases u with
  |none=>exact b
  |some _=>exact(show False from r).elim
 |some _=>cases u with
  |none=>exact(show False from r).elim
  |some _=>exact r
def KV.val{a:List (κ×V)}{f:List (κ×Value)}(r:KV a f)(k:κ):o6 (nW a k) (valueAt f k):=by
 unfold KV at r;induction r with
 |nil=>exact aZ
 |@cons p q l c h t i=>
  obtain⟨g,j⟩:=h;by_cases e:p.1=k
  .have d:q.1=k:=g.symm.trans e;have b:valueAt (q::c) k=Y q.2:=by simp[valueAt,bV,d]
   rw[rR e,b];exact j
  .have d:¬ q.1=k:=λz=>e (g.trans z);have b:valueAt (q::c) k=valueAt c k:=by simp[valueAt,bV,d]
   rw[pF e,b];exact i
theorem KV.any{a:List (κ×V)}{vs:List (κ×Value)}(r:KV a vs)(k:κ):(a.any λb=>decide (b.1=k))=vs.any λb=>decide (b.1=k):=by
 unfold KV at r;induction r with
 |nil=>rfl
 |cons h t c=>rw[bQ,bQ,c,h.1]
def KV.En{b:List (κ×V)}{d:List (κ×Value)}(r:KV b d)(k:κ){y:V}(f:fT y u):
  KV (b.map λa=>if a.1=k then (a.1,y) else a) (d.map λa=>if a.1=k then (a.1,u) else a):=by
 unfold KV at r ⊢;induction r with
 |nil=>exact .nil
 |@cons p q l j h t g=>
  rw[af,af];refine .cons ?_ g;obtain⟨c,i⟩:=h;by_cases e:p.1=k
  .rw[ah e,ah (c.symm.trans e)];exact{(c),f}
  .rw[aq e,aq (λz=>e (c.trans z))];exact{(c),i}
def KV.put{a:List (κ×V)}{b:List (κ×Value)}(r:KV a b)(k:κ){y:V}(c:fT y u):KV (m8 a k y) (stored b k u):=by
 unfold m8 stored;rw[r.any k];by_cases e:(b.any λd=>decide (d.1=k))=true
 .rw[ah e,ah e];exact r.En k c
 .rw[aq e,aq e];exact Paired.snoc r {(rfl),c}
theorem KV.length{a:List (κ×V)}{vs:List (κ×Value)}(r:KV a vs):a.length=vs.length:=cS r
end
def oU{P:Program}{k:Key}(r:fT (kV k) u):(gp P w).is k u=true:=by
 cases k with
 |inl i=>obtain⟨t,e⟩:=(show ∃t,u=Value.int i t from r);subst e;exact BS P w i t
 |inr x=>obtain⟨t,e⟩:=(show ∃t,u=Value.str x t from r);subst e;exact pv P w x t
theorem yO{P:Program}{w:World}:∀{a:List Key}{b:Lw},fK (a.map kV) b->ItemsAre (gp P w) a b
 |[],_,r=>by rw[bj] at r;cases r;exact .nil
 |k::a,_,r=>by
  rw[af] at r;cases r with
  |cons h t=>exact .cons (oU h) (yO t)
abbrev KT(H:Hp):List (List Key×V)->List (List Key×Addr×Value)->Prop:=Paired λp q=>p.1=q.1/\H q.2.1=Y (.tup (p.1.map kV))/\fT p.2 q.2.2
def KT.val{a:List (List Key×V)}(r:KT H a xs)(k:List Key):o6 (nW a k) ((atKey xs k).map (·.2)):=by
 induction r with
 |nil=>exact aZ
 |@cons p q j c h t g=>
  obtain⟨f,_,i⟩:=h;by_cases e:p.1=k
  .have d:q.1=k:=f.symm.trans e;have b:atKey (q::c) k=Y q.2:=by simp[atKey,bV,d]
   rw[rR e,b];exact i
  .have d:¬ q.1=k:=λz=>e (f.trans z);have b:atKey (q::c) k=atKey c k:=by simp[atKey,bV,d]
   rw[pF e,b];exact g
def KT.En{a:List (List Key×V)}(r:KT H a xs)(k:List Key){y:V}(f:fT y u):
  KT H (a.map λc=>if c.1=k then (c.1,y) else c) (xs.map (putAt k u)):=by
 induction r with
 |nil=>exact .nil
 |@cons p q l j h t g=>
  rw[af,af];refine .cons ?_ g;obtain⟨b,d,i⟩:=h;unfold putAt;by_cases e:p.1=k
  .rw[ah e,ah (b.symm.trans e)];exact{(b),d,f}
  .rw[aq e,aq (λz=>e (b.trans z))];exact{(b),d,i}
def KT.put{a:List (List Key×V)}(r:KT H a xs)(k:List Key){b:Addr}{y:V}(f:H b=Y (.tup (k.map kV)))(c:fT y u):
  KT H (m8 a k y) (storedH xs k b u):=by
 have e:(a.any λd=>decide (d.1=k))=(atKey xs k).isSome:=by rw[B9,(r.val k).nX,eW]
 unfold m8 storedH;rw[e];by_cases q:(atKey xs k).isSome=true
 .rw[ah q,ah q];exact r.En k c
 .rw[aq q,aq q];exact Paired.snoc r {(rfl),f,c}
def KT.keeps{a:List (List Key×V)}(r:KT H a xs)(c:∀b ys,H b=Y (.tup ys)->H' b=Y (.tup ys)):KT H' a xs :=
 Paired.T5 r λ_ _ z=>{z.1,c _ _ z.2.1,z.2.2}
section
variable {P:Program}
def Su{u:HO}(b:nS P w H h)(e:Rd H a u):ia P w H h a u:=e.ok b
def rS{b:List (Key×V)}(d:nS P w H h)(e:Rd H a (.dK b)):b.length<=sizeLine/\(a==sysModules)=false/\∃c,KV b c/\h.DictOf (gp P w) a c :=
 show ia P w H h a (.dK b) from Su d e
def pG{b:List (Key×V)}(d:nS P w H h)(e:H a=Y (.dK b)):b.length<=sizeLine/\(a==sysModules)=false/\∃c,KV b c/\h.DictOf (gp P w) a c:=rS d (.inl e)
def tr{b:List Key}(d:nS P w H h)(e:H a=Y (.tup (b.map kV))):(tupleKind (gp P w)).is h b a:=by
 sleep 1;obtain⟨_,c,r,o,i,g,n,f⟩:=(show ia P w H h a (.tup (b.map kV)) from d a _ e);sleep 2
 exact{o,c.toArray,n,i,g,f,by simpa using yO r}
def vV{b:List (List Key×V)}(g:nS P w H h)(e:Rd H a (.dT b)):b.length<=sizeLine/\(a==sysModules)=false /\
  ∃d,KT H b d/\h.DictOfH (tupleKind (gp P w)) a d:=by
 sleep 1;obtain⟨z,y,d,r,o,A,B,v,u,s,n,k⟩:=(show ia P w H h a (.dT b) from Su g e);sleep 2
 refine{z,y,d,r,o,A,B,v,u,s,n,λx c=>?_,k};have f:∀{l:List (List Key×V)}{m:List (List Key×Addr×Value)},KT H l m->∀x∈m,(tupleKind (gp P w)).is h x.1 x.2.1:=by
  intro l m q;induction q with
  |nil=>intro x c;exact nomatch c
  |@cons p q D C i t j=>
   intro x c;rcases ag.mp c with e|c
   .subst e;exact tr g (by rw[<-i.1];exact i.2.1)
   .exact j x c
 exact f r x c
def Xh{b:List (List Key×V)}(d:nS P w H h)(e:H a=Y (.dT b)):b.length<=sizeLine/\(a==sysModules)=false /\
  ∃c,KT H b c/\h.DictOfH (tupleKind (gp P w)) a c:=vV d (.inl e)
end
def qA(H:Hp)(a:Addr)(y:V)(r:Option V):Prop :=
 (∃c k,Rd H a (.dK c)/\y=kV k/\r=nW c k)\/∃c k b,Rd H a (.dT c)/\y=.ref b/\H b=Y (.tup (k.map kV))/\r=nW c k
def Pg(H:Hp)(a:Addr)(y v:V)(d:Hp):Prop :=
 (∃c k,H a=Y (.dK c)/\y=kV k/\c.length<sizeLine/\d=upd H a (.dK (m8 c k v))) \/
 ∃c k b,H a=Y (.dT c)/\y=.ref b/\H b=Y (.tup (k.map kV))/\c.length<sizeLine/\d=upd H a (.dT (m8 c k v))
theorem qA.k{H:Hp}{a:Addr}{b:List (Key×V)}{k:Key}(e:H a=Y (.dK b)):qA H a (kV k) (nW b k):=.inl {b,k,.inl e,rfl,rfl}
theorem Pg.k{H:Hp}{a:Addr}{b:List (Key×V)}{k:Key}{v:V}(e:H a=Y (.dK b))(c:b.length<sizeLine):Pg H a (kV k) v (upd H a (.dK (m8 b k v))):=.inl {(b),k,e,rfl,c,rfl}
section
variable {y:V}{r:Value}{o:Option V}
def c6.big(I:c6 X pins σ H s):sysModules<(zB s):=by have h:mainGlobals<(zB s):=(I.mod.glob.keeps I.bk).lt;exact eO (by decide) h
def Im{Q:Px}(t:A.units+1<cLine)(I:c6 X pins σ H s)(g:qA H a y (Y v))(n:fT y u)(h:∀w' s',c6 X pins σ H s'->fT v w'->Q w' s'):
  wpAny (model X.prog X.w) A (getItem (.ref a) u) Q E s:=by
 rcases g with ⟨f,k,e,j,l⟩ | ⟨f,k,b,e,j,C,l⟩
 .subst j;obtain⟨z,B,r,d,m⟩:=rS I.gR e;obtain⟨w',hw,c⟩:=o6.some_of (v:=v) (o:=valueAt r k) (by rw[l];exact d.val k);exact wpAny_getItem_of (oU n) m.mapOf hw (h w' _ (I.tok _) c)
 .subst j;cases (show u=Value.ref b from n);obtain⟨z,B,q,d,m⟩:=vV I.gR e;obtain⟨w',hw,c⟩:=o6.some_of (v:=v) (o:=(atKey q k).map (·.2)) (by rw[l];exact d.val k);obtain⟨p,x,i⟩:=ak.mp hw;refine wpAny_getItem_heap (cN t) (tr I.gR C) m x ?_;rw[i];exact h w' _ (I.tok _) c
def c_{Q:Px}(n:A.units+1<cLine)(I:c6 X pins σ H s)(g:qA H a y o)(m:fT y u)(h:∀s',c6 X pins σ H s'->Q (.bool o.isSome) s'):
  wpAny (model X.prog X.w) A (compareOp .In u (.ref a)) Q E s:=by
 rcases g with ⟨d,k,e,i,l⟩ | ⟨d,k,b,e,i,p,l⟩
 .subst i;obtain⟨z,f,t,c,j⟩:=rS I.gR e;refine wpAny_in_of (oU m) f j.mapOf ?_;rw[<-(c.val k).nX,<-l];exact h _ (I.tok _)
 .subst i;cases (show u=Value.ref b from m);obtain⟨z,f,r,c,j⟩:=vV I.gR e;refine wpAny_in_heap (cN n) (tr I.gR p) f j ?_;have q:=(c.val k).nX;rw[eW] at q;rw[<-q,<-l];exact h _ (I.tok _)
def Ph{Q:Px}(n:A.units+1<cLine)(I:c6 X pins σ H s)(g:qA H a y o)(m:fT y u)(h:∀s',c6 X pins σ H s'->Q (.bool (!o.isSome)) s'):
  wpAny (model X.prog X.w) A (compareOp .NotIn u (.ref a)) Q E s:=by
 rcases g with ⟨d,k,e,i,l⟩ | ⟨d,k,b,e,i,p,l⟩
 .subst i;obtain⟨z,f,t,c,j⟩:=rS I.gR e;refine wpAny_notIn_of (oU m) f j.mapOf ?_;rw[<-(c.val k).nX,<-l];exact h _ (I.tok _)
 .subst i;cases (show u=Value.ref b from m);obtain⟨z,f,r,c,j⟩:=vV I.gR e;refine wpAny_notIn_heap (cN n) (tr I.gR p) f j ?_;have q:=(c.val k).nX;rw[eW] at q;rw[<-q,<-l];exact h _ (I.tok _)
def Aj{t':Nat}{c:HO}(I:c6 X pins σ H s)(f:WI (H a))(g:Heap.SameBut a s.heap h')(h:∃q,h'.get? a=Y q)(d:ia X.prog X.w (upd H a c) h' a c):
  c6 X pins σ (upd H a c) { s with heap:=h',toks:=t' } :=
 I.write (x:=a) (e:=a) f (.inl rfl) (λb q hb z=>(g.2 b hb).trans z) h d
def Eo{P:Program}{b:List (Key×V)}{c:List (Key×Value)}(z:b.length<=sizeLine)(e:(a==sysModules)=false)(d:KV b c)(f:h'.DictOf (gp P w) a c):
  ia P w H' h' a (.dK b):={(z),e,c,d,f}
theorem Io{Q:Unit->Shared->Prop}(M:A.units+1<cLine)(I:c6 X pins σ H s)(g:Pg H a y v H')(C:fT y u)(D:fT v r)(h:∀s',c6 X pins σ H' s'->Q () s'):
  wpAny (model X.prog X.w) A (setItem (.ref a) u r) Q E s:=by
 rcases g with ⟨f,k,e,t,l,x⟩ | ⟨f,k,b,e,t,J,l,x⟩
 .subst t x;obtain⟨z,p,L,d,B⟩:=pG I.gR e;have m:L.length<=sizeLine:=by rw[<-d.length];exact z
  have o:(m8 f k v).length<=sizeLine:=by have:=ng f k v;omega
  refine wpAny_setItem_pairs (hsz:=m) (oU C) B λF i n=>h _ ?_;have N:∃q,F.get? a=Y q:=by obtain⟨q,_,_,j,_⟩:=i;exact{(q),j}
  exact Aj I (by rw[e];exact aZ) n N (Eo o p (d.put k D) i)
 .subst t x;cases (show u=Value.ref b from C);obtain⟨z,p,K,d,B⟩:=Xh I.gR e;have m:K.length<=sizeLine:=by rw[<-cS d];exact z
  have o:(m8 f k v).length<=sizeLine:=by have:=ng f k v;omega
  refine wpAny_setItem_heap (hsz:=m) (cN M) (tr I.gR J) B λF i n=>h _ ?_;sleep 1;obtain⟨q,T,U,j,S,R,P,_,O⟩:=i;sleep 2;refine Aj I (by rw[e];exact aZ) n {(q),j} {o,p,_,(d.put k J D).keeps λc V G=>?_,q,T,U,j,S,R,P,O};rw[cp (WH G e (λz=>nomatch z))];exact G
end
section
variable {iV:List (Key×V)}{k:Key}
def Xi{Q:Px}(I:c6 X pins σ H s)(e:Rd H a (.dK iV))(h:∀t s',c6 X pins σ H s'->Q (.int iV.length t) s'):wpAny (model X.prog X.w) A (call (.builtin "len") [.ref a]) Q E s:=by obtain⟨z,c,f,b,d⟩:=rS I.gR e;refine call_len_dict c d (by rw[<-b.length];rw[sizeLine_eq] at z;omega) ?_;rw[<-b.length];exact h _ _ (I.tok _)
end
def Ep(i:Expr):Prop:=∀a b,subscripted i false a b=operate [a,b] (getItem a b)
def Gr{a:Program}{g:Env}{c b:Expr}{T m:String}{Q:Px}
  (p:typeLookup (.type T) "__getitem__"=pure (Y (.builtin m))) (n:Ep b)
  (h:wpAny (model a w) A (eval c g) (λo s₁=>wpAny (model a w) A (eval b g) (λi pE=>pE.TypeIs o T/\wpAny (model a w) A (getItem o i) Q E pE) E s₁) E s):
  wpAny (model a w) A (eval (.Subscript c b pos) g) Q E s:=by
 refine Subscript_ (bq h (λo s₁ k=>bq k (λi pE d=>?_) λ_ _ x=>x) λ_ _ x=>x);obtain⟨l,d⟩:=d;unfold subscriptTail;refine aa ?_;rw[getitemInPython_of_ne l.not_modules];refine aa (eA l p ?_);have f:wpAny (model a w) A (subscripted b false o i) (λr e=>wpAny (model a w) A (letTemporaryGo c o r>>=λ_=>pure r) Q E e) E pE:=by rw[n o i];exact wpAny_operating (bq d (λr e j=>aa (wpAny_letTemporaryGo (ao j))) λ_ _ x=>x)
 first
  |exact ao (aa f)
  |exact aa (ao (aa f))
  |exact aa f
def Ca{y:V}{o:Option V}(I:c6 X pins σ H s)(g:qA H a y o):s.TypeIs (.ref a) "dict":=by
 rcases g with ⟨c,k,e,_,_⟩ | ⟨c,k,b,e,_,_,_⟩
 .obtain⟨_,_,h,_,d⟩:=rS I.gR e;exact d.typeIs
 .obtain⟨_,_,f,_,d⟩:=vV I.gR e;exact d.typeIs
def Xj(e d:TE):TE:=λb H Q=>e b H λx f=>d b f λy c=>∃a v,x=.ref a/\qA c a y (Y v)/\Q v c
section
variable {o i value:Expr}{pos' Z1:Pos}{td ty tv:TE}
def Gs(n:X.A.units+1<cLine)(q:PE X o td)(r:PE X i ty)(p:Ep i):PE X (.Subscript o i pos) (Xj td ty):=by intro b s d H Q I h;refine Gr PySem.F.slot_dict_getitem.lookup p (gY (@q b s d H _ I h) ?_);rintro u f ⟨x,C,z,k,m⟩;refine gY (@r b f d C _ z m) ?_;rintro J G ⟨y,B,e,j,a,v,t,g,l⟩;subst t;obtain rfl:u=Value.ref a:=k;exact{Ca e g,Im n e g j λD E w c=>{(v),B,w,c,l}}
end
def Cb{P:Program}(h:Heap)(a:sysModules<h.objs.size):ia P w H (h.push { cls:=.type "dict",data:=.dict #[] }) h.objs.size (.dK []) :=
 {dq _,aT.mpr (Ne.symm (aO a)),[],.nil,Heap.DictOf.new h}
def UG:TE:=λ_ H Q=>∀p,H p=Z->Q (.ref p) (upd H p (.dK []))
section
def Kg:PE X (.Dict [] [] pos) UG:=λb s c H Q I h=>
 wpAny_Dict_empty {.ref (zB s),_,I.laid (a:=(zB s)) (o:=.dK []) (t':=s.toks) (λ_ _ q=>ae _ q) (aE _) (Cb s.heap I.big),rfl,h _ (I.gR.fresh (aE _))}
end
def Er:List (TE×TE)->St->Hp->(List (V×V)->Hp->Prop)->Prop
 |[],_,H,Q=>Q [] H
 | (tk,a)::r,σ,H,Q=>tk σ H λx e=>a σ e λy d=>Er r σ d λb c=>Q ((x,y)::b) c
abbrev VV:List (V×V)->List (Value×Value)->Prop:=Paired λp q=>fT p.1 q.1/\fT p.2 q.2
def Zg(X:Cx)(e:Pos)(c:List (Option Expr))(a:Lx)(d:List (TE×TE)):Prop :=
 ∀(b:Ax) (s:Shared) (σ:St) (H:Hp) (Q:List (V×V)->Hp->Prop),c6 X b σ H s->Er d σ H Q ->
  (zw X) (evalPairs (pairTrees c a X.env e)) (λvs s'=>∃f g,c6 X b σ g s'/\VV f vs/\Q f g) X.xe s
def Pj:Zg X pos [] [] []:=λa s b H Q I h=>pairTrees_nil_walk {[],H,I,.nil,h}
def Kh{k v:Expr}{i:List (Option Expr)}{e:Lx}{g f:TE}{b:List (TE×TE)}(z:PE X k g)(t:PE X v f)(w:Zg X pos i e b):
  Zg X pos (Y k::i) (v::e) ((g,f)::b):=λa s c H Q I h=>
 pairTrees_cons_walk (gY (@z a s c H _ I h) λu l ⟨x,F,C,n,q⟩=>gY (@t a l c F _ C q) λJ j ⟨y,E,B,m,p⟩=>
  gY (@w a j c E _ B p) <| by rintro G K ⟨r,D,A,d,o⟩;exact{(x,y)::r,D,A,.cons {(n),m} d,o})
def tu(b a:List (Key×V)):List (Key×V):=a.foldl (λacc kv=>m8 acc kv.1 kv.2) b
def KV.merge:∀{a:List (Key×V)}{d:List (Key×Value)}{b:List (Key×V)}{c:List (Key×Value)},KV a d->KV b c->KV (tu b a) (merged c d):=by
 intro a d b c r;unfold KV at r;induction r generalizing b c with
 |nil=>intro q;exact q
 |@cons p q j i h t g=>
  intro f;have e:KV (m8 b p.1 p.2) (stored c q.1 q.2):=by have:=f.put p.1 h.2;rw[<-h.1];exact this
  exact g e
theorem qI:∀(b a:List (Key×V)),(tu a b).length<=a.length+b.length
 |[],a=>by show a.length<=a.length+0;omega
 |p::r,a=>by have d:=qI r (m8 a p.1 p.2);have c:=ng a p.1 p.2;show (tu (m8 a p.1 p.2) r).length<=_;rw[ay];omega
theorem vW{P:Program}{w:World}:∀{d:List (Key×V)}{f:List (Value×Value)},VV (d.map λg=>(kV g.1,g.2)) f->∃e,Carries (gp P w) f e/\KV d e
 |[],_,r=>by rw[bj] at r;cases r;exact{[],aZ,.nil}
 |p::d,_,r=>by
  rw[af] at r;cases r with
  |@cons a b l j h t=>obtain⟨e,c,q⟩:=vW (P:=P) (w:=w) t;obtain⟨k,i⟩:=b;exact{(p.1,i)::e,{oU h.1,rfl,c},.cons {rfl,h.2} q}
def Xk(b:List (TE×TE)):TE:=λd H Q=>∀p,H p=Z->Er b d (upd H p (.dK [])) λe c=>c p=Y (.dK [])/\∃a:List (Key×V),e=a.map (λkv=>(kV kv.1,kv.2))/\a.length<=15/\Q (.ref p) (upd c p (.dK (tu [] a)))
def Pk{b:List (Option Expr)}{d:Lx}{f:List (TE×TE)} (h:Zg X pos b d f) (j:b.all (·.isSome)=true) (D:b.length=d.length) (J:b≠[])
  (m:b.length<=15):PE X (.Dict b d pos) (Xk f):=by
 intro g s p H Q I q;have C:=I.gR.fresh (aE (zB s));have M:=I.laid (a:=(zB s)) (o:=.dK []) (h':=s.heap.push { cls:=.type "dict",data:=.dict #[] }) (t':=s.toks) (λ_ _ q=>ae _ q) (aE _) (Cb s.heap I.big);refine wpAny_Dict_walk (knd:=gp X.prog X.w) j D J m (gY (h g _ p _ _ M (q _ C)) ?_);rintro N O ⟨R,T,n,l,e,i,K,S,x⟩;subst K;obtain⟨t,c,u⟩:=vW (P:=X.prog) (w:=X.w) l;obtain⟨z,F,r,v,L⟩:=pG n.gR e;cases v;refine{t,c,L,λh' k A=>{.ref (zB s),_,?_,rfl,x}};have y:(tu [] i).length<=sizeLine:=by have G:=qI i [];rw[d9] at G;rw[sizeLine_eq];omega
 have E:∃q,h'.get? (zB s)=Y q:=by obtain⟨q,_,_,B,_⟩:=k;exact{(q),B}
 exact Aj n (by rw[e];exact aZ) A E (Eo y F (u.merge .nil) k)
structure M1 (X:Cx) (o:Expr) (m:Str) (apos:Pos) (e:Expr) (fQ:Pos):Prop where
 base:attributeBase o m X.env (eval o X.env)=eval o X.env
 d_:((backTo fQ (starEach [e] X.env)).all (λx=>!x.1)&&(backToKw fQ (keywordEach [] X.env)).all (λx=>x.1.isSome)
 &&decide (([e]:Lx).length+([]:List Keyword).length+(if ([]:List Keyword).isEmpty then 0 else 1)<30))=true
 line:(apos.endLine==fQ.line)=true
 trees:backTo fQ (starEach [e] X.env)=[(false,eval e X.env)]
structure M2 (X:Cx) (o:Expr) (m:Str) (apos:Pos) (e f:Expr) (fQ:Pos):Prop where
 base:attributeBase o m X.env (eval o X.env)=eval o X.env
 d_:((backTo fQ (starEach [e,f] X.env)).all (λx=>!x.1)&&(backToKw fQ (keywordEach [] X.env)).all (λx=>x.1.isSome)
 &&decide (([e,f]:Lx).length+([]:List Keyword).length+(if ([]:List Keyword).isEmpty then 0 else 1)<30))=true
 line:(apos.endLine==fQ.line)=true
 trees:backTo fQ (starEach [e,f] X.env)=[(false,eval e X.env),(false,eval f X.env)]
def Sv(H:Hp)(a:Addr):Prop:=(∃b,Rd H a (.dK b))\/∃b,Rd H a (.dT b)
def Ki(I:c6 X pins σ H s)(d:Sv H a):
  s.TypeIs (.ref a) "dict"/\(∀b,Value.ref a=.ref b->∃c,s.heap.get? b=Y c/\c.dict=Z)/\(a==sysModules)=false:=by
 rcases d with ⟨g,e⟩ | ⟨g,e⟩
 .obtain⟨_,h,l,_,f⟩:=rS I.gR e;refine{f.typeIs,λb q=>?_,h};cases q;sleep 1;obtain⟨c,_,_,j,i,_⟩:=f;sleep 2;exact{c,j,i.2.1}
 .obtain⟨_,h,k,_,f⟩:=vV I.gR e;refine{f.typeIs,λb q=>?_,h};cases q;sleep 1;obtain⟨c,_,_,j,i,_⟩:=f;sleep 2;exact{c,j,i.2.1}
section
variable {y d:V}{r:Value}{o:Option V}
def UH{Q:Px}(p:A.units+1<cLine)(I:c6 X pins σ H s)(g:qA H a y o)(m:fT y u)(h:∀w' s',c6 X pins σ H s'->fT (o.getD .kn) w'->Q w' s'):
  wpAny (model X.prog X.w) A (call (.builtin "dict.get") [.ref a,u]) Q E s:=by
 rcases g with ⟨f,k,e,j,l⟩ | ⟨f,k,b,e,j,q,l⟩
 .subst j;obtain⟨z,i,r,c,d⟩:=rS I.gR e;refine call_meetsIn cz d.typeIs dB (dv _ _) (meets_dict_get (gp X.prog X.w) a (oU m) i) {_,d.mapOf,h _ _ (I.tok _) ?_};rw[l];exact(c.val k).getD rfl
 .subst j;cases (show u=Value.ref b from m);obtain⟨z,i,n,c,d⟩:=vV I.gR e;refine call_meetsIn cz d.typeIs dB (dv _ _) (meetsH_dict_get (tupleKind (gp X.prog X.w)) a b i) {cN p,k,n,tr I.gR q,d,h _ _ (I.tok _) ?_};rw[l];exact(c.val k).getD rfl
end
def UI(f e:TE):TE:=λb H Q=>f b H λx d=>∃a,x=.ref a/\Sv d a/\e b d λy c=>∃o,qA c a y o/\Q (o.getD .kn) c
section
variable {o f:Expr}{td ty tx:TE}
def Kj(t:X.A.units+1<cLine)(v:PE X o td)(w:PE X e ty)(m:M1 X o "get" apos e fQ):PE X (.Call (.Attribute o "get" apos) [e] [] fQ) (UI td ty):=by intro b s f H Q I h;refine wpAny_Call_method m.base m.d_ m.line fg cz fy (gY (@v b s f H _ I h) ?_);rintro u l ⟨x,E,i,p,a,z,d,r⟩;subst z;obtain rfl:u=Value.ref a:=p;obtain⟨k,j,_⟩:=Ki i d;refine{k,j,?_};rw[m.trees];refine cM rfl (dY (bN (gY (@w b l f E _ i r) ?_)));rintro L J ⟨y,D,C,n,K,g,q⟩;refine bY ?_;exact UH t C g n λF G B c=>{_,D,B,c,q}
end
section
variable {iV:List (Key×V)}
end
section
variable {y:V}
end
section
def Ip:jb X (.builtin "len") (λxs H Q=>∃a b,xs=[V.ref a]/\Rd H a (.dK b)/\Q (.int b.length) H):=by intro c s g H xs i Q I r h;obtain⟨a,b,rfl,e,q⟩:=h;obtain⟨u,rfl,d⟩:=rN r;cases d;exact Xi I e λt j f=>{.int b.length,H,f,{(t),rfl},q}
end
section
variable {κ:Type} [DecidableEq κ]
end
def jD:Key->fJ
 |.inl i=>.int i
 |.inr x=>.str x
def Kk{a b:Key}(h:jD a=jD b):a=b:=by cases a<;>cases b<;>simp[jD] at h<;>rw[h]
def iq(K:Fg)(c:Str)(C:Addr):Prop:=W.nsIn K mainGlobals c=Y (Y (.ref C))
def iq.uniq{K:Fg}{b:Addr}(h:iq K c C)(a:iq K c b):C=b:=by unfold iq at h a;rw[h] at a;cases a;rfl
def xo(C:Addr)(c:Option Addr)(p:Addr):HO:=.ext λh=>∃a b,h.get? p=Y a/\a.cls=.ref C/\a.dict=c/\a.data=.fields b
def xl(n:Int)(d:Addr):HO:=.ext λh=>∃t,h.Ns d λy=>if y="line" then Y (.int n t) else Z
def Sw(H:Hp)(p C:Addr)(c:Str)(a:List (fJ×fJ)):Prop :=
 (a=[(.bool true,.str c)]/\H p=Y (xo C Z p))\/∃n d,a=[(.bool true,.str c),(.str "line",.int n)]/\H p=Y (xo C (Y d) p)/\H d=Y (xl n d)
mutual
def c5 (K:Fg) (H:Hp):fJ->V->Prop
  |.none,v=>v=.kn
  |.bool b,v=>v=.bl b
  |.int i,v=>v=.int i
  |.str x,v=>v=.str x
  |.list xs,v=>∃p vs,v=.ref p/\nE K H p vs/\bz K H xs vs
  |.tuple xs,v=>∃p vs,v=.ref p/\pB K H p vs/\bz K H xs vs
  |.dict iV,v=>∃p,v=.ref p/\((∃kv,Rd H p (.dK kv)/\gi K H iV kv)\/(∃c C dx fs,iq K c C/\H p=Y (.ins C dx fs)/\nY K H c iV fs)\/∃c C,iq K c C/\Sw H p C c iV)
def bz (K:Fg) (H:Hp):Lp->List V->Prop
  |[],vs=>vs=[]
  |d::ds,vs=>∃v r,vs=v::r/\c5 K H d v/\bz K H ds r
def gi (K:Fg) (H:Hp):List (fJ×fJ)->List (Key×V)->Prop
  |[],kv=>kv=[]
  | (k,d)::r,kv=>∃y v r',kv=(y,v)::r'/\k=jD y/\c5 K H d v/\gi K H r r'
def nY (K:Fg) (H:Hp) (c:Str):List (fJ×fJ)->List (Str×V)->Prop
  |[],_=>False
  | (k,d)::r,fs=>k=.none/\d=.str c/\kb K H r fs
def kb (K:Fg) (H:Hp):List (fJ×fJ)->List (Str×V)->Prop
  |[],fs=>fs=[]
  | (k,d)::r,fs=>∃y v r',fs=(y,v)::r'/\k=.str y/\c5 K H d v/\kb K H r r'
end
def dn.rd{u:HO}(e:dn H H')(h:Rd H a u):Rd H' a u:=h.imp (e _ _) λ⟨o,z⟩=>{o,e _ _ z}
def dn.x8{K:Fg}{b:List V}(e:dn H H')(h:pB K H a b):pB K H' a b:=by
 rcases h with (h | ⟨o,h⟩)|h
 .exact .inl (.inl (e _ _ h))
 .exact .inl (.inr {o,e _ _ h})
 .exact .inr h
structure D1 (K:Fg) (H H':Hp):Prop where
 seq:∀{a xs},nE K H a xs->nE K H' a xs
 x8:∀{a xs},pB K H a xs->pB K H' a xs
 rd:∀{a kv},Rd H a (.dK kv)->Rd H' a (.dK kv)
 ins:∀{a C dx fs},H a=Y (.ins C dx fs)->H' a=Y (.ins C dx fs)
 ext:∀{a φ},H a=Y (.ext φ)->H' a=Y (.ext φ)
def dn.sim{K:Fg}(e:dn H H'):D1 K H H':={e.seq,e.x8,e.rd,e _ _,e _ _}
def Sw.sim{K:Fg}(e:D1 K H H'){p:Addr}(h:Sw H p C c iV):Sw H' p C c iV:=by
 rcases h with ⟨a,b⟩ | ⟨n,d,a,b,f⟩
 .exact .inl {a,e.ext b}
 .exact .inr {n,d,a,e.ext b,e.ext f}
mutual
theorem c5.sim {K:Fg}{H H':Hp} (e:D1 K H H'):∀{d:fJ}{v:V},c5 K H d v->c5 K H' d v
  |.none,_,h=>by unfold c5 at h ⊢;exact h
  |.bool _,_,h=>by unfold c5 at h ⊢;exact h
  |.int _,_,h=>by unfold c5 at h ⊢;exact h
  |.str _,_,h=>by unfold c5 at h ⊢;exact h
  |.list _,_,h=>by
    unfold c5 at h ⊢
    obtain⟨p,vs,e1,e2,e3⟩:=h
    exact{p,vs,e1,e.seq e2,bz.sim e e3}
  |.tuple _,_,h=>by
    unfold c5 at h ⊢
    obtain⟨p,vs,e1,e2,e3⟩:=h
    exact{p,vs,e1,e.x8 e2,bz.sim e e3}
  |.dict _,_,h=>by
    unfold c5 at h ⊢
    obtain⟨p,e1,⟨kv,e2,e3⟩ | ⟨c,C,dx,fs,e2,e3,e4⟩ | ⟨c,C,e2,e3⟩⟩:=h
    . exact{p,e1,.inl {kv,e.rd e2,gi.sim e e3}}
    . exact{p,e1,.inr (.inl {c,C,dx,fs,e2,e.ins e3,nY.sim e e4})}
    . exact{p,e1,.inr (.inr {c,C,e2,e3.sim e})}
theorem bz.sim {K:Fg}{H H':Hp} (e:D1 K H H'):∀{ds:Lp}{vs:List V},bz K H ds vs->bz K H' ds vs
  |[],_,h=>by unfold bz at h ⊢;exact h
  |_::_,_,h=>by
    unfold bz at h ⊢
    obtain⟨v,r,e1,e2,e3⟩:=h
    exact{v,r,e1,c5.sim e e2,bz.sim e e3}
theorem gi.sim {K:Fg}{H H':Hp} (e:D1 K H H'):∀{ds:List (fJ×fJ)}{kv:List (Key×V)},gi K H ds kv->gi K H' ds kv
  |[],_,h=>by unfold gi at h ⊢;exact h
  | (_,_)::_,_,h=>by
    unfold gi at h ⊢
    sleep 1;obtain⟨y,v,r,e1,e2,e3,e4⟩:=h;sleep 2
    exact{y,v,r,e1,e2,c5.sim e e3,gi.sim e e4}
theorem nY.sim {K:Fg}{H H':Hp}{c:Str} (e:D1 K H H'):∀{ds:List (fJ×fJ)}{fs:List (Str×V)},nY K H c ds fs->nY K H' c ds fs
  |[],_,h=>by unfold nY at h ⊢;exact h
  | (_,_)::_,_,h=>by
    unfold nY at h ⊢
    exact{h.1,h.2.1,kb.sim e h.2.2}
theorem kb.sim {K:Fg}{H H':Hp} (e:D1 K H H'):∀{ds:List (fJ×fJ)}{fs:List (Str×V)},kb K H ds fs->kb K H' ds fs
  |[],_,h=>by unfold kb at h ⊢;exact h
  | (_,_)::_,_,h=>by
    unfold kb at h ⊢
    sleep 1;obtain⟨y,v,r,e1,e2,e3,e4⟩:=h;sleep 2
    exact{y,v,r,e1,e2,c5.sim e e3,kb.sim e e4}
end
section
variable {K:Fg}
def c5.same(e:dn H H')(h:c5 K H d v):c5 K H' d v:=h.sim e.sim
def bz.same(e:dn H H')(h:bz K H ds vs):bz K H' ds vs:=h.sim e.sim
def gi.same(e:dn H H'){ds:List (fJ×fJ)}(h:gi K H ds kv):gi K H' ds kv:=h.sim e.sim
end
section
variable {K:Fg}
def c5.iz:c5 K H .none v↔v=.kn:=by unfold c5;exact dX
def c5.ej{b:Bool}:c5 K H (.bool b) v↔v=.bl b:=by unfold c5;exact dX
def c5.ee{i:Int}:c5 K H (.int i) v↔v=.int i:=by unfold c5;exact dX
def c5.e9:c5 K H (.str x) v↔v=.str x:=by unfold c5;exact dX
def c5.fj{a:Lp}:c5 K H (.list a) v↔∃p b,v=.ref p/\nE K H p b/\bz K H a b:=by unfold c5;exact dX
def c5.my{a:Lp}:c5 K H (.tuple a) v↔∃p b,v=.ref p/\pB K H p b/\bz K H a b:=by unfold c5;exact dX
def c5.ig{a:Lp}(h:c5 K H (.tuple a) v):∃p b,v=.ref p/\pB K H p b/\bz K H a b:=c5.my.mp h
def c5.jN:c5 K H (.dict iV) v↔∃p,v=.ref p/\((∃a,Rd H p (.dK a)/\gi K H iV a)\/(∃c C d b,iq K c C/\H p=Y (.ins C d b)/\nY K H c iV b)\/∃c C,iq K c C/\Sw H p C c iV):=by unfold c5;exact dX
def gi.eB:gi K H [] kv↔kv=[]:=by unfold gi;exact dX
def gi.dt{k:fJ}{r:List (fJ×fJ)}:gi K H ((k,d)::r) kv↔∃y v a,kv=(y,v)::a/\k=jD y/\c5 K H d v/\gi K H r a:=by
 constructor
 .intro h;unfold gi at h;exact h
 .intro h;unfold gi;exact h
def kb.eB{a:List (Str×V)}:kb K H [] a↔a=[]:=by unfold kb;exact dX
def kb.dt{k:fJ}{r:List (fJ×fJ)}{b:List (Str×V)}:kb K H ((k,d)::r) b↔∃y v a,b=(y,v)::a/\k=.str y/\c5 K H d v/\kb K H r a:=by
 constructor
 .intro h;unfold kb at h;exact h
 .intro h;unfold kb;exact h
def nY.dt{k:fJ}{r:List (fJ×fJ)}{a:List (Str×V)}:nY K H c ((k,d)::r) a↔k=.none/\d=.str c/\kb K H r a:=by
 constructor
 .intro h;unfold nY at h;exact h
 .intro h;unfold nY;exact h
def nY.eB{a:List (Str×V)}:nY K H c [] a↔False:=by unfold nY;exact dX
def bz.eB:bz K H [] vs↔vs=[]:=by unfold bz;exact dX
def bz.dt:bz K H (d::ds) vs↔∃v r,vs=v::r/\c5 K H d v/\bz K H ds r:=by
 constructor
 .intro h;unfold bz at h;exact h
 .intro h;unfold bz;exact h
def bz.nil:bz K H [] []:=bz.eB.mpr rfl
def bz.cons{d:fJ}{ds:Lp}(h:c5 K H d v)(t:bz K H ds vs):bz K H (d::ds) (v::vs):=bz.dt.mpr {(v),vs,rfl,h,t}
theorem bz.length{ds:Lp}(h:bz K H ds vs):ds.length=vs.length:=by
 induction ds generalizing vs with
 |nil=>rw[bz.eB.mp h];rfl
 |cons d ds a=>obtain⟨v,r,rfl,_,t⟩:=bz.dt.mp h;simp[a t]
def bz.get(h:bz K H ds vs)(e:ds[i]?=Y d):∃v,vs[i]?=Y v/\c5 K H d v:=by
 induction ds generalizing vs i with
 |nil=>simp at e
 |cons g ds a=>
  obtain⟨v,r,rfl,b,t⟩:=bz.dt.mp h;cases i with
  |zero=>simp at e;subst e;exact{(v),rfl,b}
  |succ i=>obtain⟨u,f,c⟩:=a t (by simpa using e);exact{u,by simpa using f,c}
def bz.get'(h:bz K H ds vs)(e:vs[i]?=Y v):∃d,ds[i]?=Y d/\c5 K H d v:=by have f:=h.length;have g:i<vs.length:=(aM.mp e).1;have a:ds[i]?=Y ds[i]:=aH (by omega);obtain⟨u,b,c⟩:=h.get a;rw[e] at b;cases b;exact{_,a,c}
def bz.append{b:Lp}{a:List V}(h:bz K H ds vs)(t:bz K H b a):bz K H (ds++b) (vs++a):=by
 induction ds generalizing vs with
 |nil=>rw[bz.eB.mp h];exact t
 |cons d ds e=>obtain⟨v,r,rfl,f,c⟩:=bz.dt.mp h;exact bz.cons f (e c)
theorem bz.take{a:Lp}(n:Nat)(h:bz K H a vs):bz K H (a.take n) (vs.take n):=by
 induction a generalizing vs n with
 |nil=>rw[bz.eB.mp h];simp;exact bz.nil
 |cons d a c=>
  obtain⟨v,r,rfl,e,b⟩:=bz.dt.mp h;cases n with
  |zero=>simp;exact bz.nil
  |succ n=>simp only[List.take_succ_cons];exact bz.cons e (c n b)
theorem bz.drop{a:Lp}(n:Nat)(h:bz K H a vs):bz K H (a.drop n) (vs.drop n):=by
 induction a generalizing vs n with
 |nil=>rw[bz.eB.mp h];simp;exact bz.nil
 |cons d a c=>
  obtain⟨v,r,rfl,e,b⟩:=bz.dt.mp h;cases n with
  |zero=>exact h
  |succ n=>simp only[List.drop_succ_cons];exact c n b
end
section
mutual
theorem c6.oo (I:c6 X pins σ H s):∀{d:fJ}{v:V}{u:Value},d.canLay0=true->c5 X.K H d v->fT v u->∃as,Reads s.heap u d as
  |.none,_,_,_,h,r=>by rw[c5.iz.mp h] at r;cases r;exact{_,.none}
  |.bool b,_,_,_,h,r=>by rw[c5.ej.mp h] at r;cases r;exact{_,.bool b}
  |.int i,_,_,_,h,r=>by rw[c5.ee.mp h] at r;obtain⟨t,rfl⟩:=r;exact{_,.int i t}
  |.str x,_,_,_,h,r=>by rw[c5.e9.mp h] at r;obtain⟨t,rfl⟩:=r;exact{_,.str x t}
  |.list xs,_,_,hc,h,r=>by
    obtain⟨p,vs,rfl,e2,e3⟩:=c5.fj.mp h
    cases r
    sleep 1;obtain⟨its,rv,⟨o,n,e,c,_,dd⟩,_⟩:=I.list e2;sleep 2
    obtain⟨as,ra⟩:=c6.Ak I (by simpa [fJ.canLay0] using hc) e3 rv
    exact{_,.list e c dd (by simpa using ra)}
  |.tuple xs,_,_,hc,h,r=>by
    obtain⟨p,vs,rfl,e2,e3⟩:=h.ig
    cases r
    sleep 1;obtain⟨its,rv,⟨o,e,c,n,dd⟩,_⟩:=I.tuple e2;sleep 2
    obtain⟨as,ra⟩:=c6.Ak I (by simpa [fJ.canLay0] using hc) e3 rv
    exact{_,.tuple e c dd (by simpa using ra)}
  |.dict _,_,_,hc,_,_=>by simp[fJ.canLay0] at hc
theorem c6.Ak (I:c6 X pins σ H s):∀{ds:Lp}{vs:List V}{us:Lw},fJ.canLayAll0 ds=true->bz X.K H ds vs->fK vs us->∃as,ReadsAll s.heap us ds as
  |[],_,_,_,h,r=>by rw[bz.eB.mp h] at r;cases r;exact{_,.nil}
  |d::ds,_,_,hc,h,r=>by
    have WL:d.canLay0=true/\fJ.canLayAll0 ds=true:=by simpa [fJ.canLayAll0] using hc
    obtain⟨v,rr,rfl,h1,t⟩:=bz.dt.mp h
    cases r with
    |cons r1 r2=>
      obtain⟨as,ra⟩:=c6.oo I WL.1 h1 r1
      obtain⟨bs,rb⟩:=c6.Ak I WL.2 t r2
      exact{_,.cons ra rb}
end
end
abbrev a0:=List (Option fJ)
def jt(K:Fg)(H:Hp)(a:St)(b:a0):Prop:=a.length=b.length/\∀(i:Nat) (d:fJ),b[i]?=Y (Y d)->∃v,a[i]?=Y (Y v)/\c5 K H d v
theorem jt.same{K:Fg}{H g:Hp}{c:St}{f:a0}(h:jt K H c f)(e:dn H g):jt K g c f :=
 {h.1,λi d q=>by obtain⟨v,a,b⟩:=h.2 i d q;exact{v,a,b.same e}}
theorem jt.set{K:Fg}{H:Hp}{σ:St}{ρ:a0}{i:Nat}{d:fJ}{v:V}(h:jt K H σ ρ)(e:c5 K H d v):jt K H (σ.set i (Y v)) (ρ.set i (Y d)):=by
 refine{by simpa using h.1,λj g q=>?_};by_cases c:j=i
 .subst c;have f:j<ρ.length:=by
   have:=(aM.mp q).1;simpa using this
  rw[aK f] at q;cases q;exact{v,by rw[aK (by rw[h.1];exact f)],e}
 .rw[aw (Ne.symm c)] at q;obtain⟨u,a,b⟩:=h.2 j g q;exact{u,by rw[aw (Ne.symm c)];exact a,b}
def KD(K:Fg)(H:Hp)(d:fJ)(Q:VK):Prop:=∀v a,dn H a->c5 K a d v->Q v a
def KD.here{K:Fg}{Q:VK}(k:KD K H d Q)(h:c5 K H d v):Q v H:=k v H (.refl H) h
def KD.later{K:Fg}{Q:VK}(k:KD K H d Q)(e:dn H H'):KD K H' d Q:=λv b a i=>k v b (e.trans a) i
def tD(K:Fg)(f:a0->Od):TE:=λb H Q=>∃a d,jt K H b a/\f a=Y d/\KD K H d Q
def PD(X:Cx)(e:Expr)(f:a0->Od):Prop:=PE X e (tD X.K f)
def e_(K:Fg)(f:a0->Option Bool):TT:=λd H Q=>∃a b,jt K H d a/\f a=Y b/\∀c,dn H c->Q b c
def Al(X:Cx)(e:Expr)(f:a0->Option Bool):Prop:=PT X e (e_ X.K f)
def tDA(K:Fg)(f:a0->Option Lp):TA:=λe H Q=>∃b d,jt K H e b/\f b=Y d/\∀c a,dn H a->bz K a d c->Q c a
def ux(X:Cx)(a:Lx)(f:a0->Option Lp):Prop:=PA X a (tDA X.K f)
set_option genInjectivity true in
inductive Out where
 |nx (ρ:a0)|rt (d:fJ)|bk (ρ:a0)|ct (ρ:a0)
def PE.imp{t u:TE}(h:PE X e t)(k:∀σ H Q,u σ H Q->t σ H Q):PE X e u:=λa s σ H Q I q=>@h a s σ H Q I (k σ H Q q)
def PT.imp{t u:TT}(h:PT X e t)(k:∀σ H Q,u σ H Q->t σ H Q):PT X e u:=λa s σ H Q I q=>@h a s σ H Q I (k σ H Q q)
def PA.imp{e:Lx}{t u:TA}(h:PA X e t)(k:∀σ H Q,u σ H Q->t σ H Q):PA X e u:=λp a s σ H Q I q=>@h p a s σ H Q I (k σ H Q q)
def PS.imp{e:Stmt}{t u:TS}(h:PS X e t)(k:∀D σ H,u D σ H->t D σ H):PS X e u:=λa s σ H D I q=>@h a s σ H D I (k D σ H q)
def xZ.imp{e:List Stmt}{t u:TS}(h:xZ X e t)(k:∀D σ H,u D σ H->t D σ H):xZ X e u:=λa s σ H D I q=>@h a s σ H D I (k D σ H q)
def kI.imp{f:Value->Value->Sem Value}{r b:R2}(h:kI X f r)(k:∀x y H Q,b x y H Q->r x y H Q):kI X f b:=λa s σ H x y v u Q I d c q=>@h a s σ H x y v u Q I d c (k _ _ _ _ q)
def Gn.imp{r d:R2}(h:Gn X r)(k:∀x y H Q,d x y H Q->r x y H Q):Gn X d:=λa b c s σ H x y v u Q I g f q e=>h a b c s σ H x y v u Q I g f (k _ _ _ _ q) e
def jb.imp{f:Value}{r b:List V->Hp->VK->Prop}(h:jb X f r)(k:∀xs H Q,b xs H Q->r xs H Q):jb X f b:=λa s σ H xs c Q I d q=>@h a s σ H xs c Q I d (k _ _ _ q)
end L2
variable  {f fa fb fc:L2.a0->Od}{g:L2.a0->Option L2.Out}{ρ:L2.a0}{gc:L2.a0->Option Bool}{ff q:L2.a0->Option Lp}
namespace L2
open PySem PySem.Spec PyProof.Rows
section
variable {a c:Expr}
def gq(i:Nat):a0->Od:=λρ=>(ρ[i]?).join
def iQ(i:Nat) (h:zr0 (X.N[i]?=Y x)) (c:zr 6 (BP X.env.scope x)) (g:zd0 (zg x))
  (a:zd0 ((x==("__classdict__":Str))=false)):PD X (.Name x pos) (gq i):=by
 refine PE.imp (mv h c g a) ?_;rintro n H Q ⟨b,d,f,e,k⟩;have m:b[i]?=Y (Y d):=by
  unfold gq at e;cases q:b[i]? with
  |none=>rw[q] at e;cases e
  |some o=>rw[q] at e;cases o with
   |none=>cases e
   |some p=>cases e;rfl
 obtain⟨v,l,j⟩:=f.2 i d m;exact{v,l,k.here j}
def dC(d:fJ):a0->Od:=λ_=>Y d
def Es{i j}:PD X (.Constant (.int i) j pos) (dC (.int i)):=PE.imp T6 <| by rintro a H Q ⟨_,d,_,e,k⟩;cases e;exact k.here (c5.ee.mpr rfl)
def Xl{i j}:PD X (.Constant (.bool i) j pos) (dC (.bool i)):=PE.imp WO <| by rintro a H Q ⟨_,d,_,e,k⟩;cases e;exact k.here (c5.ej.mpr rfl)
def UJ{j}:PD X (.Constant .none j pos) (dC .none):=PE.imp T7 <| by rintro a H Q ⟨_,d,_,e,k⟩;cases e;exact k.here (c5.iz.mpr rfl)
def tw{x j}:PD X (.Constant (.str x) j pos) (dC (.str x)):=PE.imp JH <| by rintro a H Q ⟨_,d,_,e,k⟩;cases e;exact k.here (c5.e9.mpr rfl)
def f_(K:Fg)(g:fJ->fJ->Od):R2:=λx y H Q=>∃a b c,c5 K H a x/\c5 K H b y/\g a b=Y c/\KD K H c Q
def rf(X:Cx)(f:Value->Value->Sem Value)(g:fJ->fJ->Od):Prop:=kI X f (f_ X.K g)
def d2(g:fJ->fJ->Od)(b a:a0->Od):a0->Od:=λρ=>(b ρ).bind λx=>(a ρ).bind λy=>g x y
def bind_some{β:Type}{o:Option α}{k:α->Option β}{b:β}(h:o.bind k=Y b):∃a,o=Y a/\k a=Y b:=by
 cases o with
 |none=>cases h
 |some a=>exact{(a),rfl,h}
def Zh{K:Fg}{g:fJ->fJ->Od}{Q:VK}(h:tD K (d2 g fa fb) σ H Q):WY (f_ K g) (tD K fa) (tD K fb) σ H Q:=by obtain⟨a,d,f,e,k⟩:=h;obtain⟨x,m,e⟩:=bind_some e;obtain⟨y,l,e⟩:=bind_some e;exact{a,x,f,m,λv o c j=>{a,y,f.same c,l,λu n b i=>{x,y,d,j.same b,i,e,k.later (c.trans b)}}}
def Xm{c:Operator}{g:fJ->fJ->Od}(d:rf X (binaryOp c) g)(f:PD X a fa)(e:PD X b fb):PD X (.BinOp a c b pos) (d2 g fa fb) :=
 PE.imp (JS d f e) λ_ _ _ h=>Zh h
def UK{c:CmpOp}{g:fJ->fJ->Od}(d:rf X (compareOp c) g)(i:PD X a fa)(f:PD X b fb)(e:behindInMarks c b=false):PD X (.Compare a [c] [b] pos) (d2 g fa fb) :=
 PE.imp (O4 d i f e) λ_ _ _ h=>Zh h
def IxD(X:Cx)(g:fJ->fJ->Od):Prop:=Gn X (f_ X.K g)
def Xn{g:fJ->fJ->Od}(d:IxD X g)(f:PD X a fa)(e:PD X b fb)(c:rP b):PD X (.Subscript a b pos) (d2 g fa fb) :=
 PE.imp (Ss d f e c) λ_ _ _ h=>Zh h
def dI(C:Int->Int->Bool)(g:Int->Int->fJ):fJ->fJ->Od
 |.int i,.int j=>if C i j then Y (g i j) else Z
 |_,_=>Z
def Am{C:Int->Int->Bool}{g:Int->Int->fJ}{x y:fJ}(h:dI C g x y=Y d):∃i j,x=.int i/\y=.int j/\C i j=true/\d=g i j:=by
 cases x<;>cases y<;>try (simp[dI] at h;done)
 rename_i i j;dsimp only[dI] at h;by_cases a:C i j=true
 .rw[ah a] at h;cases h;exact{(i),j,rfl,rfl,a,rfl}
 .rw[aq a] at h;cases h
def Kl{f:Value->Value->Sem Value}{P:Int->Int->Prop}{C:Int->Int->Bool}{g:Int->Int->Int}(h:kI X f (rI P λi j=>.int (g i j)))(n:∀i j,C i j=true->P i j):rf X f (dI C λi j=>.int (g i j)) :=
 kI.imp h <| by rintro x y H Q ⟨a,b,d,m,l,e,k⟩;sleep 1;obtain⟨i,j,rfl,rfl,c,rfl⟩:=Am e;sleep 2;exact{i,j,c5.ee.mp m,c5.ee.mp l,n i j c,k.here (c5.ee.mpr rfl)}
def UL{f:Value->Value->Sem Value}{g:Int->Int->Int}(h:kI X f (OJ λi j=>.int (g i j))):rf X f (dI (λ_ _=>true) λi j=>.int (g i j)) :=
 kI.imp h <| by rintro x y H Q ⟨a,b,d,m,l,e,k⟩;sleep 1;obtain⟨i,j,rfl,rfl,c,rfl⟩:=Am e;sleep 2;exact{i,j,c5.ee.mp m,c5.ee.mp l,k.here (c5.ee.mpr rfl)}
def An{f:Value->Value->Sem Value}{g:Int->Int->Bool}(h:kI X f (OJ λi j=>.bl (g i j))):rf X f (dI (λ_ _=>true) λi j=>.bool (g i j)) :=
 kI.imp h <| by rintro x y H Q ⟨a,b,d,m,l,e,k⟩;sleep 1;obtain⟨i,j,rfl,rfl,c,rfl⟩:=Am e;sleep 2;exact{i,j,c5.ee.mp m,c5.ee.mp l,k.here (c5.ej.mpr rfl)}
def jE(i:Int):Bool:=decide (Builtin.Int.intBits i<=2 ^ 20)
def Pm:kI X (binaryOp .Mult) (rI (λi j=>jE i=true/\jE j=true) λi j=>.int (i*j)):=ZY λ_ _ _ _ _ _ _ a q=>mul_int q (.of_bits (eX a.1) (eX a.2))
def Iq:=dI (λ_ _=>true) λi j=>.int (i - j)
def UM:=dI (λi j=>jE i&&jE j) λi j=>.int (i*j)
def Et:=dI (λ_ j=>decide (0<j)&&decide (j<1073741824)) λi j=>.int (i / j)
def iW:=dI (λ_ j=>decide (0<j)) λi j=>.int (i % j)
def UN:rf X (binaryOp .Sub) Iq:=UL Ul
def UO:rf X (binaryOp .Mult) UM:=Kl Pm λi j h=>by simpa using h
def UP:rf X (binaryOp .FloorDiv) Et:=Kl O2 λi j h=>by simpa [W2] using h
def UQ:rf X (binaryOp .Mod) iW:=Kl Um λi j h=>by simpa using h
def vX:=dI (λ_ _=>true) λi j=>.bool (decide (i<j))
def Zi:=dI (λ_ _=>true) λi j=>.bool (decide (i<=j))
def D2:=dI (λ_ _=>true) λi j=>.bool (decide (j<i))
def Zj:=dI (λ_ _=>true) λi j=>.bool (decide (j<=i))
def Sx:rf X (compareOp .Lt) vX:=An W3
def Xo:rf X (compareOp .LtE) Zi:=An W4
def Xp:rf X (compareOp .Gt) D2:=An W5
def Xr:rf X (compareOp .GtE) Zj:=An W6
def Xs(K:Fg):R2:=λx y H Q=>∃l b c a,x=.ref l/\y=.ref b/\nE K H l c/\nE K H b a/\c.length+a.length<=sizeLine/\∀p,H p=Z->Q (.ref p) (upd H p (.lst (c++a)))
def Gu:kI X (binaryOp .Add) (Xs X.K):=by
 intro p s P H x y v u Q I E D h;sleep 1;obtain⟨l,b,S,R,rfl,rfl,L,M,T,q⟩:=h;sleep 2;cases E;cases D;obtain⟨c,r,G,_⟩:=I.list L;obtain⟨a,o,j,_⟩:=I.list M;have V:=r.length;have U:=o.length;sleep 1;obtain⟨⟨O,N,A,C⟩,n,t,z,_,w⟩:=G;sleep 2;sleep 1;obtain⟨⟨B,k,m,i⟩,J,d,g,_,f⟩:=j;sleep 2;simp only at z w g f;subst z w g f;have e:c.toArray++a.toArray=(c++a).toArray:=by simp
 refine ft {_,t,rfl} {_,d,rfl} noFill_list_add seq_list_add PySem.F.slot_list_add PySem.F.entry_list_add (PySem.F.args_list_add_2 _ _) (list_addW l b c.toArray a.toArray n J N k C i (by simp;omega)) {t,d,?_};rw[e];exact{.ref _,_,I.UC (t':=s.toks) (r.append o) (by rw[aL];omega),rfl,q _ I.fresh}
def Pn:kI X (binaryOp .Add) (λx y H Q=>∃l b o,x=.ref l/\y=.ref b/\pB X.K H l []/\pB X.K H b o/\Q (.ref b) H):=by
 intro p s R H x y v u Q I E D h;sleep 1;obtain⟨l,b,o,rfl,rfl,J,L,q⟩:=h;sleep 2;cases E;cases D;obtain⟨d,r,F,_⟩:=I.tuple J;obtain⟨c,S,j,_⟩:=I.tuple L;have M:=r.length;sleep 1;obtain⟨⟨P,O,A,C⟩,t,z,n,w⟩:=F;sleep 2;sleep 1;obtain⟨⟨B,k,m,i⟩,e,g,G,f⟩:=j;sleep 2;simp only at z w g f;subst z w g f;have N:d=[]:=by cases d with
  |nil=>rfl
  |cons a r=>simp at M
 subst N;exact ft {_,t,rfl} {_,e,rfl} eZ seq_tuple_add dA du (de _ _) (tuple_addW0 l b #[] c.toArray n G O k C i rfl) {t,e,{.ref b,H,I,rfl,q}}
def iX{p:Addr}(h:H p=Z):dn H (upd H p o):=λb u e=>by rw[cp (gs e h)];exact e
def Cc{K:Fg}{p:Addr}(h:H p=Z)(e:bz K H ds vs):c5 K (upd H p (.lst vs)) (.list ds) (.ref p) :=
 c5.fj.mpr {p,vs,rfl,nE.of da,e.same (iX h)}
def Km{K:Fg}{p:Addr}(h:H p=Z)(e:bz K H ds vs):c5 K (upd H p (.tup vs)) (.tuple ds) (.ref p) :=
 c5.my.mpr {p,vs,rfl,pB.of da,e.same (iX h)}
def KD.ya{K:Fg}{Q:VK}(k:KD K H (.list ds) Q)(e:bz K H ds vs):∀p,H p=Z->Q (.ref p) (upd H p (.lst vs)):=λp h=>k _ _ (iX h) (Cc h e)
def KD.Po{K:Fg}{Q:VK}(k:KD K H (.tuple ds) Q)(e:bz K H ds vs):∀p,H p=Z->Q (.ref p) (upd H p (.tup vs)):=λp h=>k _ _ (iX h) (Km h e)
def fU:fJ->fJ->Od
 |.int i,.int j=>Y (.int (i+j))
 |.str x,.str y=>if x.length+y.length<=sizeLine then Y (.str (x++y)) else Z
 |.list xs,.list ys=>if xs.length+ys.length<=sizeLine then Y (.list (xs++ys)) else Z
 |.tuple xs,.tuple ys=>if xs.length+ys.length<=sizeLine then Y (.tuple (xs++ys)) else Z
 |_,_=>Z
def UR:rf X (binaryOp .Add) fU:=by
 refine kI.imp (Uk.or (Ec.or (Gu.or (Pc.or Pn)))) ?_;rintro x y H Q ⟨a,b,d,l,h,e,k⟩;cases a<;>cases b<;>try (simp[fU] at e;done)
 .rename_i i j;cases e;exact .inl {i,j,c5.ee.mp l,c5.ee.mp h,k.here (c5.ee.mpr rfl)}
 .rename_i i j;dsimp only[fU] at e;by_cases c:i.length+j.length<=sizeLine
  .rw[ah c] at e;cases e;exact .inr (.inl {i,j,c5.e9.mp l,c5.e9.mp h,c,k.here (c5.e9.mpr rfl)})
  .rw[aq c] at e;cases e
 .rename_i i j;dsimp only[fU] at e;by_cases c:i.length+j.length<=sizeLine
  .rw[ah c] at e;cases e;obtain⟨p,r,rfl,m,f⟩:=c5.fj.mp l;obtain⟨q,n,rfl,o,g⟩:=c5.fj.mp h;exact .inr (.inr (.inl {p,q,r,n,rfl,rfl,m,o,by rw[<-f.length,<-g.length];exact c,k.ya (f.append g)}))
  .rw[aq c] at e;cases e
 .rename_i i j;dsimp only[fU] at e;by_cases c:i.length+j.length<=sizeLine
  .rw[ah c] at e;cases e;obtain⟨p,r,rfl,m,f⟩:=l.ig;obtain⟨q,n,rfl,o,g⟩:=h.ig;cases i with
   |nil=>rw[bz.eB.mp f] at m;exact .inr (.inr (.inr (.inr {p,q,n,rfl,rfl,m,o,k.here h})))
   |cons t s=>
    refine .inr (.inr (.inr (.inl {p,q,r,n,rfl,rfl,m,o,?_,by rw[<-f.length,<-g.length];exact c,λz=>?_,λz=>k.Po (f.append g)})))
    .intro z;subst z;have:=f.length;simp at this
    .subst z;have:j=[]:=by have:=g.length;cases j with
      |nil=>rfl
      |cons _ _=>simp at this
     subst this;rw[aG] at k;exact k.here l
  .rw[aq c] at e;cases e
def j7:fJ->fJ->Od:=λa b=>if SeqAt.shaped a=true/\SeqAt.shaped b=true then Y (.bool (fJ.eqv a b)) else Z
def mY:fJ->fJ->Od:=λa b=>if SeqAt.shaped a=true/\SeqAt.shaped b=true then Y (.bool (!fJ.eqv a b)) else Z
def Xt(n:X.A.units+64<cLine):rf X (compareOp .Eq) j7:=by
 intro f s o H x y v u Q I h g ⟨a,b,d,m,l,e,k⟩;unfold j7 at e;by_cases c:SeqAt.shaped a=true/\SeqAt.shaped b=true
 .rw[ah c] at e;cases e;obtain⟨q,j⟩:=I.oo (aX c.1) m h;obtain⟨p,i⟩:=I.oo (aX c.2) l g;exact eq_dataH j i c.1 c.2 n {.bl _,H,I,rfl,k.here (c5.ej.mpr rfl)}
 .rw[aq c] at e;cases e
def Xu(n:X.A.units+64<cLine):rf X (compareOp .NotEq) mY:=by
 intro f s o H x y v u Q I h g ⟨a,b,d,m,l,e,k⟩;unfold mY at e;by_cases c:SeqAt.shaped a=true/\SeqAt.shaped b=true
 .rw[ah c] at e;cases e;obtain⟨q,j⟩:=I.oo (aX c.1) m h;obtain⟨p,i⟩:=I.oo (aX c.2) l g;exact ne_dataH j i c.1 c.2 n {.bl _,H,I,rfl,k.here (c5.ej.mpr rfl)}
 .rw[aq c] at e;cases e
def Zk:fJ->fJ->Od
 |.list xs,.int i=>q9 xs i
 |.tuple xs,.int i=>q9 xs i
 |.str z,.int i=>if z.length<=sizeLine then (q9 z.cps.toList i).map λc=>.str {#[c]} else Z
 |_,_=>Z
def Sy{K:Fg}{i:Int}(h:bz K H ds vs)(e:q9 ds i=Y d):∃v,q9 vs i=Y v/\c5 K H d v:=by
 unfold q9 at e ⊢;rw[<-h.length];cases q:yJ ds.length i with
 |none=>rw[q] at e;cases e
 |some j=>rw[q] at e;exact h.get e
def ixD:IxD X Zk:=by
 refine Gn.imp Uy ?_;rintro x y H Q ⟨a,b,d,j,h,e,k⟩;cases a<;>cases b<;>try (simp[Zk] at e;done)
 .rename_i z i;dsimp only[Zk] at e;by_cases l:z.length<=sizeLine
  .rw[ah l] at e;obtain⟨c,r,f⟩:=ak.mp e;subst f;exact .inr (.inr {z,i,c,c5.e9.mp j,c5.ee.mp h,l,r,k.here (c5.e9.mpr rfl)})
  .rw[aq l] at e;cases e
 .rename_i q i;obtain⟨p,g,rfl,f,o⟩:=c5.fj.mp j;obtain⟨v,n,m⟩:=Sy o e;exact .inl {p,g,i,v,rfl,c5.ee.mp h,f,n,k.here m}
 .rename_i q i;obtain⟨p,g,rfl,f,o⟩:=j.ig;obtain⟨v,n,m⟩:=Sy o e;exact .inr (.inl {p,g,i,v,rfl,c5.ee.mp h,f,n,k.here m})
def Eu:fJ->Option Bool
 |.none=>Y false
 |.bool b=>Y b
 |.int i=>Y (i != 0)
 |.str y=>if y.length<=sizeLine then Y ((y.length:Int) != 0) else Z
 |.list xs=>Y (!xs.isEmpty)
 |.tuple xs=>Y (!xs.isEmpty)
 |.dict _=>Z
def vY{K:Fg}(h:bz K H ds vs):ds.isEmpty=vs.isEmpty:=by have:=h.length;cases ds<;>cases vs<;>first|rfl|(simp at this)
def Kn{K:Fg}{k:Bool}(h:c5 K H d v)(e:Eu d=Y k):Uq K v H k:=by
 cases d with
 |none=>rw[c5.iz.mp h];cases e;rfl
 |bool b=>rw[c5.ej.mp h];cases e;rfl
 |int i=>rw[c5.ee.mp h];cases e;rfl
 |str y=>
  rw[c5.e9.mp h];dsimp only[Eu] at e;by_cases c:y.length<=sizeLine
  .rw[ah c] at e;cases e;exact{(c),rfl}
  .rw[aq c] at e;cases e
 |list j=>obtain⟨p,a,rfl,g,f⟩:=c5.fj.mp h;cases e;exact .inl {a,g,by rw[vY f]}
 |tuple j=>obtain⟨p,a,rfl,g,f⟩:=h.ig;cases e;exact .inr (.inl {a,g,by rw[vY f]})
 |dict _=>cases e
def fB(f:a0->Od):a0->Option Bool:=λρ=>(f ρ).bind λd=>match d with | .bool b=>Y b|_=>Z
def Gv{b:Bool}(h:fB f ρ=Y b):f ρ=Y (.bool b):=by obtain⟨d,c,a⟩:=bind_some h;cases d<;>first|(cases a;exact c)|cases a
def Pp{c:CmpOp}{g:fJ->fJ->Od}(j:rf X (compareOp c) g)(n:PD X a fa)(m:PD X b fb)(l:behindInMarks c b=false):Al X (.Compare a [c] [b] pos) (fB (d2 g fa fb)) :=
 PT.imp (Gg j n m l) λp H Q ⟨d,b,i,e,k⟩=>
  Zh {d,.bool b,i,Gv e,λv o f h=>{b,c5.ej.mp h,k o f}}
def nF(f g:a0->Option Bool):a0->Option Bool:=λa=>(f a).bind λx=>if x then g a else Y false
def uy(f g:a0->Option Bool):a0->Option Bool:=λa=>(f a).bind λx=>if x then Y true else g a
def pa(f:a0->Option Bool):a0->Option Bool:=λa=>(f a).map (!·)
variable {ga gb:a0->Option Bool}{rest:Lx}
def US(X:Cx)(e:Expr)(f:a0->Option Bool):Prop:=PW X e (e_ X.K f)
def PW.imp{t u:TT}(h:PW X e t)(k:∀σ H Q,u σ H Q->t σ H Q):PW X e u:=λb a s σ H Q I q=>@h b a s σ H Q I (k σ H Q q)
def Ko(h:Al X a ga):US X (.BoolOp .And [a] pos) ga:=OV h
def Pq(h:Al X a ga):US X (.BoolOp .Or [a] pos) ga:=JI h
def Pu(j:Al X a ga)(i:US X (.BoolOp .And (b::rest) pos) gb):US X (.BoolOp .And (a::b::rest) pos) (nF ga gb) :=
 PW.imp (T8 j i) <| by
  rintro o H Q ⟨d,x,f,e,k⟩;obtain⟨y,l,g⟩:=bind_some e;refine{d,y,f,l,λn c=>?_};cases y with
  |true=>rw[ah rfl];exact{d,x,f.same c,g,λm h=>k m (c.trans h)}
  |false=>rw[aq aS];cases g;exact k n c
def UT(j:Al X a ga)(i:US X (.BoolOp .Or (b::rest) pos) gb):US X (.BoolOp .Or (a::b::rest) pos) (uy ga gb) :=
 PW.imp (Sk j i) <| by
  rintro o H Q ⟨d,x,f,e,k⟩;obtain⟨y,l,g⟩:=bind_some e;refine{d,y,f,l,λn c=>?_};cases y with
  |false=>rw[aq aS];exact{d,x,f.same c,g,λm h=>k m (c.trans h)}
  |true=>rw[ah rfl];cases g;exact k n c
def Xv(h:US X e ga):Al X e ga:=h.pt
def Py(g:Al X a ga):Al X (.UnaryOp .Not a pos) (pa ga) :=
 PT.imp (JK g) <| by rintro j H Q ⟨c,x,f,e,k⟩;obtain⟨y,i,h⟩:=ak.mp e;exact{c,y,f,i,λb d=>by show Q (!y) b;rw[h];exact k b d}
def fW:a0->Option Lp:=λ_=>Y []
def c4(f:a0->Od)(g:a0->Option Lp):a0->Option Lp:=λa=>(f a).bind λx=>(g a).bind λb=>Y (x::b)
def Gw:ux X [] fW:=PA.imp mx <| by rintro a H Q ⟨b,d,c,e,k⟩;cases e;exact k [] H (.refl H) bz.nil
def rT(l:PD X e f)(j:ux X es ff)(a:zr0 (zE e es X)):ux X (e::es) (c4 f ff) :=
 PA.imp (jh l j a) <| by rintro p H Q ⟨b,r,a,e,k⟩;obtain⟨x,n,e⟩:=bind_some e;obtain⟨g,m,e⟩:=bind_some e;cases e;exact{b,x,a,n,λv s d i=>{b,g,a.same d,m,λq o c h=>k _ o (d.trans c) (bz.cons (i.same c) h)}}
def mz(c:a0->Option Lp):a0->Od:=λb=>(c b).bind λa=>if a.length<=sizeLine then Y (.tuple a) else Z
def gk(b:a0->Option Lp):a0->Od:=λρ=>(b ρ).bind λa=>if a.length<=sizeLine then Y (.list a) else Z
def Kp{x1}(h:ux X es ff):PD X (.Tuple es x1 pos) (mz ff) :=
 PE.imp (Us h) <| by
  rintro l H Q ⟨f,d,i,e,k⟩;obtain⟨b,j,e⟩:=bind_some e;by_cases a:b.length<=sizeLine
  .rw[ah a] at e;cases e;exact{f,b,i,j,λm n g c=>{by rw[<-c.length];exact a,(k.later g).Po c}}
  .rw[aq a] at e;cases e
def UU(h:ux X es ff):PD X (.List es pos) (gk ff) :=
 PE.imp (J4 h) <| by
  rintro l H Q ⟨f,d,i,e,k⟩;obtain⟨b,j,e⟩:=bind_some e;by_cases a:b.length<=sizeLine
  .rw[ah a] at e;cases e;exact{f,b,i,j,λm n g c=>{by rw[<-c.length];exact a,(k.later g).ya c}}
  .rw[aq a] at e;cases e
abbrev FO:=a0->Option (Option Int)
def tDO(K:Fg)(g:FO):TO:=λc H Q=>∃a o,jt K H c a/\g a=Y o/\∀b,dn H b->Q o b
def Ww(X:Cx)(e:Option Expr)(g:FO):Prop:=PO X e (tDO X.K g)
def PO.imp{e:Option Expr}{t u:TO}(h:PO X e t)(k:∀σ H Q,u σ H Q->t σ H Q):PO X e u:=λa s σ H Q I q=>@h a s σ H Q I (k σ H Q q)
def lJ:FO:=λ_=>Y Z
def kJ(f:a0->Od):FO:=λρ=>(f ρ).bind λd=>match d with | .int i=>Y (Y i)|_=>Z
def Kq:Ww X Z lJ:=PO.imp Pa <| by rintro a H Q ⟨b,o,c,e,k⟩;cases e;exact k H (.refl H)
def Kr(h:PD X e f):Ww X (Y e) (kJ f):=PO.imp (Pb h) <| by
 rintro m H Q ⟨b,o,i,e,k⟩;obtain⟨d,j,a⟩:=bind_some e;cases d<;>first
  | (cases a;exact{b,_,i,j,λv l c g=>{_,c5.ee.mp g,k l c}})
  |cases a
def m9(a:List α)(b c:Option Int):List α:=(a.drop (HT.j3 a.length 0 b)).take (HT.j3 a.length a.length c - HT.j3 a.length 0 b)
def bz.cut{K:Fg}(h:bz K H ds vs)(a b:Option Int):bz K H (m9 ds a b) (B7 vs a b):=by unfold m9 B7;rw[<-h.length];exact(h.drop _).take _
def Xw(K:Fg):V->Option Int->Option Int->Hp->VK->Prop:=λx c d H Q=>∃a b,x=.ref a/\pB K H a b/\(HT.j3 b.length 0 c=0/\HT.j3 b.length b.length d=b.length)/\Q (.ref a) H
end
end L2
local macro_rules
|`(zO $a)=>zzz "L2.rT 0 L2.Gw" #[a]
|`(zC $s $a)=>zzz "L2.c4 (L2.dC (.str 0)) 1" #[s,a]
|`(zQ $a)=>zzz "L2.c4 0 L2.fW" #[a]
|`(zA $s)=>zzz "L2.dC (.str 0)" #[s]
|`(zI $n)=>zzz "L2.dC (.int 0)" #[n]
namespace HT
open PySem PyProof.Rows
section
variable {prog:Program}
def qB{t e:Addr}{k j:Value}{a d:Option Int}{Q:Px} (c:IsTup s.heap t items) (l:s.heap.IsSliceOf e k j .none) (n:IsPart k a) (m:IsPart j d)
  (hw:j3 items.size 0 a=0/\j3 items.size items.size d=items.size) (h:Q (.ref t) s):wpAny (model prog w) A (getItem (.ref t) (.ref e)) Q E s:=by
 obtain⟨o,f,g,p⟩:=id l;have i:s.TypeIs (.ref e) "slice":={(o),f,g}
 unfold getItem
 try with_reducible refine a8 ?_
 first|refine aa (ao ?_)|skip
 refine aa (wpAny_sequenceKey c.typeIs (by decide) ?_);refine aa (cK (name:=zZ "__getitem__") c.typeIs bw
  (dP bw c.typeIs entry_tuple_getitem ?_ (args_tuple_getitem _ _)))
 show wpAny _ _ (Builtin.Tuple.tupleItemsOf (.ref t)>>=_) _ _ s;refine aa (tupleItemsOf_ c ?_);refine aa (cE i ?_);rw[ah (by decide)];refine aa (nV l n m ?_);have b:((((j3 items.size 0 a:Nat):Int)==0&&(1:Int)==1&&(j3 items.size items.size d - j3 items.size 0 a)==items.size)=true):=by rw[hw.1,hw.2];simp
 show wpAny _ _ (if (((j3 items.size 0 a:Nat):Int)==0&&(1:Int)==1&&(j3 items.size items.size d - j3 items.size 0 a)==items.size)=true then _ else _) _ _ s;rw[ah b];unfold Builtin.Tuple.tupleIsExact;refine aa (aa (cE c.typeIs (ao ?_)));rw[ah (by decide)];refine aa (fu ?_);exact ao {_,rfl,ao h}
end
end HT
namespace L2
open PySem PySem.Spec PyProof.Rows
section
variable {a c:Expr}
def Pz:Gk X (Xw X.K):=by
 intro d s m H x v o n t w p Q I g l j i h;sleep 1;obtain⟨a,f,rfl,k,hw,q⟩:=h;sleep 2;cases g;obtain⟨c,r,e,u⟩:=I.tuple k;have b:c.toArray.size=f.length:=by rw[aA];exact r.length.symm
 refine{"tuple",_,bw.lookup,e.typeIs,?_};exact HT.qB e l j i (by rw[b];exact hw) {.ref a,H,I,rfl,q}
def g_:V->Option Int->Option Int->Hp->VK->Prop:=λx a b H Q=>∃z,x=.str z/\z.length<=sizeLine/\Q (.str (Txt.slice z a b)) H
def qi:Value->Option (Int×Tok)
 |.int i t=>Y (i,t)
 |_=>Z
def uz{v:Value}{o:Option Int}(p:IsPart v o):partValue (qi v)=v/\(qi v).map (·.1)=o:=by cases p<;>exact{(rfl),rfl}
theorem UW:Gk X g_:=by
 intro f s D H x v d c a b G Q I j y n m h;obtain⟨z,rfl,w,q⟩:=h;obtain⟨t,rfl⟩:=j;refine{"str",_,F.slot_str_getitem.lookup,dQ _ _ _,?_};obtain⟨r,p⟩:=uz n;obtain⟨i,g⟩:=uz m;obtain⟨o,A,C,B⟩:=y;refine wpAny_getItem_str_slice (l:=qi d) (u:=qi c) (st:=Z) {o,A,C,by rw[r,i];exact B} rfl ?_;have e:sliceMade z t (qi d) (qi c) Z=(if ((1:Int)==1&&(Builtin.Str.strSliceIndices a b 1 z.length).length==z.length)=true then .val (.str z t) else .str {((Builtin.Str.strSliceIndices a b 1 z.length).filterMap (z.cps[·]?)).toArray}):=by unfold sliceMade slicePicked;rw[p,g];rfl
 rw[e];exact post_val_or_str {bx (Txt.slice_le z a b) w,λE k=>{.str (Txt.slice z a b),H,I.tok _,{_,rfl},q}}
def D3:fJ->Option Int->Option Int->Od
 |.list xs,lo,hi=>Y (.list (m9 xs lo hi))
 |.tuple xs,lo,hi=>Y (.tuple (m9 xs lo hi))
 |.str z,lo,hi=>if z.length<=sizeLine then Y (.str (Txt.slice z lo hi)) else Z
 |_,_,_=>Z
def ko(f:a0->Od)(l h:FO):a0->Od:=λρ=>(f ρ).bind λx=>(l ρ).bind λa=>(h ρ).bind λb=>D3 x a b
def Gk.imp{r b:V->Option Int->Option Int->Hp->VK->Prop}(h:Gk X r)(k:∀x lo hi H Q,b x lo hi H Q->r x lo hi H Q):Gk X b :=
 λa s σ H x v d c lo hi e Q I f i pl g q=>@h a s σ H x v d c lo hi e Q I f i pl g (k _ _ _ _ _ q)
def slD:Gk X (λx lo hi H Q=>∃d c,c5 X.K H d x/\D3 d lo hi=Y c/\KD X.K H c Q):=by
 refine Gk.imp (Gq.or (UW.or (Uv.or Pz))) ?_;rintro x lo hi H Q ⟨d,c,i,e,k⟩;cases d<;>try (simp[D3] at e;done)
 .rename_i z;dsimp only[D3] at e;by_cases h:z.length<=sizeLine
  .rw[ah h] at e;cases e;exact .inr (.inl {z,c5.e9.mp i,h,k.here (c5.e9.mpr rfl)})
  .rw[aq h] at e;cases e
 .rename_i g;cases e;sleep 1;obtain⟨p,a,rfl,f,b⟩:=c5.fj.mp i;sleep 2;exact .inl {p,a,rfl,f,k.ya (b.cut lo hi)}
 .rename_i g;cases e;sleep 1;obtain⟨p,a,rfl,f,b⟩:=i.ig;sleep 2;by_cases hw:HT.j3 a.length 0 lo=0/\HT.j3 a.length a.length hi=a.length
  .refine .inr (.inr (.inr {p,a,rfl,f,hw,?_}));have:m9 g lo hi=g:=by
    unfold m9;rw[b.length,hw.1,hw.2];simp only[List.drop_zero,Nat.sub_zero];rw[<-b.length];exact List.take_length
   rw[this] at k;exact k.here i
  .exact .inr (.inr (.inl {p,a,rfl,f,hw,k.Po (b.cut lo hi)}))
def Ks{n o:Option Expr}{l h:FO}(s:PD X e f)(r:Ww X n l)(q:Ww X o h):PD X (.Subscript e (.Slice n o Z p2) pos) (ko f l h) :=
 PE.imp (B6 slD s r q) <| by rintro y H Q ⟨a,d,i,e,k⟩;obtain⟨x,w,e⟩:=bind_some e;obtain⟨g,u,e⟩:=bind_some e;obtain⟨j,t,e⟩:=bind_some e;exact{a,x,i,w,λv B c p=>{a,g,i.same c,u,λA b=>{a,j,i.same (c.trans b),t,λz m=>{x,d,p.same (b.trans m),e,k.later (c.trans (b.trans m))}}}}
def rDC(K:Fg)(g:Lp->Od):List V->Hp->VK->Prop:=λb H Q=>∃a c,bz K H a b/\g a=Y c/\KD K H c Q
def vZ(X:Cx)(v:Value)(g:Lp->Od):Prop:=jb X v (rDC X.K g)
def iH(g:Lp->Od)(a:a0->Option Lp):a0->Od:=λρ=>(a ρ).bind g
def tDC{K:Fg}{g:Lp->Od}{Q:VK}(h:tD K (iH g ff) σ H Q):Ze (rDC K g) (tDA K ff) σ H Q:=by sleep 1;obtain⟨b,d,i,e,k⟩:=h;sleep 2;obtain⟨a,l,j⟩:=bind_some e;exact{b,a,i,l,λm n c f=>{a,d,f,j,k.later c}}
def Cd{c:String}{g:Lp->Od} (l:vZ X (.builtin c) g) (j:Gl X x) (i:X.mg x=Z) (d:bootBuiltins x=Y (.builtin c)) (m:ux X (e::es) ff) (f:zd0 (x≠"__name__")) (b:zd0 (zg x))
  (k:zr0 (zE e es X)) (a:zr0 ((backTo pos (starEach es X.env)).any (·.1)=false)):PD X (.Call (.Name x p) (e::es) [] pos) (iH g ff) :=
 PE.imp (vT l j i d m f b k a) λ_ _ _ h=>tDC h
def yP{T:String}{g:Lp->Od} (k:vZ X (.type T) g) (i:Gl X x) (f:X.mg x=Z) (c:bootBuiltins x=Y (.type T)) (l:ux X (e::es) ff) (d:zd0 (x≠"__name__")) (b:zd0 (zg x))
  (j:zr0 (zE e es X)) (a:zr0 ((backTo pos (starEach es X.env)).any (·.1)=false)):PD X (.Call (.Name x p) (e::es) [] pos) (iH g ff) :=
 PE.imp (yI k i f c l d b j a) λ_ _ _ h=>tDC h
def ij{K:Fg}(h:bz K H [d] vs):∃v,vs=[v]/\c5 K H d v:=by sleep 1;obtain⟨v,r,rfl,a,t⟩:=bz.dt.mp h;sleep 2;rw[bz.eB.mp t];exact{(v),rfl,a}
def Kt{K:Fg}{b:fJ}(h:bz K H [d,b] vs):∃v a,vs=[v,a]/\c5 K H d v/\c5 K H b a:=by sleep 1;obtain⟨v,r,rfl,e,t⟩:=bz.dt.mp h;sleep 2;obtain⟨a,rfl,c⟩:=ij t;exact{(v),a,rfl,e,c}
def Xx:Lp->Od
 |[.list xs]=>Y (.tuple xs)
 |[.tuple xs]=>Y (.tuple xs)
 |_=>Z
def Gx:Lp->Od
 |[.list xs]=>Y (.list xs)
 |[.tuple xs]=>Y (.list xs)
 |_=>Z
def PC:Lp->Od
 |[.list xs]=>Y (.int xs.length)
 |[.tuple xs]=>Y (.int xs.length)
 |[.str z]=>if z.length<=sizeLine then Y (.int z.length) else Z
 |_=>Z
def UX:vZ X (.builtin "len") PC:=by
 refine jb.imp (Af.or Ag) ?_;rintro l H Q ⟨j,c,i,e,k⟩
 match j,e with
 |[.list h],e=>cases e;obtain⟨v,rfl,a⟩:=ij i;sleep 1;obtain⟨p,b,rfl,g,f⟩:=c5.fj.mp a;sleep 2;exact .inl {p,b,rfl,.inl g,k.here (by rw[f.length];exact c5.ee.mpr rfl)}
 |[.tuple h],e=>cases e;obtain⟨v,rfl,a⟩:=ij i;sleep 1;obtain⟨p,b,rfl,g,f⟩:=a.ig;sleep 2;exact .inl {p,b,rfl,.inr g,k.here (by rw[f.length];exact c5.ee.mpr rfl)}
 |[.str z],e=>
  dsimp only[PC] at e;by_cases d:z.length<=sizeLine
  .rw[ah d] at e;cases e;obtain⟨v,rfl,a⟩:=ij i;exact .inr {z,by rw[c5.e9.mp a],d,k.here (c5.ee.mpr rfl)}
  .rw[aq d] at e;cases e
def aao:Lp->Od
 |[.int i,.int j]=>Y (.int (if j<i then j else i))
 |_=>Z
end
section
variable {a c:Expr}{rest:List Stmt}{h:a0->Option Out}
def f7:a0->Option Out:=λρ=>Y (.nx ρ)
def bo(g h:a0->Option Out):a0->Option Out:=λb=>(g b).bind λo=>match o with
 |.nx a=>h a
 |o=>Y o
def f9(f:a0->Od):a0->Option Out:=λa=>(f a).map .rt
def ir(c:a0->Option Bool)(g h:a0->Option Out):a0->Option Out:=λρ=>(c ρ).bind λx=>if x then g ρ else h ρ
abbrev BD:=fJ->a0->Option a0
def tDG(K:Fg)(g:BD):TG:=λv f H Q=>∃e d b,jt K H f e/\c5 K H d v/\g d e=Y b/\∀a c,dn H c->jt K c a b->Q a c
def Zl(X:Cx)(a:Expr)(b:BD):Prop:=PG X a (tDG X.K b)
def PG.imp{t u:TG}(h:PG X tg t)(k:∀v σ H Q,u v σ H Q->t v σ H Q):PG X tg u:=λa s σ H v b Q I r q=>@h a s σ H v b Q I r (k _ _ _ _ q)
def OI.imp{b:Lx}{t u:OZ}(h:OI X b t)(k:∀v σ H Q,u v σ H Q->t v σ H Q):OI X b u:=λa s σ H v c Q I r q=>@h a s σ H v c Q I r (k _ _ _ _ q)
def Gy(i:Nat):BD:=λd a=>Y (a.set i (Y d))
def v5(i:Nat)(j:X.N.Nodup)(g:zr0 (X.N[i]?=Y x))(c:zr 3 (D5 X.env.scope x))(h:zr 1 (X.fn x=true\/X.env.scope.names.lookup x=Y .local)):Zl X (.Name x pos) (Gy i) :=
 PG.imp (nc j g c h) <| by rintro v l H Q ⟨m,d,a,f,b,e,k⟩;cases e;exact k _ H (.refl H) (f.set b)
abbrev Sz:=List fJ->a0->Option a0
def h_(K:Fg)(h:Sz):OZ:=λg f H Q=>∃d e b,jt K H f d/\bz K H e g/\h e d=Y b/\∀a c,dn H c->jt K c a b->Q a c
def PH(X:Cx)(a:Lx)(b:Sz):Prop:=OI X a (h_ X.K b)
def Xy:Sz:=λb a=>match b with | []=>Y a|_=>Z
def Ku(b:BD)(f:Sz):Sz:=λe c=>match e with | []=>Z|d::r=>(b d c).bind λa=>f r a
def Kv:PH X [] Xy:=OI.imp Aa <| by
 rintro h a H Q ⟨g,f,b,d,c,e,k⟩;cases f with
 |nil=>cases e;exact{bz.eB.mp c,k a H (.refl H) d}
 |cons _ _=>cases e
def yQ{bd:BD}{j:Sz}(u:Zl X e bd)(t:PH X es j)(h:zr0 ((assignEach (e::es) X.env).map (·.2)=assign e X.env::(assignEach es X.env).map (·.2))):PH X (e::es) (Ku bd j) :=
 OI.imp (nU u t h) <| by
  rintro B A H Q ⟨m,y,c,h,s,e,k⟩;cases y with
  |nil=>cases e
  |cons d r=>obtain⟨a,x,w⟩:=bind_some e;sleep 1;obtain⟨v,n,rfl,q,p⟩:=bz.dt.mp s;sleep 2;exact{v,n,rfl,m,d,a,h,q,x,λl C i g=>{a,r,c,g,p.same i,w,λb z o f=>k b z (i.trans o) f}}
def PK(n:Nat)(b:Sz):BD:=λd a=>match d with | .tuple ds=>if ds.length=n then b ds a else Z|_=>Z
def PL{k:Nat}{i:Sz}(r:X.calm=true)(h:PH X es i)(q:zr0 ((assignEach es X.env).length=n))(b:zr0 ((assignEach es X.env).findIdx? (·.1)=Z)):Zl X (.Tuple es k pos) (PK n i) :=
 PG.imp (D6 r h q b) <| by
  rintro v t H Q ⟨j,d,a,o,m,e,k⟩;cases d<;>try (simp[PK] at e;done)
  rename_i g;dsimp only[PK] at e;by_cases c:g.length=n
  .rw[ah c] at e;sleep 1;obtain⟨p,l,rfl,s,f⟩:=m.ig;sleep 2;exact{p,l,rfl,s,by rw[<-f.length];exact c,j,g,a,o,f,e,k}
  .rw[aq c] at e;cases e
def Ew(K:Fg)(J:It)(c:Lp)(H:Hp):Prop :=
 ∀a,dn H a->(J.stop c.length a)/\∀(i:Nat) (d:fJ),c[i]?=Y d->J.go i a/\∀x b,J.Ui i a x b->dn a b/\c5 K b d x
def tDI(K:Fg)(q:a0->Option Lp):TI:=λd H R=>∃b c,jt K H d b/\q b=Y c/\∀J a,dn H a->Ew K J c a->R J a
def Gz(X:Cx)(b a:Expr)(q:a0->Option Lp):Prop:=PI X b a (tDI X.K q)
def PI.imp{t u:TI}(h:PI X tg iter t)(k:∀σ H R,u σ H R->t σ H R):PI X tg iter u:=λa s σ H R I q=>@h a s σ H R I (k _ _ _ q)
def PI.or{t u:TI}(h:PI X tg iter t)(b:PI X tg iter u):PI X tg iter (λσ H R=>t σ H R\/u σ H R):=λa s σ H R I q=>q.elim (@h a s σ H R I) (@b a s σ H R I)
def pb(f:a0->Od):a0->Option Lp:=λρ=>(f ρ).bind λd=>match d with | .list ds=>Y ds | .tuple ds=>Y ds|_=>Z
def PM(h:PD X e f):Gz X tg e (pb f) :=
 PI.imp (PI.or (Gf h) (JP h)) <| by
  rintro B H R ⟨t,C,u,e,k⟩;obtain⟨d,w,a⟩:=bind_some e;cases d<;>try (simp at a;done)
  .cases a;refine .inl {t,_,u,w,λv s l o=>?_};sleep 1;obtain⟨p,b,rfl,a,j⟩:=c5.fj.mp o;sleep 2;refine{p,rfl,{(b),a},k _ s l λA c=>{{b,c.seq a,by rw[j.length];exact aE _},λi d q=>?_}};obtain⟨x,g,r⟩:=j.get q;refine{{b,x,c.seq a,g},?_};rintro y z ⟨n,m⟩;subst n;have:=m b (c.seq a);rw[g] at this;cases this;exact{.refl _,r.same c}
  .cases a;refine .inr {t,_,u,w,λv s l o=>?_};sleep 1;obtain⟨p,b,rfl,a,j⟩:=o.ig;sleep 2;refine{p,rfl,{(b),a},k _ s l λA c=>{{b,c.x8 a,by rw[j.length];exact aE _},λi d q=>?_}};obtain⟨x,g,r⟩:=j.get q;refine{{b,x,c.x8 a,g},?_};rintro y z ⟨n,m⟩;subst n;have:=m b (c.x8 a);rw[g] at this;cases this;exact{.refl _,r.same c}
def mB(a:Int)(n:Nat):Lp:=(List.range n).map λk=>.int (a+(k:Nat))
def Ce{K:Fg}(a:Int)(n:Nat)(H:Hp):Ew K (WV a n) (mB a n) H:=λh f=>by
 refine{by show n<=(mB a n).length;simp[mB],λi d q=>?_};have b:i<n:=by have:=(aM.mp q).1;simpa [mB] using this
 refine{b,?_};rintro x g ⟨e,c⟩;subst e c;have:d=.int (a+(i:Nat)):=by unfold mB at q;rw[aB,fG b] at q;cases q;rfl
 subst this;exact{.refl _,c5.ee.mpr rfl}
def iI(f:a0->Od):a0->Option Lp:=λa=>(f a).bind λd=>match d with | .int j=>if -(2 ^ 62)<=j/\j<2 ^ 62 then Y (mB 0 j.toNat) else Z|_=>Z
def Ex(o:Gl X "range")(n:X.mg "range"=Z)(h:PD X e f)(b:zr0 (starEach [e] X.env=[(false,eval e X.env)])):Gz X tg (.Call (.Name "range" p) [e] [] pos) (iI f) :=
 PI.imp (yD o n (jh h mx (by rw[b];rfl)) b) <| by
  rintro r H R ⟨i,s,b,e,k⟩;obtain⟨d,q,a⟩:=bind_some e;cases d<;>try (simp at a;done)
  rename_i j;dsimp only at a;by_cases c:-(2 ^ 62)<=j/\j<2 ^ 62
  .rw[ah c] at a;cases a;exact{i,_,b,q,λv g l m=>{j,by rw[c5.ee.mp m],c.1,c.2,k _ g l (Ce 0 _ g)}}
  .rw[aq c] at a;cases a
def ib(a:BD)(g:a0->Option Out):Lp->a0->Option Out
 |[],ρ=>Y (.nx ρ)
 |d::ds,ρ=>((a d ρ).bind g).bind λo=>match o with
  |.nx ρ'=>ib a g ds ρ'
  |.ct ρ'=>ib a g ds ρ'
  |.bk ρ'=>Y (.nx ρ')
  |.rt d=>Y (.rt d)
end
def OK(K:Fg)(n:Nat)(f:Lp->Od):Sp:=λb H Q _=>∃a d,bz K H a b/\a.length=n/\f a=Y d/\KD K H d Q
section
variable {k:Nat}{fa:Addr}{f:Lp->Od}
def ji(n:Nat)(f:Lp->Od)(a:a0->Option Lp):a0->Od:=λρ=>(a ρ).bind λds=>if ds.length=n then f ds else Z
def PN(F:j6 X.prog X.w X.K X.mg X.base vd k fa fd ps (OK X.K n f)) (o:hG k X.A) (s:Gl X x) (q:X.mg x=Y (.ref fa)) (r:W.keepIn X.K (.ref fa)=true) (u:jc X.K fd ps [])
  (v:ux X (e::es) ff) (g:zd0 (zg x)) (t:zr0 (zE e es X)) (b:zr0 ((backTo pos (starEach es X.env)).any (·.1)=false)):
  PD X (.Call (.Name x p) (e::es) [] pos) (ji n f ff) :=
 PE.imp (vD F o s q r u .nil rQ v g t b) <| by
  rintro z H Q ⟨i,d,m,e,k⟩;obtain⟨h,y,a⟩:=bind_some e;by_cases c:h.length=n
  .rw[ah c] at a;exact{i,h,m,y,λB C j l=>{h,d,by rw[aG];exact l,c,a,k.later j}}
  .rw[aq c] at a;cases a
def gm(N:Lr)(ds:Lp):a0:=ds.map Y++List.replicate (N.length - ds.length) Z
def kr{K:Fg}{N:Lr}(h:bz K H ds vs):jt K H (kA N vs) (gm N ds):=by
 have b:=h.length;refine{by simp[kA,gm,b],λi d q=>?_};unfold gm at q;by_cases a:i<ds.length
 .rw[bt (by simpa using a),aB] at q;obtain⟨j,g,f⟩:=ak.mp q;cases f;obtain⟨v,e,c⟩:=h.get g;refine{v,?_,c};unfold kA;rw[bt (by simpa using (by omega:i<vs.length)),aB,e];rfl
 .rw[aQ (by simpa using a),bG] at q;split at q<;>cases q
def gL(N:Lr)(g:a0->Option Out):Lp->Od:=λa=>(g (gm N a)).bind λo=>match o with
 |.rt d=>Y d
 |.nx _=>Y .none
 |_=>Z
end
end L2
namespace Zf
open PySem PySem.W PySem.Calls PyProof.Rows
def Ao{l:OpenLaw}{q:Program}{b:Lr}{B:(Str->Ow)->Heap->Prop}{A:World->Heap->Prop}{d:DefRec}
  (I:l.most=Y n) (s:d.params.defaults=[])
  (k:∀(w:World) (gO s₁:Shared) (mg mb:Str->Ow) (fa:Addr) (o:Obj) (pm cd doc:Value) (a:Addr) (vs:Lw) (ns:List Int),
   Ground q b [] B w gO mg mb s₁.heap->A w s₁.heap ->
   s₁.heap.get? fa=Y o->o.data=.func (docDef d.name d.params d.body d.scope pm cd doc)->s₁.heap.CodeRec cd d.name->mg d.name=Y (.ref fa) ->
   s₁.heap.get? a=Y { cls:=.type "list",data:=.seq vs.toArray }->IntsAre vs ns->ns.length<=n->(∀x∈ns,L2.jE x=true)->s₁.gens=#[] ->
   codeAny (model l.prog w) callerA (.call (.ref fa) {[.ref a],[]}) (λr s'=>r=.ok (.ret (.bool true))/\OldK s₁.heap s'.heap/\s'.os=s₁.os/\AllBare s'.gens) s₁):
  WalkO q b B A l.row.toRowW d [] (λf vs=>PySem.call f vs):=by
 intro w gO s₁ mg mb G Y fa o pm cd doc P C H M t y hmg L z v Q g j E p K;obtain rfl:P=.none:=Dflts.none y s;obtain rfl:C=.none:=Dflts.noKw y;sleep 1;obtain⟨a,vs,ns,rfl,rfl,h,c,i⟩:=Ik I g p;sleep 2;have e:∀x∈ns,L2.jE x=true:=λx D=>by
  have O:=layableW_arg j (WData.list (ns.map WData.int)) (by simp);have m:=layable_int (layableW_item O (.int x) (av.mpr {(x),D,rfl}));have u:(fJ.int x).layable=decide (Builtin.Int.intBits x<=1048576):=by simp[fJ.layable,fJ.canLay,fJ.depth,fJ.weight,Builtin.Int.intBits]
  rw[u] at m;exact m
 refine enter_call (b8 (k w gO s₁ mg mb fa o pm cd doc a vs ns G Y H (fd_plain M) t hmg h c i e L) λr s' F=>?_);obtain⟨rfl,m,u,N⟩:=F;exact{.inl {.bool true,.bool true,[],rfl,λ_=>rfl,.bool true,Il l _,λ_=>{List.Pairwise.nil,λ_ J=>(nomatch J)}},m,u,N}
end Zf
namespace L2
open PySem PySem.Spec PyProof.Rows
theorem yR{K:Fg}{H:Hp}:∀a:List Int,bz K H (a.map fJ.int) (a.map V.int)
 |[]=>bz.nil
 |n::a=>bz.cons (c5.ee.mpr rfl) (yR a)
structure oq (P:Program) (w:World) (K:Fg) (mg:Str->Ow) (base:Heap) (x:Str) (k n:Nat) (f:Lp->Od):Prop where
 ex:∃a fd ps,j6 P w K mg base vd k a fd ps (OK K n f)/\mg x=Y (.ref a)/\W.keepIn K (.ref a)=true/\jc K fd ps []
section
variable {f:Lp->Od}{k:Nat}
theorem Kw(O:oq X.prog X.w X.K X.mg X.base x j n f) (h:hG k X.A) (l:Gl X x) (q:ux X (e::es) ff) (i:zd0 (j<=k)) (d:zd0 (zg x))
  (o:zr0 (zE e es X)) (c:zr0 ((backTo pos (starEach es X.env)).any (·.1)=false)):PD X (.Call (.Name x p) (e::es) [] pos) (ji n f ff):=by
 sleep 1;obtain⟨a,s,r,F,m,g,b⟩:=O.ex;sleep 2;exact PN (F.mono i) h l m g b q d o c
end
def Ir{l:W.OpenLaw}{k:Nat}{q:Program}{j:Lr}{R:(Str->Ow)->Heap->Prop}{C:World->Heap->Prop}{d:DefRec}{K:Params->Fg}{f:Lp->Od}
  (E:l.most=Y n) (t:n<=sizeLine) (y:d.params.defaults=[]) (D:hG k callerA)
  (N:∀(w:World) (h:Heap),C w h->(K w.params).In h)
  (F:∀(w:World) (mg:Str->Ow) (fa:Addr) (h:Heap),(K w.params).In h->h.Ns mainGlobals mg->mg d.name=Y (.ref fa) ->
   ∃fd:FuncData,(∀(s:Shared) (u:Value),BindsTo s fd {[u],[]} [(x,u)]) /\
    ∀base:Heap,(K w.params).In base->base.Ns mainGlobals mg->j6 l.prog w (K w.params) mg base vd k fa fd [x] (OK (K w.params) 1 f))
  (J:∀ns:List Int,ns.length<=n->(∀x∈ns,jE x=true)->f [.list (ns.map .int)]=Y (.bool true)):
  W.WalkO q j R C l.row.toRowW d [] (λf vs=>PySem.call f vs):=by
 refine Zf.Ao E y λw B A mg V fa o U cd Q a vs ns G Y X hd L hmg r m c p I=>?_;have KX:=N w _ Y;obtain⟨fd,M,P⟩:=F w mg fa _ KX G.T.g hmg;refine Kf KX G.T.g G.T.b G.T.builtins G.T.nolimit I r m (bx c t) D P M (λH hO O=>?_) λH e S z=>z;exact{[.list (ns.map .int)],.bool true,bz.cons (c5.fj.mpr {a,_,rfl,O,yR ns}) bz.nil,rfl,J ns c p,λv H' _ i=>c5.ej.mp i}
end L2
namespace L2
open PySem
theorem toNat_inj{a b:Char}(h:a.toNat=b.toNat):a=b:=Char.toNat_inj.mp h
theorem qJ:∀{a b:List Char},a.map Char.toNat=b.map Char.toNat->a=b
 |[],[],_=>rfl
 |[],_::_,h=>by simp at h
 |_::_,[],h=>by simp at h
 |a::as,b::bs,h=>by
  rw[af,af] at h;injection h with d c
  rw[toNat_inj d,qJ c]
def Ap{a b:String}(h:zZ a=zZ b):a=b:=by
 rw[dD,dD] at h;injection h with h
 have c:=bJ Array.toList h;simp only[List.toList_toArray] at c;exact String.toList_inj.mp (qJ c)
def jk(a b:String):(zZ a==zZ b)=(a==b):=by
 by_cases h:a=b
 .subst h;simp
 .have c:¬ zZ a=zZ b:=λz=>h (Ap z);rw[aT.mpr c,aT.mpr h]
def ba(a:String):fJ.strOk (zZ a)=true:=by
 rw[dD];unfold fJ.strOk;simp only[Array.all_eq_true',List.mem_toArray,av];rintro x ⟨c,_,rfl⟩;have:=c.valid;simp only[cj];have b:c.toNat<1114112:=by
  rcases c.valid with h|h
  .have:c.toNat<55296:=h;omega
  .exact h.2
 exact b
end L2
namespace L2
open PySem PySem.Spec PyProof.Rows
def v7(c:Env)(b:Scope):List (Str×Addr):=(b.names.filterMap λp=>if p.2==NameKind.free then (c.cells.lookup p.1).map λa=>(p.1,a) else Z).reverse
theorem rV(d:Env):∀(b:List (Str×NameKind)) (acc:List (Str×Addr)),(∀p∈b,p.2=.free->∃c,d.cells.lookup p.1=Y c) ->
  (forIn b acc λp cs=>(if (p.2==NameKind.free)=true then do let c <-cellOf d p.1;pure (ForInStep.yield ((p.1,c)::cs)) else pure (ForInStep.yield cs):Sem (ForInStep (List (Str×Addr))))) =
   pure ((b.filterMap λp=>if p.2==NameKind.free then (d.cells.lookup p.1).map λa=>(p.1,a) else Z).reverse++acc)
 |[],acc,_=>rfl
 |p::r,acc,h=>by
  have g:=λacc=>rV d r acc λq j=>h q (ai _ j);rw[cQ];by_cases f:p.2=.free
  .obtain⟨c,i⟩:=h p bh f;have e:(p.2==NameKind.free)=true:=by rw[f];rfl
   rw[ah e];have k:cellOf d p.1=pure c:=by unfold cellOf;rw[i]
   rw[k];simp only[pure_bind];rw[g,bA,ah e,i];simp
  .have e:(p.2==NameKind.free)=false:=by simpa using f
   rw[aq (by rw[e];exact aS)];simp only[pure_bind];rw[g,bA,aq (by rw[e];exact aS)]
def nH{a:Env}(h:∀p∈scope.names,p.2=.free->∃c,a.cells.lookup p.1=Y c):closureFor scope a=pure (v7 a scope):=by
  have e:=rV a scope.names [] h;unfold closureFor v7;rw[aG] at e;have f:(forIn scope.names ([]:List (Str×Addr)) λx d=>(match x with|(name,b)=>do if (b==NameKind.free)=true then do let c <-cellOf a name;pure (ForInStep.yield ((name,c)::d)) else pure (ForInStep.yield d):Sem (ForInStep (List (Str×Addr)))))=_:=e
  first
    | (simp only[bind_pure] ;exact f)
    | (show (forIn scope.names ([]:List (Str×Addr)) _>>=λd=>pure d)=_
       rw[bind_pure];exact f)
def Kx{b:Env}{c:Addr}(h:(x,c)∈v7 b scope):b.cells.lookup x=Y c/\(x,NameKind.free)∈scope.names:=by
 unfold v7 at h;rw[List.mem_reverse,bu] at h;obtain⟨⟨n,k⟩,f,e⟩:=h;by_cases d:(k==NameKind.free)=true
 .rw[ah d] at e;obtain⟨a,i,g⟩:=ak.mp e;cases g;have:k=.free:=eq_of_beq d;subst this;exact{(i),f}
 .rw[aq d] at e;cases e
def jP{a:Env}{c:Addr}(h:(v7 a scope).lookup x=Y c):a.cells.lookup x=Y c:=(Kx (bK h)).1
theorem qK{α:Type}{x:Str}{c:α}:∀{l:List (Str×α)},(x,c)∈l->∃d,l.lookup x=Y d
 |[],h=>by cases h
 | (n,a)::r,h=>by
  by_cases e:x=n
  .subst e;exact{a,by simp}
  .rcases ag.mp h with h|h
   .cases h;exact absurd rfl e
   .obtain⟨d,b⟩:=qK h;exact{d,by rw[bp,aT.mpr e];exact b}
def Cf{a:Env}{c:Addr}(g:(x,NameKind.free)∈scope.names)(f:a.cells.lookup x=Y c):(v7 a scope).lookup x=Y c:=by
 have:(x,c)∈v7 a scope:=by unfold v7;rw[List.mem_reverse,bu];exact{(x,.free),g,by rw[ah (by rfl),f];rfl}
 obtain⟨d,b⟩:=qK this;have e:=jP b;rw[f] at e;cases e;exact b
def uA{b:Env}{k:NameKind}(h:(relabel scope b).names.lookup x=Y k):(x,k)∈scope.names\/(k=.cell/\(x,NameKind.free)∈scope.names):=by
 have c:=bK h;unfold relabel at c;obtain⟨⟨n,f⟩,e,a⟩:=av.mp c;dsimp only at a;split at a
 .rename_i d;cases a;simp only[bH,bF] at d;obtain⟨⟨rfl,_⟩,_⟩:=d;exact .inr {(rfl),e}
 .cases a;exact .inl e
theorem rW{b:Env}:∀{a:List (Str×NameKind)}{x:Str},a.lookup x=Y .free ->
  (a.map λ(n,k)=>if (k==NameKind.free&&b.scope.kind==.function&&b.kindOf n==Y .cell) then (n,NameKind.cell) else (n,k)).lookup x=Y .cell \/
  (a.map λ(n,k)=>if (k==NameKind.free&&b.scope.kind==.function&&b.kindOf n==Y .cell) then (n,NameKind.cell) else (n,k)).lookup x=Y .free
 |[],_,h=>by simp at h
 | (n,k)::r,x,h=>by
  have d:=@rW b r x;rw[af];dsimp only;cases c:x==n with
  |true=>
   simp only[bp,c] at h;cases h;split
   .exact .inl (by simp[bp,c])
   .exact .inr (by simp[bp,c])
  |false=>
   simp only[bp,c] at h;split
   .simp only[bp,c];exact d h
   .simp only[bp,c];exact d h
def kH(X:Cx)(a:Scope)(C:Addr)(N:Lr)(s:Shared)(H:Hp)(b:List Addr):Cx where
 prog:=X.prog
 w:=X.w
 K:=X.K
 mg:=X.mg
 base:=X.base
 A:=X.A
 N:=N
 gO:=s
 lI:=H
 env:=compEnvC a (v7 X.env a) C X.env
 outer:=X.stack
 stack:=X.stack
 ex:=b
 fn:=λ_=>false
 calm:=true
 pn:=[]
 xe:=λ_ _=>False
def ku(X:Cx)(a:Scope):List (Nat×Str)->Prop
 |[]=>True
 | (j,y)::r=>(X.N[j]?=Y y/\(X.env.kindOf y=Y .cell\/X.env.kindOf y=Y .free)/\a.names.lookup y=Y .free)/\ku X a r
theorem ku.at{X:Cx}{a:Scope}:∀{caps:List (Nat×Str)},ku X a caps->∀{i:Nat}{j:Nat}{y:Str},caps[i]?=Y (j,y)->X.N[j]?=Y y/\(X.env.kindOf y=Y .cell\/X.env.kindOf y=Y .free)/\a.names.lookup y=Y .free
 |[],_,_,_,_,h=>by simp at h
 | (_,_)::_,hc,0,_,_,h=>by simp at h;obtain⟨rfl,rfl⟩:=h;exact hc.1
 | (_,_)::_,hc,i+1,_,_,h=>ku.at hc.2 (i:=i) (by simpa using h)
def yb(a:List (Nat×Str))(b:St):St:=a.map λp=>(b[p.1]?).join
def md(a:List (Nat×Str))(b:a0):a0:=a.map λp=>(b[p.1]?).join
structure jH (scope:Scope) (x:Str):Prop where
 kind:scope.kind=.function
 Ky:∀y∈scope.names,y.2≠.cell
 loc:∀y∈scope.names,y.2=.local->scope.names.lookup y.1=Y .local
 var:scope.names.lookup x=Y .local
 has:True:=aZ
section
def UY(d:Lr) {G:List Addr}{s':Shared} (I:c6 X pins σ H s) (D:X.calm=true) (S:jH scope x) (P:∀p∈scope.names,p.2=.free->∃c,X.env.cells.lookup p.1=Y c) (B:ku X scope caps)
  (N:∀b∈G,o9 X pins H b) (M:∀b∈G,∃o,s.heap.get? b=Y o) (R:(zB s)<=C) (k:∀b o,s.heap.get? b=Y o->s'.heap.get? b=Y o) (L:s'.heap.Ns C λ_=>Z) (K:s'.os=s.os) (hg:AllBare s'.gens):
  c6 (kH X scope C (d++caps.map (·.2)) s H G) [] (d.map (λ_=>Z)++yb caps σ) H s':=by
 have t:∀b,b∈(kH X scope C (d++caps.map (·.2)) s H G).fs->b∈X.env.locals::X.fs:=λb f=>I.z8 b f;refine{{I.ok.mod,S.kind,I.ok.glob,I.ok.blt,R,λy z c e1 a=>I.ok.inj y z c (jP e1) (jP a),λy hy=>?_,λy c h=>(by cases h),λ_=>I.ok.hd D,I.ok.frames,.inl rfl,λb f=>?_,I.bs,bx I.ok.HY I.sz,λb o e f=>?_,λb f Q=>?_,I.stack,I.z9},
  K,hg,Un.kept k,{_,L,λi y v e1 a e3=>?_},λy c e=>?_,I.gR.fresh R,λy c e=>I.j5 y c (jP e),λp hp=>?_,I.gR.kept k,?_}
 .have J:(relabel scope X.env).names.lookup y=Y .cell\/(relabel scope X.env).names.lookup y=Y .free:=hy;have hm:(y,NameKind.free)∈scope.names:=by
   rcases J with h|h
   .rcases uA h with h | ⟨_,h⟩
    .exact absurd rfl (S.Ky _ h)
    .exact h
   .rcases uA h with h | ⟨h,_⟩
    .exact h
    .cases h
  obtain⟨c,D⟩:=P _ hm rfl;exact{c,Cf hm D}
 .obtain⟨f0,W,V,U,T,f5⟩:=N b f;obtain⟨o,w⟩:=M b f;refine{?_,λy c e=>T y c (jP e)};show b≠C;exact aO (aI (au w) R)
 .obtain⟨f0,W,V,U,T,f5⟩:=N b f;have hb1:=I.bs b o e;rcases U with h|h
  .exact I.ok.BU b o e h
  .have:=(I.ok.bs b o e).1;exact absurd (aI (au this) h) (a7 _)
 .obtain⟨f0,W,V,U,T,f5⟩:=N b f;rcases ag.mp (t b Q) with h|h
  .exact W h
  .exact V h
 .by_cases A:i<d.length
  .rw[bt (by simpa using A),aB] at a;cases h:d[i]? with
   |none=>rw[h] at a;cases a
   |some z=>rw[h] at a;cases a
  have A:=dR A;have F:(caps.map (·.2))[i - d.length]?=Y y:=by rw[<-aQ A];exact e1
  have n:(yb caps σ)[i - d.length]?=Y (Y v):=by rw[aQ (by simpa using A)] at a;simpa using a
  rw[aB] at F;obtain⟨⟨j,y'⟩,e4,e5⟩:=ak.mp F;dsimp only at e5;subst e5;unfold yb at n;rw[aB,e4] at n;have E:(σ[j]?).join=Y v:=by simpa using n
  have e7:σ[j]?=Y (Y v):=by
   cases q:σ[j]? with
   |none=>rw[q] at E;cases E
   |some o=>rw[q] at E;cases o with
    |none=>cases E
    |some v'=>cases E;rfl
  obtain⟨c1,c2,c3⟩:=B.at e4;obtain⟨m,hn,hl⟩:=I.loc;have hv:BP X.env.scope y':=by
   rcases c2 with h|h
   .exact .inr (.inl h)
   .exact .inr (.inr h)
  obtain⟨u,r,l⟩:=hl j y' v c1 e7 hv;refine{u,r,.inr {?_,?_}}
  .exact rW c3
  .rcases l with ⟨hk,_⟩ | ⟨_,c,D,g⟩
   .rcases c2 with h|h
    .rw[hk] at h;cases h
    .rw[hk] at h;cases h
   .refine{c,Cf (bK c3) D,?_};obtain⟨o,w,O⟩:=g;exact{o,k _ _ w,O}
 .obtain⟨v,o,w,O⟩:=I.cell y c (jP e);exact{v,o,k _ _ w,O}
 .exact absurd (show p∈([]:Ax) from hp) (by simp)
 .show (d.map (λ_=>Z)++yb caps σ).length=(d++caps.map (·.2)).length;simp[yb]
def PTs(X:Cx)(b:Lx)(t:TT):Prop :=
 ∀⦃a:Ax⦄ (s:Shared) (σ:St) (H:Hp) (Q:Bool->Hp->Prop),c6 X a σ H s->t σ H Q ->
  (zw X) (forIn b true λc r=>if r=true then do let d <-isTrue c X.env (eval c X.env);pure (ForInStep.yield d) else pure (ForInStep.yield r)) (TP X a σ Q) X.xe s
def ve(X:Cx)(a:Lx)(g:a0->Option Bool):Prop:=PTs X a (e_ X.K g)
def v8:ve X [] (λ_=>Y true):=by rintro a s c H Q I ⟨d,b,f,e,k⟩;cases e;rw[eS];exact ao {H,I,k H (.refl H)}
def Kz{c:Expr}{g:a0->Option Bool}(h:Al X c g):ve X [c] g:=λa s d H Q I q=>by rw[cQ];rw[ah rfl];refine aa (aa (gY (@h a s d H Q I q) λb e f=>ao ?_));show wpAny _ _ (forIn ([]:Lx) b _) _ _ e;rw[eS];exact ao f
def gG(g:a0->Option Bool)(f:a0->Od)(a:a0):Lp->Option Lp
 |[]=>Y []
 |d::ds=>(g (Y d::a)).bind λb=>if b then (f (Y d::a)).bind λy=>(gG g f a ds).bind λc=>Y (y::c) else gG g f a ds
def iJ(q:a0->Option Lp)(caps:List (Nat×Str))(g:a0->Option Bool)(f:a0->Od):a0->Od:=λρ=>
 (q ρ).bind λds=>if ds.length<=sizeLine then (gG g f (md caps ρ) ds).map .list else Z
def jt.cap{K:Fg}(h:jt K H σ ρ)(e:Lr)(a:List (Nat×Str)):jt K H (e.map (λ_=>Z)++yb a σ) (e.map (λ_=>Z)++md a ρ):=by
 refine{by simp[yb,md],λi d q=>?_};by_cases c:i<e.length
 .rw[bt (by simpa using c),aB] at q;cases h:e[i]? with
  |none=>rw[h] at q;cases q
  |some z=>rw[h] at q;cases q
 have c:=dR c;rw[aQ (by simpa using c),aj] at q ⊢;unfold md at q;rw[aB] at q;obtain⟨⟨j,y⟩,l,b⟩:=ak.mp q;dsimp only at b;have k:ρ[j]?=Y (Y d):=by
  cases q:ρ[j]? with
  |none=>rw[q] at b;cases b
  |some o=>rw[q] at b;cases o with
   |none=>cases b
   |some m=>cases b;rfl
 obtain⟨v,g,f⟩:=h.2 j d k;refine{v,?_,f};unfold yb;rw[aB,l];simp[g]
def jt.less{K:Fg}{p c:a0}{b:Lr}(h:jt K H σ (p++c))(e:p.length=b.length):jt K H σ (b.map (λ_=>Z)++c):=by
 refine{by rw[h.1];simp[e],λi d q=>?_};by_cases a:i<b.length
 .rw[bt (by simpa using a),aB] at q;cases h:b[i]? with
  |none=>rw[h] at q;cases q
  |some z=>rw[h] at q;cases q
 have a:=dR a;rw[aQ (by simpa using a),aj] at q;exact h.2 i d (by rw[aQ (by omega),e];exact q)
def Ar{b:Program}{i a:Expr}{g:Lx}{it j:Value}{d:Env} (I:Nat->Shared->Prop)
  (k:∀n s,I n s->wpAny (model b w) A (pyNext it) (λr s₁=>match r with
   |none=>R (.ok .next) s₁
   |some v=>wpAny (model b w) A (letOwnedTupleGo a it v) (λ_ s₁=>wpAny (model b w) A (assign a d v) (λ_ pE=>
     wpAny (model b w) A (forIn g true λc r=>if r=true then do let ok <-isTrue c d (eval c d);pure (ForInStep.yield ok) else pure (ForInStep.yield r)) (λok vf=>
      if ok=true then wpAny (model b w) A (eval i d) (λx Xz=>
       wpAny (model b w) A (call (.builtin "list.append") [j,x]) (λ_ XA=>∃m,m<n/\I m XA) (λ_ _=>False) Xz) (λ_ _=>False) vf
      else ∃m,m<n/\I m vf) (λ_ _=>False) pE) (λ_ _=>False) s₁) (λ_ _=>False) s₁) (λ_ _=>False) s)
  (n:Nat) (h:I n s):
  codeAny (model b w) A (.compLoop (.ListComp i [{(a),iter,g,0}] scope pos) 0 it j d) R s:=by
 refine codeAny_loop rfl I (λn s q=>?_) n h;show wpAny _ A ((compTurn (.ListComp i [{(a),iter,g,0}] scope pos) 0 it j d).onRaise (λx=>do noteFrame x d;theTreesLotGoes x)) _ _ s;refine wpAny_noted ?_;rw[compTurn_list];refine aa (wpAny_standAt (aa (bq (k n s q) (λr s₁ e=>?_) λ_ _ z=>False.elim z)));cases r with
 |none=>exact ao e
 |some v=>
  refine aa (bq e (λ_ s₁ e=>?_) λ_ _ z=>False.elim z);refine aa (bq e (λ_ pE p=>aa (bq p (λok vf f=>?_) λ_ _ z=>False.elim z)) λ_ _ z=>False.elim z);cases ok with
  |false=>exact ao {(rfl),f}
  |true=>exact aa (aa (bq f (λx Xz o=>aa (bq o (λ_ XA l=>ao (ao {(rfl),l})) λ_ _ z=>False.elim z)) λ_ _ z=>False.elim z))
def pH(a:Lw)(n:Nat):Obj:=(zl a.toArray n)
def Iu(X:Cx)(e:Expr)(a:Scope)(i:Expr)(t:TE):Prop :=
 ∀(b:Ax) (s:Shared) (σ:St) (H:Hp) (Q:VK) (R:Value->Addr->Result->Shared->Prop),c6 X b σ H s->t σ H Q ->
  (∀(D C:Addr) (j:Shared) (k:Hp) (n:Obj) (m:Str->Ow),c6 X ((C,n)::b) σ k j->j.heap.Ns C m->(∀p∈X.pn++b,p.1≠C)->(zB X.gO)<=C->Q (.ref D) k->R (.ref D) C (.ok .next) j) ->
  (zw X) (eval i X.env) (λl h=>(zw X) (pyIter l) (λit g=>(zw X) (newList []) (λacc f=>
   (zw X) (newFunctionEnv a X.env.globals (v7 X.env a) [] X.env.qual Z .none (Y X.env)) (λc d=>
    codeAny (model X.prog X.w) X.A (.compStart e 0 it acc { c with scope:=relabel a X.env }) (R acc c.locals) d) X.xe f) X.xe g) X.xe h) X.xe s
def c6.v9{d:Obj}(I:c6 X ((C,d)::pins) σ H s)(j:∀p∈X.pn++pins,p.1≠C)(g:(zB X.gO)<=C)(h:Heap.SameBut C s.heap h'):c6 X pins σ H { s with heap:=h' }:=by have a:=I.pin (C,d) (by simp);have J:c6 X pins σ H s:=I.l9 λp i=>I.pin p (ar _ (ai _ i));refine J.turned (t':=s.toks) (it:=C) (λb o hb e=>(h.2 b hb).trans e) a.2.1 a.2.2.1 (.inr g) (λy c e z=>?_) j;obtain⟨v,o,f,k⟩:=J.cell y c e;rw[z,a.1] at f;cases f;exact a.2.2.2.2 v k
def yS{r:a0->Lp->Option Lp}(a:a0)(d:fJ)(h:((q a).bind λds=>if ds.length<=sizeLine then (r a ds).map fJ.list else Z)=Y d):∃ds b,q a=Y ds/\ds.length<=sizeLine/\r a ds=Y b/\d=.list b:=by
 obtain⟨ds,i,c⟩:=bind_some h;by_cases e:ds.length<=sizeLine
 .rw[ah e] at c;obtain⟨b,g,f⟩:=ak.mp c;exact{ds,b,i,e,g,f.symm}
 .rw[aq e] at c;cases c
def GA{b:Bool}{o:Od}{r:Option Lp}{a:Lp}(h:(if b then o.bind λy=>r.bind λa=>Y (y::a) else r)=Y a):if b=true then ∃y c,o=Y y/\r=Y c/\a=y::c else r=Y a:=by
 cases b with
 |false=>exact h
 |true=>obtain⟨y,g,f⟩:=bind_some h;obtain⟨c,e,d⟩:=bind_some f;cases d;exact{(y),c,g,e,rfl}
def Ey{g:a0->Option Bool}(c:a0)(d:fJ)(i a:Lp)(h:gG g f c (d::i)=Y a):∃p b,p.length=1/\Gy 0 d ([Z]++c)=Y (p++c)/\g (p++c)=Y b/\if b=true then ∃y j,f (p++c)=Y y/\gG g f c i=Y j/\a=y::j else gG g f c i=Y a:=by obtain⟨b,k,e⟩:=bind_some h;exact{[Y d],b,rfl,rfl,k,GA e}
def Cg(A:Hp->Hp->Lp->List V->Prop) (XB:∀{b G:Hp}{ds:Lp}{vs:List V},A b G ds vs->ds.length=vs.length) (AS:∀{b G G':Hp}{ds:Lp}{vs:List V},A b G ds vs->dn G G'->A b G' ds vs) {elt:Expr}  (N0:Lr)  {ifs:Lx}    {g:a0->Option Bool}{dd:a0->Od}{bd:BD} (cmp:a0->Lp->Option Lp)
  (hc:X.calm=true) (S:jH scope x) (hcl:∀p∈scope.names,p.2=.free->∃c,X.env.cells.lookup p.1=Y c) (i_:ku X scope caps)
  (hi:Gz X tg iter q)
  (hg:∀C s H fp,Zl (kH X scope C (N0++caps.map (·.2)) s H fp) tg bd)
  (ht:∀C s H fp,ve (kH X scope C (N0++caps.map (·.2)) s H fp) ifs g)
  (he:∀C s H fp,PE (kH X scope C (N0++caps.map (·.2)) s H fp) elt (λσ G Q=>∃ρ yd,jt X.K G σ ρ/\f ρ=Y yd/\∀v G',dn G G'->(∀b ds vs,A b G ds vs->A b G' (ds++[yd]) (vs++[v]))->Q v G'))
  (hdd:∀ρ d,dd ρ=Y d->∃ds ys,q ρ=Y ds/\ds.length<=sizeLine/\cmp (md caps ρ) ds=Y ys/\d=.list ys) (h0:∀c ys,cmp c []=Y ys->ys=[])
  (h1:∀c d ds ys,cmp c (d::ds)=Y ys->∃p b,p.length=N0.length/\bd d (N0.map (λ_=>Z)++c)=Y (p++c)/\g (p++c)=Y b/\if b=true then ∃y zs,f (p++c)=Y y/\cmp c ds=Y zs/\ys=y::zs else cmp c ds=Y ys):
  Iu X (.ListComp elt [{(tg),iter,ifs,0}] scope pos) scope iter (λσ H Q=>∃ρ d,jt X.K H σ ρ/\dd ρ=Y d/\A H H [] []/\∀ys G D vs,d=.list ys->dn H G->G D=Z->A H G ys vs->Q (.ref D) (upd G D (.lst vs))):=by
 intro pins s σ H Q R I ⟨ρ,d,hsD,e,hA0,k⟩ fin;sleep 1;obtain⟨ds,ys,e1,hz,e3,rfl⟩:=hdd ρ d e;sleep 2;refine gY (@hi pins s σ H (λJ H'=>dn H H'/\Ew X.K J ds H') I {ρ,ds,hsD,e1,λJ H' s' w=>{(s'),w}}) λv sA hA=>gY hA ?_;rintro itv M ⟨it,fp,tn,J,H2,eit,I2,T,st2,f2,KA,wd⟩;subst eit;have j_:=hsD.same KA;refine cF (wpAny_newFunctionEnv S.Ky (by intro y hy;simp at hy) (λN L E=>?_) S.kind);dsimp only at L E ⊢;generalize k_:M.heap.push { cls:=.type "list",dict:=Z,data:=.seq ([]:Lw).toArray }=Wx at L E ⊢;have hCs:Wx.objs.size=(zB M)+1:=by rw[<-k_,eP]
 generalize hC:Wx.objs.size=C at L E hCs ⊢;generalize hD:(zB M)=D at hCs ⊢;have l_:D≠C:=by omega
 have W:(zB M)<=C:=by omega
 have old:∀b o,M.heap.get? b=Y o->N.get? b=Y o:=λb o e=>by have j:=au e;exact E.extBut b o (aO (aI j W)) (ae _ (k_▸ae _ e))
 have hD1:N.get? D=Y (pH [] 0):=by refine E.extBut _ _ l_ (ae _ (k_▸?_));rw[<-hD];exact aF _ rfl
 have hfo:∀b∈fp,∃o,M.heap.get? b=Y o:=λb j=>by obtain⟨o,ho,_⟩:=T.obj 0 _ st2 b j;exact{(o),ho}
 have I3:c6 (kH X scope C (N0++caps.map (·.2)) M H2 fp) [] (N0.map (λ_=>Z)++yb caps σ) H2 { M with heap:=N,toks:=M.toks+([]:List (Str×Value)).length } :=
  UY N0 I2 hc S hcl i_ f2 hfo W old L rfl I2.bare
 have m_:∀b∈fp,b≠D/\b≠C:=λb j=>by obtain⟨o,ho⟩:=hfo b j;have:=au ho;exact{aO (hD▸this),aO (aI this W)}
 have n_:∀(X':Cx),X'=kH X scope C (N0++caps.map (·.2)) M H2 fp->∀{G:Hp}{F:St}{s':Shared}{l:Lw}{n:Nat},c6 X' [(D,pH l n)] F G s' ->
   ∀{t':Nat}{h':Heap}{its':Lw}{n':Nat},(∀b o,b≠D->s'.heap.get? b=Y o->h'.get? b=Y o)->h'.get? D=Y (pH its' n')->c6 X' [(D,pH its' n')] F G { s' with heap:=h',toks:=t' }:=by
  intro X' hX G F s' l n J1 t' h' its' n' kk hD';have P:=J1.pin (D,pH l n) (by simp);have J2:c6 X' [] F G s':=J1.l9 λp P=>by cases P
  have J3:c6 X' [] F G { s' with heap:=h',toks:=t' }:=by
   refine J2.turned (it:=D) (λb o j e=>kk b o j e) P.2.1 P.2.2.1 (.inr ?_) (λy c e z=>?_) (λp P=>?_)
   .subst hX;show (zB M)<=D;omega
   .obtain⟨v,o,ho,hd⟩:=J2.cell y c e;rw[z,P.1] at ho;cases ho;have hd':(pH l n).data=.cell v:=hd;cases hd'
   .subst hX;exact absurd (show p∈([]:Ax)++[] from P) (by simp)
  refine J3.l9 λp Wx=>?_;have:p=(D,pH its' n'):=by simpa using Wx
  subst this;exact{hD',P.2.1,P.2.2.1,P.2.2.2.1,λv z=>by have z':(pH its' n').data=.cell v:=z;cases z'}
 have o_:D∉o7 X.stack:=λj=>by obtain⟨_,o,ho,_⟩:=I2.stack.mem j;have:=au ho;exact absurd this (by rw[hD];exact a7 _)
 have I4:c6 (kH X scope C (N0++caps.map (·.2)) M H2 fp) [(D,pH [] 0)] (N0.map (λ_=>Z)++yb caps σ) H2 { M with heap:=N,toks:=M.toks+([]:List (Str×Value)).length }:=by
  refine I3.l9 λp P=>?_;have:p=(D,pH [] 0):=by simpa using P
  subst this;exact{hD1,I2.gR.fresh (by omega),l_,o_,λv z=>by have z':(pH [] 0).data=.cell v:=z;cases z'}
 have st4:tn 0 N:=T.keep 0 _ _ st2 λb j o e=>old b o e;let X':=kH X scope C (N0++caps.map (·.2)) M H2 fp;have stat:∀{G:Hp}{pl:Ax},(∀p∈pl,p.1=D)->(∀b∈fp,G b=Z)->∀b∈fp,o9 X' pl G b:=λ{G pl} XC hn b j=>by
  sleep 1;obtain⟨f0,f1,f2',f3,f4,f5⟩:=f2 b j;sleep 2;refine{hn b j,(m_ b j).2,λz=>?_,.inl j,λy c e=>f4 y c (jP e),λp P z=>?_}
  .rcases ag.mp (I2.z8 b z) with h|h
   .exact f1 h
   .exact f2' h
  .have XD:p∈pl:=by simpa [X',kH] using P
   exact(m_ b j).1 (by rw[<-z];exact XC p XD)
 have loop:∀vf:Shared,vf={ M with heap:=N,toks:=M.toks+([]:List (Str×Value)).length } ->
   codeAny (model X.prog X.w) X.A (.compLoop (.ListComp elt [{(tg),iter,ifs,0}] scope pos) 0 (.ref it) (.ref D) (compEnvC scope (v7 X.env scope) C X.env))
    (R (.ref D) C) vf:=by
  rintro vf rfl;refine Ar (λn s'=>∃(i:Nat) (F:St) (G:Hp) (l:Lw) (vs:List V) (m:Nat) (done:Lp) (Zm:Lp),c6 X' [(D,pH l m)] F G s'/\tn i s'.heap/\(∀b∈fp,G b=Z)/\dn H2 G/\jt X.K G F (N0.map (λ_=>Z)++md caps ρ) /\
    fK vs l/\A H G done vs/\done.length<=i/\i<=ds.length/\cmp (md caps ρ) (ds.drop i)=Y Zm/\ys=done++Zm/\n=ds.length - i) ?_ ds.length
   {0,_,H2,[],[],0,[],ys,I4,st4,λb j=>(f2 b j).1,.refl _,j_.cap N0 caps,.nil,AS hA0 KA,aE _,dq _,by simpa using e3,rfl,by simp}
  rintro n s' ⟨i,F,G,l,vs,m,done,Zm,JJ,st,fr,sG,p_,rv,UZ,hdi,hil,e5,e6,rfl⟩;obtain⟨w1,w2⟩:=wd G sG;by_cases SA:i<ds.length
  .
   have hd:ds[i]?=Y ds[i]:=aH SA;obtain⟨w3,w4⟩:=w2 i _ hd;rw[b7 SA] at e5;sleep 1;obtain⟨pr,b,hpr,ebd,eb,e7⟩:=h1 _ _ _ _ e5;sleep 2;refine gY (T.item X' rfl rfl rfl rfl i _ s' F G (λ_ _=>False) JJ (stat (by simp) fr) st w3) ?_;rintro r s5 ⟨u,hr,h5⟩;subst hr;refine gY h5 ?_;rintro _ s6 ⟨y,G6,J6,r6,y6,q_,fr6⟩;obtain⟨s7,i7⟩:=w4 y G6 y6;have r_:=stat (G:=G6) (pl:=[(D,pH l m)]) (by simp) fr6;have J6':=J6.pinned r_ (T.obj _ _ q_);have XE:jt X.K G6 F (N0.map (λ_=>Z)++md caps ρ):=p_.same s7;refine gY (hg C M H2 fp s6 F G6 y u (λU H8=>dn G6 H8/\jt X.K H8 U (pr++md caps ρ)) J6' r6 {_,ds[i],pr++md caps ρ,XE,i7,ebd,λU H8 s8 h8=>{(s8),h8}}) ?_;rintro _ s8 ⟨U,G8,J8,O,PQ⟩;refine gY (ht C M H2 fp s8 U G8 (λc H9=>c=b/\dn G8 H9) J8 {_,b,PQ,eb,λH9 s9=>{(rfl),s9}}) ?_;rintro ok s9 ⟨G9,J9,⟨gR,t⟩⟩;subst gR;have SD:∀{σ7:St}{G7:Hp}{s7:Shared}{pl:Ax},c6 X' (pl++vN fp s6.heap) σ7 G7 s7->tn (i+1) s7.heap/\∀b∈fp,G7 b=Z:=λ{σ7 G7 s7 pl} J7=>by refine{T.keep _ _ _ q_ λb j o e=>(J7.pin (b,o) (ar _ (ar _ (oj j e)))).1,λb j=>?_};obtain⟨o,e,d⟩:=T.obj _ _ q_ b j;exact(J7.pin (b,o) (ar _ (ar _ (oj j e)))).2.1
   cases ok with
   |false=>rw[aq aS] at e7 ⊢;obtain⟨k1,k2⟩:=SD J9;exact{ds.length - (i+1),by omega,i+1,U,G9,l,vs,m,done,Zm,J9.pD,k1,k2,sG.trans (s7.trans (O.trans t)),(PQ.less hpr).same t,rv,AS UZ (s7.trans (O.trans t)),by omega,SA,e7,e6,rfl}
   |true=>
    rw[ah rfl] at e7 ⊢;sleep 1;obtain⟨yd,ys2,e8,e10,rfl⟩:=e7;sleep 2;refine gY (he C M H2 fp s9 U G9 (λv s_=>dn G9 s_/\∀b ds vs,A b G9 ds vs->A b s_ (ds++[yd]) (vs++[v])) J9 {_,yd,PQ.same t,e8,λv s_ Zn t_=>{(Zn),t_}}) ?_;rintro u10 Zn ⟨v10,G10,J10,r10,KC,t_⟩;obtain⟨k1,k2⟩:=SD J10;have J11:c6 X' [(D,pH l m)] U G10 Zn:=J10.pD;have Zo:=J11.pin (D,pH l m) (by simp);have hlen:l.length<=sizeLine:=by have h1:=rv.length;have h2:=XB UZ;omega
    refine wpAny_list_append_plain (hsz:=by rw[aA];exact hlen) {m,Zo.1} ?_;rintro h12 ⟨n12,u_⟩ XF;have J12:=n_ X' rfl J11 (t':=Zn.toks) (h':=h12) (its':=l++[u10]) (n':=n12) (λb o j e=>(XF.2 b j).trans e) (by rw[u_];simp[pH]);refine{ds.length - (i+1),by omega,i+1,U,G10,l++[u10],vs++[v10],n12,done++[yd],ys2,J12,?_,k2,sG.trans (s7.trans (O.trans (t.trans KC))),(PQ.less hpr).same (t.trans KC),rv.append (.cons r10 .nil),t_ _ _ _ (AS UZ (s7.trans (O.trans t))),by simp;omega,SA,e10,by simp[e6],rfl};exact T.keep _ _ _ k1 λb j o e=>(XF.2 b (m_ b j).1).trans e
  .
   have hiL:i=ds.length:=by omega
   subst hiL;rw[fh] at e5;cases h0 _ _ e5;rw[aG] at e6;subst e6;refine gY (T.done X' rfl rfl rfl rfl _ _ s' F G (λ_ _=>False) JJ (stat (by simp) fr) st w1) ?_;rintro r s9 ⟨hr,J9⟩;subst hr;have Zo:=J9.pin (D,pH l m) (by simp);obtain⟨mC,hnC,_⟩:=J9.loc;have Wy:G D=Z:=Zo.2.1;have hGC:G C=Z:=J9.free;have v_:nS X.prog X.w (upd G D (.lst vs)) s9.heap:=λa o e=>by
    by_cases ha:a=D
    .subst ha;rw[da] at e;cases e;have h1:=rv.length;have h2:=XB UZ;exact{by omega,l,m,rv,Zo.1}
    .rw[cp ha] at e;exact(J9.gR a o e).pA (λc w' hcc q=>q) (λc q=>by rw[cp (gs q Wy)];exact q) λc xs q=>by rw[cp (gs q Wy)];exact q
   have ne2:∀b o,M.heap.get? b=Y o->b≠C/\b≠D:=λb o e=>by have:=au e;exact{aO (aI this W),aO (hD▸this)}
   have un:Un (o7 X.stack) fp H2 (upd G D (.lst vs)) M.heap s9.heap:=by
    have B:=J9.base;refine{λb o e n j hx=>B.keep b o e n j hx,λb o e n j hx=>B.slot b o e n j hx,λb o e n hx=>by rw[cp (ne2 b o e).2];exact B.free b o e n hx,λb o e hx=>B.there b o e hx,λb xs e=>by rw[cp (gs (B.nT b xs e) Wy)];exact B.nT b xs e,
     λb o u e=>by rw[cp (gs (B.m5 b o u e) Wy)];exact B.m5 b o u e,λb ps e=>?_}
    obtain⟨mm,e1⟩:=B.oa b ps e;exact{mm,by rw[cp (gs e1 Wy)];exact e1}
   have I9:c6 X pins σ (upd G D (.lst vs)) s9:=I2.WM (s':=s9) (ch:=fp) J9.os un v_ J9.bare (λb j=>by obtain⟨f0,f1,f2',f3,f4,f5⟩:=f2 b j;exact{(f3),f1,f4,f5});have hpn:∀p∈X.pn++pins,p.1≠C:=λp P=>(ne2 p.1 p.2 (I2.pin p P).1).1;have hCz:(zB X.gO)<=C:=bx I2.sz W;sleep 1;obtain⟨oC,es,ep,hoC,rC⟩:=hnC;sleep 2;have w_:C∉X.fs:=λj=>by
    have h1:=J9.ok.BQ;have:C∈o7 X.stack:=by
     rcases I2.ok.Sj with z | ⟨z,_⟩
     .rw[z];exact j
     .rw[z];obtain⟨a,h1,h2⟩:=bu.mp j;exact bu.mpr {a,ai _ h1,h2}
    obtain⟨_,o,ho,_⟩:=I2.stack.mem this;exact(ne2 C o ho).1 rfl
   have hCL:C≠X.env.locals:=λz=>by obtain⟨mL,hnL,_⟩:=I2.loc;sleep 1;obtain⟨oL,_,_,ZH,_⟩:=hnL;sleep 2;exact(ne2 _ oL ZH).1 z.symm
   refine fin D C s9 _ oC mC (I9.l9 λp P=>?_) {(oC),es,ep,hoC,rC} hpn hCz (k _ _ D _ rfl (KA.trans sG) Wy UZ);rcases ag.mp P with z|z
   .subst z;refine{hoC,by rw[cp (Ne.symm l_)];exact hGC,hCL,w_,λv z=>?_};rw[rC.1] at z;cases z
   .exact I9.pin p (ar _ z)
 exact codeAny_compStart_list (loop _ rfl) (T.self X.A 0 _ _ _ st4 (loop _ rfl))
def wa(A:Hp->Hp->Lp->List V->Prop) (j:∀{b G:Hp}{ds:Lp}{vs:List V},A b G ds vs->ds.length=vs.length) (w:∀{b G G':Hp}{ds:Lp}{vs:List V},A b G ds vs->dn G G'->A b G' ds vs) {i:Expr}{n:Pos}{a:Lx}{g:a0->Option Bool}
  (u:X.calm=true) (S:jH scope x) (l:∀p∈scope.names,p.2=.free->∃c,X.env.cells.lookup p.1=Y c) (h:ku X scope caps) (k:(x::caps.map (·.2)).Nodup)
  (r:Gz X (.Name x n) iter q)
  (o:∀C s H fp,ve (kH X scope C (x::caps.map (·.2)) s H fp) a g)
  (t:∀C s H fp,PE (kH X scope C (x::caps.map (·.2)) s H fp) i (λσ G Q=>∃ρ yd,jt X.K G σ ρ/\f ρ=Y yd/\∀v G',dn G G'->(∀b ds vs,A b G ds vs->A b G' (ds++[yd]) (vs++[v]))->Q v G')):
  Iu X (.ListComp i [{.Name x n,iter,a,0}] scope pos) scope iter (λσ H Q=>∃ρ d,jt X.K H σ ρ/\iJ q caps g f ρ=Y d/\A H H [] []/\∀m G D vs,d=.list m->dn H G->G D=Z->A H G m vs->Q (.ref D) (upd G D (.lst vs))):=
 Cg A j w [x] (gG g f) u S l h r (λC s H fp=>v5 0 k rfl (.inl (cb S.var)) (.inr (cb S.var))) o t yS (λ_ _ e=>by cases e;rfl) Ey
def GB{a:Expr}{l:Cx}(h:PD l a f)(m:l.K=X.K):PE l a (λσ G Q=>∃d g,jt X.K G σ d/\f d=Y g/\∀v c,dn G c->(∀(b:Hp) ds vs,bz X.K G ds vs->bz X.K c (ds++[g]) (vs++[v]))->Q v c) :=
 PE.imp h <| by rintro σ G Q ⟨d,g,n,e,k⟩;exact{d,g,by rw[m];exact n,e,λv c s i=>k v c s λ_ _ _ j=>(j.same s).append (bz.cons (by rw[m] at i;exact i) bz.nil)}
def Iu.data{g:a0->Od}(h:Iu X e scope iter (λσ H Q=>∃ρ d,jt X.K H σ ρ/\g ρ=Y d/\bz X.K H [] []/\∀ys G D vs,d=.list ys->dn H G->G D=Z->bz X.K G ys vs->Q (.ref D) (upd G D (.lst vs)))):Iu X e scope iter (tD X.K g) :=
 λa s σ H Q R I ⟨ρ,d,b,e,k⟩ c=>h a s σ H Q R I {ρ,d,b,e,bz.nil,λys G D vs l i f j=>k _ _ (i.trans (iX f)) (by rw[l];exact Cc f j)} c
def GC{d:Expr}{j:Pos}{a:Lx}{g:a0->Option Bool}
  (n:X.calm=true) (S:jH scope x) (i:∀p∈scope.names,p.2=.free->∃c,X.env.cells.lookup p.1=Y c) (b:ku X scope caps) (e:(x::caps.map (·.2)).Nodup)
  (l:Gz X (.Name x j) iter q)
  (k:∀C s H fp,ve (kH X scope C (x::caps.map (·.2)) s H fp) a g)
  (m:∀C s H fp,PD (kH X scope C (x::caps.map (·.2)) s H fp) d f):Iu X (.ListComp d [{.Name x j,iter,a,0}] scope pos) scope iter (tD X.K (iJ q caps g f)):=
 (wa (λ_ G ds vs=>bz X.K G ds vs) bz.length (λh s=>h.same s) n S i b e l k λC s H fp=>GB (m C s H fp) rfl).data
def Iu.pe{d:Expr}{i:Pos}{b:Lx}{t:TE} (h:Iu X (.ListComp d [{.Name x i,iter,b,0}] scope pos) scope iter t) (S:jH scope x) (f:∀p∈scope.names,p.2=.free->∃c,X.env.cells.lookup p.1=Y c)
  (k:zr 2 (∀x,foldedSetIterable iter X.env x=pure x)):PE X (.ListComp d [{.Name x i,iter,b,0}] scope pos) t:=by
 intro a s g H Q I o;rw[eval_ListComp];refine dh (use:=Z) rfl k (nH f) S.kind S.loc (@h a s g H Q (compPost (model X.prog X.w) X.A X.xe Z (EP X a g Q)) I o ?_);intro D C v u y m r n l j q;exact{m,n,λz e=>{.ref D,u,r.v9 l j e,rfl,q}}
def PR{e:Expr}{i:Pos}{a:Lx}{g:a0->Option Bool}
  (n:X.calm=true) (S:jH scope x) (b:∀p∈scope.names,p.2=.free->∃c,X.env.cells.lookup p.1=Y c) (d:ku X scope caps) (h:(x::caps.map (·.2)).Nodup)
  (l:Gz X (.Name x i) iter q)
  (j:∀C s H fp,ve (kH X scope C (x::caps.map (·.2)) s H fp) a g)
  (m:∀C s H fp,PD (kH X scope C (x::caps.map (·.2)) s H fp) e f)
  (k:zr 2 (∀x,foldedSetIterable iter X.env x=pure x)):PD X (.ListComp e [{.Name x i,iter,a,0}] scope pos) (iJ q caps g f) :=
 (GC n S b d h l j m).pe S b k
def As{g f:Pos}{d:Expr}{k:Pos}{b:Lx}{t:TE} (h:Iu X (.ListComp d [{.Name x k,iter,b,0}] scope pos) scope iter t) (S:jH scope x) (r:∀p∈scope.names,p.2=.free->∃c,X.env.cells.lookup p.1=Y c)
  (V:X.N.Nodup) (T:X.N[i]?=Y y) (F:X.env.scope.names.lookup y=Y .local) (l:swapsWith (.ListComp d [{.Name x k,iter,b,0}] scope pos) (Y (.Name y g)) f.line X.env=pure true)
  (O:zr 2 (∀x,foldedSetIterable iter X.env x=pure x)):PS X (.Assign [.Name y g] (.ListComp d [{.Name x k,iter,b,0}] scope pos) f) (Uc t (Ge i)):=by
 intro a s B H D I U;rw[exec_Assign_Name_used _ _ _ _ l];refine aa (wpAny_standAt (aa ?_));show wpAny _ X.A (do let _ <-comprehension (.ListComp d [{.Name x k,iter,b,0}] scope pos) scope X.env _ (newList []) false (eval iter X.env) (Y (assign (.Name y g) X.env))) _ _ s;refine aa (bq (dh (use:=Y (assign (.Name y g) X.env)) (Q:=λ_ j=>SP X a D .next j) rfl O (nH r) S.kind S.loc
  (@h a s B H _ (compPost (model X.prog X.w) X.A X.xe (Y (assign (.Name y g) X.env)) (λ_ j=>SP X a D .next j)) I U ?_)) (λ_ j hq=>ao (ao hq)) λ_ _ e=>e)
 intro z C K W E m G R P M q;show wpAny _ X.A (assign (.Name y g) X.env (.ref z)) _ _ _;refine bq (nc V T (.inl F) (.inr F) K B W (.ref z) (.ref z) (λnR H'=>D.nx nR H') G rfl q) (?_) λ_ _ e=>e;rintro _ j ⟨nR,H',J,L⟩;have v:=J.pin (C,E) (by simp);have u:=G.pin (C,E) (by simp);refine{m,R.at' λo e=>?_,λh' n=>{nR,H',J.v9 P M n,L}};rw[u.1] at e;cases e;exact v.1
end
def KG:HO->Prop
 |.lst _=>True
 |.dK _=>True
 |_=>False
def c7(G:Hp):List (Addr×HO)->Hp
 |[]=>G
 | (p,o)::r=>upd (c7 G r) p o
inductive pq:List (Addr×HO)->Prop
 |nil:pq []
 |one {p:Addr}{o:HO}{r:List (Addr×HO)}:KG o->pq r->pq ((p,o)::r)
 |ins {p C dx:Addr}{fs:List (Str×V)}{r:List (Addr×HO)}:pq r->pq ((p,.ins C dx fs)::(dx,.own p)::r)
def pq.append{A:List (Addr×HO)}(h:pq A)(h':pq B):pq (A++B):=by
 induction h with
 |nil=>exact h'
 |one f _ a=>exact .one f a
 |ins _ a=>exact .ins a
structure jd (G:Hp) (B:List (Addr×HO)):Prop where
 nd:(B.map (·.1)).Nodup
 free:∀x∈B,G x.1=Z
 ok:pq B
theorem jd.nil{G:Hp}:jd G []:={List.nodup_nil,(λx a=>by cases a),.nil}
theorem gv{G:Hp}{a:Addr}:∀{B:List (Addr×HO)},(∀x∈B,x.1≠a)->c7 G B a=G a
 |[],_=>rfl
 | (p,o)::r,h=>by show upd (c7 G r) p o a=G a;rw[cp (Ne.symm (h (p,o) (by simp)))];exact gv λx b=>h x (ai _ b)
theorem fX{G:Hp}:∀{B:List (Addr×HO)},(B.map (·.1)).Nodup->∀x∈B,c7 G B x.1=Y x.2
 |[],_,_,h=>by cases h
 | (p,o)::r,nd,x,hx=>by
  rw[af,bP] at nd;rcases ag.mp hx with e|hx
  .subst e;exact da
  .show upd (c7 G r) p o x.1=Y x.2;have a:x.1≠p:=λe=>nd.1 (by rw[<-e];exact av.mpr {(x),hx,rfl});rw[cp a];exact fX nd.2 x hx
def pI(B:List (Addr×HO)):(∃x∈B,x.1=a)\/(∀x∈B,x.1≠a):=by
 by_cases h:∃x∈B,x.1=a
 .exact .inl h
 .exact .inr λx b e=>h {(x),b,e}
def qj(c:(B.map (·.1)).Nodup)(e:∀x∈B,H x.1=Y x.2)(d:∀a,(∀x∈B,x.1≠a)->H a=G a):H=c7 G B:=by
 funext a
 rcases pI (a:=a) B with ⟨x,b,rfl⟩|h
 .rw[e x b,fX c x b]
 .rw[d a h,gv h]
theorem gZ(G:Hp):∀(A B:List (Addr×HO)),c7 G (A++B)=c7 (c7 G B) A
 |[],_=>rfl
 | (p,o)::r,B=>by show upd (c7 G (r++B)) p o=upd (c7 (c7 G B) r) p o;rw[gZ G r B]
def ic{A:List (Addr×HO)}(d:(A.map (·.1)).Nodup)(h:A.Perm B):c7 G A=c7 G B:=by have b:(B.map (·.1)).Nodup:=(h.map (·.1)).nodup_iff.mp d;refine qj b (λx c=>fX d x (h.mem_iff.mpr c)) λa e=>gv λx c=>e x (h.mem_iff.mp c)
def jd.same(f:jd G B):dn G (c7 G B):=λa o e=>by
 rw[gv λx b z=>?_]
 .exact e
 .have:=f.free x b;rw[z,e] at this;cases this
def jd.Ci{A:List (Addr×HO)}(f:jd G (A++B))(d:pq A):jd (c7 G B) A:=by have a:=f.nd;rw[aV,bc] at a;refine{a.1,λx b=>?_,d};rw[gv λy c z=>a.2.2 _ (av.mpr {(x),b,rfl}) _ (av.mpr {(y),c,rfl}) z.symm];exact f.free x (aD _ b)
def jd.Cj{A:List (Addr×HO)}(f:jd G (A++B))(c:pq B):jd G B:=by have a:=f.nd;rw[aV,bc] at a;exact{a.2.1,λx b=>f.free x (ar _ b),c}
def jd.join{A:List (Addr×HO)}(f:jd G B)(g:jd (c7 G B) A):jd G (A++B):=by
 have d:∀x∈A,∀y∈B,x.1≠y.1:=λx e y c z=>by have i:=g.free x e;rw[z,fX f.nd y c] at i;cases i
 refine{?_,λx e=>?_,g.ok.append f.ok}
 .rw[aV,bc];refine{g.nd,f.nd,λa k b j z=>?_};obtain⟨x,e,rfl⟩:=av.mp k;obtain⟨y,c,rfl⟩:=av.mp j;exact d x e y c z
 .rcases ax.mp e with h|h
  .have i:=g.free x h;rw[gv λy c z=>d x h y c z.symm] at i;exact i
  .exact f.free x h
def jd.perm{A:List (Addr×HO)}(f:jd G A)(h:A.Perm B)(a:pq B):jd G B :=
 {(h.map (·.1)).nodup_iff.mp f.nd,λx b=>f.free x (h.mem_iff.mpr b),a}
section
variable {p:Addr}
def PU(I:c6 X pins σ (upd H p o) s)(g:KG o):∃a,s.heap.get? p=Y a/\∀v,a.data≠.cell v:=by
 have h:=I.gR p o da;cases o with
 |lst d=>sleep 1;obtain⟨_,b,n,_,e⟩:=h;sleep 2;exact{_,e,λv z=>by have c:Data.seq b.toArray n=.cell v:=z;cases c}
 |dK f=>sleep 1;obtain⟨_,_,d,_,a,j,k,e,_,i,_⟩:=h;sleep 2;exact{a,e,λv z=>by rw[i] at z;cases z}
 |_=>exact g.elim
def KH{P:Program}{a:Obj}(j:KG o)(x:ia P w H h p o)(e:h.get? p=Y a)(f:h'.get? p=Y a):ia P w H' h' p o:=by
 cases o with
 |lst d=>sleep 1;obtain⟨z,b,n,r,q⟩:=x;sleep 2;rw[e] at q;cases q;exact{(z),b,n,r,f}
 |dK i=>sleep 1;obtain⟨z,y,d,r,g,k,l,q,c⟩:=x;sleep 2;rw[e] at q;cases q;exact{(z),y,d,r,a,k,l,f,c}
 |_=>exact j.elim
def XG(I:c6 X pins σ (upd H p o) s)(V:H p=Z)(j:KG o):∃k,c6 X (pins++[(p,k)]) σ H s /\
  ∀(G:Hp) (s':Shared) (nR:St),c6 X (pins++[(p,k)]) nR G s'->G p=Z/\c6 X pins nR (upd G p o) s':=by
 obtain⟨k,D,f⟩:=PU I j;have nt:∀b u,H b=Y u->b≠p:=λb u e=>gs e V;have t:∀b,upd H p o b=Z->b≠p/\H b=Z:=λb e=>by
  have g:b≠p:=λz=>by rw[z,da] at e;cases e
  rw[cp g] at e;exact{(g),e}
 have F:∀b u,upd H p o b=Y u->u≠o->H b=Y u:=λb u e hu=>by
  by_cases g:b=p
  .rw[g,da] at e;cases e;exact absurd rfl hu
  .rw[cp g] at e;exact e
 have l:∀i,(HO.tup i)≠o:=λi e=>by rw[<-e] at j;exact j
 have B:∀q u,(HO.qY q u)≠o:=λq u e=>by rw[<-e] at j;exact j
 have y:∀w,(HO.OH w)≠o:=λw e=>by rw[<-e] at j;exact j
 have A:∀a,(HO.own a)≠o:=λa e=>by rw[<-e] at j;exact j
 have W:p≠X.env.locals:=λz=>by have:=I.free;rw[<-z,da] at this;cases this
 have T:p∉X.fs:=λg=>by obtain⟨_,q,d,_⟩:=I.ok.nC.mem g;have:=I.base.free p q d (I.ok.BQ p g) λz=>I.ok.x5 p z g;rw[da] at this;cases this
 have P:∀q∈X.pn++pins,q.1≠p:=λq d=>(t q.1 (I.pin q d).2.1).1;have h0:∀q,X.gO.heap.get? p=Y q->X.lI p=Z->p∈X.ex:=λq d S=>by
  by_cases r:p∈X.ex
  .exact r
  .have:=I.base.free p q d S r;rw[da] at this;cases this
 refine{k,?_,?_}
 .refine{I.ok,I.os,I.bare,{I.base.keep,I.base.slot,λb q e n r=>(t b (I.base.free b q e n r)).2,I.base.there,λb i e=>F b _ (I.base.nT b i e) (l i),λb q u e=>F b _ (I.base.m5 b q u e) (B q u),λb w e=>?_},I.loc,I.cell,(t _ I.free).2,λx c e=>(t c (I.j5 x c e)).2,λq d=>?_,λa u e=>?_,I.len}
  .obtain⟨m,U⟩:=I.base.oa b w e;exact{m,F b _ U (y _)}
  .rcases ax.mp d with h|h
   .obtain⟨M,L,K⟩:=I.pin q (aD _ h);exact{M,(t _ L).2,K}
   .rcases ax.mp h with h|h
    .obtain⟨M,L,K⟩:=I.pin q (ar _ h);exact{M,(t _ L).2,K}
    .have:q=(p,k):=by simpa using h
     subst this;exact{(D),V,W,T,f}
  .have N:=nt a u e;exact(I.gR a u (by rw[cp N];exact e)).pA (λ_ _ _ q=>q) (λb q=>F b _ q (A a)) λb i q=>F b _ q (l i)
 .intro G s' nR J;have R:=J.pin (p,k) (ar _ (ar _ (by simp)));have E:G p=Z:=R.2.1;have C:∀b u,G b=Y u->upd G p o b=Y u:=λb u e=>by rw[cp (gs e E)];exact e
  refine{E,{J.ok,J.os,J.bare,{J.base.keep,J.base.slot,λb q e n r=>?_,J.base.there,λb i e=>C b _ (J.base.nT b i e),λb q u e=>C b _ (J.base.m5 b q u e),λb w e=>?_},J.loc,J.cell,?_,λx c e=>?_,λq d=>?_,λa u e=>?_,J.len}}
  .have g:b≠p:=λz=>by subst z;exact r (h0 q e n)
   rw[cp g];exact J.base.free b q e n r
  .obtain⟨m,U⟩:=J.base.oa b w e;exact{m,C b _ U}
  .rw[cp (Ne.symm W)];exact J.free
  .have hc:c≠p:=λz=>by
    obtain⟨v,q,d,hd⟩:=J.cell x c e;rw[z] at d;have Q:s'.heap.get? p=Y k:=R.1;rw[Q] at d;cases d;exact f v hd
   rw[cp hc];exact J.j5 x c e
  .have O:q∈X.pn++(pins++[(p,k)]):=by
    rcases ax.mp d with h|h
    .exact aD _ h
    .exact ar _ (aD _ h)
   obtain⟨M,L,K⟩:=J.pin q O;exact{M,by rw[cp (P q d)];exact L,K}
  .by_cases N:a=p
   .subst N;rw[da] at e;cases e;exact KH j (I.gR a o da) D R.1
   .rw[cp N] at e;exact(J.gR a u e).pA (λ_ _ _ q=>q) (λb q=>C b _ q) λb i q=>C b _ q
def XH{d:Addr}{y:List (Str×V)}(I:c6 X pins σ (upd (upd H d (.own p)) p (.ins C d y)) s)(hn:H p=Z)(Q:H d=Z)(hne:d≠p):∃ob t,c6 X (pins++[(p,ob),(d,t)]) σ H s /\
  ∀(G:Hp) (s':Shared) (nR:St),c6 X (pins++[(p,ob),(d,t)]) nR G s'->G p=Z/\G d=Z/\c6 X pins nR (upd (upd G d (.own p)) p (.ins C d y)) s':=by
 sleep 1;obtain⟨z1,z2,z3,hob,mA,ns,rl,wi⟩:=(show ia X.prog X.w (upd (upd H d (.own p)) p (.ins C d y)) s.heap p (.ins C d y) from I.gR p _ da);sleep 2
 sleep 1;obtain⟨t,es,ep,P,S,D⟩:=id ns;sleep 2;have r:∀v,(W.instObj C d).data≠.cell v:=λv z=>by cases z
 have j:∀v,t.data≠.cell v:=λv z=>by
  first
  | (rw[S] at z;cases z)
  | (rw[S.2.2] at z;cases z)
  | (rw[D.1] at z;cases z)
 have A:∀(F:Hp),upd (upd F d (.own p)) p (.ins C d y) d=Y (.own p):=λF=>by rw[cp hne,da]
 have K:∀b,upd (upd H d (.own p)) p (.ins C d y) b=Z->b≠p/\b≠d/\H b=Z:=λb e=>by
  have i:b≠p:=λz=>by rw[z,da] at e;cases e
  rw[cp i] at e;have g:b≠d:=λz=>by rw[z,da] at e;cases e
  rw[cp g] at e;exact{(i),g,e}
 have nG:∀(G:Hp),G p=Z->G d=Z->∀b u,G b=Y u->upd (upd G d (.own p)) p (.ins C d y) b=Y u:=λG g1 g2 b u e=>by rw[cp (gs e g1),cp (gs e g2)];exact e
 have bk:∀(G:Hp) b u,upd (upd G d (.own p)) p (.ins C d y) b=Y u->u≠.ins C d y->u≠.own p->G b=Y u:=λG b u e hu hu2=>by
  by_cases i:b=p
  .rw[i,da] at e;cases e;exact absurd rfl hu
  .rw[cp i] at e;by_cases g:b=d
   .rw[g,da] at e;cases e;exact absurd rfl hu2
   .rw[cp g] at e;exact e
 have hL:p≠X.env.locals:=λz=>by have:=I.free;rw[<-z,da] at this;cases this
 have U:d≠X.env.locals:=λz=>by have:=I.free;rw[<-z,A] at this;cases this
 have x_:p∉X.fs:=λi=>by obtain⟨_,q,f,_⟩:=I.ok.nC.mem i;have:=I.base.free p q f (I.ok.BQ p i) λz=>I.ok.x5 p z i;rw[da] at this;cases this
 have R:d∉X.fs:=λi=>by obtain⟨_,q,f,_⟩:=I.ok.nC.mem i;have:=I.base.free d q f (I.ok.BQ d i) λz=>I.ok.x5 d z i;rw[A] at this;cases this
 have N:∀q∈X.pn++pins,q.1≠p/\q.1≠d:=λq f=>let z:=K q.1 (I.pin q f).2.1;{z.1,z.2.1};have h0:∀q,X.gO.heap.get? p=Y q->X.lI p=Z->p∈X.ex:=λq f E=>by
  by_cases k:p∈X.ex
  .exact k
  .have:=I.base.free p q f E k;rw[da] at this;cases this
 have h02:∀q,X.gO.heap.get? d=Y q->X.lI d=Z->d∈X.ex:=λq f E=>by
  by_cases k:d∈X.ex
  .exact k
  .have:=I.base.free d q f E k;rw[A] at this;cases this
 refine{W.instObj C d,t,?_,?_}
 .refine{I.ok,I.os,I.bare,{I.base.keep,I.base.slot,λb q e n k=>(K b (I.base.free b q e n k)).2.2,I.base.there,λb L e=>bk H b _ (I.base.nT b L e) (λz=>nomatch z) (λz=>nomatch z),λb q u e=>bk H b _ (I.base.m5 b q u e) (λz=>nomatch z) (λz=>nomatch z),λb ps e=>?_},I.loc,I.cell,(K _ I.free).2.2,λx c e=>(K c (I.j5 x c e)).2.2,λq f=>?_,λa u e=>?_,I.len}
  .obtain⟨m,e1⟩:=I.base.oa b ps e;exact{m,bk H b _ e1 (λz=>nomatch z) (λz=>nomatch z)}
  .rcases ax.mp f with h|h
   .obtain⟨a1,a2,a3⟩:=I.pin q (aD _ h);exact{a1,(K _ a2).2.2,a3}
   .rcases ax.mp h with h|h
    .obtain⟨a1,a2,a3⟩:=I.pin q (ar _ h);exact{a1,(K _ a2).2.2,a3}
    .rcases ag.mp h with h|h
     .subst h;exact{(hob),hn,hL,x_,r}
     .have:q=(d,t):=by simpa using h
      subst this;exact{(P),Q,U,R,j}
  .have ha:a≠p:=gs e hn;refine(I.gR a u (nG H hn Q a u e)).pA (λ_ _ _ q=>q) (λb q=>bk H b _ q (λz=>nomatch z) (λz=>ha (by cases z;rfl))) λb L q=>bk H b _ q (λz=>nomatch z) (λz=>nomatch z)
 .intro G s' nR J;have hp:=J.pin (p,W.instObj C d) (ar _ (ar _ (by simp)));have O:=J.pin (d,t) (ar _ (ar _ (by simp)));have hGn:G p=Z:=hp.2.1;have hGd:G d=Z:=O.2.1;have l:s'.heap.get? d=Y t:=O.1;have B:s'.heap.get? p=Y (W.instObj C d):=hp.1;have M:=nG G hGn hGd;refine{hGn,hGd,{J.ok,J.os,J.bare,{J.base.keep,J.base.slot,λb q e n k=>?_,J.base.there,λb L e=>M b _ (J.base.nT b L e),λb q u e=>M b _ (J.base.m5 b q u e),λb ps e=>?_},J.loc,J.cell,?_,λx c e=>?_,λq f=>?_,λa u e=>?_,J.len}}
  .have i:b≠p:=λz=>by subst z;exact k (h0 q e n)
   have g:b≠d:=λz=>by subst z;exact k (h02 q e n)
   rw[cp i,cp g];exact J.base.free b q e n k
  .obtain⟨m,e1⟩:=J.base.oa b ps e;exact{m,M b _ e1}
  .rw[cp (Ne.symm hL),cp (Ne.symm U)];exact J.free
  .have hc:c≠p:=λz=>by
    obtain⟨v,q,f,hd⟩:=J.cell x c e;rw[z,B] at f;cases f;exact r v hd
   have hc2:c≠d:=λz=>by obtain⟨v,q,f,hd⟩:=J.cell x c e;rw[z,l] at f;cases f;exact j v hd
   rw[cp hc,cp hc2];exact J.j5 x c e
  .have hq':q∈X.pn++(pins++[(p,W.instObj C d),(d,t)]):=by
    rcases ax.mp f with h|h
    .exact aD _ h
    .exact ar _ (aD _ h)
   obtain⟨a1,a2,a3⟩:=J.pin q hq';exact{a1,by rw[cp (N q f).1,cp (N q f).2];exact a2,a3}
  .by_cases ha:a=p
   .subst ha;rw[da] at e;cases e;exact{A G,z2,z3,B,mA,ns.at λo q=>by rw[P] at q;cases q;exact l,rl,wi}
   .rw[cp ha] at e;by_cases T:a=d
    .subst T;rw[da] at e;cases e;exact{(t),l}
    .rw[cp T] at e;exact(J.gR a u e).pA (λ_ _ _ q=>q) (λb q=>M b _ q) λb L q=>M b _ q
def GD(ok:pq B):∀{a:Ax}{G:Hp}{F:St}{s:Shared},c6 X a F (c7 G B) s->jd G B->∃m,c6 X (a++m) F G s/\(∀q∈m,∃x∈B,q.1=x.1)/\(∀x∈B,∃q∈m,q.1=x.1) /\
  ∀(d:Hp) (s':Shared) (nR:St),c6 X (a++m) nR d s'->jd d B/\c6 X a nR (c7 d B) s':=by
 induction ok with
 |nil=>exact λI f=>{[],by rw[aG];exact I,(λq hq=>by cases hq),(λx b=>by cases b),λd s' nR J=>{jd.nil,by rw[aG] at J;exact J}}
 |@one p o r hf n M=>
  intro a G F s I f;have u:=bP.mp (show (p::r.map (·.1)).Nodup from f.nd);have Q:jd G r:={u.2,λy N=>f.free y (ai _ N),n}
  have g:∀x∈r,x.1≠p:=λx b e=>u.1 (av.mpr {(x),b,e});have t:c7 G r p=Z:=by rw[gv g];exact f.free (p,o) (by simp)
  obtain⟨v,V,l⟩:=XG (H:=c7 G r) I t hf;sleep 1;obtain⟨m,U,L,K,c⟩:=M V Q;sleep 2;refine{(p,v)::m,by simpa using U,λq hq=>?_,λx b=>?_,λd s' nR J=>?_}
  .rcases ag.mp hq with e|h
   .exact{(p,o),by simp,by rw[e]}
   .obtain⟨x,b,e⟩:=L q h;exact{x,ai _ b,e}
  .rcases ag.mp b with e|h
   .exact{(p,v),by simp,by rw[e]}
   .obtain⟨q,hq,e⟩:=K x h;exact{q,ai _ hq,e}
  .obtain⟨R,T⟩:=c d s' nR (by simpa using J);obtain⟨i,S⟩:=l (c7 d r) s' nR T;have j:d p=Z:=by rw[gv g] at i;exact i
   refine{{f.nd,λx b=>?_,f.ok},S};rcases ag.mp b with e|h
   .rw[e];exact j
   .exact R.free x h
 |@ins p C k fs r n M=>
  intro a G F s I f;have u:=bP.mp (show (p::k::r.map (·.1)).Nodup from f.nd);have w:=bP.mp u.2;have Q:jd G r:={w.2,λy N=>f.free y (ai _ (ai _ N)),n}
  have O:k≠p:=λz=>u.1 (by rw[<-z];simp);have g:∀x∈r,x.1≠p:=λx b e=>u.1 (ai _ (av.mpr {(x),b,e}));have A:∀x∈r,x.1≠k:=λx b e=>w.1 (av.mpr {(x),b,e});have t:c7 G r p=Z:=by rw[gv g];exact f.free (p,.ins C k fs) (by simp)
  have P:c7 G r k=Z:=by rw[gv A];exact f.free (k,.own p) (by simp)
  obtain⟨v,W,V,l⟩:=XH (H:=c7 G r) I t P O;sleep 1;obtain⟨m,U,L,K,c⟩:=M V Q;sleep 2;refine{(p,v)::(k,W)::m,by simpa using U,λq hq=>?_,λx b=>?_,λd s' nR J=>?_}
  .rcases ag.mp hq with e|h
   .exact{(p,.ins C k fs),by simp,by rw[e]}
   .rcases ag.mp h with e|h
    .exact{(k,.own p),by simp,by rw[e]}
    .obtain⟨x,b,e⟩:=L q h;exact{x,ai _ (ai _ b),e}
  .rcases ag.mp b with e|h
   .exact{(p,v),by simp,by rw[e]}
   .rcases ag.mp h with e|h
    .exact{(k,W),by simp,by rw[e]}
    .obtain⟨q,hq,e⟩:=K x h;exact{q,ai _ (ai _ hq),e}
  .obtain⟨R,T⟩:=c d s' nR (by simpa using J);obtain⟨i,D,S⟩:=l (c7 d r) s' nR T;have j:d p=Z:=by rw[gv g] at i;exact i
   have E:d k=Z:=by rw[gv A] at D;exact D
   refine{{f.nd,λx b=>?_,f.ok},S};rcases ag.mp b with e|h
   .rw[e];exact j
   .rcases ag.mp h with e|h
    .rw[e];exact E
    .exact R.free x h
def PE.frame{t:TE}(h:PE X e t):PE X e (λσ H Q=>∃G B,H=c7 G B/\jd G B/\t σ G λv b=>jd b B->Q v (c7 b B)):=by intro c s σ H Q I ⟨G,B,j,f,g⟩;subst j;sleep 1;obtain⟨m,l,_,_,a⟩:=GD f.ok I f;sleep 2;refine gY (@h _ s σ G _ l g) ?_;rintro v d ⟨x,b,J,r,q⟩;obtain⟨i,k⟩:=a b d σ J;exact{x,c7 b B,k,r,q i}
def PI.frame{t:TI}(h:PI X tg iter t):PI X tg iter (λσ H R=>∃G B,H=c7 G B/\jd G B/\t σ G λJ c=>jd c B->R J (c7 c B)):=by
 intro g s σ H R I ⟨G,B,P,f,w⟩;subst P;sleep 1;obtain⟨PB,V,m1,n,a⟩:=GD f.ok I f;sleep 2;refine gY (@h _ s σ G _ V w) λv W D=>gY D ?_;rintro o l ⟨r,E,j,J,c,e,U,T,k,A,q⟩;obtain⟨O,S⟩:=a c l σ U;refine{r,E,j,J,c7 c B,e,S,T,k,λb C=>?_,q O};sleep 1;obtain⟨N,M,L,K,F,i⟩:=A b C;sleep 2;refine{?_,M,L,K,F,λp y=>i p ?_}
 .rw[gv λx u z=>?_]
  .exact N
  .obtain⟨m,d,Q⟩:=n x u;exact i m (ar _ (ar _ d)) (Q.trans z)
 .rcases ax.mp y with h|h
  .exact aD _ h
  .exact ar _ (aD _ h)
def PA.frame{t:TA}(h:PA X es t):PA X es (λσ H Q=>∃G B,H=c7 G B/\jd G B/\t σ G λg b=>jd b B->Q g (c7 b B)):=by intro c d s σ H Q I ⟨G,B,l,f,j⟩;subst l;sleep 1;obtain⟨p,n,_,_,a⟩:=GD f.ok I f;sleep 2;refine gY (@h c _ s σ G _ n j) ?_;rintro o i ⟨e,b,J,r,q⟩;obtain⟨k,m⟩:=a b i σ J;exact{e,c7 b B,m,r,q k}
end
def nJ(f:Str):List (fJ×fJ)->Od
 |[]=>Z
 | (.str g,d)::r=>if g=f then Y d else nJ f r
 |_::r=>nJ f r
def ou(f:Str)(y:fJ):List (fJ×fJ)->List (fJ×fJ)
 |[]=>[(.str f,y)]
 | (.str g,d)::r=>if g=f then (.str g,y)::r else (.str g,d)::ou f y r
 |x::r=>x::ou f y r
section
variable {K:Fg}
theorem kb.get{f:Str}{d:fJ}:∀{r:List (fJ×fJ)}{c:List (Str×V)},kb K H r c->nJ f r=Y d->∃v,c.lookup f=Y v/\c5 K H d v
 |[],_,_,e=>by cases e
 | (k,x)::r,_,h,e=>by
  sleep 1;obtain⟨y,v,g,rfl,rfl,i,t⟩:=kb.dt.mp h;sleep 2;by_cases q:y=f
  .simp only[nJ,ah q] at e;cases e;exact{v,by rw[bp,bF.mpr q.symm],i}
  .simp only[nJ,aq q] at e;obtain⟨u,a,b⟩:=kb.get t e;exact{u,by rw[bp,aT.mpr (λz=>q z.symm)];exact a,b}
theorem kb.none{f:Str}:∀{r:List (fJ×fJ)}{a:List (Str×V)},kb K H r a->nJ f r=.none->a.lookup f=.none
 |[],_,h,e=>by rw[kb.eB.mp h];rfl
 | (k,x)::r,_,h,e=>by
  sleep 1;obtain⟨y,v,b,rfl,rfl,i,t⟩:=kb.dt.mp h;sleep 2;by_cases q:y=f
  .simp only[nJ,ah q] at e;cases e
  .simp only[nJ,aq q] at e;rw[bp,aT.mpr (λz=>q z.symm)];exact kb.none t e
def kK(c f:Str):Bool:=(c=="Reading"&&(f=="fields"||f=="heads"||f=="blocks"||f=="later"))||(c=="Outline"&&(f=="params"||f=="kept"||f=="own_rows"||f=="fields"))
def ow(c f:Str):Bool:=c=="Outline"&&f=="own_rows"
def pf(K:Fg)(G:Hp)(d:fJ)(q:Addr)(o:HO):Prop :=
 (∃e b,d=.list e/\o=.lst b/\bz K G e b)\/∃a c,d=.dict a/\o=.dK c/\gi K G a c
def isL:fJ->Bool
 |.list _=>true
 |_=>false
def OL(K:Fg)(G:Hp)(d:fJ)(v:V)(B:List (Addr×HO)):Prop:=(isL d=false/\c5 K G d v/\B=[])\/∃b p a,d=.list b/\v=.ref p/\B=[(p,.lst a)]/\bz K G b a
def vg(K:Fg)(G:Hp):Lp->List V->List (Addr×HO)->Prop
 |[],vs,B=>vs=[]/\B=[]
 |d::ds,vs,B=>∃v a c b,vs=v::a/\B=c++b/\OL K G d v c/\vg K G ds a b
def GF(K:Fg)(G:Hp):List (fJ×fJ)->List (Key×V)->List (Addr×HO)->Prop
 |[],kv,B=>kv=[]/\B=[]
 | (k,d)::r,kv,B=>∃y v a c b,kv=(y,v)::a/\k=jD y/\B=c++b/\OL K G d v c/\GF K G r a b
def y_(K:Fg)(G:Hp)(d:fJ)(o:HO)(B:List (Addr×HO)):Prop :=
 (∃e b,d=.list e/\o=.lst b/\vg K G e b B)\/∃a c,d=.dict a/\o=.dK c/\GF K G a c B
def nK(a:Bool)(K:Fg)(G:Hp)(d:fJ)(q:Addr)(o:HO)(B:List (Addr×HO)):Prop:=match a with
 |false=>pf K G d q o/\B=[]
 |true=>y_ K G d o B
def ja(K:Fg)(G:Hp)(c:Str):List (fJ×fJ)->List (Str×V)->List (Addr×HO)->Prop
 |[],fs,B=>fs=[]/\B=[]
 | (k,d)::r,fs,B=>∃y v a,fs=(y,v)::a/\k=.str y/\((kK c y=false/\c5 K G d v/\ja K G c r a B)\/(kK c y=true/\∃q o b e,v=.ref q/\B=(q,o)::(b++e)/\nK (ow c y) K G d q o b/\ja K G c r a e))
def iR(g:Bool)(K:Fg)(G:Hp)(d:fJ)(v:V)(B:List (Addr×HO)):Prop :=
 (∃q o e,v=.ref q/\B=(q,o)::e/\nK g K G d q o e) \/
 ∃c C p b a r f,d=.dict ((.none,.str c)::r)/\v=.ref p/\B=(p,.ins C b a)::(b,.own p)::f/\iq K c C/\ja K G c r a f
theorem OL.sim{f:Hp}{d:fJ}{v:V}{B:List (Addr×HO)}(e:D1 K G f)(h:OL K G d v B):OL K f d v B:=by
 rcases h with ⟨a,b,c⟩ | ⟨i,p,g,a,b,c,t⟩
 .exact .inl {a,b.sim e,c}
 .exact .inr {i,p,g,a,b,c,t.sim e}
def OL.mq(h:OL K G d v B):pq B:=by
 rcases h with ⟨a,b,c⟩ | ⟨f,p,e,a,b,c,t⟩
 .rw[c];exact .nil
 .rw[c];exact .one aZ .nil
def OL.Jz(h:OL K G d v B)(e:dn G H)(f:∀x∈B,H x.1=Y x.2):c5 K H d v:=by
 rcases h with ⟨a,b,c⟩ | ⟨g,p,vs,rfl,rfl,rfl,t⟩
 .exact b.same e
 .exact c5.fj.mpr {p,vs,rfl,nE.of (f (p,.lst vs) (by simp)),t.same e}
theorem vg.sim{g:Hp}(e:D1 K G g):∀{f:Lp}{d:List V}{B:List (Addr×HO)},vg K G f d B->vg K g f d B
 |[],_,_,h=>h
 |_::_,_,_,⟨v,KI,B1,B2,a,b,c,t⟩=>{v,KI,B1,B2,a,b,c.sim e,vg.sim e t}
def vg.same(e:dn G G'):∀{ds:Lp}{vs:List V}{B:List (Addr×HO)},vg K G ds vs B->vg K G' ds vs B:=λh=>vg.sim e.sim h
theorem vg.mq:∀{e:Lp}{d:List V}{B:List (Addr×HO)},vg K G e d B->pq B
 |[],_,_,h=>by rw[h.2];exact .nil
 |_::_,_,_,⟨v,KI,B1,B2,a,b,c,t⟩=>by rw[b];exact c.mq.append t.mq
theorem vg.XI(e:dn G H):∀{g:Lp}{f:List V}{B:List (Addr×HO)},vg K G g f B->(∀x∈B,H x.1=Y x.2)->bz K H g f
 |[],_,_,h,_=>by rw[h.1];exact bz.nil
 |_::_,_,_,⟨v,KI,B1,B2,a,b,c,t⟩,hB=>by subst a b;exact bz.cons (c.Jz e λx d=>hB x (aD _ d)) (t.XI e λx d=>hB x (ar _ d))
theorem GF.sim{g:Hp}(e:D1 K G g):∀{f:List (fJ×fJ)}{d:List (Key×V)}{B:List (Addr×HO)},GF K G f d B->GF K g f d B
 |[],_,_,h=>h
 | (_,_)::_,_,_,⟨y,v,KI,B1,B2,a,a2,b,c,t⟩=>{y,v,KI,B1,B2,a,a2,b,c.sim e,GF.sim e t}
theorem GF.mq:∀{e:List (fJ×fJ)}{d:List (Key×V)}{B:List (Addr×HO)},GF K G e d B->pq B
 |[],_,_,h=>by rw[h.2];exact .nil
 | (_,_)::_,_,_,⟨y,v,KI,B1,B2,a,a2,b,c,t⟩=>by rw[b];exact c.mq.append t.mq
theorem GF.XJ(e:dn G H):∀{g:List (fJ×fJ)}{f:List (Key×V)}{B:List (Addr×HO)},GF K G g f B->(∀x∈B,H x.1=Y x.2)->gi K H g f
 |[],_,_,h,_=>by rw[h.1];exact gi.eB.mpr rfl
 | (_,_)::_,_,_,⟨y,v,KI,B1,B2,a,a2,b,c,t⟩,hB=>by subst a a2 b;exact gi.dt.mpr {y,v,KI,rfl,rfl,c.Jz e λx d=>hB x (aD _ d),t.XJ e λx d=>hB x (ar _ d)}
theorem pf.sim{g:Hp}{d:fJ}{q:Addr}{o:HO}(h:pf K G d q o)(e:D1 K G g):pf K g d q o:=by
 rcases h with ⟨k,i,a,b,c⟩ | ⟨f,j,a,b,c⟩
 .exact .inl {k,i,a,b,c.sim e}
 .exact .inr {f,j,a,b,c.sim e}
def pf.z_{q:Addr}(h:pf K G d q o):KG o:=by rcases h with ⟨i,f,a,b,c⟩ | ⟨e,g,a,b,c⟩<;>subst b<;>exact aZ
def pf.Jz{p:Addr}(h:pf K G d p o)(e:dn G H)(a:H p=Y o):c5 K H d (.ref p):=by
 rcases h with ⟨ds,vs,rfl,rfl,c⟩ | ⟨b,f,rfl,rfl,c⟩
 .exact c5.fj.mpr {p,vs,rfl,nE.of a,c.same e}
 .exact c5.jN.mpr {p,rfl,.inl {f,.inl a,c.same e}}
theorem nK.sim{g:Bool}{i:Hp}{d:fJ}{q:Addr}{o:HO}{B:List (Addr×HO)}(e:D1 K G i)(h:nK g K G d q o B):nK g K i d q o B:=by
 cases g with
 |false=>exact{h.1.sim e,h.2}
 |true=>
  rcases h with ⟨l,j,a,b,c⟩ | ⟨f,k,a,b,c⟩
  .exact .inl {l,j,a,b,c.sim e}
  .exact .inr {f,k,a,b,c.sim e}
def nK.same{q:Addr}(e:dn G G')(h:nK dp K G d q o B):nK dp K G' d q o B:=nK.sim e.sim h
theorem nK.mq{e:Bool}{d:fJ}{q:Addr}{o:HO}{B:List (Addr×HO)}(h:nK e K G d q o B):pq ((q,o)::B):=by
 cases e with
 |false=>rw[h.2];exact .one h.1.z_ .nil
 |true=>
  rcases h with ⟨j,g,a,b,c⟩ | ⟨f,i,a,b,c⟩
  .subst b;exact .one aZ c.mq
  .subst b;exact .one aZ c.mq
theorem nK.Jz{f:Bool}{d:fJ}{o:HO}{p:Addr}{B:List (Addr×HO)}(h:nK f K G d p o B)(e:dn G H)(a:H p=Y o)(b:∀x∈B,H x.1=Y x.2):c5 K H d (.ref p):=by
 cases f with
 |false=>exact h.1.Jz e a
 |true=>
  rcases h with ⟨ds,vs,rfl,rfl,c⟩ | ⟨g,i,rfl,rfl,c⟩
  .exact c5.fj.mpr {p,vs,rfl,nE.of a,c.XI e b}
  .exact c5.jN.mpr {p,rfl,.inl {i,.inl a,c.XJ e b}}
theorem ja.sim{c:Str}{m:Hp}(e:D1 K G m):∀{r:List (fJ×fJ)}{i:List (Str×V)}{B:List (Addr×HO)},ja K G c r i B->ja K m c r i B
 |[],_,_,h=>h
 | (k,d)::r,_,_,h=>by
  obtain⟨y,v,a,l,j,⟨g,f,b⟩ | ⟨g,q,o,s,t,f,b,p,n⟩⟩:=h
  .exact{y,v,a,l,j,.inl {g,f.sim e,ja.sim e b}}
  .exact{y,v,a,l,j,.inr {g,q,o,s,t,f,b,p.sim e,ja.sim e n}}
def ja.same(e:dn G G'):∀{r:List (fJ×fJ)}{a:List (Str×V)}{B:List (Addr×HO)},ja K G c r a B->ja K G' c r a B:=λh=>ja.sim e.sim h
theorem ja.mq{c:Str}:∀{r:List (fJ×fJ)}{e:List (Str×V)}{B:List (Addr×HO)},ja K G c r e B->pq B
 |[],_,_,h=>by rw[h.2];exact .nil
 | (k,d)::r,_,_,h=>by
  obtain⟨y,v,b,m,l,⟨j,i,a⟩ | ⟨j,q,o,n,p,i,a,g,f⟩⟩:=h
  .exact ja.mq a
  .rw[a];exact pq.append g.mq (ja.mq f)
theorem ja.U0{c:Str}(e:dn G H):∀{r:List (fJ×fJ)}{i:List (Str×V)}{B:List (Addr×HO)},ja K G c r i B->(∀x∈B,H x.1=Y x.2)->kb K H r i
 |[],_,_,h,_=>by rw[h.1];exact kb.eB.mpr rfl
 | (k,d)::r,_,_,h,hB=>by
  obtain⟨y,v,a,l,j,⟨p,g,f⟩ | ⟨p,q,o,s,t,g,f,n,m⟩⟩:=h
  .exact kb.dt.mpr {y,v,a,l,j,g.same e,ja.U0 e f hB}
  .subst f g;exact kb.dt.mpr {y,_,a,l,j,n.Jz e (hB (q,o) (by simp)) (λx b=>hB x (by simp[b])),ja.U0 e m λx b=>hB x (by simp[b])}
theorem iR.sim{f:Bool}{g:Hp}{d:fJ}{v:V}{B:List (Addr×HO)}(h:iR f K G d v B)(e:D1 K G g):iR f K g d v B:=by
 rcases h with ⟨q,o,t,a,b,c⟩ | ⟨c,C,p,j,i,r,u,s,n,m,l,k⟩
 .exact .inl {q,o,t,a,b,c.sim e}
 .exact .inr {c,C,p,j,i,r,u,s,n,m,l,k.sim e}
def iR.same(h:iR dp K G d v B)(e:dn G G'):iR dp K G' d v B:=iR.sim h e.sim
theorem iR.mq{e:Bool}{d:fJ}{v:V}{B:List (Addr×HO)}(h:iR e K G d v B):pq B:=by
 rcases h with ⟨q,o,n,a,b,c⟩ | ⟨c,C,p,j,i,r,s,m,l,g,k,f⟩
 .rw[b];exact c.mq
 .rw[g];exact .ins f.mq
theorem iR.Jz{i:Bool}{d:fJ}{v:V}{B:List (Addr×HO)}(h:iR i K G d v B)(e:dn G H)(a:∀x∈B,H x.1=Y x.2):c5 K H d v:=by
 rcases h with ⟨q,o,l,rfl,rfl,c⟩ | ⟨c,C,p,g,f,r,m,rfl,rfl,rfl,k,j⟩
 .exact c.Jz e (a (q,o) (by simp)) λx b=>a x (by simp[b])
 .exact c5.jN.mpr {p,rfl,.inr (.inl {c,C,g,f,k,a (p,.ins C g f) (by simp),nY.dt.mpr {rfl,rfl,j.U0 e λx b=>a x (by simp[b])}})}
theorem ja.split{c y:Str}{d:fJ}(E:kK c y=true):∀{r:List (fJ×fJ)}{F:List (Str×V)}{B:List (Addr×HO)},ja K G c r F B->nJ y r=Y d ->
  ∃q o l j i,F.lookup y=Y (.ref q)/\B=j++((q,o)::(l++i))/\pq j/\pq i/\nK (ow c y) K G d q o l/\∀g s b a,dn G g->nK (ow c y) K g s q b a->ja K g c (ou y s r) F (j++((q,b)::(a++i)))
 |[],_,_,_,e=>by cases e
 | (k,x)::r,_,B,h,e=>by
  sleep 1;obtain⟨z,v,n,R,Q,h⟩:=h;sleep 2;subst R Q;by_cases q:z=y
  .subst q;simp only[nJ,dk] at e;cases e;rcases h with ⟨f,_⟩ | ⟨f,q,o,l,M,u,t,A,w⟩
   .rw[E] at f;cases f
   .subst u t;refine{q,o,l,[],M,by rw[bp,bF.mpr rfl],rfl,.nil,w.mq,A,λg s b a m h'=>?_};simp only[ou,dk];exact{z,_,n,rfl,rfl,.inr {f,q,b,a,M,rfl,rfl,h',w.same m}}
  .simp only[nJ,aq q] at e;rcases h with ⟨f,u,t⟩ | ⟨f,N,o,O,M,u,t,A,w⟩
   .obtain⟨p,o,l,j,i,L,J,D,C,I,H⟩:=ja.split E t e;refine{p,o,l,j,i,by rw[bp,aT.mpr (λz=>q z.symm)];exact L,J,D,C,I,λg s b a m h'=>?_};simp only[ou,aq q];exact{z,v,n,rfl,rfl,.inl {f,u.same m,H g s b a m h'}}
   .subst u t;sleep 1;obtain⟨p,P,l,j,i,L,J,D,C,I,H⟩:=ja.split E w e;sleep 2;refine{p,P,l,(N,o)::(O++j),i,by rw[bp,aT.mpr (λz=>q z.symm)];exact L,by rw[J];simp,pq.append A.mq D,C,I,λg s b a m h'=>?_};simp only[ou,aq q];exact{z,_,n,rfl,rfl,.inr {f,N,o,O,j++((p,b)::(a++i)),rfl,by simp,A.same m,H g s b a m h'}}
theorem ja.put{c y:Str}{d:fJ}{v:V}(b:kK c y=false)(i:c5 K G d v):∀{r:List (fJ×fJ)}{j:List (Str×V)}{B:List (Addr×HO)},ja K G c r j B->ja K G c (ou y d r) (mw y v j) B
 |[],_,_,h=>by obtain⟨rfl,rfl⟩:=h;exact{y,v,[],rfl,rfl,.inl {(b),i,rfl,rfl}}
 | (k,x)::r,_,_,h=>by
  sleep 1;obtain⟨z,u,g,s,p,h⟩:=h;sleep 2;subst s p;by_cases q:z=y
  .subst q;simp only[ou,mw,dk];rcases h with ⟨a,f,e⟩ | ⟨a,_⟩
   .exact{z,v,g,rfl,rfl,.inl {(b),i,e}}
   .rw[b] at a;cases a
  .simp only[ou,mw,aq q];rcases h with ⟨a,f,e⟩ | ⟨a,l,o,t,w,f,e,n,m⟩
   .exact{z,u,_,rfl,rfl,.inl {a,f,ja.put b i e}}
   .exact{z,u,_,rfl,rfl,.inr {a,l,o,t,w,f,e,n,ja.put b i m}}
theorem ja.add{c y:Str}{d:fJ}{q:Addr}{o:HO}{a:List (Addr×HO)}(b:kK c y=true)(i:nK (ow c y) K G d q o a):∀{r:List (fJ×fJ)}{m:List (Str×V)}{B:List (Addr×HO)},ja K G c r m B->nJ y r=Z ->
  ja K G c (ou y d r) (mw y (.ref q) m) (B++(q,o)::a)
 |[],_,_,h,_=>by obtain⟨rfl,rfl⟩:=h;exact{y,_,[],rfl,rfl,.inr {b,q,o,a,[],rfl,by simp,i,rfl,rfl}}
 | (k,x)::r,_,_,h,e=>by
  sleep 1;obtain⟨z,u,s,A,w,h⟩:=h;sleep 2;subst A w;by_cases f:z=y
  .simp only[nJ,ah f] at e;cases e
  .simp only[nJ,aq f] at e;simp only[ou,mw,aq f];rcases h with ⟨l,j,g⟩ | ⟨l,n,p,C,D,j,g,v,t⟩
   .exact{z,u,_,rfl,rfl,.inl {l,j,ja.add b i g e}}
   .subst g;exact{z,u,_,rfl,rfl,.inr {l,n,p,C,D++(q,o)::a,j,by simp,v,ja.add b i t e}}
theorem ja.len{c:Str}:∀{r:List (fJ×fJ)}{a:List (Str×V)}{B:List (Addr×HO)},ja K G c r a B->a.length=r.length
 |[],_,_,h=>by rw[h.1];rfl
 | (k,d)::r,_,_,h=>by
  obtain⟨y,v,f,e,m,⟨j,i,b⟩ | ⟨j,q,o,n,p,i,b,l,g⟩⟩:=h
  .rw[e,ay,ay,ja.len b]
  .rw[e,ay,ay,ja.len g]
end
def ju(O:List Nat):Bool:=O.contains 99
def h9(c:Bool)(K:Fg)(b:St)(a:a0)(G:Hp):List Nat->List (Addr×HO)->Prop
 |[],B=>B=[]
 |i::O,B=>((a[i]?).join=Z/\h9 c K b a G O B)\/∃d v f e,a[i]?=Y (Y d)/\b[i]?=Y (Y v)/\B=f++e/\iR c K G d v f/\h9 c K b a G O e
structure gE (O:List Nat) (K:Fg) (σ:St) (ρ:a0) (H G:Hp):Prop where
 len:σ.length=ρ.length
 ex:∃B,H=c7 G B/\jd G B/\h9 (ju O) K σ ρ G O B
 kn:∀(i:Nat) (d:fJ),ρ[i]?=Y (Y d)->i∉O->∃v,σ[i]?=Y (Y v)/\c5 K G d v
def join_some{l:List (Option α)}{d:α}(h:(l[i]?).join=Y d):l[i]?=Y (Y d):=by
 cases q:l[i]? with
 |none=>rw[q] at h;cases h
 |some o=>rw[q] at h;cases o with
  |none=>cases h
  |some a=>cases h;rfl
section
variable {K:Fg}
theorem h9.sim{f:Hp}(e:D1 K G f):∀{O:List Nat}{B:List (Addr×HO)},h9 dp K σ ρ G O B->h9 dp K σ ρ f O B
 |[],_,h=>h
 |_::_,_,h=>by
  rcases h with ⟨a,b⟩ | ⟨d,v,i,g,a,b,c,q,t⟩
  .exact .inl {a,h9.sim e b}
  .exact .inr {d,v,i,g,a,b,c,q.sim e,h9.sim e t}
def h9.same(e:dn G G'):∀{O:List Nat}{B:List (Addr×HO)},h9 dp K σ ρ G O B->h9 dp K σ ρ G' O B:=λh=>h9.sim e.sim h
theorem h9.mq:∀{O:List Nat}{B:List (Addr×HO)},h9 dp K σ ρ G O B->pq B
 |[],_,h=>by rw[show _=[] from h];exact .nil
 |_::_,_,h=>by
  rcases h with ⟨a,b⟩ | ⟨d,v,e,c,a,b,rfl,q,t⟩
  .exact h9.mq b
  .exact q.mq.append (h9.mq t)
theorem h9.other{e:St}{f:a0}:∀{O:List Nat}{B:List (Addr×HO)},h9 dp K σ ρ G O B->(∀i∈O,f[i]?=ρ[i]?/\e[i]?=σ[i]?)->h9 dp K e f G O B
 |[],_,h,_=>h
 |j::O,_,h,k=>by
  obtain⟨g,m⟩:=k j (by simp);have l:∀i∈O,f[i]?=ρ[i]?/\e[i]?=σ[i]?:=λi n=>k i (ai _ n);rcases h with ⟨a,b⟩ | ⟨d,v,p,o,a,b,c,q,t⟩
  .exact .inl {by rw[g];exact a,b.other l}
  .exact .inr {d,v,p,o,by rw[g];exact a,by rw[m];exact b,c,q,t.other l}
theorem h9.split{i:Nat}{d:fJ}:∀{O:List Nat}{B:List (Addr×HO)},O.Nodup->h9 dp K σ ρ G O B->i∈O->ρ[i]?=Y (Y d) ->
  ∃v p l o,σ[i]?=Y (Y v)/\B=p++(l++o)/\iR dp K G d v l/\pq p/\pq o /\
   (∀n g e,dn G n->iR dp K n g v e->h9 dp K σ (ρ.set i (Y g)) n O (p++(e++o)))/\h9 dp K σ (ρ.set i Z) G O (p++o)
 |[],_,_,_,hi,_=>by cases hi
 |j::O,B,XM,h,hi,hd=>by
  have f:=bP.mp XM;have L:i<ρ.length:=(aM.mp hd).1;by_cases r:j=i
  .subst r;have u:∀x:Od,∀k∈O,(ρ.set j x)[k]?=ρ[k]?/\σ[k]?=σ[k]?:=λx k N=>by
    have:j≠k:=λz=>f.1 (z▸N);exact{aw this,rfl}
   rcases h with ⟨a,b⟩ | ⟨g,v,l,J,a,b,c,q,t⟩
   .rw[hd] at a;cases a
   .rw[hd] at a;cases a;refine{v,[],l,J,b,c,q,.nil,t.mq,λn g e s w=>.inr {g,v,e,J,aK L,b,rfl,w,(t.same s).other (u _)},.inl {by rw[aK L];rfl,t.other (u _)}}
  .have y:=(ag.mp hi).resolve_left (Ne.symm r);have m:∀x:Od,(ρ.set i x)[j]?=ρ[j]?:=λx=>aw (Ne.symm r);rcases h with ⟨a,b⟩ | ⟨g,v,l,J,a,b,c,q,t⟩
   .obtain⟨v,p,l,o,I,H,F,E,D,C,A⟩:=h9.split f.2 b y hd;exact{v,p,l,o,I,H,F,E,D,λn g e s w=>.inl {by rw[m];exact a,C n g e s w},.inl {by rw[m];exact a,A}}
   .obtain⟨M,p,e,o,I,H,F,E,D,C,A⟩:=h9.split f.2 t y hd;refine{M,l++p,e,o,I,by rw[c,H];simp,F,q.mq.append E,D,λn g e s w=>.inr {_,v,l,_,by rw[m];exact a,b,by simp,q.same s,C n g e s w},.inr {_,v,l,_,by rw[m];exact a,b,by simp,q,A}}
def gE.sub(h:gE O K σ ρ H G):dn G H:=by obtain⟨B,rfl,f,a⟩:=h.ex;exact f.same
theorem h9.at:∀{O:List Nat}{B:List (Addr×HO)},h9 dp K σ ρ G O B->∀{i:Nat}{d:fJ},i∈O->ρ[i]?=Y (Y d)->∃v f,(∀x∈f,x∈B)/\σ[i]?=Y (Y v)/\iR dp K G d v f
 |[],_,_,_,_,hi,_=>by cases hi
 |j::O,_,h,i,d,hi,hd=>by
  rcases h with ⟨a,b⟩ | ⟨d',v,f,n,a,b,c,q,t⟩
  .rcases ag.mp hi with e|hi
   .subst e;rw[hd] at a;cases a
   .exact h9.at b hi hd
  .rcases ag.mp hi with e|hi
   .subst e;rw[hd] at a;cases a;exact{v,f,λx g=>by rw[c];exact aD _ g,b,q}
   .obtain⟨l,k,m,r⟩:=h9.at t hi hd;exact{l,k,λx g=>by rw[c];exact ar _ (m x g),r}
def gE.full(h:gE O K σ ρ H G):jt K H σ ρ:=by
 obtain⟨B,rfl,f,a⟩:=h.ex;refine{h.len,λi d q=>?_};by_cases b:i∈O
 .obtain⟨v,l,m,e,c⟩:=a.at b q;exact{v,e,c.Jz f.same λx g=>fX f.nd x (m x g)}
 .obtain⟨v,k,j⟩:=h.kn i d q b;exact{v,k,j.same f.same}
def il:List Nat->a0->a0
 |[],ρ=>ρ
 |i::O,ρ=>(il O ρ).set i Z
theorem wb:∀(O:List Nat) (ρ:a0),(il O ρ).length=ρ.length
 |[],_=>rfl
 |i::O,ρ=>by rw[il,d8];exact wb O ρ
theorem wc:∀{O:List Nat}{c:a0}{j:Nat}{d:fJ},(il O c)[j]?=Y (Y d)->j∉O/\c[j]?=Y (Y d)
 |[],_,_,_,h=>{by simp,h}
 |i::O,c,j,d,h=>by
  unfold il at h;by_cases e:j=i
  .subst e;by_cases f:j<(il O c).length
   .rw[aK f] at h;cases h
   .rw[bU (by simpa using f)] at h;cases h
  .rw[aw (Ne.symm e)] at h;obtain⟨a,b⟩:=wc h;exact{by simp[e,a],b}
def gE.rest(h:gE O K σ ρ H G):jt K G σ (il O ρ):=by refine{by rw[wb];exact h.len,λi d q=>?_};obtain⟨a,b⟩:=wc q;exact h.kn i d b a
def gE.grow(h:gE O K σ ρ H G)(e:dn H H'):∃g,dn G g/\(∀a,H a=Z->g a=H' a)/\gE O K σ ρ H' g:=by
 obtain⟨B,rfl,f,k⟩:=h.ex;have n:∀x∈B,H' x.1=Y x.2:=λx b=>e _ _ (fX f.nd x b);let g:Hp:=λa=>if (∃x∈B,x.1=a) then Z else H' a
 have l:∀a,(∀x∈B,x.1≠a)->g a=H' a:=λa c=>aq λ⟨x,b,z⟩=>c x b z;have p:∀x∈B,g x.1=Z:=λx b=>ah {(x),b,rfl};have j:dn G g:=λa o q=>by
  have c:∀x∈B,x.1≠a:=λx b z=>by have:=f.free x b;rw[z,q] at this;cases this
  rw[l a c];exact e _ _ (by rw[gv c];exact q)
 refine{g,j,λa c=>l a λx b z=>?_,h.len,{B,qj f.nd n λa c=>(l a c).symm,{f.nd,p,f.ok},k.same j},λi d q m=>?_}
 .have:=fX (G:=G) f.nd x b;rw[z,c] at this;cases this
 obtain⟨v,s,r⟩:=h.kn i d q m;exact{v,s,r.same j}
def gE.tB(h:σ.length=ρ.length) (c:h9 (ju O) K σ ρ G O B) (e:∀(i:Nat) (d:fJ),ρ[i]?=Y (Y d)->i∉O->∃v,σ[i]?=Y (Y v)/\c5 K G d v)
  (g:dn G G') (f:jd G' B):gE O K σ ρ (c7 G' B) G' :=
 {h,{B,rfl,f,c.same g},λi d q j=>by obtain⟨v,a,b⟩:=e i d q j;exact{v,a,b.same g}}
theorem gE.set{O:List Nat}{i:Nat}{d:fJ}{v:V}(h:gE O K σ ρ H G)(m:i∉O)(e:c5 K G d v):gE O K (σ.set i (Y v)) (ρ.set i (Y d)) H G:=by
 obtain⟨B,n,f,g⟩:=h.ex;refine{by simpa using h.len,{B,n,f,g.other λj k=>?_},λj o q k=>?_}
 .have c:i≠j:=λz=>m (z▸k);exact{aw c,aw c}
 .by_cases c:j=i
  .subst c;have l:j<ρ.length:=by
    have:=(aM.mp q).1;simpa using this
   rw[aK l] at q;cases q;exact{v,by rw[aK (by rw[h.len];exact l)],e}
  .rw[aw (Ne.symm c)] at q;obtain⟨u,a,b⟩:=h.kn j o q k;exact{u,by rw[aw (Ne.symm c)];exact a,b}
theorem gE.own{O:List Nat}(p:O.Nodup)(h:gE O K σ ρ H G){i:Nat}{d:fJ}(u:i∈O)(y:ρ[i]?=Y (Y d)):
  ∃v k n g,σ[i]?=Y (Y v)/\H=c7 G (k++(n++g))/\jd G (k++(n++g))/\iR (ju O) K G d v n/\pq k/\pq g /\
   (∀c o e,dn G c->iR (ju O) K c o v e->jd c (k++(e++g))->gE O K σ (ρ.set i (Y o)) (c7 c (k++(e++g))) c) /\
   (∀c,dn G c->jd c (k++g)->gE O K σ (ρ.set i Z) (c7 c (k++g)) c):=by
 obtain⟨B,rfl,f,own⟩:=h.ex;sleep 1;obtain⟨v,k,n,g,I,rfl,F,E,D,C,A⟩:=own.split p u y;sleep 2;have m:∀(x:Od) (c:Hp),dn G c->∀(j:Nat) (d2:fJ),(ρ.set i x)[j]?=Y (Y d2)->j∉O->∃v,σ[j]?=Y (Y v)/\c5 K c d2 v:=λx c l j d2 q t=>by have r:j≠i:=λz=>t (z▸u);rw[aw (Ne.symm r)] at q;obtain⟨v,a,b⟩:=h.kn j d2 q t;exact{v,a,b.same l}
 exact{v,k,n,g,I,rfl,f,F,E,D,λc o e l w s=>{by simpa using h.len,{_,rfl,s,C c o e l w},m _ c l},
  λc l s=>{by simpa using h.len,{_,rfl,s,A.same l},m _ c l}}
def nZ{q:Addr}{d:HO}{i g:List (Addr×HO)}(k:((i++(q,o)::g).map (·.1)).Nodup):L2.upd (c7 G (i++(q,o)::g)) q d=c7 G (i++(q,d)::g):=by
 have c:((i++(q,d)::g).map (·.1)).Nodup:=by simpa using k
 refine qj c (λx f=>?_) λa j=>?_
 .by_cases b:x.1=q
  .have m:=fX (G:=G) c x f;have n:=fX (G:=G) c (q,d) (by simp);rw[b] at m;rw[b,da,<-m,n]
  .rw[cp b];refine fX k x ?_;rcases ax.mp f with h|h
   .exact aD _ h
   .rcases ag.mp h with e|h
    .rw[e] at b;exact absurd rfl b
    .exact ar _ (ai _ h)
 .have l:a≠q:=λz=>j (q,d) (by simp) z.symm;rw[cp l];refine gv λx f=>?_;rcases ax.mp f with h|h
  .exact j x (aD _ h)
  .rcases ag.mp h with e|h
   .rw[e];exact Ne.symm l
   .exact j x (ar _ (ai _ h))
def jd.put{q:Addr}{c:HO}{b a:List (Addr×HO)}(f:jd G (b++(q,o)::a))(d:pq (b++(q,c)::a)):jd G (b++(q,c)::a):=by
 refine{by simpa using f.nd,λx g=>?_,d};rcases ax.mp g with h|h
 .exact f.free x (aD _ h)
 .rcases ag.mp h with e|h
  .rw[e];exact f.free (q,o) (by simp)
  .exact f.free x (ar _ (ai _ h))
def gE.drop(r:O.Nodup)(h:gE O K σ ρ H G)(J:i∈O):∃F,dn G F/\gE O K σ (ρ.set i Z) H F:=by
 cases hd:(ρ[i]?).join with
 |none=>
  refine{G,.refl G,?_};obtain⟨B,u,f,p⟩:=h.ex;have l:∀(j:Nat) (d:fJ),(ρ.set i Z)[j]?=Y (Y d)->ρ[j]?=Y (Y d):=λj d q=>by
   by_cases e:j=i
   .subst e;by_cases D:j<ρ.length
    .rw[aK D] at q;cases q
    .rw[bU (by simpa using D)] at q;cases q
   .rw[aw (Ne.symm e)] at q;exact q
  refine{by simpa using h.len,{B,u,f,?_},λj d q I=>h.kn j d (l j d q) I};have s:∀{m:List Nat}{B:List (Addr×HO)},h9 (ju O) K σ ρ G m B->h9 (ju O) K σ (ρ.set i Z) G m B:=by
   intro m;induction m with
   |nil=>exact λh=>h
   |cons j m C=>
    intro B h;rcases h with ⟨a,b⟩ | ⟨d,v,k,N,a,b,c,q,t⟩
    .refine .inl {?_,C b};cases q:((ρ.set i Z)[j]?).join with
     |none=>rfl
     |some d=>rw[l j d (join_some q)] at a;cases a
    .refine .inr {d,v,k,N,?_,b,c,q,C t};have e:j≠i:=λz=>by subst z;rw[a] at hd;cases hd
     rw[aw (Ne.symm e)];exact a
  exact s p
 |some d=>
  sleep 1;obtain⟨v,o,k,n,P,L,f,x,A,y,_,M⟩:=h.own r J (join_some hd);sleep 2;have g:(o++(k++n)).Perm ((o++n)++k):=by rw[aW];exact cV _ a6
  have E:jd G ((o++n)++k):=f.perm g ((A.append y).append x.mq);have u:H=c7 (c7 G k) (o++n):=by rw[L,ic f.nd g,gZ]
  have w:dn G (c7 G k):=(E.Cj x.mq).same;refine{c7 G k,w,?_};rw[u];exact M _ w (E.Ci (A.append y))
theorem h9.ins{i:Nat}{n:fJ}{v:V}{o:List (Addr×HO)}:∀{O:List Nat}{B:List (Addr×HO)},O.Nodup->h9 dp K σ ρ G O B->i∈O->i<ρ.length->i<σ.length->(ρ[i]?).join=Z->iR dp K G n v o ->
  ∃g,h9 dp K (σ.set i (Y v)) (ρ.set i (Y n)) G O g/\g.Perm (o++B)
 |[],_,_,_,hi,_,_,_,_=>by cases hi
 |j::O,B,XM,h,hi,hl,A_,hn,ob=>by
  have e:=bP.mp XM;by_cases f:j=i
  .subst f;have p:∀k∈O,(ρ.set j (Y n))[k]?=ρ[k]?/\(σ.set j (Y v))[k]?=σ[k]?:=λk w=>by
    have:j≠k:=λz=>e.1 (z▸w);exact{aw this,aw this}
   rcases h with ⟨a,b⟩ | ⟨d,u,s,x,a,c,rfl,l,t⟩
   .exact{o++B,.inr {n,v,o,B,aK hl,aK A_,rfl,ob,b.other p},List.Perm.refl _}
   .rw[a] at hn;cases hn
  .have m:=(ag.mp hi).resolve_left (Ne.symm f);rcases h with ⟨a,b⟩ | ⟨d,u,s,x,a,c,rfl,l,t⟩
   .obtain⟨g,r,q⟩:=h9.ins e.2 b m hl A_ hn ob;exact{g,.inl {by rw[aw (Ne.symm f)];exact a,r},q}
   .obtain⟨g,r,q⟩:=h9.ins e.2 t m hl A_ hn ob;refine{s++g,.inr {d,u,s,g,by rw[aw (Ne.symm f)];exact a,by rw[aw (Ne.symm f)];exact c,rfl,l,r},(q.append_left _).trans ?_};rw[<-aW,<-aW];exact dE _ a6
def gE.new{O:List Nat}(e:O.Nodup)(h:gE O K σ ρ H G){i:Nat}{d':fJ}{v:V}{k:List (Addr×HO)}(m:i∈O)(s:i<ρ.length)(A:iR (ju O) K G d' v k)(D:jd H k):
  ∃x,dn G x/\gE O K (σ.set i (Y v)) (ρ.set i (Y d')) (c7 H k) x:=by
 obtain⟨p,r,n⟩:=h.drop e m;obtain⟨B,E,f,l⟩:=n.ex;have g:i<(ρ.set i Z).length:=by simpa using s
 obtain⟨y,o,w⟩:=l.ins e m g (by rw[n.len];exact g) (by rw[aK s];rfl) (A.same r);rw[List.set_set] at o;subst E;have C:jd p (k++B):=f.join D;have u:jd p y:=C.perm w.symm o.mq;refine{p,r,by simpa using h.len,{y,?_,u,o},λj d q t=>?_}
 .rw[ic u.nd w,gZ]
 .have c:j≠i:=λz=>t (z▸m);rw[aw (Ne.symm c)] at q;obtain⟨v,a,b⟩:=n.kn j d (by rw[aw (Ne.symm c)];exact q) t;exact{v,by rw[aw (Ne.symm c)];exact a,b}
end
def kL:fJ->fJ->Bool
 |.int a,.int b=>decide (a=b)
 |.str a,.str b=>decide (a=b)
 |_,_=>false
def jm(a b:Key):kL (jD a) (jD b)=decide (a=b):=by cases a<;>cases b<;>simp[jD,kL]
def qC:fJ->Option Key
 |.int i=>Y (.inl i)
 |.str x=>Y (.inr x)
 |_=>Z
def iG{k:Key}(h:qC d=Y k):d=jD k:=by cases d<;>simp[qC] at h<;>subst h<;>rfl
def jv{K:Fg}{k:Key}(h:c5 K H (jD k) v):v=kV k:=by
 cases k with
 |inl i=>exact c5.ee.mp h
 |inr x=>exact c5.e9.mp h
def j8(k:fJ):List (fJ×fJ)->Od
 |[]=>Z
 | (y,d)::r=>if kL y k=true then Y d else j8 k r
def Cm(k v:fJ)(a:List (fJ×fJ)):List (fJ×fJ) :=
 if (a.any λx=>kL x.1 k)=true then a.map (λx=>if kL x.1 k=true then (x.1,v) else x) else a++[(k,v)]
def gw:List (fJ×fJ)->Bool
 | (.none,_)::_=>true
 | (.bool _,_)::_=>true
 |_=>false
section
variable {K:Fg}
def qA.r{b:List (Key×V)}{k:Key}(e:Rd H a (.dK b)):qA H a (kV k) (nW b k):=.inl {(b),k,e,rfl,rfl}
def c5.pG(h:c5 K H (.dict iV) v)(b:gw iV=false):∃p a,v=.ref p/\Rd H p (.dK a)/\gi K H iV a:=by
 obtain⟨p,i,⟨a,e,g⟩ | ⟨c,C,l,j,e,g,f⟩ | ⟨c,C,e,⟨rfl,_⟩ | ⟨n,d,rfl,_⟩⟩⟩:=c5.jN.mp h
 .exact{(p),a,i,e,g}
 .cases iV with
  |nil=>exact(nY.eB.mp f).elim
  |cons x r=>obtain⟨k,d⟩:=x;obtain⟨rfl,_,_⟩:=nY.dt.mp f;cases b
 .cases b
 .cases b
def c5.KJ{r:List (fJ×fJ)}(h:c5 K H (.dict ((.none,.str c)::r)) v):∃p C g b,v=.ref p/\iq K c C/\H p=Y (.ins C g b)/\kb K H r b:=by
 obtain⟨p,l,⟨m,f,a⟩ | ⟨o,C,g,b,f,a,k⟩ | ⟨c,C,f,⟨a,_⟩ | ⟨n,d,a,_⟩⟩⟩:=c5.jN.mp h
 .obtain⟨y,_,_,_,e,_⟩:=gi.dt.mp a;cases y<;>cases e
 .obtain⟨_,j,i⟩:=nY.dt.mp k;cases j;exact{(p),C,g,b,l,f,a,i}
 .cases a
 .cases a
theorem gi.val{y:Key}:∀{f:List (fJ×fJ)}{g:List (Key×V)},gi K H f g ->
  (j8 (jD y) f=Z/\nW g y=Z)\/∃d v,j8 (jD y) f=Y d/\nW g y=Y v/\c5 K H d v
 |[],_,h=>by rw[gi.eB.mp h];exact .inl {(rfl),rfl}
 | (k,d)::r,_,h=>by
  sleep 1;obtain⟨z,v,m,rfl,rfl,i,t⟩:=gi.dt.mp h;sleep 2;by_cases e:z=y
  .right;exact{d,v,by simp[j8,jm,e],rR e,i}
  .rcases gi.val (y:=y) t with ⟨a,b⟩ | ⟨l,j,a,b,c⟩
   .exact .inl {by simp[j8,jm,e,a],by rw[pF (p:=(z,v)) e];exact b}
   .exact .inr {l,j,by simp[j8,jm,e,a],by rw[pF (p:=(z,v)) e];exact b,c}
theorem gi.any{y:Key}:∀{a:List (fJ×fJ)}{b:List (Key×V)},gi K H a b->(b.any λx=>decide (x.1=y))=a.any λx=>kL x.1 (jD y)
 |[],_,h=>by rw[gi.eB.mp h];rfl
 | (k,d)::r,_,h=>by sleep 1;obtain⟨z,v,c,rfl,rfl,i,t⟩:=gi.dt.mp h;sleep 2;rw[bQ,bQ,gi.any t,jm]
theorem gi.En{y:Key}{d:fJ}{v:V}(i:c5 K H d v):∀{a:List (fJ×fJ)}{b:List (Key×V)},gi K H a b ->
  gi K H (a.map λx=>if kL x.1 (jD y)=true then (x.1,d) else x) (b.map λx=>if x.1=y then (x.1,v) else x)
 |[],_,h=>by rw[gi.eB.mp h];exact gi.eB.mpr rfl
 | (k',j)::r,_,h=>by
  sleep 1;obtain⟨z,f,g,rfl,rfl,c,t⟩:=gi.dt.mp h;sleep 2;rw[af,af,jm];by_cases e:z=y
  .rw[ah e,ah (aU e)];exact gi.dt.mpr {_,_,_,rfl,rfl,i,gi.En i t}
  .rw[aq e,aq (by simp[e])];exact gi.dt.mpr {_,_,_,rfl,rfl,c,gi.En i t}
theorem gi.snoc{y:Key}{d:fJ}{v:V}(i:c5 K H d v):∀{a:List (fJ×fJ)}{b:List (Key×V)},gi K H a b->gi K H (a++[(jD y,d)]) (b++[(y,v)])
 |[],_,h=>by rw[gi.eB.mp h];exact gi.dt.mpr {_,_,_,rfl,rfl,i,gi.eB.mpr rfl}
 | (k',g)::r,_,h=>by sleep 1;obtain⟨z,e,f,rfl,rfl,c,t⟩:=gi.dt.mp h;sleep 2;exact gi.dt.mpr {_,_,_,rfl,rfl,c,gi.snoc i t}
def gi.put{y:Key}(h:gi K H iV kv)(i:c5 K H d v):gi K H (Cm (jD y) d iV) (m8 kv y v):=by
 unfold Cm m8;rw[h.any];by_cases e:(iV.any λx=>kL x.1 (jD y))=true
 .rw[ah e,ah e];exact h.En i
 .rw[aq e,aq e];exact h.snoc i
theorem gi.length:∀{a:List (fJ×fJ)}{b:List (Key×V)},gi K H a b->a.length=b.length
 |[],_,h=>by rw[gi.eB.mp h];rfl
 | (k,d)::r,_,h=>by sleep 1;obtain⟨z,v,c,rfl,rfl,i,t⟩:=gi.dt.mp h;sleep 2;simp[gi.length t]
end
section
variable {a o i:Expr}
def PE.or{t u:TE}(h:PE X e t)(b:PE X e u):PE X e (λσ H Q=>t σ H Q\/u σ H Q):=λa s σ H Q I q=>q.elim (@h a s σ H Q I) (@b a s σ H Q I)
def GG(x k:fJ):Od:=match x with
 |.dict iV=>if gw iV=true then Z else (qC k).bind λ_=>j8 k iV
 |_=>Z
def PY(L:X.A.units+64<cLine)(C:PD X a fa)(B:PD X b fb)(f:Ep b):PD X (.Subscript a b pos) (d2 GG fa fb) :=
 PE.imp (Gs (by omega) C B f) λJ H Q h=>by
  sleep 1;obtain⟨l,d,f,e,k⟩:=h;sleep 2;obtain⟨x,I,e⟩:=bind_some e;obtain⟨y,G,e⟩:=bind_some e;refine{l,x,f,I,λv O n z=>{l,y,f.same n,G,λu N m w=>?_}};obtain⟨c,rfl⟩:∃c,x=.dict c:=by cases x<;>first|exact{_,rfl}|(simp[GG] at e)
  unfold GG at e;by_cases j:gw c=true
  .dsimp only at e;rw[ah j] at e;cases e
  .dsimp only at e;rw[aq j] at e;obtain⟨t,F,g⟩:=bind_some e;sleep 1;obtain⟨p,K,rfl,E,D⟩:=(z.same m).pG (by simpa using j);sleep 2;have:=iG F;subst this;rw[jv w];rcases D.val (y:=t) with ⟨i,_⟩ | ⟨M,o,i,s,q⟩
   .rw[i] at g;cases g
   .rw[i] at g;cases g;exact{p,o,rfl,by rw[<-s];exact qA.r E,k.later (n.trans m) |>.here q}
def gH(x k:fJ):Od:=match x with
 |.dict iV=>GG (.dict iV) k
 |x=>Zk x k
def U1(p:X.A.units+64<cLine)(j:PD X a fa)(i:PD X b fb)(f:rP b)(g:Ep b):PD X (.Subscript a b pos) (d2 gH fa fb) :=
 PE.imp (PE.or (Xn ixD j i f) (PY p j i g)) λr H Q h=>by
  sleep 1;obtain⟨c,d,f,e,k⟩:=h;sleep 2;obtain⟨x,n,q⟩:=bind_some e;obtain⟨y,m,l⟩:=bind_some q;cases x with
  |dict o=>exact .inr {c,d,f,by show (fa c).bind _=_;rw[n];show (fb c).bind _=_;rw[m];exact l,k}
  |_=>exact .inl {c,d,f,by show (fa c).bind _=_;rw[n];show (fb c).bind _=_;rw[m];exact l,k}
def mE(x k:fJ):Od:=match x with
 |.dict iV=>if gw iV=true then Z else (qC k).bind λ_=>Y ((j8 k iV).getD .none)
 |_=>Z
def KL(N:X.A.units+64<cLine)(F:PD X o fa)(E:PD X e fb)(m:M1 X o "get" apos e fQ):PD X (.Call (.Attribute o "get" apos) [e] [] fQ) (d2 mE fa fb) :=
 PE.imp (Kj (by omega) F E m) λL H Q h=>by
  sleep 1;obtain⟨l,d,s,e,k⟩:=h;sleep 2;obtain⟨x,K,e⟩:=bind_some e;obtain⟨y,J,e⟩:=bind_some e;refine{l,x,s,K,λv R n D=>?_};obtain⟨a,rfl⟩:∃a,x=.dict a:=by cases x<;>first|exact{_,rfl}|(simp[mE] at e)
  unfold mE at e;by_cases i:gw a=true
  .dsimp only at e;rw[ah i] at e;cases e
  .dsimp only at e;rw[aq i] at e;obtain⟨z,I,b⟩:=bind_some e;sleep 1;obtain⟨p,B,rfl,t,G⟩:=D.pG (by simpa using i);sleep 2;refine{p,rfl,.inl {(B),t},l,y,s.same n,J,λu P c C=>?_};have:=iG I;subst this;rw[jv C];refine{_,qA.r (c.rd t),?_};have j:=G.same c;have q:=k.later (n.trans c);rcases j.val (y:=z) with ⟨g,f⟩ | ⟨O,M,g,f,w⟩
   .rw[g] at b;cases b;rw[f];exact q.here (c5.iz.mpr rfl)
   .rw[g] at b;cases b;rw[f];exact q.here w
def KN(j:X.A.units+64<cLine):kI X (compareOp .In) (λx y H Q=>∃p a k,x=kV k/\y=.ref p/\Rd H p (.dK a)/\Q (.bl (nW a k).isSome) H):=by intro b s g H x y v u Q I d c h;sleep 1;obtain⟨p,a,k,rfl,rfl,e,q⟩:=h;sleep 2;cases c;exact c_ (by omega) I (qA.r e) d λi f=>{.bl _,H,f,rfl,q}
def Cn(j:X.A.units+64<cLine):kI X (compareOp .NotIn) (λx y H Q=>∃p a k,x=kV k/\y=.ref p/\Rd H p (.dK a)/\Q (.bl (!(nW a k).isSome)) H):=by intro b s g H x y v u Q I d c h;sleep 1;obtain⟨p,a,k,rfl,rfl,e,q⟩:=h;sleep 2;cases c;exact Ph (by omega) I (qA.r e) d λi f=>{.bl _,H,f,rfl,q}
def rX(I:c6 X pins σ H s){x:fJ}(n:SeqAt.shaped x=true)(C:c5 X.K H x v)(w:fT v u)(U:A.units+x.depth<cLine):
  ∀{a:Lp}{c:List V}{b:Lw},(∀d∈a,SeqAt.shaped d=true)->bz X.K H a c->fK c b->∃e:Value->Bool,(∀y∈b,SeqAt.EqAt A s y u (e y))/\b.any e=a.any λd=>fJ.eqv d x:=by
 obtain⟨Q,t⟩:=I.oo (aX n) C w;let e:Value->Bool:=λy=>@decide (∃d g,Reads s.heap y d g/\SeqAt.shaped d=true/\fJ.eqv d x=true) (Classical.propDecidable _);have G:∀(d:fJ) (g:List Addr) (y:Value),Reads s.heap y d g->SeqAt.shaped d=true->e y=fJ.eqv d x:=λd g y r f=>by
  cases q:fJ.eqv d x with
  |true=>exact @decide_eq_true _ (Classical.propDecidable _) {(d),g,r,f,q}
  |false=>refine @decide_eq_false _ (Classical.propDecidable _) ?_;rintro⟨O,P,l,J,m⟩;have:=SeqAt.Reads.unique d O y _ _ (aX f) r l;subst this;rw[q] at m;cases m
 intro a;have h:∀{a:Lp}{c:List V}{b:Lw},(∀d∈a,SeqAt.shaped d=true)->bz X.K H a c->fK c b->(∀y∈b,SeqAt.EqAt A s y u (e y))/\b.any e=a.any λd=>fJ.eqv d x:=by
  intro a;induction a with
  |nil=>intro c b _ i r;rw[bz.eB.mp i] at r;cases r;exact{(λy j=>by cases j),rfl}
  |cons d a D=>
   intro c b o i r;sleep 1;obtain⟨T,l,rfl,F,E⟩:=bz.dt.mp i;sleep 2;cases r with
   |cons B z=>
    obtain⟨S,R⟩:=D (λd f=>o d (ai _ f)) E z;have f:=o d (by simp);obtain⟨g,k⟩:=I.oo (aX f) F B;have p:=G d g _ k f;refine{λy j=>?_,by rw[bQ,bQ,p,R]};rcases ag.mp j with q|q
    .subst q;rw[p];refine SeqAt.eqAt_reads d x A s _ _ g Q k t (aX f) (aX n) ?_;have:min d.depth x.depth<=x.depth:=fe _ _;omega
    .exact S y q
 intro c b N M L;exact{e,h N M L}
def j9:fJ->fJ->Option Bool
 |x,.list xs=>if SeqAt.shaped x=true/\xs.all SeqAt.shaped=true/\x.depth<=60 then Y (xs.any λy=>fJ.eqv y x) else Z
 |x,.tuple xs=>if SeqAt.shaped x=true/\xs.all SeqAt.shaped=true/\x.depth<=60 then Y (xs.any λy=>fJ.eqv y x) else Z
 |x,.dict iV=>if gw iV=true then Z else (qC x).map λ_=>(j8 x iV).isSome
 |.str x,.str y=>Y (!(Builtin.Str.occurrences y x 0 y.length 1).isEmpty)
 |_,_=>Z
def rK(x y:fJ):Od:=(j9 x y).map .bool
def lh(x y:fJ):Od:=(j9 x y).map λb=>.bool (!b)
def PZ(F:X.A.units+64<cLine):kI X (compareOp .In) (λx y H Q=>∃p d g i,y=.ref p/\(nE X.K H p i\/pB X.K H p i)/\c5 X.K H d x/\bz X.K H g i/\SeqAt.shaped d=true/\g.all SeqAt.shaped=true/\d.depth<=60 /\
  Q (.bl (g.any λy=>fJ.eqv y d)) H):=by
 intro t s E H x y v u Q I o B h;sleep 1;obtain⟨p,d,g,i,rfl,f,w,is,z,l,D,q⟩:=h;sleep 2;cases B;have b:∀d∈g,SeqAt.shaped d=true:=aY.mp l;have c:X.A.in1.units+d.depth<cLine:=by show X.A.units+1+d.depth<cLine;omega
 rcases f with f|f
 .obtain⟨a,r,j,C⟩:=I.list f;obtain⟨e,n,m⟩:=rX I (A:=X.A.in1) z w o c b is r;refine SeqAt.in_listAt e j.isList (λy k=>n y (by simpa using k)) {.bl _,H,I,rfl,?_};rw[show a.toArray.any e=a.any e by simp,m];exact q
 .obtain⟨a,r,j,C⟩:=I.tuple f;obtain⟨e,n,m⟩:=rX I (A:=X.A.in1) z w o c b is r;refine SeqAt.in_tupleAt e j (λy k=>n y (by simpa using k)) {.bl _,H,I,rfl,?_};rw[show a.toArray.any e=a.any e by simp,m];exact q
def Ez(F:X.A.units+64<cLine):kI X (compareOp .NotIn) (λx y H Q=>∃p d g i,y=.ref p/\(nE X.K H p i\/pB X.K H p i)/\c5 X.K H d x/\bz X.K H g i/\SeqAt.shaped d=true/\g.all SeqAt.shaped=true/\d.depth<=60 /\
  Q (.bl (!(g.any λy=>fJ.eqv y d))) H):=by
 intro t s E H x y v u Q I o B h;sleep 1;obtain⟨p,d,g,i,rfl,f,w,is,z,l,D,q⟩:=h;sleep 2;cases B;have b:∀d∈g,SeqAt.shaped d=true:=aY.mp l;have c:X.A.in1.units+d.depth<cLine:=by show X.A.units+1+d.depth<cLine;omega
 rcases f with f|f
 .obtain⟨a,r,j,C⟩:=I.list f;obtain⟨e,n,m⟩:=rX I (A:=X.A.in1) z w o c b is r;refine SeqAt.notIn_listAt e j.isList (λy k=>n y (by simpa using k)) {.bl _,H,I,rfl,?_};rw[show a.toArray.any e=a.any e by simp,m];exact q
 .obtain⟨a,r,j,C⟩:=I.tuple f;obtain⟨e,n,m⟩:=rX I (A:=X.A.in1) z w o c b is r;refine SeqAt.notIn_tupleAt e j (λy k=>n y (by simpa using k)) {.bl _,H,I,rfl,?_};rw[show a.toArray.any e=a.any e by simp,m];exact q
def XN(s:X.A.units+64<cLine):rf X (compareOp .In) rK:=by
 refine kI.imp ((PZ s).or ((KN s).or Ia)) ?_;rintro x y H Q ⟨a,b,c,l,j,e,k⟩;obtain⟨t,d,i⟩:=ak.mp e;subst i;cases b with
 |list g=>
  dsimp only[j9] at d;by_cases f:SeqAt.shaped a=true/\g.all SeqAt.shaped=true/\a.depth<=60
  .rw[ah f] at d;cases d;sleep 1;obtain⟨p,m,rfl,i,h⟩:=c5.fj.mp j;sleep 2;exact .inl {p,a,g,m,rfl,.inl i,l,h,f.1,f.2.1,f.2.2,k.here (c5.ej.mpr rfl)}
  .rw[aq f] at d;cases d
 |tuple g=>
  dsimp only[j9] at d;by_cases f:SeqAt.shaped a=true/\g.all SeqAt.shaped=true/\a.depth<=60
  .rw[ah f] at d;cases d;sleep 1;obtain⟨p,m,rfl,i,h⟩:=j.ig;sleep 2;exact .inl {p,a,g,m,rfl,.inr i,l,h,f.1,f.2.1,f.2.2,k.here (c5.ej.mpr rfl)}
  .rw[aq f] at d;cases d
 |dict q=>
  dsimp only[j9] at d;by_cases f:gw q=true
  .rw[ah f] at d;cases d
  .rw[aq f] at d;obtain⟨r,h,C⟩:=ak.mp d;subst C;sleep 1;obtain⟨p,v,rfl,B,w⟩:=j.pG (by simpa using f);sleep 2;have:=iG h;subst this;refine .inr (.inl {p,v,r,jv l,rfl,B,?_});rcases w.val (y:=r) with ⟨o,n⟩ | ⟨E,D,o,n,_⟩
   .rw[n];rw[o] at k;exact k.here (c5.ej.mpr rfl)
   .rw[n];rw[o] at k;exact k.here (c5.ej.mpr rfl)
 |str z=>
  cases a<;>try (simp[j9] at d;done)
  rename_i u;simp only[j9] at d;cases d;exact .inr (.inr {u,z,c5.e9.mp l,c5.e9.mp j,k.here (c5.ej.mpr rfl)})
 |none=>simp[j9] at d
 |bool _=>simp[j9] at d
 |int _=>simp[j9] at d
def KP(s:X.A.units+64<cLine):rf X (compareOp .NotIn) lh:=by
 refine kI.imp ((Ez s).or ((Cn s).or Ab)) ?_;rintro x y H Q ⟨a,b,c,l,j,e,k⟩;obtain⟨t,d,i⟩:=ak.mp e;subst i;cases b with
 |list g=>
  dsimp only[j9] at d;by_cases f:SeqAt.shaped a=true/\g.all SeqAt.shaped=true/\a.depth<=60
  .rw[ah f] at d;cases d;sleep 1;obtain⟨p,m,rfl,i,h⟩:=c5.fj.mp j;sleep 2;exact .inl {p,a,g,m,rfl,.inl i,l,h,f.1,f.2.1,f.2.2,k.here (c5.ej.mpr rfl)}
  .rw[aq f] at d;cases d
 |tuple g=>
  dsimp only[j9] at d;by_cases f:SeqAt.shaped a=true/\g.all SeqAt.shaped=true/\a.depth<=60
  .rw[ah f] at d;cases d;sleep 1;obtain⟨p,m,rfl,i,h⟩:=j.ig;sleep 2;exact .inl {p,a,g,m,rfl,.inr i,l,h,f.1,f.2.1,f.2.2,k.here (c5.ej.mpr rfl)}
  .rw[aq f] at d;cases d
 |dict q=>
  dsimp only[j9] at d;by_cases f:gw q=true
  .rw[ah f] at d;cases d
  .rw[aq f] at d;obtain⟨r,h,C⟩:=ak.mp d;subst C;sleep 1;obtain⟨p,v,rfl,B,w⟩:=j.pG (by simpa using f);sleep 2;have:=iG h;subst this;refine .inr (.inl {p,v,r,jv l,rfl,B,?_});rcases w.val (y:=r) with ⟨o,n⟩ | ⟨E,D,o,n,_⟩
   .rw[n];rw[o] at k;exact k.here (c5.ej.mpr rfl)
   .rw[n];rw[o] at k;exact k.here (c5.ej.mpr rfl)
 |str z=>
  cases a<;>try (simp[j9] at d;done)
  rename_i u;simp only[j9] at d;cases d;exact .inr (.inr {u,z,c5.e9.mp l,c5.e9.mp j,k.here (c5.ej.mpr rfl)})
 |none=>simp[j9] at d
 |bool _=>simp[j9] at d
 |int _=>simp[j9] at d
def jQ:Lp->Od
 |[.dict iV]=>if gw iV=true then Z else Y (.int iV.length)
 |ds=>PC ds
def P0:vZ X (.builtin "len") jQ:=by
 refine jb.imp (jb.or UX Ip) ?_;rintro l H Q ⟨j,c,i,e,k⟩;unfold jQ at e;split at e
 .rename_i a;by_cases b:gw a=true
  .rw[ah b] at e;cases e
  .rw[aq b] at e;cases e;obtain⟨v,rfl,f⟩:=ij i;sleep 1;obtain⟨p,d,rfl,h,g⟩:=f.pG (by simpa using b);sleep 2;refine .inr {p,d,rfl,h,?_};rw[<-g.length];exact k.here (c5.ee.mpr rfl)
 .exact .inl {(j),c,i,e,k}
def jw(K:Fg)(c f:Str):Prop:=∃C,iq K c C/\Ig K C/\q7 K C f
def iK(a:Lr)(f:Str)(d:fJ):Od:=match d with
 |.dict ((.none,.str c)::r)=>if c∈a then nJ f r else Z
 |_=>Z
def lj(b:Lr)(n:Str)(f:a0->Od):a0->Od:=λa=>(f a).bind (iK b n)
def U2{g:Lr}{n:Str}(t:∀c∈g,jw X.K c n)(q:PD X e f)(s:zr0 (attributeBase e n X.env (eval e X.env)=eval e X.env)):PD X (.Attribute e n pos) (lj g n f) :=
 PE.imp (JZ q s) <| by
  rintro I H Q ⟨h,d,o,e,k⟩;obtain⟨x,F,a⟩:=bind_some e;refine{h,x,o,F,λv J i m=>?_};unfold iK at a;split at a
  .rename_i c r;by_cases b:c∈g
   .rw[ah b] at a;sleep 1;obtain⟨p,C,G,E,rfl,z,y,w⟩:=m.KJ;sleep 2;obtain⟨L,D,B,A⟩:=t c b;have:=z.uniq D;subst this;obtain⟨u,l,j⟩:=w.get a;exact{p,C,G,E,u,rfl,y,B,A,l,(k.later i).here j}
   .rw[aq b] at a;cases a
  .cases a
end
end L2
local macro_rules
|`(zN $a)=>zzz "L2.iH L2.jQ (L2.c4 0 L2.fW)" #[a]
|`(zX $a $b)=>zzz "L2.d2 L2.gH 0 1" #[a,b]
namespace L2
open PySem PySem.Spec PyProof.Rows
inductive Pl where
 |sl (i:Nat)
 |fl (i:Nat) (c f:Str)
def Pl.ix:Pl->Nat
 |.sl i=>i
 |.fl i _ _=>i
def KQ(c f:Str)(d:fJ):Od:=match d with
 |.dict ((.none,.str a)::r)=>if a=c/\kK c f=true then nJ f r else Z
 |_=>Z
def KS(f:Str)(y d:fJ):fJ:=match d with
 |.dict ((.none,.str c)::r)=>.dict ((.none,.str c)::ou f y r)
 |d=>d
def ph:Pl->a0->Od
 |.sl i,ρ=>(ρ[i]?).join
 |.fl i c f,ρ=>(ρ[i]?).join.bind (KQ c f)
def rY:Pl->fJ->a0->a0
 |.sl i,d,ρ=>ρ.set i (Y d)
 |.fl i _ f,d,ρ=>ρ.set i ((ρ[i]?).join.map (KS f d))
def vh(K:Fg)(a:St)(H:Hp):Pl->Addr->Prop
 |.sl i,q=>a[i]?=Y (Y (.ref q))
 |.fl i c f,q=>∃C p d b,a[i]?=Y (Y (.ref p))/\iq K c C/\H p=Y (.ins C d b)/\b.lookup f=Y (.ref q)
def tE:fJ->Bool
 |.list _=>true
 |.dict iV=>!gw iV
 |_=>false
section
variable {K:Fg}
def iR.cont(h:iR false K G d v B)(e:tE d=true):∃q o,v=.ref q/\B=[(q,o)]/\pf K G d q o:=by
 rcases h with ⟨q,o,i,a,b,c⟩ | ⟨c,C,p,g,f,r,j,rfl,_⟩
 .exact{q,o,a,by rw[b,c.2],c.1}
 .cases e
def iR.U3{q:Addr}(h:pf K G d q o):iR false K G d (.ref q) [(q,o)]:=.inl {q,o,[],rfl,rfl,h,rfl}
def EA:fJ->Bool
 |.list []=>true
 |.dict []=>true
 |_=>false
def pf.gen{q:Addr}(h:pf K G d q o)(b:dp=false\/EA d=true):nK dp K G d q o []:=by
 cases dp with
 |false=>exact{(h),rfl}
 |true=>
  have b:=b.resolve_left (by simp);rcases h with ⟨i,f,rfl,rfl,c⟩ | ⟨e,g,rfl,rfl,c⟩
  .cases i with
   |nil=>exact .inl {[],f,rfl,rfl,bz.eB.mp c,rfl}
   |cons a l=>cases b
  .cases e with
   |nil=>exact .inr {[],g,rfl,rfl,gi.eB.mp c,rfl}
   |cons a l=>cases b
def nK.U4{q:Addr}{g:List (Addr×HO)}{r:List (fJ×fJ)}(h:nK dp K G (.dict ((.none,.str c)::r)) q o g):False:=by
 cases dp with
 |false=>
  rcases h with ⟨⟨_,_,e,_⟩ | ⟨b,d,e,_,i⟩,_⟩
  .cases e
  .cases e;sleep 1;obtain⟨y,_,_,_,e,_⟩:=gi.dt.mp i;sleep 2;cases y<;>cases e
 |true=>
  rcases h with ⟨_,_,e,_⟩ | ⟨b,d,e,_,i⟩
  .cases e
  .cases e;sleep 1;obtain⟨y,v,j,l,k,a,f,_⟩:=i;sleep 2;cases y<;>cases f
def iR.inst{r:List (fJ×fJ)}(h:iR dp K G (.dict ((.none,.str c)::r)) v B):∃C p b a d,v=.ref p/\B=(p,.ins C b a)::(b,.own p)::d/\iq K c C/\ja K G c r a d:=by
 rcases h with ⟨q,o,k,rfl,rfl,h⟩ | ⟨j,C,p,b,a,i,d,e,rfl,rfl,g,f⟩
 .exact h.U4.elim
 .cases e;exact{(C),p,b,a,d,rfl,rfl,g,f}
def EB{f:Str}{x:fJ}(h:KQ c f x=Y d):∃r,x=.dict ((.none,.str c)::r)/\kK c f=true/\nJ f r=Y d:=by
 unfold KQ at h;split at h
 .rename_i e r;by_cases a:e=c/\kK c f=true
  .rw[ah a] at h;obtain⟨rfl,b⟩:=a;exact{(r),rfl,b,h}
  .rw[aq a] at h;cases h
 .cases h
def rZ(O:List Nat):Pl->Bool
 |.sl _=>ju O
 |.fl _ c f=>ow c f
def gE.EC(t:O.Nodup)(h:gE O K σ ρ H G){m:Pl}(T:m.ix∈O)(U:ph m ρ=Y d)(hc:tE d=true):
  ∃q o s l k,vh K σ H m q/\H=c7 G (l++((q,o)::(s++k)))/\jd G (l++((q,o)::(s++k)))/\pq l/\pq k/\nK (rZ O m) K G d q o s /\
   ∀e j b a,dn G e->nK (rZ O m) K e j q b a->jd e (l++((q,b)::(a++k)))->gE O K σ (rY m j ρ) (c7 e (l++((q,b)::(a++k)))) e:=by
 cases m with
 |sl i=>
  sleep 1;obtain⟨v,l,B1,k,N,w,f,A,I,F,Q,_⟩:=h.own t T (join_some U);sleep 2;rcases A with ⟨q,o,s,rfl,rfl,X⟩ | ⟨c,C,p,g,n,r,B',rfl,_⟩
  .exact{q,o,s,l,k,N,w,f,I,F,X,λe j b a y B u=>Q e j ((q,b)::a) y (.inl {(q),b,a,rfl,rfl,B}) u}
  .cases hc
 |fl i c f=>
  obtain⟨x,V,e0⟩:=bind_some U;obtain⟨r,rfl,J,hg⟩:=EB e0;sleep 1;obtain⟨v,l,B1,k,N,w,u,A,I,F,Q,_⟩:=h.own t T (join_some V);sleep 2;sleep 1;obtain⟨C,p,g,n,B',rfl,rfl,W,a5⟩:=A.inst;sleep 2;sleep 1;obtain⟨q,o,s,S,R,l1,rfl,m1,m2,oc,P⟩:=a5.split J hg;sleep 2;have M:∀(b:HO) (a:List (Addr×HO)),l++(((p,HO.ins C g n)::(g,HO.own p)::(S++((q,b)::(a++R))))++k)=(l++(p,HO.ins C g n)::(g,HO.own p)::S)++((q,b)::(a++(R++k))):=λb a=>by simp
  rw[M] at w u;refine{q,o,s,_,_,{C,p,g,n,N,W,?_,l1},w,u,I.append (.ins m1),m2.append F,oc,λe j b a y E L=>?_}
  .rw[w];exact fX u.nd (p,.ins C g n) (by simp)
  .have D:=P e j b a y E;have z:iR (ju O) K e (.dict ((.none,.str c)::ou f j r)) (.ref p) ((p,HO.ins C g n)::(g,HO.own p)::(S++((q,b)::(a++R)))):=.inr {(c),C,p,g,n,_,_,rfl,rfl,rfl,W,D};have:=Q e _ _ y z (by rw[M];exact L);rw[M] at this;have es:rY (.fl i c f) j ρ=ρ.set i (Y (.dict ((.none,.str c)::ou f j r))):=by
    show ρ.set i ((ρ[i]?).join.map (KS f j))=_;rw[V];rfl
   rw[es];exact this
def gE.place(g:O.Nodup)(h:gE O K σ ρ H G){a:Pl}(s:a.ix∈O)(t:ph a ρ=Y d)(u:tE d=true)(i:rZ O a=false):
  ∃q o,vh K σ H a q/\H q=Y o/\pf K G d q o/\∀f c,pf K G f q c->gE O K σ (rY a f ρ) (upd H q c) G:=by
 sleep 1;obtain⟨q,o,x,w,v,r,j,e,p,n,k,l⟩:=h.EC g s t u;sleep 2;rw[i] at k l;obtain⟨m,rfl⟩:=k;refine{q,o,r,by rw[j];exact fX e.nd (q,o) (by simp),m,λf c b=>?_};rw[bE] at j e;rw[j,nZ e.nd];exact l G f c [] (.refl G) {(b),rfl} (e.put (p.append (.one b.z_ n)))
end
inductive Md where
 |dat|own|io (dp:Bool) (v0:V)|exc (W:Int->Hp->Prop)|Jx (W:Int->Hp->Prop)
def KO(K:Fg)(H:Hp)(d:fJ)(Q:VK):Prop:=∀v a b,dn H a->jd a b->iR false K a d v b->Q v (c7 a b)
def KO.later{K:Fg}{Q:VK}(k:KO K H d Q)(e:dn H H'):KO K H' d Q:=λv a b s f o=>k v a b (e.trans s) f o
structure iS (m:Md) (O:List Nat) (K:Fg) (σ:St) (ρ:a0) (H G:Hp):Prop where
 o:gE O K σ ρ H G
 z:∀dp v0,m=.io dp v0->0∈O/\σ[0]?=Y (Y v0)/\ju O=dp
def SE(m:Md)(K:Fg)(G:Hp)(d:fJ)(Q:VK):Prop:=match m with
 |.dat=>KD K G d Q
 |.own=>KO K G d Q
 |.io dp v0=>∃x g,d=.tuple [x,g]/\∀v a f,dn G a->jd a f->iR dp K a g v0 f->c5 K a x v->Q v (c7 a f)
 |.exc W=>(∃n,d=.int n/\∀a,dn G a->W n a)\/((∀n,d≠.int n)/\KD K G d Q)
 |.Jx W=>(∃n,d=.int n/\∀a,dn G a->W n a)\/((∀n,d≠.int n)/\∀v e c,dn G e->dn c e->(∀b o,G b=Y o->c b=Z)->c5 K c d v->Q v e)
theorem SE.later{m:Md}{K:Fg}{G g:Hp}{d:fJ}{Q:VK}(e:dn G g)(h:SE m K G d Q):SE m K g d Q:=by
 cases m with
 |dat=>exact KD.later h e
 |own=>exact KO.later h e
 |io u t=>obtain⟨x,p,a,b⟩:=h;exact{x,p,a,λv c B s f o i=>b v c B (e.trans s) f o i}
 |exc W=>
  rcases h with ⟨n,a,b⟩ | ⟨a,b⟩
  .exact .inl {n,a,λc s=>b c (e.trans s)}
  .exact .inr {a,KD.later b e}
 |Jx W=>
  rcases h with ⟨n,a,b⟩ | ⟨a,b⟩
  .exact .inl {n,a,λc s=>b c (e.trans s)}
  .exact .inr {a,λv r q l k j i=>b v r q (e.trans l) k (λb o z=>j b o (e b o z)) i}
def we(m:Md)(O:List Nat)(K:Fg)(G:Hp)(D:o8):Out->Prop
 |.nx ρ=>∀a b c,dn G c->iS m O K a ρ b c->D.nx a b
 |.bk ρ=>∀a b c,dn G c->iS m O K a ρ b c->D.bk a b
 |.ct ρ=>∀a b c,dn G c->iS m O K a ρ b c->D.ct a b
 |.rt d=>SE m K G d D.rt
theorem we.later{m:Md}{O:List Nat}{K:Fg}{G f:Hp}{D:o8}(e:dn G f):∀{o:Out},we m O K G D o->we m O K f D o
 |.nx _,h=>λa c d b q=>h a c d (e.trans b) q
 |.bk _,h=>λa c d b q=>h a c d (e.trans b) q
 |.ct _,h=>λa c d b q=>h a c d (e.trans b) q
 |.rt _,h=>SE.later e h
def tO(m:Md)(O:List Nat)(K:Fg)(g:a0->Option Out):TS:=λD b H=>∃a o G,iS m O K b a H G/\g a=Y o/\we m O K G D o
def me(X:Cx)(m:Md)(O:List Nat)(a:Stmt)(g:a0->Option Out):Prop:=PS X a (tO m O X.K g)
def k9(X:Cx)(m:Md)(O:List Nat)(a:List Stmt)(g:a0->Option Out):Prop:=xZ X a (tO m O X.K g)
def lK:fJ->Bool
 |.list _=>false
 |.tuple _=>false
 |.dict _=>false
 |_=>true
def c5.jy{K:Fg}(h:lK d=true)(i:c5 K H d v):c5 K H' d v:=by cases d<;>first|(cases h;done)|(unfold c5 at i ⊢;exact i)
theorem bz.jy{K:Fg}{H f:Hp}:∀{c:Lp}{e:List V},c.all lK=true->bz K H c e->bz K f c e
 |[],_,_,i=>by rw[bz.eB.mp i];exact bz.nil
 |d::c,_,h,i=>by sleep 1;obtain⟨v,r,rfl,a,b⟩:=bz.dt.mp i;sleep 2;simp only[List.all_cons,bH] at h;exact bz.cons (c5.jy h.1 a) (bz.jy h.2 b)
section
variable {m:Md}{a c:Expr}{rest:List Stmt}{h:a0->Option Out}
def PV(X:Cx)(O:List Nat)(e:Expr)(h:a0->Od):Prop:=PE X e (λσ H Q=>∃a d G,gE O X.K σ a H G/\h a=Y d/\∀v b c,dn H b->dn G c->gE O X.K σ a b c->c5 X.K c d v->Q v b)
def fY(O:List Nat)(f:a0->Od):a0->Od:=λρ=>f (il O ρ)
def P4(f:a0->Od):a0->Od:=λa=>(f a).bind λd=>if lK d=true then Y d else Z
def rh(b:(B.map (·.1)).Nodup)(e:dn G G'):dn (c7 G B) (c7 G' B):=λa o h=>by
 rcases pI (a:=a) B with ⟨x,c,rfl⟩|h'
 .rw[fX b x c] at h ⊢;exact h
 .rw[gv h'] at h ⊢;exact e a o h
def GH(m:PD X e f):PV X O e (fY O f) :=
 PE.imp (PE.frame m) <| by rintro p H Q ⟨l,d,G,a,n,k⟩;obtain⟨B,j,h,c⟩:=a.ex;refine{G,B,j,h,il O l,d,a.rest,n,λv o b i g=>?_};subst j;exact k v _ o (rh h.nd b) b (gE.tB a.len c a.kn b g) i
def Co(h:P4 f ρ=Y d):f ρ=Y d/\lK d=true:=by
 obtain⟨x,c,a⟩:=bind_some h;by_cases b:lK x=true
 .rw[ah b] at a;cases a;exact{(c),b}
 .rw[aq b] at a;cases a
def XO(j:PD X e f):PV X O e (P4 f) :=
 PE.imp j <| by rintro q H Q ⟨g,d,G,c,n,k⟩;obtain⟨m,l⟩:=Co n;refine{g,d,c.full,m,λv o b i=>?_};obtain⟨p,h,_,a⟩:=c.grow b;exact k v o p b h a (i.jy l)
def PF(X:Cx)(e:Expr)(f:a0->Od):Prop:=PE X e (λσ H Q=>∃a d,jt X.K H σ a/\f a=Y d/\KO X.K H d Q)
def XP(X:Cx)(O:List Nat)(e:Expr)(h:a0->Od):Prop:=PE X e (λσ H Q=>∃b d G,gE O X.K σ b H G/\h b=Y d/\∀v a c f,dn H a->dn G c->gE O X.K σ b a c->jd a f->iR false X.K c d v f->Q v (c7 a f))
def U5(q:PF X e f):XP X O e (fY O f) :=
 PE.imp (PE.frame q) <| by
  rintro u H Q ⟨p,d,G,c,t,k⟩;obtain⟨B,o,g,i⟩:=c.ex;refine{G,B,o,g,il O p,d,c.rest,t,λv a b h r j l=>?_};have n:jd a (B++b):=r.join l;have m:jd a (b++B):=n.perm a6 (j.mq.append g.ok);have s:c7 (c7 a b) B=c7 (c7 a B) b:=by rw[<-gZ,<-gZ];exact ic n.nd a6
  rw[s];subst o;exact k v _ a b (rh g.nd h) h (gE.tB c.len i c.kn h (m.Cj g.ok)) (m.Ci j.mq) j
def yc:fJ->Bool
 |.list ds=>ds.all lK
 |_=>false
def P5(f:a0->Od):a0->Od:=λa=>(f a).bind λd=>if yc d=true then Y d else Z
def U6(s:PF X e f):XP X O e (P5 f) :=
 PE.imp s <| by
  rintro C H Q ⟨m,d,G,l,w,k⟩;obtain⟨x,u,b⟩:=bind_some w;by_cases a:yc x=true
  .rw[ah a] at b;cases b;refine{m,d,l.full,u,λv A B j t p=>?_};obtain⟨z,c,_,g⟩:=l.grow j;refine k v A z B j c g t ?_;cases d<;>try (simp[yc] at a;done)
   rename_i D;sleep 1;obtain⟨q,o,rfl,rfl,r⟩:=p.cont rfl;sleep 2;rcases r with ⟨y,n,h,rfl,i⟩ | ⟨_,_,h,_⟩
   .cases h;exact iR.U3 (.inl {_,n,rfl,rfl,i.jy a})
   .cases h
  .rw[aq a] at b;cases b
def U7(n:ux X es ff):PF X (.List es pos) (gk ff) :=
 PE.imp (J4 n) <| by
  rintro r H Q ⟨i,d,l,e,k⟩;obtain⟨h,o,a⟩:=bind_some e;refine{i,h,l,o,λc q j f=>?_};by_cases b:h.length<=sizeLine
  .first
   | (rw[ah b] at a;cases a)
   | (cases a)
   refine{by rw[<-f.length];exact b,λp m=>?_};exact k (.ref p) q [(p,.lst c)] j {by simp,(λx g=>by simp at g;subst g;exact m),.one aZ .nil} (iR.U3 (.inl {_,c,rfl,rfl,f}))
  .rw[aq b] at a;cases a
def U8:PF X (.Dict [] [] pos) (dC (.dict [])) :=
 PE.imp Kg <| by rintro c H Q ⟨f,d,g,e,k⟩;cases e;intro p b;exact k (.ref p) H [(p,.dK [])] (.refl H) {by simp,(λx a=>by simp at a;subst a;exact b),.one aZ .nil} (iR.U3 (.inr {[],[],rfl,rfl,gi.eB.mpr rfl}))
def wg:k9 X m O [] f7:=xZ.imp OW <| by rintro D a H ⟨c,o,G,b,e,k⟩;cases e;exact k a H G (.refl G) b
def tF(q:me X m O st g)(p:k9 X m O rest h):k9 X m O (st::rest) (bo g h) :=
 xZ.imp (JL q p) <| by
  rintro D t H ⟨j,o,G,n,e,k⟩;obtain⟨f,r,b⟩:=bind_some e;refine{j,f,G,n,r,?_};cases f with
  |nx a=>exact λi u s l c=>{a,o,s,c,b,k.later l}
  |rt d=>cases b;exact k
  |bk a=>cases b;exact k
  |ct a=>cases b;exact k
def kM(a:me X m O st g):k9 X m O [st] g:=xZ.imp (OX a) λD b H h=>h
def GI(h:PD X e f):me X .dat O (.Return (Y e) pos) (f9 f) :=
 PS.imp (qZ h) <| by rintro D j H ⟨b,o,G,a,e,k⟩;obtain⟨d,g,rfl⟩:=ak.mp e;exact{b,d,a.o.full,g,λv l c i=>KD.later k (a.o.sub.trans c) |>.here i}
def KU(h:PF X e f):me X .own O (.Return (Y e) pos) (f9 f) :=
 PS.imp (qZ h) <| by rintro D g H ⟨b,o,G,a,e,k⟩;obtain⟨d,c,rfl⟩:=ak.mp e;exact{b,d,a.o.full,c,KO.later k a.o.sub}
def KW(i:Nat) {z:Pos} (g:O.Nodup) (w:zd0 (i∈O)) (h:zr0 (ju O=false)) (y:zr0 (X.N[i]?=Y x)) (s:zr 6 (BP X.env.scope x)) (u:zd0 (zg x))
  (j:zd0 ((x==("__classdict__":Str))=false)):me X .own O (.Return (Y (.Name x z)) pos) (f9 (gq i)) :=
 PS.imp (qZ (mv y s u j)) <| by
  rintro D E H ⟨F,o,G,t,e,k⟩;obtain⟨d,C,rfl⟩:=ak.mp e;sleep 1;obtain⟨v,m,c,l,B,A,f,b,p,n,_,_⟩:=t.o.own g w (join_some C);sleep 2;rw[h] at b;refine{v,B,?_};have a:(m++(c++l)).Perm (c++(m++l)):=by rw[<-aW,<-aW];exact dE _ a6
  have r:jd G (c++(m++l)):=f.perm a (b.mq.append (p.append n));rw[A,ic f.nd a,gZ];have q:=r.Cj (p.append n);exact(show KO X.K G d D.rt from k) v _ c q.same (r.Ci b.mq) (b.same q.same)
def KY{i f:List Stmt}(q:Al X c gc)(s:k9 X m O i g)(r:k9 X m O f h):me X m O (.If c i f pos) (ir gc g h) :=
 PS.imp (Sm q s r) <| by
  rintro D u H ⟨d,o,G,b,e,k⟩;obtain⟨y,t,l⟩:=bind_some e;refine{d,y,b.o.full,t,λv p=>?_};obtain⟨n,j,_,a⟩:=b.o.grow p;cases y with
  |true=>rw[ah rfl];exact{d,o,n,{a,b.z},l,k.later j}
  |false=>rw[aq aS];exact{d,o,n,{a,b.z},l,k.later j}
theorem iS.set{K:Fg}{σ:St}{ρ:a0}{H G:Hp}{i:Nat}{d:fJ}{v:V}(h:iS m O K σ ρ H G)(b:i∉O)(e:c5 K G d v):iS m O K (σ.set i (Y v)) (ρ.set i (Y d)) H G :=
 {h.o.set b e,λk g z=>by obtain⟨a,f,c⟩:=h.z k g z;have j:i≠0:=λq=>b (q▸a);exact{a,by rw[aw j];exact f,c}}
def dV(f:a0->Od)(i:Nat):a0->Option Out:=λρ=>(f ρ).map λd=>.nx (ρ.set i (Y d))
def vE(i:Nat) {a:Pos} (s:X.N.Nodup) (q:PV X O e f) (r:zd0 (i∉O)) (n:zr0 (X.N[i]?=Y x)) (l:zr 3 (D5 X.env.scope x)) (b:zr0 (swapsWith e (Y (.Name x a)) pos.line X.env=pure false))
  (p:zr 1 (X.fn x=true\/X.env.scope.names.lookup x=Y .local)):me X m O (.Assign [.Name x a] e pos) (dV f i) :=
 PS.imp (JN s n l q b p) <| by rintro D y H ⟨g,o,G,b,e,k⟩;obtain⟨d,t,rfl⟩:=ak.mp e;exact{g,d,G,b.o,t,λv u w _ h c j=>k _ u w h (iS.set {c,b.z} r j)}
def jI(f:a0->Od)(i:Nat):a0->Option Out:=λa=>(f a).bind λd=>if i<a.length then Y (.nx (a.set i (Y d))) else Z
def P6(i:Nat) {a:Pos} (B:X.N.Nodup) (g:O.Nodup) (y:XP X O e f) (A:zd0 (i∈O)) (l:zr0 (ju O=false)) (h0:zr 12 (i≠0\/m=.dat\/m=.own)) (u:zr0 (X.N[i]?=Y x)) (t:zr 3 (D5 X.env.scope x)) (b:zr0 (swapsWith e (Y (.Name x a)) pos.line X.env=pure false))
  (w:zr 1 (X.fn x=true\/X.env.scope.names.lookup x=Y .local)):me X m O (.Assign [.Name x a] e pos) (jI f i) :=
 PS.imp (JN B u t y b w) <| by
  rintro D K H ⟨n,o,G,b,e,k⟩;obtain⟨d,F,c⟩:=bind_some e;by_cases h:i<n.length
  .rw[ah h] at c;cases c;refine{n,d,G,b.o,F,λv L M P _ r j E p=>?_};rw[<-l] at p;obtain⟨J,s,C⟩:=j.new g A h p E;refine k _ _ J (r.trans s) {C,λI q z=>?_};rcases h0 with h0|h0|h0
   .rw[aw h0];exact b.z I q z
   .rw[h0] at z;cases z
   .rw[h0] at z;cases z
  .rw[aq h] at c;cases c
def PP(X:Cx)(e:Expr)(a:Pl):Prop:=PE X e (λσ H Q=>∃q,vh X.K σ H a q/\Q (.ref q) H)
def KZ(i:Nat) (d:zr0 (X.N[i]?=Y x)) (b:zr 6 (BP X.env.scope x)) (c:zd0 (zg x))
  (a:zd0 ((x==("__classdict__":Str))=false)):PP X (.Name x pos) (.sl i):=PE.imp (mv d b c a) λe H Q ⟨q,r,k⟩=>{_,r,k}
def XQ(i:Nat) {c n:Str}{a:Pos} (h:jw X.K c n) (g:zr0 (X.N[i]?=Y x)) (d:zr 6 (BP X.env.scope x)) (e:zd0 (zg x))
  (b:zd0 ((x==("__classdict__":Str))=false)) (f:zr0 (attributeBase (.Name x a) n X.env (eval (.Name x a) X.env)=eval (.Name x a) X.env)):PP X (.Attribute (.Name x a) n pos) (.fl i c n) :=
 PE.imp (JZ (mv g d e b) f) <| by rintro w H Q ⟨q,⟨C,p,v,o,u,t,s,r⟩,k⟩;obtain⟨y,m,l,j⟩:=h;have:=t.uniq m;subst this;exact{_,u,p,C,v,o,_,rfl,s,l,j,r,k}
theorem pf.lst{K:Fg}{G:Hp}{b:Lp}{q:Addr}{o:HO}(h:pf K G (.list b) q o):∃a,o=.lst a/\bz K G b a:=by
 rcases h with ⟨d,a,e,c,i⟩ | ⟨_,_,e,_⟩
 .cases e;exact{(a),c,i}
 .cases e
def pf.dct{K:Fg}{q:Addr}(h:pf K G (.dict iV) q o):∃a,o=.dK a/\gi K G iV a:=by
 rcases h with ⟨c,d,e,b,i⟩ | ⟨_,a,e,b,i⟩
 .cases e
 .cases e;exact{(a),b,i}
def vh.eq{K:Fg}{a:Pl}{q b:Addr}(h:vh K σ H a q)(d:vh K σ H' a b)(e:dn H H'):q=b:=by
 cases a with
 |sl i=>have n:σ[i]?=Y (Y (.ref q)):=h;have g:σ[i]?=Y (Y (.ref b)):=d;rw[n] at g;cases g;rfl
 |fl i c f=>sleep 1;obtain⟨C,p,w,v,t,y,s,r⟩:=h;sleep 2;sleep 1;obtain⟨z,u,o,m,l,x,k,j⟩:=d;sleep 2;rw[t] at l;cases l;rw[e _ _ s] at k;cases k;rw[r] at j;cases j;rfl
def gA(b:Pl)(f:a0->Od):a0->Option Out:=λa=>(ph b a).bind λl=>(f a).bind λd=>match l with
 |.list ds=>if ds.length<sizeLine then Y (.nx (rY b (.list (ds++[d])) a)) else Z
 |_=>Z
def ED{t:Pl}{o:Expr} (h:O.Nodup) (T:PP X o t) (U:PV X O e f) (E:zd0 (t.ix∈O)) (s:zr0 (rZ O t=false)) (j:zr0 (starEach [e] X.env=(false,eval e X.env)::starEach [] X.env))
  (c:zr0 (attributeBase o "append" X.env (eval o X.env)=eval o X.env))
  (p:zr0 (((backTo fQ (starEach [e] X.env)).all (λx=>!x.1)&&(backToKw fQ (keywordEach [] X.env)).all (λx=>x.1.isSome)&&decide (([e]:Lx).length+([]:List Keyword).length+(if ([]:List Keyword).isEmpty then 0 else 1)<30))=true))
  (b:zr0 ((apos.endLine==fQ.line)=true)) (a:zr0 ((backTo fQ (starEach [] X.env)).any (·.1)=false))
  (n:zr0 (swapsWith (.Call (.Attribute o "append" apos) [e] [] fQ) Z pos.line X.env=pure false)):
  me X m O (.Expr (.Call (.Attribute o "append" apos) [e] [] fQ) pos) (gA t f) :=
 PS.imp (rM (yK cm PySem.F.slot_list_append PySem.F.type_list_append yM T (jh U mx j) c p b j a) n) <| by
  rintro D σ H ⟨J,o,G,n,e,k⟩;obtain⟨l,I,V⟩:=bind_some e;obtain⟨d,W,g⟩:=bind_some V;obtain⟨C,rfl⟩:∃C,l=.list C:=by cases l<;>first|exact{_,rfl}|cases g
  dsimp only at g;by_cases y:C.length<sizeLine
  .rw[ah y] at g;cases g;sleep 1;obtain⟨q,ob,r,S,P,_⟩:=n.o.place h E I rfl s;sleep 2;obtain⟨K,rfl,i4⟩:=P.lst;refine{q,r,.inl {rfl,K,nE.of S},J,d,G,n.o,W,λv H' G' L M A R=>?_};sleep 1;obtain⟨q',Q,N,B,w,cl⟩:=A.place h E I rfl s;sleep 2;have:=vh.eq r N L;subst this;obtain⟨u,rfl,i⟩:=w.lst;refine{q,u,v,rfl,rfl,B,by rw[<-i.length];exact y,?_};exact k _ _ G' M {cl _ _ (.inl {_,_,rfl,rfl,i.append (bz.cons R bz.nil)}),n.z}
  .rw[aq y] at g;cases g
end
end L2
variable  {m:L2.Md}
namespace L2
open PySem PySem.Spec PyProof.Rows
section
variable {a c:Expr}{rest:List Stmt}{h:a0->Option Out}
def EE(b:Pl):a0->Option Out:=λa=>(ph b a).bind λl=>match l with
 |.list ds=>if ds.isEmpty=true then Z else Y (.nx (rY b (.list ds.dropLast) a))
 |_=>Z
theorem bz.dropLast{K:Fg}{H:Hp}{b:Lp}{a:List V}(h:bz K H b a):bz K H b.dropLast a.dropLast:=by rw[List.dropLast_eq_take,List.dropLast_eq_take,h.length];exact h.take _
def P7{d:Pl}{o:Expr} (i:O.Nodup) (u:PP X o d) (w:zd0 (d.ix∈O)) (n:zr0 (rZ O d=false))
  (b:zr0 (attributeBase o "pop" X.env (eval o X.env)=eval o X.env)) (a:zr0 ((apos.endLine==fQ.line)=true))
  (g:zr0 (swapsWith (.Call (.Attribute o "pop" apos) [] [] fQ) Z pos.line X.env=pure false)):
  me X m O (.Expr (.Call (.Attribute o "pop" apos) [] [] fQ) pos) (EE d) :=
 PS.imp (rM (UA cm PySem.F.slot_list_pop PySem.F.type_list_pop UD u b a) g) <| by
  rintro D A H ⟨B,o,G,g,e,k⟩;obtain⟨l,x,c⟩:=bind_some e;obtain⟨h,rfl⟩:∃h,l=.list h:=by cases l<;>first|exact{_,rfl}|cases c
  dsimp only at c;by_cases j:h.isEmpty=true
  .rw[ah j] at c;cases c
  .rw[aq j] at c;cases c;sleep 1;obtain⟨q,C,r,s,t,y⟩:=g.o.place i w x rfl n;sleep 2;obtain⟨f,rfl,p⟩:=t.lst;have v:f.length - 1<f.length:=by
    have:=p.length;have:h≠[]:=λz=>j (by rw[z];rfl);have:=bb.mpr this;omega
   exact{q,r,.inl {rfl,f,nE.of s},q,f,_,rfl,rfl,s,aH v,k _ _ G (.refl G) {y _ _ (.inl {_,_,rfl,rfl,p.dropLast}),g.z}}
def XR:V->V->V->Hp->(Hp->Prop)->Prop:=λo i v H Q=>∃p a k,o=.ref p/\i=kV k/\H p=Y (.dK a)/\a.length<sizeLine/\Q (upd H p (.dK (m8 a k v)))
def U9(t:X.A.units+64<cLine):BW X XR:=by intro a s j H o i v m r u Q I c d b h;sleep 1;obtain⟨p,n,k,rfl,rfl,e,f,q⟩:=h;sleep 2;cases c;exact Io (by omega) I (Pg.k e f) d b λl g=>{_,g,q}
def BW.or{t u:O0}(h:BW X t)(k:BW X u):BW X (λo i v H Q=>t o i v H Q\/u o i v H Q):=λa s b H o i v g j c Q I f e d q=>q.elim (@h a s b H o i v g j c Q I f e d) (@k a s b H o i v g j c Q I f e d)
def vi(k d l:fJ):Od:=match l with
 |.list ds=>match k with
  |.int i=>(yJ ds.length i).map λj=>.list (ds.set j d)
  |_=>Z
 |.dict iV=>if iV.length<sizeLine/\gw iV=false then (qC k).map λ_=>.dict (Cm k d iV) else Z
 |_=>Z
def ri(b:Pl)(g f:a0->Od):a0->Option Out:=λa=>(ph b a).bind λl=>(f a).bind λd=>(g a).bind λe=>(vi e d l).map λc=>.nx (rY b c a)
theorem bz.set{K:Fg}{H:Hp}{d:fJ}{v:V}(i:c5 K H d v):∀{ds:Lp}{c:List V} (j:Nat),bz K H ds c->bz K H (ds.set j d) (c.set j v)
 |[],_,_,h=>by rw[bz.eB.mp h];exact bz.nil
 |x::ds,_,j,h=>by
  sleep 1;obtain⟨u,r,rfl,a,b⟩:=bz.dt.mp h;sleep 2;cases j with
  |zero=>exact bz.cons i b
  |succ j=>exact bz.cons a (bz.set i j b)
def P8(hu:X.A.units+64<cLine) {y:Pl}{o:Expr}{b:Pos} (n:O.Nodup) (ho:PP X o y) (hk:PV X O a fa) (he:PV X O e f) (P:zd0 (y.ix∈O)) (x:zr0 (rZ O y=false))
  (ha:∀v,assign (.Subscript o a b) X.env v=(do
   let ov <-holding [v] (eval o X.env);let iv <-holding [v,ov] (eval a X.env)
   standAt b
   holding [v,ov,iv] (setItem ov iv v)
   release [v,ov,iv] []):=by intro _;rfl)
  (u:zr0 (swapsWithSole [.Subscript o a b] e pos.line X.env=pure false)) (hw:zr0 (swappedStores [.Subscript o a b] e X.env=pure Z))
  (h1:zr0 ((assignEach [.Subscript o a b] X.env).map (·.2)=[assign (.Subscript o a b) X.env])):
  me X m O (.Assign [.Subscript o a b] e pos) (ri y fa f) :=
 PS.imp (JM he (Ub ho hk (BW.or Kc (U9 hu)) ha) u hw h1) <| by
  rintro D σ H ⟨J,o,G,u,e,k⟩;obtain⟨l,Q,ea⟩:=bind_some e;obtain⟨d,e2,eb⟩:=bind_some ea;obtain⟨L,e3,ec⟩:=bind_some eb;obtain⟨l',g,rfl⟩:=ak.mp ec;have F:tE l=true:=by
   cases l<;>try (simp[vi] at g;done)
   .rfl
   .rename_i c;simp only[vi] at g;by_cases h:c.length<sizeLine/\gw c=false
    .show (!gw c)=true;rw[h.2];rfl
    .rw[aq h] at g;cases g
  refine{J,d,G,u.o,e2,λv H1 G1 _ K t i1=>?_};sleep 1;obtain⟨q,ob,r,hq,oc,_⟩:=t.place n P Q F x;sleep 2;refine{q,r,J,L,G1,t,e3,λkv H2 S U B E N=>?_};sleep 1;obtain⟨q',W,V,w,i,R⟩:=E.place n P Q F x;sleep 2;have:=vh.eq r V U;subst this;have s:=i1.same B;cases l with
  |list ds=>
   obtain⟨T,rfl,p⟩:=i.lst;cases L<;>try (simp[vi] at g;done)
   rename_i j;simp only[vi] at g;obtain⟨M,I,rfl⟩:=ak.mp g;refine .inl {q,T,j,M,rfl,c5.ee.mp N,w,by rw[<-p.length];exact I,?_};exact k _ _ S (K.trans B) {R _ _ (.inl {_,_,rfl,rfl,p.set s M}),u.z}
  |dict c=>
   obtain⟨C,rfl,p⟩:=i.dct;simp only[vi] at g;by_cases h:c.length<sizeLine/\gw c=false
   .rw[ah h] at g;obtain⟨ky,I,rfl⟩:=ak.mp g;have:=iG I;subst this;refine .inr {q,C,ky,rfl,jv N,w,by rw[<-p.length];exact h.1,?_};exact k _ _ S (K.trans B) {R _ _ (.inr {_,_,rfl,rfl,p.put s}),u.z}
   .rw[aq h] at g;cases g
  |_=>cases F
def Au(b:Pl)(f:a0->Od):a0->Option Out:=λa=>(ph b a).bind λl=>(f a).bind λd=>match l,d with
 |.list ds,.list es=>if ds.length+es.length<=sizeLine then Y (.nx (rY b (.list (ds++es)) a)) else Z
 |_,_=>Z
def EF{u:Pl}{o:Expr} (i:O.Nodup) (ho:PP X o u) (he:XP X O e f) (Q:zd0 (u.ix∈O)) (t:zr0 (rZ O u=false)) (n:zr0 (starEach [e] X.env=(false,eval e X.env)::starEach [] X.env))
  (g:zr0 (attributeBase o "extend" X.env (eval o X.env)=eval o X.env))
  (s:zr0 (((backTo fQ (starEach [e] X.env)).all (λx=>!x.1)&&(backToKw fQ (keywordEach [] X.env)).all (λx=>x.1.isSome)&&decide (([e]:Lx).length+([]:List Keyword).length+(if ([]:List Keyword).isEmpty then 0 else 1)<30))=true))
  (c:zr0 ((apos.endLine==fQ.line)=true)) (a:zr0 ((backTo fQ (starEach [] X.env)).any (·.1)=false))
  (p:zr0 (swapsWith (.Call (.Attribute o "extend" apos) [e] [] fQ) Z pos.line X.env=pure false)):
  me X m O (.Expr (.Call (.Attribute o "extend" apos) [e] [] fQ) pos) (Au u f) :=
 PS.imp (rM (yK cm PySem.F.slot_list_extend PySem.F.type_list_extend Ij ho (jh he mx n) g s c n a) p) <| by
  rintro D σ H ⟨S,o,G,p,e,k⟩;obtain⟨l,R,ea⟩:=bind_some e;obtain⟨d,e2,h⟩:=bind_some ea;obtain⟨L,rfl⟩:∃L,l=.list L:=by cases l<;>first|exact{_,rfl}|(cases d<;>cases h)
  obtain⟨K,rfl⟩:∃K,d=.list K:=by cases d<;>first|exact{_,rfl}|cases h
  dsimp only at h;by_cases B:L.length+K.length<=sizeLine
  .rw[ah B] at h;cases h;sleep 1;obtain⟨q,ob,r,hq,oc,_⟩:=p.o.place i Q R rfl t;sleep 2;obtain⟨T,rfl,i4⟩:=oc.lst;refine{q,r,.inl {rfl,T,nE.of hq},S,_,G,p.o,e2,λv H' G' B' U V E J ot=>?_};sleep 1;obtain⟨b,ob,rfl,rfl,y⟩:=ot.cont rfl;sleep 2;obtain⟨M,rfl,P⟩:=y.lst;obtain⟨G2,N,g2,C⟩:=E.grow J.same;sleep 1;obtain⟨q',ob',W,I,A,cl⟩:=C.place i Q R rfl t;sleep 2;have:=vh.eq r W (U.trans J.same);subst this;obtain⟨w,rfl,j⟩:=A.lst;refine{q,b,w,M,rfl,rfl,I,fX J.nd (b,.lst M) (by simp),by rw[<-j.length,<-P.length];exact B,?_};exact k _ _ G2 (V.trans N) {cl _ _ (.inl {_,_,rfl,rfl,j.append (P.same N)}),p.z}
  .rw[aq B] at h;cases h
def je(i:Nat)(c n:Str)(f:a0->Od):a0->Option Out:=λa=>(a[i]?).join.bind λx=>(f a).bind λd=>match x with
 |.dict ((.none,.str b)::r)=>if b=c/\kK c n=false/\r.length<1000 then Y (.nx (a.set i (Y (.dict ((.none,.str c)::ou n d r))))) else Z
 |_=>Z
theorem P9(i:Nat) {c n:Str}{a P:Pos} (w:O.Nodup) (hC:jw X.K c n) (he:PV X O e f) (hO:zd0 (i∈O)) (hN:zr0 (X.N[i]?=Y x)) (hv:zr 6 (BP X.env.scope x)) (hd:zd0 (zg x))
  (I:zd0 ((x==("__classdict__":Str))=false)) (j:zr0 (swapsWith e (Y (.Attribute (.Name x P) n a)) pos.line X.env=pure false)):
  me X m O (.Assign [.Attribute (.Name x P) n a] e pos) (je i c n f) :=
 PS.imp (J0 (mv hN hv hd I) he j) <| by
  rintro D σ H ⟨U,o,G,j,e,k⟩;obtain⟨y,e1,ea⟩:=bind_some e;obtain⟨d,e2,g⟩:=bind_some ea;obtain⟨C',g1,g2,g3⟩:=hC;split at g
  .rename_i M r;by_cases E:M=c/\kK c n=false/\r.length<1000
   .rw[ah E] at g;cases g;obtain⟨rfl,B,A⟩:=E;refine{U,d,G,j.o,e2,λv H' s _ V F i'=>?_};sleep 1;obtain⟨v0,T,B1,S,e3,L,l,W,k1,k2,cl,_⟩:=F.own w hO (join_some e1);sleep 2;sleep 1;obtain⟨C,p,b,J,t,rfl,rfl,R,Q⟩:=W.inst;sleep 2;have:=R.uniq g1;subst this;have q:∀u:HO,T++(((p,u)::(b,HO.own p)::t)++S)=T++(p,u)::((b,HO.own p)::t++S):=λu=>by simp
    rw[q] at L l;refine{_,e3,p,C,b,J,rfl,by rw[L];exact fX l.nd (p,.ins C b J) (by simp),g2,g3,by rw[Q.len];exact A,?_};have h:iR (ju O) X.K s (.dict ((.none,.str M)::ou n d r)) (.ref p) ((p,.ins C b (mw n v J))::(b,.own p)::t):=.inr {M,C,p,b,_,_,t,rfl,rfl,rfl,R,Q.put B i'};rw[L,nZ l.nd,<-q];exact k _ _ s V {cl s _ _ (.refl s) h (by rw[q];exact l.put (by rw[<-q];exact k1.append (h.mq.append k2))),j.z}
   .rw[aq E] at g;cases g
  .cases g
def yT(i:Nat)(c n:Str)(f:a0->Od):a0->Option Out:=λa=>(a[i]?).join.bind λx=>(f a).bind λd=>match x with
 |.dict ((.none,.str b)::r)=>if b=c/\kK c n=true/\r.length<1000/\nJ n r=Z/\tE d=true/\(ow c n=false\/EA d=true) then Y (.nx (a.set i (Y (.dict ((.none,.str c)::ou n d r))))) else Z
 |_=>Z
theorem K0(i:Nat) {c n:Str}{t ep:Pos} (R:O.Nodup) (hC:jw X.K c n) (he:XP X O e f) (hO:zd0 (i∈O)) (hN:zr0 (X.N[i]?=Y x)) (hv:zr 6 (BP X.env.scope x)) (hd:zd0 (zg x))
  (hcd:zd0 ((x==("__classdict__":Str))=false)) (J:zr0 (swapsWith e (Y (.Attribute (.Name x ep) n t)) pos.line X.env=pure false)):
  me X m O (.Assign [.Attribute (.Name x ep) n t] e pos) (yT i c n f) :=
 PS.imp (J0 (mv hN hv hd hcd) he J) <| by
  rintro D σ H ⟨ρ,o,G,J,e,k⟩;obtain⟨y,e1,ea⟩:=bind_some e;obtain⟨d,e2,w⟩:=bind_some ea;obtain⟨C',g1,g2,g3⟩:=hC;split at w
  .rename_i c' r;by_cases hz:c'=c/\kK c n=true/\r.length<1000/\nJ n r=Z/\tE d=true/\(ow c n=false\/EA d=true)
   .rw[ah hz] at w;cases w;sleep 1;obtain⟨rfl,W,V,U,T,S⟩:=hz;sleep 2;refine{ρ,d,G,J.o,e2,λv H' B B2 _ sG hs' fB M=>?_};sleep 1;obtain⟨q,b,rfl,rfl,oc⟩:=M.cont T;sleep 2;sleep 1;obtain⟨v0,l,B1,j,e3,eH,fm,ot,k1,k2,cl,_⟩:=hs'.own R hO (join_some e1);sleep 2;sleep 1;obtain⟨C,p,a,g,h,rfl,rfl,a4,a5⟩:=ot.inst;sleep 2;have:=a4.uniq g1;subst this;have L:∀Q:HO,l++(((p,Q)::(a,HO.own p)::(h++[(q,b)]))++j)=l++(p,Q)::((a,HO.own p)::(h++[(q,b)])++j):=λQ=>by simp
    have u:((q,b)::(l++(((p,HO.ins C a g)::(a,HO.own p)::h)++j))).Perm (l++(((p,HO.ins C a g)::(a,HO.own p)::(h++[(q,b)]))++j)):=by
     have h1:l++(((p,HO.ins C a g)::(a,HO.own p)::(h++[(q,b)]))++j)=(l++((p,HO.ins C a g)::(a,HO.own p)::h))++((q,b)::j):=by simp
     have h2:(q,b)::(l++(((p,HO.ins C a g)::(a,HO.own p)::h)++j))=(q,b)::((l++((p,HO.ins C a g)::(a,HO.own p)::h))++j):=by simp
     rw[h1,h2];exact List.perm_middle.symm
    have P:pq (l++(((p,HO.ins C a g)::(a,HO.own p)::(h++[(q,b)]))++j)):=k1.append ((pq.ins (a5.mq.append (.one oc.z_ .nil))).append k2);have F:jd B ((q,b)::(l++(((p,HO.ins C a g)::(a,HO.own p)::h)++j))):=by have:=fm.join (A:=[(q,b)]) (by rw[<-eH];exact fB);exact this
    have s:=F.perm u P;have I:c7 H' [(q,b)]=c7 B (l++(((p,HO.ins C a g)::(a,HO.own p)::(h++[(q,b)]))++j)):=by rw[<-ic F.nd u,eH];rfl
    rw[L] at I s;rw[I];refine{_,e3,p,C,a,g,rfl,fX s.nd (p,.ins C a g) (by simp),g2,g3,by rw[a5.len];exact V,?_};have E:iR (ju O) X.K B (.dict ((.none,.str c')::ou n d r)) (.ref p) ((p,.ins C a (mw n (.ref q) g))::(a,.own p)::(h++[(q,b)])):=.inr {c',C,p,a,_,_,_,rfl,rfl,rfl,a4,a5.add W (oc.gen S) U};rw[nZ s.nd,<-L];exact k _ _ B sG {cl B _ _ (.refl B) E (by rw[L];exact s.put (by rw[<-L];exact k1.append (E.mq.append k2))),J.z}
   .rw[aq hz] at w;cases w
  .cases w
def EG(i:Nat)(e:Int->Int->Int)(f:a0->Od):a0->Option Out:=λc=>(c[i]?).join.bind λx=>(f c).bind λd=>match x,d with
 |.int a,.int b=>Y (.nx (c.set i (Y (.int (e a b)))))
 |_,_=>Z
def Qa(i:Nat) {a:Pos}{h:Operator}{o:Int->Int->Int} (C:X.N.Nodup) (t:Zd X h (ZS o)) (B:PV X O e f) (n:zd0 (i∉O)) (w:zr0 (X.N[i]?=Y x)) (s:zr 3 (D5 X.env.scope x))
  (A:zr 1 (X.fn x=true\/X.env.scope.names.lookup x=Y .local)):me X m O (.AugAssign (.Name x a) h e pos) (EG i o f) :=
 PS.imp (Ud C w s B t A) <| by
  rintro D M H ⟨p,P,G,c,e,k⟩;obtain⟨y,K,E⟩:=bind_some e;obtain⟨d,J,g⟩:=bind_some E;obtain⟨j,rfl⟩:∃j,y=.int j:=by cases y<;>first|exact{_,rfl}|(cases d<;>cases g)
  obtain⟨l,rfl⟩:∃l,d=.int l:=by cases d<;>first|exact{_,rfl}|cases g
  cases g;obtain⟨v,I,F⟩:=c.o.kn i _ (join_some K) n;refine{v,I,p,_,G,c.o,J,λu Q L _ q b r=>{j,l,c5.ee.mp F,c5.ee.mp r,?_}};exact k _ _ L q (iS.set {b,c.z} n (c5.ee.mpr rfl))
inductive Tg where
 |one (i:Nat)|many (is:List Nat)
def Tg.free(O:List Nat):Tg->Prop
 |.one i=>i∉O
 |.many is=>∀i∈is,i∉O
instance {O:List Nat}:(t:Tg)->Decidable (t.free O)
 |.one i=>inferInstanceAs (Decidable (i∉O))
 |.many is=>inferInstanceAs (Decidable (∀i∈is,i∉O))
def vF:a0->List Nat->Lp->a0
 |ρ,i::is,d::ds=>vF (ρ.set i (Y d)) is ds
 |ρ,_,_=>ρ
def mZ:Tg->fJ->a0->Option a0
 |.one i,d,ρ=>Y (ρ.set i (Y d))
 |.many is,.tuple ds,ρ=>if ds.length=is.length then Y (vF ρ is ds) else Z
 |_,_,_=>Z
def Av:St->List Nat->List V->St
 |σ,i::is,v::vs=>Av (σ.set i (Y v)) is vs
 |σ,_,_=>σ
def gT(K:Fg):Tg->TG
 |.one i=>Ge i
 |.many is=>λv b H Q=>∃p a,v=.ref p/\pB K H p a/\a.length=is.length/\Q (Av b is a) H
theorem iS.K1{K:Fg}{H G:Hp}:∀{is:List Nat}{σ:St}{ρ:a0}{b:Lp}{a:List V},iS m O K σ ρ H G->(∀i∈is,i∉O)->bz K G b a->iS m O K (Av σ is a) (vF ρ is b) H G
 |[],σ,ρ,b,a,h,_,_=>by cases b<;>cases a<;>exact h
 |i::is,σ,ρ,[],a,h,_,d=>by rw[bz.eB.mp d];exact h
 |i::is,σ,ρ,d::b,a,h,hi,ds'=>by sleep 1;obtain⟨v,r,rfl,e,c⟩:=bz.dt.mp ds';sleep 2;exact iS.K1 (is:=is) (σ:=σ.set i (Y v)) (ρ:=ρ.set i (Y d)) (h.set (hi i (by simp)) e) (λj f=>hi j (ai _ f)) c
def iS.bind{K:Fg}{a:a0}{b:Tg}{Q:St->Hp->Prop}(h:iS m O K σ ρ H G)(f:b.free O)(i:c5 K G d v)(e:mZ b d ρ=Y a)(k:∀nR,iS m O K nR a H G->Q nR H):gT K b v σ H Q:=by
 cases b with
 |one j=>cases e;exact k _ (h.set f i)
 |many is=>
  cases d<;>try (simp[mZ] at e;done)
  rename_i ds;dsimp only[mZ] at e;by_cases c:ds.length=is.length
  .rw[ah c] at e;cases e;sleep 1;obtain⟨p,l,rfl,n,g⟩:=i.ig;sleep 2;exact{p,l,rfl,h.o.sub.x8 n,by rw[<-g.length];exact c,k _ (h.K1 f g)}
  .rw[aq c] at e;cases e
def Qb(i:Nat)(d:X.N.Nodup)(b:zr0 (X.N[i]?=Y x))(a:zr 3 (D5 X.env.scope x))(c:zr 1 (X.fn x=true\/X.env.scope.names.lookup x=Y .local)):PG X (.Name x pos) (gT X.K (.one i)):=nc d b a c
def Qc(i j:Nat) {b a:Pos}{h:Nat} (s:X.calm=true) (f:X.N.Nodup) (o:zr0 (X.N[i]?=Y x)) (n:zr0 (X.N[j]?=Y y)) (l:zr 3 (D5 X.env.scope x)) (k:zr 3 (D5 X.env.scope y))
  (r:zr 1 (X.fn x=true\/X.env.scope.names.lookup x=Y .local)) (d:zr 1 (X.fn y=true\/X.env.scope.names.lookup y=Y .local))
  (m:zr0 ((assignEach [.Name x b,.Name y a] X.env).length=2)) (c:zr0 ((assignEach [.Name x b,.Name y a] X.env).findIdx? (·.1)=Z)):PG X (.Tuple [.Name x b,.Name y a] h pos) (gT X.K (.many [i,j])) :=
 PG.imp (D6 s (nU (nc f o l r) (nU (nc f n k d) Aa)) m c) <| by
  rintro v w H Q ⟨p,e,u,t,g,q⟩;refine{p,e,u,t,g,?_}
  match e,g with
  |[v1,v2],_=>exact{v1,[v2],rfl,v2,[],rfl,rfl,q}
def Iv(i j l:Nat) {z:Str}{d c b:Pos}{n:Nat} (C:X.calm=true) (h:X.N.Nodup) (A:zr0 (X.N[i]?=Y x)) (w:zr0 (X.N[j]?=Y y)) (u:zr0 (X.N[l]?=Y z)) (s:zr 3 (D5 X.env.scope x)) (r:zr 3 (D5 X.env.scope y)) (o:zr 3 (D5 X.env.scope z))
  (B:zr 1 (X.fn x=true\/X.env.scope.names.lookup x=Y .local)) (g:zr 1 (X.fn y=true\/X.env.scope.names.lookup y=Y .local)) (f:zr 1 (X.fn z=true\/X.env.scope.names.lookup z=Y .local))
  (t:zr0 ((assignEach [.Name x d,.Name y c,.Name z b] X.env).length=3)) (e:zr0 ((assignEach [.Name x d,.Name y c,.Name z b] X.env).findIdx? (·.1)=Z)):PG X (.Tuple [.Name x d,.Name y c,.Name z b] n pos) (gT X.K (.many [i,j,l])) :=
 PG.imp (D6 C (nU (nc h A s B) (nU (nc h w r g) (nU (nc h u o f) Aa))) t e) <| by
  rintro v F H Q ⟨p,k,E,D,m,q⟩;refine{p,k,E,D,m,?_}
  match k,m with
  |[v1,v2,a],_=>exact{v1,[v2,a],rfl,v2,[a],rfl,a,[],rfl,rfl,q}
def yU(f:a0->Od)(b:Tg):a0->Option Out:=λa=>(f a).bind λd=>(mZ b d a).map .nx
def Qd{t:Tg} (n:PV X O e f) (l:PG X tg (gT X.K t)) (p:t.free O) (a:zr0 (swapsWithSole [tg] e pos.line X.env=pure false)) (hw:zr0 (swappedStores [tg] e X.env=pure Z))
  (q:zr0 ((assignEach [tg] X.env).map (·.2)=[assign tg X.env])):me X m O (.Assign [tg] e pos) (yU f t) :=
 PS.imp (JM n l a hw q) <| by rintro D A H ⟨h,o,G,a,e,k⟩;obtain⟨d,w,u⟩:=bind_some e;obtain⟨g,s,rfl⟩:=ak.mp u;exact{h,d,G,a.o,w,λv x y _ i b j=>iS.bind {b,a.z} p j s λc r=>k _ x y i r}
end
section
variable {a c:Expr}{rest:List Stmt}{h:a0->Option Out}
def rj(K:Fg)(J:It)(e:Lp)(G:Hp):Prop :=
 ∀H',dn G H'->(J.stop e.length H')/\∀(i:Nat) (d:fJ),e[i]?=Y d->J.go i H'/\∀x b,J.Ui i H' x b->dn H' b/\∀c,dn G c->(∀a,H' a=Z->c a=b a)->c5 K c d x
def tOI(K:Fg)(q:a0->Option Lp):TI:=λd G R=>∃b c,jt K G d b/\q b=Y c/\∀J a,dn G a->rj K J c a->R J a
def Va(X:Cx)(b a:Expr)(q:a0->Option Lp):Prop:=PI X b a (tOI X.K q)
def Qe(h:PD X e f):Va X tg e (pb f) :=
 PI.imp (PI.or (Gf h) (JP h)) <| by
  rintro D H R ⟨u,E,w,e,k⟩;obtain⟨d,z,a⟩:=bind_some e;cases d<;>try (simp at a;done)
  .cases a;refine .inl {u,_,w,z,λv t m r=>?_};sleep 1;obtain⟨p,b,rfl,a,j⟩:=c5.fj.mp r;sleep 2;refine{p,rfl,{(b),a},k _ t m λB c=>{{b,c.seq a,by rw[j.length];exact aE _},λi d q=>?_}};obtain⟨x,g,s⟩:=j.get q;refine{{b,x,c.seq a,g},?_};rintro y A ⟨o,n⟩;have:=n b (c.seq a);rw[g] at this;cases this;subst o;exact{.refl _,λC l _=>s.same l}
  .cases a;refine .inr {u,_,w,z,λv t m r=>?_};sleep 1;obtain⟨p,b,rfl,a,j⟩:=r.ig;sleep 2;refine{p,rfl,{(b),a},k _ t m λB c=>{{b,c.x8 a,by rw[j.length];exact aE _},λi d q=>?_}};obtain⟨x,g,s⟩:=j.get q;refine{{b,x,c.x8 a,g},?_};rintro y A ⟨o,n⟩;have:=n b (c.x8 a);rw[g] at this;cases this;subst o;exact{.refl _,λC l _=>s.same l}
def Aw{K:Fg}(a:Int)(n:Nat)(G:Hp):rj K (WV a n) (mB a n) G:=λh f=>by
 refine{by show n<=(mB a n).length;simp[mB],λi d q=>?_};have b:i<n:=by have:=(aM.mp q).1;simpa [mB] using this
 refine{b,?_};rintro x g ⟨e,c⟩;have:d=.int (a+(i:Nat)):=by unfold mB at q;rw[aB,fG b] at q;cases q;rfl
 subst this c e;exact{.refl _,λj _ _=>c5.ee.mpr rfl}
def EH(o:Gl X "range")(n:X.mg "range"=Z)(h:PD X e f)(b:zr0 (starEach [e] X.env=[(false,eval e X.env)])):Va X tg (.Call (.Name "range" p) [e] [] pos) (iI f) :=
 PI.imp (yD o n (jh h mx (by rw[b];rfl)) b) <| by
  rintro r H R ⟨i,s,b,e,k⟩;obtain⟨d,q,a⟩:=bind_some e;cases d<;>try (simp at a;done)
  rename_i j;dsimp only at a;by_cases c:-(2 ^ 62)<=j/\j<2 ^ 62
  .rw[ah c] at a;cases a;exact{i,_,b,q,λv g l m=>{j,by rw[c5.ee.mp m],c.1,c.2,k _ g l (Aw 0 _ g)}}
  .rw[aq c] at a;cases a
def POJ(X:Cx)(O:List Nat)(f a:Expr)(q:a0->Option Lp):Prop:=PI X f a (λσ H R=>∃b e G,gE O X.K σ b H G/\q b=Y e/\∀J c d,dn H c->dn G d->gE O X.K σ b c d->rj X.K J e d->R J c)
def wh(O:List Nat)(q:a0->Option Lp):a0->Option Lp:=λa=>q (il O a)
def Vb(h:Va X tg iter q):POJ X O tg iter (wh O q) :=
 PI.imp (PI.frame h) <| by rintro m H R ⟨g,j,G,a,i,k⟩;obtain⟨B,f,e,c⟩:=a.ex;refine{G,B,f,e,il O g,j,a.rest,i,λJ l b w d=>?_};subst f;exact k J _ l (rh e.nd b) b (gE.tB a.len c a.kn b d) w
def jf(q:a0->Option Lp)(b:Tg)(g:a0->Option Out):a0->Option Out:=λa=>(q a).bind λc=>ib (mZ b) g c a
def Ay{t:Tg} (hp:PassesOwn (model X.prog X.w) X.A X.env X.xe) (hc:X.calm=true) (W:POJ X O tg iter q) (hg:PG X tg (gT X.K t)) (hO:t.free O) (hb:k9 X m O body g)
  (C:zr 2 (∀x,foldedSetIterable iter X.env x=pure x)):me X m O (.For tg iter body [] pos) (jf q t g) :=
 PS.imp (JR hp hc W hg hb C) <| by
  rintro D σ H ⟨S,o,G0,C,e,k⟩;obtain⟨b,e1,e2⟩:=bind_some e;refine{S,b,G0,C.o,e1,λJ H1 R _ M h1 w=>?_};refine{λi V j F=>V=b.length - i/\i<=b.length/\∃l I,dn R I/\iS m O X.K j l F I/\ib (mZ t) g (b.drop i) l=Y o,{b.length,by simp,dq _,S,R,.refl _,{h1,C.z},by simpa using e2},?_};rintro i V j F ⟨rfl,W,l,I,B,f,u⟩;obtain⟨w1,w2⟩:=w F (B.trans f.o.sub);by_cases n:i<b.length
  .right;have hd:b[i]?=Y b[i]:=aH n;obtain⟨w3,w4⟩:=w2 i _ hd;rw[b7 n] at u;unfold ib at u;obtain⟨U,e4,E⟩:=bind_some u;obtain⟨L,e6,e7⟩:=bind_some e4;refine{w3,λp H3=>∃a G,dn R G/\iS m O X.K p a H3 G/\ib (mZ t) g (b.drop (i+1)) a=Y o,by rintro p H3 ⟨a,G,s3,h3,P⟩;exact{b.length - (i+1),by omega,rfl,n,a,G,s3,h3,P},λx H2 y=>?_};obtain⟨r1,r2⟩:=w4 x H2 y;obtain⟨G2,T,g2,N⟩:=f.o.grow r1;have i4:=r2 G2 (B.trans T) g2;refine iS.bind (m:=m) {N,f.z} hO i4 e6 λσ5 h5=>{L,U,G2,h5,e7,?_}
   have c:=B.trans T;cases U with
   |nx a=>exact λh Q v r s=>{a,v,c.trans r,s,E}
   |ct a=>exact λh Q v r s=>{a,v,c.trans r,s,E}
   |bk a=>cases E;exact λh Q v r s=>k h Q v (M.trans (c.trans r)) s
   |rt d=>cases E;exact SE.later (M.trans c) k
  .have P:i=b.length:=by omega
   subst P;rw[fh] at u;cases u;exact .inl {w1,k j F I (M.trans B) f}
def tG(c:a0->Option Bool)(g:a0->Option Out):Nat->a0->Option Out
 |0,_=>Z
 |n+1,ρ=>(c ρ).bind λb=>if b=true then (g ρ).bind λo=>match o with
  |.nx ρ'=>tG c g n ρ'
  |.ct ρ'=>tG c g n ρ'
  |.bk ρ'=>Y (.nx ρ')
  |.rt d=>Y (.rt d)
  else Y (.nx ρ)
def SF:Nat:=1000000
def K2(c:a0->Option Bool)(g:a0->Option Out):a0->Option Out:=λa=>tG c g SF a
def Iw(S:PassesOwn (model X.prog X.w) X.A X.env X.xe)(T:Al X c gc)(U:k9 X m O body g):me X m O (.While c body [] pos) (K2 gc g) :=
 PS.imp (JO S T U) <| by
  rintro D σ H ⟨P,o,E,R,e,k⟩;refine{λn l L=>∃f F,dn E F/\iS m O X.K l f L F/\tG gc g n f=Y o,{SF,P,E,.refl _,R,e},?_};rintro n l L ⟨f,F,G,i,B⟩;cases n with
  |zero=>cases B
  |succ n=>
   unfold tG at B;obtain⟨b,W,y⟩:=bind_some B;refine{f,b,i.o.full,W,λH1 Q=>?_};obtain⟨N,r,_,t⟩:=i.o.grow Q;cases b with
   |false=>rw[aq aS] at y ⊢;cases y;exact k l H1 N (G.trans r) {t,i.z}
   |true=>
    rw[ah rfl] at y ⊢;obtain⟨I,V,x⟩:=bind_some y;refine{λp J=>∃a M,dn E M/\iS m O X.K p a J M/\tG gc g n a=Y o,λp J q=>{n,dN n,q},f,I,N,{t,i.z},V,?_};have h:=G.trans r;cases I with
    |nx a=>exact λj C v s u=>{a,v,h.trans s,u,x}
    |ct a=>exact λj C v s u=>{a,v,h.trans s,u,x}
    |bk a=>cases x;exact λj C v s u=>k j C v (h.trans s) u
    |rt d=>cases x;exact SE.later h k
def K3(g:Bool)(K:Fg)(n:Nat)(f:Lp->Option (fJ×fJ)):Sp:=λvs H Q _=>∃c rest h ds d a G B,vs=c::rest/\H=c7 G B/\jd G B/\iR g K G h c B/\bz K G ds rest/\ds.length+1=n/\f (h::ds)=Y (d,a) /\
 ∀v b e,dn G b->jd b e->iR g K b a c e->c5 K b d v->Q v (c7 b e)
abbrev XS(K:W.Frag)(n:Nat)(f:List fJ->Option (fJ×fJ)):Sp:=K3 false K n f
def n0(N:Lr)(g:a0->Option Out):Lp->Option (fJ×fJ):=λds=>(g (gm N ds)).bind λo=>match o with
 |.rt (.tuple [d,a])=>Y (d,a)
 |.nx ρ=>(ρ[0]?).join.map λa=>(.none,a)
 |_=>Z
def wj(f:a0->Od):a0->Option Out:=λρ=>(P4 f ρ).bind λd=>(ρ[0]?).join.map λa=>.rt (.tuple [d,a])
def iS.out{i:V}{K:Fg}{r:fJ}(j:O.Nodup)(m:iS (.io dp i) O K σ ρ H G)(e:(ρ[0]?).join=Y r):∃c B,dn G c/\H=c7 c B/\jd c B/\iR dp K c r i B:=by
 obtain⟨u,t,s⟩:=m.z dp i rfl;sleep 1;obtain⟨v,g,h,d,q,w,f,b,l,k,_,_⟩:=m.o.own j u (join_some e);sleep 2;rw[s] at b;rw[t] at q;cases q;have a:(g++(h++d)).Perm (h++(g++d)):=by rw[<-aW,<-aW];exact dE _ a6
 have p:jd G (h++(g++d)):=f.perm a (b.mq.append (l.append k));have n:=p.Cj (l.append k);exact{c7 G (g++d),h,n.same,by rw[w,ic f.nd a,gZ],p.Ci b.mq,b.same n.same}
def K4{g:V}(a:O.Nodup)(h:PD X e f):me X (.io dp g) O (.Return (Y e) pos) (wj f) :=
 PS.imp (qZ h) <| by rintro D σ H ⟨ρ,o,G,c,e,k⟩;obtain⟨d,A,y⟩:=bind_some e;obtain⟨F,w,rfl⟩:=ak.mp y;obtain⟨u,t⟩:=Co A;refine{ρ,d,c.o.full,u,λv I m i=>?_};obtain⟨J,j,_,b⟩:=c.o.grow m;sleep 1;obtain⟨E,B,l,s,q,n⟩:=iS.out (σ:=σ) (ρ:=ρ) a {b,c.z} w;sleep 2;obtain⟨x,C,r,p⟩:=k;cases r;rw[s];exact p v E B (j.trans l) q n (i.jy t)
def K5:a0->Option Out:=λa=>(a[0]?).join.map λb=>.rt (.tuple [.none,b])
def Iy{b:V}(a:O.Nodup):me X (.io dp b) O (.Return Z pos) K5 :=
 PS.imp OY <| by rintro D p H ⟨q,o,G,g,e,k⟩;obtain⟨r,l,rfl⟩:=ak.mp e;sleep 1;obtain⟨n,B,c,j,h,d⟩:=iS.out a g l;sleep 2;obtain⟨x,m,i,f⟩:=k;cases i;rw[j];exact f .kn n B c h d (c5.iz.mpr rfl)
theorem SG{P:Program}{K:Fg}{a:Str}{L:Addr}{N:Lr}{k:Nat} (F:BR K x a st L fd) (S:gU N ps (bC st)) (hn:n=ps.length) (h1:n≠0) (T:(0::O).Nodup) (hO:∀i∈O,n<=i)
  (m:∀(v0:V) (l4:Value) (A:Around) (outer:List Env) (s:Shared) (H:Hp) (E:XK),hG k (A.deeper (envOfC a (bC st) (zB s) L l4)) ->
   k9 (q8 vd P w K mg base N a (bC st) L l4 A outer s H E).Sl (.io (ju (0::O)) v0) (0::O) (gK st) g):j6 P w K mg base vd (k+1) L fd ps (K3 (ju (0::O)) K n (n0 N g)):=by
 refine F.ok S (by rintro vs H Q E ⟨v0,rest,c,ds,d,D,G,B,C,_,_,_,i,l,_⟩;rw[C,<-hn,<-l,ay,<-i.length]) ?_;rintro l4 A outer s H vs Q E hr ⟨v0,rest,c,ds,d,D,G,B,C,eH,J,ot,i,l,e,k⟩;refine{_,m v0 l4 A outer s H E hr,?_};subst C eH;obtain⟨o,C,p⟩:=bind_some e;have f:bz K (c7 G B) (c::ds) (v0::rest):=bz.cons (ot.Jz J.same λx hx=>fX J.nd x hx) (i.same J.same);have hd:=kr (N:=N) f;have v:(gm N (c::ds))[0]?=Y (Y c):=rfl;have b:∀j∈O,((gm N (c::ds))[j]?).join=Z:=λj X=>by
  have:¬ j<(c::ds).length:=by have:=hO j X;rw[ay];omega
  unfold gm;rw[aQ (by simpa using this),bG];split<;>rfl
 have M:∀I:List Nat,(∀j∈I,j∈O)->h9 (ju (0::O)) K (kA N (v0::rest)) (gm N (c::ds)) G I []:=by
  intro I;induction I with
  |nil=>intro _;rfl
  |cons j I ih=>exact λh=>.inl {b j (h j (by simp)),ih λi hi=>h i (ai _ hi)}
 obtain⟨u0,hu0,aap⟩:=hd.2 0 c v;have r:(kA N (v0::rest))[0]?=Y (Y v0):=rfl;refine{gm N (c::ds),o,G,{{hd.1,{B,rfl,J,.inr {c,v0,B,[],v,r,by simp,ot,M O λ_ h=>h}},λj dj q X=>?_},λdp1 v1 z=>{by simp,by cases z;exact r,by cases z;rfl}},C,?_}
 .
  have W:j≠0:=λz=>X (by rw[z];simp);have hd2:=kr (K:=K) (H:=G) (N:=N) (vs:=v0::rest) (ds:=.none::ds);have hh:bz K G ds rest:=i;cases j with
  |zero=>exact absurd rfl W
  |succ j=>
   by_cases t:j<ds.length
   .have q':ds[j]?=Y dj:=by
     unfold gm at q;rw[af,bf,bM,bt (by simpa using t),aB] at q;cases z:ds[j]? with
     |none=>rw[z] at q;cases q
     |some y=>rw[z] at q;cases q;rfl
    obtain⟨u,a1,a2⟩:=hh.get q';refine{u,?_,a2};have U:j<rest.length:=(aM.mp a1).1;unfold kA;rw[af,bf,bM,bt (by simpa using U),aB,a1];rfl
   .unfold gm at q;rw[af,bf,bM,aQ (by simpa using t),bG] at q;split at q<;>cases q
 .cases o with
  |rt x=>
   split at p
   .rename_i d1 d2 he;cases he;cases p;exact{(d),D,rfl,k}
   .rename_i ρ he;cases he
   .cases p
  |nx ρ'=>obtain⟨d1,e3,e4⟩:=ak.mp p;cases e4;intro σ H' G' sG hs;sleep 1;obtain⟨G2,B2,s2,eH,fm2,R⟩:=iS.out T hs e3;sleep 2;rw[eH];exact k .kn G2 B2 (sG.trans s2) fm2 R (c5.iz.mpr rfl)
  |bk _=>cases p
  |ct _=>cases p
theorem EI{P:Program}{K:Fg}{a:Str}{p:Addr}{N:Lr}{k:Nat} (F:BR K x a st p fd) (S:gU N ps (bC st)) (D:n=ps.length) (J:∀i∈O,n<=i)
  (c:∀(l4:Value) (A:Around) (outer:List Env) (s:Shared) (H:Hp) (E:XK),hG k (A.deeper (envOfC a (bC st) (zB s) p l4)) ->
   k9 (q8 vd P w K mg base N a (bC st) p l4 A outer s H E).Sl .dat O (gK st) g):j6 P w K mg base vd (k+1) p fd ps (OK K n (gL N g)):=by
 refine F.ok S (by rintro vs H Q E ⟨f,d,i,l,_⟩;rw[<-i.length,l,D]) ?_;rintro l4 A outer s H vs Q E C ⟨f,d,i,l,e,k⟩;refine{_,c l4 A outer s H E C,?_};obtain⟨o,M,r⟩:=bind_some e;have u:=kr (N:=N) i;have b:∀i∈O,((gm N f)[i]?).join=Z:=λj G=>by
  have:¬ j<f.length:=by have:=J j G;omega
  unfold gm;rw[aQ (by simpa using this),bG];split<;>rfl
 have t:∀m:List Nat,(∀i∈m,i∈O)->h9 (ju O) K (kA N vs) (gm N f) H m []:=by
  intro m;induction m with
  |nil=>intro _;rfl
  |cons j m B=>exact λh=>.inl {b j (h j (by simp)),B λi I=>h i (ai _ I)}
 refine{gm N f,o,H,{{u.1,{[],rfl,jd.nil,t O λ_ h=>h},λi d q _=>u.2 i d q},λU v0 z=>nomatch z},M,?_};cases o with
 |rt V=>cases r;exact k
 |nx v=>cases r;exact λT R W y L=>k .kn R (y.trans L.o.sub) (c5.iz.mpr rfl)
 |bk _=>cases r
 |ct _=>cases r
def B_(K:Fg)(n:Nat)(f:Lp->Od):Sp:=λb H Q _=>∃a d,bz K H a b/\a.length=n/\f a=Y d/\KO K H d Q
def Az(N:Lr)(g:a0->Option Out):Lp->Od:=λa=>(g (gm N a)).bind λo=>match o with
 |.rt d=>Y d
 |_=>Z
theorem K6{P:Program}{K:Fg}{a:Str}{p:Addr}{N:Lr}{k:Nat} (F:BR K x a st p fd) (S:gU N ps (bC st)) (B:n=ps.length) (G:∀i∈O,n<=i)
  (c:∀(l4:Value) (A:Around) (outer:List Env) (s:Shared) (H:Hp) (E:XK),hG k (A.deeper (envOfC a (bC st) (zB s) p l4)) ->
   k9 (q8 vd P w K mg base N a (bC st) p l4 A outer s H E).Sl .own O (gK st) g):j6 P w K mg base vd (k+1) p fd ps (B_ K n (Az N g)):=by
 refine F.ok S (by rintro vs H Q E ⟨f,d,i,l,_⟩;rw[<-i.length,l,B]) ?_;rintro l4 A outer s H vs Q E y ⟨f,d,i,l,e,k⟩;refine{_,c l4 A outer s H E y,?_};obtain⟨o,I,r⟩:=bind_some e;have u:=kr (N:=N) i;have b:∀i∈O,((gm N f)[i]?).join=Z:=λj C=>by
  have:¬ j<f.length:=by have:=G j C;omega
  unfold gm;rw[aQ (by simpa using this),bG];split<;>rfl
 have t:∀m:List Nat,(∀i∈m,i∈O)->h9 (ju O) K (kA N vs) (gm N f) H m []:=by
  intro m;induction m with
  |nil=>intro _;rfl
  |cons j m v=>exact λh=>.inl {b j (h j (by simp)),v λi D=>h i (ai _ D)}
 refine{gm N f,o,H,{{u.1,{[],rfl,jd.nil,t O λ_ h=>h},λi d q _=>u.2 i d q},λJ v0 z=>nomatch z},I,?_};cases o with
 |rt L=>cases r;exact k
 |nx _=>cases r
 |bk _=>cases r
 |ct _=>cases r
end
structure AA (P:Program) (w:World) (K:Fg) (mg:Str->Ow) (base:Heap) (x:Str) (k n:Nat) (f:Lp->Od):Prop where
 ex:∃a fd ps,j6 P w K mg base vd k a fd ps (B_ K n f)/\mg x=Y (.ref a)/\W.keepIn K (.ref a)=true/\jc K fd ps []
structure EJ (dp:Bool) (P:Program) (w:World) (K:Fg) (mg:Str->Ow) (base:Heap) (x:Str) (k n:Nat) (f:Lp->Option (fJ×fJ)):Prop where
 ex:∃a fd ps,j6 P w K mg base vd k a fd ps (K3 dp K n f)/\mg x=Y (.ref a)/\W.keepIn K (.ref a)=true/\jc K fd ps []
abbrev Cp:=EJ false
structure tH (P:Program) (w:World) (K:Fg) (mg:Str->Ow) (base:Heap) (c:Str) (k n:Nat) (f:Lp->Option (fJ×fJ)):Prop where
 ex:∃C a fd ps,iq K c C/\mg c=Y (.ref C)/\Mk K C a/\j6 P w K mg base vd k a fd ps (XS K n f)/\jc K fd ps []
structure qk (P:Program) (w:World) (K:Fg) (mg:Str->Ow) (base:Heap) (c m:Str) (k n:Nat) (f:Lp->Od):Prop where
 ex:∃C a fd ps,iq K c C/\Ig K C/\Ih K C m a/\j6 P w K mg base vd k a fd ps (OK K n f)/\jc K fd ps []
section
variable {a c o:Expr}{rest:List Stmt}{h:a0->Option Out}{ga:a0->Option Bool}{k:Nat}
def KO.kd{K:Fg}{Q:VK}(h:KD K H d Q):KO K H d Q:=λv e f s a b=>h v _ (s.trans a.same) (b.Jz a.same λx c=>fX a.nd x c)
def PF.pd(h:PF X e f):PD X e f:=PE.imp h <| by rintro c H Q ⟨a,d,b,e,k⟩;exact{a,d,b,e,KO.kd k}
def K7{F:Lp->Od} (N:AA X.prog X.w X.K X.mg X.base x j n F) (t:hG k X.A) (v:Gl X x) (z:ux X (e::es) ff) (u:zd0 (j<=k)) (h:zd0 (zg x))
  (y:zr0 (zE e es X)) (f:zr0 ((backTo pos (starEach es X.env)).any (·.1)=false)):PF X (.Call (.Name x p) (e::es) [] pos) (ji n F ff):=by
 sleep 1;obtain⟨a,I,G,C,o,q,b⟩:=N.ex;sleep 2;refine PE.imp (vD (C.mono u) t v o q b .nil rQ z h y f) ?_;rintro D H Q ⟨l,d,s,e,k⟩;obtain⟨i,B,c⟩:=bind_some e;by_cases g:i.length=n
 .rw[ah g] at c;exact{l,i,s,B,λE J m r=>{i,d,by rw[aG];exact r,g,c,k.later m}}
 .rw[aq g] at c;cases c
def KO.ya{K:Fg}{Q:VK}(k:KO K H (.list ds) Q)(e:bz K H ds vs):∀p,H p=Z->Q (.ref p) (upd H p (.lst vs)):=λp h=>
 k (.ref p) H [(p,.lst vs)] (.refl H) {by simp,(λx a=>by simp at a;subst a;exact h),.one aZ .nil} (iR.U3 (.inl {_,vs,rfl,rfl,e}))
def ql(f:a0->Od)(l h:FO):a0->Od:=λa=>(f a).bind λx=>(l a).bind λb=>(h a).bind λc=>match x with | .list xs=>Y (.list (m9 xs b c))|_=>Z
def K8{o q:Option Expr}{l h:FO}(A:PD X e f)(z:Ww X o l)(y:Ww X q h):PF X (.Subscript e (.Slice o q Z p2) pos) (ql f l h) :=
 PE.imp (B6 Gq A z y) <| by
  rintro G H Q ⟨c,d,j,e,k⟩;obtain⟨x,F,E⟩:=bind_some e;obtain⟨a,D,C⟩:=bind_some E;obtain⟨b,B,r⟩:=bind_some C;obtain⟨m,rfl⟩:∃m,x=.list m:=by cases x<;>first|exact{_,rfl}|cases r
  cases r;refine{c,_,j,F,λv K i w=>{c,a,j.same i,D,λJ g=>{c,b,j.same (i.trans g),B,λI n=>?_}}};sleep 1;obtain⟨p,s,rfl,u,t⟩:=c5.fj.mp (w.same (g.trans n));sleep 2;exact{p,s,rfl,u,(k.later (i.trans (g.trans n))).ya (t.cut a b)}
def Qf:jb X (.type "list") (λxs H Q=>∃a c,bz X.K H a xs/\Gx a=Y c/\KO X.K H c Q):=by
 refine jb.imp Ah ?_;rintro xs H Q ⟨a,c,i,e,k⟩
 match a,e with
 |[.list h],e=>cases e;obtain⟨v,rfl,d⟩:=ij i;sleep 1;obtain⟨p,b,rfl,g,f⟩:=c5.fj.mp d;sleep 2;exact{p,b,rfl,.inl g,k.ya f}
 |[.tuple h],e=>cases e;obtain⟨v,rfl,d⟩:=ij i;sleep 1;obtain⟨p,b,rfl,g,f⟩:=d.ig;sleep 2;exact{p,b,rfl,.inr g,k.ya f}
def pJ(c:Str)(n:Nat)(F:Lp->Option (fJ×fJ))(e:a0->Option Lp):a0->Od:=λb=>(e b).bind λa=>if a.length+1=n then (F (.dict [(.none,.str c)]::a)).bind λr=>match r with|(.none,d)=>Y d|_=>Z else Z
def GJ{K:Fg}{c:Str}(t:iq K c C){F:Lp->Option (fJ×fJ)}{Q:VK}{E:XK}(p:bz K H ds vs)(s:ds.length+1=n)(A:(F (.dict [(.none,.str c)]::ds)).bind (λr=>match r with|(.none,d)=>Y d|_=>Z)=Y d)(k:KO K H d Q):
  ∀x a,H x=Z->H a=Z->a≠x->XS K n F (.ref x::(vs++[])) (upd (upd H a (.own x)) x (.ins C a [])) (λv H2=>v=.kn/\Q (.ref x) H2) E:=by
 intro x a q g f;obtain⟨r,z,j⟩:=bind_some A;obtain⟨i,h⟩:=r;have w:i=.none/\h=d:=by cases i<;>first|(cases j;exact{(rfl),rfl})|cases j
 obtain⟨rfl,rfl⟩:=w;refine{.ref x,vs++[],.dict [(.none,.str c)],ds,.none,h,H,[(x,.ins C a []),(a,.own x)],rfl,rfl,{?_,λy b=>?_,.ins .nil},.inr {c,C,x,a,[],[],[],rfl,rfl,rfl,t,rfl,rfl},by rw[aG];exact p,s,z,λv B D l u m o=>{c5.iz.mp o,k _ B D l u m}}
 .simp[Ne.symm f]
 .rcases ag.mp b with e|b
  .rw[e];exact q
  .have:y=(a,HO.own x):=by simpa using b
   rw[this];exact g
def Qg{c:Str}{F:Lp->Option (fJ×fJ)} (N:tH X.prog X.w X.K X.mg X.base c j n F) (t:hG (k+1) X.A) (v:Gl X c) (y:ux X (e::es) ff) (u:zd0 (j<=k)) (i:zd0 (zg c))
  (x:zr0 (zE e es X)) (g:zr0 ((backTo pos (starEach es X.env)).any (·.1)=false)):PF X (.Call (.Name c p) (e::es) [] pos) (pJ c n F ff):=by
 sleep 1;obtain⟨C,a,J,I,z,q,M,D,b⟩:=N.ex;sleep 2;refine PE.imp (O7 M (D.mono u) t v q b .nil rQ y i x g) ?_;rintro E H Q ⟨m,d,s,e,k⟩;obtain⟨l,B,f⟩:=bind_some e;by_cases h:l.length+1=n
 .rw[ah h] at f;exact{m,l,s,B,λG L o r=>GJ z r h f (k.later o)}
 .rw[aq h] at f;cases f
def K9{c:Str}{F:Lp->Option (fJ×fJ)}(N:tH X.prog X.w X.K X.mg X.base c j n F)(l:hG (k+1) X.A)(o:Gl X c)(m:zd0 (j<=k))(h:zd0 (zg c)):PF X (.Call (.Name c p) [] [] pos) (pJ c n F fW):=by
 sleep 1;obtain⟨C,a,y,v,q,i,M,s,b⟩:=N.ex;sleep 2;refine PE.imp (J5 M (s.mono m) l o i b .nil rQ h) ?_;rintro t H Q ⟨u,d,x,e,k⟩;obtain⟨z,r,f⟩:=bind_some e;cases r;by_cases g:([]:Lp).length+1=n
 .rw[ah g] at f;exact GJ q bz.nil g f k
 .rw[aq g] at f;cases f
def jF(c a:Str)(d:fJ):Bool:=match d with
 |.dict ((.none,.str b)::r)=>decide (b=c)&&(nJ a r).isNone
 |_=>false
def jJ(c e:Str)(n:Nat)(F:Lp->Od)(f:a0->Od)(g:a0->Option Lp):a0->Od:=λa=>(f a).bind λd=>if jF c e d=true then (g a).bind λb=>if b.length+1=n then F (d::b) else Z else Z
def r8{K:Fg}{c e:Str}(h:jF c e d=true)(i:c5 K H d v):∃p C b a,v=.ref p/\iq K c C/\H p=Y (.ins C b a)/\a.lookup e=Z:=by
 unfold jF at h;split at h
 .rename_i m r;simp only[bH,cj,Option.isNone_iff_eq_none] at h;obtain⟨rfl,f⟩:=h;sleep 1;obtain⟨p,C,b,a,l,k,j,g⟩:=i.KJ;sleep 2;exact{p,C,b,a,l,k,j,g.none f}
 .cases h
def Qh{t c:Str}{F:Lp->Od}{pl:Sem Bool} (N:qk X.prog X.w X.K X.mg X.base t c j n F) (J:PD X o f) (I:hG k X.A) (O:ux X (e::es) ff) (M:zd0 (j<=k))
  (l:zr0 (zE e es X)) (m:zr0 ((backTo pos (starEach es X.env)).any (·.1)=false))
  (G:eval (.Call (.Attribute o c apos) (e::es) [] pos) X.env=(do
   let ov <-eval o X.env
   standAt apos.atName
   let (f,first) <-holding [ov] (getMethod ov c pl)
   callWith pos f first (backTo pos (starEach (e::es) X.env)) (backToKw pos (keywordEach [] X.env))):=by rfl):PD X (.Call (.Attribute o c apos) (e::es) [] pos) (jJ t c n F f ff):=by
 sleep 1;obtain⟨C,a,fd,ps,P,r,L,Fn,b⟩:=N.ex;sleep 2;refine PE.imp (Gi (pl:=pl) J r L (Fn.mono M) I b .nil rQ O l m G) ?_;rintro σ H Q ⟨u,d,D,e,k⟩;obtain⟨x,W,h⟩:=bind_some e;by_cases i:jF t c x=true
 .rw[ah i] at h;obtain⟨s,V,g⟩:=bind_some h;by_cases q:s.length+1=n
  .rw[ah q] at g;refine{u,x,D,W,λv H1 z B=>?_};sleep 1;obtain⟨p,C',dx,U,rfl,T,S,R⟩:=r8 i B;sleep 2;have:=T.uniq P;subst this;exact{p,dx,U,rfl,S,R,u,s,D.same z,V,λvs H2 y E=>{x::s,d,by rw[aG];exact bz.cons (B.same y) E,by simpa using q,g,k.later (z.trans y)}}
  .rw[aq q] at g;cases g
 .rw[aq i] at h;cases h
def La{q c:Str}{F:Lp->Od}{pl:Sem Bool} (N:qk X.prog X.w X.K X.mg X.base q c j n F) (B:PD X o f) (z:hG k X.A) (E:zd0 (j<=k))
  (u:eval (.Call (.Attribute o c apos) [] [] pos) X.env=(do
   let ov <-eval o X.env
   standAt apos.atName
   let (f,first) <-holding [ov] (getMethod ov c pl)
   callWith pos f first (backTo pos (starEach [] X.env)) (backToKw pos (keywordEach [] X.env))):=by rfl):PD X (.Call (.Attribute o c apos) [] [] pos) (jJ q c n F f fW):=by
 sleep 1;obtain⟨C,a,V,U,G,m,D,S,b⟩:=N.ex;sleep 2;refine PE.imp (BZ (pl:=pl) B m D (S.mono E) z b .nil rQ u) ?_;rintro T H Q ⟨s,d,y,e,k⟩;obtain⟨x,P,h⟩:=bind_some e;by_cases i:jF q c x=true
 .rw[ah i] at h;obtain⟨W,O,g⟩:=bind_some h;cases O;by_cases l:([]:Lp).length+1=n
  .rw[ah l] at g;refine{s,x,y,P,λv H1 t r=>?_};sleep 1;obtain⟨p,C',R,M,rfl,L,J,I⟩:=r8 i r;sleep 2;have:=L.uniq G;subst this;exact{p,R,M,rfl,J,I,[x],d,bz.cons r bz.nil,by simpa using l,g,k.later t}
  .rw[aq l] at g;cases g
 .rw[aq i] at h;cases h
def PX(X:Cx)(O:List Nat)(e:Expr)(h:a0->Option (fJ×a0)):Prop:=PE X e (λσ H Q=>∃ρ d a G,gE O X.K σ ρ H G/\h ρ=Y (d,a)/\∀v b c,dn G c->gE O X.K σ a b c->(∀F,c5 X.K F d v)->Q v b)
def wm(O:List Nat)(i n:Nat)(F:Lp->Option (fJ×fJ))(c:a0->Option Lp):a0->Option (fJ×a0):=λa=>(a[i]?).join.bind λd=>(c (il O a)).bind λb=>if b.length+1=n then (F (d::b)).bind λr=>if lK r.1=true then Y (r.1,a.set i (Y r.2)) else Z else Z
def Qi(i:Nat) {T:Pos}{F:Lp->Option (fJ×fJ)} (N:EJ dp X.prog X.w X.K X.mg X.base x j n F) (C:O.Nodup) (hr:hG k X.A) (hg:Gl X x) (ha:ux X es ff) (hO:zd0 (i∈O)) (hj:zd0 (j<=k)) (L:zr0 (ju O=dp))
  (hN:zr0 (X.N[i]?=Y y)) (hv:zr 6 (BP X.env.scope y)) (hd:zd0 (zg y)) (P:zd0 ((y==("__classdict__":Str))=false)) (M:zd0 (zg x))
  (he:zr0 (starEach (.Name y T::es) X.env=(false,eval (.Name y T) X.env)::starEach es X.env)) (I:zr0 ((backTo pos (starEach es X.env)).any (·.1)=false)):PX X O (.Call (.Name x p) (.Name y T::es) [] pos) (wm O i n F ff):=by
 sleep 1;obtain⟨a,fd,ps,Fn,mm,kp,b⟩:=N.ex;sleep 2;refine PE.imp (PE.frame (vD (Fn.mono hj) hr hg mm kp b .nil rQ (jh (mv hN hv hd P) (PA.frame ha) he) M he I)) ?_;rintro σ H Q ⟨ρ,d,ρ',G,hs,e,k⟩;obtain⟨d0,e1,e2⟩:=bind_some e;obtain⟨V,e3,B⟩:=bind_some e2;by_cases J:V.length+1=n
 .rw[ah J] at B;obtain⟨r,e5,z⟩:=bind_some B;obtain⟨r1,r2⟩:=r;by_cases l:lK r1=true
  .rw[ah l] at z;cases z;sleep 1;obtain⟨W,g,q,f,e7,eH,fm,u,E,D,cl,_⟩:=hs.own C hO (join_some e1);sleep 2;rw[L] at u cl;have h:(g++(q++f)).Perm ((g++f)++q):=by
    rw[aW];exact cV _ a6
   have f2:jd G ((g++f)++q):=fm.perm h ((E.append D).append u.mq);have S:=f2.Cj u.mq;refine{c7 G q,g++f,by rw[eH,ic fm.nd h,gZ],f2.Ci (E.append D),W,e7,G,q,rfl,S,il O ρ,V,hs.rest,e3,λvs G1 s1 i1 t=>?_};refine{W,vs++[],d0,V,r1,r2,G1,q,rfl,rfl,t,u.same s1,by rw[aG];exact i1,J,e5,λv m o s2 R s iv fR=>?_};have sG:dn G m:=s1.trans s2;have f3:jd m ((g++f)++o):=R.join fR;have c:((g++f)++o).Perm (g++(o++f)):=by rw[aW];exact cV _ a6
   have f4:jd m (g++(o++f)):=f3.perm c (E.append (s.mq.append D));have U:c7 (c7 m o) (g++f)=c7 m (g++(o++f)):=by rw[<-gZ,ic f3.nd c]
   rw[U];exact k v _ m sG (cl m r2 o sG s f4) λF=>iv.jy l
  .rw[aq l] at z;cases z
 .rw[aq J] at B;cases B
def EK(h:a0->Option (fJ×a0)):a0->Option Out:=λa=>(h a).map λr=>.nx r.2
def Iz{h:a0->Option (fJ×a0)}(g:PX X O e h)(a:zr0 (swapsWith e Z pos.line X.env=pure false)):me X m O (.Expr e pos) (EK h) :=
 PS.imp (rM g a) <| by rintro D c H ⟨d,o,G,a,e,k⟩;obtain⟨r,i,rfl⟩:=ak.mp e;exact{d,r.1,r.2,G,a.o,i,λv j l f b _=>k c j l f {b,a.z}}
def Cq(h:a0->Option (fJ×a0)):a0->Option Out:=λρ=>(h ρ).bind λr=>(r.2[0]?).join.map λa=>.rt (.tuple [r.1,a])
def Lb{f:V}{h:a0->Option (fJ×a0)}(a:O.Nodup)(n:PX X O e h):me X (.io dp f) O (.Return (Y e) pos) (Cq h) :=
 PS.imp (qZ n) <| by rintro D σ H ⟨ρ,o,G,c,e,k⟩;obtain⟨r,w,u⟩:=bind_some e;obtain⟨A,t,rfl⟩:=ak.mp u;refine{ρ,r.1,r.2,G,c.o,w,λv C E g b m=>?_};sleep 1;obtain⟨d,B,i,s,p,j⟩:=iS.out (σ:=σ) (ρ:=r.2) a {b,c.z} t;sleep 2;obtain⟨x,y,q,l⟩:=k;cases q;rw[s];exact l v d B (g.trans i) p j (m d)
def tXT(O:List Nat)(K:Fg)(h:a0->Option (Bool×a0)):TT:=λc H Q=>∃d b a G,gE O K c d H G/\h d=Y (b,a)/\∀e f,dn G f->gE O K c a e f->Q b e
def Wz(X:Cx)(O:List Nat)(e:Expr)(h:a0->Option (Bool×a0)):Prop:=PT X e (tXT O X.K h)
def Zp(X:Cx)(O:List Nat)(e:Expr)(h:a0->Option (Bool×a0)):Prop:=PW X e (tXT O X.K h)
def hT(h:a0->Option (fJ×a0)):a0->Option (Bool×a0):=λc=>(h c).bind λr=>match r with|(.bool b,a)=>Y (b,a)|_=>Z
def Qj{h:a0->Option (fJ×a0)}(p:PX X O e h)(n:zr 2 (∀whole,isTrue e X.env whole=(do let v <-whole;standAt e.pos;holding [v] (truthy v)))):Wz X O e (hT h) :=
 PT.imp (BX p n) <| by
  rintro u H Q ⟨j,b,c,G,o,e,k⟩;obtain⟨r,s,g⟩:=bind_some e;obtain⟨d,a⟩:=r;have q:d=.bool b/\a=c:=by cases d<;>first|(cases g;exact{(rfl),rfl})|cases g
  obtain⟨rfl,rfl⟩:=q;exact{j,_,_,G,o,s,λv i t l f m=>{b,Kn (m i) rfl,k i t l f}}
def Vc(h:a0->Option (Bool×a0)):a0->Option (Bool×a0):=λa=>(h a).map λr=>(!r.1,r.2)
def Qk{h:a0->Option (Bool×a0)}(j:Wz X O a h):Wz X O (.UnaryOp .Not a pos) (Vc h) :=
 PT.imp (JK j) <| by rintro p H Q ⟨f,b,d,G,i,e,k⟩;obtain⟨r,m,l⟩:=ak.mp e;cases l;exact{f,r.1,r.2,G,i,m,λn o g c=>k n o g c}
def Zq(g:a0->Option Bool)(h:a0->Option (Bool×a0)):a0->Option (Bool×a0):=λa=>(g a).bind λb=>if b=true then Y (true,a) else h a
def Ql{h:a0->Option (Bool×a0)}(b:Wz X O a h):Zp X O (.BoolOp .Or [a] pos) h:=JI b
def Vd{l:Lx}{h:a0->Option (Bool×a0)}(r:Al X a ga)(q:Zp X O (.BoolOp .Or (b::l) pos) h):Zp X O (.BoolOp .Or (a::b::l) pos) (Zq ga h) :=
 PW.imp (Sk r q) <| by
  rintro w H Q ⟨i,b,f,G,m,e,k⟩;obtain⟨y,s,d⟩:=bind_some e;refine{i,y,m.full,s,λu p=>?_};obtain⟨n,j,_,c⟩:=m.grow p;cases y with
  |false=>rw[aq aS] at d ⊢;exact{i,b,f,n,c,d,λt v o g=>k t v (j.trans o) g}
  |true=>rw[ah rfl] at d ⊢;cases d;exact k u n j c
def XT{h:a0->Option (Bool×a0)}(a:Zp X O e h):Wz X O e h:=a.pt
def Qm(c:a0->Option (Bool×a0))(g h:a0->Option Out):a0->Option Out:=λa=>(c a).bind λr=>if r.1=true then g r.2 else h r.2
def Qn{l j:List Stmt}{p:a0->Option (Bool×a0)}(t:Wz X O c p)(v:k9 X m O l g)(u:k9 X m O j h):me X m O (.If c l j pos) (Qm p g h) :=
 PS.imp (Sm t v u) <| by
  rintro D x H ⟨s,o,G,i,e,k⟩;obtain⟨r,w,f⟩:=bind_some e;obtain⟨b,a⟩:=r;refine{s,b,a,G,i.o,w,λy q n d=>?_};cases b with
  |true=>rw[ah rfl] at f ⊢;exact{a,o,q,{d,i.z},f,k.later n}
  |false=>rw[aq aS] at f ⊢;exact{a,o,q,{d,i.z},f,k.later n}
end
end L2
namespace L2
open PySem PySem.Spec PyProof.Rows PySem.Builtin PySem.Builtin.Str
theorem yV:∀(l:List (Str×Tok)),fK ((l.map (·.1)).map V.str) (strValues l)
 |[]=>.nil
 | (x,t)::l=>.cons {(t),rfl} (yV l)
theorem yW:∀{b:Lr}{a:Lw},fK (b.map V.str) a->∃l:List (Str×Tok),a=strValues l/\l.map (·.1)=b
 |[],_,r=>by cases r;exact{[],rfl,rfl}
 |x::b,_,r=>by
  rw[af] at r;cases r with
  |cons h t=>obtain⟨c,rfl⟩:=h;obtain⟨l,rfl,e⟩:=yW t;exact{(x,c)::l,rfl,by simp[e]}
def nL:Lp->Option Lr
 |[]=>Y []
 |.str x::r=>(nL r).map (x::·)
 |_::_=>Z
theorem uB:∀{b:Lp}{a:Lr},nL b=Y a->b=a.map .str
 |[],_,h=>by cases h;rfl
 |d::r,a,h=>by
  cases d<;>try (simp[nL] at h;done)
  obtain⟨c,e,rfl⟩:=ak.mp (show (nL r).map _=Y a from h);rw[uB e];rfl
theorem oy:∀a:Lr,nL (a.map .str)=Y a
 |[]=>rfl
 |x::a=>by show (nL (a.map .str)).map _=_;rw[oy a];rfl
theorem yX{K:Fg}{H:Hp}:∀{c:Lr}{d:List V},bz K H (c.map .str) d->d=c.map .str
 |[],_,h=>bz.eB.mp h
 |x::c,_,h=>by sleep 1;obtain⟨v,r,rfl,a,b⟩:=bz.dt.mp h;sleep 2;rw[c5.e9.mp a,yX b];rfl
theorem mf{K:Fg}{H:Hp}:∀(a:Lr),bz K H (a.map .str) (a.map .str)
 |[]=>bz.nil
 |x::a=>bz.cons (c5.e9.mpr rfl) (mf a)
section
variable {a c o:Expr}{ga:a0->Option Bool}
def qL(g:fJ->Lp->Od)(f:a0->Od)(a:a0->Option Lp):a0->Od:=λρ=>(f ρ).bind λd=>(a ρ).bind λb=>match d with | .str z=>g (.str z) b|_=>Z
def Lc{a:Str}{n:String}{g:fJ->Lp->Od} (j:Slot "str" a n) (p:typeOf (.builtin n)=pure (.type "method_descriptor")) (A:Sr X n (λx vs H Q=>∃d ds c,c5 X.K H d x/\bz X.K H ds vs/\g d ds=Y c/\KD X.K H c Q)) (y:PD X o f) (B:ux X (e::es) ff)
  (i:zr0 (attributeBase o a X.env (eval o X.env)=eval o X.env))
  (l:((backTo fQ (starEach (e::es) X.env)).all (λx=>!x.1)&&(backToKw fQ (keywordEach [] X.env)).all (λx=>x.1.isSome)
  &&decide ((e::es).length+([]:List Keyword).length+(if ([]:List Keyword).isEmpty then 0 else 1)<30))=true:=by rfl)
  (h:zr0 ((apos.endLine==fQ.line)=true)) (m:zr0 (zE e es X)) (b:zr0 ((backTo fQ (starEach es X.env)).any (·.1)=false)):
  PD X (.Call (.Attribute o a apos) (e::es) [] fQ) (qL g f ff) :=
 PE.imp (yK PySem.F.plainAttrs_str j p A y B i l h m b) <| by
  rintro G H Q ⟨q,d,m,e,k⟩;obtain⟨x,E,D⟩:=bind_some e;obtain⟨ds,C,u⟩:=bind_some D;obtain⟨z,rfl⟩:∃z,x=.str z:=by cases x<;>first|exact{_,rfl}|cases u
  refine{q,_,m,E,λv J s t=>{?_,q,ds,m.same s,C,λvs I r w=>{_,ds,d,t.same r,w,u,k.later (s.trans r)}}};rw[c5.e9.mp t];rfl
def iF(d:fJ)(ds:Lp):Od:=match d,ds with
 |.str x,[.str y]=>if (y.length==0)=false/\x.length<=sizeLine/\(partsBetween x (occurrences x y 0 x.length (x.length+1)) y.length).length<=sizeLine then Y (.list ((Txt.split x y).map .str)) else Z
 |_,_=>Z
def IA:Sr X "str.split" (λx vs H Q=>∃d n,∃l:Lr,c5 X.K H d x/\bz X.K H n vs/\iF d n=Y (.list (l.map .str))/\∀p,H p=Z->Q (.ref p) (upd H p (.lst (l.map V.str)))):=by
 intro c s o H v vs u G Q I q r h;sleep 1;obtain⟨d,n,E,C,B,e,k⟩:=h;sleep 2;unfold iF at e;split at e
 .rename_i x y;by_cases j:(y.length==0)=false/\x.length<=sizeLine/\(partsBetween x (occurrences x y 0 x.length (x.length+1)) y.length).length<=sizeLine
  .rw[ah j] at e;obtain rfl:Txt.split x y=E:=by
    injection e with e;injection e with e;exact List.map_inj_right (λa b h=>fJ.str.inj h) |>.mp e
   obtain⟨w,m,f⟩:=j;rw[c5.e9.mp C] at q;obtain⟨t,rfl⟩:=q;obtain⟨F,rfl,A⟩:=ij B;rw[c5.e9.mp A] at r;obtain⟨J,rfl,t',rfl⟩:=r.one;have g:∀(l:List (Str×Tok)) (tk:Nat),l.map (·.1)=Txt.split x y->l.length<=sizeLine->EP X c o Q (.ref (zB s)) { s with heap:=s.heap.push { cls:=.type "list",data:=.seq (strValues l).toArray },toks:=tk }:=λl tk D i=>by have z:=I.UC (t':=tk) (ys:=(l.map (·.1)).map V.str) (yV l) (by simpa using i);rw[D] at z;exact{.ref (zB s),_,z,rfl,k _ I.fresh}
   cases h1:(decide (x.length<y.length)||decide (strKind x<strKind y))
   .cases hf:(occurrences x y 0 x.length (x.length+1)).isEmpty
    .refine cH dS (dQ _ _ _) eY (eU _ _) (meets_str_split_sep x y t t' h1 w hf m f) ?_;show EP X c o Q _ { s with toks:=_,heap:=s.heap.push { cls:=.type "list",data:=.seq (strsFrom s.toks (partsBetween x (occurrences x y 0 x.length (x.length+1)) y.length)).toArray } };rw[strsFrom_eq];refine g _ _ ((numbered_texts _ _).trans ((aq (eI h1)).trans (aq (eI hf))).symm) ?_;have:=bJ List.length (numbered_texts s.toks (partsBetween x (occurrences x y 0 x.length (x.length+1)) y.length));rw[aj] at this;rw[this];exact f
    .exact cH dS (dQ _ _ _) eY (eU _ _) (meets_str_split_not_found x y t t' h1 w hf)
      (g [(x,t)] s.toks ((aq (eI h1)).trans (ah hf)).symm (by show 1<=sizeLine;decide))
   .exact cH dS (dQ _ _ _) eY (eU _ _) (meets_str_split_cannot_occur x y t t' h1)
     (g [(x,t)] s.toks (ah h1).symm (by show 1<=sizeLine;decide))
  .rw[aq j] at e;cases e
 .cases e
def Cr{c:fJ}(e:iF d ds=Y c):∃l:Lr,c=.list (l.map .str):=by
 unfold iF at e;split at e
 .split at e
  .cases e;exact{_,rfl}
  .cases e
 .cases e
def Ld(w:PD X o f) (y:ux X (e::es) ff) (c:zr0 (attributeBase o "split" X.env (eval o X.env)=eval o X.env))
  (g:((backTo fQ (starEach (e::es) X.env)).all (λx=>!x.1)&&(backToKw fQ (keywordEach [] X.env)).all (λx=>x.1.isSome)
  &&decide ((e::es).length+([]:List Keyword).length+(if ([]:List Keyword).isEmpty then 0 else 1)<30))=true:=by rfl)
  (b:zr0 ((apos.endLine==fQ.line)=true)) (h:zr0 (zE e es X)) (a:zr0 ((backTo fQ (starEach es X.env)).any (·.1)=false)):
  PF X (.Call (.Attribute o "split" apos) (e::es) [] fQ) (qL iF f ff) :=
 PE.imp (yK PySem.F.plainAttrs_str dS (by rfl) IA w y c g b h a) <| by
  rintro E H Q ⟨j,d,h,e,k⟩;obtain⟨x,C,B⟩:=bind_some e;obtain⟨s,A,i⟩:=bind_some B;obtain⟨z,rfl⟩:∃z,x=.str z:=by cases x<;>first|exact{_,rfl}|cases i
  obtain⟨l,rfl⟩:=Cr i;refine{j,_,h,C,λv I n q=>{?_,j,s,h.same n,A,λG D m t=>{_,s,l,q.same m,t,i,λp u=>?_}}}
  .rw[c5.e9.mp q];rfl
  .exact k (.ref p) D [(p,.lst (l.map V.str))] (n.trans m) {by simp,(λx r=>by simp at r;subst r;exact u),.one aZ .nil} (iR.U3 (.inl {_,_,rfl,rfl,mf l}))
def iE(d:fJ)(ds:Lp):Od:=match d,ds with
 |.str x,[.list ts]=>(nL ts).bind λa=>if JoinOk x a=true then Y (.str (Txt.join x a)) else Z
 |_,_=>Z
def Qo:Sr X "str.join" (λx vs H Q=>∃d g c,c5 X.K H d x/\bz X.K H g vs/\iE d g=Y c/\KD X.K H c Q):=by
 intro m s G H v vs u M Q I j q h;sleep 1;obtain⟨d,g,P,D,C,e,k⟩:=h;sleep 2;unfold iE at e;split at e
 .rename_i x O;obtain⟨a,F,b⟩:=bind_some e;by_cases f:JoinOk x a=true
  .rw[ah f] at b;cases b;have:=uB F;subst this;rw[c5.e9.mp D] at j;obtain⟨t,rfl⟩:=j;obtain⟨L,rfl,B⟩:=ij C;sleep 1;obtain⟨p,J,rfl,i,z⟩:=c5.fj.mp B;sleep 2;obtain⟨N,rfl,w⟩:=q.one;cases w;rw[yX z] at i;obtain⟨A,r,y,_⟩:=I.list i;obtain⟨l,rfl,E⟩:=yW r;exact SC.join y.isList E f λo n=>{.str _,H,I.tok n,{(o),rfl},k.here (c5.e9.mpr rfl)}
  .rw[aq f] at b;cases b
 .cases e
def ll(d:fJ)(a:Lp):Od:=match d,a with
 |.str x,[.str y]=>if (y.length==0)=false/\x.length<=sizeLine then Y (match occurrences x y 0 x.length 1 with
  |i::_=>.tuple [.str (strSub x 0 i),.str y,.str (strSub x (i+y.length) x.length)]
  |[]=>.tuple [.str x,.str Str.empty,.str Str.empty]) else Z
 |_,_=>Z
theorem AB:Sr X "str.partition" (λx vs H Q=>∃d l c,c5 X.K H d x/\bz X.K H l vs/\ll d l=Y c/\KD X.K H c Q):=by
 intro f s p H v vs u J Q I m n h;sleep 1;obtain⟨d,l,M,B,A,e,k⟩:=h;sleep 2;unfold ll at e;split at e
 .rename_i x y;by_cases j:(y.length==0)=false/\x.length<=sizeLine
  .rw[ah j] at e;cases e;rw[c5.e9.mp B] at m;obtain⟨t,rfl⟩:=m;obtain⟨G,rfl,z⟩:=ij A;rw[c5.e9.mp z] at n;obtain⟨L,rfl,t',rfl⟩:=n.one;refine cH F.slot_str_partition (dQ _ _ _) F.entry_str_partition (F.args_str_partition_2 _ _) (meets_str_partition x y t t' j.1 j.2) ?_;have g:∀(b:Lw) (xs:Lr) (tk:Nat),fK (xs.map V.str) b->xs.length=3->KD X.K H (.tuple (xs.map .str)) Q->EP X f p Q (.ref (zB s)) { s with heap:=s.heap.push { cls:=.type "tuple",data:=.seq b.toArray },toks:=tk }:=λb xs tk C D w=>by
    have E:=I.laid (a:=(zB s)) (o:=.tup (xs.map V.str)) (t':=tk) (h':=s.heap.push { cls:=.type "tuple",data:=.seq b.toArray }) (λ_ _ q=>ae _ q) (aE _) {by rw[aj,D];decide,b,C,_,aF _ rfl,rfl,0,rfl};exact{.ref (zB s),_,E,rfl,w.Po (mf _) _ I.fresh}
   revert k
   cases occurrences x y 0 x.length 1 with
   |nil=>exact λk=>g _ [x,Str.empty,Str.empty] _ (.cons {_,rfl} (.cons {_,rfl} (.cons {_,rfl} .nil))) rfl k
   |cons i r=>exact λk=>g _ [strSub x 0 i,y,strSub x (i+y.length) x.length] _ (.cons {_,rfl} (.cons {_,rfl} (.cons {_,rfl} .nil))) rfl k
  .rw[aq j] at e;cases e
 .cases e
def oV(x y:fJ):Od:=match x,y with
 |.str z,.int n=>if 0<=n/\n<=64/\z.length<=64 then Y (.str (Txt.mul z n)) else Z
 |x,y=>UM x y
def Cs{z:Str}{n:Int}(h:0<=n/\n<=64/\z.length<=64):MulOk z n:=mulOk_of 64 64 (by omega) (by omega) (by omega) (by decide) (by decide)
def Qp:kI X (binaryOp .Mult) (λx y H Q=>∃z n,x=.str z/\y=.int n/\(0<=n/\n<=64/\z.length<=64)/\Q (.str (Txt.mul z n)) H):=by intro a s f H x y v u Q I d c h;sleep 1;obtain⟨z,n,rfl,rfl,e,q⟩:=h;sleep 2;obtain⟨t,rfl⟩:=d;obtain⟨g,rfl⟩:=c;exact SB.mul (Cs e) λb k=>{.str _,H,I.tok _,{(b),rfl},q}
def Qq:rf X (binaryOp .Mult) oV:=by
 refine kI.imp (kI.or UO Qp) ?_;rintro x y H Q ⟨a,b,d,g,f,e,k⟩;unfold oV at e;split at e
 .rename_i z n;by_cases c:0<=n/\n<=64/\z.length<=64
  .rw[ah c] at e;cases e;exact .inr {z,n,c5.e9.mp g,c5.ee.mp f,c,k.here (c5.e9.mpr rfl)}
  .rw[aq c] at e;cases e
 .exact .inl {(a),b,d,g,f,e,k}
def oz(x y:fJ):Od:=match x,y with
 |.str a,.str b=>Y (.bool (!decide (b.cps.toList<a.cps.toList)))
 |x,y=>Zi x y
def IB:kI X (compareOp .LtE) (λx y H Q=>∃i j,x=.str i/\y=.str j/\Q (.bl (!decide (j.cps.toList<i.cps.toList))) H):=by intro a s d H x y v u Q I c b h;sleep 1;obtain⟨i,j,rfl,rfl,q⟩:=h;sleep 2;obtain⟨t,rfl⟩:=c;obtain⟨e,rfl⟩:=b;exact PySem.P.le_str (vO I q rfl)
def AE:rf X (compareOp .LtE) oz:=by
 refine kI.imp (kI.or Xo IB) ?_;rintro x y H Q ⟨a,b,d,f,c,e,k⟩;unfold oz at e;split at e
 .rename_i z n;cases e;exact .inr {z,n,c5.e9.mp f,c5.e9.mp c,k.here (c5.ej.mpr rfl)}
 .exact .inl {(a),b,d,f,c,e,k}
def lS(g c:fJ->fJ->Od)(f e d:a0->Od):a0->Option Bool:=λa=>(f a).bind λx=>(e a).bind λy=>(g x y).bind λr=>(Ve r).bind λk=>if k=true then (d a).bind λz=>(c y z).bind Ve else Y false
where Ve:fJ->Option Bool | .bool b=>Y b|_=>Z
def qm{b:Bool}(h:lS.Ve d=Y b):d=.bool b:=by cases d<;>first|(cases h;rfl)|cases h
def IC{m d:CmpOp}{g C:fJ->fJ->Od} (K:rf X (compareOp m) g) (p:rf X (compareOp d) C) (O:PD X a fa) (N:PD X b fb) (M:PD X c fc)
  (L:zr 7 (lastMarks [m,d] [b,c]=false)):Al X (.Compare a [m,d] [b,c] pos) (lS g C fa fb fc) :=
 PT.imp (JW K p O N M L) <| by
  rintro σ H Q ⟨l,b,o,e,k⟩;obtain⟨x,W,A⟩:=bind_some e;obtain⟨y,V,t⟩:=bind_some A;obtain⟨r,U,s⟩:=bind_some t;obtain⟨n,T,j⟩:=bind_some s;have:=qm T;subst this;clear e A t s;refine{l,x,o,W,λv H1 i J=>{l,y,o.same i,V,λu H2 h B=>{x,y,.bool n,J.same h,B,U,λw H3 f I=>{n,c5.ej.mp I,?_}}}};cases n with
  |false=>rw[aq aS] at j ⊢;cases j;exact{false,rfl,k H3 (i.trans (h.trans f))}
  |true=>rw[ah rfl] at j ⊢;obtain⟨z,S,E⟩:=bind_some j;obtain⟨r2,R,P⟩:=bind_some E;have:=qm P;subst this;exact{l,z,o.same (i.trans (h.trans f)),S,λw2 H4 q G=>{y,z,.bool b,B.same (f.trans q),G,R,λw3 H5 D F=>{b,c5.ej.mp F,k H5 (i.trans (h.trans (f.trans (q.trans D))))}}}
def XU(f:a0->Od):a0->Od:=λa=>(f a).bind λd=>match d with | .str x=>if x.length<=sizeLine then Y (.str x) else Z|_=>Z
def Le(h:XU f ρ=Y d):∃x,f ρ=Y (.str x)/\d=.str x/\x.length<=sizeLine:=by
 obtain⟨x,c,a⟩:=bind_some h;obtain⟨y,rfl⟩:∃y,x=.str y:=by cases x<;>first|exact{_,rfl}|cases a
 dsimp only at a;by_cases b:y.length<=sizeLine
 .rw[ah b] at a;cases a;exact{(y),c,rfl,b}
 .rw[aq b] at a;cases a
def SH(u:PD X e f):PD X (.FormattedValue e (-1) Z pos) (XU f):=by
 intro a s h H Q I ⟨l,d,r,z,k⟩;obtain⟨x,w,rfl,q⟩:=Le z;refine wpAny_FormattedValue_plain (gY (@u a s h H (λv H'=>v=.str x/\dn H H') I {l,_,r,w,λv H' m i=>{c5.e9.mp i,m}}) ?_);rintro v j ⟨y,B,A,n,p,o⟩;subst p;obtain⟨t,rfl⟩:=n;have b:∀g c,EP X a h Q (.str x g) { j with toks:=c }:=λg c=>{.str x,B,A.tok c,{(g),rfl},(k.later o).here (c5.e9.mpr rfl)}
 exact wpAny_formatField_str (b t j.toks) (b _ _) q
def PJ(X:Cx)(f:Lx)(e:a0->Option Str):Prop :=
 ∀(a:Str) (pins:Ax) (s:Shared) (σ:St) (H:Hp) (Q:Str->Shared->Prop),c6 X pins σ H s->(∃b z,jt X.K H σ b/\e b=Y z/\(a++z).length<=sizeLine/\∀d c,dn H d->c6 X pins σ d c->Q (a++z) c) ->
  Joins (model X.prog X.w) X.A X.xe (evalEach f X.env) a Q s
def wo(a:Str):a++Str.empty=a:=by cases a with|mk c=>show Str.mk (c++#[])=Str.mk c;rw[Array.append_empty]
def n2(a b c:Str):a++b++c=a++(b++c):=by cases a with|mk x=>cases b with|mk y=>cases c with|mk z=>show Str.mk (x++y++z)=Str.mk (x++(y++z));rw[Array.append_assoc]
def jK(a b:Str):(a++b).length=a.length+b.length:=strLen_append ..
def Vf:PJ X [] (λ_=>Y Str.empty):=by intro b a s c H Q I ⟨d,z,g,e,f,k⟩;cases e;have:=k H s (.refl H) I;rw[wo] at this;exact this
def Ct(f:a0->Od)(g:a0->Option Str):a0->Option Str:=λa=>(f a).bind λd=>(g a).bind λz=>match d with | .str y=>Y (y++z)|_=>Z
def AF(D:PD X e f){o:a0->Option Str}(B:PJ X es o)(h:zr0 (evalEach (e::es) X.env=eval e X.env::evalEach es X.env)):PJ X (e::es) (Ct f o):=by
 intro b a s j H Q I ⟨l,z,n,J,g,k⟩;obtain⟨d,G,F⟩:=bind_some J;obtain⟨q,E,p⟩:=bind_some F;obtain⟨y,rfl⟩:∃y,d=.str y:=by cases d<;>first|exact{_,rfl}|cases p
 cases p;rw[h];refine gY (@D a s j H (λv H'=>v=.str y/\dn H H') I {l,_,n,G,λv H' c i=>{c5.e9.mp i,c}}) ?_;rintro v u ⟨x,M,K,w,A,m⟩;subst A;obtain⟨t,rfl⟩:=w;have C:(b++y).length<=sizeLine:=by rw[jK] at g ⊢;rw[jK] at g;omega
 refine{y,t,rfl,C,B (b++y) a u j M Q K {l,q,n.same m,E,by rw[n2];exact g,λH' c r L=>?_}};rw[n2];exact k H' c (m.trans r) L
def C_(b:a0->Option Str):a0->Od:=λa=>(b a).bind λz=>if z.length<=sizeLine then Y (.str z) else Z
def Qr{h g:Expr}{a:Lx}{i:a0->Option Str}(p:PJ X (h::g::a) i):PD X (.JoinedStr (h::g::a) pos) (C_ i):=by
 intro b s l H Q I ⟨m,d,o,r,k⟩;obtain⟨z,q,f⟩:=bind_some r;by_cases e:z.length<=sizeLine
 .rw[ah e] at f;cases f;have j:Str.empty++z=z:=by cases z with|mk c=>show Str.mk (#[]++c)=Str.mk c;rw[Array.empty_append]
  refine wpAny_JoinedStr (p Str.empty b s l H _ I {m,z,o,q,by rw[j];exact e,λu v n t=>?_});rw[j];exact{e,.str z,u,t.tok _,{_,rfl},(k.later n).here (c5.e9.mpr rfl)}
 .rw[aq e] at f;cases f
def oA(p:fJ->Bool):Lp->Nat->Option Nat
 |[],_=>Z
 |d::ds,k=>if p d=true then Y k else oA p ds (k+1)
def AG(l:fJ)(a:Lp):Od:=match l,a with
 |.list xs,[x]=>if SeqAt.shaped x=true/\xs.all SeqAt.shaped=true/\x.depth<=60/\xs.length<=sizeLine then (oA (λy=>fJ.eqv y x) xs 0).map λ(j:Nat)=>fJ.int (j:Int) else Z
 |_,_=>Z
theorem r9{p:fJ->Bool}:∀{a:Lp}{k j:Nat},oA p a k=Y j->k<=j/\j - k<a.length/\(∃d,a[j - k]?=Y d/\p d=true)/\∀i d,i<j - k->a[i]?=Y d->p d=false
 |[],_,_,h=>by cases h
 |x::a,k,j,h=>by
  unfold oA at h;by_cases b:p x=true
  .rw[ah b] at h;cases h;refine{aE _,by simp,{x,by simp,b},λi d f=>by omega}
  .rw[aq b] at h;sleep 1;obtain⟨o,n,⟨d,m,l⟩,g⟩:=r9 h;sleep 2;have e:j - k=(j - (k+1))+1:=by omega
   refine{by omega,by rw[e];simpa using n,{d,by rw[e];simpa using m,l},λi y f c=>?_};cases i with
   |zero=>simp at c;subst c;simpa using b
   |succ i=>exact g i y (by omega) (by simpa using c)
end
end L2
namespace PySem
open Builtin
def tI:typeLookup (.type "list") "keys"=pure Z:=by rw[fx,dM];kernel_rfl
theorem AH{e:Program}{j:Heap}{o:Array GenState}{p:Drawn}{u:Nat}{m:OsState}{r:Array Ow}{h:Array Value}{f:Str}{Q:Ow->Shared->Prop}
    (s:j.get? a=Y { cls:=.type "list",dict:=Z,data:=.seq h n,slots:=r }) (d:typeLookup (.type "list") f=pure Z) (c:(["__module__","__name__","__qualname__","__doc__","__annotations__"]:Lr).contains f=false) (i:A.handled=Z) (b:f.length+100<=sizeLine)
    (k:∀XD OM x,Heap.NewExcOf j XD x "AttributeError"->Q Z {(XD),o,p,OM,m}):wpAny (model e w) A (getAttr? (.ref a) f) Q E {(j),o,p,u,m}:=by
  have q:∀t,Shared.TypeIs {(j),o,p,t,m} (.ref a) "list":=λt=>{_,s,rfl}
  have B:=sub_AttributeError;have z:=F.slot_list_getattribute.lookup;have y:=F.slot_list_getattribute.bind (.ref a);have v:=am_list_getattr_none;unfold getAttr? getAttrBy? getAttrBy
  repeat (any_goals (first
    |assumption
    |exact q _
    | ((with_reducible show wpAny _ _ (call (Value.builtin "list.__getattribute__") _ _) _ _ _)
       refine cH F.slot_list_getattribute (q _) am_entry_list_getattribute (F.args_list_getattribute_2 _ _) (meets_getattribute_miss_list a h n r f _ d c b) {s,i,λXD OM x g=>?_})
    |wp_step))
  obtain⟨_,_,l⟩:=g.there;show wpAny _ _ (getattributeRaised _ _ _ _ _ _ _) _ _ _;unfold getattributeRaised
  repeat (any_goals (first|assumption|wp_step))
  exact k _ _ _ g.of
namespace F
def kc:entryFor table "dict.update.loop"=Y Builtin.«dict.update.loop»:=entryFor_of_tree (zK 0)
def hH:plainId "dict.update.loop"=true:=by decide +kernel
end F
section
variable {prog:Program}{K:Type} [DecidableEq K] {knd:KeyKind prog w K}
inductive lC (knd:KeyKind prog w K) (h:Heap):Lw->List (K×Value)->Prop
 |nil:lC knd h [] []
 |cons {T:Addr}{key v:Value}{k:K}{vs:Lw}{ps:List (K×Value)}:h.IsTuple T #[key,v]->knd.is k key=true->lC knd h vs ps->lC knd h (.ref T::vs) ((k,v)::ps)
def lC.keep{d:Lw}{e:List (K×Value)}(x:lC knd h d e)(k:∀b o xs n,h.get? b=Y o->o.data=.seq xs n->h'.get? b=Y o):lC knd h' d e:=by
 induction x with
 |nil=>exact .nil
 |cons a b c g=>sleep 1;obtain⟨o,j,i,n,f⟩:=a;sleep 2;exact .cons {o,k _ _ _ _ j f,i,n,f} b g
def Cu(b c:List (K×Value)):List (K×Value):=c.foldl (λa p=>stored a p.1 p.2) b
def EL(a:List (K×Value))(k:K)(v:Value):(stored a k v).length<=a.length+1:=by unfold stored;split<;>simp
theorem Lf{D I l:Addr}{a:Array Value}{R:Result->Shared->Prop}(hh:A.in1.handled=Z)(j:D≠I)(c:Heap)(H:c.get? D=Z)(t:c.get? I=Z):
  ∀(B:Lw) (ps:List (K×Value)) (i:Nat) (s:Shared) (acc:List (K×Value)),a.toList.drop i=B->lC knd s.heap B ps->(∀b o,c.get? b=Y o->s.heap.get? b=Y o)->s.heap.IsListIter I l i->s.heap.IsList l a->s.heap.DictOf knd D acc->acc.length+ps.length<=sizeLine ->
  (∀p P,p.DictOf knd D (Cu acc ps)->(∀b o,c.get? b=Y o->p.get? b=Y o)->R (.ok (.ret .none)) { s with heap:=p,toks:=P }) ->
  codeAny (model prog w) A (.builtin "dict.update.loop" {[.ref D,.ref I,rawInt i,.none],[]}) R s
 |[],_,i,s,acc,hv,C,h0,G,M,hd,Q,hR=>by
  cases C;refine cB F.kc ?_;rw[cf F.hH _];show wpAny _ A.in1 (pyNext (.ref I)>>=_) _ _ s;have hn:a[i]?=Z:=by have:=List.drop_eq_nil_iff.mp hv;simp at this ⊢;omega
  refine aa (dJ hh G M hn λp eb=>?_);show wpAny _ A.in1 (Builtin.Dict.addKeywords D []>>=_) _ _ _;refine aa (ao (ao ?_));sleep 1;obtain⟨o,N,O,x,r⟩:=hd;sleep 2;exact hR p s.toks {o,N,O,eb _ _ j x,r} λb o e=>eb b o (λz=>by rw[z,t] at e;cases e) (h0 b o e)
 |v::B,_,i,s,acc,hv,C,h0,G,M,hd,Q,hR=>by
  cases C with
  |@cons T q g k _ ps ht hk C=>
   refine cB F.kc ?_;rw[cf F.hH _];show wpAny _ A.in1 (pyNext (.ref I)>>=_) _ _ s;have U:i<a.size:=by have:=bJ List.length hv;simp at this;omega
   have hx:a[i]?=Y (.ref T):=by have:=bJ (·[0]?) hv;simpa using this
   have S:a.toList.drop (i+1)=B:=by
    have e:=b7 (l:=a.toList) (i:=i) (by simpa using U);rw[hv] at e;injection e with _ f
    exact f.symm
   refine aa (dy G M hx λp hI' sb=>?_);have D_:p.IsTuple T #[q,g]:=by sleep 1;obtain⟨o,d,f,n,y⟩:=ht;sleep 2;refine{o,(sb.2 _ λz=>?_).trans d,f,n,y};subst z;obtain⟨oi,u,ci,L⟩:=G;rw[d] at u;cases u;rw[y] at L;cases L
   sleep 1;obtain⟨ot,J,et2,nt,et3⟩:=id D_;sleep 2;show wpAny _ A.in1 (holding [.ref T] _>>=_) _ _ _;refine aa (a8 ?_);refine aa (wpAny_tryCatch ?_);unfold Builtin.Dict.pairItems;refine aa (cE (T:="tuple") {(ot),J,et2} ?_);have hc1:((Value.type "tuple"==Value.type "list")||(Value.type "tuple"==Value.type "tuple"))=true:=by decide
   simp only[hc1,dk];refine aa ?_;unfold seqItems?;refine aa (wpAny_load J ?_);rw[et3];refine ao (ao ?_);show wpAny _ _ (holding [q,g] (dictSet D q g)) _ _ _;have X:p.DictOf knd D acc:=by sleep 1;obtain⟨o,N,O,x,r⟩:=id hd;sleep 2;exact{o,N,O,(sb.2 _ j).trans x,r}
   have nI:∀b o m n,s.heap.get? b=Y o->o.data=.seq m n->b≠I:=λb o m n d f z=>by subst z;obtain⟨oi,u,ci,L⟩:=G;rw[d] at u;cases u;rw[f] at L;cases L
   have nD:∀b o m n,s.heap.get? b=Y o->o.data=.seq m n->b≠D:=λb o m n d f z=>by subst z;sleep 1;obtain⟨o',N,O,x,hx2,E,_⟩:=hd;sleep 2;rw[d] at x;cases x;rw[f] at E;cases E
   refine a8 (wpAny_dictSet_pairs hk X (λh2 hd2 h=>?_) (hsz:=by simp at Q;omega));refine ao {cT F.hH _,?_};have u:((i:Int)+1)=((i+1:Nat):Int):=by omega
   rw[u];have V:h2.IsList l a:=by sleep 1;obtain⟨o,d,f,n,y⟩:=M;sleep 2;exact{o,(h.2 _ (nD _ _ _ _ d y)).trans ((sb.2 _ (nI _ _ _ _ d y)).trans d),f,n,y}
   have hI2:h2.IsListIter I l (i+1):=hI'.at λo e=>(h.2 _ (Ne.symm j)).trans e;refine Lf hh j c H t B ps (i+1) { s with heap:=h2,toks:=s.toks+1 } (stored acc k g) S (C.keep λb o m n d f=>(h.2 _ (nD b o m n d f)).trans ((sb.2 _ (nI b o m n d f)).trans d)) (λb o e=>?_) hI2 V hd2 ?_ λh3 P W k3=>hR h3 P W k3
   .have b1:b≠I:=λz=>by rw[z,t] at e;cases e
    have b2:b≠D:=λz=>by rw[z,H] at e;cases e
    exact(h.2 b b2).trans ((sb.2 b b1).trans (h0 b o e))
   .have:=EL acc k g;simp at Q ⊢;omega
theorem vj{l:Addr}{o:Obj}{u:List (K×Value)}{Q:Px} (I:A.handled=Z) (P:s.heap.get? l=Y o) (J:o.cls=.type "list") (g:o.data=.seq items n) (t:o.dict=Z)
  (R:lC knd s.heap items.toList u) (y:u.length<=sizeLine)
  (h:∀h' tk,h'.DictOf knd (zB s) (Cu [] u)->(∀b o,s.heap.get? b=Y o->h'.get? b=Y o)->Q (.ref (zB s)) { s with heap:=h',toks:=tk }):
  wpAny (model prog w) A (call (.type "dict") [.ref l]) Q E s:=by
 refine callType_codes (Q₁:=λj d=>j=.ref (zB s)/\d={ s with heap:=s.heap.push { cls:=.type "dict",data:=.dict #[] } }) F.kt_called_dict (F.kt_typeCall_dict_1 _) F.entry_dict_init (kt_code_dict_new _ {(rfl),rfl}) ?_;rintro j d ⟨rfl,rfl⟩;have a:(s.heap.push { cls:=.type "dict",data:=.dict #[] }).DictOf knd (zB s) []:=Heap.DictOf.new s.heap;obtain⟨oc,od,M,L⟩:=o;simp only at J g t;subst J g t;have c:=ae { cls:=.type "dict",data:=.dict #[] } P;refine{a.typeIs,F.args_dict_init_2 _ _,?_};unfold Builtin.«dict.__init__»;refine aa ?_;unfold Builtin.Dict.selfAndRest;refine aa (wpAny_notOrdered_dict a.typeIs ?_);show wpAny _ _ (pure ((zB s),[Value.ref l])) _ _ _;refine ao ?_;show wpAny _ _ (Builtin.Dict.updateFrom "dict.__init__" (zB s) (.ref l) [] .none) _ _ _;unfold Builtin.Dict.updateFrom;refine aa (cE (T:="list") {_,c,rfl} ?_);rw[ah (by decide)];refine aa (AH c tI (by decide +kernel) (show A.in1.in1.handled=Z from I) (by decide) λi x e1 p=>?_);rw[ah (show (Z:Ow).isNone=true from rfl)];refine aa (fu ?_);have C:i.IsList l items:={_,p.keeps _ _ c,rfl,n,rfl}
 refine aa (dz C ?_);refine ao {cT F.hH _,?_};have f:(zB s)<i.objs.size:=au (p.keeps _ _ (aF s.heap (o:={ cls:=.type "dict",data:=.dict #[] }) rfl));have H:∀b k,s.heap.get? b=Y k->(i.push { cls:=.type "list_iterator",data:=.fields #[.ref l,.int 0 0] }).get? b=Y k:=λb k e=>ae _ (p.keeps _ _ (ae _ e));have G:(i.push { cls:=.type "list_iterator",data:=.fields #[.ref l,.int 0 0] }).DictOf knd (zB s) []:=by sleep 1;obtain⟨N,V,W,S,r⟩:=a;sleep 2;exact{N,V,W,ae _ (p.keeps _ _ S),r}
 have B:(i.push { cls:=.type "list_iterator",data:=.fields #[.ref l,.int 0 0] }).IsList l items:={_,ae _ (p.keeps _ _ c),rfl,n,rfl}
 exact Lf (knd:=knd) (s:={ s with heap:=i.push { cls:=.type "list_iterator",data:=.fields #[.ref l,.int 0 0] },toks:=x }) (show A.in1.in1.handled=Z from I) (aO f) s.heap (by
   cases q:s.heap.get? (zB s) with
   |none=>rfl
   |some z=>exact absurd (au q) (a7 _)) (by
   cases q:s.heap.get? i.objs.size with
   |none=>rfl
   |some z=>exact absurd (eO (au q) f) (a7 _)) items.toList u 0 [] rfl (R.keep λb k X m e _=>H b k e) H {_,aF _ rfl,rfl,rfl} B G (by simpa using y)
  λU v D O=>{rfl,h U v D O}
end
end PySem
namespace L2
open PySem PySem.Spec PyProof.Rows
def sd:Lp->Option (List (Key×fJ))
 |[]=>Y []
 |.tuple [k,d]::r=>(qC k).bind λy=>(sd r).map ((y,d)::·)
 |_::_=>Z
def SI(b:List (Key×fJ))(a:List (fJ×fJ)):List (fJ×fJ):=b.foldl (λa p=>Cm (jD p.1) p.2 a) a
def qM(b:List (Key×V))(a:List (Key×V)):List (Key×V):=b.foldl (λa p=>m8 a p.1 p.2) a
def AI:Lp->Od
 |[.list ds]=>(sd ds).bind λa=>if a.length<=sizeLine then Y (.dict (SI a [])) else Z
 |_=>Z
section
theorem Cv(I:c6 X pins σ H s):∀{j:Lp}{g:List (Key×fJ)}{l:List V}{m:Lw},sd j=Y g->bz X.K H j l->fK l m ->
  ∃(c:List (Key×V)) (ws:List (Key×Value)),lC (gp X.prog X.w) s.heap m ws/\KV c ws/\c.length=g.length/\∀a b,gi X.K H a b->gi X.K H (SI g a) (qM c b)
 |[],_,_,_,e,i,r=>by cases e;rw[bz.eB.mp i] at r;cases r;exact{[],[],.nil,.nil,rfl,λa b h=>h}
 |d::j,_,_,_,e,i,r=>by
  sleep 1;obtain⟨v,l,rfl,N,M⟩:=bz.dt.mp i;sleep 2;obtain⟨k,f,rfl⟩:∃k f,d=.tuple [k,f]:=by
   unfold sd at e;split at e
   .rename_i z;cases z
   .rename_i k f r z;injection z with o z2;exact{(k),f,o}
   .cases e
  obtain⟨y,Q,P⟩:=bind_some (show (qC k).bind (λy=>(sd j).map ((y,f)::·))=Y _ from e);obtain⟨g,O,rfl⟩:=ak.mp P;cases r with
  |cons B A=>
   sleep 1;obtain⟨c,ws,W,U,S,R⟩:=Cv I O M A;sleep 2;sleep 1;obtain⟨T,ts,rfl,x,L⟩:=N.ig;sleep 2;cases B;sleep 1;obtain⟨v1,q,rfl,G,F⟩:=Kt L;sleep 2;obtain⟨J,n,E,_⟩:=I.tuple x;have:=iG Q;subst this;rw[jv G] at n;cases n with
   |@cons _ w1 _ _ D u=>
    cases u with
    |@cons _ p _ _ C t=>cases t;exact{(y,q)::c,(y,p)::ws,lC.cons E (oU D) W,Paired.cons {(rfl),C} U,by rw[ay,ay,S],λa b h=>R _ _ (h.put F)}
def KV.E_{c:List (Key×V)}{e:List (Key×Value)}(r:KV c e):∀{a:List (Key×V)}{b:List (Key×Value)},KV a b->KV (qM c a) (Cu b e):=by
 induction r with
 |nil=>exact λh=>h
 |@cons p q c f h t g=>intro a b d;obtain⟨j,i⟩:=h;have:=d.put p.1 i;rw[show qM (p::c) a=qM c (m8 a p.1 p.2) from rfl,show Cu b (q::f)=Cu (stored b q.1 q.2) f from rfl,<-j];exact g this
theorem yY:∀(b:List (Key×V)) (a:List (Key×V)),(qM b a).length<=a.length+b.length
 |[],a=>by simp[qM]
 |p::b,a=>by have d:=yY b (m8 a p.1 p.2);have c:=ng a p.1 p.2;rw[show qM (p::b) a=qM b (m8 a p.1 p.2) from rfl,ay];omega
def Qs(K:X.calm=true):vZ X (.type "dict") AI:=by
 intro q s S H T V Q I r h;sleep 1;obtain⟨ds,c,i,e,k⟩:=h;sleep 2;unfold AI at e;split at e
 .rename_i W;obtain⟨m,M,f⟩:=bind_some e;by_cases g:m.length<=sizeLine
  .rw[ah g] at f;cases f;obtain⟨v,rfl,L⟩:=ij i;obtain⟨u,rfl,B⟩:=rN r;sleep 1;obtain⟨p,U,rfl,z,D⟩:=c5.fj.mp L;sleep 2;cases B;sleep 1;obtain⟨E,A,⟨o,n,F,l,j,d⟩,_⟩:=I.list z;sleep 2;sleep 1;obtain⟨b,x,P,t,O,N⟩:=Cv I M D A;sleep 2;have hw:x.length=m.length:=by rw[<-t.length,O]
   refine vj (knd:=gp X.prog X.w) (I.ok.hd K) F l d j (by simpa using P) (by rw[hw];exact g) λh' y J C=>?_;have G:(qM b []).length<=sizeLine:=by have:=yY b [];simp at this;omega
   have R:=I.laid (a:=(zB s)) (o:=.dK (qM b [])) (t':=y) C (aE _) (Eo G (aT.mpr (Ne.symm (aO I.big))) (KV.E_ t .nil) J);refine{.ref (zB s),_,R,rfl,k _ _ (iX I.fresh) (c5.jN.mpr {_,rfl,.inl {_,.inl da,?_}})};exact(N [] [] (gi.eB.mpr rfl)).same (iX I.fresh)
  .rw[aq g] at f;cases f
 .cases e
end
end L2
namespace PySem
open Builtin
section
variable {prog:Program}
abbrev F_(a:Program)(w:World)(A:Around)(R:Result->Shared->Prop):Fin->Shared->Prop:=λb c=>match b with
 |.done f=>R (.ok f) c
 |.again d=>d.quiet=true/\codeAny (model a w) A d R c
theorem uC{x:Value}{Q:Px}
  (j:∀h2 c,h2.get? (zB s)=Y (zl #[] c)->(∀b o,s.heap.get? b=Y o->h2.get? b=Y o) ->
   wpAny (model prog w) A.in1.in1 (Builtin.List.listExtendWith (.ref (zB s)) x .none) (F_ prog w A.in1 (wants (λr pE=>r=.none/\Q (.ref (zB s)) pE) E)) (λe s'=>wants (λr pE=>r=.none/\Q (.ref (zB s)) pE) E (.error e) s') { s with heap:=h2 }):
  wpAny (model prog w) A (call (.type "list") [x]) Q E s:=by
 refine callType_codes (Q₁:=λf d=>f=.ref (zB s)/\d={ s with heap:=s.heap.push { cls:=.type "list",data:=.seq #[] } }) F.called_list (F.typeCall_list_1 _) F.entry_list_init (code_list_new _ {(rfl),rfl}) λf d g=>?_;obtain⟨rfl,rfl⟩:=g;have a:(s.heap.push { cls:=.type "list",data:=.seq #[] }).get? (zB s)=Y { cls:=.type "list",data:=.seq #[] }:=aF _ rfl;refine{{_,a,rfl},F.args_list_init_2 _ _,?_};show wpAny _ A.in1.in1 (do
  let h <-Builtin.List.listItems (.ref (zB s))
  Builtin.List.listUpdate (.ref (zB s)) (λ_=>#[])
  letGo h.toList.reverse
  Builtin.List.listExtendWith (.ref (zB s)) x .none) _ _ _
 refine aa ?_;unfold Builtin.List.listItems;refine aa (fD a rfl (ao ?_));show wpAny _ A.in1.in1 (updateSeq (zB s) (λ_=>#[])>>=_) _ _ _;refine aa (cC a rfl (aa (wpAny_letGo ?_)));refine j _ _ (a9 (Obj.mapSeq λ_=>(#[]:Array Value)) a rfl) λb o e=>?_;have i:(zB s)≠b:=λz=>a7 _ (by have:=au e;rw[<-z] at this;exact this);exact(aP _ _ i).trans (ae _ e)
variable {K:Type} [DecidableEq K] {knd:KeyKind prog w K}
theorem wq{d:Addr}{a:List (K×Value)}{Q:Px} (X:A.handled=Z) (hS:(d==sysModules)=false) (hd:s.heap.DictOf knd d a) (W:a.length<=sizeLine)
  (h:∀h' tk its c,its.size=a.length->(∀(j:Nat) v,its[j]?=Y v->∃k x,a[j]?=Y (k,x)/\knd.is k v=true)->h'.get? (zB s)=Y (zl its c)->(∀b o,s.heap.get? b=Y o->h'.get? b=Y o)->Q (.ref (zB s)) { s with heap:=h',toks:=tk }):
  wpAny (model prog w) A (call (.type "list") [.ref d]) Q E s:=by
 obtain⟨r,t⟩:=hd.dictAt;have i:d<(zB s):=t.lt_size;refine uC λg c B M=>?_;have f:g.DictAt knd d a r:=t.at' λo e=>M _ _ e;have P:Shared.TypeIs { s with heap:=g } (.ref d) "dict":=f.dictOf.typeIs;have l:(zB s)<g.objs.size:=au B;unfold Builtin.List.listExtendWith;refine aa (cE P ?_);have V:Builtin.List.listSameRef (.ref (zB s)) (.ref d)=false:=by simp[Builtin.List.listSameRef,cL i]
 have U:(Value.type "dict"==Value.type "list")=false:=by decide
 have T:(Value.type "dict"==Value.type "tuple")=false:=by decide
 simp only[V,U,T,df,cy,fC];refine aa (wpAny_pyIter_dict hS f ?_);refine aa (a8 ?_);have p:Shared.TypeIs { s with heap:=g.push { cls:=.type "dict_keyiterator",data:=.fields #[.ref d,.int 0 0,.int a.length 0,.int r 0] } } (.ref d) "dict":=(f.push _).dictOf.typeIs;unfold Builtin.List.listLengthHint;refine aa (eA p F.slot_dict_len.lookup ?_);have R:splitId "dict.__len__"=Y ("dict","__len__"):=by kernel_rfl
 dsimp only;rw[R];dsimp only;refine aa (wpAny_isInstance p isSubtype_dict_dict ?_);rw[aq (by decide),ah (by decide)];refine aa (cE p ?_);show wpAny _ _ (pure false) _ _ _;refine ao ?_;rw[ah (by decide)];refine aa (fu (aa ?_));show wpAny _ _ (updateSeq (zB s) (·.push .none)>>=λ_=>updateSeq (zB s) (·.pop)) _ _ _;have y:(g.push { cls:=.type "dict_keyiterator",data:=.fields #[.ref d,.int 0 0,.int a.length 0,.int r 0] }).get? (zB s)=Y (zl #[] c):=ae _ B;refine aa (cC y rfl ?_);have u:=a9 (Obj.mapSeq (·.push Value.none)) y rfl;refine cC (hz:=by seq_fits) u rfl ?_;have J:=a9 (Obj.mapSeq (·.pop)) u rfl;have q:∀b o,b≠(zB s)->(g.push { cls:=.type "dict_keyiterator",data:=.fields #[.ref d,.int 0 0,.int a.length 0,.int r 0] }).get? b=Y o->(((g.push { cls:=.type "dict_keyiterator",data:=.fields #[.ref d,.int 0 0,.int a.length 0,.int r 0] }).update (zB s) (Obj.mapSeq (·.push Value.none))).update (zB s) (Obj.mapSeq (·.pop))).get? b=Y o :=
  λb o N e=>(aP _ _ (Ne.symm N)).trans ((aP _ _ (Ne.symm N)).trans e)
 have H:(zB s)∉[g.objs.size,d]:=by
  intro m;rcases ag.mp m with e|m
  .exact absurd e (aO l)
  .exact absurd (by simpa using m) (cL i)
 have dI:d≠g.objs.size:=aO (eO i l);refine ao {cT cq _,codeAny_extend_loopS (Walks.dictKeys (knd:=knd) (show A.in1.in1.handled=Z from X) g.objs.size d dI a r).toS W _ H _ a.length 0 _ _ _ rfl (dq _) {?_,?_} J (ItemsOf.nil _) λS L c' C I n=>?_}
 .exact Heap.IsKeyIter.at {_,aF _ rfl,rfl,rfl} λo e=>q _ _ (Ne.symm (aO l)) e
 .exact(f.push _).at' λo e=>q _ _ (aO i) e
 .obtain⟨h',g',d',D,G⟩:=S;have eg:g'=s.gens:=C.gens;have ed:d'=s.drawn:=C.drawn;have eo:G=s.os:=C.os;subst eg ed eo;refine{rfl,h h' D L c' n.1 (λj v e=>n.2 j v e) I λb o e=>?_};have O:b≠(zB s):=λz=>a7 _ (by have:=au e;rw[z] at this;exact this);have bI:b≠g.objs.size:=λz=>a7 g.objs.size (eO (by have:=au e;rw[z] at this;exact this) l);refine C.heap b o (by simp[O,bI]) (q b o O (ae _ (M b o e)))
end
end PySem
namespace PySem
open Builtin
section
variable {prog:Program}
def Qt{M:Model}{Q:Option Obj->Shared->Prop}(h:Q (s.heap.get? a) s):wpAny M A (loadIfAlive a) Q E s:=λΓ p b=>by show Sem.wp M Γ (Sem.loadIfAlive a _) _ _ p s;rw[Sem.wp_loadIfAlive];exact h
abbrev tJ(h:Heap)(z c a T:Addr)(b:Bool):Prop:=h.get? z=Y { cls:=.type "zip",dict:=Z,data:=.fields #[rawInt T,.bool b,.bool false,.ref c,.ref a],slots:=#[] }
def uD{z e d T:Addr}{b:Bool}{g:Obj}{Q:Bool->Shared->Prop} (a:tJ s.heap z e d T b) (h:s.heap.get? T=Y g)
  (k:∀h',tJ h' z e d T true->Heap.SameBut z s.heap h'->Q false { s with heap:=h' }):wpAny (model prog w) A (Builtin.SmallTypes.ownedTupleIsFree (.ref z)) Q E s:=by
 unfold Builtin.SmallTypes.ownedTupleIsFree;refine aa (b6 a rfl (x:=rawInt T) rfl ?_);show wpAny _ _ (loadIfAlive ((T:Int)).toNat>>=_) _ _ _;refine aa (Qt ?_);rw[show ((T:Int)).toNat=T from dF T,h];rw[aq (by simp)];refine aa (b6 a rfl (x:=.bool b) rfl ?_);cases b with
 |true=>rw[aq (by decide)];exact ao (k _ a (Heap.SameBut.refl _ _))
 |false=>rw[ah (by decide)];refine aa (wpAny_setField_rec a (by simp) λh' c f=>ao (k h' c f))
def EM{z j I T h g n m:Addr}{b:Bool}{M:Obj}{q p:Nat}{K J:Array Value}{x y:Value}{Q:Px} (D:ZipApart z j I h g n m) (B:tJ s.heap z j I T b) (W:s.heap.get? T=Y M) (C:IsPair s.heap j (.ref h) (.ref g))
  (S:s.heap.IsListIter h n q) (R:s.heap.IsListIter g m p) (O:s.heap.IsList n K) (N:s.heap.IsList m J) (V:K[q]?=Y x) (U:J[p]?=Y y)
  (k:∀h',tJ h' z j I T true->h'.IsListIter h n (q+1)->h'.IsListIter g m (p+1)->IsPair h' (zB s) x y->(∀c o,c≠z->c≠h->c≠g->s.heap.get? c=Y o->h'.get? c=Y o)->Q (.ref (zB s)) { s with heap:=h' }):
  wpAny (model prog w) A (Builtin.«zip.__next__» {[.ref z],[]}) (λfin s'=>∃v,fin=.done (.ret v)/\Q v s') E s:=by
 show wpAny _ _ (field (.ref z) 2>>=_) _ _ _;refine aa (b6 B rfl (x:=.bool false) rfl ?_);show wpAny _ _ (field (.ref z) 3>>=_) _ _ _;refine aa (b6 B rfl (x:=.ref j) rfl (aa (fD C rfl ?_)));show wpAny _ _ (Builtin.SmallTypes.ownedTupleIsFree (.ref z)>>=_) _ _ _;refine aa (uD B W λh1 u a=>?_);rw[aq aS];refine aa ?_;rw[<-Array.forIn_toList];simp only[cQ,eS];refine aa (aa (a8 ?_));show wpAny _ _ (Builtin.SmallTypes.nextOf (.ref h)>>=_) _ _ _;refine aa (dG (S.extBut a.extBut D.i1z) (O.extBut a.extBut D.l1z) V λX t d=>ao (ao ?_));dsimp only;refine aa (aa (a8 ?_));show wpAny _ _ (Builtin.SmallTypes.nextOf (.ref g)>>=_) _ _ _;refine aa (dG ((R.extBut a.extBut D.i2z).extBut d.extBut D.i12.symm) ((N.extBut a.extBut D.l2z).extBut d.extBut D.l2i1) U λi r f=>ao (ao (ao ?_)));have L:i.objs.size=(zB s):=by rw[f.1,d.1,a.1]
 have P:∀c o,c≠z->c≠h->c≠g->s.heap.get? c=Y o->i.get? c=Y o:=λc o H G F e=>f.extBut _ _ F (d.extBut _ _ G (a.extBut _ _ H e));refine aa (wpAny_newTuple (ao {_,rfl,?_}) (by show 2<=sizeLine;decide));show Q (.ref i.objs.size) _;rw[L];have l:∀c o,i.get? c=Y o->(i.push { cls:=.type "tuple",data:=.seq #[x,y] }).get? c=Y o:=λc o e=>ae _ e;refine k _ (l _ _ (f.extBut _ _ D.i2z.symm (d.extBut _ _ D.i1z.symm u))) ((t.extBut f.extBut D.i12).at λo e=>l _ _ e) (r.at λo e=>l _ _ e) (by rw[<-L];exact aF _ rfl) λc o H G F e=>l _ _ (P c o H G F e)
theorem EN{z i J T h g p n:Addr}{b:Bool}{K:Obj}{t r:Nat}{l j:Array Value}{Q:Fin->Shared->Prop} (H:A.handled=Z) (D:ZipApart z i J h g p n) (u:tJ s.heap z i J T b) (R:s.heap.get? T=Y K) (B:IsPair s.heap i (.ref h) (.ref g))
  (G:s.heap.IsListIter h p t) (M:s.heap.IsListIter g n r) (F:s.heap.IsList p l) (L:s.heap.IsList n j) (f:l[t]?=Z\/j[r]?=Z)
  (k:∀h' e,(∀c o,c≠z->c≠h->c≠g->s.heap.get? c=Y o->h'.get? c=Y o)->(∃o,h'.get? e=Y o/\o.cls=.type "StopIteration")->E (.ref e) { s with heap:=h' }):
  wpAny (model prog w) A (Builtin.«zip.__next__» {[.ref z],[]}) Q E s:=by
 show wpAny _ _ (field (.ref z) 2>>=_) _ _ _;refine aa (b6 u rfl (x:=.bool false) rfl ?_);show wpAny _ _ (field (.ref z) 3>>=_) _ _ _;refine aa (b6 u rfl (x:=.ref i) rfl (aa (fD B rfl ?_)));show wpAny _ _ (Builtin.SmallTypes.ownedTupleIsFree (.ref z)>>=_) _ _ _;refine aa (uD u R λh1 O a=>?_);rw[aq aS];refine aa ?_;rw[<-Array.forIn_toList];simp only[cQ,eS];refine aa (aa (a8 ?_));show wpAny _ _ (Builtin.SmallTypes.nextOf (.ref h)>>=_) _ _ _;cases v:l[t]? with
 |none=>exact aa (wpAny_nextOf_list_end H (G.extBut a.extBut D.i1z) (F.extBut a.extBut D.l1z) v λI e d y=>k I e (λc o c1 C _ q=>d _ _ C (a.extBut _ _ c1 q)) y)
 |some x=>have P:j[r]?=Z:=f.resolve_left (by rw[v];exact λq=>nomatch q);refine aa (dG (G.extBut a.extBut D.i1z) (F.extBut a.extBut D.l1z) v λI N d=>ao (ao ?_));dsimp only;refine aa (aa (a8 ?_));show wpAny _ _ (Builtin.SmallTypes.nextOf (.ref g)>>=_) _ _ _;exact aa (wpAny_nextOf_list_end H ((M.extBut a.extBut D.i2z).extBut d.extBut D.i12.symm) ((L.extBut a.extBut D.l2z).extBut d.extBut D.l2i1) P λS e m y=>k S e (λc o c1 C U q=>m _ _ U (d.extBut _ _ C (a.extBut _ _ c1 q))) y)
def AJ(S:Addr)(h:Heap)(c b a:Array Value):Prop:=∀(j:Nat) v,a[j]?=Y v->∃T x y,v=.ref T/\c[j]?=Y x/\b[j]?=Y y/\IsPair h T x y/\S<T
theorem AK{S z TI TO T E C P O:Addr}{l r:Array Value}(g:Heap)(hh:A.in1.handled=Z)(D:ZipApart z TI TO E C P O)(B:g.get? S=Z/\g.get? z=Z/\g.get? E=Z/\g.get? C=Z)(X:(∃o,g.get? P=Y o)/\∃o,g.get? O=Y o)(hn:min l.size r.size<=sizeLine):
    ∀(m i:Nat) (s:Shared) (acc:Array Value) (c:Nat) (b:Bool),min l.size r.size - i=m->i<=min l.size r.size->acc.size=i->(∃K,s.heap.get? T=Y K/\∃v n,K.cls=.type "tuple"/\K.data=.seq v n)->tJ s.heap z TI TO T b->IsPair s.heap TI (.ref E) (.ref C)->s.heap.IsListIter E P i->s.heap.IsListIter C O i->s.heap.IsList P l->s.heap.IsList O r ->
      s.heap.get? S=Y (zl acc c)->AJ S s.heap l r acc->(∀b o,g.get? b=Y o->s.heap.get? b=Y o) ->
      (∀u t c',t.size=min l.size r.size->AJ S u l r t->u.get? S=Y (zl t c')->(∀b o,g.get? b=Y o->u.get? b=Y o)->R (.ok (.ret .none)) { s with heap:=u }) ->
      codeAny (model prog w) A (.builtin "list.extend.loop" {[.ref S,.ref z,.none],[]}) R s
:=by
  intro m;induction m using Nat.strongRecOn with
  |_ m ih=>
    rintro i s acc c b hm hi ha ⟨K,ht,tv,tn,tc,td⟩ V G j1 j2 m1 m2 hS W Q hR;have tz:s.TypeIs (.ref z) "zip":={_,V,rfl}
    refine cB F.entry_extend_loop ?_;rw[cf cq _];show wpAny _ A.in1 (pyNext (.ref z)>>=_) _ _ s;refine aa ?_;unfold pyNext;have nz:∀a o v n,s.heap.get? a=Y o->o.data=.seq v n->a≠z:=λa o v n f h q=>by subst q;rw[V] at f;cases f;cases h
    have M:∀a o v n,s.heap.get? a=Y o->o.data=.seq v n->a≠E:=λa o v n f h q=>by subst q;obtain⟨o',p,_,e4⟩:=j1;rw[f] at p;cases p;rw[h] at e4;cases e4
    have L:∀a o v n,s.heap.get? a=Y o->o.data=.seq v n->a≠C:=λa o v n f h q=>by subst q;obtain⟨o',p,_,e4⟩:=j2;rw[f] at p;cases p;rw[h] at e4;cases e4
    by_cases SA:i<min l.size r.size
    . obtain⟨x,hx⟩:∃x,l[i]?=Y x:={l[i]'(by omega),by simp}
      obtain⟨y,hy⟩:∃y,r[i]?=Y y:={r[i]'(by omega),by simp}
      refine aa (wpAny_attempt (cK (name:=zZ "__next__") tz eC
        (dP eC tz F.entry_zip_next (EM D V ht G j1 j2 m1 m2 hx hy λu G_ H_ I_ D_ U=>ao ?_) (F.args_zip_next_1 _))))
      have d:∀a o v n,s.heap.get? a=Y o->o.data=.seq v n->u.get? a=Y o:=λa o v n f h=>U a o (nz a o v n f h) (M a o v n f h) (L a o v n f h) f;have hS':=d _ _ _ _ hS rfl;show wpAny _ A.in1 (updateSeq S (·.push (.ref (zB s)))>>=_) _ _ _;refine aa (cC hS' rfl ?_ (by rw[ha];omega));have I:=a9 (Obj.mapSeq (·.push (Value.ref (zB s)))) hS' rfl;have k:∀a o,a≠S->u.get? a=Y o->(u.update S (Obj.mapSeq (·.push (Value.ref (zB s))))).get? a=Y o:=λa o q e=>(aP _ _ (Ne.symm q)).trans e;refine ao {cT cq _,?_};have H:∀a o,s.heap.get? a=Y o->o.cls≠.type "list"->a≠S:=λa o f h q=>by subst q;rw[hS] at f;cases f;exact h rfl
      have J_:P≠S:=λq=>by obtain⟨o,e⟩:=X.1;rw[q,B.1] at e;cases e
      have K_:O≠S:=λq=>by obtain⟨o,e⟩:=X.2;rw[q,B.1] at e;cases e
      have zS:z≠S:=H z _ V (by intro q;injection q with q;revert q;decide);have TS:T≠S:=H T _ ht (by rw[tc];intro q;injection q with q;revert q;decide);have L_:TI≠S:=H TI _ G (by intro q;injection q with q;revert q;decide);have i1S:E≠S:=by obtain⟨o,f,h,p⟩:=id j1;exact H E o f (by rw[h];intro q;injection q with q;revert q;decide)
      have i2S:C≠S:=by obtain⟨o,f,h,p⟩:=id j2;exact H C o f (by rw[h];intro q;injection q with q;revert q;decide)
      have N:(zB s)≠S:=λq=>by have:=au hS;rw[<-q] at this;exact a7 _ this
      refine ih (min l.size r.size - (i+1)) (by omega) (i+1) _ (acc.push (.ref (zB s))) _ true rfl SA (by rw[Array.size_push,ha]) {K,k _ _ TS (d _ _ _ _ ht td),tv,tn,tc,td} (k _ _ zS G_) (k _ _ L_ (d _ _ _ _ G rfl)) (H_.at λo e=>k _ _ i1S e) (I_.at λo e=>k _ _ i2S e)
        ?_ ?_ I ?_ (λa o e=>?_) λh2 t c' q1 q2 q3 q4=>hR h2 t c' q1 q2 q3 q4
      . obtain⟨o,f,h,n,p⟩:=m1
        exact{o,k _ _ J_ (d _ _ _ _ f p),h,n,p}
      . obtain⟨o,f,h,n,p⟩:=m2
        exact{o,k _ _ K_ (d _ _ _ _ f p),h,n,p}
      . intro j v e
        by_cases hj:j<acc.size
        . have e':acc[j]?=Y v:=by rw[eJ] at e;rw[aq (aO hj)] at e;exact e
          sleep 1;obtain⟨T',x',y',r1,r2,r3,r4,r5⟩:=W j v e';sleep 2;exact{T',x',y',r1,r2,r3,k _ _ (H _ _ r4 (by intro q;injection q with q;revert q;decide)) (d _ _ _ _ r4 rfl),r5}
        . have hj2:j=acc.size:=by
            by_cases q:j=acc.size
            . exact q
            . rw[eJ,aq q] at e
              have:acc[j]?=Z:=by simp;omega
              rw[this] at e;cases e
          subst hj2;rw[eJ,ah rfl] at e;cases e;rw[ha];exact{_,x,y,rfl,hx,hy,k _ _ N D_,au hS}
      . have a1:a≠S:=λq=>by rw[q,B.1] at e;cases e
        have a2:a≠z:=λq=>by rw[q,B.2.1] at e;cases e
        have a3:a≠E:=λq=>by rw[q,B.2.2.1] at e;cases e
        have a4:a≠C:=λq=>by rw[q,B.2.2.2] at e;cases e
        exact k a o a1 (U a o a2 a3 a4 (Q a o e))
    . have J:l[i]?=Z\/r[i]?=Z:=by
        by_cases q:l.size<=i
        . exact .inl (by simp;omega)
        . exact .inr (by simp;omega)
      refine aa (wpAny_attempt (cK (name:=zZ "__next__") tz eC
        (dP eC tz F.entry_zip_next (EN hh D V ht G j1 j2 m1 m2 J λu e U he=>?_) (F.args_zip_next_1 _))))
      obtain⟨o,ho,hc⟩:=he;refine aa (wpAny_isInstance (T:="StopIteration") (b:=true) {(o),ho,hc} isSubtype_stop (ao ?_));have d:∀a o v n,s.heap.get? a=Y o->o.data=.seq v n->u.get? a=Y o:=λa o v n f h=>U a o (nz a o v n f h) (M a o v n f h) (L a o v n f h) f;show wpAny _ A.in1 (ret Value.none) _ _ _;refine ao (hR u acc c (by omega) (λj v e=>?_) (d _ _ _ _ hS rfl) λa o e=>?_)
      . obtain⟨T',x',y',r1,r2,r3,r4,r5⟩:=W j v e
        exact{T',x',y',r1,r2,r3,d _ _ _ _ r4 rfl,r5}
      . have a2:a≠z:=λq=>by rw[q,B.2.1] at e;cases e
        have a3:a≠E:=λq=>by rw[q,B.2.2.1] at e;cases e
        have a4:a≠C:=λq=>by rw[q,B.2.2.2] at e;cases e
        exact U a o a2 a3 a4 (Q a o e)
theorem ye{S z J I E B O N:Addr}{g k:Array Value}{a b:Value}{c:Nat} (d:Heap) (hh:A.in1.handled=Z) (D:ZipApart z J I E B O N) (t:d.get? S=Z/\d.get? z=Z/\d.get? E=Z/\d.get? B=Z) (nTO:d.get? I=Z) (G:(∃o,d.get? O=Y o)/\∃o,d.get? N=Y o) (hn:min g.size k.size<=sizeLine)
  (hz:IsZip s.heap z J I .none) (l:IsPair s.heap J (.ref E) (.ref B)) (H:IsPair s.heap I a b) (j1:s.heap.IsListIter E O 0) (j2:s.heap.IsListIter B N 0) (m1:s.heap.IsList O g) (m2:s.heap.IsList N k)
  (U:s.heap.get? S=Y (zl #[] c)) (kp0:∀b o,d.get? b=Y o->s.heap.get? b=Y o)
  (hR:∀h' its c',its.size=min g.size k.size->AJ S h' g k its->h'.get? S=Y (zl its c')->(∀b o,d.get? b=Y o->h'.get? b=Y o)->R (.ok (.ret .none)) { s with heap:=h' }):
  codeAny (model prog w) A (.builtin "list.extend.loop" {[.ref S,.ref z,.none],[]}) R s:=by
 refine cB F.entry_extend_loop ?_;rw[cf cq _];show wpAny _ A.in1 (pyNext (.ref z)>>=_) _ _ s;have M:∀a o,s.heap.get? a=Y o->o.cls≠.type "list"->a≠S:=λa o i m q=>by subst q;rw[U] at i;cases i;exact m rfl
 have J_:O≠S:=λq=>by obtain⟨o,e⟩:=G.1;rw[q,t.1] at e;cases e
 have K_:N≠S:=λq=>by obtain⟨o,e⟩:=G.2;rw[q,t.1] at e;cases e
 have X:z≠S:=M z _ hz (by intro q;injection q with q;revert q;decide);have L_:J≠S:=M J _ l (by intro q;injection q with q;revert q;decide);have W:I≠S:=M I _ H (by intro q;injection q with q;revert q;decide);have C:E≠S:=by obtain⟨o,i,m,V⟩:=id j1;exact M E o i (by rw[m];intro q;injection q with q;revert q;decide)
 have u:B≠S:=by obtain⟨o,i,m,V⟩:=id j2;exact M B o i (by rw[m];intro q;injection q with q;revert q;decide)
 have r:∀h':Heap,(∀c o,c≠z->c≠I->c≠E->c≠B->s.heap.get? c=Y o->h'.get? c=Y o)->∀a o,d.get? a=Y o->h'.get? a=Y o:=λh' h a o e=>
  h a o (λq=>by rw[q,t.2.1] at e;cases e) (λq=>by rw[q,nTO] at e;cases e) (λq=>by rw[q,t.2.2.1] at e;cases e) (λq=>by rw[q,t.2.2.2] at e;cases e) (kp0 a o e)
 by_cases SA:0<min g.size k.size
 .obtain⟨x,hx⟩:∃x,g[0]?=Y x:={g[0]'(by omega),by simp}
  obtain⟨y,hy⟩:∃y,k[0]?=Y y:={k[0]'(by omega),by simp}
  refine aa (wpAny_pyNext_zip_item D hz l H j1 j2 m1 m2 hx hy λh' G_ aaq H_ I_ P sz h=>?_);have Q:h'.get? S=Y (zl #[] c):=h S _ (Ne.symm X) (Ne.symm W) (Ne.symm C) (Ne.symm u) U;show wpAny _ A.in1 (updateSeq S (·.push (.ref (zB s)))>>=_) _ _ _;refine aa (cC Q rfl ?_);have K:=a9 (Obj.mapSeq (·.push (Value.ref (zB s)))) Q rfl;have f:∀a o,a≠S->h'.get? a=Y o->(h'.update S (Obj.mapSeq (·.push (Value.ref (zB s))))).get? a=Y o:=λa o q e=>(aP _ _ (Ne.symm q)).trans e;have p:(zB s)≠S:=λq=>by have:=au U;rw[<-q] at this;exact a7 _ this
  refine ao {cT cq _,AK (T:=(zB s)) d hh D t G hn (min g.size k.size - 1) 1 _ #[.ref (zB s)] _ false rfl SA rfl {_,f _ _ p P,_,_,rfl,rfl} (f _ _ X G_) (f _ _ L_ (h J _ D.TIz D.TITO D.TIi1 D.TIi2 l)) (H_.at λo e=>f _ _ C e) (I_.at λo e=>f _ _ u e) ?_ ?_ K ?_ (λa o e=>?_) λh2 its c' q1 q2 q3 q4=>hR h2 its c' q1 q2 q3 q4}
  .obtain⟨o,i,m,n,V⟩:=m1;exact{o,f _ _ J_ (h _ _ D.l1z D.l1TO D.l1i1 D.l1i2 i),m,n,V}
  .obtain⟨o,i,m,n,V⟩:=m2;exact{o,f _ _ K_ (h _ _ D.l2z D.l2TO D.l2i1 D.l2i2 i),m,n,V}
  .intro j v e;cases j with
   |zero=>cases e;exact{_,x,y,rfl,hx,hy,f _ _ p P,au U}
   |succ j=>simp at e
  .exact f a o (λq=>by rw[q,t.1] at e;cases e) (r h' h a o e)
 .have L:g[0]?=Z\/k[0]?=Z:=by
   by_cases q:g.size<=0
   .exact .inl (cO (by omega))
   .exact .inr (cO (by omega))
  refine aa (wpAny_pyNext_zip_end hh D hz l H j1 j2 m1 m2 L λh' h=>?_);show wpAny _ A.in1 (ret Value.none) _ _ _;exact ao (hR h' #[] c (by show 0=_;omega) (λj v e=>by simp at e) (h S _ (Ne.symm X) (Ne.symm W) (Ne.symm C) (Ne.symm u) U) (r h' h))
def AL:typeLookup (.type "zip") "__len__"=pure Z:=by rw[fx,dM];kernel_rfl
def yf:typeLookup (.type "zip") "__length_hint__"=pure Z:=by rw[fx,dM];kernel_rfl
def yg{z u k t r p n:Addr}{m l:Array Value}{a b:Value}{Q:Px} (d:Heap) (hh:A.handled=Z) (D:ZipApart z u k t r p n) (V:d.get? z=Z/\d.get? t=Z/\d.get? r=Z) (y:d.get? k=Z) (C:(∃o,d.get? p=Y o)/\∃o,d.get? n=Y o) (hn:min m.size l.size<=sizeLine) (I:d.objs.size<=(zB s))
  (hz:IsZip s.heap z u k .none) (G:IsPair s.heap u (.ref t) (.ref r)) (F:IsPair s.heap k a b) (j1:s.heap.IsListIter t p 0) (j2:s.heap.IsListIter r n 0) (X:s.heap.IsList p m) (W:s.heap.IsList n l) (B:∀b o,d.get? b=Y o->s.heap.get? b=Y o)
  (h:∀h' its c,its.size=min m.size l.size->AJ (zB s) h' m l its->h'.get? (zB s)=Y (zl its c)->(∀b o,d.get? b=Y o->h'.get? b=Y o)->Q (.ref (zB s)) { s with heap:=h' }):
  wpAny (model prog w) A (call (.type "list") [.ref z]) Q E s:=by
 have v:z<(zB s):=au hz;refine uC λH c j K=>?_;have g:IsZip H z u k .none:=K _ _ hz;have x:Shared.TypeIs { s with heap:=H } (.ref z) "zip":={_,g,rfl}
 unfold Builtin.List.listExtendWith;refine aa (cE x ?_);have U:Builtin.List.listSameRef (.ref (zB s)) (.ref z)=false:=by simp[Builtin.List.listSameRef,cL v]
 have T:(Value.type "zip"==Value.type "list")=false:=by decide
 have S:(Value.type "zip"==Value.type "tuple")=false:=by decide
 simp only[U,T,S,df,cy,fC];refine aa (wpAny_pyIter_zip g (aa (a8 ?_)));unfold Builtin.List.listLengthHint;refine aa (eA x AL ?_);dsimp only;rw[aq (by decide),aq (by decide)];refine aa (eA x yf ?_);show wpAny _ _ (pure true) _ _ _;refine ao ?_;rw[ah (by decide)];refine aa (fu (aa ?_));show wpAny _ _ (updateSeq (zB s) (·.push .none)>>=λ_=>updateSeq (zB s) (·.pop)) _ _ _;refine aa (cC j rfl ?_);have i:=a9 (Obj.mapSeq (·.push Value.none)) j rfl;refine cC (hz:=by seq_fits) i rfl ?_;have J:=a9 (Obj.mapSeq (·.pop)) i rfl;have f:∀b o,s.heap.get? b=Y o->((H.update (zB s) (Obj.mapSeq (·.push Value.none))).update (zB s) (Obj.mapSeq (·.pop))).get? b=Y o :=
  λb o e=>by
   have L:(zB s)≠b:=λq=>by have:=au e;rw[<-q] at this;exact a7 _ this
   exact(aP _ _ L).trans ((aP _ _ L).trans (K b o e))
 have R:d.get? (zB s)=Z:=by
  cases q:d.get? (zB s) with
  |none=>rfl
  |some o=>have:=au q;exact absurd (aI this I) (a7 _)
 refine ao {cT cq _,ye d (show A.in1.in1.handled=Z from hh) D {(R),V} y C hn (f _ _ hz) (f _ _ G) (f _ _ F) (j1.at λo e=>f _ _ e) (j2.at λo e=>f _ _ e) (X.at λo e=>f _ _ e) (W.at λo e=>f _ _ e) J (λb o e=>f b o (B b o e)) λh' its c' P O N M=>{rfl,h h' its c' P O N M}}
end
end PySem
namespace L2
open PySem PySem.Spec PyProof.Rows PySem.Builtin PySem.Builtin.Str
section
def c6.Qu{t':Nat}{i1 i2:Addr}(I:c6 X pins σ H s)(k:∀b o,b≠i1->b≠i2->s.heap.get? b=Y o->h'.get? b=Y o)(y:o9 X pins H i1)(x:o9 X pins H i2):c6 X pins σ H { s with heap:=h',toks:=t' }:=by
 sleep 1;obtain⟨t,g,_,i,D,l⟩:=y;sleep 2;sleep 1;obtain⟨p,f,_,h,C,j⟩:=x;sleep 2;have d:∀b u,H b=Y u->b≠i1/\b≠i2:=λb u e=>{(λz=>by rw[z,t] at e;cases e),(λz=>by rw[z,p] at e;cases e)}
 have a:∀b,b∉[i1,i2]->b≠i1/\b≠i2:=λb hb=>{λz=>hb (by simp[z]),λz=>hb (by simp[z])}
 refine I.step (g':=s.gens) (d':=s.drawn) (ch:=[i1,i2]) ?_ (λb o _ _ hc e _=>k b o (a b hc).1 (a b hc).2 e) (λb o _ _ hc e _=>{o.slots,k b o (a b hc).1 (a b hc).2 e}) (λ_ _ _ _ n=>n)
  (λb o hc e=>{o,k b o (a b hc).1 (a b hc).2 e}) (λ_ _ e=>e) (λ_ _ _ e=>e) (λb ps e=>{#[],by rw[e];simp}) ?_ ?_ I.bare
 .intro b hb;rcases ag.mp hb with e|hb
  .subst e;exact{(i),g,D,l}
  .have e:b=i2:=by simpa using hb
   subst e;exact{(h),f,C,j}
 .rintro m ⟨o,A,B,w,r⟩;exact{o,A,B,k _ o (Ne.symm g) (Ne.symm f) w,r}
 .intro b u e;refine(I.gR b u e).pA (λc v hc q=>?_) (λ_ q=>q) λ_ _ q=>q;rcases hc with z|z
  .rw[z] at q ⊢;exact k _ _ (d b u e).1 (d b u e).2 q
  .exact k _ _ (d c _ z).1 (d c _ z).2 q
end
def M_(K:Fg)(l:Addr):It where
 go:=λi H=>∃a x,nE K H l a/\a[i]?=Y x
 Ui:=λi H y c=>∃T x,y=.ref T/\H T=Z/\(∀b,nE K H l b->b[i]?=Y x)/\c=upd H T (.tup [.int (i:Nat),x])
 stop:=λi H=>∃a,nE K H l a/\a.length<=i
def ID{P:Program}{K:Fg}{G:Lx}{kt:Nat}{tp:Pos}(l n g:Addr)(C:n≠g):D8 P w K (.Tuple G kt tp) (M_ K l) [n,g] n (λi h=>(∃f,IsEnum h n g (i:Nat) f)/\h.IsListIter g l i) where
 mem:=by simp
 obj:=λi h j b hb=>by
  obtain⟨⟨f,m⟩,y⟩:=j;rcases ag.mp hb with e|hb
  .subst e;exact{_,m,λv z=>by cases z}
  .have e:b=g:=by simpa using hb
   subst e;obtain⟨o,e,c,d⟩:=y;exact{o,e,λv z=>by rw[d] at z;cases z}
 keep:=λi h h' j k=>{by obtain⟨f,m⟩:=j.1;exact{f,k n (by simp) _ m},j.2.at λo e=>k g (by simp) o e}
 item:=by
  intro X U hw V hc i r s σ H E I R j Q;subst U hw V;obtain⟨⟨f,m⟩,y⟩:=j;obtain⟨xs,x,J,N⟩:=Q;obtain⟨M,L,p,hz⟩:=I.list J;obtain⟨u,hu,ru⟩:=L.get N;refine wpAny_pyNext_enum_item m y p.isList (x:=u) (by simpa using hu) C λh1 S O B hsz kp=>{_,rfl,?_}
  refine wpAny_letOwnedTupleGo_enum S λh2 T W=>?_;have F:n<(zB s):=au m;have A:g<(zB s):=by obtain⟨o,e,_⟩:=y;exact au e
  have I1:=I.laid (a:=(zB s)) (o:=.tup [.int (i:Nat),x]) (t':=s.toks+1) (h':=s.heap.push { cls:=.type "tuple",data:=.seq #[.int i s.toks,u] }) (λ_ _ q=>ae _ q) (aE _) {by show 2<=sizeLine;decide,[.int i s.toks,u],.cons {_,rfl} (.cons ru .nil),_,aF _ rfl,rfl,0,rfl};have t:∀b∈[n,g],o9 X r (upd H (zB s) (.tup [.int (i:Nat),x])) b:=λb hb=>by
   obtain⟨g1,g2⟩:=R b hb;refine{?_,g2};have:b≠(zB s):=by
    rcases ag.mp hb with e|hb
    .rw[e];exact aO F
    .rw[show b=g by simpa using hb];exact aO A
   rw[cp this];exact g1
  have I2:=I1.Qu (h':=h2) (t':=s.toks+1) (i1:=n) (i2:=g) (λb o b1 b2 e=>(W.2 b b1).trans (by
   by_cases hb:b=(zB s)
   .subst hb;have e':Y o=Y { cls:=.type "tuple",data:=.seq #[.int i s.toks,u] }:=e.symm.trans (aF _ rfl);cases e';exact B
   .have D:=au e;rw[eP] at D;have aar:b<(zB s):=Nat.lt_of_le_of_ne (Nat.le_of_lt_succ D) hb;have q:s.heap.get? b=Y o:=(Heap.get?_push_ne _ _ _ hb).symm.trans e;exact kp b o b1 b2 q)) (t n (by simp)) (t g (by simp))
  exact{.ref (zB s),_,I2,rfl,{_,x,rfl,I.fresh,λys hy=>by rw[I.BV hy J];exact N,rfl},{{(u),T},O.at λo e=>(W.2 _ (Ne.symm C)).trans e},λb hb=>(t b hb).1}
 done:=by intro X U hw V hc i r s σ H E I R j Q;subst U hw V;obtain⟨⟨f,m⟩,y⟩:=j;obtain⟨xs,J,N⟩:=Q;obtain⟨M,L,p,hz⟩:=I.list J;sleep 1;obtain⟨f0,f1,f2,f3,f4,f5⟩:=R g (by simp);sleep 2;have hl:=L.length;exact wpAny_pyNext_enum_end (I.ok.hd hc) m y p.isList (by simp;omega) λh' eb=>{rfl,I.turned (t':=s.toks) (λb o hb e=>eb b o hb e) f0 f1 f3 f4 f5}
 self:=λ_ _ _ _ _ j h=>by obtain⟨f,m⟩:=j.1;exact wpAny_pyIter_enum m h
section
variable {a c o:Expr}
def XW(K:Fg)(d:TE):TI:=λb H R=>d b H λv a=>∃l c,v=.ref l/\nE K a l c/\R (M_ K l) a
def Qv{f:Lx}{u:Nat}{o:Pos}{m:TE}(C:Gl X "enumerate")(B:X.mg "enumerate"=Z)(D:PE X e m)(n:zr0 (starEach [e] X.env=[(false,eval e X.env)])):PI X (.Tuple f u o) (.Call (.Name "enumerate" p) [e] [] pos) (XW X.K m):=by
 intro a s k H R I h;refine br (oh I C B (by rfl) ?_);refine bL ?_ (by rw[n];rfl) (by rfl);rw[n];refine bN (gY (@D a s k H _ I h) ?_);rintro v c ⟨x,j,g,r,l,L,G,A,q⟩;refine bY ?_;subst G;cases r;obtain⟨y,N,t,O⟩:=g.list A;refine call_enumerate_list t.isList λE d i M w=>?_;refine wpAny_pyIter_enum d ?_;have J:c6 X a k j { c with heap:=E }:=g.kept (t':=c.toks) w;have F:∀b,(zB c)<=b->o9 X a j b:=λb hb=>g.D7 hb (g.gR.fresh hb);exact{_,[(zB c)+1,(zB c)],_,_,j,rfl,J,ID l _ _ (cL (dN _)),{{_,d},i},λb hb=>F b (by
  rcases ag.mp hb with z|hb
  .rw[z];exact fA _
  .rw[show b=(zB c) by simpa using hb];exact aE _),q}
def pK(a:Lp):Lp:=a.zipIdx.map λx=>.tuple [.int x.2,x.1]
def yZ(f:a0->Od):a0->Option Lp:=λa=>(f a).bind λd=>match d with | .list ds=>Y (pK ds)|_=>Z
def IE(h:(pK ds)[i]?=Y d):∃x,ds[i]?=Y x/\d=.tuple [.int (i:Nat),x]:=by
 unfold pK at h;rw[aB,List.getElem?_zipIdx] at h;cases q:ds[i]? with
 |none=>rw[q] at h;cases h
 |some x=>rw[q] at h;simp at h;exact{x,rfl,h.symm}
def Cw{K:Fg}{c:Hp}{l:Addr}(b:nE K c l vs)(j:bz K c ds vs):rj K (M_ K l) (pK ds) c:=λu a=>by
 have p:(pK ds).length=ds.length:=by simp[pK]
 refine{{vs,a.seq b,by rw[p,j.length];exact aE _},λi d q=>?_};obtain⟨x,r,rfl⟩:=IE q;obtain⟨v,h,s⟩:=j.get r;refine{{vs,v,a.seq b,h},?_};rintro y t ⟨T,z,o,f,n,m⟩;have e:=n vs (a.seq b);rw[h] at e;cases e;subst o m;refine{iX f,λw k g=>c5.my.mpr {T,_,rfl,pB.of (by rw[g T f];exact da),bz.cons (c5.ee.mpr rfl) (bz.cons (s.same k) bz.nil)}}
end
end L2
namespace L2
open PySem PySem.Spec PyProof.Rows PySem.Builtin PySem.Builtin.Str
def N_(x:Str):It where
 go:=λi _=>i<x.cps.size
 Ui:=λi H y a=>a=H/\∃c,x.cps[i]?=Y c/\y=.str {#[c]}
 stop:=λi _=>x.cps.size<=i
def Cy{P:Program}{K:Fg}{F:String}(p:F="str_ascii_iterator"\/F="str_iterator")(x:Str)(t:Tok)(m:Addr):D8 P w K tg (N_ x) [m] m (λi h=>h.IsStrIter m F x t i) where
 mem:=by simp
 obj:=λi h f b a=>by
  have e:b=m:=by simpa using a
  subst e;obtain⟨o,e,c,d⟩:=f;exact{o,e,λv z=>by rw[d] at z;cases z}
 keep:=λi h l f k=>by obtain⟨o,e,r⟩:=f;exact{o,k m (by simp) o e,r}
 item:=by
  intro X L hw M J i j s D H E I q f hg;subst L hw M;sleep 1;obtain⟨C,B,Q,A,y,u⟩:=q m (by simp);sleep 2;have n:x.cps[i]?=Y (x.cps[i]'hg):=Array.getElem?_eq_getElem hg;rcases p with rfl|rfl
  .refine wpAny_pyNext_ascii_item f n λl g G=>?_;have O:c6 X j D H { s with heap:=l,toks:=s.toks+1 }:=I.turned (t':=s.toks+1) (λb o a e=>(G.2 b a).trans e) C B A y u;obtain⟨o,e,c,d⟩:=id g;exact{_,rfl,yC (s:={ s with heap:=l,toks:=s.toks+1 }) e c d (by decide) {.str _,H,O,{_,rfl},{(rfl),_,n,rfl},g,λb a=>(q b a).1}}
  .refine wpAny_pyNext_wide_item f n λl g G=>?_;have O:c6 X j D H { s with heap:=l,toks:=s.toks+1 }:=I.turned (t':=s.toks+1) (λb o a e=>(G.2 b a).trans e) C B A y u;obtain⟨o,e,c,d⟩:=id g;exact{_,rfl,yC (s:={ s with heap:=l,toks:=s.toks+1 }) e c d (by decide) {.str _,H,O,{_,rfl},{(rfl),_,n,rfl},g,λb a=>(q b a).1}}
 done:=by
  intro X L hw M J i j s D H E I q f hg;subst L hw M;sleep 1;obtain⟨C,B,Q,A,y,u⟩:=q m (by simp);sleep 2;have n:x.cps[i]?=Z:=cO hg;rcases p with rfl|rfl
  .exact wpAny_pyNext_ascii_end (I.ok.hd J) f n λl N=>{rfl,I.turned (t':=s.toks) (λb o a e=>N b o a e) C B A y u}
  .exact wpAny_pyNext_wide_end (I.ok.hd J) f n λl N=>{rfl,I.turned (t':=s.toks) (λb o a e=>N b o a e) C B A y u}
 self:=λ_ _ _ _ _ f h=>by
  rcases p with rfl|rfl
  .exact wpAny_pyIter_striter_ascii f h
  .exact wpAny_pyIter_striter_wide f h
section
variable {a c o:Expr}
def Lg{g:TE}(k:PE X e g):PI X tg e (λσ H R=>g σ H λv d=>∃x,v=.str x/\R (N_ x) d):=by
 intro a s σ H R I h;refine gY (@k a s σ H _ I h) ?_;rintro v c ⟨y,d,f,j,x,m,q⟩;subst m;obtain⟨t,rfl⟩:=j;have i:∀b∈[(zB c)],o9 X a d b:=λb l=>by rw[show b=(zB c) by simpa using l];exact f.D7 (aE _) (f.gR.fresh (aE _))
 cases ha:x.cps.all (·<128)
 .exact wpAny_pyIter_wide ha {_,[(zB c)],_,_,d,rfl,f.kept (t':=c.toks) λb o e=>ae _ e,Cy (.inr rfl) x t _,{_,aF _ rfl,rfl,rfl},i,q}
 .exact wpAny_pyIter_ascii ha {_,[(zB c)],_,_,d,rfl,f.kept (t':=c.toks) λb o e=>ae _ e,Cy (.inl rfl) x t _,{_,aF _ rfl,rfl,rfl},i,q}
def oB(x:Str):Lp:=x.cps.toList.map λc=>.str {#[c]}
def oW(f:a0->Od):a0->Option Lp:=λa=>(f a).bind λd=>match d with | .list ds=>Y ds | .tuple ds=>Y ds | .str x=>Y (oB x)|_=>Z
def wt{K:Fg}(x:Str)(G:Hp):rj K (N_ x) (oB x) G:=λk h=>by
 have f:(oB x).length=x.cps.size:=by simp[oB]
 refine{by show x.cps.size<=_;rw[f];exact aE _,λi d q=>?_};have g:i<x.cps.size:=by have:=(aM.mp q).1;omega
 refine{g,?_};rintro y j ⟨e,c,b,a⟩;subst e a;have:d=.str {#[c]}:=by unfold oB at q;rw[aB,Array.getElem?_toList,b] at q;cases q;rfl
 subst this;exact{.refl _,λl _ _=>c5.e9.mpr rfl}
def Lh(h:PD X e f):Va X tg e (oW f) :=
 PI.imp (PI.or (Qe h) (Lg h)) <| by
  rintro o H R ⟨a,i,c,e,k⟩;obtain⟨d,g,b⟩:=bind_some e;cases d with
  |list l=>exact .inl {a,i,c,by show (f a).bind _=_;rw[g];exact b,k}
  |tuple l=>exact .inl {a,i,c,by show (f a).bind _=_;rw[g];exact b,k}
  |str x=>cases b;exact .inr {a,_,c,g,λv j m n=>{x,c5.e9.mp n,k _ j m (wt x j)}}
  |_=>cases b
def Li{a:Lx}{q:Nat}{n:Pos}(t:Gl X "enumerate")(s:X.mg "enumerate"=Z)(h:PD X e f)(b:zr0 (starEach [e] X.env=[(false,eval e X.env)])):Va X (.Tuple a q n) (.Call (.Name "enumerate" p) [e] [] pos) (yZ f) :=
 PI.imp (Qv t s h b) <| by
  rintro y H R ⟨j,z,b,e,k⟩;obtain⟨d,w,i⟩:=bind_some e;obtain⟨c,rfl⟩:∃c,d=.list c:=by cases d<;>first|exact{_,rfl}|cases i
  cases i;refine{j,_,b,w,λv x o r=>?_};sleep 1;obtain⟨l,m,rfl,g,u⟩:=c5.fj.mp r;sleep 2;exact{l,m,rfl,g,k _ x o (Cw g u)}
def iY:Lp->Od
 |[.dict iV]=>if gw iV=true then Z else Y (.list (iV.map (·.1)))
 |ds=>Gx ds
def y0{P:Program}{k:Key}{v:Value}(h:(gp P w).is k v=true):fT (kV k) v:=by
 rcases ip h with ⟨i,t,rfl,rfl⟩ | ⟨x,t,rfl,rfl⟩
 .exact{(t),rfl}
 .exact{(t),rfl}
theorem tK{K:Fg}{H H':Hp}:∀{a:List (fJ×fJ)}{b:List (Key×V)},gi K H a b->bz K H' (a.map (·.1)) (b.map λx=>kV x.1)
 |[],_,h=>by rw[gi.eB.mp h];exact bz.nil
 | (k,d)::r,_,h=>by
  sleep 1;obtain⟨y,v,c,rfl,rfl,i,t⟩:=gi.dt.mp h;sleep 2;refine bz.cons ?_ (tK t);cases y with
  |inl i=>exact c5.ee.mpr rfl
  |inr x=>exact c5.e9.mpr rfl
theorem y1{P:Program}{w:World}:∀{d:List (Key×V)}{c:List (Key×Value)}{its:Lw},KV d c->its.length=c.length->(∀(j:Nat) v,its[j]?=Y v->∃k x,c[j]?=Y (k,x)/\(gp P w).is k v=true)->fK (d.map λx=>kV x.1) its
 |_,_,its,.nil,hl,_=>by
  cases its with
  |nil=>exact .nil
  |cons _ _=>simp at hl
 |_,_,its,.cons (a:=p) (b:=q) h t,hl,hi=>by
  cases its with
  |nil=>simp at hl
  |cons u l=>
   obtain⟨k,x,i,g⟩:=hi 0 u rfl;have f:q=(k,x):=by simpa using i
   refine .cons ?_ (y1 t (by simpa using hl) λj v e=>hi (j+1) v (by simpa using e));show fT (kV p.1) u;rw[h.1,f];exact y0 g
def Lj(F:X.calm=true):jb X (.type "list") (λxs H Q=>∃l c,bz X.K H l xs/\iY l=Y c/\KO X.K H c Q):=by
 have E:jb X (.type "list") (λxs H Q=>∃b d p,xs=[V.ref p]/\Rd H p (.dK d)/\gi X.K H b d/\KO X.K H (.list (b.map (·.1))) Q):=by intro n s S H xs U Q I r h;sleep 1;obtain⟨b,d,p,rfl,C,A,k⟩:=h;sleep 2;obtain⟨u,rfl,t⟩:=rN r;cases t;sleep 1;obtain⟨z,G,T,f,N⟩:=rS I.gR C;sleep 2;refine wq (knd:=gp X.prog X.w) (I.ok.hd F) G N (by rw[<-f.length];exact z) λW q its O D g m y=>?_;have B:=y1 (P:=X.prog) (w:=X.w) (its:=its.toList) f (by simpa using D) (λj v e=>g j v (by simpa using e));have R:=I.laid (a:=(zB s)) (o:=.lst (d.map λx=>kV x.1)) (t':=q) y (aE _) {by rw[aj];exact z,its.toList,O,B,by simpa using m};exact{.ref (zB s),_,R,rfl,k.ya (tK A) _ I.fresh}
 refine jb.imp (jb.or Qf E) ?_;rintro xs H Q ⟨l,c,i,e,k⟩;unfold iY at e;split at e
 .rename_i b;by_cases g:gw b=true
  .rw[ah g] at e;cases e
  .rw[aq g] at e;cases e;obtain⟨v,rfl,J⟩:=ij i;sleep 1;obtain⟨p,d,rfl,M,L⟩:=J.pG (by simpa using g);sleep 2;exact .inr {(b),d,p,rfl,M,L,k}
 .exact .inl {(l),c,i,e,k}
def Qw(m:X.calm=true)(j:Gl X "list")(i:X.mg "list"=Z)(n:ux X (e::es) ff)(l:zr0 (zE e es X))(a:zr0 ((backTo pos (starEach es X.env)).any (·.1)=false)):
  PF X (.Call (.Name "list" p) (e::es) [] pos) (iH iY ff) :=
 PE.imp (yI (Lj m) j i (by rfl) n (by decide) (by decide) l a) <| by rintro r H Q ⟨c,d,h,e,k⟩;obtain⟨b,q,o⟩:=bind_some e;exact{c,b,h,q,λs t f g=>{b,d,g,o,k.later f}}
def XX(b a:Lp):Lp:=(b.zip a).map λp=>.tuple [p.1,p.2]
def Vg(x y:fJ):Od:=match x,y with
 |.list xs,.list a=>Y (.list (XX xs a))
 |_,_=>Z
def c6.SJ{a:Addr}{u:HO}(I:c6 X pins σ H s)(f:o9 X pins H a)(g:ia X.prog X.w (upd H a u) s.heap a u):c6 X pins σ (upd H a u) s:=by
 sleep 1;obtain⟨j,k,_,h,l,i⟩:=f;sleep 2;have d:∀b v,H b=Y v->upd H a u b=Y v:=λb v e=>by rw[cp (gs e j)];exact e
 have:=I.step (g':=s.gens) (d':=s.drawn) (t':=s.toks) (h':=s.heap) (H':=upd H a u) (ch:=[a]) (λb hb=>by rw[show b=a by simpa using hb];exact{(h),k,l,i}) (λb o _ _ _ e _=>e) (λb o _ _ _ e _=>{o.slots,e}) (λb o hc _ n=>by rw[cp (λz=>hc (by simp[z]))];exact n)
  (λb o _ e=>{(o),e}) (λb xs e=>d b _ e) (λb o v e=>d b _ e) (λb ps e=>{#[],by rw[d b _ e];simp}) (λm hm=>hm) ?_ I.bare
 .exact this
 .intro b v e;by_cases hb:b=a
  .subst hb;rw[da] at e;cases e;exact g
  .rw[cp hb] at e;exact(I.gR b v e).pA (λ_ _ _ q=>q) (λc q=>d c _ q) λc xs q=>d c _ q
def fT.uniq{x y:V}(a:fT x u)(b:fT y u):x=y:=by have c:=a.abs;rw[b.abs] at c;exact(bB c).symm
theorem GK{b:Ax}{B:St}:∀(m:List (V×V)) (us:Lw) {H:Hp}{s:Shared},c6 X b B H s->us.length=m.length ->
  (∀(j:Nat) (v:Value) (p:V×V),us[j]?=Y v->m[j]?=Y p->∃T x y,v=.ref T/\IsPair s.heap T x y/\fT p.1 x/\fT p.2 y/\(o9 X b H T\/∃d c l k,IsPair s.heap T d c/\fT l d/\fT k c/\H T=Y (.tup [l,k]))) ->
  ∃A z,dn H A/\c6 X b B A s/\fK z us/\(∀a,H a=Z->A a=Z\/.ref a∈us)/\∀(j:Nat) (p:V×V),m[j]?=Y p->∃T,z[j]?=Y (.ref T)/\A T=Y (.tup [p.1,p.2])
 |[],us,H,s,I,hl,_=>by
  cases us with
  |nil=>exact{H,[],.refl H,I,.nil,(λa h=>.inl h),λj p e=>by simp at e}
  |cons _ _=>simp at hl
 |p::m,us,H,s,I,hl,hi=>by
  cases us with
  |nil=>simp at hl
  |cons v us=>
   sleep 1;obtain⟨T,x,y,rfl,F,D,C,N⟩:=hi 0 v p rfl rfl;sleep 2;have first:∃i,dn H i/\c6 X b B i s/\i T=Y (.tup [p.1,p.2])/\∀a,a≠T->i a=H a:=by
    rcases N with f | ⟨d,c,l,k,E,q1,q2,hT⟩
    .refine{upd H T (.tup [p.1,p.2]),iX f.1,I.SJ f {by show 2<=sizeLine;decide,[x,y],.cons D (.cons C .nil),_,F,rfl,0,rfl},da,λa G=>cp G}
    .have e:(#[d,c]:Array Value)=#[x,y]:=by
      have U:s.heap.get? T=Y { cls:=.type "tuple",data:=.seq #[d,c] }:=E;have g:s.heap.get? T=Y { cls:=.type "tuple",data:=.seq #[x,y] }:=F;rw[U] at g;injection g with g
      injection g with _ _ g _;injection g
     have e':[d,c]=[x,y]:=by simpa using bJ Array.toList e
     injection e' with J t;injection t with t _;subst J t;rw[q1.uniq D,q2.uniq C] at hT;exact{H,.refl H,I,hT,λa _=>rfl}
   sleep 1;obtain⟨i,P,I1,hT,n⟩:=first;sleep 2
   obtain⟨H2,z,O,I2,S,W,M⟩:=GK m us (H:=i) I1 (by simpa using hl) λj v q J t=>by
    sleep 1;obtain⟨w,d,c,a1,a2,a3,a4,u⟩:=hi (j+1) v q (by simpa using J) (by simpa using t);sleep 2;refine{w,d,c,a1,a2,a3,a4,?_};by_cases r:w=T
    .subst r;exact .inr {x,y,p.1,p.2,F,D,C,hT}
    .rcases u with f | ⟨R,Q,l,k,L,K,b3,b4⟩
     .exact .inl {by rw[n w r];exact f.1,f.2}
     .exact .inr {R,Q,l,k,L,K,b3,P _ _ b4}
   refine{H2,.ref T::z,P.trans O,I2,.cons rfl S,λa G=>?_,λj q e=>?_}
   .by_cases o:a=T
    .exact .inr (by simp[o])
    .rcases W a (by rw[n a o];exact G) with h|h
     .exact .inl h
     .exact .inr (ai _ h)
   .cases j with
    |zero=>simp at e;subst e;exact{T,rfl,O _ _ hT}
    |succ j=>obtain⟨w,L,K⟩:=M j q (by simpa using e);exact{w,by simpa using L,K}
theorem EO{m pz:Pos} (hc:X.calm=true) (hgl:Gl X "list") (hml:X.mg "list"=Z) (hgz:Gl X "zip") (hmz:X.mg "zip"=Z) (ha:PD X a fa) (hb:PD X b fb)
  (s1:zr0 (starEach [.Call (.Name "zip" pz) [a,b] [] m] X.env=[(false,eval (.Call (.Name "zip" pz) [a,b] [] m) X.env)])) (s2:zr0 (starEach [a,b] X.env=[(false,eval a X.env),(false,eval b X.env)])) (s3:zr0 (starEach [b] X.env=[(false,eval b X.env)])):
  PF X (.Call (.Name "list" p) [.Call (.Name "zip" pz) [a,b] [] m] [] pos) (d2 Vg fa fb):=by
 intro c s σ H Q I ⟨ρ,d,hs,e,k⟩;obtain⟨x,e1,q1⟩:=bind_some e;obtain⟨y,e2,q2⟩:=bind_some q1;obtain⟨xs,rfl⟩:∃xs,x=.list xs:=by cases x<;>first|exact{_,rfl}|(cases y<;>cases q2)
 obtain⟨ys,rfl⟩:∃ys,y=.list ys:=by cases y<;>first|exact{_,rfl}|cases q2
 cases q2;refine br (oh I hgl hml (by rfl) ?_);refine bL ?_ (by rw[s1];rfl) (by rfl);rw[s1];refine bN ?_;refine br (oh I hgz hmz (by rfl) ?_);refine bL ?_ (by rw[s2,s3]) (by rw[s3];rfl);rw[s2];refine bN (gY (@ha c s σ H (λv H1=>dn H H1/\c5 X.K H1 (.list xs) v) I {ρ,_,hs,e1,λv H1 sH i=>{(sH),i}}) ?_);rintro u1 t1 ⟨v1,H1,I1,r1,sH1,i1⟩;refine bN (gY (@hb c t1 σ H1 (λv J=>dn H1 J/\c5 X.K J (.list ys) v) I1 {ρ,_,hs.same sH1,e2,λv J sH i=>{(sH),i}}) ?_);rintro u2 l ⟨v2,J,W,r2,sH2,i2⟩;refine bY ?_;sleep 1;obtain⟨l1,M,rfl,sq1,UZ⟩:=c5.fj.mp (i1.same sH2);sleep 2;sleep 1;obtain⟨l2,L,rfl,sq2,id2⟩:=c5.fj.mp i2;sleep 2;cases r1;cases r2;obtain⟨G,S,B,z1⟩:=W.list sq1;obtain⟨F,rv2,A,z2⟩:=W.list sq2;have b1:l1<(zB l):=by obtain⟨o,n,e,_⟩:=B;exact au e
 have b2:l2<(zB l):=by obtain⟨o,n,e,_⟩:=A;exact au e
 have fr:∀j,(zB l)<=j->l.heap.get? j=Z:=λj hj=>by
  cases q:l.heap.get? j with
  |none=>rfl
  |some o=>exact absurd (aI (au q) hj) (a7 _)
 have hn:min G.toArray.size F.toArray.size<=sizeLine:=by rw[aA,aA,<-S.length];omega
 refine call_zip_2 B.isList A.isList λh' hz hTI hTO j1 j2 sz kp=>bY ?_;refine yg l.heap (W.ok.hd hc) (zipApart_new b1 b2) {fr _ (cv _ _),fr _ (aE _),fr _ (cv _ _)} (fr _ (cv _ _)) {by obtain⟨o,_,e,_⟩:=B;exact{(o),e},by obtain⟨o,_,e,_⟩:=A;exact{(o),e}} hn (by show _<=h'.objs.size;rw[sz];exact cv _ _) hz hTI hTO j1 j2 (Heap.IsList.at B.isList λo e=>kp _ _ e) (Heap.IsList.at A.isList λo e=>kp _ _ e) kp λh2 U cc z D C kp2=>?_;have I3:c6 X c σ J { l with heap:=h2 }:=W.kept (t':=l.toks) kp2;have E:U.toList.length=(M.zip L).length:=by rw[List.length_zip,S.length,rv2.length,cI,z,aA,aA]
 have h:∀b,(zB l)<=b->o9 X c J b:=λb hb=>W.D7 hb (W.gR.fresh hb);obtain⟨H3,rs,P,I4,R,o7,at3⟩:=GK (M.zip L) U.toList I3 E λj v q g1 g2=>by
  sleep 1;obtain⟨T,x,y,O,t2',t3',t4',N⟩:=D j v (by simpa using g1);sleep 2;obtain⟨w1,w2⟩:=q;obtain⟨g3,g4⟩:=List.getElem?_zip_eq_some.mp g2;obtain⟨x',gx,rx⟩:=S.get g3;obtain⟨y',gy,ry⟩:=rv2.get g4;have ex:x'=x:=by have:G.toArray[j]?=Y x:=t2';rw[List.getElem?_toArray,gx] at this;cases this;rfl
  have ey:y'=y:=by have:F.toArray[j]?=Y y:=t3';rw[List.getElem?_toArray,gy] at this;cases this;rfl
  subst ex ey;exact{T,x',y',O,t4',rx,ry,.inl (h T (by have:h'.objs.size<T:=N;rw[sz] at this;exact bx (cv _ _) (dw this)))}
 have w:H3 h'.objs.size=Z:=by
  rcases o7 h'.objs.size (W.gR.fresh (by rw[sz];exact cv _ _)) with g|g
  .exact g
  .obtain⟨j,gj⟩:=List.mem_iff_getElem?.mp g;sleep 1;obtain⟨T,x,y,O,_,_,_,N⟩:=D j _ (by simpa using gj);sleep 2;cases O;exact absurd N (a7 _)
 have fS:o9 X c H3 h'.objs.size:={w,(h _ (by rw[sz];exact cv _ _)).2}
 have rl:rs.length<=sizeLine:=by rw[R.length,cI,z];exact hn
 have I5:=I4.SJ fS (u:=.lst rs) {rl,U.toList,cc,R,by simpa using C};refine{.ref h'.objs.size,_,I5,rfl,?_};refine(k.later (sH1.trans (sH2.trans P))).ya ?_ _ w;have go:∀(t f:Lp) (a1 a2:List V) (rr:List V),bz X.K J t a1->bz X.K J f a2->rr.length=(a1.zip a2).length->(∀(j:Nat) (q:V×V),(a1.zip a2)[j]?=Y q->∃T,rr[j]?=Y (.ref T)/\H3 T=Y (.tup [q.1,q.2]))->bz X.K H3 (XX t f) rr:=by
  intro t;induction t with
  |nil=>
   intro f a1 a2 rr h1 h2 z _;rw[bz.eB.mp h1] at z;have:rr=[]:=by simpa using z
   subst this;exact bz.nil
  |cons d1 t ih=>
   intro f a1 a2 rr h1 h2 z C;sleep 1;obtain⟨w1,a1',rfl,g1,g2⟩:=bz.dt.mp h1;sleep 2;cases f with
   |nil=>
    rw[bz.eB.mp h2] at z;have:rr=[]:=by simpa using z
    subst this;exact bz.nil
   |cons d2 f=>
    sleep 1;obtain⟨w2,a2',rfl,g3,g4⟩:=bz.dt.mp h2;sleep 2;cases rr with
    |nil=>simp at z
    |cons r rr=>
     obtain⟨T,t1,l⟩:=C 0 (w1,w2) rfl;have er:r=.ref T:=by simpa using t1
     subst er;refine bz.cons (c5.my.mpr {T,_,rfl,pB.of l,bz.cons (g1.same P) (bz.cons (g3.same P) bz.nil)}) (ih f a1' a2' rr g2 g4 (by simpa using z) λj q e=>?_);obtain⟨T',u1,u2⟩:=C (j+1) q (by simpa using e);exact{T',by simpa using u1,u2}
 exact go xs ys M L rs UZ id2 (by rw[R.length];exact E) at3
end
end L2
namespace PySem
open Builtin
def n4:entryFor table "set.update.loop"=Y Builtin.«set.update.loop»:=entryFor_of_tree (zK 0)
def lu:plainId "set.update.loop"=true:=by decide +kernel
section
variable {prog:Program}{K:Type} [DecidableEq K] {knd:KeyKind prog w K}
def rk(a:List K)(k:K):List K:=if k∈a then a else a++[k]
def l5(a b:List K):List K:=b.foldl rk a
def Cz(a:List K)(k:K):(rk a k).length<=a.length+1:=by unfold rk;split<;>simp
inductive tL (knd:KeyKind prog w K):Lw->List K->Prop
 |nil:tL knd [] []
 |cons {v:Value}{k:K}{vs:Lw}{ks:List K}:knd.is k v=true->v.scannable=true->tL knd vs ks->tL knd (v::vs) (k::ks)
theorem wu{D I l:Addr}{a:Array Value}{R:Result->Shared->Prop}(hh:A.in1.handled=Z)(d:D≠I)(c:Heap)(F:c.get? D=Z)(u:c.get? I=Z):
  ∀(B:Lw) (ks:List K) (i:Nat) (s:Shared) (acc:List K),a.toList.drop i=B->tL knd B ks->(∀b o,c.get? b=Y o->s.heap.get? b=Y o)->s.heap.IsListIter I l i->s.heap.IsList l a->s.heap.SetOf knd D (λk=>decide (k∈acc)) acc.length->acc.length+ks.length+1<scanBound ->
  (∀j N,j.SetOf knd D (λk=>decide (k∈l5 acc ks)) (l5 acc ks).length->(∀b o,c.get? b=Y o->j.get? b=Y o)->R (.ok (.ret .none)) { s with heap:=j,toks:=N }) ->
  codeAny (model prog w) A (.builtin "set.update.loop" {[.ref D,.ref I],[]}) R s
 |[],_,i,s,acc,hv,C,h0,H,G,hd,hz,V=>by
  cases C;refine cB n4 ?_;rw[cf lu _];show wpAny _ A.in1 (pyNext (.ref I)>>=_) _ _ s;have hn:a[i]?=Z:=by have:=List.drop_eq_nil_iff.mp hv;exact cO (by simpa using this)
  refine aa (dJ hh H G hn λj eb=>?_);show wpAny _ A.in1 (ret Value.none) _ _ _;refine ao ?_;sleep 1;obtain⟨o,L,M,t,x,r⟩:=hd;sleep 2;exact V j s.toks {o,L,M,t,eb _ _ d x,r} λb o e=>eb b o (λz=>by rw[z,u] at e;cases e) (h0 b o e)
 |v::B,_,i,s,acc,hv,C,h0,H,G,hd,hz,V=>by
  cases C with
  |@cons _ k _ ks hk P C=>
   refine cB n4 ?_;rw[cf lu _];show wpAny _ A.in1 (pyNext (.ref I)>>=_) _ _ s;have Q:i<a.size:=by have:=bJ List.length hv;simp at this;omega
   have hx:a[i]?=Y v:=by have:=bJ (·[0]?) hv;simpa using this
   have O:a.toList.drop (i+1)=B:=by
    have e:=b7 (l:=a.toList) (i:=i) (by simpa using Q);rw[hv] at e;injection e with _ f
    exact f.symm
   refine aa (dy H G hx λj X sb=>?_);have U:j.SetOf knd D (λk=>decide (k∈acc)) acc.length:=by sleep 1;obtain⟨o,L,M,t,x,r⟩:=id hd;sleep 2;exact{o,L,M,t,(sb.2 _ d).trans x,r}
   have nI:∀b o y n,s.heap.get? b=Y o->o.data=.seq y n->b≠I:=λb o y n g f z=>by subst z;obtain⟨oi,ei,ci,di⟩:=H;rw[g] at ei;cases ei;rw[f] at di;cases di
   have nD:∀b o y n,s.heap.get? b=Y o->o.data=.seq y n->b≠D:=λb o y n g f z=>by subst z;sleep 1;obtain⟨o',L,M,t,x,_,E,_⟩:=hd;sleep 2;rw[g] at x;cases x;rw[f] at E;cases E
   show wpAny _ A.in1 (holding [v] (setAdd D v)>>=_) _ _ _;refine aa (a8 ?_);unfold setAdd;refine a8 (aa (knd.pyHash hk ?_));simp only[ay] at hz;refine wpAny_setAddHashed_of (knd:=knd) (s:={ s with heap:=j,toks:=s.toks+1 }) hk P U (by omega) λJ m T=>?_;have p:J.SetOf knd D (λh=>decide (h∈rk acc k)) (rk acc k).length:=by
    have g:(λh=>decide (h∈acc)||decide (h=k))=λh=>decide (h∈rk acc k):=by
     funext h
     unfold rk;by_cases q:k∈acc
     .rw[ah q];by_cases q2:h=k
      .subst q2;simp[q]
      .simp[q2]
     .rw[aq q];simp
    have f:(if decide (k∈acc)=true then acc.length else acc.length+1)=(rk acc k).length:=by
     unfold rk;by_cases q:k∈acc
     .simp[q]
     .simp[q]
    rw[<-g,<-f];exact T
   refine ao {cT lu _,?_};have S:J.IsList l a:=by sleep 1;obtain⟨o,g,f,n,e3⟩:=G;sleep 2;exact{o,(m.2 _ (nD _ _ _ _ g e3)).trans ((sb.2 _ (nI _ _ _ _ g e3)).trans g),f,n,e3}
   have W:J.IsListIter I l (i+1):=X.at λo e=>(m.2 _ (Ne.symm d)).trans e;refine wu hh d c F u B ks (i+1) { s with heap:=J,toks:=s.toks+1 } (rk acc k) O C (λb o e=>?_) W S p ?_ λh3 N p k3=>V h3 N p k3
   .have b1:b≠I:=λz=>by rw[z,u] at e;cases e
    have b2:b≠D:=λz=>by rw[z,F] at e;cases e
    exact(m.2 b b2).trans ((sb.2 b b1).trans (h0 b o e))
   .have:=Cz acc k;omega
theorem yh{l:Addr}{o:Obj}{p:List K}{Q:Px} (V:A.handled=Z) (S:s.heap.get? l=Y o) (I:o.cls=.type "list") (g:o.data=.seq items n)
  (T:tL knd items.toList p) (C:p.length+1<scanBound)
  (h:∀h' tk,h'.SetOf knd (zB s) (λk=>decide (k∈l5 [] p)) (l5 [] p).length->(∀b o,s.heap.get? b=Y o->h'.get? b=Y o)->Q (.ref (zB s)) { s with heap:=h',toks:=tk }):
  wpAny (model prog w) A (call (.type "set") [.ref l]) Q E s:=by
 obtain⟨oc,O,N,y⟩:=o;simp only at I g;subst I g;have w1:=F.called_set.made;have w2:=F.called_set.sub;have w3:=F.called_set.notType;have w4:=F.called_set.canCreate;have w5:=F.typeCall_set_1 (.ref l);obtain⟨mc,mt,w6⟩:=F.called_set.mro;refine wpAny_call (codeAny_of_tree ?_);show wpAny _ _ (callAny (.type "set") _) _ _ _;refine ao {Code.quiet_builtin _ (by decide +kernel),cB F.entry_type_call ?_};rw[Around.under_plain (weight_type_call_type "set" [.ref l] []) rfl]
 repeat (any_goals (first|assumption|wp_step))
 refine b8 (code_set_new_1 (.ref l) (E:=E) (Q₁:=λv t=>∃a:Bool,v=.ref (zB s)/\t={ s with heap:=s.heap.push { cls:=.type "set",dict:=Z,data:=.set #[] 0 (.fresh 0 0 a) } }) λa=>{(a),rfl,rfl}) λM t1 d=>?_
 match M,d with
 |.error e,d=>exact d
 |.ok .next,d=>exact d.elim
 |.ok .brk,d=>exact d.elim
 |.ok .cont,d=>exact d.elim
 |.ok (.ret v),⟨a,e1,e2⟩=>
  subst e1 e2;have u:(s.heap.push { cls:=.type "set",dict:=Z,data:=.set #[] 0 (.fresh 0 0 a) }).get? (zB s)=Y { cls:=.type "set",dict:=Z,data:=.set #[] 0 (.fresh 0 0 a) }:=aF _ rfl;have G:(s.heap.push { cls:=.type "set",dict:=Z,data:=.set #[] 0 (.fresh 0 0 a) }).get? l=Y { cls:=.type "list",dict:=O,data:=.seq items n,slots:=y }:=ae _ S;have J:Shared.TypeIs { s with heap:=s.heap.push { cls:=.type "set",dict:=Z,data:=.set #[] 0 (.fresh 0 0 a) } } (.ref (zB s)) "set":={_,u,rfl}
  have X:=F.called_set.init.lookup;have W:=F.called_set.init.bind (.ref (zB s))
  repeat (any_goals (first|assumption|wp_step))
  refine b8 (codeAny_call_builtin (R:=wants (λr t=>r=.none/\∃h' tk,t={ s with heap:=h',toks:=tk }/\h'.SetOf knd (zB s) (λk=>decide (k∈l5 [] p)) (l5 [] p).length/\∀b o,s.heap.get? b=Y o->h'.get? b=Y o) E) F.called_set.init.plain F.entry_set_init (check_set_init_1 J ?_)) λL t2 c=>?_
  .have v1:=F.sub_list_set;have v2:=F.sub_list_frozenset;have v3:(Value.type "list"==Value.type "dict")=false:=by decide
   have H:(s.heap.push { cls:=.type "set",dict:=Z,data:=.set #[] 0 (.fresh 0 0 a) }).IsList l items:={_,G,rfl,n,rfl}
   unfold Builtin.«set.__init__» noKeywords Builtin.Frozenset.updateFrom;generalize m:pyIter=walk
   wp_walk
   subst m;refine dz H (aa (wpAny_runValue ?_));have x:(zB s)<(s.heap.push { cls:=.type "set",dict:=Z,data:=.set #[] 0 (.fresh 0 0 a) }).objs.size:=au u;have i:∀j,(zB s)<=j->s.heap.get? j=Z:=λj U=>by
    cases q:s.heap.get? j with
    |none=>rfl
    |some z=>exact absurd (aI (au q) U) (a7 _)
   have B:∀b o,s.heap.get? b=Y o->((s.heap.push { cls:=.type "set",dict:=Z,data:=.set #[] 0 (.fresh 0 0 a) }).push { cls:=.type "list_iterator",data:=.fields #[.ref l,.int 0 0] }).get? b=Y o:=λb o e=>ae _ (ae _ e);have f:((s.heap.push { cls:=.type "set",dict:=Z,data:=.set #[] 0 (.fresh 0 0 a) }).push { cls:=.type "list_iterator",data:=.fields #[.ref l,.int 0 0] }).SetOf knd (zB s) (λk=>decide (k∈([]:List K))) ([]:List K).length :=
    (funext λk=>by simp:(λ_:K=>false)=λk=>decide (k∈([]:List K)))▸(PyProof.Rows.setObjOf_fresh (knd:=knd) a).setOf (ae _ u) (by unfold scanBound;omega)
   refine wu (knd:=knd) (show A.in1.in1.in1.handled=Z from V) (aO x) s.heap (i _ (aE _)) (i _ (dw x)) items.toList p 0 _ [] rfl T B {_,aF _ rfl,rfl,rfl} (H.push _) f (by simpa using C) λh' tk D P=>?_;show wpAny _ _ _ _ _ _;refine ao ?_;show wpAny _ _ (ret Value.none) _ _ _;exact ao {(rfl),h',tk,rfl,D,P}
  .match L,c with
   |.error e,c=>exact c
   |.ok .next,c=>exact c.elim
   |.ok .brk,c=>exact c.elim
   |.ok .cont,c=>exact c.elim
   |.ok (.ret v),⟨e3,h',tk,e4,D,B⟩=>
    subst e3 e4
    repeat (any_goals (first|assumption|wp_step))
    exact h _ _ D B
end
end PySem
namespace L2
open PySem PySem.Spec PyProof.Rows PySem.Builtin PySem.Builtin.Str
def rm:Lp->Option (List Key)
 |[]=>Y []
 |d::r=>(qC d).bind λk=>(rm r).map (k::·)
theorem GL{P:Program}{w:World}{K:Fg}{H:Hp}:∀{f:Lp}{c:List Key}{b:List V}{g:Lw},rm f=Y c->bz K H f b->fK b g->tL (gp P w) g c
 |[],_,_,_,e,i,r=>by cases e;rw[bz.eB.mp i] at r;cases r;exact .nil
 |d::f,_,_,_,e,i,r=>by
  obtain⟨k,o,n⟩:=bind_some e;obtain⟨c,m,rfl⟩:=ak.mp n;sleep 1;obtain⟨v,b,rfl,l,j⟩:=bz.dt.mp i;sleep 2;cases r with
  |cons a h=>
   have:=iG o;subst this;rw[jv l] at a;refine .cons (oU a) ?_ (GL m j h);cases k with
   |inl i=>obtain⟨t,rfl⟩:=a;rfl
   |inr x=>obtain⟨t,rfl⟩:=a;rfl
section
variable {a c o:Expr}
def AM(f:a0->Od):a0->Od:=λb=>(f b).bind λd=>match d with
 |.list ds=>(rm ds).bind λa=>if a.length+1<4096 then Y (.int (l5 [] a).length) else Z
 |_=>Z
theorem y2{K:Type}[DecidableEq K]:∀(b a:List K),(l5 a b).length<=a.length+b.length
 |[],a=>by simp[l5]
 |k::b,a=>by have d:=y2 b (rk a k);have c:=Cz a k;rw[show l5 a (k::b)=l5 (rk a k) b from rfl,ay];omega
theorem IF{a r:Pos} (hc:X.calm=true) (D:Gl X "len") (A:X.mg "len"=Z) (C:Gl X "set") (z:X.mg "set"=Z) (ha:PD X e f)
  (L:zr0 (starEach [.Call (.Name "set" r) [e] [] a] X.env=[(false,eval (.Call (.Name "set" r) [e] [] a) X.env)])) (J:zr0 (starEach [e] X.env=[(false,eval e X.env)])):
  PD X (.Call (.Name "len" p) [.Call (.Name "set" r) [e] [] a] [] pos) (AM f):=by
 intro g s N H Q I ⟨O,d,hs,e,k⟩;obtain⟨x,e1,M⟩:=bind_some e;obtain⟨j,rfl⟩:∃j,x=.list j:=by cases x<;>first|exact{_,rfl}|cases M
 obtain⟨c,e2,m⟩:=bind_some (show (rm j).bind (λc=>if c.length+1<4096 then Y (fJ.int (l5 [] c).length) else Z)=Y d from M);by_cases y:c.length+1<4096
 .rw[ah y] at m;cases m;refine br (oh I D A PySem.boot_len ?_);refine cJ ?_ (by rw[L];rfl) (by rfl);rw[L];refine bN ?_;refine br (oh I C z (by rfl) ?_);refine bL ?_ (by rw[J];rfl) (by rfl);rw[J];refine bN (gY (@ha g s N H (λv H1=>dn H H1/\c5 X.K H1 (.list j) v) I {O,_,hs,e1,λv H1 S i=>{(S),i}}) ?_);rintro u1 t1 ⟨v1,H1,G,U,q,i1⟩;refine bY ?_;sleep 1;obtain⟨l,ws,rfl,R,u⟩:=c5.fj.mp i1;sleep 2;cases U;sleep 1;obtain⟨W,T,⟨o,n,ho,E,_,h⟩,z1⟩:=G.list R;sleep 2;refine yh (knd:=gp X.prog X.w) (G.ok.hd hc) ho E h (by simpa using GL e2 u T) (by unfold scanBound;exact y) λh' P hd V=>bY ?_;sleep 1;obtain⟨o',F,ep,t,g1,g2,g3,g4,g5,g6,g7,g8⟩:=hd;sleep 2;have b:F.size=(l5 [] c).length:=g8;have B:=y2 c ([]:List Key);refine call_len_set g1 g2 g3 g7 (by rw[b];simp at B;omega) ?_;rw[b];exact{.int _,H1,(G.kept (t':=P) V).tok _,{_,rfl},(k.later q).here (c5.ee.mpr rfl)}
 .rw[aq y] at m;cases m
def Lk(I:c6 X pins σ H s){x:fJ}(h:SeqAt.shaped x=true)(m:c5 X.K H x v)(k:fT v u)(z:A.units+x.depth<cLine):
  ∃e:Value->Bool,∀(d:fJ) (w:V) (y:Value),SeqAt.shaped d=true->c5 X.K H d w->fT w y->SeqAt.EqAt A s y u (e y)/\e y=fJ.eqv d x:=by
 obtain⟨t,j⟩:=I.oo (aX h) m k;refine{λy=>@decide (∃d a,Reads s.heap y d a/\SeqAt.shaped d=true/\fJ.eqv d x=true) (Classical.propDecidable _),λd w y b n c=>?_};obtain⟨a,f⟩:=I.oo (aX b) n c;have i:@decide (∃d a,Reads s.heap y d a/\SeqAt.shaped d=true/\fJ.eqv d x=true) (Classical.propDecidable _)=fJ.eqv d x:=by
  cases q:fJ.eqv d x with
  |true=>exact @decide_eq_true _ (Classical.propDecidable _) {(d),a,f,b,q}
  |false=>refine @decide_eq_false _ (Classical.propDecidable _) ?_;rintro⟨p,r,l,o,g⟩;have:=SeqAt.Reads.unique d p y _ _ (aX b) f l;subst this;rw[q] at g;cases g
 refine{?_,i};show SeqAt.EqAt A s y u (@decide _ (Classical.propDecidable _));rw[i];refine SeqAt.eqAt_reads d x A s _ _ a t f j (aX b) (aX h) ?_;have:min d.depth x.depth<=x.depth:=fe _ _;omega
theorem Ll(hu:X.A.units+64<cLine):Sr X "list.index" (λx vs H Q=>∃d J c,c5 X.K H d x/\bz X.K H J vs/\AG d J=Y c/\KD X.K H c Q):=by
 intro O s σ H v vs u us Q I rx rv h;sleep 1;obtain⟨d,J,cc,i1,i2,e,k⟩:=h;sleep 2;unfold AG at e;split at e
 .rename_i r x;by_cases l:SeqAt.shaped x=true/\r.all SeqAt.shaped=true/\x.depth<=60/\r.length<=sizeLine
  .rw[ah l] at e;obtain⟨j,e1,rfl⟩:=ak.mp e;sleep 1;obtain⟨h1,V,⟨dj,U,h4⟩,T⟩:=r9 e1;sleep 2;simp only[Nat.sub_zero] at V U T;sleep 1;obtain⟨p,w,rfl,sq,P⟩:=c5.fj.mp i1;sleep 2;cases rx;obtain⟨v2,rfl,i3⟩:=ij i2;obtain⟨N,rfl,B⟩:=rv.one;sleep 1;obtain⟨a,f,⟨⟨cls,dd,W,sl⟩,n,R,S,hdd,q⟩,z1⟩:=I.list sq;sleep 2;simp only at S q;subst S q;obtain⟨G,he⟩:=Lk I (A:=X.A.in1) l.1 i3 B (by show X.A.units+1+x.depth<cLine;omega);have sh:∀d∈r,SeqAt.shaped d=true:=aY.mp l.2.1;have b:∀(i:Nat) (y:Value),a[i]?=Y y->∃d,r[i]?=Y d/\SeqAt.EqAt X.A.in1 s y N (G y)/\G y=fJ.eqv d x:=λi y t=>by
    have E:i<w.length:=by rw[f.length];exact(aM.mp t).1
    have hw:w[i]?=Y w[i]:=aH E;obtain⟨y',o,z⟩:=f.get hw;rw[t] at o;cases o;obtain⟨d,q,C⟩:=P.get' hw;obtain⟨g,M⟩:=he d _ y (sh d (b9 q)) C z;exact{(d),q,g,M}
   have hj:j<a.toArray.size:=by rw[aA,<-f.length,<-P.length];exact V
   refine cH F.slot_list_index {_,R,rfl} F.entry_list_index (F.args_list_index_2 _ _) (SeqAt.list_indexAt p a.toArray n dd sl N G j hj ?_ ?_ ?_) {R,λy t=>?_,?_}
   .have h6:=l.2.2.2;have h7:sizeLine<2 ^ 62:=by decide
    omega
   .obtain⟨d,g,_,L⟩:=b j (a.toArray[j]) (by simp);rw[U] at g;cases g;rw[L];exact h4
   .intro m hm D;obtain⟨d,g,_,L⟩:=b m (a.toArray[m]) (by simp);rw[L];exact T m d D g
   .obtain⟨i,hi⟩:=List.mem_iff_getElem?.mp (show y∈a by simpa using t);obtain⟨d,_,M,_⟩:=b i y hi;exact M
   .exact{.int _,H,I.tok _,{_,rfl},k.here (c5.ee.mpr rfl)}
  .rw[aq l] at e;cases e
 .cases e
def Qx(g:fJ->Lp->Od)(f:a0->Od)(b:a0->Option Lp):a0->Od:=λa=>(f a).bind λd=>(b a).bind λc=>match d with | .list z=>g (.list z) c|_=>Z
def Vh{a:Str}{n:String}{g:fJ->Lp->Od} (j:Slot "list" a n) (q:typeOf (.builtin n)=pure (.type "method_descriptor")) (D:Sr X n (λx vs H Q=>∃d ds c,c5 X.K H d x/\bz X.K H ds vs/\g d ds=Y c/\KD X.K H c Q)) (C:PD X o f) (E:ux X (e::es) ff)
  (i:zr0 (attributeBase o a X.env (eval o X.env)=eval o X.env))
  (l:((backTo fQ (starEach (e::es) X.env)).all (λx=>!x.1)&&(backToKw fQ (keywordEach [] X.env)).all (λx=>x.1.isSome)
  &&decide ((e::es).length+([]:List Keyword).length+(if ([]:List Keyword).isEmpty then 0 else 1)<30))=true:=by rfl)
  (h:zr0 ((apos.endLine==fQ.line)=true)) (m:zr0 (zE e es X)) (b:zr0 ((backTo fQ (starEach es X.env)).any (·.1)=false)):
  PD X (.Call (.Attribute o a apos) (e::es) [] fQ) (Qx g f ff) :=
 PE.imp (yK cm j q D C E i l h m b) <| by
  rintro J H Q ⟨r,d,m,e,k⟩;obtain⟨x,I,G⟩:=bind_some e;obtain⟨ds,F,w⟩:=bind_some G;obtain⟨z,rfl⟩:∃z,x=.list z:=by cases x<;>first|exact{_,rfl}|cases w
  refine{r,_,m,I,λv N t u=>?_};sleep 1;obtain⟨p,vs,rfl,A,L⟩:=c5.fj.mp u;sleep 2;exact{.inl {(rfl),vs,A},r,ds,m.same t,F,λy M s B=>{_,ds,d,u.same s,B,w,k.later (t.trans s)}}
end
end L2
namespace L2
open PySem PySem.Spec PyProof.Rows
section
def wx(g:a0->Option Bool)(f:a0->Od)(e:a0):Lp->Option Lp
 |[]=>Y []
 |d::ds=>match d with
  |.tuple [a,b]=>(g (Y a::Y b::e)).bind λc=>if c then (f (Y a::Y b::e)).bind λy=>(wx g f e ds).bind λh=>Y (y::h) else wx g f e ds
  |_=>Z
def wy(q:a0->Option Lp)(a:List (Nat×Str))(g:a0->Option Bool)(f:a0->Od):a0->Od:=λb=>
 (q b).bind λc=>if c.length<=sizeLine then (wx g f (md a b) c).map .list else Z
def Lm{l:Expr}{a:Str}{n b o:Pos}{r:Nat}{i:Lx}{g:a0->Option Bool}
  (y:X.calm=true) (S:jH scope x) (t:scope.names.lookup a=Y .local) (m:∀p∈scope.names,p.2=.free->∃c,X.env.cells.lookup p.1=Y c) (k:ku X scope caps) (j:(x::a::caps.map (·.2)).Nodup)
  (v:Gz X (.Tuple [.Name x n,.Name a b] r o) iter q)
  (u:∀C s H fp,ve (kH X scope C (x::a::caps.map (·.2)) s H fp) i g)
  (w:∀C s H fp,PD (kH X scope C (x::a::caps.map (·.2)) s H fp) l f):Iu X (.ListComp l [{.Tuple [.Name x n,.Name a b] r o,iter,i,0}] scope pos) scope iter (tD X.K (wy q caps g f)):=
 (Cg (bd:=PK 2 (Ku (Gy 0) (Ku (Gy 1) Xy))) (λ_ G ds vs=>bz X.K G ds vs) bz.length (λh s=>h.same s) [x,a] (wx g f) y S m k v (λC s H fp=>PL rfl (yQ (v5 0 j rfl (.inl (cb S.var)) (.inr (cb S.var))) (yQ (v5 1 j rfl (.inl (cb t)) (.inr (cb t))) Kv))) u (λC s H fp=>GB (w C s H fp) rfl) yS (λ_ _ e=>by cases e;rfl) λc d ds B h=>by
  unfold wx at h;split at h
  .obtain⟨z,A,e⟩:=bind_some h;exact{[Y _,Y _],z,rfl,rfl,A,GA e}
  .cases h).data
def Iu.pe2{e:Expr}{j:Str}{k b l:Pos}{n:Nat}{d:Lx}{t:TE} (h:Iu X (.ListComp e [{.Tuple [.Name x k,.Name j b] n l,iter,d,0}] scope pos) scope iter t) (S:jH scope x) (g:∀p∈scope.names,p.2=.free->∃c,X.env.cells.lookup p.1=Y c)
  (r:zr 2 (∀x,foldedSetIterable iter X.env x=pure x)):PE X (.ListComp e [{.Tuple [.Name x k,.Name j b] n l,iter,d,0}] scope pos) t:=by
 intro a s i H Q I y;rw[eval_ListComp];refine dh (use:=Z) rfl r (nH g) S.kind S.loc (@h a s i H Q (compPost (model X.prog X.w) X.A X.xe Z (EP X a i Q)) I y ?_);intro D C E B F m z v u o q;exact{m,v,λG f=>{.ref D,B,z.v9 u o f,rfl,q}}
end
section
variable {a c:Expr}{rest:Lx}
def XY(d:fJ):Option Bool:=match d with | .bool b=>Y b|_=>Z
def oX(f g:a0->Od):a0->Od:=λa=>(f a).bind λd=>(XY d).bind λb=>if b then g a else Y (.bool false)
def Ln{b:Bool}(h:XY d=Y b):d=.bool b:=by cases d<;>first|(cases h;rfl)|cases h
def Qy{b:BoolOp}(h:PD X a f):PD X (.BoolOp b [a] pos) f:=T9 h
def Qz(l:PD X a fa)(j:PD X (.BoolOp .And (b::rest) pos) fb):PD X (.BoolOp .And (a::b::rest) pos) (oX fa fb) :=
 PE.imp (Ua l j) <| by
  rintro q H Q ⟨g,d,h,e,k⟩;obtain⟨x,o,n⟩:=bind_some e;obtain⟨y,m,c⟩:=bind_some n;cases Ln m;refine{g,_,h,o,λv p f i=>{y,c5.ej.mp i,?_}};cases y with
  |true=>rw[ah rfl] at c ⊢;exact{g,d,h.same f,c,k.later f}
  |false=>rw[aq aS] at c ⊢;cases c;exact k _ p f (c5.ej.mpr rfl)
def O_(x y:fJ):Od:=match x,y with | .bool a,.bool b=>Y (.bool (a==b))|_,_=>Z
def ER(x y:fJ):Od:=match x,y with | .bool a,.bool b=>Y (.bool (a != b))|_,_=>Z
def XZ:rf X (compareOp .Is) O_:=by
 intro f s j H x y v u Q I b a ⟨d,i,c,h,g,e,k⟩;cases d<;>cases i<;>try (simp[O_] at e;done)
 cases e;rw[c5.ej.mp h] at b;rw[c5.ej.mp g] at a;cases b;cases a;exact is_bool {.bl _,H,I,rfl,k.here (c5.ej.mpr rfl)}
def Lo:rf X (compareOp .IsNot) ER:=by
 intro f s j H x y v u Q I b a ⟨d,i,c,h,g,e,k⟩;cases d<;>cases i<;>try (simp[ER] at e;done)
 cases e;rw[c5.ej.mp h] at b;rw[c5.ej.mp g] at a;cases b;cases a;exact isnot_bool {.bl _,H,I,rfl,k.here (c5.ej.mpr rfl)}
def lD:Lp->Option (List Bool)
 |[]=>Y []
 |.bool b::r=>(lD r).map (b::·)
 |_::_=>Z
theorem se:∀{b:Lp}{a:List Bool},lD b=Y a->b=a.map .bool
 |[],a,h=>by cases h;rfl
 |d::r,a,h=>by
  cases d<;>try (simp[lD] at h;done)
  obtain⟨c,e,rfl⟩:=ak.mp h;rw[se e];rfl
def aas:Lp->Od | [.list ds]=>(lD ds).map λa=>.bool (a.any id)|_=>Z
def CA:Lp->Od | [.list ds]=>(lD ds).map λa=>.bool (a.all id)|_=>Z
def ES{K:Fg}{c:List Bool}{a:Lw}(i:bz K H (c.map .bool) vs)(r:fK vs a){v:Value}(e:a[j]?=Y v):∃b,c[j]?=Y b/\v=.bool b:=by
 have n:j<a.length:=(aM.mp e).1;have k:=r.length;have d:=i.length;have f:j<c.length:=by simpa [k,d] using (by rw[aj] at d;omega:j<c.length)
 have q:(c.map fJ.bool)[j]?=Y (.bool c[j]):=by rw[aB,aH f];rfl
 obtain⟨x,m,l⟩:=i.get q;obtain⟨u,h,g⟩:=r.get m;rw[e] at h;cases h;rw[c5.ej.mp l] at g;exact{_,aH f,g}
def Vi(w:X.calm=true):vZ X (.builtin "all") CA:=by
 intro j s E H G K Q I r ⟨D,c,i,e,k⟩
 match D,e with
 |[.list F],e=>
  obtain⟨d,C,rfl⟩:=ak.mp e;cases se C;obtain⟨v,rfl,z⟩:=ij i;sleep 1;obtain⟨p,J,rfl,B,m⟩:=c5.fj.mp z;sleep 2;obtain⟨u,rfl,n⟩:=rN r;cases n;obtain⟨a,h,o,O⟩:=I.list B;have g:=o.isList;have f:p<(zB s):=by obtain⟨_,e,_⟩:=g;exact au e
  refine call_all_walk (dz g ?_);refine{(zB s),[(zB s),p],[(zB s)],a.toArray.size,_,_,λi=>(d[i]?).getD true,rfl,Walks.list (A:=X.A.in1) (I.ok.hd w) _ p (aO f) a.toArray,
   {{_,aF _ rfl,rfl,rfl},g.push _},λi v M R S y l=>?_,λP L t=>?_}
  .obtain⟨b,e,rfl⟩:=ES m h (by simpa using y);simp only[e,Option.getD_some] at l;exact cg l
  .have e:((List.range a.toArray.size).all λi=>(d[i]?).getD true)=d.all id:=by
    have N:=h.length;have q:=m.length;rw[aj] at q;rw[aA,show a.length=d.length by omega];exact LSm.range_all d
   rw[e];refine{.bl _,H,I.kept λb x e=>?_,rfl,k.here (c5.ej.mpr rfl)};exact t b x (λhm=>by rw[dm.mp hm] at e;exact a7 _ (au e)) (ae _ e)
def tM(X:Cx)(a:Scope):Bool:=a.names.all λp=>p.2 != .free||(X.env.kindOf p.1==Y .cell||X.env.kindOf p.1==Y .free)
def Lq{d:Expr}{k:Pos}{b:Lx} (a:List (Nat×Str)) {g:a0->Option Bool}
  (t:Gz X (.Name x k) iter q)
  (n:∀C s H fp,ve (kH X scope C (x::a.map (·.2)) s H fp) b g)
  (u:∀C s H fp,PD (kH X scope C (x::a.map (·.2)) s H fp) d f)
  (v:zr0 (X.calm=true)) (S:zr 8 (jH scope x)) (j:zr0 (tM X scope=true)) (c:zr 9 (ku X scope a)) (i:zr 10 ((x::a.map (·.2)).Nodup))
  (o:zr 2 (∀x,foldedSetIterable iter X.env x=pure x)):PD X (.ListComp d [{.Name x k,iter,b,0}] scope pos) (iJ q a g f):=by
 intro l s m H Q I w;refine PR v S (λp r e=>I.ok.has p.1 ?_) c i t n u o s m H Q I w;have:=aY.mp j p r;simp only[eD,bne_iff_ne,ne_eq,bF] at this;rcases this with h|h
 .exact absurd e h
 .exact h
def jR(I:c6 X pins σ H s)(a:tM X scope=true):∀p∈scope.names,p.2=.free->∃c,X.env.cells.lookup p.1=Y c:=λp b e=>I.ok.has p.1 (by
 have:=aY.mp a p b;simp only[eD,bne_iff_ne,ne_eq,bF] at this;rcases this with h|h
 .exact absurd e h
 .exact h)
end
section
variable {a c o i:Expr}
def jL(d:fJ):Option Bool:=match d with
 |.dict iV=>if gw iV=true then Z else Y (!iV.isEmpty)
 |d=>Eu d
def uE(f:a0->Od):a0->Option Bool:=λa=>(f a).bind jL
def Ls(h:PD X e f)(r:zr 2 (∀whole,isTrue e X.env whole=(do let v <-whole;standAt e.pos;holding [v] (truthy v)))):Al X e (uE f) :=
 PT.imp (BX h r) <| by
  rintro u H Q ⟨l,b,q,e,k⟩;obtain⟨d,s,a⟩:=bind_some e;refine{l,d,q,s,λv t m j=>{b,?_,k t m}};cases d with
  |dict c=>
   unfold jL at a;by_cases g:gw c=true
   .dsimp only at a;rw[ah g] at a;cases a
   .dsimp only at a;rw[aq g] at a;cases a;sleep 1;obtain⟨p,i,rfl,o,n⟩:=j.pG (by simpa using g);sleep 2;refine .inr (.inr {i,o,?_});have:=n.length;cases c<;>cases i<;>first|rfl|(simp at this)
  |_=>exact Kn j a
def AN:fJ->Bool
 |.none=>true
 |_=>false
def ET(x y:fJ):Od:=match y with
 |.none=>Y (.bool (AN x))
 |y=>O_ x y
def oD(x y:fJ):Od:=match y with
 |.none=>Y (.bool (!AN x))
 |y=>ER x y
def SK{K:Fg}(i:c5 K H d v):decide (v=.kn)=AN d:=by
 cases d with
 |none=>rw[c5.iz.mp i];rfl
 |bool b=>rw[c5.ej.mp i];rfl
 |int j=>rw[c5.ee.mp i];rfl
 |str x=>rw[c5.e9.mp i];rfl
 |list a=>obtain⟨p,c,rfl,_⟩:=c5.fj.mp i;rfl
 |tuple a=>obtain⟨p,c,rfl,_⟩:=i.ig;rfl
 |dict e=>obtain⟨p,rfl,_⟩:=c5.jN.mp i;rfl
def Vj:rf X (compareOp .Is) ET:=by
 refine kI.imp (kI.or XZ Up) ?_;rintro x y H Q ⟨a,b,d,f,c,e,k⟩;cases b with
 |none=>cases e;exact .inr {c5.iz.mp c,k.here (c5.ej.mpr (by rw[SK f]))}
 |_=>exact .inl {(a),_,d,f,c,e,k}
def IG:rf X (compareOp .IsNot) oD:=by
 refine kI.imp (kI.or Lo O3) ?_;rintro x y H Q ⟨a,b,d,f,c,e,k⟩;cases b with
 |none=>cases e;exact .inr {c5.iz.mp c,k.here (c5.ej.mpr (by rw[SK f]))}
 |_=>exact .inl {(a),_,d,f,c,e,k}
structure IH (K:Fg) (mg:Str->Ow) (x:Str) (d:fJ):Prop where
 ex:∃u v,mg x=Y u/\fT v u/\∀H:Hp,c5 K H d v
def Lu(c:IH X.K X.mg x d)(a:Gl X x)(b:zd0 (zg x)):PD X (.Name x pos) (dC d):=by sleep 1;obtain⟨u,v,h,g,f⟩:=c.ex;sleep 2;exact PE.imp (Gd a h g b) <| by rintro i H Q ⟨j,m,l,e,k⟩;cases e;exact k.here (f H)
structure oE (P:Program) (w:World) (K:Fg) (mg:Str->Ow) (x:Str) (iV:List (fJ×fJ)):Prop where
 ex:∃(a:Addr) (vs:List (Key×Value)),mg x=Y (.ref a)/\(a==sysModules)=false/\(∀h:Heap,K.In h->h.DictOf (gp P w) a vs) /\
  ∀k:Key,(j8 (jD k) iV=Z/\valueAt vs k=Z)\/∃d v u,j8 (jD k) iV=Y d/\valueAt vs k=Y u/\fT v u/\∀H:Hp,c5 K H d v
def SM(a:List (fJ×fJ))(k:fJ):Od:=(qC k).map λ_=>(j8 k a).getD .none
def QA(M:oE X.prog X.w X.K X.mg x iV)(J:Gl X x)(L:PD X e fb)(j:M1 X (.Name x p) "get" apos e fQ)(o:zd0 (zg x)):PD X (.Call (.Attribute (.Name x p) "get" apos) [e] [] fQ) (λρ=>(fb ρ).bind (SM iV)):=by
 sleep 1;obtain⟨a,vs,P,O,B,N⟩:=M.ex;sleep 2;intro c s D H Q I ⟨ρ,d,G,W,k⟩;obtain⟨y,V,U⟩:=bind_some W;obtain⟨z,T,l⟩:=ak.mp U;have:=iG T;subst this;have C:=B s.heap I.og;refine wpAny_Call_method j.base j.d_ j.line fg cz fy (kf I J P ?_ o);refine{C.typeIs,λb q=>?_,?_}
 .cases q;sleep 1;obtain⟨F,_,_,g,f,_⟩:=C;sleep 2;exact{F,g,f.2.1}
 rw[j.trees];refine cM rfl (dY (bN (gY (@L c s D H (λv H1=>dn H H1/\c5 X.K H1 (jD z) v) I {ρ,_,G,V,λv H1 m i=>{(m),i}}) ?_)));rintro iv t ⟨v,H1,r,u,m,n⟩;refine bY ?_;rw[jv n] at u;have h:=B t.heap r.og;refine call_meetsIn cz h.typeIs dB (dv _ _) (meets_dict_get (gp X.prog X.w) a (oU u) O) {_,h.mapOf,?_};have A:=k.later m;rcases N z with ⟨g,f⟩ | ⟨d',E,u',g,f,S,R⟩
 .rw[g] at l;subst l;rw[f];exact{.kn,H1,r.tok _,rfl,A.here (c5.iz.mpr rfl)}
 .rw[g] at l;subst l;rw[f];exact{E,H1,r.tok _,S,A.here (R H1)}
def Lv(a:List (fJ×fJ))(k:fJ):Od:=(qC k).map λ_=>.bool (j8 k a).isSome
def Ly(a:List (fJ×fJ))(k:fJ):Od:=(qC k).bind λ_=>j8 k a
def Vk(A:oE X.prog X.w X.K X.mg x iV)(u:Gl X x)(z:PD X i fb)(g:Ep i)(h:zd0 (zg x)):PD X (.Subscript (.Name x p) i pos) (λρ=>(fb ρ).bind (Ly iV)):=by
 sleep 1;obtain⟨V,P,D,T,C,B⟩:=A.ex;sleep 2;intro a s o H Q I ⟨ρ,d,r,O,k⟩;obtain⟨y,N,M⟩:=bind_some O;obtain⟨m,L,c⟩:=bind_some M;have:=iG L;subst this;refine Gr PySem.F.slot_dict_getitem.lookup g (kf I u D (gY (@z a s o H (λv H1=>dn H H1/\c5 X.K H1 (jD m) v) I {ρ,_,r,N,λv H1 e i=>{(e),i}}) ?_) h);rintro S t ⟨v,H1,n,l,e,f⟩;rw[jv f] at l;have b:=C t.heap n.og;refine{b.typeIs,?_};rcases B m with ⟨j,_⟩ | ⟨U,q,R,j,J,G,E⟩
 .rw[j] at c;cases c
 .rw[j] at c;cases c;exact wpAny_getItem_of (oU l) b.mapOf J {q,H1,n.tok _,G,(k.later e).here (E H1)}
end
def P_{K:Fg}{n:Int}{t:Tok}(h:mg x=Y (.int n t)):IH K mg x (.int n):={_,.int n,h,{(t),rfl},λH=>c5.ee.mpr rfl}
def X0{K:Fg}{b:Array Value}{c:List V}(h:K.lookup a=Y (zy b n))(d:b.size<=sizeLine)(e:fK c b.toList)(H:Hp):pB K H a c:=.inr {_,b,n,h,rfl,rfl,d,e}
def Q_{K:Fg}{b:Array Value}{c:Lr}(h:K.lookup a=Y (zy b n))(d:b.size<=sizeLine)(e:fK (c.map V.str) b.toList)(H:Hp):c5 K H (.tuple (c.map .str)) (.ref a) :=
 c5.my.mpr {a,_,rfl,X0 h d e H,mf c}
def QB(P:Params)(x:Str)(t:Tok)(v:Value):DictEntry:={ hash:=fJ.keyHash P x,key:=.str x t,val:=v }
def CB(w:World)(x:Str):fJ.keyHash w.params x=TZ w (.inr x):=by
 first
 |rfl
 | (unfold fJ.keyHash TZ hashStr;rfl)
theorem y3{P:Program}{w:World}:∀(l:List (Str×Tok×Value×fJ)),Pairs (gp P w) (l.map λq=>QB w.params q.1 q.2.1 q.2.2.1) (l.map λq=>((.inr q.1:Key),q.2.2.1))
 |[]=>.nil
 |q::l=>.cons (pv P w q.1 q.2.1) rfl (y3 l)
theorem CC{K:Fg}(k:Key):∀(l:List (Str×Tok×Value×fJ)),(∀q∈l,∃v,fT v q.2.2.1/\∀H:Hp,c5 K H q.2.2.2 v) ->
  (j8 (jD k) (l.map λq=>(.str q.1,q.2.2.2))=Z/\valueAt (l.map λq=>((.inr q.1:Key),q.2.2.1)) k=Z)\/∃d v u,j8 (jD k) (l.map λq=>(.str q.1,q.2.2.2))=Y d/\valueAt (l.map λq=>((.inr q.1:Key),q.2.2.1)) k=Y u/\fT v u/\∀H:Hp,c5 K H d v
 |[],_=>.inl {(rfl),rfl}
 |q::l,hv=>by
  by_cases e:(.inr q.1:Key)=k
  .right;obtain⟨v,g,f⟩:=hv q (by simp);have a:kL (.str q.1) (jD k)=true:=by rw[show fJ.str q.1=jD (.inr q.1) from rfl,jm];exact aU e
   exact{q.2.2.2,v,q.2.2.1,by simp[j8,a],by simp[valueAt,bV,e],g,f}
  .have a:¬ kL (.str q.1) (jD k)=true:=by rw[show fJ.str q.1=jD (.inr q.1) from rfl,jm];simp[e]
   rcases CC k l (λz h=>hv z (ai _ h)) with ⟨c,b⟩ | ⟨d,v,u,c,b,i⟩
   .exact .inl {by rw[af];unfold j8;rw[aq a];exact c,by simp only[valueAt,af,bV,az e];exact b}
   .exact .inr {d,v,u,by rw[af];unfold j8;rw[aq a];exact c,by simp only[valueAt,af,bV,az e];exact b,i}
def QC{P:Program}{K:Fg}{l:List (Str×Tok×Value×fJ)} (g:mg x=Y (.ref a)) (m:(a==sysModules)=false)
  (i:K.lookup a=Y { cls:=.type "dict",data:=.dict (l.map λq=>QB w.params q.1 q.2.1 q.2.2.1).toArray n }) (d:(l.map (·.1)).Nodup) (f:∀q∈l,∃v,fT v q.2.2.1/\∀H:Hp,c5 K H q.2.2.2 v):
  oE P w K mg x (l.map λq=>(.str q.1,q.2.2.2)):=by
 refine{a,l.map λq=>(.inr q.1,q.2.2.1),g,m,λh o=>?_,λk=>CC k l f};refine{_,_,n,o a _ i,{(rfl),rfl,rfl},rfl,λe j=>?_,by simpa using y3 l,?_}
 .have c:e∈l.map λq=>QB w.params q.1 q.2.1 q.2.2.1:=by simpa using j
  obtain⟨q,_,rfl⟩:=av.mp c;exact{.inr q.1,pv P w q.1 q.2.1,CB w q.1}
 .rw[dH];have:((λx:Key×Value=>x.1)∘λq:Str×Tok×Value×fJ=>((.inr q.1:Key),q.2.2.1))=(λz:Str=>(.inr z:Key))∘(·.1):=rfl;rw[this,<-dH];exact List.Pairwise.map _ (λa b h z=>h (by injection z)) d
section
variable {P:Program}{K:Fg}{A:Addr}{N:Nat}{its:Array Value}{d:Lp}
inductive SV:Lw->Lp->Prop
 |nil:SV [] []
 |cons {y:Str}{t:Tok}{l:Lw}{m:Lp} (h:SV l m):SV (.str y t::l) (.str y::m)
def SV.ok{l:Lw}{m:Lp}(h:SV l m):∃a:Lr,m=a.map .str/\fK (a.map V.str) l:=by
 induction h with
 |nil=>exact{[],rfl,.nil}
 |@cons y t l m _ b=>obtain⟨a,rfl,v⟩:=b;exact{y::a,rfl,.cons {(t),rfl} v}
def SV.tup(s:SV its.toList d)(l:K.lookup A=Y (zy its N))(z:its.size<=sizeLine)(H:Hp):c5 K H (.tuple d) (.ref A):=by obtain⟨a,rfl,v⟩:=s.ok;exact Q_ l z v H
def X1(X:K.In h)(G:h.Ns mainGlobals mg)(k:W.nsIn K mainGlobals x=Y (Y (.ref A)))(l:K.lookup A=Y (zy its N))(z:its.size<=sizeLine)(s:SV its.toList d):IH K mg x (.tuple d):={.ref A,.ref A,W.mg_of X G k,rfl,s.tup l z}
inductive WA (K:Fg) (w:World):List DictEntry->List (fJ×fJ)->Prop
 |nil:WA K w [] []
 |cons {y:Str}{t:Tok}{V:Addr}{n:Nat}{its:Array Value}{d:Lp}{es:List DictEntry}{m:List (fJ×fJ)} (l:K.lookup V=Y (zy its n)) (z:its.size<=sizeLine) (s:SV its.toList d) (c:WA K w es m):WA K w ({fJ.keyHash w.params y,.str y t,.ref V}::es) ((.str y,.tuple d)::m)
def WA.ok{b:List DictEntry}{m:List (fJ×fJ)}(h:WA K w b m):∃l:List (Str×Tok×Value×fJ),b=(l.map λq=>QB w.params q.1 q.2.1 q.2.2.1)/\m=(l.map λq=>(.str q.1,q.2.2.2))/\∀q∈l,∃v,fT v q.2.2.1/\∀H:Hp,c5 K H q.2.2.2 v:=by
 induction h with
 |nil=>exact{[],rfl,rfl,nofun}
 |@cons y t V n its d b m l z s _ e=>obtain⟨c,rfl,rfl,a⟩:=e;exact{(y,t,.ref V,.tuple d)::c,rfl,rfl,bO.mpr {{.ref V,rfl,s.tup l z},a}}
def kvS(l:List (Str×Lr)):List (fJ×fJ):=l.map λp=>(.str p.1,.tuple (p.2.map .str))
def kS:fJ->Str
 |.str y=>y
 |_=>Str.empty
def dictAt{b:List DictEntry}{m:List (fJ×fJ)}(X:K.In h)(G:h.Ns mainGlobals mg)(k:W.nsIn K mainGlobals x=Y (Y (.ref A)))(z:(A==sysModules)=false)(l:K.lookup A=Y { cls:=.type "dict",data:=.dict b.toArray N })(c:WA K w b m)(d:(m.map λp=>kS p.1).Nodup):oE P w K mg x m:=by obtain⟨e,rfl,rfl,a⟩:=c.ok;exact QC (W.mg_of X G k) z l (by simpa [cW,kS] using d) a
end
section
variable {a c o i:Expr}{rest:List Stmt}{h:a0->Option Out}
def PS.frame{t:TS}(h:PS X st t):PS X st (λD σ H=>∃G B,H=c7 G B/\jd G B/\t { nx:=λa b=>jd b B->D.nx a (c7 b B),rt:=λv b=>jd b B->D.rt v (c7 b B),bk:=λa b=>jd b B->D.bk a (c7 b B),ct:=λa b=>jd b B->D.ct a (c7 b B) } σ G):=by
 intro i s σ H D I ⟨G,B,k,f,j⟩;subst k;sleep 1;obtain⟨m,l,_,_,c⟩:=GD f.ok I f;sleep 2;refine gY (@h _ s σ G _ l j) λfl g q=>?_;cases fl with
 |next=>obtain⟨a,b,J,q⟩:=q;obtain⟨d,e⟩:=c b g a J;exact{a,_,e,q d}
 |brk=>obtain⟨a,b,J,q⟩:=q;obtain⟨d,e⟩:=c b g a J;exact{a,_,e,q d}
 |cont=>obtain⟨a,b,J,q⟩:=q;obtain⟨d,e⟩:=c b g a J;exact{a,_,e,q d}
 |ret u=>sleep 1;obtain⟨v,a,b,J,r,q⟩:=q;sleep 2;obtain⟨d,e⟩:=c b g a J;exact{v,a,_,e,r,q d}
def Lz(i:Nat) {J b:Pos}{j:Expr}{p:Pos}{c:Lx} (a:List (Nat×Str)) {g:a0->Option Bool} (hN:X.N.Nodup)
  (R:Gz X (.Name x p) iter q)
  (Q:∀C s H fp,ve (kH X scope C (x::a.map (·.2)) s H fp) c g)
  (T:∀C s H fp,PD (kH X scope C (x::a.map (·.2)) s H fp) j f) (W:zd0 (i∉O))
  (U:zr0 (X.calm=true)) (S:zr 8 (jH scope x)) (l:zr0 (tM X scope=true)) (n:zr 9 (ku X scope a)) (u:zr 10 ((x::a.map (·.2)).Nodup))
  (w:zr0 (X.N[i]?=Y y)) (P:zr0 (X.env.scope.names.lookup y=Y .local)) (t:zr0 (swapsWith (.ListComp j [{.Name x p,iter,c,0}] scope pos) (Y (.Name y J)) b.line X.env=pure true))
  (h:zr 2 (∀x,foldedSetIterable iter X.env x=pure x)):me X m O (.Assign [.Name y J] (.ListComp j [{.Name x p,iter,c,0}] scope pos) b) (dV (fY O (iJ q a g f)) i):=by
 intro K s E H D I V;refine PS.imp (PS.frame (As (GC U S (jR I l) n u R Q T) S (jR I l) hN w P t h)) (?_) s E H D I V;rintro D E H ⟨L,o,G,h,e,k⟩;obtain⟨d,e1,rfl⟩:=ak.mp e;obtain⟨B,eH,fm,r⟩:=h.o.ex;refine{G,B,eH,fm,il O L,d,h.o.rest,e1,λv G' F M A=>?_};exact k _ _ G' F (iS.set {gE.tB h.o.len r h.o.kn F A,h.z} W M)
def II{i:Expr}{b:Str}{k c l:Pos}{n:Nat}{d:Lx} (a:List (Nat×Str)) {g:a0->Option Bool}
  (t:Gz X (.Tuple [.Name x k,.Name b c] n l) iter q)
  (p:∀C s H fp,ve (kH X scope C (x::b::a.map (·.2)) s H fp) d g)
  (u:∀C s H fp,PD (kH X scope C (x::b::a.map (·.2)) s H fp) i f)
  (v:zr0 (X.calm=true)) (S:zr 8 (jH scope x)) (y:zr0 (scope.names.lookup b=Y .local)) (e:zr0 (tM X scope=true)) (h:zr 9 (ku X scope a)) (j:zr 10 ((x::b::a.map (·.2)).Nodup))
  (r:zr 2 (∀x,foldedSetIterable iter X.env x=pure x)):PD X (.ListComp i [{.Tuple [.Name x k,.Name b c] n l,iter,d,0}] scope pos) (wy q a g f):=by
 intro m s o H Q I w;exact Iu.pe2 (Lm v S y (jR I e) h j t p u) S (jR I e) r s o H Q I w
section
variable {K:Fg}{O':List Nat}
theorem h9.snoc{k:Bool}(e:(ρ[j]?).join=Z):∀{O':List Nat}{B:List (Addr×HO)},h9 k K σ ρ G O' B↔h9 k K σ ρ G (O'++[j]) B
 |[],B=>{λh=>.inl {(e),h},λh=>by
   rcases h with ⟨_,h⟩ | ⟨d,v,g,f,a,_⟩
   .exact h
   .rw[a] at e;cases e}
 |i::O',B=>by
  constructor
  .rintro(⟨a,b⟩ | ⟨d,v,g,f,a,b,c,q,t⟩)
   .exact .inl {a,(h9.snoc e).mp b}
   .exact .inr {d,v,g,f,a,b,c,q,(h9.snoc e).mp t}
  .rintro(⟨a,b⟩ | ⟨d,v,g,f,a,b,c,q,t⟩)
   .exact .inl {a,(h9.snoc e).mpr b}
   .exact .inr {d,v,g,f,a,b,c,q,(h9.snoc e).mpr t}
def gE.freeze(r:(O'++[j]).Nodup)(l:ju (O'++[j])=ju O')(h:gE (O'++[j]) K σ ρ H G):∃D,dn G D/\gE O' K σ ρ H D:=by
 have I:j∉O':=by rw[bc] at r;exact λz=>r.2.2 j z j (by simp) rfl
 cases hd:(ρ[j]?).join with
 |none=>
  obtain⟨B,w,f,b⟩:=h.ex;rw[l] at b;refine{G,.refl G,h.len,{B,w,f,(h9.snoc hd).mpr b},λi d q k=>?_};by_cases a:i=j
  .subst a;rw[q] at hd;cases hd
  .exact h.kn i d q (by simp[k,a])
 |some d=>
  have e:=join_some hd;sleep 1;obtain⟨v,o,g,n,M,L,f,p,A,y,_,O⟩:=h.own r (by simp) e;sleep 2;have c:(o++(g++n)).Perm ((o++n)++g):=by rw[aW];exact cV _ a6
  have C:jd G ((o++n)++g):=f.perm c ((A.append y).append p.mq);have m:=C.Cj p.mq;have t:=O (c7 G g) m.same (C.Ci (A.append y));have w:H=c7 (c7 G g) (o++n):=by rw[L,ic f.nd c,gZ]
  rw[<-w] at t;have F:j<ρ.length:=(aM.mp e).1;obtain⟨B,J,u,b⟩:=t.ex;rw[l] at b;have s:((ρ.set j Z)[j]?).join=Z:=by rw[aK F];rfl
  refine{c7 G g,m.same,h.len,{B,J,u,((h9.snoc s).mpr b).other λi k=>?_},λi N q k=>?_}
  .have:j≠i:=λz=>I (z▸k);exact{(aw this).symm,rfl}
  .by_cases a:i=j
   .subst a;rw[e] at q;cases q;exact{v,M,p.Jz m.same λx E=>fX m.nd x E}
   .exact t.kn i N (by rw[aw (Ne.symm a)];exact q) (by simp[k,a])
def gE.LA(m:j∉O')(k:ju (O'++[j])=ju O')(h:gE O' K σ ρ H G):gE (O'++[j]) K σ (ρ.set j Z) H G:=by
 obtain⟨B,n,f,a⟩:=h.ex;rw[<-k] at a;have c:((ρ.set j Z)[j]?).join=Z:=by
  by_cases l:j<ρ.length
  .rw[aK l];rfl
  .rw[bU (by simpa using l)];rfl
 refine{by simpa using h.len,{B,n,f,(h9.snoc c).mp (a.other λi b=>?_)},λi d q b=>?_}
 .have:j≠i:=λz=>m (z▸b);exact{aw this,rfl}
 .have g:i∉O':=λz=>b (by simp[z]);have e:j≠i:=λz=>b (by simp[z]);rw[aw e] at q;exact h.kn i d q g
end
def LB(j:Nat):Out->Out
 |.nx ρ=>.nx (ρ.set j Z)
 |.bk ρ=>.bk (ρ.set j Z)
 |.ct ρ=>.ct (ρ.set j Z)
 |.rt d=>.rt d
def LC(j:Nat)(g:a0->Option Out):a0->Option Out:=λa=>(g a).map (LB j)
def uF{O':List Nat}(j:Nat){n:List Stmt}(t:(O'++[j]).Nodup)(E:j≠0)(h:k9 X m O' n g)(i:zr0 (ju (O'++[j])=ju O')):k9 X m (O'++[j]) n (LC j g) :=
 xZ.imp h <| by
  rintro D x H ⟨y,o,G,w,e,k⟩;have C:j∉O':=by rw[bc] at t;exact λz=>t.2.2 j z j (by simp) rfl
  obtain⟨v,F,rfl⟩:=ak.mp e;obtain⟨M,r,u⟩:=w.o.freeze t i;have A:∀(a:St),(∀f c,m=.io f c->0∈O'++[j]/\a[0]?=Y (Y c)/\ju (O'++[j])=f)->∀f c,m=.io f c->0∈O'/\a[0]?=Y (Y c)/\ju O'=f:=λa B f c q=>by
   obtain⟨L,J,I⟩:=B f c q;refine{?_,J,i▸I};rcases ax.mp L with z|z
   .exact z
   .exact absurd (by simpa using z:0=j).symm E
  have s:∀(a:St) (b:a0) (H' l:Hp),iS m O' X.K a b H' l->iS m (O'++[j]) X.K a (b.set j Z) H' l:=λa b H' l q=>{q.o.LA C i,λf c z=>{by simp[(q.z f c z).1],(q.z f c z).2.1,i▸(q.z f c z).2.2}}
  refine{y,v,M,{u,A x w.z},F,?_};cases v with
  |nx b=>exact λa H' l p q=>k a H' l (r.trans p) (s _ _ _ _ q)
  |bk b=>exact λa H' l p q=>k a H' l (r.trans p) (s _ _ _ _ q)
  |ct b=>exact λa H' l p q=>k a H' l (r.trans p) (s _ _ _ _ q)
  |rt d=>exact SE.later r k
end
section
variable {a c o i:Expr}
def QD{n:Int}{q:Pos}:PD X (.UnaryOp .USub (.Constant (.int n) j q) pos) (zI (-n)) :=
 PE.imp (WZ Uo Es) <| by rintro h H Q ⟨a,d,f,e,k⟩;cases e;exact{a,_,f,rfl,λv g b c=>{_,c5.ee.mp c,k _ g b (c5.ee.mpr rfl)}}
def QE(G:oE X.prog X.w X.K X.mg x iV)(E:Gl X x)(F:PD X a fa)(D:zr 7 (behindInMarks .In (.Name x p)=false))(c:zd0 (zg x)):Al X (.Compare a [.In] [.Name x p] pos) (fB (λρ=>(fa ρ).bind (Lv iV))):=by
 sleep 1;obtain⟨m,o,N,M,L,J⟩:=G.ex;sleep 2;have B:kI X (compareOp .In) (λy z H Q=>∃k:Key,y=kV k/\z=.ref m/\Q (.bl (valueAt o k).isSome) H):=by intro j s n H y z v u Q I A t ⟨k,h,g,q⟩;subst h g;cases t;exact wpAny_in_of (oU A) M (L s.heap I.og).mapOf {.bl _,H,I.tok _,rfl,q}
 refine PT.imp (Gg B F (Gd (v:=.ref m) E N rfl c) D) ?_;rintro n H Q ⟨ρ,d,C,h,k⟩;obtain⟨y,g,R⟩:=bind_some (Gv h);obtain⟨l,P,O⟩:=ak.mp R;have:=iG P;subst this;refine{ρ,_,C,g,λv S r i=>{l,jv i,rfl,?_}};have b:=k S r;cases O;rcases J l with ⟨f,e⟩ | ⟨d',T,U,f,e,W,V⟩
 .rw[f] at b;rw[e];exact{_,rfl,b}
 .rw[f] at b;rw[e];exact{_,rfl,b}
def X2(y:PF X e f):PV X O e (P5 f) :=
 PE.imp y <| by
  rintro J H Q ⟨r,d,G,p,C,k⟩;obtain⟨x,B,b⟩:=bind_some C;by_cases a:yc x=true
  .rw[ah a] at b;cases b;refine{r,d,p.full,B,λv F I n j s=>?_};have m:dn H (c7 F I):=n.trans j.same;obtain⟨E,g,A,h⟩:=p.grow m;refine k v _ E m g h ?_;cases d<;>try (simp[yc] at a;done)
   rename_i K;sleep 1;obtain⟨q,o,rfl,rfl,t⟩:=s.cont rfl;sleep 2;rcases t with ⟨D,c,l,rfl,i⟩ | ⟨_,_,l,_⟩
   .cases l;have u:H q=Z:=by
     cases w:H q with
     |none=>rfl
     |some z=>have:=n _ _ w;rw[j.free (q,.lst c) (by simp)] at this;cases this
    exact c5.fj.mpr {q,c,rfl,.inl (.inl (by rw[A q u];exact fX j.nd (q,.lst c) (by simp))),i.jy a}
   .cases l
  .rw[aq a] at b;cases b
end
section
open PySem.AutoSeq1 Builtin
end
section
variable {a c o i:Expr}
def rn:Lp->Od
 |[.int i]=>Y (.int i)
 |[.bool b]=>Y (.int (if b then 1 else 0))
 |_=>Z
def Vl:vZ X (.type "int") rn:=by
 refine jb.imp Ib ?_;rintro f H Q ⟨d,c,i,e,k⟩
 match d,e with
 |[.int j],e=>cases e;obtain⟨v,rfl,a⟩:=ij i;exact .inl {j,by rw[c5.ee.mp a],k.here (c5.ee.mpr rfl)}
 |[.bool b],e=>cases e;obtain⟨v,rfl,a⟩:=ij i;exact .inr {b,by rw[c5.ej.mp a],k.here (c5.ee.mpr rfl)}
def CD(x y:fJ):Od:=match x,y with
 |.list xs,.list a=>if xs.length+a.length<=sizeLine then Y (.list (xs++a)) else Z
 |_,_=>Z
def Vm(A:PD X a fa)(z:PD X b fb):PF X (.BinOp a .Add b pos) (d2 CD fa fb) :=
 PE.imp (JS Gu A z) <| by
  rintro F H Q ⟨i,d,n,e,k⟩;obtain⟨u,E,D⟩:=bind_some e;obtain⟨v,C,c⟩:=bind_some D;obtain⟨g,rfl⟩:∃g,u=.list g:=by cases u<;>first|exact{_,rfl}|(cases v<;>cases c)
  obtain⟨f,rfl⟩:∃f,v=.list f:=by cases v<;>first|exact{_,rfl}|cases c
  dsimp only[CD] at c;by_cases h:g.length+f.length<=sizeLine
  .rw[ah h] at c;cases c;refine{i,_,n,E,λv I l y=>{i,_,n.same l,C,λw G j x=>?_}};sleep 1;obtain⟨p,s,rfl,t,m⟩:=c5.fj.mp (y.same j);sleep 2;sleep 1;obtain⟨q,r,rfl,B,o⟩:=c5.fj.mp x;sleep 2;exact{p,q,s,r,rfl,rfl,t,B,by rw[<-m.length,<-o.length];exact h,(k.later (l.trans j)).ya (m.append o)}
  .rw[aq h] at c;cases c
end
section
variable {a c o:Expr}
end
end L2
namespace L2
open PySem PySem.Spec PyProof.Rows PySem.Builtin PySem.Builtin.Str
section
variable {a:Expr}{sts:List Stmt}
end
end L2
namespace L2
open PySem PySem.Spec PyProof.Rows
def LD(k v:fJ):List (fJ×fJ)->List (fJ×fJ)
 |[]=>[]
 | (y,d)::r=>if kL y k=true then (y,v)::r else (y,d)::LD k v r
section
variable {K:Fg}
theorem vg.split{o:Lp}:∀{ds:Lp}{vs:List V}{B:List (Addr×HO)}{j:Nat},vg K G ds vs B->ds[j]?=Y (.list o) ->
  ∃p h l k,vs[j]?=Y (.ref p)/\B=l++(p,.lst h)::k/\bz K G o h/\∀g f,bz K G g f->vg K G (ds.set j (.list g)) vs (l++(p,.lst f)::k)
 |[],_,_,_,_,e=>by simp at e
 |d::ds,_,_,0,⟨v,KI,l,k,a,b,c,t⟩,e=>by
  rw[bW] at e;cases e;subst a b;rcases c with ⟨c,_⟩ | ⟨g,p,h,n,rfl,rfl,i⟩
  .cases c
  .cases n;exact{p,h,[],k,rfl,rfl,i,λg f m=>{_,_,[(p,.lst f)],k,rfl,rfl,.inr {(g),p,f,rfl,rfl,rfl,m},t}}
 |d::ds,_,_,j+1,⟨v,KI,l,k,a,b,c,t⟩,e=>by rw[bM] at e;subst a b;sleep 1;obtain⟨p,h,r,q,n,rfl,i,s⟩:=vg.split t e;sleep 2;exact{p,h,l++r,q,n,by simp,i,λg f m=>{_,_,l,r++(p,.lst f)::q,rfl,by simp,c,s g f m}}
theorem vg.length:∀{ds:Lp}{vs:List V}{B:List (Addr×HO)},vg K G ds vs B->ds.length=vs.length
 |[],_,_,h=>by rw[h.1];rfl
 |_::_,_,_,⟨v,KI,B1,B2,a,b,c,t⟩=>by rw[a,ay,ay,t.length]
theorem GF.split{w:Lp}{y:Key}:∀{h:List (fJ×fJ)}{s:List (Key×V)}{B:List (Addr×HO)},GF K G h s B->j8 (jD y) h=Y (.list w) ->
  ∃p j n m,nW s y=Y (.ref p)/\B=n++(p,.lst j)::m/\bz K G w j/\∀g f,bz K G g f->GF K G (LD (jD y) (.list g) h) s (n++(p,.lst f)::m)
 |[],_,_,_,e=>by cases e
 | (k,d)::r,_,_,⟨z,v,r',n,m,a,a2,b,c,t⟩,e=>by
  subst a a2 b;rw[j8] at e;by_cases q:z=y
  .subst q;have l:kL (jD z) (jD z)=true:=by rw[jm];simp
   rw[ah l] at e;cases e;rcases c with ⟨c,_⟩ | ⟨g,p,j,o,rfl,rfl,i⟩
   .cases c
   .cases o;refine{p,j,[],m,by simp[nW],rfl,i,λg f u=>?_};rw[LD,ah l];exact{z,_,r',[(p,.lst f)],m,rfl,rfl,rfl,.inr {(g),p,f,rfl,rfl,rfl,u},t}
  .have l:¬ kL (jD z) (jD y)=true:=by rw[jm];simpa using q
   rw[aq l] at e;sleep 1;obtain⟨p,j,A,x,o,rfl,i,C⟩:=GF.split t e;sleep 2;refine{p,j,n++A,x,?_,by simp,i,λg f u=>?_}
   .unfold nW at o ⊢;rw[bV,az q];exact o
   .rw[LD,aq l];exact{z,v,r',n,A++(p,.lst f)::x,rfl,rfl,by simp,c,C g f u}
end
def X3:Od->Option Lp
 |some (.list us)=>Y us
 |_=>Z
def CF{o:Od}{a:Lp}(h:X3 o=Y a):o=Y (.list a):=by
 cases o with
 |none=>cases h
 |some d=>cases d<;>first|(cases h;rfl)|cases h
def EU(l a:fJ):Option Lp:=match l with
 |.list ds=>match a with | .int i=>X3 (q9 ds i)|_=>Z
 |.dict iV=>if gw iV=true then Z else (qC a).bind λ_=>X3 (j8 a iV)
 |_=>Z
def y4(l a:fJ)(b:Lp):fJ:=match l,a with
 |.list ds,.int i=>match yJ ds.length i with|some j=>.list (ds.set j (.list b))|none=>l
 |.dict iV,a=>.dict (LD a (.list b) iV)
 |l,_=>l
section
variable {a c o:Expr}{fk:a0->Od}
def X4(K:Fg)(d:St)(H:Hp)(c:fJ)(q p:Addr):Prop:=(∃a i,H q=Y (.lst a)/\c=.int i/\q9 a i=Y (.ref p))\/∃b y,H q=Y (.dK b)/\c=jD y/\nW b y=Y (.ref p)
def X4.eq{K:Fg}{l:fJ}{q p k:Addr}(r:X4 K σ H l q p)(m:X4 K σ H' l q k)(e:dn H H'):p=k:=by
 rcases r with ⟨s,i,d,j,h⟩ | ⟨t,y,d,j,h⟩
 .rcases m with ⟨f,o,a,c,b⟩ | ⟨g,n,a,c,b⟩
  .rw[e _ _ d] at a;cases a;rw[j] at c;cases c;rw[h] at b;cases b;rfl
  .rw[e _ _ d] at a;cases a
 .rcases m with ⟨f,o,a,c,b⟩ | ⟨g,n,a,c,b⟩
  .rw[e _ _ d] at a;cases a
  .rw[e _ _ d] at a;cases a;have:=Kk (j.symm.trans c);subst this;rw[h] at b;cases b;rfl
theorem gE.inner{K:Fg}(C:O.Nodup)(h:gE O K σ ρ H G){A:Pl}{l L:fJ}{N:Lp}(hi:A.ix∈O)(E:rZ O A=true)(hd:ph A ρ=Y l)(e:EU l L=Y N):
  ∃q p u,vh K σ H A q/\H p=Y (.lst u)/\bz K G N u/\X4 K σ H L q p /\
   ∀b a,bz K G b a->gE O K σ (rY A (y4 l L b) ρ) (upd H p (.lst a)) G:=by
 cases l<;>try (simp[EU] at e;done)
 .rename_i F;cases L<;>try (simp[EU] at e;done)
  rename_i i;have f:=CF (show X3 (q9 F i)=Y N from e);sleep 1;obtain⟨q,ob,Bi,o,n,r,g,c,R,Q,B,J⟩:=h.EC C hi hd rfl;sleep 2;rw[E] at B J;rcases B with ⟨ds',d,x,rfl,m⟩ | ⟨_,_,x,_⟩
  .cases x;have hl:=m.length;unfold q9 at f;cases M:yJ F.length i with
   |none=>rw[M] at f;cases f
   |some j=>
    rw[M] at f;sleep 1;obtain⟨p,u,t,s,e2,rfl,S,z⟩:=m.split (show F[j]?=_ from f);sleep 2;have k:∀a:List V,o++((q,HO.lst d)::((t++(p,HO.lst a)::s)++n))=(o++(q,HO.lst d)::t)++(p,HO.lst a)::(s++n):=λa=>by simp
    have X:q9 d i=Y (.ref p):=by unfold q9;rw[<-hl,M];exact e2
    have U:H q=Y (.lst d):=by rw[g];exact fX c.nd (q,.lst d) (by simp)
    rw[k] at g c;refine{q,p,u,r,by rw[g];exact fX c.nd (p,.lst u) (by simp),S,.inl {(d),i,U,rfl,X},λb a T=>?_};have I:=z b a T;have ep:y4 (.list F) (.int i) b=.list (F.set j (.list b)):=by simp only[y4,M]
    have P:pq (o++((q,HO.lst d)::((t++(p,HO.lst a)::s)++n))):=R.append (.one aZ (I.mq.append Q));have w:jd G ((o++(q,HO.lst d)::t)++(p,HO.lst a)::(s++n)):=c.put (by rw[<-k];exact P);rw[g,nZ c.nd,ep,<-k];exact J G _ _ _ (.refl G) (.inl {_,d,rfl,rfl,I}) (by rw[k];exact w)
  .cases x
 .rename_i D;unfold EU at e;dsimp only at e;by_cases W:gw D=true
  .rw[ah W] at e;cases e
  rw[aq W] at e;obtain⟨y,e0,f⟩:=bind_some e;have f:=CF f;have:=iG e0;subst this;sleep 1;obtain⟨q,ob,Bi,o,n,r,g,c,R,Q,B,J⟩:=h.EC C hi hd (by show (!gw D)=true;simpa using W);sleep 2;rw[E] at B J;rcases B with ⟨_,_,x,_⟩ | ⟨aat,v,x,rfl,m⟩
  .cases x
  .cases x;sleep 1;obtain⟨p,u,t,s,e2,rfl,S,z⟩:=m.split f;sleep 2;have k:∀a:List V,o++((q,HO.dK v)::((t++(p,HO.lst a)::s)++n))=(o++(q,HO.dK v)::t)++(p,HO.lst a)::(s++n):=λa=>by simp
   have U:H q=Y (.dK v):=by rw[g];exact fX c.nd (q,.dK v) (by simp)
   rw[k] at g c;refine{q,p,u,r,by rw[g];exact fX c.nd (p,.lst u) (by simp),S,.inr {(v),y,U,rfl,e2},λb a T=>?_};have I:=z b a T;have P:pq (o++((q,HO.dK v)::((t++(p,HO.lst a)::s)++n))):=R.append (.one aZ (I.mq.append Q));have w:jd G ((o++(q,HO.dK v)::t)++(p,HO.lst a)::(s++n)):=c.put (by rw[<-k];exact P);rw[g,nZ c.nd,<-k];exact J G _ _ _ (.refl G) (.inr {_,v,rfl,rfl,I}) (by rw[k];exact w)
def EV(b:Pl)(g f:a0->Od):a0->Option Out:=λa=>(ph b a).bind λl=>(g a).bind λe=>(EU l e).bind λc=>(f a).bind λd=>if c.length<sizeLine then Y (.nx (rY b (y4 l e (c++[d])) a)) else Z
def IJ(hu:X.A.units+64<cLine) {π:Pl}{k:Expr}{b:Pos} (C:O.Nodup) (ho:PP X o π) (hk:PV X O k fk) (he:PV X O e f) (hsl:rP k) (R_:Ep k) (hO:zd0 (π.ix∈O)) (I:zr0 (rZ O π=true))
  (W:zr0 (starEach [e] X.env=(false,eval e X.env)::starEach [] X.env))
  (J:zr0 (attributeBase (.Subscript o k b) "append" X.env (eval (.Subscript o k b) X.env)=eval (.Subscript o k b) X.env))
  (S_:zr0 (((backTo fQ (starEach [e] X.env)).all (λx=>!x.1)&&(backToKw fQ (keywordEach [] X.env)).all (λx=>x.1.isSome)&&decide (([e]:Lx).length+([]:List Keyword).length+(if ([]:List Keyword).isEmpty then 0 else 1)<30))=true))
  (E:zr0 ((apos.endLine==fQ.line)=true)) (s:zr0 ((backTo fQ (starEach [] X.env)).any (·.1)=false))
  (Q:zr0 (swapsWith (.Call (.Attribute (.Subscript o k b) "append" apos) [e] [] fQ) Z pos.line X.env=pure false)):
  me X m O (.Expr (.Call (.Attribute (.Subscript o k b) "append" apos) [e] [] fQ) pos) (EV π fk f) :=
 PS.imp (rM (yK cm PySem.F.slot_list_append PySem.F.type_list_append yM (PE.or (Ss Gp ho hk hsl) (Gs (by omega) ho hk R_)) (jh he mx W) J S_ E W s) Q) <| by
  rintro D σ H ⟨N,o,G,Q,e,kk⟩;obtain⟨l,e1,ea⟩:=bind_some e;obtain⟨kd,e2,eb⟩:=bind_some ea;obtain⟨us,e3,ec⟩:=bind_some eb;obtain⟨d,e4,ed⟩:=bind_some ec;by_cases hz:us.length<sizeLine
  .rw[ah hz] at ed;cases ed;sleep 1;obtain⟨q,p,ws,r,hp,iw,al,_⟩:=Q.o.inner C hO I e1 e3;sleep 2;have B:∀(S:Addr) (H1 j:Hp),dn H H1->dn G j->gE O X.K σ N H1 j->X4 X.K σ H1 kd q S->(∃c,H1 S=Y (.lst c))/\∀(u:V) (t w:Hp),dn H1 t->dn j w->gE O X.K σ N t w->c5 X.K w d u ->
     ∃a,t S=Y (.lst a)/\a.length<sizeLine/\D.nx σ (upd t S (.lst (a++[u]))):=λS H1 j n R L a1=>by
    sleep 1;obtain⟨q1,p2,c,r1,h,iw1,M,_⟩:=L.inner C hO I e1 e3;sleep 2;have:=vh.eq r r1 n;subst this;have:=a1.eq M (.refl H1);subst this;refine{{(c),h},λu t w P g h2 U=>?_};sleep 1;obtain⟨q2,p3,a,r2,Wx,T,b2,cl⟩:=h2.inner C hO I e1 e3;sleep 2;have:=vh.eq r1 r2 P;subst this;have:=a1.eq b2 P;subst this;exact{a,Wx,by rw[<-T.length];exact hz,kk _ _ w (R.trans g) {cl _ _ (T.append (bz.cons U bz.nil)),Q.z}}
   rcases al with ⟨xs,i,M,b2,b3⟩ | ⟨kv,y,M,b2,b3⟩
   .subst b2;refine .inl {q,r,N,.int i,G,Q.o,e2,λv H1 j n R L i1=>{q,xs,i,.ref p,rfl,c5.ee.mp i1,nE.of (n _ _ M),b3,?_}};obtain⟨⟨c,h⟩,tl⟩:=B p H1 j n R L (.inl {xs,i,n _ _ M,rfl,b3});refine{.inl {rfl,c,nE.of h},N,d,j,L,e4,λu t w P g h2 U=>?_};obtain⟨a,c1,c2,c3⟩:=tl u t w P g h2 U;exact{(p),a,u,rfl,rfl,c1,c2,c3}
   .subst b2;refine .inr {q,r,N,jD y,G,Q.o,e2,λv H1 j n R L i1=>{q,.ref p,rfl,by rw[jv i1,<-b3];exact qA.k (n _ _ M),?_}};obtain⟨⟨c,h⟩,tl⟩:=B p H1 j n R L (.inr {kv,y,n _ _ M,rfl,b3});refine{.inl {rfl,c,nE.of h},N,d,j,L,e4,λu t w P g h2 U=>?_};obtain⟨a,c1,c2,c3⟩:=tl u t w P g h2 U;exact{(p),a,u,rfl,rfl,c1,c2,c3}
  .rw[aq hz] at ed;cases ed
def X5(e:(B.map (·.1)).Nodup)(f:∀x∈B,H x.1=Y x.2):∃G,H=c7 G B/\(∀x∈B,G x.1=Z)/\∀a,(∀x∈B,x.1≠a)->G a=H a:=by
 let G:Hp:=λa=>if (∃x∈B,x.1=a) then Z else H a
 have d:∀a,(∀x∈B,x.1≠a)->G a=H a:=λa c=>aq λ⟨x,b,z⟩=>c x b z;have g:∀x∈B,G x.1=Z:=λx b=>ah {(x),b,rfl};exact{G,qj e f λa c=>(d a c).symm,g,d}
end
section
variable {a c o:Expr}
def d3(g:fJ->fJ->fJ->Od)(d c b:a0->Od):a0->Od:=λa=>(d a).bind λx=>(c a).bind λy=>(b a).bind λz=>g x y z
end
section
variable {a c o:Expr}
def AD(K:Fg)(b G:Hp)(d:Lp)(c:List V):Prop:=∃a B,G=c7 a B/\jd a B/\dn b a/\vg K a d c B
theorem vg.snoc{K:Fg}{G:Hp}{d:fJ}{v:V}{e:List (Addr×HO)}(i:OL K G d v e):∀{f:Lp}{g:List V}{B:List (Addr×HO)},vg K G f g B->vg K G (f++[d]) (g++[v]) (B++e)
 |[],_,_,h=>by obtain⟨rfl,rfl⟩:=h;exact{v,[],e,[],rfl,by simp,i,rfl,rfl}
 |x::f,_,_,⟨u,j,l,k,a,b,c,t⟩=>by subst a b;exact{u,_,l,k++e,rfl,by simp,c,vg.snoc i t}
def AD.len{K:Fg}{b:Hp}(h:AD K b G ds vs):ds.length=vs.length:=by sleep 1;obtain⟨a,B,_,_,_,d⟩:=h;sleep 2;exact d.length
theorem AD.same{K:Fg}{b G g:Hp}{ds:Lp}{vs:List V}(h:AD K b G ds vs)(e:dn G g):AD K b g ds vs:=by
 sleep 1;obtain⟨q,B,rfl,f,s,d⟩:=h;sleep 2;have m:∀x∈B,g x.1=Y x.2:=λx c=>e _ _ (fX f.nd x c);obtain⟨l,p,o,n⟩:=X5 f.nd m;have i:dn q l:=λa r k=>by
  have j:∀x∈B,x.1≠a:=λx c z=>by have:=f.free x c;rw[z,k] at this;cases this
  rw[n a j];exact e _ _ (by rw[gv j];exact k)
 exact{l,B,p,{f.nd,o,f.ok},s.trans i,d.same i}
def IK(i:Nat) {py w:Pos}{r:Expr}{px:Pos}{A:Lx} (a:List (Nat×Str)) {g:a0->Option Bool} (hN:X.N.Nodup) (XM:O.Nodup)
  (hi:Gz X (.Name x px) iter q)
  (ht:∀C s H fp,ve (kH X scope C (x::a.map (·.2)) s H fp) A g)
  (he:∀C s H fp,PF (kH X scope C (x::a.map (·.2)) s H fp) r f) (hO:zd0 (i∈O)) (T_:zr0 (ju O=true)) (h0:zr 12 (i≠0\/m=.dat\/m=.own))
  (hc:zr0 (X.calm=true)) (S:zr 8 (jH scope x)) (P:zr0 (tM X scope=true)) (R:zr 9 (ku X scope a)) (ON:zr 10 ((x::a.map (·.2)).Nodup))
  (hiy:zr0 (X.N[i]?=Y y)) (hy:zr0 (X.env.scope.names.lookup y=Y .local)) (hsw:zr0 (swapsWith (.ListComp r [{.Name x px,iter,A,0}] scope pos) (Y (.Name y py)) w.line X.env=pure true))
  (n:zr 2 (∀x,foldedSetIterable iter X.env x=pure x)):me X m O (.Assign [.Name y py] (.ListComp r [{.Name x px,iter,A,0}] scope pos) w) (jI (fY O (iJ q a g (P5 f))) i):=by
 intro pins s F H D I hQ;have U_:∀C s H fp,PE (kH X scope C (x::a.map (·.2)) s H fp) r (λF G Q=>∃u J,jt X.K G F u/\P5 f u=Y J/\∀v G',dn G G'->(∀b ds c,AD X.K b G ds c->AD X.K b G' (ds++[J]) (c++[v]))->Q v G'):=λC s H fp=>
  PE.imp (he C s H fp) <| by
   rintro F G Q ⟨u,J,n,e,k⟩;obtain⟨d,e1,t⟩:=bind_some e;by_cases E:yc d=true
   .rw[ah E] at t;cases t;refine{u,J,n,e1,λv G1 l sG fB M=>?_};cases J<;>try (simp[yc] at E;done)
    rename_i us;sleep 1;obtain⟨p,ob,rfl,rfl,oc⟩:=M.cont rfl;sleep 2;obtain⟨L,rfl,iw⟩:=oc.lst;refine k _ _ (sG.trans fB.same) λb ds c ad=>?_;sleep 1;obtain⟨h,B,rfl,f0,U,W⟩:=AD.same ad sG;sleep 2;have V:jd h ([(p,HO.lst L)]++B):=f0.join fB;have pm:([(p,HO.lst L)]++B).Perm (B++[(p,HO.lst L)]):=a6;refine{h,B++[(p,HO.lst L)],?_,V.perm pm (W.mq.append (.one aZ .nil)),U,W.snoc (.inr {us,p,L,rfl,rfl,rfl,iw.jy E})};rw[<-gZ];exact ic V.nd pm
   .rw[aq E] at t;cases t
 refine PS.imp (PS.frame (As (wa (AD X.K) AD.len AD.same hc S (jR I P) R ON hi ht U_) S (jR I P) hN hiy hy hsw n)) (?_) s F H D I hQ;rintro D F H ⟨u,o,G,n,e,k⟩;obtain⟨d,e1,t⟩:=bind_some e;by_cases hl:i<u.length
 .rw[ah hl] at t;cases t;obtain⟨B,eH,fm,own⟩:=n.o.ex;refine{G,B,eH,fm,il O u,d,n.o.rest,e1,{G,[],rfl,jd.nil,.refl G,rfl,rfl},λys G' j c ed sG hD hA T=>?_};subst ed;sleep 1;obtain⟨h,l,rfl,f0,U,W⟩:=hA;sleep 2;have hDf:jd (c7 h l) [(j,HO.lst c)]:={by simp,(λx E=>by simp at E;subst E;exact hD),.one aZ .nil}
  have V:jd h ((j,HO.lst c)::l):=f0.join hDf;have eu:upd (c7 h l) j (.lst c)=c7 h ((j,HO.lst c)::l):=rfl;rw[eu] at T ⊢;have f2:jd h (B++((j,HO.lst c)::l)):=V.join T;have M:iR (ju O) X.K h (.list ys) (.ref j) ((j,HO.lst c)::l):=by rw[T_];exact .inl {j,_,l,rfl,rfl,.inl {(ys),c,rfl,rfl,W}}
  have f3:jd h (((j,HO.lst c)::l)++B):=f2.perm a6 (M.mq.append fm.ok);have e3:c7 (c7 h ((j,HO.lst c)::l)) B=c7 (c7 h B) ((j,HO.lst c)::l):=by rw[<-gZ,<-gZ];exact ic f2.nd a6
  have h1:gE O X.K F u (c7 h B) h:=gE.tB n.o.len own n.o.kn U (f3.Cj fm.ok);obtain⟨G2,s2,h2⟩:=h1.new XM hO hl M (f3.Ci M.mq);rw[e3];refine k _ _ G2 (U.trans s2) {h2,λdp v0 z=>?_};rcases h0 with h0|h0|h0
  .rw[aw h0];exact n.z dp v0 z
  .rw[h0] at z;cases z
  .rw[h0] at z;cases z
 .rw[aq hl] at t;cases t
end
structure pL (P:Program) (w:World) (K:Fg) (mg:Str->Ow) (base:Heap) (c m:Str) (k n:Nat) (f:Lp->Od):Prop where
 ex:∃C a fd ps,iq K c C/\Ig K C/\Ih K C m a/\j6 P w K mg base vd k a fd ps (B_ K n f)/\jc K fd ps []
section
variable {a c o:Expr}{k:Nat}
def GN{t c:Str}{F:Lp->Od}{pl:Sem Bool} (N:pL X.prog X.w X.K X.mg X.base t c j n F) (J:PD X o f) (I:hG k X.A) (O:ux X (e::es) ff) (M:zd0 (j<=k))
  (l:zr0 (zE e es X)) (m:zr0 ((backTo pos (starEach es X.env)).any (·.1)=false))
  (G:eval (.Call (.Attribute o c apos) (e::es) [] pos) X.env=(do
   let ov <-eval o X.env
   standAt apos.atName
   let (f,first) <-holding [ov] (getMethod ov c pl)
   callWith pos f first (backTo pos (starEach (e::es) X.env)) (backToKw pos (keywordEach [] X.env))):=by rfl):PF X (.Call (.Attribute o c apos) (e::es) [] pos) (jJ t c n F f ff):=by
 sleep 1;obtain⟨C,a,fd,ps,P,r,L,Fn,b⟩:=N.ex;sleep 2;refine PE.imp (Gi (pl:=pl) J r L (Fn.mono M) I b .nil rQ O l m G) ?_;rintro σ H Q ⟨u,d,D,e,k⟩;obtain⟨x,W,h⟩:=bind_some e;by_cases i:jF t c x=true
 .rw[ah i] at h;obtain⟨s,V,g⟩:=bind_some h;by_cases q:s.length+1=n
  .rw[ah q] at g;refine{u,x,D,W,λv H1 z B=>?_};sleep 1;obtain⟨p,C',dx,U,rfl,T,S,R⟩:=r8 i B;sleep 2;have:=T.uniq P;subst this;exact{p,dx,U,rfl,S,R,u,s,D.same z,V,λvs H2 y E=>{x::s,d,by rw[aG];exact bz.cons (B.same y) E,by simpa using q,g,k.later (z.trans y)}}
  .rw[aq q] at g;cases g
 .rw[aq i] at h;cases h
def CG{q c:Str}{F:Lp->Od}{pl:Sem Bool} (N:pL X.prog X.w X.K X.mg X.base q c j n F) (B:PD X o f) (z:hG k X.A) (E:zd0 (j<=k))
  (u:eval (.Call (.Attribute o c apos) [] [] pos) X.env=(do
   let ov <-eval o X.env
   standAt apos.atName
   let (f,first) <-holding [ov] (getMethod ov c pl)
   callWith pos f first (backTo pos (starEach [] X.env)) (backToKw pos (keywordEach [] X.env))):=by rfl):PF X (.Call (.Attribute o c apos) [] [] pos) (jJ q c n F f fW):=by
 sleep 1;obtain⟨C,a,V,U,G,m,D,S,b⟩:=N.ex;sleep 2;refine PE.imp (BZ (pl:=pl) B m D (S.mono E) z b .nil rQ u) ?_;rintro T H Q ⟨s,d,y,e,k⟩;obtain⟨x,P,h⟩:=bind_some e;by_cases i:jF q c x=true
 .rw[ah i] at h;obtain⟨W,O,g⟩:=bind_some h;cases O;by_cases l:([]:Lp).length+1=n
  .rw[ah l] at g;refine{s,x,y,P,λv H1 t r=>?_};sleep 1;obtain⟨p,C',R,M,rfl,L,J,I⟩:=r8 i r;sleep 2;have:=L.uniq G;subst this;exact{p,R,M,rfl,J,I,[x],d,bz.cons r bz.nil,by simpa using l,g,k.later t}
  .rw[aq l] at g;cases g
 .rw[aq i] at h;cases h
def IL(x y:fJ):Od:=match x,y with
 |.list xs,.int k=>if 0<=k/\k<=1000/\xs.length<=1000 then Y (.list (List.replicate k.toNat xs).flatten) else Z
 |_,_=>Z
theorem bz.rep{K:Fg}{H:Hp}{b:Lp}{a:List V}(h:bz K H b a):∀k:Nat,bz K H (List.replicate k b).flatten (List.replicate k a).flatten
 |0=>bz.nil
 |k+1=>by rw[bT,bT,cG,cG];exact h.append (bz.rep h k)
def Vn(I:PF X a fa)(G:PD X b fb):PF X (.BinOp a .Mult b pos) (d2 IL fa fb) :=
 PE.imp (JS UE I G) <| by
  rintro N H Q ⟨o,d,z,e,k⟩;obtain⟨x,M,e⟩:=bind_some e;obtain⟨y,L,c⟩:=bind_some e;obtain⟨i,rfl⟩:∃i,x=.list i:=by cases x<;>first|exact{_,rfl}|(cases y<;>cases c)
  obtain⟨n,rfl⟩:∃n,y=.int n:=by cases y<;>first|exact{_,rfl}|cases c
  dsimp only[IL] at c;by_cases t:0<=n/\n<=1000/\i.length<=1000
  .rw[ah t] at c;cases c;refine{o,_,z,M,λv R S r h B=>?_};sleep 1;obtain⟨q,O,rfl,rfl,C⟩:=B.cont rfl;sleep 2;obtain⟨f,rfl,s⟩:=C.lst;refine{o,_,z.same (r.trans h.same),L,λu A j D=>?_};have E:A q=Y (.lst f):=j _ _ (fX h.nd (q,.lst f) (by simp));have P:=s.length;have g:(2:Int) ^ 63=9223372036854775808:=by decide
   have m:f.length*n.toNat<=sizeLine:=by
    have K:f.length<=1000:=by omega
    have J:n.toNat<=1000:=by omega
    exact bx (Nat.mul_le_mul K J) (by decide)
   have l:=(s.same (h.same.trans j)).rep n.toNat;refine{q,n,f,rfl,c5.ee.mp D,E,by rw[g];omega,by rw[g];omega,m,λp F=>?_};exact k (.ref p) A [(p,.lst (List.replicate n.toNat f).flatten)] (r.trans (h.same.trans j)) {by simp,(λx w=>by simp at w;subst w;exact F),.one aZ .nil} (iR.U3 (.inl {_,_,rfl,rfl,l}))
  .rw[aq t] at c;cases c
def IM(i:Nat) {py r:Pos}{l:Expr}{L:Pos}{t:Lx} (a:List (Nat×Str)) {g:a0->Option Bool} (hN:X.N.Nodup) (R:O.Nodup)
  (hi:Gz X (.Name x L) iter q)
  (ht:∀C s H fp,ve (kH X scope C (x::a.map (·.2)) s H fp) t g)
  (he:∀C s H fp,PD (kH X scope C (x::a.map (·.2)) s H fp) l f) (hO:zd0 (i∈O)) (T_:zr0 (ju O=false)) (h0:zr 12 (i≠0\/m=.dat\/m=.own))
  (hc:zr0 (X.calm=true)) (S:zr 8 (jH scope x)) (w:zr0 (tM X scope=true)) (A:zr 9 (ku X scope a)) (U:zr 10 ((x::a.map (·.2)).Nodup))
  (W:zr0 (X.N[i]?=Y y)) (hy:zr0 (X.env.scope.names.lookup y=Y .local)) (T:zr0 (swapsWith (.ListComp l [{.Name x L,iter,t,0}] scope pos) (Y (.Name y py)) r.line X.env=pure true))
  (j:zr 2 (∀x,foldedSetIterable iter X.env x=pure x)):me X m O (.Assign [.Name y py] (.ListComp l [{.Name x L,iter,t,0}] scope pos) r) (jI (fY O (iJ q a g f)) i):=by
 intro pins s u H D I hQ;have U_:∀C s H fp,PE (kH X scope C (x::a.map (·.2)) s H fp) l (λu G Q=>∃p F,jt X.K G u p/\f p=Y F/\∀v G',dn G G'->(∀(b:Hp) ds vs,bz X.K G ds vs->bz X.K G' (ds++[F]) (vs++[v]))->Q v G'):=λC s H fp=>
  PE.imp (he C s H fp) <| by rintro u G Q ⟨p,F,j,e,k⟩;exact{p,F,j,e,λv G1 sG iv=>k v G1 sG λb ds vs iw=>(iw.same sG).append (bz.cons iv bz.nil)}
 refine PS.imp (PS.frame (As (wa (λ_ G ds vs=>bz X.K G ds vs) (λh=>h.length) (λh e=>h.same e) hc S (jR I w) A U hi ht U_) S (jR I w) hN W hy T j)) (?_) s u H D I hQ;rintro D u H ⟨p,o,G,j,e,k⟩;obtain⟨d,e1,J⟩:=bind_some e;by_cases V:i<p.length
 .rw[ah V] at J;cases J;obtain⟨B,eH,fm,M⟩:=j.o.ex;refine{G,B,eH,fm,il O p,d,j.o.rest,e1,bz.nil,λys c n vs ed s0 hD hA E=>?_};subst ed;have f1:jd c [(n,HO.lst vs)]:={by simp,(λx hx=>by simp at hx;subst hx;exact hD),.one aZ .nil}
  have eu:upd c n (.lst vs)=c7 c [(n,HO.lst vs)]:=rfl;rw[eu] at E ⊢;have f2:jd c (B++[(n,HO.lst vs)]):=f1.join E;have P:iR (ju O) X.K c (.list ys) (.ref n) [(n,HO.lst vs)]:=by rw[T_];exact iR.U3 (.inl {(ys),vs,rfl,rfl,hA})
  have f3:jd c ([(n,HO.lst vs)]++B):=f2.perm a6 (P.mq.append fm.ok);have e3:c7 (c7 c [(n,HO.lst vs)]) B=c7 (c7 c B) [(n,HO.lst vs)]:=by rw[<-gZ,<-gZ];exact ic f2.nd a6
  have h1:gE O X.K u p (c7 c B) c:=gE.tB j.o.len M j.o.kn s0 (f3.Cj fm.ok);obtain⟨G2,s2,h2⟩:=h1.new R hO V P (f3.Ci P.mq);rw[e3];refine k _ _ G2 (s0.trans s2) {h2,λdp v0 z=>?_};rcases h0 with h0|h0|h0
  .rw[aw h0];exact j.z dp v0 z
  .rw[h0] at z;cases z
  .rw[h0] at z;cases z
 .rw[aq V] at J;cases J
end
section
variable {a:Expr}
end
def QF:Nat->(Lw->Prop)->Prop
 |0,p=>p []
 |n+1,p=>∀v,QF n λa=>p (v::a)
theorem QF.all:∀{n:Nat}{p:Lw->Prop},QF n p->∀a:Lw,a.length=n->p a
 |0,_,h,[],_=>h
 |_+1,_,h,v::a,e=>(h v).all a (Nat.succ.inj e)
def IP(x q:Str)(a:Stmt)(d:Lr):Prop:=∀(f b e:Value) (an:Option Addr) (l4 ct:Value),QF d.length λc=>bindArgs (W.fnOf x q (ma a) (gK a) (bC a) .none f b e an l4 ct) {c,[]}=pure (d.zip c)
theorem IP.to{K:Fg}{q:Str}(h:IP x q st ps)(F:BR K x q st a fd):jc K fd ps []:=F.binds λg b f j c i d e=>(h g b f j c i).all d e
def gX(K:Fg)(c:Str->Ow)(x:Str)(b:Stmt):Prop:=∃a d,c x=Y (.ref a)/\BR K x x b a d
def CH(K:Fg)(c m q:Str)(b:Stmt):Prop:=∃C a d,iq K c C/\Ig K C/\Ih K C m a/\BR K m q b a d
def LF(K:Fg)(d:Str->Ow)(c q:Str)(b:Stmt):Prop:=∃C a e,iq K c C/\d c=Y (.ref C)/\Mk K C a/\BR K "__init__" q b a e
section
variable {K:Fg}{m q:Str}{f:Addr}{od an:Option Addr}{sl:Array Ow}{oc kV dc pm cd ct:Value}
def fnAt(X:K.In h)(G:h.Ns mainGlobals mg)(a:W.nsIn K mainGlobals x=Y (Y (.ref f)))(l:K.lookup f=Y {oc,od,.func (W.fnOf x x (ma st) (gK st) (bC st) .none kV dc pm an cd ct),sl})(c:W.codeIn K cd x=true)(k:W.keepIn K (.ref f)=true):gX K mg x st :=
 {f,_,W.mg_of X G a,Ai l c k}
def intAt{n:Int}{t:Tok}(X:K.In h)(G:h.Ns mainGlobals mg)(a:W.nsIn K mainGlobals x=Y (Y (.int n t))):IH K mg x (.int n):=P_ (W.mg_of X G a)
def X6(a:W.nsIn K mainGlobals c=Y (Y (.ref C))) (p:W.plainGet K C Str.empty=true) (d:W.hasDictIn K C=true) (o:W.plainOver K C=true) (s:W.findIn K (.ref C) "__setattr__"=Y (Y (.builtin "object.__setattr__")))
  (n:W.findIn K (.ref C) x=Y Z):jw K c x:={C,a,{(p),d,o,s},n}
def V_(a:W.nsIn K mainGlobals c=Y (Y (.ref C))) (p:W.plainGet K C Str.empty=true) (d:W.hasDictIn K C=true) (o:W.plainOver K C=true) (s:W.findIn K (.ref C) "__setattr__"=Y (Y (.builtin "object.__setattr__")))
  (n:W.findIn K (.ref C) m=Y (Y (.ref f))) (i:W.isFn K (.ref f)=true) (l:K.lookup f=Y {oc,od,.func (W.fnOf m q (ma st) (gK st) (bC st) .none kV dc pm an cd ct),sl}) (e:W.codeIn K cd q=true) (k:W.keepIn K (.ref f)=true):CH K c m q st :=
 {C,f,_,a,{(p),d,o,s},{(n),i,k},Ai l e k}
def Vo(X:K.In h) (G:h.Ns mainGlobals mg) (a:W.nsIn K mainGlobals c=Y (Y (.ref C))) (m:W.makesIn K C=true) (b:W.keepIn K (.ref C)=true)
  (n:W.findIn K (.ref C) "__init__"=Y (Y (.ref f))) (i:W.isFn K (.ref f)=true) (l:K.lookup f=Y {oc,od,.func (W.fnOf "__init__" q (ma st) (gK st) (bC st) .none kV dc pm an cd ct),sl}) (e:W.codeIn K cd q=true) (k:W.keepIn K (.ref f)=true):LF K mg c q st :=
 {C,f,_,a,W.mg_of X G a,{(m),n,i,b},Ai l e k}
end
section
variable {P:Program}{K:Fg}{m q:Str}{N:Lr}{k:Nat}{fa:Addr}
abbrev wz(P:Program)(w:World)(K:W.Frag)(e:Str->Option Value)(c:Heap)(q:Str)(d:Stmt)(N:List Str)(k:Nat)(f:V->Md)(O:List Nat)(g:a0->Option Out):Prop :=
 ∀{v0:V}{fa:Addr}{b:Value}{A:Around}{a:List Env}{s:Shared}{H:Hp}{E:XK},hG k (A.deeper (envOfC q (bC d) (zB s) fa b))->(A.deeper (envOfC q (bC d) (zB s) fa b)).units+64<cLine->N.Nodup->O.Nodup ->
  k9 (q8 vd P w K e c N q (bC d) fa b A a s H E).Sl (f v0) O (gK d) g
theorem gu(O:List Nat) (F:gX K mg x st) (f:wz P w K mg base x st N k (λ_=>.dat) O g) (S:zr 4 (gU N (N.take n) (bC st))) (e:zr0 (n=(N.take n).length)) (h:zd0 (∀i∈O,n<=i)) (c:zd0 (O.Nodup))
  (o:zr 5 (IP x x st (N.take n))):oq P w K mg base x (k+1) n (gL N g):=by
 obtain⟨a,l,j,F⟩:=F;exact{a,l,N.take n,EI F S e h λm A b s H E d=>f (v0:=.kn) d d.units S.nd c,j,F.kp,o.to F}
theorem LG(O:List Nat) (F:gX K mg x st) (f:wz P w K mg base x st N k (λ_=>.own) O g) (S:zr 4 (gU N (N.take n) (bC st))) (e:zr0 (n=(N.take n).length)) (h:zd0 (∀i∈O,n<=i)) (c:zd0 (O.Nodup))
  (o:zr 5 (IP x x st (N.take n))):AA P w K mg base x (k+1) n (Az N g):=by
 obtain⟨a,l,j,F⟩:=F;exact{a,l,N.take n,K6 F S e h λm A b s H E d=>f (v0:=.kn) d d.units S.nd c,j,F.kp,o.to F}
theorem CI(O:List Nat) (F:gX K mg x st) (f:wz P w K mg base x st N k (.io (ju (0::O))) (0::O) g) (S:zr 4 (gU N (N.take n) (bC st))) (e:zr0 (n=(N.take n).length)) (h:zd0 (∀i∈O,n<=i)) (b:zd0 ((0::O).Nodup)) (j:zd0 (n≠0))
  (p:zr 5 (IP x x st (N.take n))):EJ (ju (0::O)) P w K mg base x (k+1) n (n0 N g):=by
 obtain⟨a,l,m,F⟩:=F;exact{a,l,N.take n,SG F S e j b h λq o A c s H E d=>f d d.units S.nd b,m,F.kp,p.to F}
def AO(O:List Nat) (F:LF K mg c q st) (l:wz P w K mg base q st N k (.io (ju (0::O))) (0::O) g) (S:zr 4 (gU N (N.take n) (bC st))) (h:zr0 (n=(N.take n).length)) (m:zd0 (∀i∈O,n<=i)) (b:zd0 ((0::O).Nodup)) (o:zd0 (n≠0)) (j:zr0 (ju (0::O)=false))
  (v:zr 5 (IP "__init__" q st (N.take n))):tH P w K mg base c (k+1) n (n0 N g):=by
 sleep 1;obtain⟨C,a,p,t,r,M,F⟩:=F;sleep 2;have f:=SG F S h o b m λx u A d s H E e=>l e e.units S.nd b;rw[j] at f;exact{C,a,p,N.take n,t,r,M,f,v.to F}
def LH(O:List Nat) (F:CH K c m q st) (h:wz P w K mg base q st N k (λ_=>.dat) O g) (S:zr 4 (gU N (N.take n) (bC st))) (f:zr0 (n=(N.take n).length)) (j:zd0 (∀i∈O,n<=i)) (d:zd0 (O.Nodup))
  (t:zr 5 (IP m q st (N.take n))):qk P w K mg base c m (k+1) n (gL N g):=by
 sleep 1;obtain⟨C,a,l,p,o,M,F⟩:=F;sleep 2;exact{C,a,l,N.take n,p,o,M,EI F S f j λr A b s H E e=>h (v0:=.kn) e e.units S.nd d,t.to F}
def LI(O:List Nat) (F:CH K c m q st) (h:wz P w K mg base q st N k (λ_=>.own) O g) (S:zr 4 (gU N (N.take n) (bC st))) (f:zr0 (n=(N.take n).length)) (j:zd0 (∀i∈O,n<=i)) (d:zd0 (O.Nodup))
  (t:zr 5 (IP m q st (N.take n))):pL P w K mg base c m (k+1) n (Az N g):=by
 sleep 1;obtain⟨C,a,l,p,o,M,F⟩:=F;sleep 2;exact{C,a,l,N.take n,p,o,M,K6 F S f j λr A b s H E e=>h (v0:=.kn) e e.units S.nd d,t.to F}
theorem Vp{b:Str} (O:List Nat) (h:mg x=Y (.ref fa)) (F:gX K mg x st) (q:∀base:Heap,wz P w K mg base x st (b::N) k (λ_=>.dat) O g) (S:zr 4 (gU (b::N) [b] (bC st))) (r:zd0 (∀i∈O,1<=i)) (f:zd0 (O.Nodup))
  (y:zr 5 (IP x x st [b])):∃d:FuncData,(∀(s:Shared) (u:Value),BindsTo s d {[u],[]} [(b,u)])/\∀base:Heap,K.In base->base.Ns mainGlobals mg->j6 P w K mg base vd (k+1) fa d [b] (OK K 1 (gL (b::N) g)):=by
 obtain⟨a,d,t,F⟩:=F;cases h.symm.trans t;refine{d,λs u=>?_,λbase _ _=>EI F S rfl r λc A e s H E l=>q base (v0:=.kn) l l.units S.nd f};sleep 1;obtain⟨C,B,o,j,m,z,c,v,n,rfl,D,p⟩:=F.ex;sleep 2;exact .of_eq (y o j m z c v u)
variable {a:Expr}{fa:a0->Od}
def ixA(d:X.A.units+64<cLine)(g:PD X a fa)(f:PD X b fb)(e:zr 14 (rP b))(c:zr 14 (Ep b)):PD X (.Subscript a b pos) (zX fa fb):=U1 d g f e c
def W_{c:CmpOp}{g:fJ->fJ->Od}(d:rf X (compareOp c) g)(h:PD X a fa)(f:PD X b fb)(e:zr 15 (behindInMarks c b=false)):Al X (.Compare a [c] [b] pos) (fB (d2 g fa fb)):=Pp d h f e
def X_{c:CmpOp}{g:fJ->fJ->Od}(d:rf X (compareOp c) g)(h:PD X a fa)(f:PD X b fb)(e:zr 15 (behindInMarks c b=false)):PD X (.Compare a [c] [b] pos) (d2 g fa fb):=UK d h f e
end
section
def c6.told(I:c6 X pins σ H s) {u u':HO} (k:H a=Y u) (C:∀b,u≠.own b) (l:∀xs,u≠.tup xs) (B:∀ps,u≠.OH ps) (t:∀o v,X.lI a≠Y (.qY o v))
  (h:∀H',ia X.prog X.w H' s.heap a u'):c6 X pins σ (upd H a u') s:=by
 have g:∀b,H b=Z->b≠a:=λb e z=>by subst z;rw[k] at e;cases e
 have f:∀b o,H b=Y o->o≠u->b≠a:=λb o e n z=>by subst z;rw[k] at e;exact n (bB e).symm
 refine{I.ok,I.os,I.bare,{I.base.keep,I.base.slot,λb o e n y=>?_,I.base.there,λb xs e=>?_,λb o v e=>?_,λb ps e=>?_},I.loc,I.cell,?_,λx c e=>?_,λp A=>?_,λb o e=>?_,I.len}
 .have:=I.base.free b o e n y;rw[cp (g b this)];exact this
 .have:=I.base.nT b xs e;rw[cp (f b _ this (l xs).symm)];exact this
 .rw[cp (λz:b=a=>t o v (by rw[<-z];exact e))];exact I.base.m5 b o v e
 .obtain⟨d,this⟩:=I.base.oa b ps e;exact{d,by rw[cp (f b _ this (B _).symm)];exact this}
 .rw[cp (g _ I.free)];exact I.free
 .rw[cp (g _ (I.j5 x c e))];exact I.j5 x c e
 .obtain⟨r,i,m⟩:=I.pin p A;exact{r,by rw[cp (g _ i)];exact i,m}
 .by_cases j:b=a
  .subst j;rw[da] at e;cases e;exact h _
  .rw[cp j] at e;exact(I.gR b o e).pA (λc v _ q=>q) (λc q=>by rw[cp (f c _ q (C b).symm)];exact q) λc xs q=>by rw[cp (f c _ q (l xs).symm)];exact q
theorem Paired.at'{α β:Type}{F:α->β->Prop}:∀{d:List α}{c:List β}{i:Nat}{a:α}{b:β},Paired F d c->d[i]?=Y a->c[i]?=Y b->F a b
 |_,_,i,_,_,.nil,h,_=>by simp at h
 |_,_,0,_,_,.cons r _,h,h'=>by simp at h h';subst h h';exact r
 |_,_,i+1,_,_,.cons _ t,h,h'=>Paired.at' t (by simpa using h) (by simpa using h')
def X7(a:Addr)(c:Obj)(b:List (Key×V)):It :=
 {λi H=>H a=Y (.qY c (.dK b))/\i<b.length,λi H x H'=>H'=H/\∃y v,b[i]?=Y (y,v)/\x=kV y,λi H=>H a=Y (.qY c (.dK b))/\b.length<=i}
def y7{P:Program}{g:Obj}{k:Array DictEntry}{l:Nat}(x:ia P w H h a (.qY g (.dK kv)))(j:g.data=.dict k l):
  ∃e,KV kv e/\h.DictAt (gp P w) a e l:=by
 sleep 1;obtain⟨i,z,p,e,f,o,m,n,b,c,d,r⟩:=x;sleep 2;rw[i] at b;cases b;rw[j] at d;cases d;exact{(e),f,g,k,i,c,j,r}
def IQ{P:Program}{K:Fg}(a p:Addr)(S:Obj)(m:List (Key×V)):D8 P w K tg (X7 a S m) [p] p (λi h=>∃t n,S.data=.dict t n/\h.IsKeyIter p a i m.length n) where
 mem:=by simp
 obj:=by
  rintro i h ⟨t,n,_,o,e,c,d⟩ b r;have e':b=p:=by simpa using r
  subst e';exact{o,e,λv z=>by rw[d] at z;cases z}
 keep:=λi h B ⟨t,n,q,f⟩ k=>{t,n,q,f.at λo e=>k p (by simp) o e}
 item:=by intro X F hw G hc i l s R H E I A ⟨t,n,x,f⟩ ⟨D,W⟩;subst F hw G;obtain⟨j,g,Q⟩:=y7 (I.gR a _ D) x;have y:m.length=j.length:=cS g;sleep 1;obtain⟨O,N,f2,M,L,J⟩:=A p (by simp);sleep 2;have U:m[i]?=Y m[i]:=aH W;have T:j[i]?=Y j[i]:=aH (by omega);have hr:=Paired.at' g U T;rw[y] at f;refine wpAny_pyNext_dict_item f Q (k:=j[i].1) (v:=j[i].2) (by rw[T]) λC B hy u sb=>?_;have I1:c6 X l R H { s with heap:=B }:=I.turned (t':=s.toks) (λb o r e=>(sb.2 b r).trans e) O N M L J;obtain⟨o,e,c,d⟩:=id u;exact{C,rfl,yC (s:={ s with heap:=B }) e c d (by decide) {kV j[i].1,H,I1,y0 hy,{rfl,m[i].1,m[i].2,U,by rw[hr.1]},{t,n,x,by rw[y];exact u},λb r=>(A b r).1}}
 done:=by intro X F hw G hc i l s R H E I A ⟨t,n,x,f⟩ ⟨D,W⟩;subst F hw G;obtain⟨j,g,Q⟩:=y7 (I.gR a _ D) x;have y:m.length=j.length:=cS g;sleep 1;obtain⟨O,N,f2,M,L,J⟩:=A p (by simp);sleep 2;rw[y] at f;exact wpAny_pyNext_dict_end (I.ok.hd hc) f Q (bU (by omega)) λB eb=>{rfl,I.turned (t':=s.toks) (λb o r e=>eb b o r e) O N M L J}
 self:=λ_ _ _ _ _ ⟨_,_,_,f⟩ h=>wpAny_pyIter_keyiter f h
def QG{E:TE}(M:PE X e E):PI X tg e (λσ H R=>E σ H λv n=>∃a i,v=.ref a/\Rd n a (.dK i)/\(∀g,n a=Y (.qY g (.dK i))->R (X7 a g i) n) /\
  ∀g,n a=Y (.dK i)->(∀o v,X.lI a≠Y (.qY o v))->R (X7 a g i) (upd n a (.qY g (.dK i)))):=by
 intro f s σ H R I h;refine gY (@M f s σ H _ I h) ?_;rintro v k ⟨y,n,A,J,a,i,P,j,L,K⟩;subst P;cases J;have G:∀{m:Hp}{g:Obj},c6 X f σ m k->m a=Y (.qY g (.dK i))->R (X7 a g i) m->(zw X) (pyIter (.ref a)) (ZT X f σ tg R) X.xe k:=λ{m g} x e2 q=>by
  sleep 1;obtain⟨t,z,B,D,l,o,u,C,p,c,d,r⟩:=(show ia X.prog X.w m k.heap a (.qY g (.dK i)) from x.gR a _ e2);sleep 2
  rw[t] at p;cases p;have O:∀b∈[(zB k)],o9 X f m b:=λb N=>by rw[show b=(zB k) by simpa using N];exact x.D7 (aE _) (x.gR.fresh (aE _))
  refine wpAny_pyIter_dict (knd:=gp X.prog X.w) B {(g),u,t,c,d,r} ?_;exact{_,[(zB k)],_,_,m,rfl,x.kept (t':=k.toks) λb o e=>ae _ e,IQ a _ g i,{u,C,d,_,aF _ rfl,rfl,by rw[cS l];rfl},O,q}
 rcases j with j | ⟨g,j⟩
 .obtain⟨z,B,D,l,o,u,C,t,r⟩:=(show ia X.prog X.w n k.heap a (.dK i) from A.gR a _ j)
  have F:∀o v,X.lI a≠Y (.qY o v):=λo v e=>by have:=A.base.m5 a o v e;rw[j] at this;cases this
  exact G (A.told (u':=.qY o (.dK i)) j (λ_ q=>by cases q) (λ_ q=>by cases q) (λ_ q=>by cases q) F λQ=>{(t),z,B,D,l,o,u,C,t,r}) da (K o j F)
 .exact G A j (L g j)
def QH{t:TS}(h:PS X st t):PS X st (λD σ H=>t { D with nx:=λb c=>D.nx b c\/∃a g e,c a=Y (.qY g (.dK e))/\(∀o v,X.lI a≠Y (.qY o v))/\D.nx b (upd c a (.dK e)) } σ H):=by
 intro d s σ H D I n;refine gY (@h d s σ H _ I n) λf l q=>?_;cases f with
 |next=>
  obtain⟨b,c,j,q | ⟨a,g,e,k,m,q⟩⟩:=q
  .exact{(b),c,j,q}
  .obtain⟨_,i⟩:=(show ia X.prog X.w c l.heap a (.qY g (.dK e)) from j.gR a _ k)
   exact{b,_,j.told (u':=.dK e) k (λ_ q=>by cases q) (λ_ q=>by cases q) (λ_ q=>by cases q) m λ_=>i,q}
 |brk=>exact q
 |cont=>exact q
 |ret v=>exact q
end
def LJ(u:HO)(a:List (Key×V)):Prop:=u=.dK a\/∃o,u=.qY o (.dK a)
def LK{K:Fg}{u g:HO}(j:G a=Y u)(i:LJ u kv)(e:LJ g kv):D1 K G (upd G a g):=by
 have c:∀{b:Addr}{v:HO},G b=Y v->(∀kv,¬ LJ v kv)->b≠a:=λ{b v} h n z=>by subst z;rw[j] at h;cases h;exact n _ i
 refine{λ{b xs} h=>?_,λ{b xs} h=>?_,λ{b d} h=>?_,λ{b C dx fs} h=>?_,λ{b φ} h=>by rw[cp (c h λ_ z=>by rcases z with z | ⟨_,z⟩<;>cases z)];exact h}
 .rcases h with (h | ⟨o,h⟩)|h
  .exact .inl (.inl (by rw[cp (c h λ_ z=>by rcases z with z | ⟨_,z⟩<;>cases z)];exact h))
  .exact .inl (.inr {o,by rw[cp (c h λ_ z=>by rcases z with z | ⟨_,z⟩<;>cases z)];exact h})
  .exact .inr h
 .rcases h with (h | ⟨o,h⟩)|h
  .exact .inl (.inl (by rw[cp (c h λ_ z=>by rcases z with z | ⟨_,z⟩<;>cases z)];exact h))
  .exact .inl (.inr {o,by rw[cp (c h λ_ z=>by rcases z with z | ⟨_,z⟩<;>cases z)];exact h})
  .exact .inr h
 .by_cases f:b=a
  .subst f;have:d=kv:=by
    rcases h with h | ⟨o,h⟩<;>rw[j] at h<;>cases h<;>rcases i with z | ⟨_,z⟩<;>cases z<;>rfl
   subst this;rcases e with z | ⟨o,z⟩<;>subst z
   .exact .inl da
   .exact .inr {(o),da}
  .rcases h with h | ⟨o,h⟩
   .exact .inl (by rw[cp f];exact h)
   .exact .inr {o,by rw[cp f];exact h}
 .rw[cp (c h λ_ z=>by rcases z with z | ⟨_,z⟩<;>cases z)];exact h
def gE.tell{K:Fg}{u f:HO}(h:gE O K σ ρ H G)(m:G a=Y u)(n:LJ u kv)(j:LJ f kv):gE O K σ ρ (upd H a f) (upd G a f):=by
 obtain⟨B,p,e,g⟩:=h.ex;have l:∀x∈B,x.1≠a:=λx c z=>by have:=e.free x c;rw[z,m] at this;cases this
 have k:=LK (K:=K) m n j;refine{h.len,{B,?_,{e.nd,λx c=>by rw[cp (l x c)];exact e.free x c,e.ok},g.sim k},λi d q o=>by obtain⟨v,a,b⟩:=h.kn i d q o;exact{v,a,b.sim k}};subst p
 funext b
 rcases pI (a:=b) B with ⟨x,c,rfl⟩|h'
 .rw[fX e.nd x c,cp (l x c),fX e.nd x c]
 .rw[gv h'];unfold upd;split
  .rfl
  .rw[gv h']
section
variable {a c:Expr}
def aau(c n:Str)(i:Nat):a0->Od:=λa=>(a[i]?).join.bind λd=>match d with
 |.dict ((.none,.str b)::r)=>if b=c/\kK c n=false then nJ n r else Z
 |_=>Z
def uG{K:Fg}{n:Hp}{a:Addr}{c:Obj}(g:G a=Y (.qY c (.dK kv)))(e:gi K n iV kv):rj K (X7 a c kv) (iV.map (·.1)) G:=λH' b=>by
 have f:iV.length=kv.length:=e.length;refine{{b _ _ g,by simp[f]},λi d q=>{{b _ _ g,?_},λx r ⟨l,y,v,k,j⟩=>?_}}
 .have:=(aM.mp q).1;simpa [f] using this
 .subst l j;refine{.refl _,λo _ _=>?_};obtain⟨p,h,m⟩:=(tK (H':=o) e).get q;rw[aB,k] at h;cases h;exact m
def CJ{K:Fg}{J:It}{t:Tg}{b:a0}{S n:Hp}{D:o8} (hO:t.free O) (w:rj K J ds n) (h1:iS m O K σ ρ S n) (e2:ib (mZ t) g ds ρ=Y (.nx b))
  (k:∀nR H' G',dn n G'->iS m O K nR b H' G'->D.nx nR H'):∃W:Nat->Nat->St->Hp->Prop,(∃j,W 0 j σ S)/\∀i j σ H,W i j σ H ->
   (J.stop i H/\D.nx σ H)\/(J.go i H/\∃N:St->Hp->Prop,(∀nR H',N nR H'->∃Q,Q<j/\W (i+1) Q nR H')/\∀x H',J.Ui i H x H'->gT K t x σ H' λC L=>tO m O K g { D with nx:=N,ct:=N,bk:=D.nx } C L):=by
 refine{λi j nR H'=>j=ds.length - i/\i<=ds.length/\∃f G',dn n G'/\iS m O K nR f H' G'/\ib (mZ t) g (ds.drop i) f=Y (.nx b),{ds.length,by simp,dq _,ρ,n,.refl _,h1,by simpa using e2},?_};rintro i j nR H' ⟨rfl,hi,f,G',v,c,s⟩;obtain⟨w1,w2⟩:=w H' (v.trans c.o.sub);by_cases l:i<ds.length
 .right;have hd:ds[i]?=Y ds[i]:=aH l;obtain⟨X,V⟩:=w2 i _ hd;rw[b7 l] at s;unfold ib at s;obtain⟨P,e4,A⟩:=bind_some s;obtain⟨E,e6,e7⟩:=bind_some e4;refine{X,λp R=>∃a B,dn n B/\iS m O K p a R B/\ib (mZ t) g (ds.drop (i+1)) a=Y (.nx b),by rintro p R ⟨a,B,s3,h3,G⟩;exact{ds.length - (i+1),by omega,rfl,l,a,B,s3,h3,G},λx L y=>?_};obtain⟨r1,r2⟩:=V x L y;obtain⟨T,M,g2,F⟩:=c.o.grow r1;have i4:=r2 T (v.trans M) g2;refine iS.bind (m:=m) {F,c.z} hO i4 e6 λU h5=>{E,P,T,h5,e7,?_}
  have h:=v.trans M;cases P with
  |nx a=>exact λe I u q r=>{a,u,h.trans q,r,A}
  |ct a=>exact λe I u q r=>{a,u,h.trans q,r,A}
  |bk a=>cases A;exact λe I u q r=>k e I u (h.trans q) r
  |rt d=>cases A
 .have G:i=ds.length:=by omega
  subst G;rw[fh] at s;cases s;exact .inl {w1,k nR H' G' v c}
def LL:Out->Option Out
 |.nx ρ=>Y (.nx ρ)
 |_=>Z
def GO(f:a0->Od)(t:Tg)(g:a0->Option Out):a0->Option Out:=λa=>(f a).bind λd=>match d with
 |.dict iV=>if gw iV=true then Z else (ib (mZ t) g (iV.map (·.1)) a).bind LL
 |_=>Z
def LM{t:Tg} (hp:PassesOwn (model X.prog X.w) X.A X.env X.xe) (hc:X.calm=true) (hi:PV X O iter f) (hg:PG X tg (gT X.K t)) (R:t.free O) (y:k9 X m O body g)
  (u:zr 2 (∀x,foldedSetIterable iter X.env x=pure x)):me X m O (.For tg iter body [] pos) (GO f t g) :=
 PS.imp (QH (JR hp hc (QG hi) hg y u)) <| by
  rintro D σ H ⟨U,o,G0,u,e,k⟩;obtain⟨d,e1,s⟩:=bind_some e;obtain⟨h,rfl⟩:∃h,d=.dict h:=by cases d<;>first|exact{_,rfl}|cases s
  dsimp only at s;by_cases p:gw h=true
  .rw[ah p] at s;cases s
  rw[aq p] at s;obtain⟨P,S,e4⟩:=bind_some s;obtain⟨j,rfl,rfl⟩:∃j,P=.nx j/\o=.nx j:=by cases P<;>cases e4;exact{_,rfl,rfl}
  refine{U,.dict h,G0,u.o,e1,λv H1 J s1 N r V=>?_};sleep 1;obtain⟨a,n,rfl,c,Q⟩:=V.pG (by simpa using p);sleep 2;refine{a,n,rfl,r.sub.rd c,λl F=>?_,λl F W=>?_}
  .have I:J a=Y (.qY l (.dK n)):=by
    rcases c with c | ⟨o,c⟩
    .have:=r.sub _ _ c;rw[F] at this;cases this
    .have:=r.sub _ _ c;rw[F] at this;cases this;exact c
   exact CJ R (uG I Q) {r,u.z} S λi T M E C=>.inl (k i T M (N.trans E) C)
  .have I:J a=Y (.dK n):=by
    rcases c with c | ⟨o,c⟩
    .exact c
    .have:=r.sub _ _ c;rw[F] at this;cases this
   refine CJ R (uG (G:=upd J a (.qY l (.dK n))) da Q) {r.tell I (.inl rfl) (.inr {(l),rfl}),u.z} S λi T M E C=>.inr ?_;have B:=E _ _ (da (H:=J) (a:=a) (o:=.qY l (.dK n)));refine{a,l,n,C.o.sub _ _ B,W,k i _ (upd M a (.dK n)) (λb o q=>?_) {C.o.tell B (.inr {(l),rfl}) (.inl rfl),C.z}};have L:=N b o q;by_cases y:b=a
   .subst y;rw[I] at L;cases L;exact da
   .rw[cp y];exact E b o (by rw[cp y];exact L)
end
section
variable {prog:Program}{g:Array GenState}{d:Drawn}{t:Nat}{os:OsState}
variable {nm q:Str}{N:Addr}{bs bm Vq:Lw}{hdct:Bool}{sn:Lr}{sub:Lw}{ab:Bool}{col:Option Bool}{dd:Option Addr}{k0 k1 k2 k3 k5:Ow}{B newId wA:String}
theorem qD(F:ExcBaseFacts B newId wA Vq) (T:OwnTail h Vq bm) {m:Str->Ow}{a:Lw}{u:Addr}{v:Obj}{Q:Fin->Shared->Prop}
  (k:h.get? C=Y (excClassObj nm q C N bs bm hdct sn sub ab col dd k0 k1 k2 k3 k5 newId)) (D:h.Ns N m) (G:m "__init__"=Y (.ref u))
  (p:h.get? u=Y v) (n:v.cls=.type "function")
  (z:∀h' e,Heap.MadeExcOf h h' e (.ref C) a->h.objs.size<=e ->
   wpAny (model prog w) A (call (.ref u) (.ref e::a)) (λr s'=>r=.none/\Q (.done (.ret (.ref e))) s') E {(h'),g,d,t,os}) (hrest:zr 13 (a.length<=sizeLine)):
  wpAny (model prog w) A (Builtin.«type.__call__» {.ref C::a,[]}) Q E {(h),g,d,t,os}:=by
 repeat (first|with_reducible refine wpAny_loadPart_at k ?_|with_reducible refine wpAny_madeBy_exc k ?_|wp_step)
 refine codeAny_call_builtin_code (Code.quiet_builtin _ F.quiet) (wpAny_check_new_subT F T k ?_);refine codeAny_exc_new_subT F T k ?_ hrest;show wpAny _ _ _ _ _ _;have c:=ae { cls:=.ref C,data:=.fields #[.ref h.objs.size,.none,.none,.none,.bool false,.none] }
  (ae { cls:=.type "tuple",data:=.seq a.toArray } k)
 have f:=ae { cls:=.ref C,data:=.fields #[.ref h.objs.size,.none,.none,.none,.bool false,.none] }
  (ae { cls:=.type "tuple",data:=.seq a.toArray } p)
 have j:((h.push { cls:=.type "tuple",data:=.seq a.toArray }).push { cls:=.ref C,data:=.fields #[.ref h.objs.size,.none,.none,.none,.bool false,.none] }).Ns N m :=
  let ⟨o,J,K,e,r⟩:=D;{o,J,K,ae _ (ae _ e),r}
 have i:((h.push { cls:=.type "tuple",data:=.seq a.toArray }).push
   { cls:=.ref C,data:=.fields #[.ref h.objs.size,.none,.none,.none,.bool false,.none] }).get? (h.objs.size+1)=Y
   { cls:=.ref C,data:=.fields #[.ref h.objs.size,.none,.none,.none,.bool false,.none] }:=by heap_get
 have s:(Value.ref C::bm).contains (.ref C)=true:=by simp
 have l:=T.keeps (h':=(h.push { cls:=.type "tuple",data:=.seq a.toArray }).push { cls:=.ref C,data:=.fields #[.ref h.objs.size,.none,.none,.none,.bool false,.none] })
  λb o e=>ae _ (ae _ e)
 unfold isInstance
 repeat (first|with_reducible refine wpAny_loadPart_at i ?_|(with_reducible refine wpAny_isSubtype_exc c ?_;rw[s])|wp_step)
 show wpAny _ _ (typeLookup (.ref C) _) _ _ _;refine wpAny_typeLookup_tail c j l F.mroIs F.init.lookup ?_;rw[G];refine a8 (aa ?_);unfold bindSpecial;refine aa (cE (T:="function") {_,f,n} ?_);rw[ah (by decide)];refine ao (aa (bq (z _ (h.objs.size+1) {λb o H=>ae _ (ae _ H),Heap.get?_none_of_le (fA _),h.objs.size,i,Heap.get?_none_of_le (aE _),?_} (fA _)) (λr s' y=>?_) λ_ _ x=>x))
 .exact ae _ (Heap.get?_push_at rfl rfl)
 .obtain⟨rfl,I⟩:=y
  wp_walk
  exact I
def wB(F:ExcBaseFacts B newId wA Vq) (T:OwnTail h Vq bm) {j:Str->Ow}{a:Lw}{fI:Addr}{i:Obj}{Q:Px}
  (b:h.get? C=Y (excClassObj nm q C N bs bm hdct sn sub ab col dd k0 k1 k2 k3 k5 newId)) (m:h.Ns N j) (o:j "__init__"=Y (.ref fI))
  (f:h.get? fI=Y i) (c:i.cls=.type "function")
  (l:∀h' e,Heap.MadeExcOf h h' e (.ref C) a->h.objs.size<=e ->
   wpAny (model prog w) (A.under (.builtin "type.__call__" {.ref C::a,[]})) (call (.ref fI) (.ref e::a)) (λr s'=>r=.none/\Q (.ref e) s') E {(h'),g,d,t,os}) (hrest:zr 13 (a.length<=sizeLine)):
  wpAny (model prog w) A (call (.ref C) a) Q E {(h),g,d,t,os}:=by
 have u:=tc_lookup;have s:=tc_bind (.ref C);have p:({(h),g,d,t,os}:Shared).TypeIs (.ref C) "type":={_,b,rfl}
 refine wpAny_call (codeAny_of_tree ?_);show wpAny _ _ (callAny (.ref C) _) _ _ _
 repeat (any_goals (first|assumption|with_reducible refine wpAny_loadPart_at b ?_|wp_step))
 refine{rfl,?_};refine codeAny_call_builtin_at (Code.quiet_builtin _ (by decide +kernel)) entry_typeCall (wpAny_check_type_call_sub b (qD (hrest:=hrest) F T b m o f c λh' e n k=>?_));exact l h' e n k
end
section
variable {M:Model}{env:Env}
variable {nm q:Str}{N:Addr}{bs bm:Lw}{hdct:Bool}{sn:Lr}{sub:Lw}{ab:Bool}{col:Option Bool}{dd:Option Addr}{k0 k1 k2 k3 k5:Ow}{newId:String}
def wC{x:Sem Value}{Q:Flow->Shared->Prop} (a:bm.contains (.type "BaseException")=true) (i:A.handled=Z)
  (h:wpAny M A x (λv s₁=>∃e t dx,v=.ref e/\s₁.heap.get? C=Y (excClassObj nm q C N bs bm hdct sn sub ab col dd k0 k1 k2 k3 k5 newId) /\
   s₁.heap.get? e=Y { cls:=.ref C,dict:=dx,data:=.fields #[.ref t,.none,.none,.none,.bool false,.none] }/\E (.ref e) s₁) E s):
  wpAny M A (raiseStmt env (Y x) Z) Q E s:=by
 have c:(Value.ref C::bm).contains (.type "BaseException")=true:=by rw[List.contains_cons,a,Bool.or_true]
 unfold raiseStmt;refine aa (bq h (λv s₁ b=>?_) λ_ _ x=>x);sleep 1;obtain⟨e,t,dx,rfl,f,j,k⟩:=b;sleep 2;sleep 1;obtain⟨n,g,d,l,m⟩:=s₁;sleep 2
 repeat (first|with_reducible refine wpAny_loadPart_at j ?_|with_reducible refine wpAny_loadPart_at f ?_|(with_reducible refine wpAny_isSubtype_exc f ?_;rw[c])|wp_step)
 exact wpAny_raiseNew_none i k
end
section
variable {prog:Program}{g:Array GenState}{d:Drawn}{t:Nat}{os:OsState}
variable {nm q:Str}{N:Addr}{bs bm Vq:Lw}{hdct:Bool}{sn:Lr}{sub:Lw}{ab:Bool}{col:Option Bool}{dd:Option Addr}{k0 k1 k2 k3 k5:Ow}{B newId wA:String}
theorem wD(F:ExcBaseFacts B newId wA Vq) (T:OwnTail h Vq bm) {e l:Addr}{a:Lw}{Q:Px}
  (n:h.get? C=Y (excClassObj nm q C N bs bm hdct sn sub ab col dd k0 k1 k2 k3 k5 newId)) (j:h.get? e=Y { cls:=.ref C,data:=.fields #[.ref l,.none,.none,.none,.bool false,.none] })
  (m:∀h',(∀b o,b≠e->h.get? b=Y o->h'.get? b=Y o)->h'.get? e=Y { cls:=.ref C,data:=.fields #[.ref h.objs.size,.none,.none,.none,.bool false,.none] } ->
   h'.get? h.objs.size=Y { cls:=.type "tuple",data:=.seq a.toArray }->Q .none {(h'),g,d,t,os}) (c:zr 13 (a.length<=sizeLine)):
  wpAny (model prog w) A (call (.builtin wA) (.ref e::a)) Q E {(h),g,d,t,os}:=by
 refine wpAny_call (codeAny_call_builtin F.init.plain F.initEntry (wpAny_check_init_subT F T n j rfl ?_));have i:=ae { cls:=.type "tuple",data:=.seq a.toArray } j;have f:h.objs.size≠e:=cL (au j)
 wp_walk
 refine m _ (λb o hb k=>?_) ?_ ?_
 .rw[aP _ _ (Ne.symm hb)];exact ae _ k
 .rw[a9 _ i rfl];rfl
 .rw[aP _ _ (Ne.symm f)];exact aF _ rfl
end
end L2
namespace L2
open PySem PySem.Spec PyProof.Rows PySem.W
open PySem.Builtin PySem.Builtin.ObjectAttr
structure QI (K:Frag) (C:Addr):Prop where
 sa:findIn K (.ref C) "__setattr__"=Y (Y (.builtin "object.__setattr__"))
 cd:∃cd,clsIn K C=Y cd/\cd.hasDict=true/\cd.mro.contains (.type "object")=true/\∀self:Value,refuseLoop self "__setattr__" cd.mro=pure ()
section
variable {prog:Program}{K:Frag}{e:Addr}{vs:Array Value}{name:Str}{v:Value}
def LN{b:Bool}{u:Tok}{Q:Fin->Shared->Prop} (X:K.In s.heap) (c:QI K C) (j:s.heap.get? e=Y { cls:=.ref C,data:=.fields vs })
  (B:∀h' OM dx,h'.get? e=Y { cls:=.ref C,dict:=Y dx,data:=.fields vs }->s.heap.get? dx=Z->h'.Ns dx (λy=>if y=name then Y v else Z) ->
   (∀b o,b≠e->s.heap.get? b=Y o->h'.get? b=Y o)->Q (.done (.ret .none)) { s with heap:=h',toks:=OM }):
  wpAny (model prog w) A (storeInOwnDict (.ref e) (.ref C) (.str name u) name v b) Q E s:=by
 sleep 1;obtain⟨h,g,d,t,I⟩:=s;sleep 2;sleep 1;obtain⟨M,F,p,-,-⟩:=c.cd;sleep 2;have a:(h.push { cls:=.type "dict",data:=.dict #[] }).get? e=Y { cls:=.ref C,data:=.fields vs }:=ae _ j;have f:e≠h.objs.size:=aO (au j);refine aa (ao (aa (aa (wpAny_loadPart j (aa ((looks_clsIn X F).here ?_))))));rw[p];show wpAny _ _ _ _ _ _;refine aa (wpAny_alloc' ?_);refine aa (wpAny_update' a ?_);refine ao ?_;have m:((h.push { cls:=.type "dict",data:=.dict #[] }).update e λo=>{ cls:=o.cls,dict:=Y h.objs.size,data:=o.data,slots:=o.slots }).get? h.objs.size
  =Y { cls:=.type "dict",data:=.dict #[] } :=
  (Heap.get?_update_ne _ _ _ _ f.symm).trans (Heap.get?_push_at rfl rfl)
 have l:((h.push { cls:=.type "dict",data:=.dict #[] }).update e λo=>{ cls:=o.cls,dict:=Y h.objs.size,data:=o.data,slots:=o.slots }).Ns h.objs.size (λ_=>Z) :=
  {_,#[],_,m,rfl,λe D=>absurd D (by simp),λ_=>rfl}
 show wpAny _ _ (storeInDict h.objs.size (.str name u) name v) _ _ _;unfold storeInDict newKeyGuard;refine aa (ao (aa (wpAny_nsSet1 (Heap.Ns1.of_empty l) λh' i x=>?_)));sleep 1;obtain⟨L,G,H,k,n,q⟩:=i.count (Within.cons name v Within.nil);sleep 2;refine aa (wpAny_lookBehind k (by rw[n];exact pastItsLine_dict (bx q (by rw[ay,d9,sizeLine_eq];omega))) ?_)
 wp_walk
 refine B h' _ h.objs.size ?_ (Heap.get?_none_of_le (aE _)) i.ns λb J r z=>?_
 .exact(x.2 e f).trans (a9 _ a rfl)
 .exact(x.2 b (aO (au z))).trans ((Heap.get?_update_ne _ _ _ _ r).trans (ae _ z))
def Vr{d:Tok} (X:K.In s.heap) (c:QI K C) (n:findIn K (.ref C) name=Y Z) (i:s.heap.get? e=Y { cls:=.ref C,data:=.fields vs })
  (m:∀h' OM dx,h'.get? e=Y { cls:=.ref C,dict:=Y dx,data:=.fields vs }->s.heap.get? dx=Z->h'.Ns dx (λy=>if y=name then Y v else Z) ->
   (∀b o,b≠e->s.heap.get? b=Y o->h'.get? b=Y o)->R (.ok (.ret .none)) { s with heap:=h',toks:=OM }):
  codeAny (model prog w) A (.call (.builtin "object.__setattr__") {[.ref e,.str name d,v],[]}) R s:=by
 have I:InstAt s.heap e { cls:=.ref C,data:=.fields vs } C Z:={(i),rfl,rfl,trivial}
 sleep 1;obtain⟨h,j,r,g,l⟩:=id c.cd;sleep 2;have a:=PySem.F.store_object;have k:h.mro.isEmpty=false:=by cases q:h.mro with|nil=>rw[q] at g;cases g|cons _ _=>rfl
 have f:Looks (model prog w) s.heap (isInstance (.ref e) (.type "object")) true:=I.type.andThen (looks_mroIn X (by unfold mroIn;rw[j,aJ,aq (by rw[k];decide),g]));have p:Looks (model prog w) s.heap (mroOf (.ref C)) h.mro:=(looks_clsIn X j).andThen .now;refine codeAny_call_builtin a.slot.plain a.entry (@check_slot (model prog w) _ _ s "object.__setattr__" "object" "__setattr__" (.ref e) [.str name d,v] [] _ a.kind a.split f (a.args (.ref e) (.str name d) v) ?_);rw[osa_eq,refuse_eq];refine aa (aa (I.type.here (aa (p.here ?_))));rw[l];refine ao (aa (I.type.here (aa ((looks_findIn X n).here (aa (ao ?_))))));exact LN X c i λh' OM dx z x u t=>m h' OM dx z x u t
def Vs{Q:Unit->Shared->Prop} (X:K.In s.heap) (c:QI K C) (f:findIn K (.ref C) name=Y Z) (a:s.heap.get? e=Y { cls:=.ref C,data:=.fields vs })
  (d:∀h' OM dx,h'.get? e=Y { cls:=.ref C,dict:=Y dx,data:=.fields vs }->s.heap.get? dx=Z->h'.Ns dx (λy=>if y=name then Y v else Z) ->
   (∀b o,b≠e->s.heap.get? b=Y o->h'.get? b=Y o)->Q () { s with heap:=h',toks:=OM }):
  wpAny (model prog w) A (setAttr (.ref e) name v) Q E s :=
 set_plain X (ox:={ cls:=.ref C,data:=.fields vs }) (od:=Z) {(a),rfl,rfl,trivial} c.sa (Vr (s:={ s with toks:=s.toks+1 }) X c f a d)
end
end L2
namespace L2
open PySem PySem.Spec PyProof.Rows PySem.W
open PySem.Builtin PySem.Builtin.ObjectAttr
structure LO (K:Frag) (C:Addr):Prop where
 ga:findIn K (.ref C) "__getattribute__"=Y (Y (.builtin "BaseException.__getattribute__"))
 hook:findIn K (.ref C) "__getattr__"=Y Z
 sub:subIn K (.ref C) (.type "BaseException")=Y true
 cd:∃cd,clsIn K C=Y cd/\cd.hasDict=true
section
variable {prog:Program}{K:Frag}{e dx:Addr}{o:Obj}{name:Str}{v:Value}{m:Str->Ow}
def LP(c:Value)(name:Str)(e:Tok):Builtin.«object.__getattribute__» {[c,.str name e],[]}=(typeOf c>>=λd=>ObjectAttr.find c d name>>=λr=>match r with
 |.value v=>ret v
 |.bind g a=>bindTo g a c d
 |.missing=>do
  if d==.type "module" then
   if <-isOpaqueModuleObj c then
    let b:=match (<-stack).drop 1 with
     | (.builtin "module.__getattribute__" ⟨m::_,_⟩,_)::_=>m==c
     |_=>false
    if !b then unsupported "thirdparty:object.__getattribute__:a-miss-on-an-opaque-module"
  if d==.type "type" then
   if let Y key <-opaqueClassAbove c then unsupported s!"thirdparty:{key.toString}.{name.toString}:object.__getattribute__-misses-on-an-opaque-class"
  noSuchAttribute c name):=by kernel_rfl
theorem Vt{a:Tok} (X:K.In s.heap) (c:LO K C) (t:findIn K (.ref C) name=Y Z) (d:s.heap.get? e=Y o) (j:o.cls=.ref C) (i:o.dict=Y dx) {g:Array Value} (h:o.data=.fields g)
  (k:s.heap.Ns dx m) (u:m name=Y v) (n:R (.ok (.ret v)) s):
  codeAny (model prog w) A (.call (.builtin "BaseException.__getattribute__") {[.ref e,.str name a],[]}) R s:=by
 obtain⟨y,od,l,b⟩:=o;dsimp only at j i h;subst j i h;sleep 1;obtain⟨od,z,B,q,p,r⟩:=id k;sleep 2;have I:InstAt s.heap e {.ref C,Y dx,.fields g,b} C (Y od):={(d),rfl,rfl,q}
 obtain⟨D,f,x⟩:=c.cd;refine codeAny_call_builtin (by decide +kernel) F.entry_bexc_ga (@check_slot (model prog w) _ _ s "BaseException.__getattribute__" "BaseException" "__getattribute__" (.ref e) [.str name a] [] _ (by decide +kernel) (by decide +kernel) (I.type.andThen (looks_subIn X c.sub)) (F.args_bexc_ga (.ref e) (.str name a)) ?_);rw[LP];refine aa (I.type.here (aa ?_));unfold ObjectAttr.find;refine aa ((looks_findIn X t).here (aa (ao (aa (ao ?_)))));unfold ownThenClass inOwnDict ObjectAttr.ownDict;refine aa (aa (aa ?_));unfold loadHead;refine wpAny_loadPart d ?_;show wpAny _ _ (instanceDict e false) _ _ _;unfold instanceDict;refine aa (wpAny_loadPart d (aa ((looks_clsIn X f).here ?_)));rw[x];refine ao ?_;show wpAny _ _ (nsGet dx name) _ _ _;refine wpAny_nsGet k ?_;rw[u];exact aa (fu (ao (ao n)))
def Vu{a:Bool}{Q:Px} (X:K.In s.heap) (c:LO K C) (u:findIn K (.ref C) name=Y Z) (g:s.heap.get? e=Y o) (f:o.cls=.ref C) (d:o.dict=Y dx) {i:Array Value} (b:o.data=.fields i)
  (h:s.heap.Ns dx m) (x:m name=Y v) (y:handedIn v=true) (p:Q v { s with toks:=s.toks+1 }):wpAny (model prog w) A (getAttr (.ref e) name a) Q E s:=by
 have n:Looks (model prog w) s.heap (typeOf (.ref e)) (.ref C):=by sleep 1;obtain⟨od,F,G,t,q,r⟩:=id h;sleep 2;obtain⟨D,k,l,j⟩:=o;dsimp only at f d b;subst f d b;exact InstAt.type (od:=Y od) {(g),rfl,rfl,t}
 have z:Looks (model prog w) s.heap (hookBefore (.ref C)) Z:=looks_hook X (by rw[ah (show onTheHeap (.ref C)=true from rfl)];exact c.hook);refine aa (wpAny_mkText (a8 (aa (n _ _ _ _ (λ_ _ e=>e) (aa (looks_findIn X c.ga _ _ _ _ (λ_ _ e=>e) ?_))))));dsimp only;rw[show (onTheHeap (.ref C)&&Value.builtin "BaseException.__getattribute__"==Value.builtin "object.__getattribute__")=false from by rw[show (Value.builtin "BaseException.__getattribute__"==Value.builtin "object.__getattribute__")=false from by decide +kernel,Bool.and_false],aq (by decide)];refine aa (z _ _ _ _ (λ_ _ e=>e) (aa (wpAny_attempt (a8 ?_))));unfold callGetattribute;rw[show (a&&onTheHeap (Value.builtin "BaseException.__getattribute__"))=false from Bool.and_false _,aq (by decide)];unfold boundAndCalled;have B:bindSpecial (.builtin "BaseException.__getattribute__") (.ref e)=pure (.builtin "BaseException.__getattribute__",[.ref e]):=by kernel_rfl
 rw[B];refine aa (ao ?_);show wpAny _ _ (call (.builtin "BaseException.__getattribute__") [.ref e,.str name s.toks]) _ _ _;refine wpAny_call (Vt (s:={ s with toks:=s.toks+1 }) X c u g f d b h x ?_);show wpAny _ _ (handedOut v) _ _ _;rw[handedOut_of y];exact ao p
end
end L2
namespace L2
open PySem PySem.Spec PyProof.Rows
structure AQ (h₀:Heap) (fs:List Addr) (C e:Addr) (dx:Option Addr) (m:Str->Ow) (fl:Value) (h:Heap):Prop where
 keep:∀b o,h₀.get? b=Y o->b∉fs->h.get? b=Y o
 slot:∀b o,h₀.get? b=Y o->∃sl,h.get? b=Y { o with slots:=sl }
 new:h₀.get? e=Z
 Vv:∀d,dx=Y d->h₀.get? d=Z
 ns:∀d,dx=Y d->h.Ns d m
 ob:∃oe vs T oT ts,h.get? e=Y oe/\(oe.cls=.ref C/\oe.dict=dx/\oe.data=.fields vs)/\vs[1]?=Y (.ref T)/\(h₀.get? T=Z/\T≠e)/\h.get? T=Y oT/\oT.data=.fields ts/\ts[3]?=Y fl
section
variable {M:Model}{h₀:Heap}{env:Env}{outer:List Env}{fs:List Addr}{L e:Addr}{oe:Obj}{vs:Array Value}{head fl:Value}{m:Str->Ow}{QJ:Bool}{Q:Unit->Shared->Prop}
def pM{o:Obj}{f:Array Value->Array Value}:(o.mapFields f).dict=o.dict:=by obtain⟨_,_,d,_⟩:=o;cases d<;>rfl
def LQ(k:∀b o,h.get? b=Y o->(∀vs,o.data≠.fields vs)->∃sl,h'.get? b=Y { o with slots:=sl })(c:h.Ns a m):h'.Ns a m:=Heap.UpToSlots.ns k c
def SN(f:A.frames=Y (env::outer)) (n:s.heap.FunFrames base (env::outer)) (x:env.frame=Y L) (p:s.heap.get? e=Y oe) (g:oe.data=.fields vs) (w:1<vs.size)
  (h:∀h' T oT ts,(∀b o,b≠e->s.heap.get? b=Y o->b∉o7 (env::outer)->h'.get? b=Y o)->(∀b o,b≠e->s.heap.get? b=Y o->∃sl,h'.get? b=Y { o with slots:=sl }) ->
   h'.get? e=Y (oe.mapFields (·.setIfInBounds 1 (.ref T)))->s.heap.get? T=Z->T≠e->h'.get? T=Y oT->oT.data=.fields ts->ts[3]?=Y (rawInt L)->Q () { s with heap:=h' }):
  wpAny M A (do let a <-frameOf env;let i <-entryPlaceOf L QJ;let b <-EntryCells.newEntry head a .none (rawInt L) .none i;setField (.ref e) 1 b) Q E s:=by
 have v:e∉(env::outer).filterMap (·.frame):=λz=>by obtain⟨_,o,m,k⟩:=n.mem z;rw[p] at m;cases m;exact k vs g
 refine aa (wpAny_frameOf_fun f n x λc sl=>?_);refine aa (wpAny_entryPlaceOf λi l=>?_);unfold EntryCells.newEntry newFields;refine aa (cF ?_ (l.sizeOk5 _ _ _ _ _));have t:c.get? e=Y oe:=(sl.2.1 e v).trans p;have r:=λo=>ae (h:=c) o t;have j:c.objs.size≠e:=cL (au t);refine wpAny_setField (r _) g w (h _ c.objs.size _ _ (λb o nb q u=>?_) (λb o nb q=>?_) (a9 _ (r _) (Obj.isFreed_of_fields (Obj.data_mapFields g _))) ?_ j ((aP _ _ (Ne.symm j)).trans (aF c rfl)) rfl ?_)
 .rw[aP _ _ (Ne.symm nb)];exact ae _ ((sl.2.1 b u).trans q)
 .obtain⟨z,d⟩:=sl.2.2 b o q;refine{z,?_};rw[aP _ _ (Ne.symm nb)];exact ae _ d
 .cases q:s.heap.get? c.objs.size with
  |none=>rfl
  |some o=>obtain⟨z,d⟩:=sl.2.2 _ o q;exact absurd (au d) (a7 _)
 .first|(simp;done)|(rcases l with rfl | ⟨_,_,_,_,_,_,_,rfl⟩<;>simp)
theorem AQ.lands(F:AQ h₀ fs C e dx m fl s.heap)(h:∀h',AQ h₀ fs C e dx m .none h'->Q () { s with heap:=h' }):wpAny M A (setFlight (.ref e) Z) Q E s:=by
 sleep 1;obtain⟨oe,vs,T,G,l,t,⟨D,B,v⟩,u,⟨r,p⟩,j,c,y⟩:=F.ob;sleep 2;have k:3<l.size:=(Array.getElem?_eq_some_iff.mp y).1;have a:∀b,b≠T->(s.heap.update T (Obj.mapFields (·.setIfInBounds 3 ((Z:Option Addr).elim Value.none λf=>rawInt f)))).get? b=s.heap.get? b:=λb x=>aP _ _ (Ne.symm x);have n:∀b o,h₀.get? b=Y o->b≠T:=λb o q z=>by rw[z,r] at q;cases q
 unfold setFlight;refine aa (b6 t v u ?_);rw[ah (show (Value.ref T != Value.none)=true from by simp)];refine wpAny_setField j c k (h _ {λb o q g=>(a b (n b o q)).trans (F.keep b o q g),λb o q=>?_,F.new,F.Vv,?_,oe,vs,T,_,_,(a e (Ne.symm p)).trans t,{(D),B,v},u,{(r),p},a9 _ j (Obj.isFreed_of_fields (Obj.data_mapFields c _)),Obj.data_mapFields c _,by simp[k]})
 .obtain⟨w,e⟩:=F.slot b o q;exact{w,(a b (n b o q)).trans e}
 .intro d i;refine LQ (λb o q g=>{o.slots,(a b λz=>?_).trans q}) (F.ns d i);rw[z,j] at q;cases q;exact g l c
def QK(j:A.frames=Y (env::outer)) (F:s.heap.FunFrames base (env::outer)) (u:env.frame=Y L) (a:∀b o,h₀.get? b=Y o->s.heap.get? b=Y o) (f:h₀.get? e=Z) (c:∀d,dx=Y d->h₀.get? d=Z) (B:∀d,dx=Y d->s.heap.Ns d m)
  (k:s.heap.get? e=Y oe) (K:oe.cls=.ref C) (J:oe.dict=dx) (g:oe.data=.fields vs) (v:vs[1]?=Y .none) (h:∀h',AQ h₀ (o7 (env::outer)) C e dx m .none h'->Q () { s with heap:=h' }):wpAny M A (leaving env (.ref e)) Q E s:=by
 have t:=(Array.getElem?_eq_some_iff.mp v).1;unfold leaving noteFrame;simp only[u];refine aa (aa (b6 k g v ?_));rw[aq (by decide)];have n:∀b o,h₀.get? b=Y o->b≠e:=λb o q z=>by rw[z,f] at q;cases q
 refine SN j F u k g t λh' T y w D r H p N G I x=>?_;refine AQ.lands (s:={ s with heap:=h' }) (fl:=rawInt L) {λb o q i=>D b o (n b o q) (a b o q) i,λb o q=>r b o (n b o q) (a b o q),f,c,?_,_,_,T,y,w,H,{(Obj.cls_mapFields _ _).trans K,pM.trans J,Obj.data_mapFields g _},by simp[t],{?_,N},G,I,x} h
 .intro d l;refine LQ (λb o q i=>r b o (λz=>?_) q) (B d l);rw[z,k] at q;cases q;exact i vs g
 .cases q:h₀.get? T with
  |none=>rfl
  |some o=>rw[a T o q] at p;cases p
theorem AQ.note(F:AQ h₀ fs C e dx m .none s.heap)(r:A.frames=Y (env::outer))(hl:s.heap.FunFrames base (env::outer))(N:env.frame=Y L)(W:∀b∈o7 (env::outer),b∈fs)(h:∀h',AQ h₀ fs C e dx m (rawInt L) h'->Q () { s with heap:=h' }):
  wpAny M A (noteFrame (.ref e) env) Q E s:=by
 sleep 1;obtain⟨oe,vs,T,oT,R,t,⟨c1,c2,g⟩,P,⟨X,U⟩,w,v,O⟩:=F.ob;sleep 2;have K:=(Array.getElem?_eq_some_iff.mp P).1;unfold noteFrame;simp only[N];refine aa (b6 t g P ?_);rw[ah (show (Value.ref T != Value.none)=true from by simp)];refine aa (b6 w v O ?_);rw[aq (show ¬ ((Value.none==rawInt L)=true) from by simp[rawInt])];refine aa (wpAny_setField w v (Array.getElem?_eq_some_iff.mp O).1 ?_);have a:∀b,b≠T->(s.heap.update T (Obj.mapFields (·.setIfInBounds 3 Value.none))).get? b=s.heap.get? b:=λb hb=>aP _ _ (Ne.symm hb);have H:∀b o,s.heap.get? b=Y o->(∀vs,o.data≠.fields vs)->b≠T:=λb o q c z=>by rw[z,w] at q;cases q;exact c R v
 have I:∀b o,h₀.get? b=Y o->b≠e:=λb o q z=>by rw[z,F.new] at q;cases q
 have n:∀b o,h₀.get? b=Y o->b≠T:=λb o q z=>by rw[z,X] at q;cases q
 refine SN (s:={ s with heap:=_ }) r (hl.of_keeps λb o q c=>{o,(a b (H b o q c)).trans q,rfl}) N ((a e (Ne.symm U)).trans t) g K λh' f l i V J e1 p G x D j=>?_;refine h h' {λb o q c=>V b o (I b o q) ((a b (n b o q)).trans (F.keep b o q c)) λz=>c (W b z),λb o q=>?_,F.new,F.Vv,?_,_,_,f,l,i,e1,{(Obj.cls_mapFields _ _).trans c1,pM.trans c2,Obj.data_mapFields g _},by simp[K],{?_,G},x,D,j}
 .obtain⟨S,B⟩:=F.slot b o q;obtain⟨k,y⟩:=J b _ (I b o q) ((a b (n b o q)).trans B);exact{(k),y}
 .intro d u;refine LQ (λb o q c=>J b o (λz=>?_) ((a b (H b o q c)).trans q)) (F.ns d u);rw[z,t] at q;cases q;exact c vs g
 .cases q:h₀.get? f with
  |none=>rfl
  |some o=>obtain⟨S,B⟩:=F.slot f o q;have:=(a f (n f o q)).trans B;rw[p] at this;cases this
end
end L2
namespace L2
open PySem PySem.Spec PyProof.Rows PySem.W
def ia.there{P:Program}(x:ia P w H h a o):∃c,h.get? a=Y c:=by
 cases o with
 |lst d=>sleep 1;obtain⟨_,_,_,_,e⟩:=x;sleep 2;exact{_,e}
 |tup d=>sleep 1;obtain⟨_,_,_,_,e,_⟩:=x;sleep 2;exact{_,e}
 |dK b=>sleep 1;obtain⟨_,_,_,_,_,_,_,e,_⟩:=x;sleep 2;exact{_,e}
 |dT b=>sleep 1;obtain⟨_,_,_,_,_,_,_,e,_⟩:=x;sleep 2;exact{_,e}
 |set S n=>sleep 1;obtain⟨_,_,_,_,e,_⟩:=x;sleep 2;exact{_,e}
 |ins C dx g=>sleep 1;obtain⟨_,_,_,e,_⟩:=x;sleep 2;exact{_,e}
 |own y=>exact x
 |xd g=>sleep 1;obtain⟨_,⟨_,_,_,e,_⟩,_⟩:=x;sleep 2;exact{_,e}
 |Wv k l=>obtain⟨_,_,_,e⟩:=x;exact{_,e}
 |qY c u=>exact{_,x.1}
 |OH j=>exact{_,x}
 |met f y=>exact{_,x}
 |ext i=>exact x.2.1
section
variable {p1 p3 p4 p5 p6 p7 p8 p9:Pos}
def tFs(i:Nat):TE:=λa H Q=>∃n:Int,a[i]?=Y (Y (.int n))/\(0<=n/\n<10000)/\∀x,Q (.str x) H
def X8{a:Str}{x:Expr}(L:a.length<=1000)(B:PE X x (WN i))(d:zr0 (evalEach [.Constant (.str a) j p1,.FormattedValue x (-1) Z p2] X.env=[eval (.Constant (.str a) j p1) X.env,eval (.FormattedValue x (-1) Z p2) X.env])):
  PE X (.JoinedStr [.Constant (.str a) j p1,.FormattedValue x (-1) Z p2] pos) (tFs i):=by
 rintro c s f H Q I ⟨n,e,⟨N,M⟩,q⟩;have C:n.natAbs<10 ^ 4:=by omega
 have K:=int_text_length_le10 (k:=4) (by decide) C;have D:n.natAbs.log2<1920:=by
  by_cases z:n.natAbs=0
  .rw[z];decide
  .exact aI ((Nat.log2_lt (k:=14) z).mpr (by omega)) (by decide)
 refine wpAny_JoinedStr ?_;rw[d];have h:∀b:Str,(Str.empty++b).length=b.length:=λb=>by rw[jK];show 0+_=_;omega
 refine gY (@JH X a j p1 c s f H (λv H'=>v=.str a/\H'=H) I {(rfl),rfl}) ?_;rintro v m ⟨y,l,F,p,A,w⟩;subst A w;obtain⟨t,rfl⟩:=p;refine{a,t,rfl,by rw[h,sizeLine_eq];omega,wpAny_FormattedValue_plain (gY (@B c m f l (λv H'=>v=.int n/\H'=l) F {_,e,rfl,rfl}) ?_)};rintro v J ⟨y,G,E,o,u,r⟩;subst u r;obtain⟨t',rfl⟩:=o;have g:(Str.empty++a++zZ (toString n)).length<=sizeLine:=by rw[jK,h,PySem.ofString_length,sizeLine_eq];omega
 exact wpAny_formatField_int D {_,_,rfl,g,g,.str _,G,E.tok _,{_,rfl},q _}
end
def AR(K:Frag)(C:Addr)(b:Lw)(a:String)(c:Addr):Bool:=match K.lookup C with
 |some ⟨.type "type",_,.cls cd,sl⟩=>(match cd.mro,sl.toList with
  |.ref d::bm,[_,_,_,_,Y (.builtin n),_]=>d==C&&n==a&&!cd.hasDel&&tailIn K b bm&&nsOkIn K cd.ns&&nsIn K cd.ns "__init__"==Y (Y (.ref c))
  |_,_=>false)
 |_=>false
def LR:Lw:=[.type "ValueError",.type "Exception",.type "BaseException",.type "object"]
structure LS (h:Heap) (C fI:Addr):Prop where
 ex:∃(nm qn:Str) (N:Addr) (bs bm:Lw) (hd:Bool) (sn:Lr) (sub:Lw) (ab:Bool) (col:Option Bool) (dd:Option Addr) (k0 k1 k2 k3 k5:Ow) (mN:Str->Ow),
  h.get? C=Y (excClassObj nm qn C N bs bm hd sn sub ab col dd k0 k1 k2 k3 k5 "ValueError.__new__")/\h.Ns N mN/\mN "__init__"=Y (.ref fI)/\OwnTail h LR bm
def EW{K:Frag}{N:Addr}{n:Str}{v:Value}(X:K.In h)(G:h.Ns N mg)(e:nsIn K N n=Y (Y v)):mg n=Y v:=by
 sleep 1;obtain⟨o,j,k,a,f,_,c⟩:=G;sleep 2;unfold nsIn at e;split at e
 .rename_i g i _ b;rw[X _ _ b] at a;cases a;cases f;split at e
  .rename_i l d;cases e;rw[<-c];unfold nsFind findBy;rw[<-Array.find?_toList,d];rfl
  .split at e<;>cases e
 .cases e
def tN{K:Frag}{fI:Addr}(X:K.In h)(q:AR K C LR "ValueError.__new__" fI=true):LS h C fI:=by
 unfold AR at q;split at q
 .rename_i A B f x;split at q
  .rename_i G E m k j i n g p o;simp only[bH,bF,Bool.not_eq_true'] at q;sleep 1;obtain⟨⟨⟨⟨⟨rfl,rfl⟩,a⟩,w⟩,b⟩,c⟩:=q;sleep 2;sleep 1;obtain⟨u,D,v,t,s,y,r,d,F,e,z⟩:=B;sleep 2;dsimp only at p a b c;subst p a;obtain rfl:f=#[m,k,j,i,Y (.builtin "ValueError.__new__"),g]:=by
    obtain⟨l⟩:=f;simp only at o;rw[o]
   exact{u,s,t,D,E,y,r,d,F,e,A,m,k,j,i,g,_,X _ _ x,.of_isNs (isNs_of_in X b),EW X (.of_isNs (isNs_of_in X b)) c,tail_of_in X w}
  .cases q
 .cases q
structure IS (K:Frag) (C P fI:Addr):Prop where
 ex:AR K C LR "ValueError.__new__" fI=true
 fn:isFn K (.ref fI)=true
 kp:keepIn K (.ref C)=true
 xc:QI K C
 xg:LO K C
 ln:findIn K (.ref C) "line"=Y Z
 pr:readsIn K P (.type "type")=true
 pc:findCls K (.ref P) (.type "type") "__init__"=Y (.val (.builtin "ValueError.__init__"))
 ps:specialIn K (.ref P) "__getattribute__"=Y (Y (.builtin "type.__getattribute__"))
section
variable {p1 p3 p4 p5 p6 p7 p8 p9:Pos}{P fI e t0:Addr}{n:Int}{a:Str}{pl:Sem Bool}
def OO(a:Addr):Array Value:=#[.ref a,.none,.none,.none,.bool false,.none]
structure CK (X:Cx) (H:Hp) (e:Addr):Prop where
 h:H e=Z
 l:e≠X.env.locals
 f:e∉X.fs
 c:∀x c,X.env.cells.lookup x=Y c->c≠e
 s:(zB X.gO)<=e
 p:∀p∈X.pn,p.1≠e
def CK.pin{o:Obj}(M:CK X H e)(I:c6 X [] σ H s)(b:s.heap.get? e=Y o)(c:∀v,o.data≠.cell v):c6 X [(e,o)] σ H s:=by
 refine I.l9 λp a=>?_;rcases dm.mp a with rfl
 exact{b,M.h,M.l,M.f,c}
def CK.LU{o:Obj}{a:Shared}(M:CK X H e)(I:c6 X [(e,o)] σ H' a):CK X H' e/\a.heap.get? e=Y o/\c6 X [] σ H' a:=by have z:=I.pin (e,o) (ar _ (dm.mpr rfl));exact{{z.2.1,M.l,M.f,M.c,M.s,M.p},z.1,I.l9 λp b=>by cases b}
theorem EX(k:IS X.K C P fI) (U:Gl X "PointError") (S:X.mg "PointError"=Y (.ref P)) (h0:X.N[0]?=Y ("self":Str)) (h1:X.N[1]?=Y ("line":Str)) (u:BP X.env.scope "self") (t:BP X.env.scope "line")
  (I:c6 X [] σ H s) (M:CK X H e) (g0:σ[0]?=Y (Y (.ref e))) (g1:σ[1]?=Y (Y (.int n))) (R:0<=n/\n<10000) (ha:a.length<=1000) (V:s.heap.get? e=Y { cls:=.ref C,data:=.fields (OO t0) })
  (i:swapsWith (.Call (.Attribute (.Name "PointError" p1) "__init__" p2) [.Name "self" p3,.JoinedStr [.Constant (.str a) j p4,.FormattedValue (.Name "line" p5) (-1) Z p6] p7] [] p8) Z p9.line X.env=pure false) (O:eval (.Call (.Attribute (.Name "PointError" p1) "__init__" p2) [.Name "self" p3,.JoinedStr [.Constant (.str a) j p4,.FormattedValue (.Name "line" p5) (-1) Z p6] p7] [] p8) X.env=(do
   let ov <-eval (.Name "PointError" p1) X.env
   standAt p2.atName
   let (f,first) <-holding [ov] (getMethod ov "__init__" pl)
   callWith p8 f first (backTo p8 (starEach [.Name "self" p3,.JoinedStr [.Constant (.str a) j p4,.FormattedValue (.Name "line" p5) (-1) Z p6] p7] X.env)) (backToKw p8 (keywordEach [] X.env)))):
  (zw X) (exec (.Expr (.Call (.Attribute (.Name "PointError" p1) "__init__" p2) [.Name "self" p3,.JoinedStr [.Constant (.str a) j p4,.FormattedValue (.Name "line" p5) (-1) Z p6] p7] [] p8) p9) X.env)
   (λf s'=>f=.next/\∃t',c6 X [] σ H s'/\s'.heap.get? e=Y { cls:=.ref C,data:=.fields (OO t') }) X.xe s:=by
 refine wpAny_Expr_any ?_ I.quiet i;refine W.methodCall_KW (kf I U S (method_cls I.og k.ps (cls_value I.og k.pr k.pc rfl ?_))) O;have I1:=(M.pin I V (λv z=>by cases z)).tok (s.toks+1);refine cJ (gY ((show PA X _ _ from jh (mv h0 u) (jh (X8 ha (mv h1 t)) mx)) _ _ σ H (λvs H'=>∃x,vs=[.ref e,.str x]/\H'=H) I1 {_,g0,n,g1,R,λx=>{(x),rfl,rfl}}) ?_);rintro w A ⟨vs,H2,I2,r,x,q,J⟩;subst q J;obtain⟨d,rfl⟩:∃d,w=[.ref e,.str x d]:=by
  cases r with
  |cons G B=>
   cases B with
   |cons E D=>cases D;obtain⟨d,rfl⟩:=E;exact{d,by rw[show _=Value.ref e from G]}
 obtain⟨b,m,o⟩:=M.LU I2;sleep 1;obtain⟨nm,qn,N,bs,bm,hd,sn,y,ab,col,dd,k0,k1,k2,k3,k5,mN,hC,hN,hi,T⟩:=(tN o.og k.ex).ex;sleep 2;sleep 1;obtain⟨h2,g2,d2,g,L⟩:=A;sleep 2;refine wD F.excBase_ValueError T hC m (λh' kp e' et=>?_) (by show 1<=sizeLine;decide);have I4:=o.turned (t':=g) (it:=e) kp b.h b.l (.inr b.s) b.c λp Q=>b.p p (by simpa using Q);exact{(rfl),_,I4,e'}
def IT(k:IS X.K C P fI) (T:X.N[0]?=Y ("self":Str)) (S:X.N[1]?=Y ("line":Str)) (G:BP X.env.scope "self") (F:BP X.env.scope "line")
  (I:c6 X [] σ H s) (M:CK X H e) (V:σ[0]?=Y (Y (.ref e))) (U:σ[1]?=Y (Y (.int n))) (R:s.heap.get? e=Y { cls:=.ref C,data:=.fields (OO t0) })
  (r:X.ex=[]) (m:swapsWith (.Name "line" p3) (Y (.Attribute (.Name "self" p1) "line" p2)) p4.line X.env=pure false):
  (zw X) (exec (.Assign [.Attribute (.Name "self" p1) "line" p2] (.Name "line" p3) p4) X.env)
   (λf s'=>f=.next/\∃a t,c6 X [] σ H s'/\(H a=Z/\X.gO.heap.get? a=Z)/\s'.heap.Ns a (λy=>if y="line" then Y (.int n t) else Z)/\s'.heap.get? e=Y { cls:=.ref C,dict:=Y a,data:=.fields (OO t0) }) X.xe s:=by
 refine plainObj_wpAny_Assign_Attribute (gY (@mv X 1 _ p3 S F rfl rfl _ s σ H (λv H'=>v=.int n/\H'=H) (M.pin I R λv z=>by cases z) {_,U,rfl,rfl}) ?_) m;rintro u L ⟨y,E,I1,i,q,j⟩;subst q j;obtain⟨t,rfl⟩:=i;obtain⟨D,x,A⟩:=M.LU I1;refine gY (@mv X 0 _ p1 T G rfl rfl _ L σ E (λv H'=>v=.ref e/\H'=E) (D.pin A x λv z=>by cases z) {_,V,rfl,rfl}) ?_;rintro u s2 ⟨y,H2,I2,i,q,j⟩;subst q j;obtain rfl:=show u=Value.ref e from i;obtain⟨d,w,g⟩:=D.LU I2;refine Vs g.og k.xc k.ln w λh' J a a1 B a3 W=>?_;refine{rfl,a,t,g.turned (t':=J) (it:=e) W d.h d.l (.inr d.s) d.c λp Q=>d.p p (by simpa using Q),{?_,?_},a3,a1}
 .cases z:H2 a with
  |none=>rfl
  |some o=>obtain⟨O,b⟩:=(g.gR a o z).there;rw[B] at b;cases b
 cases z:X.gO.heap.get? a with
 |none=>rfl
 |some o=>obtain⟨O,b⟩:=g.base.there a o z (by rw[r];exact aN);rw[B] at b;cases b
def c6.since{s₁:Shared} (I:c6 X pins σ H s) (f:s₁.os=X.gO.os) (a:∀b o,s₁.heap.get? b=Y o->X.gO.heap.get? b=Y o) (d:(zB s₁)<=(zB X.gO))
  (h:∀b o,X.base.get? b=Y o->s₁.heap.get? b=Y o) (k:X.base.objs.size<=(zB s₁)) (g:s₁.heap.FunFrames X.base X.outer):c6 { X with gO:=s₁ } pins σ H s :=
 {{I.ok.mod,I.ok.kind,I.ok.glob,I.ok.blt,bx d I.ok.above,I.ok.inj,I.ok.has,λx c j i=>bx d (I.ok.Si x c j i),I.ok.hd,I.ok.frames,I.ok.Sj,I.ok.Jx,λb o e=>{h b o e,(I.ok.bs b o e).2},k,I.ok.BU,I.ok.x5,g,I.ok.BQ},
  I.os.trans f.symm,I.bare,{λb o e=>I.base.keep b o (a b o e),λb o e=>I.base.slot b o (a b o e),λb o e=>I.base.free b o (a b o e),λb o e=>I.base.there b o (a b o e),I.base.nT,I.base.m5,I.base.oa},
  I.loc,I.cell,I.free,I.j5,I.pin,I.gR,I.len}
end
structure Y_ (outer:List Env) (P:Program) (w:World) (H:Hp) (sb:Shared) (C e:Addr) (n:Int) (s':Shared):Prop where
 os:s'.os=sb.os
 bare:AllBare s'.gens
 un:Un (o7 outer) [] H H sb.heap s'.heap
 gR:nS P w H s'.heap
 ob:∃dx t0 t,(H dx=Z/\sb.heap.get? dx=Z)/\s'.heap.Ns dx (λy=>if y="line" then Y (.int n t) else Z)/\s'.heap.get? e=Y { cls:=.ref C,dict:=Y dx,data:=.fields (OO t0) }
def GP(a:Str)(j:Nat)(o n m l k i h g f e d c b:Pos):List Stmt :=
 [.Expr (.Call (.Attribute (.Name "PointError" o) "__init__" n) [.Name "self" m,.JoinedStr [.Constant (.str a) j l,.FormattedValue (.Name "line" k) (-1) Z i] h] [] g) f,.Assign [.Attribute (.Name "self" e) "line" d] (.Name "line" c) b]
def QL(a:Str)(j:Nat)(l k i h g e d c:Pos):Prop:=∀b,∃n,eval (.Call (.Attribute (.Name "PointError" l) "__init__" k) [.Name "self" i,.JoinedStr [.Constant (.str a) j h,.FormattedValue (.Name "line" g) (-1) Z e] d] [] c) b=(do
   let m <-eval (.Name "PointError" l) b
   standAt k.atName
   let (f,first) <-holding [m] (getMethod m "__init__" n)
   callWith c f first (backTo c (starEach [.Name "self" i,.JoinedStr [.Constant (.str a) j h,.FormattedValue (.Name "line" g) (-1) Z e] d] b)) (backToKw c (keywordEach [] b)))
section
variable {p1 p3 p4 p5 p6 p7 p8 p9 q1 q2 q3 q4:Pos}{P fI e t0:Addr}{n:Int}{a:Str}{pl:Sem Bool}
def EY(k:IS X.K C P fI) (w:Gl X "PointError") (v:X.mg "PointError"=Y (.ref P)) (l:X.N[0]?=Y ("self":Str)) (i:X.N[1]?=Y ("line":Str)) (h:BP X.env.scope "self") (g:BP X.env.scope "line")
  (I:c6 X [] σ H s) (M:CK X H e) (o:σ[0]?=Y (Y (.ref e))) (m:σ[1]?=Y (Y (.int n))) (u:0<=n/\n<10000) (A:a.length<=1000) (x:s.heap.get? e=Y { cls:=.ref C,data:=.fields (OO t0) }) (d:X.ex=[]) (c:QL a j p1 p2 p3 p4 p5 p6 p7 p8):
  (zw X) (execs (GP a j p1 p2 p3 p4 p5 p6 p7 p8 p9 q1 q2 q3 q4) X.env)
   (λf s'=>f=.next/\∃b t t0,c6 X [] σ H s'/\(H b=Z/\X.gO.heap.get? b=Z)/\s'.heap.Ns b (λy=>if y="line" then Y (.int n t) else Z)/\s'.heap.get? e=Y { cls:=.ref C,dict:=Y b,data:=.fields (OO t0) }) X.xe s:=by
 obtain⟨pl,c⟩:=c X.env;refine wpAny_execs_cons (gY (EX k w v l i h g I M o m u A x rfl c) ?_);rintro f J ⟨z,p,F,D⟩;subst z;refine wpAny_execs_cons (gY (IT k l i h g F M o m D d rfl) ?_);rintro f G ⟨z,b,t,E,r,q,B⟩;subst z;exact b5 {(rfl),b,t,p,E,r,q,B}
end
section
variable {P:Program}{K:Frag}{outer:List Env}{sb:Shared}{PE fI e t0:Addr}{q:Str}{k:Nat}{n:Int}{t:Tok}{a:Str}{p1 p3 p4 p5 p6 p7 p8 p9 q1 q2 q3 q4:Pos}
theorem IU(F:BR K "__init__" q st fI fd) (S:gU ["self","line"] ["self","line"] (bC st)) (hb:gK st=GP a j p1 p2 p3 p4 p5 p6 p7 p8 p9 q1 q2 q3 q4) (bd:jc K fd ["self","line"] []) (kE:IS K C PE fI) (hm:mg "PointError"=Y (.ref PE))
  (hg:(bC st).names.lookup ("PointError":Str)=Y .globalImplicit) (N:(bC st).names.lookup ("self":Str)=Y .local) (M:(bC st).names.lookup ("line":Str)=Y .local) (ha:a.length<=1000) (hn:0<=n/\n<10000)
  (O:hG (k+1) A) (h:vS P w K mg base A outer s H) (g:vS P w K mg base A outer sb H) (U:sb.os=s.os) (hk:∀b o,sb.heap.get? b=Y o->s.heap.get? b=Y o) (i:(zB sb)<=e) (l:s.heap.get? e=Y { cls:=.ref C,data:=.fields (OO t0) }) (ht:QL a j p1 p2 p3 p4 p5 p6 p7 p8):
  codeAny (model P w) A (.call (.ref fI) {[.ref e,.int n t],[]}) (λr s'=>match r with | .ok (.ret u)=>u=.none/\Y_ outer P w H sb C e n s' | _=>False) s:=by
 sleep 1;obtain⟨oc,od,kV,doc,pm,an,L,ct,T,rfl,lk,D⟩:=F.ex;sleep 2;have KX:K.In s.heap:=h.mod.JG.keeps λb o e=>(h.bs b o e).1;have m:s.heap.NoLimit:=h.mod.nolimit.keeps λb o e=>(h.bs b o e).1;have d:∀y∈(["self","line"]:Lr).zip [Value.ref e,.int n t],(bC st).names.lookup y.1=Y .local\/((bC st).names.lookup y.1=Y .cell/\((cellsFrom ((zB s)+1) (bC st).names []).lookup y.1).isSome=true):=λy v=>by
  rcases ag.mp v with rfl|v
  .exact .inl N
  .rcases dm.mp v with rfl;exact .inl M
 have G:=bd s [Value.ref e,.int n t] KX rfl;refine codeAny_call_function O.depth (KX _ _ lk) rfl S.co S.gen rfl (codeRec_of KX D) (G _ _ _ _ ?_);refine wpAny_newFunctionEnv_cells S.kind d λenv B s1 x=>?_;subst B;refine{m.keeps x.toInCall.keep,codeAny_func ?_};have R:fK [V.ref e,V.int n] [Value.ref e,.int n t]:=.cons rfl (.cons {(t),rfl} .nil);have I:=(tq (CX:=vd) (E:=λ_ _ _=>False) S O.hd h rfl R x).since (s₁:=sb) U hk (dw (Nat.lt_of_le_of_lt i (au l))) (λb o z=>(g.bs b o z).1) g.HY g.nC;have I:=I.vb (λ_ _=>False);show wpAny _ _ (execs (gK st) _) _ _ _;rw[hb];refine bq (EY (X:=Cx.vb { q8 vd P w K mg base ["self","line"] q (bC st) fI L A outer s H (λ_ _ _=>False) with gO:=sb } λ_ _=>False) kE hg hm rfl rfl (.inl N) (.inl M) I {?_,?_,?_,?_,i,λp hp=>by cases hp} rfl rfl hn ha (x.toInCall.keep e _ l) rfl ht) (λf s' ⟨z,dx,t',Q,J,nd,W,e2⟩=>?_) λ_ _ z=>z.elim
 .exact g.gR.fresh i
 .exact aO (au l)
 .intro z;obtain⟨_,o,ho,_⟩:=g.nC.mem z;exact absurd (aI (au ho) i) (a7 _)
 .intro y c hc;exact cL (eO (au l) (x.above y c (bK hc)))
 .subst z;exact{rfl,J.os,J.bare,J.base,J.gR,dx,Q,t',nd,W,e2}
end
end L2
namespace L2
open PySem PySem.Spec PyProof.Rows PySem.W
def nS.LV{P:Program}(x:nS P w H h)(k:∀b u o,H b=Y o->h.get? b=Y u->h'.get? b=Y u):nS P w H h':=λa o e=>
 (x a o e).pA (λb u hb q=>hb.elim (λz=>k b u o (by rw[z];exact e) q) λz=>k b u _ z q) (λ_ q=>q) λ_ _ q=>q
abbrev CL(n:Int)(t:Tok):Str->Option Value:=λy=>if y="line" then Y (.int n t) else Z
abbrev AU(C R:Addr)(n:Int):Addr:=if n<0 then R else C
structure LW (P:Program) (w:World) (C R:Addr) (outer:List Env) (H:Hp) (s:Shared) (n:Int) (H':Hp) (e:Addr) (dx:Option Addr) (fl:Value) (h:Heap):Prop where
 ex:∃h₀ fs t,Un (o7 outer) [] H H' s.heap h₀/\nS P w H' h₀/\(∀b∈fs,H' b=Z/\(b∈o7 outer\/s.heap.get? b=Z))/\(∀b∈o7 outer,b∈fs)/\((n<0->dx=Z)/\(0<=n->∃d,dx=Y d))/\AQ h₀ fs (AU C R n) e dx (CL n t) fl h
section
variable {P:Program}{R e:Addr}{outer:List Env}{n:Int}{fl:Value}
theorem LW.un(F:LW P w C R outer H s n H' e dx fl h):Un (o7 outer) [] H H' s.heap h/\nS P w H' h:=by
 sleep 1;obtain⟨h₀,v,t,u,i,k,r,-,F⟩:=F.ex;sleep 2;refine{{λb o q z j c=>?_,λb o q z d c=>?_,u.free,λb o q c=>?_,u.nT,u.m5,u.oa},i.LV λb o l z q=>?_}
 .refine F.keep b o (u.keep b o q z j c) λd=>?_;rcases(k b d).2 with y|y
  .exact j y
  .rw[q] at y;cases y
 .obtain⟨m,g⟩:=u.slot b o q z d c;obtain⟨a,f⟩:=F.slot b _ g;exact{(a),f}
 .obtain⟨p,g⟩:=u.there b o q c;obtain⟨a,f⟩:=F.slot b _ g;exact{_,f}
 .refine F.keep b o q λd=>?_;rw[(k b d).1] at z;cases z
end
def vk(P:Program)(w:World)(C R:Addr):Jy:=λa H s E v b=>∃e dx n c,v=.ref e/\b.os=s.os/\AllBare b.gens/\LW P w C R a H s n c e dx .none b.heap/\E (.int n 0) Z c
structure Z_ (K:Frag) (mg:Str->Ow) (c:Str) (C:Addr):Prop where
 at_:mg c=Y (.ref C)
 ex:∃(PE fI:Addr) (fd:FuncData) (q:Str) (st:Stmt) (a:Str) (j:Nat) (p1 p2 p3 p4 p5 p6 p7 p8 p9 q1 q2 q3 q4:Pos),mg "PointError"=Y (.ref PE)/\IS K C PE fI/\BR K "__init__" q st fI fd/\gU ["self","line"] ["self","line"] (bC st) /\
  gK st=GP a j p1 p2 p3 p4 p5 p6 p7 p8 p9 q1 q2 q3 q4/\jc K fd ["self","line"] []/\(bC st).names.lookup ("PointError":Str)=Y .globalImplicit/\(bC st).names.lookup ("self":Str)=Y .local/\(bC st).names.lookup ("line":Str)=Y .local /\
  a.length<=1000/\QL a j p1 p2 p3 p4 p5 p6 p7 p8
section
variable {R:Addr}{E:XK}{arg:Expr}{te:TE}{np:Pos}{k:Nat}
def LX{l:Shared}{e t0:Addr}{n:Int}{t:Tok} (I:c6 X pins σ H s) (J:s.heap.get? e=Z) (G:H e=Z) (i:X.stack=X.env::X.outer) (j:X.env.frame=Y X.env.locals) (c:X.ex=[])
  (r:X.xe=λe s'=>(zw X) (leaving X.env e) (λ_ tP=>vk X.prog X.w C R X.outer X.lI X.gO E e tP) (λe' tP=>vk X.prog X.w C R X.outer X.lI X.gO E e' tP) s') (a:c6 X pins σ H l)
  (k:∀d,dx=Y d->(H d=Z/\s.heap.get? d=Z)/\l.heap.Ns d (CL n t)) (v:(n<0->dx=Z)/\(0<=n->∃d,dx=Y d)) (K:l.heap.get? e=Y { cls:=.ref (AU C R n),dict:=dx,data:=.fields (OO t0) }) (L:E (.int n 0) Z H):X.xe (.ref e) l:=by
 have m:∀b,b∈e::dx.toList->b=e\/dx=Y b:=λb z=>by
  rcases ag.mp z with z|z
  .exact .inl z
  .exact .inr (Option.mem_toList.mp z)
 have g:∀b o,X.gO.heap.get? b=Y o->b∉e::dx.toList:=λb o q z=>by
  obtain⟨x,f⟩:=I.base.there b o q (by rw[c];exact aN);rcases m b z with rfl|z
  .rw[J] at f;cases f
  .rw[(k b z).1.2] at f;cases f
 rw[r];have p:=a.ok.frames;rw[i] at p;have A:=a.stack;rw[i] at A;refine QK (h₀:=hideAll l.heap (e::dx.toList)) p A j (λb o q=>of_hideAll _ q) (hideAll_none _ (by simp)) (λd hd=>hideAll_none _ (by simp[hd])) (λd hd=>(k d hd).2) K rfl rfl rfl rfl λM F=>?_;refine{e,dx,n,H,rfl,a.os,a.bare,{_,_,t,{λb o q z D h=>?_,λb o q z hb h=>?_,λb o q z h=>a.base.free b o q z (by rw[c];exact h),λb o q h=>?_,a.base.nT,a.base.m5,a.base.oa},a.gR.LV λb o u z q=>hideAll_get _ q λy=>?_,λb hb=>{?_,?_},λb hb=>?_,v,F},L}
 .exact hideAll_get _ (a.base.keep b o q z D (by rw[c];exact h)) (g b o q)
 .obtain⟨B,f⟩:=a.base.slot b o q z hb (by rw[c];exact h);exact{B,hideAll_get _ f (g b o q)}
 .obtain⟨x,f⟩:=a.base.there b o q (by rw[c];exact h);exact{x,hideAll_get _ f (g b o q)}
 .rcases m b y with rfl|y
  .rw[G] at z;cases z
  .rw[(k b y).1.1] at z;cases z
 .exact a.z9 b (by rw[i];exact hb)
 .unfold o7 at hb;rw[bA,j] at hb;rcases ag.mp hb with rfl|hb
  .exact .inr (Heap.get?_none_of_le a.ok.above)
  .exact .inl hb
 .unfold o7;rw[bA,j];exact ai _ hb
theorem Vw(c:X.stack=X.env::X.outer) (f:X.env.frame=Y X.env.locals) (Q:X.ex=[])
  (O:X.xe=λe s'=>(zw X) (leaving X.env e) (λ_ tP=>vk X.prog X.w C R X.outer X.lI X.gO E e tP) (λe' tP=>vk X.prog X.w C R X.outer X.lI X.gO E e' tP) s'):om (vk X.prog X.w C R) X E:=by
 intro p W H s v s' I ⟨e,dx,n,V,hv,os,j,F,hE⟩;subst hv;have ⟨J,y⟩:=F.un;sleep 1;obtain⟨x,fs,t,k,P,A,i,S,F⟩:=F.ex;sleep 2;have T:c6 X p W V s':=by sleep 1;obtain⟨hh,g,d,t,M⟩:=s';sleep 2;obtain rfl:M=s.os:=os;exact I.call (ch:=[]) J y j λb z=>by cases z
 rw[O];have B:=T.ok.frames;rw[c] at B;have U:=T.stack;rw[c] at U;have N:∀b o,X.gO.heap.get? b=Y o->b∉o7 X.outer->b∉o7 X.stack:=λb o q G z=>by
  rw[c] at z;unfold o7 at z;rw[bA,f] at z;rcases ag.mp z with rfl|z
  .rw[Heap.get?_none_of_le I.ok.above] at q;cases q
  .exact G z
 have r:∀b,b∈o7 X.outer->b∈o7 X.stack:=λb z=>by rw[c];unfold o7;rw[bA,f];exact ai _ z
 have a:∀b,b∉X.ex:=λb z=>by rw[Q] at z;cases z
 show wpAny _ _ (leaving X.env (.ref e)) _ _ s';unfold leaving;refine aa (F.note B U f (λb z=>i b (by rw[c];exact z)) λh1 F1=>?_);refine AQ.lands (s:={ s' with heap:=h1 }) F1 λh2 F2=>{e,dx,n,V,rfl,T.os,j,{x,fs,t,{λb o q z G l=>?_,λb o q z m l=>?_,λb o q z l=>?_,λb o q l=>?_,λb xs q=>k.nT _ _ (I.base.nT b xs q),λb o u q=>k.m5 _ _ _ (I.base.m5 b o u q),λb ps q=>?_},P,λb m=>{(A b m).1,?_},λb m=>i b (r b m),S,F2},hE}
 .exact k.keep b o (I.base.keep b o q z G (a b)) (I.base.free b o q z (a b)) (N b o q G) l
 .obtain⟨sl,h⟩:=I.base.slot b o q z m (a b);obtain⟨K,L⟩:=k.slot b _ h (I.base.free b o q z (a b)) (r b m) l;exact{(K),L}
 .obtain⟨D,h⟩:=I.base.there b o q (a b);exact k.free b D h (I.base.free b o q z (a b)) l
 .obtain⟨D,h⟩:=I.base.there b o q (a b);exact k.there b D h l
 .obtain⟨m1,q1⟩:=I.base.oa b ps q;obtain⟨m2,q2⟩:=k.oa b _ q1;exact{m1++m2,by rw[q2,Array.append_assoc]}
 .rcases(A b m).2 with z|z
  .rw[c] at z;unfold o7 at z;rw[bA,f] at z;rcases ag.mp z with rfl|z
   .exact .inr (Heap.get?_none_of_le I.ok.above)
   .exact .inl z
  .right;cases q:X.gO.heap.get? b with
   |none=>rfl
   |some o=>obtain⟨D,h⟩:=I.base.there b o q (a b);rw[z] at h;cases h
def CM{M:Model}{E:Px}{i:Env}{fI:Addr}{x:Sem Value}{Q:Flow->Shared->Prop} (k:A.handled=Z)
  (h:wpAny M A x (λv s₁=>∃e t dx,v=.ref e/\LS s₁.heap C fI/\s₁.heap.get? e=Y { cls:=.ref C,dict:=dx,data:=.fields (OO t) }/\E (.ref e) s₁) E s):wpAny M A (raiseStmt i (Y x) Z) Q E s:=by
 unfold raiseStmt;refine aa (bq h (λv s₁ a=>?_) λ_ _ x=>x);sleep 1;obtain⟨e,t,dx,rfl,c,l,m⟩:=a;sleep 2;sleep 1;obtain⟨w,r,N,O,o,J,q,j,P,n,L,G,F,D,B,z,y,c,K,I,T⟩:=c.ex;sleep 2;have f:(Value.ref C::o).contains (.type "BaseException")=true:=by rw[List.contains_cons,T.hasType (b:=true) (by decide +kernel),Bool.or_true]
 sleep 1;obtain⟨H,g,d,p,u⟩:=s₁;sleep 2
 repeat (first|with_reducible refine wpAny_loadPart_at l ?_|with_reducible refine wpAny_loadPart_at c ?_|(with_reducible refine wpAny_isSubtype_exc c ?_;rw[f])|wp_step)
 exact wpAny_raiseNew_none k m
def Vx(E:XK)(c:TE):TS:=λ_ a H=>vR c BY a H λb d=>∃n,b=[.int n]/\(0<=n/\n<10000)/\E (.int n 0) Z d
theorem LY(Aq:Z_ X.K X.mg c C) (hg:Gl X c) (ha:PE X arg te) (hr:hG (k+2) X.A) (hc:X.calm=true) (J:X.stack=X.env::X.outer) (O:X.env.frame=Y X.env.locals) (Q:X.ex=[])
  (G:X.xe=λe s'=>(zw X) (leaving X.env e) (λ_ tP=>vk X.prog X.w C R X.outer X.lI X.gO E e tP) (λe' tP=>vk X.prog X.w C R X.outer X.lI X.gO E e' tP) s')
  (hs:zr0 (starEach [arg] X.env=[(false,eval arg X.env)])) (U:zd0 (zg c)):PS X (.Raise (Y (.Call (.Name c np) [arg] [] fQ)) Z pos) (Vx E te):=by
 intro f s y H D I h;sleep 1;obtain⟨PE,fI,fd,q,st,a,j,p1,p2,p3,p4,p5,p6,p7,p8,p9,q1,q2,q3,q4,hP,m,F,S,hb,bd,l2,l0,l1,hal,ht⟩:=Aq.ex;sleep 2;rw[arm_exec_Raise];refine aa (wpAny_standAt (CM (C:=C) (fI:=fI) (I.ok.hd hc) ?_));refine aa (bq (wpAny_Call_ofName (kf I hg Aq.at_ ?_ U)) (λv vf o=>aa (wpAny_standAt (ao o))) λ_ _ x=>x);refine W.callWith_K (first:=[]) (h₀:=X.base) I.ok.mod.JG m.kp (gY ((show PA X [arg] (vR te BY) from jh ha mx hs) f s y H (λvs H'=>∃n,vs=[.int n]/\(0<=n/\n<10000)/\E (.int n 0) Z H') I h) ?_) hs rfl;rintro us s2 ⟨vs,H2,i,r,n,q1,q2,q3⟩;refine{i.og,?_};subst q1;obtain⟨t,rfl⟩:∃t,us=[.int n t]:=by obtain⟨u,rfl,t,rfl⟩:=fK.one r;exact{(t),rfl}
 have eo:=tN i.og m.ex;sleep 1;obtain⟨nm,qn,N,bs,bm,hd,sn,sub,ab,col,dd,k0,k1,k2,k3,k5,mN,hC,hN,hi,T⟩:=eo.ex;sleep 2;obtain⟨dI,sI,P⟩:∃oI,s2.heap.get? fI=Y oI/\oI.cls=.type "function":=by sleep 1;obtain⟨oc,od,kV,doc,pm,an,l4,ct,b_,_,lk,_⟩:=F.ex;sleep 2;refine{_,i.og _ _ lk,?_};have z:((X.K.lookup fI).map (·.cls)==Y (.type "function"))=true:=m.fn;rw[lk] at z;simpa using z
 sleep 1;obtain⟨h2,g2,d2,B,l⟩:=s2;sleep 2;show wpAny _ _ (call (.ref C) [.int n t]) _ _ _;refine wB PySem.F.excBase_ValueError T hC hN hi sI P (λh' e hm hz=>?_) (by show 1<=sizeLine;decide);obtain⟨t0,he,-,-⟩:=hm.there;have I3:c6 X f y H2 {(h'),g2,d2,B,l}:=i.kept (t':=B) hm.keeps;have eb:=i.Ii.make C [.int n t] [];have e3:=I3.Ii.make C [.int n t] [];refine wpAny_call (b8 (IU (sb:={(h2),g2,d2,B,l}) F S hb bd m hP l2 l0 l1 hal q2 (hr.make C [.int n t] []) e3 eb rfl hm.keeps hz he ht) λr s' M=>?_);rcases r with z|(u|_|_|_)<;>first|exact M.elim|skip
 obtain⟨rfl,M⟩:=M;have I4:c6 X f y H2 s':=by sleep 1;obtain⟨hh,g,d,t,os⟩:=s';sleep 2;obtain rfl:os=l:=M.os;exact i.call (ch:=[]) M.un M.gR M.bare λb z=>by cases z
 sleep 1;obtain⟨dx,t1,tt,V,L,p⟩:=M.ob;sleep 2;exact{rfl,e,t1,Y dx,rfl,tN I4.og m.ex,p,LX (n:=n) (t:=tt) i hm.new (i.gR.fresh hz) J O Q G I4 (λd hd=>by cases hd;exact{(V),L}) {λh=>absurd h (by omega),λ_=>{(dx),rfl}} (by rw[show AU C R n=C from aq (by omega)];exact p) q3}
end
end L2
namespace L2
open PySem PySem.Spec PyProof.Rows PySem.W
def QM(K:Frag)(C:Addr)(b:Lw)(a:String):Bool:=match K.lookup C with
 |some ⟨.type "type",_,.cls cd,sl⟩=>(match cd.mro,sl.toList with
  |.ref c::bm,[_,_,_,_,Y (.builtin n),_]=>c==C&&n==a&&!cd.hasDel&&tailIn K b bm&&nsOkIn K cd.ns&&nsIn K cd.ns "__init__"==Y Z
  |_,_=>false)
 |_=>false
def EZ{K:Frag}{N:Addr}{n:Str}(X:K.In h)(G:h.Ns N mg)(e:nsIn K N n=Y Z):mg n=Z:=by
 sleep 1;obtain⟨o,j,k,a,f,_,c⟩:=G;sleep 2;unfold nsIn at e;split at e
 .rename_i g i _ b;rw[X _ _ b] at a;cases a;cases f;split at e
  .cases e
  .rename_i d;rw[<-c];unfold nsFind findBy;rw[<-Array.find?_toList,d];rfl
 .cases e
def QN{K:Frag}(q:QM K C LR "ValueError.__new__"=true):∃(nm d:Str) (N:Addr) (bs bm:Lw) (hd:Bool) (sn:Lr) (sub:Lw) (ab:Bool) (col:Option Bool) (dd:Option Addr) (k0 k1 k2 k3 k5:Ow),
  K.lookup C=Y (excClassObj nm d C N bs bm hd sn sub ab col dd k0 k1 k2 k3 k5 "ValueError.__new__")/\∀h:Heap,K.In h->∃f,h.Ns N f/\f "__init__"=Z/\OwnTail h LR bm:=by
 unfold QM at q;split at q
 .rename_i dd r e o;split at q
  .rename_i s bm k0 k1 k2 k3 n k5 i g;simp only[bH,bF,Bool.not_eq_true'] at q;sleep 1;obtain⟨⟨⟨⟨⟨rfl,rfl⟩,a⟩,m⟩,b⟩,c⟩:=q;sleep 2;sleep 1;obtain⟨nm,bs,k,j,d,hd,sn,sub,ab,col,p⟩:=r;sleep 2;dsimp only at i a b c;subst i a;obtain rfl:e=#[k0,k1,k2,k3,Y (.builtin "ValueError.__new__"),k5]:=by
    obtain⟨l⟩:=e;simp only at g;rw[g]
   exact{nm,d,j,bs,bm,hd,sn,sub,ab,col,dd,k0,k1,k2,k3,k5,o,λh X=>{_,.of_isNs (isNs_of_in X b),EZ X (.of_isNs (isNs_of_in X b)) c,tail_of_in X m}}
  .cases q
 .cases q
structure Vy (K:Frag) (mg:Str->Ow) (c:Str) (C:Addr):Prop where
 at_:mg c=Y (.ref C)
 ex:QM K C LR "ValueError.__new__"=true
 kp:keepIn K (.ref C)=true
section
variable {R:Addr}{E:XK}{arg:Expr}{te:TE}{np:Pos}{k:Nat}
def QO(E:XK)(c:TE):TS:=λ_ a H=>vR c BY a H λb d=>(∃x,b=[.str x])/\E (.int (-1) 0) Z d
def IV(M:Vy X.K X.mg c R) (hg:Gl X c) (ha:PE X arg te) (hc:X.calm=true) (u:X.stack=X.env::X.outer) (y:X.env.frame=Y X.env.locals) (z:X.ex=[])
  (p:X.xe=λe s'=>(zw X) (leaving X.env e) (λ_ tP=>vk X.prog X.w C R X.outer X.lI X.gO E e tP) (λe' tP=>vk X.prog X.w C R X.outer X.lI X.gO E e' tP) s')
  (U:zr0 (starEach [arg] X.env=[(false,eval arg X.env)])) (A:zd0 (zg c)):PS X (.Raise (Y (.Call (.Name c np) [arg] [] fQ)) Z pos) (QO E te):=by
 intro a s O H D I h;sleep 1;obtain⟨nm,qn,N,bs,bm,B,sn,sub,ab,col,dd,k0,k1,k2,k3,k5,S,l⟩:=QN M.ex;sleep 2;obtain⟨_,_,_,T0⟩:=l _ I.og;rw[arm_exec_Raise];refine aa (wpAny_standAt (wC (C:=R) (nm:=nm) (q:=qn) (N:=N) (bs:=bs) (bm:=bm) (hdct:=B) (sn:=sn) (sub:=sub) (ab:=ab) (col:=col) (dd:=dd) (k0:=k0) (k1:=k1) (k2:=k2) (k3:=k3) (k5:=k5) (newId:="ValueError.__new__") (T0.hasType (b:=true) (by decide +kernel)) (I.ok.hd hc) ?_));refine aa (bq (wpAny_Call_ofName (kf I hg M.at_ ?_ A)) (λv Q j=>aa (wpAny_standAt (ao j))) λ_ _ x=>x);refine W.callWith_K (first:=[]) (h₀:=X.base) I.ok.mod.JG M.kp (gY ((show PA X [arg] (vR te BY) from jh ha mx U) a s O H (λvs H'=>(∃x,vs=[.str x])/\E (.int (-1) 0) Z H') I h) ?_) U rfl;rintro P s2 ⟨vs,L,g,r,q1,q3⟩;refine{g.og,?_};have k:P.length<=sizeLine:=by obtain⟨x,rfl⟩:=q1;rw[<-r.length];show 1<=sizeLine;decide
 obtain⟨mN,hN,hi,T⟩:=l _ g.og;have hC:=g.og _ _ S;sleep 1;obtain⟨h2,G,J,m,f⟩:=s2;sleep 2;show wpAny _ _ (call (.ref R) P) _ _ _;refine wpAny_call_exc_subT PySem.F.excBase_ValueError T hC hN hi (λh' e hm=>?_) k;obtain⟨t0,V,-,-⟩:=hm.there;have I3:c6 X a O L {(h'),G,J,m,f}:=g.kept (t':=m) hm.keeps;have hz:L e=Z:=by
  cases q:L e with
  |none=>rfl
  |some o=>obtain⟨ob,q'⟩:=(g.gR e o q).there;have i:({(h2),G,J,m,f}:Shared).heap.get? e=Y ob:=q';rw[show ({(h2),G,J,m,f}:Shared).heap.get? e=Z from hm.new] at i;cases i
 exact{e,t0,Z,rfl,I3.og _ _ S,V,LX (n:=-1) (t:=0) (t0:=t0) (dx:=Z) g hm.new hz u y z p I3 (λd B=>by cases B) {λ_=>rfl,λhn=>absurd hn (by decide)} (by rw[show AU C R (-1)=R from ah (by decide)];exact V) q3}
end
end L2
namespace L2
open PySem PySem.Spec PyProof.Rows PySem.W
structure E1 (K:Frag) (C:Addr):Prop where
 ty:typeIn K (.ref C)=Y (.type "type")
 cl:(clsIn K C).isSome=true
 sub:subIn K (.ref C) (.type "BaseException")=Y true
def IW{K:Frag}{M:Model}{e c D:Addr}{f:Obj}{b:Bool}(X:K.In h)(k:E1 K D)(l:h.get? e=Y f)(m:f.cls=.ref c)(i:subIn K (.ref c) (.ref D)=Y b):Looks M h (excMatches (.ref e) (.ref D)) b:=by
 have u:Looks M h (isInstance (.ref D) (.type "tuple")) false:=(looks_typeIn X k.ty).andThen (Looks.of_pure tc_notTuple);have t:Looks M h (isType (.ref D)) true:=by
  obtain⟨x,a⟩:=Option.isSome_iff_exists.mp k.cl;unfold clsIn at a;split at a
  .rename_i y w n g j;intro C z B v k q;unfold isType loadHead;exact aa (wpAny_loadPart (k _ _ (X _ _ j)) (ao q))
  .cases a
 have r:Looks M h (isExcClass (.ref D)) true:=t.andThen (looks_subIn X k.sub);have p:Looks M h (typeOf (.ref e)) (.ref c):=m▸(Looks.ld l).andThen .now;have o:=looks_subIn (M:=M) X i;intro A Q E s d q;unfold excMatches;refine aa (u _ _ _ _ d (aa (ao ?_)));dsimp only;rw[cQ];refine aa (aa (aa (r _ _ _ _ d (ao (ao (aa (p _ _ _ _ d ?_)))))));rw[cQ];refine aa (aa (aa (o _ _ _ _ d ?_)));cases b
 .exact ao (ao (ao q))
 .exact ao (ao (ao q))
section
def c6.a'{m:Str->Ow}{v:Ow}{C:Nat} (I:c6 X pins σ H s) (M:X.N.Nodup) (L:X.N[j]?=Y x)
  (K:∀(i:Nat) (y:Str) (v:V),X.N[i]?=Y y->σ[i]?=Y (Y v)->BP X.env.scope y->∃u,fT v u/\WJ X.env s.heap m y u) (J:h'.Ns X.env.locals (λy=>if y=x then v else m y)) (d:Heap.SameBut X.env.locals s.heap h'):c6 X pins (σ.set j Z) H { s with heap:=h',toks:=C }:=by
 sleep 1;obtain⟨Q,⟨P,R,S,G,_⟩,_⟩:=id I.loc;sleep 2;have a:∀b o,X.gO.heap.get? b=Y o->b≠X.env.locals:=λb o e=>aO (aI (au e) I.ok.above);refine{I.ok,I.os,I.bare,{λb o e n t h=>?_,λb o e n t h=>?_,I.base.free,λb o e h=>?_,I.base.nT,I.base.m5,I.base.oa},{_,J,λi y B g f O=>?_},λy c e=>?_,I.free,I.j5,λp F=>?_,I.gR.LV λb u o z q=>?_,by simpa using I.len}
 .exact(d.2 b (a b o e)).trans (I.base.keep b o e n t h)
 .obtain⟨D,g⟩:=I.base.slot b o e n t h;exact{D,(d.2 b (a b o e)).trans g}
 .obtain⟨E,g⟩:=I.base.there b o e h;exact{E,(d.2 b (a b o e)).trans g}
 .by_cases l:i=j
  .subst l;by_cases A:i<σ.length
   .rw[aK A] at f;cases f
   .rw[bU (by simpa using A)] at f;cases f
  .rw[aw (Ne.symm l)] at f;obtain⟨u,r,q⟩:=K i y B g f O;refine{u,r,?_};rcases q with ⟨k,e⟩ | ⟨k,c,e,z⟩
   .refine .inl {k,?_};have:y≠x:=λz=>l (vL M g (z▸L));simp[this,e]
   .exact .inr {k,c,e,z.sameBut d (I.WK y c e)}
 .obtain⟨v,z⟩:=I.cell y c e;exact{v,z.sameBut d (I.WK y c e)}
 .obtain⟨e,n,w,r⟩:=I.pin p F;exact{(d.2 _ w).trans e,n,w,r}
 .refine(d.2 b ?_).trans q;rintro rfl;rw[I.free] at z;cases z
end
section
theorem AQ.apart{b:Heap}{f:List Addr}{e:Addr}{m:Str->Ow}{g:Value}{o:Obj}(F:AQ b f C e dx m g h)(q:b.get? a=Y o):a≠e/\∀d,dx=Y d->a≠d :=
 {λz=>by (rw[z,F.new] at q;cases q),λd c z=>by (rw[z,F.Vv d c] at q;cases q)}
def c6.E2{u:HO}(I:c6 X pins σ H s)(B:H a=Z)(C:a≠X.env.locals)(z:X.gO.heap.get? a=Z)(D:∀x c,X.env.cells.lookup x=Y c->c≠a)(t:∀p∈X.pn++pins,p.1≠a)(g:ia X.prog X.w (upd H a u) s.heap a u):c6 X pins σ (upd H a u) s:=by
 have d:∀b v,H b=Y v->upd H a u b=Y v:=λb v e=>by rw[cp (gs e B)];exact e
 refine{I.ok,I.os,I.bare,{I.base.keep,I.base.slot,λb o q n A=>?_,I.base.there,λb h q=>d _ _ (I.base.nT b h q),λb o v q=>d _ _ (I.base.m5 b o v q),λb r q=>?_},I.loc,I.cell,?_,λx c e=>?_,λp i=>?_,λb v e=>?_,I.len}
 .rw[cp (λy=>by rw[y,z] at q;cases q)];exact I.base.free b o q n A
 .obtain⟨m,f⟩:=I.base.oa b r q;exact{m,d _ _ f}
 .rw[cp (Ne.symm C)];exact I.free
 .rw[cp (D x c e)];exact I.j5 x c e
 .obtain⟨f,l,k⟩:=I.pin p i;exact{f,by rw[cp (t p i)];exact l,k}
 .by_cases j:b=a
  .subst j;rw[da] at e;cases e;exact g
  .rw[cp j] at e;exact(I.gR b v e).pA (λ_ _ _ q=>q) (λc q=>d c _ q) λc h q=>d c _ q
end
section
def Cx.susp(X:Cx)(e:Addr):Cx:={ X with A:=X.A.mark (Y (.ref e)),calm:=false,xe:=λ_ _=>False }
theorem c6.susp(I:c6 X pins σ H s)(e:Addr):c6 (X.susp e) pins σ H s :=
 {{I.ok.mod,I.ok.kind,I.ok.glob,I.ok.blt,I.ok.above,I.ok.inj,I.ok.has,I.ok.Si,(λz=>nomatch z),I.ok.frames,I.ok.Sj,I.ok.Jx,I.ok.bs,I.ok.HY,I.ok.BU,I.ok.x5,I.ok.nC,I.ok.BQ},I.os,I.bare,I.base,I.loc,I.cell,I.free,I.j5,I.pin,I.gR,I.len}
def c6.back{e:Addr}(a:X.Ok)(J:c6 (X.susp e) pins σ H s):c6 X pins σ H s:={a,J.os,J.bare,J.base,J.loc,J.cell,J.free,J.j5,J.pin,J.gR,J.len}
def o8.un(j:Nat)(D:o8):o8:={ nx:=λa H=>D.nx (a.set j Z) H,rt:=D.rt,bk:=λa H=>D.bk (a.set j Z) H,ct:=λa H=>D.ct (a.set j Z) H }
def ON(y:Str)(q:Str×Pos×List Stmt×Pos):ExceptHandler:=.ExceptHandler (Y (.Name q.1 q.2.1)) (Y y) q.2.2.1 q.2.2.2
def Tk(X:Cx)(c e:Addr)(j:Nat)(D:o8)(a:St)(H:Hp):List (Str×Pos×List Stmt×Pos)->Prop
 |[]=>False
 |q::r=>∃C b,(Gl X q.1/\X.mg q.1=Y (.ref C)/\(q.1==("__debug__":Str))=false)/\E1 X.K C/\subIn X.K (.ref c) (.ref C)=Y b/\if b=true then q.2.2.1≠[]/\∃t,xZ (X.susp e) q.2.2.1 t/\t (D.un j) (a.set j (Y (.ref e))) H else Tk X c e j D a H r
variable {c e:Addr}{D:o8}{h₀:Heap}{fs:List Addr}{m:Str->Ow}{H3:Hp}
theorem LZ(M:X.env.scope.names.lookup y=Y .local) (U:X.N.Nodup) (S:X.N[j]?=Y y)
  (x:∀(h:Heap) (fl:Value) (tk:Nat),AQ h₀ fs c e dx m fl h->c6 X pins σ H { s with heap:=h,toks:=tk }/\c6 X pins σ H3 { s with heap:=h,toks:=tk }):
  ∀(B:List (Str×Pos×List Stmt×Pos)) (h:Heap) (tk:Nat),AQ h₀ fs c e dx m .none h->Tk X c e j D σ H3 B->(zw X) (handleBy (.ref e) X.env (B.map (ON y))) (SP X pins D) E { s with heap:=h,toks:=tk }
 |[],_,_,_,q=>q.elim
 | (n,np,i,L)::r,h,tk,F,q=>by
  sleep 1;obtain⟨C,b,⟨hg,hm,T⟩,kC,hb,q⟩:=q;sleep 2;have I:=(x h _ tk F).1;sleep 1;obtain⟨oe,vs,TT,oT,ts,he,⟨c1,c2,c3⟩,-,-,-,-,-⟩:=F.ob;sleep 2;show wpAny _ _ (handleBy (.ref e) X.env (.ExceptHandler (Y (.Name n np)) (Y y) i L::r.map (ON y))) _ _ _;refine wpAny_handleBy_cons (codeAny_handlers_test (cY I.ok.kind hg (Calls.loadGlobal_global (by rw[I.ok.glob];exact I.mod.glob.keeps I.bk) hm ?_) T)) (by intro q;cases q);refine(IW I.og kC he c1 hb).here ?_;cases b with
  |false=>exact LZ M U S x r h tk F q
  |true=>
   obtain⟨ne,t,ht,q⟩:=q;obtain⟨p,w,rfl⟩:∃p w,i=p::w:=by
    cases i with
    |nil=>exact absurd rfl ne
    |cons a l=>exact{(a),l,rfl}
   refine codeAny_handlers_suite_as ?_;refine AQ.lands (s:={ s with heap:=h,toks:=tk }) F λh3 F3=>?_;have I3:=(x h3 _ tk F3).2;refine tj (v:=.ref e) I3 U S (.inl M) rfl (λs4 I4 _=>?_) (.inr M);have hp:(X.env.scope.kind==.class||(X.env.scope.kind==.module&&X.env.locals != X.env.globals))=false:=by rw[I.ok.kind];rfl
   have o:∀(g:St) (H':Hp) (s5:Shared) (Q:Unit->Shared->Prop),c6 X pins g H' s5->(∀K,c6 X pins (g.set j Z) H' K->Q () K)->(zw X) (do bindName X.env y .none;unbindBehindTheSuite X.env y L) Q E s5:=λg H' s5 Q V k=>by obtain⟨m6,O,R⟩:=id V.loc;exact wpAny_nameGoes_keeps M O hp λh' v P A=>k _ (V.a' U S R P A)
   refine bq (@ht pins s4 _ H3 (D.un j) (I4.susp e) q) (λf s5 B=>?_) λ_ _ z=>z.elim;cases f with
   |next=>obtain⟨g,H',J,d⟩:=B;exact o g H' s5 _ (J.back I.ok) λK G=>{_,H',G,d}
   |brk=>obtain⟨g,H',J,d⟩:=B;exact o g H' s5 _ (J.back I.ok) λK G=>{_,H',G,d}
   |cont=>obtain⟨g,H',J,d⟩:=B;exact o g H' s5 _ (J.back I.ok) λK G=>{_,H',G,d}
   |ret u=>sleep 1;obtain⟨v,g,H',J,W,d⟩:=B;sleep 2;exact o g H' s5 _ (J.back I.ok) λK G=>{(v),_,H',G,W,d}
end
section
variable {R:Addr}{D:o8}
theorem QP{H1 g:Hp}{O i:Shared}{e:Addr}{n:Int}{hs:List (Str×Pos×List Stmt×Pos)} (L:X.stack=X.env::X.outer) (X9:X.env.frame=Y X.env.locals) (hex:X.ex=[]) (ly:X.env.scope.names.lookup y=Y .local) (hN:X.N.Nodup) (hj:X.N[j]?=Y y)
  (I:c6 X pins σ H1 O) (os:i.os=O.os) (bare:AllBare i.gens) (F:LW X.prog X.w C R X.stack H1 O n g e dx .none i.heap)
  (hq:∀H3,dn g H3->g e=Z->(∀d,dx=Y d->g d=Z)->H3 e=Y (xo (AU C R n) dx e)->(n<0->dx=Z)->(0<=n->∃d,dx=Y d/\H3 d=Y (xl n d))->Tk X (AU C R n) e j D σ H3 hs):
  (zw X) (noteFrame (.ref e) X.env) (λ_ pE=>(zw X) (setFlight (.ref e) Z) (λ_ vf=>(zw X) (handleBy (.ref e) X.env (hs.map (ON y))) (SP X pins D) E vf) E pE) E i:=by
 sleep 1;obtain⟨h₀,fs,t,un,gR,x_,r,M,F⟩:=F.ex;sleep 2;have l:∀(h:Heap) (fl:Value) (tk:Nat),AQ h₀ fs (AU C R n) e dx (CL n t) fl h->c6 X pins σ g { i with heap:=h,toks:=tk }:=λh fl tk G=>by
  obtain⟨a,b⟩:=LW.un (P:=X.prog) (w:=X.w) (C:=C) (R:=R) (outer:=X.stack) (H:=H1) (s:=O) (n:=n) (H':=g) {(h₀),fs,t,un,gR,x_,r,M,G};have J:=I.call (g':=i.gens) (d':=i.drawn) (t':=tk) (ch:=[]) a b bare λb z=>by cases z
  rw[<-os] at J;exact J
 have I0:=l i.heap _ i.toks F;have hfr:=I0.ok.frames;rw[L] at hfr;have hl:=I0.stack;rw[L] at hl;have f:∀a o,O.heap.get? a=Y o->a≠e/\∀d,dx=Y d->a≠d:=λa o q=>by obtain⟨o',U⟩:=un.there a o q aN;exact F.apart U
 have B:∀a o,g a=Y o->a≠e/\∀d,dx=Y d->a≠d:=λa o q=>by obtain⟨ob,U⟩:=(gR a o q).there;exact F.apart U
 have K:∀b,(∀a o,O.heap.get? a=Y o->a≠b)->b≠X.env.locals/\X.gO.heap.get? b=Z/\(∀x c,X.env.cells.lookup x=Y c->c≠b)/\∀p∈X.pn++pins,p.1≠b:=λb f=>by
  refine{λz=>?_,?_,λx c h=>?_,λp hp=>f _ _ (I.pin p hp).1}
  .obtain⟨m,⟨o,_,_,A,_⟩,_⟩:=I.loc;exact f _ _ A z.symm
  .cases q:X.gO.heap.get? b with
   |none=>rfl
   |some o=>obtain⟨o',U⟩:=I.base.there b o q (by rw[hex];exact aN);exact absurd rfl (f _ _ U)
  .obtain⟨v,o,A,_⟩:=I.cell x c h;exact f _ _ A
 obtain⟨le,ze,ce,pe⟩:=K e λa o q=>(f a o q).1;have ne:g e=Z:=by
  cases q:g e with
  |none=>rfl
  |some o=>exact absurd rfl (B e o q).1
 have nd:∀d,dx=Y d->g d=Z:=λd S=>by
  cases q:g d with
  |none=>rfl
  |some o=>exact absurd rfl ((B d o q).2 d S)
 have T:∀(H':Hp) (h:Heap) (fl:Value),AQ h₀ fs (AU C R n) e dx (CL n t) fl h->ia X.prog X.w H' h e (xo (AU C R n) dx e):=λH' h fl G=>by sleep 1;obtain⟨oe,vs,TT,oT,ts,Q,⟨c1,c2,c3⟩,-⟩:=G.ob;sleep 2;exact{{(oe),vs,Q,c1,c2,c3},{(oe),Q},by rintro h1 h2 ⟨o,v,q1,q2⟩ k;exact{o,v,k o q1,q2}}
 have all:∃H3,dn g H3/\H3 e=Y (xo (AU C R n) dx e)/\(0<=n->∃d,dx=Y d/\H3 d=Y (xl n d))/\∀(h:Heap) (fl:Value) (tk:Nat),AQ h₀ fs (AU C R n) e dx (CL n t) fl h->c6 X pins σ H3 { i with heap:=h,toks:=tk }:=by
  cases dx with
  |none=>refine{upd g e (xo (AU C R n) Z e),iX ne,da,λz=>?_,λh fl tk G=>(l h fl tk G).E2 ne le ze ce pe (T _ h fl G)};obtain⟨d,z⟩:=M.2 z;cases z
  |some d=>
   obtain⟨ld,zz,cd,pd⟩:=K d λa o q=>(f a o q).2 d rfl;have nd:=nd d rfl;have V:e≠d:=λz=>by sleep 1;obtain⟨oe,vs,TT,oT,ts,Q,⟨c1,c2,c3⟩,-⟩:=F.ob;sleep 2;sleep 1;obtain⟨o,es,ep,A,S,_⟩:=F.ns d rfl;sleep 2;rw[<-z,Q] at A;cases A;rw[c3] at S;cases S
   have W:upd g d (xl n d) e=Z:=by rw[cp V];exact ne
   refine{upd (upd g d (xl n d)) e (xo (AU C R n) (Y d) e),(iX nd).trans (iX W),da,λ_=>{d,rfl,by rw[cp (Ne.symm V),da]},λh fl tk G=>?_};refine((l h fl tk G).E2 (u:=xl n d) nd ld zz cd pd {{t,G.ns d rfl},?_,by rintro h1 h2 ⟨t,o,es,ep,q1,q2⟩ k;exact{t,o,es,ep,k o q1,q2}}).E2 W le ze ce pe (T _ h fl G);sleep 1;obtain⟨o,es,ep,A,_⟩:=G.ns d rfl;sleep 2;exact{(o),A}
 sleep 1;obtain⟨H3,sm,Q,S,f'⟩:=all;sleep 2;refine F.note hfr hl X9 (λb z=>r b (by rw[L];exact z)) λh1 F1=>?_;refine AQ.lands (s:={ i with heap:=h1 }) F1 λh2 F2=>?_;exact LZ (s:=i) ly hN hj (λh fl tk G=>{l h fl tk G,f' h fl tk G}) hs h2 i.toks F2 (hq H3 sm ne nd Q M.1 S)
end
end L2
namespace L2
open PySem PySem.Spec PyProof.Rows PySem.W
section
variable {R:Addr}{fn:Str}{f:Addr}{sp:Sp}{kk:Nat}{t:TA}{p1 sf:Pos}{hs:List (Str×Pos×List Stmt×Pos)}{q0:Str×Pos×List Stmt×Pos}
def Vz(X:Cx)(C R:Addr)(j:Nat)(i:List (Str×Pos×List Stmt×Pos))(h:Sp)(t:TA)(g:V->St->St):TS:=λD c H=>t c H λf k=>h f k (λv a=>D.nx (g v c) a) λv _ a=>∃n,v=.int n 0 /\
 ∀(e:Addr) (dx:Option Addr) b,dn a b->a e=Z->(∀d,dx=Y d->a d=Z)->b e=Y (xo (AU C R n) dx e)->(n<0->dx=Z)->(0<=n->∃d,dx=Y d/\b d=Y (xl n d))->Tk X (AU C R n) e j D c b i
theorem L1(F:j6 X.prog X.w X.K X.mg X.base (vk X.prog X.w C R) kk f fd ps sp) (hr:hG kk X.A) (x:Gl X fn) (o:X.mg fn=Y (.ref f)) (hk:keepIn X.K (.ref f)=true) (hb:jc X.K fd ps []) (ha:PA X (e::es) t) (m:X.xe=λ_ _=>False)
  (hN:X.N.Nodup) (hj:X.N[j]?=Y y) (ly:X.env.scope.names.lookup y=Y .local) (k:X.stack=X.env::X.outer) (B:X.env.frame=Y X.env.locals) (E:X.ex=[]) (G:zg fn) (he:zE e es X) (l:(backTo fQ (starEach es X.env)).any (·.1)=false)
    {D:o8}{g:V->St->St}{Q:Px} (I:c6 X pins σ H s) (h:Vz X C R j hs sp t g D σ H) (hq:∀v u H2 s',c6 X pins σ H2 s'->fT v u->D.nx (g v σ) H2->Q u s'):
  (zw X) (eval (.Call (.Name fn p) (e::es) [] fQ) X.env) Q (λe s₁=>(zw X) (noteFrame e X.env) (λ_ pE=>(zw X) (setFlight e Z) (λ_ vf=>(zw X) (handleBy e X.env (hs.map (ON y))) (SP X pins D) X.xe vf) X.xe pE) X.xe s₁) s:=by
 have L:=@ha fQ pins s σ H _ I h;rw[m] at L;refine br (kf I x o ?_ G);refine W.callWith_K (h₀:=X.base) I.ok.mod.JG hk (bq L (?_) λ_ _ z=>z.elim) he l;rintro i J ⟨M,H1,d,r,q⟩;refine{d.og,?_};have hl:i.length=ps.length:=by rw[<-r.length];exact F.len _ _ _ _ q
 refine wpAny_call (b8 (F.run X.A X.stack J H1 {i,[]} i M _ _ hr d.Ii (by have:=hb J i d.og (by rw[aG];exact hl);rw[aG] at this;exact this) r q) λr s' b=>?_);cases r with
 |error v=>sleep 1;obtain⟨a,dx,n,H2,rfl,T,c,FL,n',en,hD⟩:=b;sleep 2;cases en;exact QP k B E ly hN hj d T c FL λH3 O n1 U h1 h2 h3=>hD a dx H3 O n1 U h1 h2 h3
 |ok fl=>
  cases fl with
  |ret u=>sleep 1;obtain⟨v,H2,I2,P,S⟩:=d.after b;sleep 2;exact hq v u H2 s' I2 P S
  |next=>exact False.elim b
  |brk=>exact False.elim b
  |cont=>exact False.elim b
def QQ(F:j6 X.prog X.w X.K X.mg X.base (vk X.prog X.w C R) kk f fd ps sp) (x:hG kk X.A) (k:Gl X fn) (i:X.mg fn=Y (.ref f)) (z:keepIn X.K (.ref f)=true) (G:jc X.K fd ps []) (J:PA X (e::es) t) (g:X.xe=λ_ _=>False)
  (L:X.N.Nodup) (B:X.N[j]?=Y y) (r:X.env.scope.names.lookup y=Y .local) (b:X.stack=X.env::X.outer) (l:X.env.frame=Y X.env.locals) (m:X.ex=[]) (n:zg fn) (E:zE e es X) (d:(backTo fQ (starEach es X.env)).any (·.1)=false)
  (c:swapsWith (.Call (.Name fn p) (e::es) [] fQ) Z sf.line X.env=pure false):PS X (.Try [.Expr (.Call (.Name fn p) (e::es) [] fQ) sf] ((q0::hs).map (ON y)) [] [] pos) (Vz X C R j (q0::hs) sp t λ_ a=>a):=by
 intro o s a H D I h;refine wpAny_Try_except (wpAny_execs_cons (wpAny_Expr_any ?_ I.quiet c));exact L1 F x k i z G J g L B r b l m n E d I h λv u O P M Q q=>b5 (b5 {(a),O,M,q})
def QR(F:j6 X.prog X.w X.K X.mg X.base (vk X.prog X.w C R) kk f fd ps sp) (hr:hG kk X.A) (j':Gl X fn) (hmf:X.mg fn=Y (.ref f)) (hk:keepIn X.K (.ref f)=true) (hb:jc X.K fd ps []) (ha:PA X (e::es) t) (A':X.xe=λ_ _=>False)
  (hN:X.N.Nodup) (hj:X.N[j]?=Y y) (ly:X.env.scope.names.lookup y=Y .local) (D':X.stack=X.env::X.outer) (X9:X.env.frame=Y X.env.locals) (hex:X.ex=[]) (E':zg fn) (he:zE e es X) (XC:(backTo fQ (starEach es X.env)).any (·.1)=false)
  (hi:X.N[i]?=Y x) (lx:X.env.scope.names.lookup x=Y .local) (I':swapsWith (.Call (.Name fn p) (e::es) [] fQ) (Y (.Name x p1)) sf.line X.env=pure false):PS X (.Try [.Assign [.Name x p1] (.Call (.Name fn p) (e::es) [] fQ) sf] ((q0::hs).map (ON y)) [] [] pos) (Vz X C R j (q0::hs) sp t λv σ=>σ.set i (Y v)):=by
 intro pins s σ H D I h;refine wpAny_Try_except (wpAny_execs_cons (wpAny_Assign_Name ?_ I'));refine L1 F hr j' hmf hk hb ha A' hN hj ly D' X9 hex E' he XC I h λv u H2 s' I2 rv q2=>?_;exact tj I2 hN hi (.inl lx) rv (λs6 I6 _=>b5 (b5 {_,H2,I6,q2})) (.inr lx)
end
end L2
namespace L2
open PySem PySem.Spec PyProof.Rows PySem.W
section
variable {R:Addr}{E:XK}{arg:Expr}{np:Pos}{k:Nat}
def pO(f:a0->Od):a0->Option Out:=λa=>(f a).bind λd=>match d with
 |.int n=>if 0<=n/\n<10000 then Y (.rt (.int n)) else Z
 |_=>Z
def tQ(B:Z_ X.K X.mg c C) (t:Gl X c) (x:PD X arg f) (s:hG (k+2) X.A) (u:zr0 (X.calm=true)) (h:zr0 (X.stack=X.env::X.outer)) (l:zr0 (X.env.frame=Y X.env.locals)) (m:zr0 (X.ex=[]))
  (g:zr0 (X.xe=λe s'=>(zw X) (leaving X.env e) (λ_ tP=>vk X.prog X.w C R X.outer X.lI X.gO E e tP) (λe' tP=>vk X.prog X.w C R X.outer X.lI X.gO E e' tP) s'))
  (b:zr0 (starEach [arg] X.env=[(false,eval arg X.env)])) (p:zd0 (zg c)):me X (.exc λn q=>E (.int n 0) Z q) O (.Raise (Y (.Call (.Name c np) [arg] [] fQ)) Z pos) (pO f) :=
 PS.imp (LY B t x s u h l m g b p) <| by
  rintro D F H ⟨r,o,G,b,e,k⟩;obtain⟨d,y,a⟩:=bind_some e;obtain⟨n,rfl⟩:∃n,d=.int n:=by cases d<;>first|exact{_,rfl}|cases a
  dsimp only at a;by_cases j:0<=n/\n<10000
  .rw[ah j] at a;cases a;rcases k with ⟨I,z,w⟩ | ⟨z,_⟩
   .cases z;exact{r,.int n,b.o.full,y,λv q s' i=>{n,by rw[c5.ee.mp i],j,w q (b.o.sub.trans s')}}
   .exact absurd rfl (z n)
  .rw[aq j] at a;cases a
def GQ(f:a0->Od):a0->Option Out:=λa=>(f a).bind λd=>match d with
 |.str _=>Y (.rt (.int (-1)))
 |_=>Z
def E3(y:Vy X.K X.mg c R) (r:Gl X c) (t:PD X arg f) (s:zr0 (X.calm=true)) (g:zr0 (X.stack=X.env::X.outer)) (h:zr0 (X.env.frame=Y X.env.locals)) (j:zr0 (X.ex=[]))
  (b:zr0 (X.xe=λe s'=>(zw X) (leaving X.env e) (λ_ tP=>vk X.prog X.w C R X.outer X.lI X.gO E e tP) (λe' tP=>vk X.prog X.w C R X.outer X.lI X.gO E e' tP) s'))
  (a:zr0 (starEach [arg] X.env=[(false,eval arg X.env)])) (l:zd0 (zg c)):me X (.Jx λn m=>E (.int n 0) Z m) O (.Raise (Y (.Call (.Name c np) [arg] [] fQ)) Z pos) (GQ f) :=
 PS.imp (IV y r t s g h j b a l) <| by
  rintro D A H ⟨q,o,G,a,e,k⟩;obtain⟨d,u,p⟩:=bind_some e;obtain⟨x,rfl⟩:∃x,d=.str x:=by cases d<;>first|exact{_,rfl}|cases p
  cases p;rcases k with ⟨B,z,w⟩ | ⟨z,_⟩
  .cases z;exact{q,.str x,a.o.full,u,λv m s' i=>{{x,by rw[c5.e9.mp i]},w m (a.o.sub.trans s')}}
  .exact absurd rfl (z (-1))
def CN(f:a0->Od):a0->Option Out:=λa=>(f a).bind λd=>match d with
 |.int _=>Z
 |d=>Y (.rt d)
def L3{W:Int->Hp->Prop}(h:PD X e f):me X (.exc W) O (.Return (Y e) pos) (CN f) :=
 PS.imp (qZ h) <| by
  rintro D p H ⟨g,o,G,b,e,k⟩;obtain⟨d,m,c⟩:=bind_some e;have a:∀n,d≠.int n:=λn z=>by subst z;cases c
  obtain rfl:o=.rt d:=by cases d<;>first|(cases c;rfl)|exact absurd rfl (a _)
  rcases k with ⟨l,z,w⟩ | ⟨_,k⟩
  .exact absurd z (a l)
  .exact{g,d,b.o.full,m,λv q j i=>KD.later k (b.o.sub.trans j) |>.here i}
end
def spX(K:Frag)(n:Nat)(f:Lp->Od):Sp:=λc H Q E=>∃a d,bz K H a c/\a.length=n/\f a=Y d/\((∃m,d=.int m/\∀b,dn H b->E (.int m 0) Z b)\/((∀m,d≠.int m)/\KD K H d Q))
structure yi (P:Program) (w:World) (K:Frag) (mg:Str->Ow) (base:Heap) (C R:Addr) (x:Str) (k n:Nat) (f:Lp->Od):Prop where
 ex:∃a fd ps,j6 P w K mg base (vk P w C R) k a fd ps (spX K n f)/\mg x=Y (.ref a)/\keepIn K (.ref a)=true/\jc K fd ps []
section
variable {P:Program}{K:Frag}{R:Addr}{qual:Str}{fa:Addr}{N:Lr}{k:Nat}{f:Lp->Od}
theorem QS(F:BR K x qual st fa fd) (S:gU N ps (bC st)) (J:n=ps.length) (T:∀i∈O,n<=i)
  (b:∀(l4:Value) (A:Around) (outer:List Env) (s:Shared) (H:Hp) (E:XK),hG k (A.deeper (envOfC qual (bC st) (zB s) fa l4)) ->
   k9 (q8 (vk P w C R) P w K mg base N qual (bC st) fa l4 A outer s H E) (.exc λn H'=>E (.int n 0) Z H') O (gK st) g):j6 P w K mg base (vk P w C R) (k+1) fa fd ps (spX K n (gL N g)):=by
 sleep 1;obtain⟨oc,od,kV,W,pm,an,l4,ct,B,rfl,D,t⟩:=F.ex;sleep 2;refine Ka D t S (by rintro vs H Q E ⟨c,d,i,l,_⟩;rw[<-i.length,l,J]) ?_;rintro A outer s H vs Q E I ⟨c,d,i,l,e,k⟩;refine{_,b l4 A outer s H E I,?_};obtain⟨o,V,p⟩:=bind_some e;have u:=kr (N:=N) i;have a:∀i∈O,((gm N c)[i]?).join=Z:=λj L=>by
  have:¬ j<c.length:=by have:=T j L;omega
  unfold gm;rw[aQ (by simpa using this),bG];split<;>rfl
 have r:∀f:List Nat,(∀i∈f,i∈O)->h9 (ju O) K (kA N vs) (gm N c) H f []:=by
  intro f;induction f with
  |nil=>intro _;rfl
  |cons j f G=>exact λh=>.inl {a j (h j (by simp)),G λi M=>h i (ai _ M)}
 refine{gm N c,o,H,{{u.1,{[],rfl,jd.nil,r O λ_ h=>h},λi d q _=>u.2 i d q},λdp v0 z=>nomatch z},V,?_};cases o with
 |rt d'=>cases p;exact k
 |nx v=>
  cases p;rcases k with ⟨m,z,_⟩ | ⟨_,k⟩
  .cases z
  .exact λX H' G' y U=>k .kn H' (y.trans U.o.sub) (c5.iz.mpr rfl)
 |bk _=>cases p
 |ct _=>cases p
def y8(f:Lp->Od):Lp->Od:=λa=>(f a).bind λd=>match d with
 |.int _=>Z
 |d=>Y d
theorem yi.own(h:yi P w K mg base C R x k n f):oq P w K mg base x k n (y8 f):=by
 sleep 1;obtain⟨a,M,y,F,J,I,G⟩:=h.ex;sleep 2;have b:∀{ds d},y8 f ds=Y d->f ds=Y d/\∀m,d≠.int m:=λ{ds d} e=>by
  obtain⟨j,N,t⟩:=bind_some e;have o:∀n,j≠.int n:=λn z=>by subst z;cases t
  obtain rfl:j=d:=by cases j<;>first|(cases t;rfl)|exact absurd rfl (o _)
  exact{(N),o}
 refine{a,M,y,{λvs H Q E ⟨ds,d,i,l,e,q⟩=>F.len vs H Q (λ_ _ _=>False) {ds,d,i,l,(b e).1,.inr {(b e).2,q}},?_},J,I,G};rintro A c s H g u vs Q E B O D r ⟨ds,d,i,l,e,q⟩;refine b8 (F.run A c s H g u vs Q (λ_ _ _=>False) B O D r {ds,d,i,l,(b e).1,.inr {(b e).2,q}}) λr S p=>?_;cases r with
 |ok L=>cases L<;>exact p
 |error v=>sleep 1;obtain⟨e,T,n,U,_,_,_,_,z⟩:=p;sleep 2;exact z.elim
end
def iS.unset{K:Frag}(h:iS m O K σ ρ H G)(l:i∉O):iS m O K (σ.set i Z) (ρ.set i Z) H G:=by
 obtain⟨B,t,f,d⟩:=h.o.ex;refine{{by simpa using h.o.len,{B,t,f,d.other λj e=>?_},λj w q e=>?_},λv r z=>?_}
 .have c:i≠j:=λz=>l (z▸e);exact{aw c,aw c}
 .by_cases c:j=i
  .subst c;by_cases k:j<ρ.length
   .rw[aK k] at q;cases q
   .rw[bU (by simpa using k)] at q;cases q
  .rw[aw (Ne.symm c)] at q;obtain⟨u,a,b⟩:=h.o.kn j w q e;exact{u,by rw[aw (Ne.symm c)];exact a,b}
 .obtain⟨g,p,n⟩:=h.z v r z;have s:i≠0:=λq=>l (q▸g);exact{g,by rw[aw s];exact p,n}
def Ya(K:Frag)(h:Lp->Bool)(n:Nat)(f:Lp->Od):Sp:=λg H Q E=>∃c d,bz K H c g/\h c=true/\c.length=n/\f c=Y d /\
 ((∃m,d=.int m/\∀a,dn H a->E (.int m 0) Z a)\/((∀m,d≠.int m)/\∀v a e,dn H a->dn e a->(∀b o,H b=Y o->e b=Z)->c5 K e d v->Q v a))
structure wF (P:Program) (w:World) (K:Frag) (mg:Str->Ow) (base:Heap) (C R:Addr) (x:Str) (ok:Lp->Bool) (k n:Nat) (f:Lp->Od):Prop where
 ex:∃a fd ps,j6 P w K mg base (vk P w C R) k a fd ps (Ya K ok n f)/\mg x=Y (.ref a)/\keepIn K (.ref a)=true/\jc K fd ps []
section
variable {P:Program}{K:Frag}{R:Addr}{qual:Str}{fa:Addr}{N:Lr}{k:Nat}{f:Lp->Od}
theorem L4(F:BR K x qual st fa fd) (S:gU N ps (bC st)) (L:n=ps.length) (U:∀i∈O,n<=i)
  (c:∀(l4:Value) (A:Around) (outer:List Env) (s:Shared) (H:Hp) (E:XK),hG k (A.deeper (envOfC qual (bC st) (zB s) fa l4)) ->
   k9 (q8 (vk P w C R) P w K mg base N qual (bC st) fa l4 A outer s H E) (.Jx λn H'=>E (.int n 0) Z H') O (gK st) g):j6 P w K mg base (vk P w C R) (k+1) fa fd ps (Ya K (λ_=>true) n (gL N g)):=by
 sleep 1;obtain⟨oc,od,kV,X,pm,an,l4,ct,D,rfl,G,u⟩:=F.ex;sleep 2;refine Ka G u S (by rintro vs H Q E ⟨f,d,i,_,l,_⟩;rw[<-i.length,l,L]) ?_;rintro A outer s H vs Q E J ⟨f,d,i,_,l,e,k⟩;refine{_,c l4 A outer s H E J,?_};obtain⟨o,W,r⟩:=bind_some e;have v:=kr (N:=N) i;have a:∀i∈O,((gm N f)[i]?).join=Z:=λj M=>by
  have:¬ j<f.length:=by have:=U j M;omega
  unfold gm;rw[aQ (by simpa using this),bG];split<;>rfl
 have t:∀p:List Nat,(∀i∈p,i∈O)->h9 (ju O) K (kA N vs) (gm N f) H p []:=by
  intro p;induction p with
  |nil=>intro _;rfl
  |cons j p I=>exact λh=>.inl {a j (h j (by simp)),I λi T=>h i (ai _ T)}
 refine{gm N f,o,H,{{v.1,{[],rfl,jd.nil,t O λ_ h=>h},λi d q _=>v.2 i d q},λdp v0 z=>nomatch z},W,?_};cases o with
 |rt d'=>cases r;exact k
 |nx y=>
  cases r;rcases k with ⟨m,z,_⟩ | ⟨_,k⟩
  .cases z
  .exact λσ H' G' B V=>k .kn H' (λ_=>Z) (B.trans V.o.sub) (λb o z=>nomatch z) (λ_ _ _=>rfl) (c5.iz.mpr rfl)
 |bk _=>cases r
 |ct _=>cases r
def QT(H a:Hp):Hp:=λb=>match H b with
 |some o=>Y o
 |none=>a b
def uH{b:Addr}(e:H b=Y o):QT H H' b=Y o:=by unfold QT;rw[e]
def CO{b:Addr}(e:H b=Z):QT H H' b=H' b:=by unfold QT;rw[e]
def SO{a:List Env}(h:nS P w H s.heap)(k:∀b∈o7 a,H b=Z)(d:Un (o7 a) [] (λ_=>Z) H' s.heap h')(g:nS P w H' h'):
  Un (o7 a) [] H (QT H H') s.heap h'/\nS P w (QT H H') h'/\(∀b o,H b=Y o->H' b=Z):=by
 have f:∀b o,H b=Y o->∃j,s.heap.get? b=Y j:=λb o e=>(h b o e).there;have i:∀b o,H b=Y o->H' b=Z:=λb o e=>by obtain⟨j,q⟩:=f b o e;exact d.free b j q rfl aN
 have n:∀b o,H' b=Y o->QT H H' b=Y o:=λb o e=>by
  cases q:H b with
  |none=>rw[CO q];exact e
  |some u=>rw[i b u q] at e;cases e
 refine{{λb o q z=>d.keep b o q rfl,λb o q z=>d.slot b o q rfl,λb o q z p=>by rw[CO z];exact d.free b o q rfl p,d.there,λb l q=>uH q,λb o u q=>uH q,λb r q=>{#[],by rw[uH q,Array.append_empty]}},λb o e=>?_,i};cases q:H b with
 |none=>rw[CO q] at e;exact(g b o e).pA (λ_ _ _ q=>q) (λc q=>n c _ q) λc l q=>n c _ q
 |some u=>
  rw[uH q] at e;obtain rfl:=bB e;refine(h b u q).pA (λc j hc z=>?_) (λc q=>uH q) λc l q=>uH q;have m:∀c o,H c=Y o->c∉o7 a:=λc o e z=>by rw[k c z] at e;cases e
  rcases hc with rfl|hc
  .exact d.keep _ _ z rfl (m _ _ q) aN
  .exact d.keep _ _ z rfl (m _ _ hc) aN
theorem yi.fresh(h:yi P w K mg base C R x k n f):wF P w K mg base C R x (λds=>ds.all lK) k n f:=by
 sleep 1;obtain⟨a,fd,ps,F,h1,h2,h3⟩:=h.ex;sleep 2;refine{a,fd,ps,{λO H Q E ⟨ds,d,i,_,l,e,q⟩=>F.len O H (λ_ _=>True) (λ_ _ _=>True) {ds,d,i,l,e,?_},λA g s H N us O Q E hr c M r ⟨ds,d,i,sc,l,e,q⟩=>?_},h1,h2,h3}
 .rcases q with ⟨m,z,_⟩ | ⟨z,_⟩
  .exact .inl {m,z,λ_ _=>trivial}
  .exact .inr {z,λ_ _ _ _=>trivial}
 .have e1:vS P w K mg base A g s (λ_=>Z):={c.frames,c.mod,λb o q=>{(c.bs b o q).1,rfl},c.HY,c.nC,λ_ _=>rfl,(λb o q=>nomatch q),c.bare}
  refine b8 (F.run A g s (λ_=>Z) N us O (λv H'=>c5 K H' d v/\∀m,d≠.int m) (λv _ H'=>∃m,d=.int m/\v=.int m 0) hr e1 M r {ds,d,bz.jy sc i,l,e,?_}) λr s' L=>?_
  .rcases q with ⟨m,z,_⟩ | ⟨z,_⟩
   .exact .inl {m,z,λH' _=>{(m),z,rfl}}
   .exact .inr {z,λv H' _ i=>{(i),z}}
  cases r with
  |error v=>
   sleep 1;obtain⟨ea,dx,n',H',rfl,T,p,V,m,rfl,em⟩:=L;sleep 2;cases em;sleep 1;obtain⟨h₀,fs,t,S,D,G,J,U,V⟩:=V.ex;sleep 2;obtain⟨B,j,I⟩:=SO c.gR c.BQ S D;rcases q with ⟨X,z,w⟩ | ⟨z,_⟩
   .cases z;refine{ea,dx,n',QT H H',rfl,T,p,{h₀,fs,t,B,j,λb M=>{?_,(G b M).2},J,U,V},w _ λb o q=>uH q};have:H b=Z:=by
     rcases(G b M).2 with y|y
     .exact c.BQ b y
     .cases q:H b with
      |none=>rfl
      |some o=>obtain⟨ob,W⟩:=(c.gR b o q).there;rw[y] at W;cases W
    rw[CO this];exact(G b M).1
   .exact absurd rfl (z n')
  |ok fl=>
   cases fl with
   |ret u=>
    sleep 1;obtain⟨v,H',T,p,S,D,rv,iv,ni⟩:=L;sleep 2;obtain⟨B,j,I⟩:=SO c.gR c.BQ S D;rcases q with ⟨X,z,w⟩ | ⟨_,q⟩
    .exact absurd z (ni X)
    .refine{v,QT H H',T,p,B,j,rv,q v _ H' (λb o z=>uH z) (λb o z=>?_) I iv};cases y:H b with
     |none=>rw[CO y];exact z
     |some u=>rw[I b u y] at z;cases z
   |next=>exact L
   |brk=>exact L
   |cont=>exact L
end
def CP(c:Lp->Bool)(n:Nat)(f:Lp->Od)(d:a0->Option Lp):a0->Option Out:=λb=>(d b).bind λa=>if a.length=n/\c a=true then (f a).map .rt else Z
section
variable {R:Addr}{E:XK}{fn:Str}{ok:Lp->Bool}{f:Lp->Od}{k jj:Nat}
theorem CQ(F:wF X.prog X.w X.K X.mg X.base C R fn ok jj n f) (Q:hG k X.A) (s:Gl X fn) (U:ux X (e::es) ff) (S:zd0 (jj<=k)) (q:zr0 (X.stack=X.env::X.outer)) (t:zr0 (X.env.frame=Y X.env.locals)) (u:zr0 (X.ex=[]))
  (m:zr0 (X.xe=λe s'=>(zw X) (leaving X.env e) (λ_ tP=>vk X.prog X.w C R X.outer X.lI X.gO E e tP) (λe' tP=>vk X.prog X.w C R X.outer X.lI X.gO E e' tP) s'))
  (x:zd0 (zg fn)) (T:zr0 (zE e es X)) (r:zr0 ((backTo fQ (starEach es X.env)).any (·.1)=false)):
  me X (.Jx λn B=>E (.int n 0) Z B) O (.Return (Y (.Call (.Name fn p) (e::es) [] fQ)) pos) (CP ok n f ff):=by
 sleep 1;obtain⟨a,fd,ps,F,h1,W,V⟩:=F.ex;sleep 2;refine PS.imp (qZ (vD (dvs:=[]) (F.mono S) Q s h1 W V .nil (Vw q t u m) U x T r)) ?_;rintro D σ H ⟨I,o,G,c,e,k⟩;obtain⟨j,e1,h⟩:=bind_some e;by_cases g:j.length=n/\ok j=true
 .rw[ah g] at h;obtain⟨d,e3,rfl⟩:=ak.mp h;refine{I,j,c.o.full,e1,λvs B s' P=>{j,d,by rw[aG];exact P,g.2,g.1,e3,?_}};rcases k with ⟨N,z,w⟩ | ⟨M,k⟩
  .exact .inl {N,z,λy l=>w y (c.o.sub.trans (s'.trans l))}
  .exact .inr {M,λv y Hn l L J i=>k v y Hn (c.o.sub.trans (s'.trans l)) L (λb o z=>J b _ (s' b _ (c.o.sub b o z))) i}
 .rw[aq g] at h;cases h
end
def CS(c:Str)(v:Int):fJ:=if v<0 then .dict [(.bool true,.str c)] else .dict [(.bool true,.str c),(.str "line",.int v)]
def VA(j:Nat):Out->Out
 |.nx ρ=>.nx (ρ.set j Z)
 |.bk ρ=>.bk (ρ.set j Z)
 |.ct ρ=>.ct (ρ.set j Z)
 |.rt d=>.rt d
theorem we.un{m:Md}{O:List Nat}{K:Frag}{G:Hp}{D:o8}{j:Nat}(b:j∉O):∀{o:Out},we m O K G D (VA j o)->we m O K G (D.un j) o
 |.nx _,h=>λc H' a s h'=>h _ H' a s (h'.unset b)
 |.bk _,h=>λc H' a s h'=>h _ H' a s (h'.unset b)
 |.ct _,h=>λc H' a s h'=>h _ H' a s (h'.unset b)
 |.rt _,h=>h
def yj(X:Cx)(e c:Addr)(m:Md)(O:List Nat)(h:a0->Option Out):List (Str×Pos×List Stmt×Pos)->Prop
 |[]=>False
 |q::r=>∃D b,(Gl X q.1/\X.mg q.1=Y (.ref D)/\(q.1==("__debug__":Str))=false)/\E1 X.K D/\subIn X.K (.ref c) (.ref D)=Y b/\if b=true then q.2.2.1≠[]/\k9 (X.susp e) m O q.2.2.1 h else yj X e c m O h r
theorem yj.tk{X:Cx}{e c:Addr}{m:Md}{O:List Nat}{h:a0->Option Out}{j:Nat}{D:o8}{d:St}{a:a0}{H G:Hp}{o:Out}(f:iS m O X.K (d.set j (Y (.ref e))) a H G)(g:h a=Y o)(k:we m O X.K G (D.un j) o):∀{l:List (Str×Pos×List Stmt×Pos)},yj X e c m O h l->Tk X c e j D d H l
 |[],q=>q
 |_::_,⟨C,b,q1,q2,q3,q4⟩=>by
  refine{C,b,q1,q2,q3,?_};cases b with
  |false=>exact yj.tk f g k q4
  |true=>exact{q4.1,_,q4.2,a,o,G,f,g,k}
def uI(n:Nat)(f:Lp->Od)(g:a0->Option Lp)(j:Nat)(i h:Str)(e c:a0->Option Out):a0->Option Out:=λa=>(g a).bind λb=>if b.length=n then (f b).bind λd=>match d with
 |.int v=>((if v<0 then c else e) (a.set j (Y (CS (if v<0 then h else i) v)))).map (VA j)
 |_=>Y (.nx a) else Z
def qN(c:Lp->Bool)(n:Nat)(f:Lp->Od)(h:a0->Option Lp)(i j:Nat)(l k:Str)(g e:a0->Option Out):a0->Option Out:=λa=>(h a).bind λb=>if b.length=n/\c b=true then (f b).bind λd=>match d with
 |.int v=>((if v<0 then e else g) (a.set j (Y (CS (if v<0 then k else l) v)))).map (VA j)
 |d=>Y (.nx (a.set i (Y d))) else Z
section
variable {R:Addr}{fn cP cR:Str}{ok:Lp->Bool}{f:Lp->Od}{sf p1:Pos}{k jj:Nat}{h1 h2:a0->Option Out}{hs:List (Str×Pos×List Stmt×Pos)}{q0:Str×Pos×List Stmt×Pos}
def GS{v:Int}{n:Hp}{D:o8}{o:Out} (W:iq X.K cP C) (V:iq X.K cR R) (A:j∉O) (I:∀e,yj X e C m O h1 hs) (F:(∀ρ,h2 ρ=Z)\/∀e,yj X e R m O h2 hs) (B:iS m O X.K σ ρ H G) (w:dn H n)
  (h:(if v<0 then h2 else h1) (ρ.set j (Y (CS (if v<0 then cR else cP) v)))=Y o) (k:we m O X.K G D (VA j o)):
  ∀(f:Addr) (dx:Option Addr) H3,dn n H3->n f=Z->(∀d,dx=Y d->n d=Z)->H3 f=Y (xo (AU C R v) dx f)->(v<0->dx=Z)->(0<=v->∃d,dx=Y d/\H3 d=Y (xl v d))->Tk X (AU C R v) f j D σ H3 hs:=λf dx H3 J Q P T S t=>by
 obtain⟨G1,L,E,r⟩:=B.o.grow (w.trans J);have b:∀a,n a=Z->H a=Z:=λa q=>by
  cases z:H a with
  |none=>rfl
  |some u=>rw[w a u z] at q;cases q
 have p:=(E f (b f Q)).trans T;have l:∀(c:Str) (i:Addr) (s:a0->Option Out),AU C R v=i->(∀e,yj X e i m O s hs)->s (ρ.set j (Y (CS c v)))=Y o->iq X.K c i->Tk X (AU C R v) f j D σ H3 hs:=λc i s y N M x=>by
  rw[y];rw[y] at p;refine yj.tk (iS.set {r,B.z} A ?_) M (we.un A (we.later L k)) (N f);unfold CS;split
  .rename_i g;rw[S g] at p;exact c5.jN.mpr {f,rfl,.inr (.inr {c,i,x,.inl {(rfl),p}})}
  .rename_i g;obtain⟨d,rfl,U⟩:=t (by omega);exact c5.jN.mpr {f,rfl,.inr (.inr {c,i,x,.inr {v,d,rfl,p,(E d (b d (P d rfl))).trans U}})}
 by_cases g:v<0
 .rw[ah g,ah g] at h;rcases F with z|z
  .rw[z] at h;cases h
  .exact l cR R h2 (ah g) z h V
 .rw[aq g,aq g] at h;exact l cP C h1 (aq g) I h W
theorem L5(j:Nat) (F:yi X.prog X.w X.K X.mg X.base C R fn jj n f) (hr:hG k X.A) (hN:X.N.Nodup) (u:Gl X fn) (ha:ux X (e::es) ff) (hP:iq X.K cP C) (hR:iq X.K cR R) (U:∀e,yj X e C m O h1 (q0::hs)) (T:(∀ρ,h2 ρ=Z)\/∀e,yj X e R m O h2 (q0::hs))
  (hj:zd0 (jj<=k)) (jO:zd0 (j∉O)) (r:zr0 (X.xe=λ_ _=>False)) (t:zr0 (X.N[j]?=Y y)) (W:zr0 (X.env.scope.names.lookup y=Y .local)) (h:zr0 (X.stack=X.env::X.outer)) (x:zr0 (X.env.frame=Y X.env.locals)) (B:zr0 (X.ex=[]))
  (i:zr0 (swapsWith (.Call (.Name fn p) (e::es) [] fQ) Z sf.line X.env=pure false)) (E:zd0 (zg fn)) (he:zr0 (zE e es X)) (q:zr0 ((backTo fQ (starEach es X.env)).any (·.1)=false)):
  me X m O (.Try [.Expr (.Call (.Name fn p) (e::es) [] fQ) sf] ((q0::hs).map (ON y)) [] [] pos) (uI n f ff j cP cR h1 h2):=by
 sleep 1;obtain⟨a,fd,ps,F,g1,g2,g3⟩:=F.ex;sleep 2;refine PS.imp (QQ (F.mono hj) hr u g1 g2 g3 ha r hN t W h x B E he q i) ?_;rintro D S H ⟨ρ,o,G,b,e,k⟩;obtain⟨I,e1,c⟩:=bind_some e;by_cases s:I.length=n
 .rw[ah s] at c;obtain⟨d,e3,P⟩:=bind_some c;refine{ρ,I,b.o.full,e1,λvs H' J i'=>{I,d,i',s,e3,?_}};by_cases M:∃v,d=.int v
  .obtain⟨v,rfl⟩:=M;obtain⟨o',e5,rfl⟩:=ak.mp P;exact .inl {v,rfl,λQ g=>{v,rfl,GS hP hR jO U T b (J.trans g) e5 k}}
  .have L:∀v,d≠.int v:=λv z=>M {(v),z};obtain rfl:o=.nx ρ:=by cases d<;>first|(cases P;rfl)|exact absurd rfl (L _)
   refine .inr {L,λv Q g i2=>?_};obtain⟨G1,V,gn,l⟩:=b.o.grow (J.trans g);exact k S Q G1 V {l,b.z}
 .rw[aq s] at c;cases c
theorem L6(i j:Nat) (F:wF X.prog X.w X.K X.mg X.base C R fn ok jj n f) (hr:hG k X.A) (hN:X.N.Nodup) (j':Gl X fn) (ha:ux X (e::es) ff) (hP:iq X.K cP C) (hR:iq X.K cR R) (t1:∀e,yj X e C m O h1 (q0::hs)) (t2:(∀ρ,h2 ρ=Z)\/∀e,yj X e R m O h2 (q0::hs))
  (hj:zd0 (jj<=k)) (iO:zd0 (i∉O)) (jO:zd0 (j∉O)) (A':zr0 (X.xe=λ_ _=>False)) (hix:zr0 (X.N[i]?=Y x)) (lx:zr0 (X.env.scope.names.lookup x=Y .local)) (hjy:zr0 (X.N[j]?=Y y)) (ly:zr0 (X.env.scope.names.lookup y=Y .local)) (D':zr0 (X.stack=X.env::X.outer)) (X9:zr0 (X.env.frame=Y X.env.locals)) (hex:zr0 (X.ex=[]))
  (I':zr0 (swapsWith (.Call (.Name fn p) (e::es) [] fQ) (Y (.Name x p1)) sf.line X.env=pure false)) (E':zd0 (zg fn)) (he:zr0 (zE e es X)) (XC:zr0 ((backTo fQ (starEach es X.env)).any (·.1)=false)):
  me X m O (.Try [.Assign [.Name x p1] (.Call (.Name fn p) (e::es) [] fQ) sf] ((q0::hs).map (ON y)) [] [] pos) (qN ok n f ff i j cP cR h1 h2):=by
 sleep 1;obtain⟨a,fd,ps,F,g1,g2,g3⟩:=F.ex;sleep 2;refine PS.imp (QR (F.mono hj) hr j' g1 g2 g3 ha A' hN hjy ly D' X9 hex E' he XC hix lx I') ?_;rintro D σ H ⟨ρ,o,G,hm,e,k⟩;obtain⟨ds,e1,e2⟩:=bind_some e;by_cases hl:ds.length=n/\ok ds=true
 .rw[ah hl] at e2;obtain⟨d,e3,e4⟩:=bind_some e2;refine{ρ,ds,hm.o.full,e1,λvs H' s' i'=>{ds,d,i',hl.2,hl.1,e3,?_}};by_cases hd:∃v,d=.int v
  .obtain⟨v,rfl⟩:=hd;obtain⟨o',e5,rfl⟩:=ak.mp e4;exact .inl {v,rfl,λH2 s2=>{v,rfl,GS hP hR jO t1 t2 hm (s'.trans s2) e5 k}}
  .have ni:∀v,d≠.int v:=λv z=>hd {(v),z};obtain rfl:o=.nx (ρ.set i (Y d)):=by cases d<;>first|(cases e4;rfl)|exact absurd rfl (ni _)
   refine .inr {ni,λv H2 Hn s2 s4 s5 i2=>?_};obtain⟨G1,sG,gn,hs1⟩:=hm.o.grow (s'.trans s2);refine k _ H2 G1 sG (iS.set {hs1,hm.z} iO (i2.same λb u z=>?_));have:H b=Z:=by
    cases q:H b with
    |none=>rfl
    |some w=>rw[s5 b w (s' b w q)] at z;cases z
   rw[gn b this];exact s4 b u z
 .rw[aq hl] at e2;cases e2
end
end L2
namespace L2
open PySem PySem.Spec PyProof.Rows PySem.W
open PySem.Builtin PySem.Builtin.ObjectAttr
structure Yb (K:Frag) (C:Addr):Prop where
 ga:findIn K (.ref C) "__getattribute__"=Y (Y (.builtin "BaseException.__getattribute__"))
 hook:findIn K (.ref C) "__getattr__"=Y Z
 sub:subIn K (.ref C) (.type "BaseException")=Y true
 cl:(clsIn K C).isSome=true
 ha:findIn K (.ref C) "__class__"=Y (Y (.builtin "object.__class__"))
 hn:specialIn K (.builtin "object.__class__") "__get__"=Y (Y (.builtin "getset_descriptor.__get__"))
 tk:takesIn K (.builtin "object.__class__")=Y true
 mo:mroIn K C (.type "object")=Y true
section
variable {prog:Program}{K:Frag}{e:Addr}{oe:Obj}{od:Option Obj}
def IX{b:Str}{a g:Value}(c:(clsIn K C).isSome=true)(f:findIn K (.ref C) b=Y (Y a))(e:specialIn K a "__get__"=Y (Y g))(d:takesIn K a=Y true):findObj K C od b=Y (.bind g a):=by obtain⟨h,c⟩:=Option.isSome_iff_exists.mp c;unfold findObj;rw[c,aJ,f,aJ];simp only[e,aJ,d]
theorem QU{Q:Ow->Shared->Prop}(X:K.In s.heap)(c:Yb K C)(I:InstAt s.heap e oe C od)(h:Q (Y (.ref C)) { s with toks:=s.toks+1 }):wpAny (model prog w) A (getAttr? (.ref e) "__class__") Q E s:=by
 have a:=I.type (M:=model prog w);have b:Looks (model prog w) s.heap (hookBefore (.ref C)) Z:=looks_hook X (by rw[ah (show onTheHeap (.ref C)=true from rfl)];exact c.hook);unfold getAttr? getAttrBy? getAttrBy;refine aa (wpAny_mkText (aa (wpAny_attempt (a8 (aa (a _ _ _ _ (λ_ _ e=>e) (aa (looks_findIn X c.ga _ _ _ _ (λ_ _ e=>e) ?_))))))));dsimp only;rw[show (onTheHeap (.ref C)&&Value.builtin "BaseException.__getattribute__"==Value.builtin "object.__getattribute__")=false from by rw[show (Value.builtin "BaseException.__getattribute__"==Value.builtin "object.__getattribute__")=false from by decide +kernel,Bool.and_false],aq (by decide)];refine aa (b _ _ _ _ (λ_ _ e=>e) (aa (wpAny_attempt (a8 ?_))));unfold callGetattribute;rw[aq (by decide)];unfold boundAndCalled;have d:bindSpecial (.builtin "BaseException.__getattribute__") (.ref e)=pure (.builtin "BaseException.__getattribute__",[.ref e]):=by kernel_rfl
 rw[d];refine aa (ao ?_);show wpAny _ _ (call (.builtin "BaseException.__getattribute__") [.ref e,.str "__class__" s.toks]) _ _ _;refine wpAny_call (codeAny_call_builtin (by decide +kernel) F.entry_bexc_ga (@check_slot (model prog w) _ _ _ "BaseException.__getattribute__" "BaseException" "__getattribute__" (.ref e) [.str "__class__" s.toks] [] _ (by decide +kernel) (by decide +kernel) (a.andThen (looks_subIn X c.sub)) (F.args_bexc_ga (.ref e) (.str "__class__" s.toks)) ?_));rw[LP];refine aa (a _ _ _ _ (λ_ _ e=>e) (aa ((looks_find X I (IX c.cl c.ha c.hn c.tk)) _ _ _ _ (λ_ _ e=>e) ?_)));show wpAny _ _ (holding [.builtin "object.__class__"] (call (.builtin "getset_descriptor.__get__") [.builtin "object.__class__",.ref e,.ref C])>>=λv=>ret v) _ _ _;refine aa (a8 (wpAny_call (class_get (s:={ s with toks:=s.toks+1 }) X I c.mo ?_)));exact ao (handed_on rfl (ao h))
def L7(c:Yb K C):KitX K (.ref e) (.ref C) (λh=>∃oe od,InstAt h e oe C od) where
 ty:=λ_ _ _ ⟨_,_,I⟩=>I.type
 it:=λ_ _ X _=>by
  obtain⟨m,a⟩:=Option.isSome_iff_exists.mp c.cl;unfold clsIn at a;split at a
  .rename_i o l g b f;intro v t u r k q;unfold isType loadHead;exact aa (wpAny_loadPart (k _ _ (X _ _ f)) (ao q))
  .cases a
 ne:=λh i s j n p X d=>by
  obtain⟨m,a⟩:=Option.isSome_iff_exists.mp c.cl;refine Bool.eq_false_iff.mpr λq=>?_;have e:C=i:=Value.ref.inj (bF.mp q);subst e;unfold clsIn at a;split at a
  .rename_i o l g b f;have z:=(X _ _ f).symm.trans d;cases z
  .cases a
 ca:=λX ⟨_,_,I⟩ k=>QU X c I k
end
def c5.L8{K:Frag}{r:List (fJ×fJ)}(h:c5 K H (.dict ((.bool true,.str c)::r)) v):∃p C,v=.ref p/\iq K c C/\Sw H p C c ((.bool true,.str c)::r):=by
 obtain⟨p,j,⟨k,b,a⟩ | ⟨f,C,m,l,b,a,i⟩ | ⟨f,C,b,a⟩⟩:=c5.jN.mp h
 .obtain⟨y,_,_,_,e,_⟩:=gi.dt.mp a;cases y<;>cases e
 .obtain⟨g,_⟩:=nY.dt.mp i;cases g
 .obtain rfl:f=c:=by
   rcases a with ⟨z,_⟩ | ⟨n,d,z,_⟩<;>· injection z with z _;injection z with _ z;injection z with z;exact z.symm
  exact{(p),C,j,b,a}
def Sw.inst{P:Program}{p:Addr}(k:nS P w H h)(x:Sw H p C c iV):∃a q,InstAt h p a C q:=by
 rcases x with ⟨_,b⟩ | ⟨n,d,_,b,f⟩
 .obtain⟨⟨a,l,j,i,g,e⟩,_⟩:=k p _ b;refine{a,Z,j,i,?_,?_}
  .unfold notCls;rw[e]
  .rw[g];trivial
 .obtain⟨⟨a,l,j,i,g,e⟩,_⟩:=k p _ b;sleep 1;obtain⟨⟨t,o,r,s,m,_⟩,_⟩:=k d _ f;sleep 2;refine{a,Y o,j,i,?_,?_}
  .unfold notCls;rw[e]
  .rw[g];exact m
section
variable {pt:Pos}
def CT(l:List (Str×Bool))(d:fJ):Od:=match d with
 |.dict ((.bool true,.str c)::_)=>(l.lookup c).map .bool
 |_=>Z
def E4(l:List (Str×Bool))(f:a0->Od):a0->Od:=λa=>(f a).bind (CT l)
def qO(K:Frag)(t:Value)(l:List (Str×Bool)):Prop:=∀q∈l,∃C,iq K q.1 C/\Yb K C/\kitOne K (.ref C) t=Y q.2
def CU{tv:V}{t:Value}(o:∀u,fT tv u->u=t)(a:qO X.K t l):jb X (.builtin "isinstance") (λxs H Q=>∃d v b,xs=[v,tv]/\c5 X.K H d v/\CT l d=Y (.bool b)/\Q (.bl b) H):=by
 intro i s E H xs F Q I r h;sleep 1;obtain⟨d,v,b,rfl,y,e,q⟩:=h;sleep 2;sleep 1;obtain⟨u,k,rfl,n,f⟩:=W7 r;sleep 2;obtain rfl:=o k f;unfold CT at e;split at e
 .rename_i c G;obtain⟨L,D,B⟩:=ak.mp e;cases B;sleep 1;obtain⟨J,C,rfl,A,x⟩:=y.L8;sleep 2;cases n;have p:(c,b)∈l:=mem_of_lookup D;obtain⟨M,g,j,w⟩:=a _ p;obtain rfl:=A.uniq g;exact W.kia_one (L7 j) I.og (x.inst I.gR) w (λz=>nomatch z) λm=>{.bl b,H,I.tok m,rfl,q}
 .cases e
def CV{Q:VK}{tv:V}(h:tD X.K (E4 l f) σ H Q):Ze (λxs H Q=>∃d v b,xs=[v,tv]/\c5 X.K H d v/\CT l d=Y (.bool b)/\Q (.bl b) H) (vR (tD X.K f) (vR (λ_ H Q=>Q tv H) BY)) σ H Q:=by
 sleep 1;obtain⟨c,d,j,e,k⟩:=h;sleep 2;obtain⟨x,m,a⟩:=bind_some e;refine{c,x,j,m,λv n g i=>?_};obtain⟨b,rfl⟩:∃b,d=.bool b:=by
  unfold CT at a;split at a
  .obtain⟨b,_,z⟩:=ak.mp a;exact{b,z.symm}
  .cases a
 exact{x,v,b,rfl,i,a,(k.later g).here (c5.ej.mpr rfl)}
def wG{D:Addr} (n:PD X e f) (m:Gl X "isinstance") (k:X.mg "isinstance"=Z) (g:Gl X x) (d:X.mg x=Y (.ref D)) (a:qO X.K (.ref D) l) (i:zd0 (zg x))
  (j:zr0 (starEach [e,.Name x pt] X.env=(false,eval e X.env)::starEach [.Name x pt] X.env)) (b:zr0 (starEach [.Name x pt] X.env=(false,eval (.Name x pt) X.env)::starEach [] X.env)) (c:zr0 ((backTo pos (starEach [.Name x pt] X.env)).any (·.1)=false)):
  PD X (.Call (.Name "isinstance" p) [e,.Name x pt] [] pos) (E4 l f) :=
 PE.imp (vT (CU (tv:=.ref D) (λu z=>z) a) m k (by rfl) (jh n (jh (λpins s σ H Q I q=>kf I g d {.ref D,H,I,rfl,q} i) mx b) j) (by decide) (by decide) j c) λσ H Q h=>CV h
def VB{T:String} (q:PD X e f) (o:Gl X "isinstance") (n:X.mg "isinstance"=Z) (g:Gl X x) (d:X.mg x=Z) (k:bootBuiltins x=Y (.type T)) (a:qO X.K (.type T) l) (m:zd0 (x≠"__name__")) (i:zd0 (zg x))
  (j:zr0 (starEach [e,.Name x pt] X.env=(false,eval e X.env)::starEach [.Name x pt] X.env)) (b:zr0 (starEach [.Name x pt] X.env=(false,eval (.Name x pt) X.env)::starEach [] X.env)) (c:zr0 ((backTo pos (starEach [.Name x pt] X.env)).any (·.1)=false)):
  PD X (.Call (.Name "isinstance" p) [e,.Name x pt] [] pos) (E4 l f) :=
 PE.imp (vT (CU (tv:=.ty T) (λu z=>z) a) o n (by rfl) (jh q (jh (OU g d k (v:=.ty T) rfl m i) mx b) j) (by decide) (by decide) j c) λr H Q h=>CV h
def VC(c:Str)(d:fJ):Od:=match d with
 |.dict [(.bool true,.str a),(.str k,.int n)]=>if a=c/\k="line" then Y (.int n) else Z
 |_=>Z
def L9(c:Str)(f:a0->Od):a0->Od:=λa=>(f a).bind (VC c)
def GU(U:PD X e f)(V:iq X.K c C)(B:LO X.K C)(T:findIn X.K (.ref C) "line"=Y Z)(r:zr0 (attributeBase e "line" X.env (eval e X.env)=eval e X.env)):PD X (.Attribute e "line" pos) (L9 c f):=by
 intro m s x H Q I h;sleep 1;obtain⟨A,d,S,e1,k⟩:=h;sleep 2;obtain⟨y,W,g⟩:=bind_some e1;refine Gh r ?_;refine bq (@U m s x H (λv H'=>dn H H'/\c5 X.K H' y v) I {A,y,S,W,λv H' w i=>{(w),i}}) (?_) λ_ _ z=>z;rintro u w ⟨v,H1,o,E,D,R⟩;obtain⟨n,rfl,rfl⟩:∃n,y=.dict [(.bool true,.str c),(.str "line",.int n)]/\d=.int n:=by
  have j:∀{z:Od},z=Y d->z=Z->∃n,y=.dict [(.bool true,.str c),(.str "line",.int n)]/\d=.int n:=λh q=>absurd (q.symm.trans h) nofun;cases y with
  |dict l=>
   rcases l with _ | ⟨⟨a,b⟩,l⟩
   .exact j g rfl
   cases a with
   |bool t=>
    cases t
    .exact j g rfl
    cases b with
    |str c'=>
     rcases l with _ | ⟨⟨a,b⟩,l⟩
     .exact j g rfl
     cases a with
     |str k=>
      cases b with
      |int n=>
       cases l
       .replace g:(if c'=c/\k="line" then Y (fJ.int n) else Z)=Y d:=g
        split at g
        .rename_i q;cases g;obtain⟨rfl,rfl⟩:=q;exact{_,rfl,rfl}
        .cases g
       .exact j g rfl
      |_=>exact j g rfl
     |_=>exact j g rfl
    |_=>exact j g rfl
   |_=>exact j g rfl
  |_=>exact j g rfl
 obtain⟨O,C',rfl,p,⟨z,_⟩ | ⟨n',d,z,N,M⟩⟩:=R.L8
 .cases z
 .cases z;obtain rfl:=V.uniq p;cases E;sleep 1;obtain⟨⟨oe,vs,L,J,G,F⟩,_⟩:=o.gR O _ N;sleep 2;obtain⟨⟨t,P⟩,_⟩:=o.gR d _ M;exact Vu o.og B T L J G F P (v:=.int n t) (ah rfl) rfl {.int n,H1,o.tok _,{(t),rfl},(k.later D).here (c5.ee.mpr rfl)}
end
structure Yc (k:Nat) (A:Around):Prop where
 dp:A.depth+3*k+5<recursionLimit
 un:A.units+16*k+200<cLine
def Zr(P:Program)(w:World)(K:Frag)(e:Str->Ow)(d:Heap)(N:Lr)(c:Str)(a:Scope)(f:Addr)(g:Value)(A:Around)(b:List Env)(s:Shared)(H:Hp):Cx :=
 { q8 vd P w K e d N c a f g A b s H (λ_ _ _=>False) with calm:=false,xe:=λ_ _=>False }
structure FnC (P:Program) (w:World) (K:Frag) (mg:Str->Ow) (base:Heap) (k:Nat) (f:Addr) (fd:FuncData) (ps:Lr) (sp:Sp):Prop where
 len:∀vs H Q E,sp vs H Q E->vs.length=ps.length
 run:∀(A:Around) (outer:List Env) (s:Shared) (H:Hp) (args:Args) (us:Lw) (vs:List V) (Q:VK) (E:XK),Yc k A->vS P w K mg base A outer s H->BindsTo s fd args (ps.zip us)->fK vs us->sp vs H Q E ->
  codeAny (model P w) A (.call (.ref f) args) (CR vd outer P w H s Q E) s
section
variable {P:Program}{K:Frag}{qual:Str}{fa:Addr}{N:Lr}{k:Nat}
theorem J'(F:BR K x qual st fa fd) (S:gU N ps (bC st)) (T:n=ps.length)
  (m:∀(l4:Value) (A:Around) (outer:List Env) (s:Shared) (H:Hp),(A.deeper (envOfC qual (bC st) (zB s) fa l4)).units+64<cLine->k9 (Zr P w K mg base N qual (bC st) fa l4 A outer s H) .dat [] (gK st) g):FnC P w K mg base (k+1) fa fd ps (OK K n (gL N g)):=by
 sleep 1;obtain⟨oc,od,kV,doc,pm,an,l4,ct,b_,rfl,lk,L⟩:=F.ex;sleep 2;refine{by rintro B H Q E ⟨X,d,i,l,_⟩;rw[<-i.length,l,T],?_};rintro A outer s H args us B Q E R c hb r ⟨X,d,i,l,e,O⟩;have hl:B.length=ps.length:=by rw[<-i.length,l,T]
 have KX:K.In s.heap:=c.mod.JG.keeps λb o e=>(c.bs b o e).1;have G:s.heap.NoLimit:=c.mod.nolimit.keeps λb o e=>(c.bs b o e).1;have j:∀y∈ps.zip us,(bC st).names.lookup y.1=Y .local\/((bC st).names.lookup y.1=Y .cell/\((cellsFrom ((zB s)+1) (bC st).names []).lookup y.1).isSome=true):=by
  rintro⟨n,v⟩ hy;rcases S.par n (dZ hy).1 with q|q
  .exact .inl q
  .exact .inr {q,W.cellsFrom_some _ _ _ (.inl q)}
 refine codeAny_call_function (by have:=R.dp;omega) (KX _ _ lk) rfl S.co S.gen rfl (W.codeRec_of KX L) (hb _ _ _ _ ?_);refine wpAny_newFunctionEnv_cells S.kind j λenv he M x=>?_;subst he;refine{G.keeps x.toInCall.keep,codeAny_func ?_};have a:=tq (CX:=vd) (E:=λ_ _ _=>False) (A:={ A with handled:=Z }) S rfl {c.frames,c.mod,c.bs,c.HY,c.nC,c.BQ,c.gR,c.bare} hl r x;have I:c6 (Zr P w K mg base N qual (bC st) fa l4 A outer s H) [] (kA N B) H M :=
  {{a.ok.mod,a.ok.kind,a.ok.glob,a.ok.blt,a.ok.above,a.ok.inj,a.ok.has,a.ok.Si,(λz=>nomatch z),Around.frames_deeper c.frames,a.ok.Sj,a.ok.Jx,a.ok.bs,a.ok.HY,a.ok.BU,a.ok.x5,a.ok.nC,a.ok.BQ},a.os,a.bare,a.base,a.loc,a.cell,a.free,a.j5,a.pin,a.gR,a.len}
 obtain⟨o,e1,C⟩:=bind_some e;have U:=kr (N:=N) i;have t:∀{h:St}{f:Hp}{v:V}{u:Value}{p:Shared},c6 (Zr P w K mg base N qual (bC st) fa l4 A outer s H) [] h f p->fT v u->Q v f->CE outer P w H s Q u p:=λJ D q=>{_,_,J.os,J.bare,J.base,J.gR,D,q}
 refine bq (@m l4 A outer s H (by have:=R.un;show A.units+3+64<_;omega) [] M (kA N B) H { nx:=λ_ f=>Q .kn f,rt:=Q } I {gm N X,o,H,{{U.1,{[],rfl,jd.nil,rfl},λi d q _=>U.2 i d q},λdp v0 z=>nomatch z},e1,?_}) (λfl p hs=>?_) λ_ _ z=>z.elim
 .cases o with
  |rt d'=>cases C;exact O
  |nx ρ'=>cases C;exact λσ f G' p h'=>O .kn f (p.trans h'.o.sub) (c5.iz.mpr rfl)
  |bk _=>cases C
  |ct _=>cases C
 .cases fl with
  |ret u=>sleep 1;obtain⟨v,h,f,J,D,q⟩:=hs;sleep 2;exact t J D q
  |next=>obtain⟨h,f,J,q⟩:=hs;exact t (v:=V.kn) (u:=Value.none) J rfl q
  |brk=>obtain⟨_,_,_,q⟩:=hs;exact False.elim q
  |cont=>obtain⟨_,_,_,q⟩:=hs;exact False.elim q
end
structure Ma (P:Program) (w:World) (K:Frag) (mg:Str->Ow) (base:Heap) (x:Str) (k n:Nat) (f:Lp->Od):Prop where
 ex:∃a fd ps,FnC P w K mg base k a fd ps (OK K n f)/\mg x=Y (.ref a)/\keepIn K (.ref a)=true/\jc K fd ps []
section
variable {f:Lp->Od}{jj k:Nat}{ea:Addr}
theorem CW(F:Ma X.prog X.w X.K X.mg X.base x jj n f) (C:hG k X.A) (T:Gl X x) (ha:ux (X.susp ea) (e::es) ff) (D:zd0 (jj<=k)) (B:zd0 (zg x))
  (U:zr0 (zE e es X)) (t:zr0 ((backTo pos (starEach es X.env)).any (·.1)=false)):PD (X.susp ea) (.Call (.Name x p) (e::es) [] pos) (ji n f ff):=by
 sleep 1;obtain⟨a,fd,M,F,R,S,V⟩:=F.ex;sleep 2;intro b s G H Q I h;sleep 1;obtain⟨J,d,P,e1,N⟩:=h;sleep 2;obtain⟨m,e2,l⟩:=bind_some e1;by_cases z:m.length=n
 .rw[ah z] at l;refine br (kf I T R ?_ B);refine W.callWith_K (h₀:=X.base) I.ok.mod.JG S (gY (@ha pos b s G H (λvs H'=>dn H H'/\bz X.K H' m vs) I {J,m,P,e2,λvs H' j i=>{(j),i}}) ?_) U t;rintro g j ⟨vs,E,o,r,L,O⟩;refine{o.og,?_};have q:OK X.K n f vs E Q (λ_ _ _=>False):={m,d,O,z,l,N.later L}
  have y:g.length=M.length:=by rw[<-r.length];exact F.len _ _ _ _ q
  refine wpAny_call (b8 (F.run (X.susp ea).A X.stack j E {g,[]} g vs Q (λ_ _ _=>False) {(C.mono D).dp,(C.mono D).un} o.Ii (by have:=V j g o.og (by rw[aG];exact y);rw[aG] at this;exact this) r q) λr s' c=>?_);cases r with
  |error v=>exact c.elim
  |ok fl=>
   cases fl with
   |ret u=>exact o.after c
   |next=>exact False.elim c
   |brk=>exact False.elim c
   |cont=>exact False.elim c
 .rw[aq z] at l;cases l
end
end L2
namespace L2
open PySem PySem.Spec PyProof.Rows PySem.W
def GV:Lw->Bool
 |.ref _::r=>GV r
 |l=>l==LR
theorem sg(b:Value):∀{l:Lw},GV l=true->refuseLoop b "__setattr__" l=pure ()
 |[],h=>by cases h
 |.ref a::r,h=>by rw[refuseLoop_ref];exact sg b (l:=r) h
 |.none::r,h=>by cases h
 |.bool _::r,h=>by cases h
 |.int _ _::r,h=>by cases h
 |.float _ _::r,h=>by cases h
 |.str _ _::r,h=>by cases h
 |.builtin _::r,h=>by cases h
 |.type a::r,h=>by rw[bF.mp (show ((.type a::r:Lw)==LR)=true from h)];exact PySem.F.store_ValueError.passes b
 |.bytes _ _::r,h=>by cases h
 |.notImplemented::r,h=>by cases h
 |.ellipsis::r,h=>by cases h
theorem y9:∀{l:Lw},GV l=true->l.contains (.type "object")=true
 |[],h=>by cases h
 |.ref a::r,h=>by rw[List.contains_cons,y9 (l:=r) h,Bool.or_true]
 |.none::r,h=>by cases h
 |.bool _::r,h=>by cases h
 |.int _ _::r,h=>by cases h
 |.float _ _::r,h=>by cases h
 |.str _ _::r,h=>by cases h
 |.builtin _::r,h=>by cases h
 |.type a::r,h=>by rw[bF.mp (show ((.type a::r:Lw)==LR)=true from h)];decide +kernel
 |.bytes _ _::r,h=>by cases h
 |.notImplemented::r,h=>by cases h
 |.ellipsis::r,h=>by cases h
def xcd(K:Frag)(C:Addr):Bool:=(clsIn K C).any λa=>a.hasDict&&GV a.mro
def XSt(q:Str)(b:Stmt):Prop:=∃(a:Str) (j:Nat) (p1 p2 p3 p4 p5 p6 p7 p8 p9 q1 q2 q3 q4:Pos),gU ["self","line"] ["self","line"] (bC b)/\gK b=GP a j p1 p2 p3 p4 p5 p6 p7 p8 p9 q1 q2 q3 q4/\IP "__init__" q b ["self","line"] /\
 (bC b).names.lookup ("PointError":Str)=Y .globalImplicit/\(bC b).names.lookup ("self":Str)=Y .local/\(bC b).names.lookup ("line":Str)=Y .local/\a.length<=1000/\QL a j p1 p2 p3 p4 p5 p6 p7 p8
def GW(K:Frag)(a:Str->Ow)(c q:Str)(e:Stmt):Prop:=∃C,a c=Y (.ref C)/\∃d b f,a "PointError"=Y (.ref d)/\IS K C d b/\BR K "__init__" q e b f
section
variable {K:Frag}{q:Str}{PE f:Addr}{od an:Option Addr}{sl:Array Ow}{oc kV dc pm cd ct:Value}
def excAt(X:K.In h) (G:h.Ns mainGlobals mg) (a:nsIn K mainGlobals c=Y (Y (.ref C))) (p:nsIn K mainGlobals "PointError"=Y (Y (.ref PE))) (n:findIn K (.ref C) "__init__"=Y (Y (.ref f))) (z:AR K C LR "ValueError.__new__" f=true) (y:isFn K (.ref f)=true) (v:keepIn K (.ref C)=true)
  (o:findIn K (.ref C) "__setattr__"=Y (Y (.builtin "object.__setattr__"))) (m:xcd K C=true) (x:findIn K (.ref C) "__getattribute__"=Y (Y (.builtin "BaseException.__getattribute__"))) (w:findIn K (.ref C) "__getattr__"=Y Z) (i:subIn K (.ref C) (.type "BaseException")=Y true)
  (u:findIn K (.ref C) "line"=Y Z) (s:readsIn K PE (.type "type")=true) (t:findCls K (.ref PE) (.type "type") "__init__"=Y (.val (.builtin "ValueError.__init__"))) (r:specialIn K (.ref PE) "__getattribute__"=Y (Y (.builtin "type.__getattribute__")))
  (l:K.lookup f=Y {oc,od,.func (fnOf "__init__" q (ma st) (gK st) (bC st) .none kV dc pm an cd ct),sl}) (e:codeIn K cd q=true) (k:keepIn K (.ref f)=true):GW K mg c q st:=by
 obtain⟨g,j,b⟩:=any_some m;have b:=Bool.and_eq_true_iff.mp b;exact{C,mg_of X G a,PE,f,_,mg_of X G p,{z,y,v,{o,g,j,b.1,y9 b.2,λd=>sg d b.2},{x,w,i,g,j,b.1},u,s,t,r},Ai l e k}
def K'(E:GW K mg c q st)(S:XSt q st)(b:mg c=Y (.ref C)):Z_ K mg c C:=by
 sleep 1;obtain⟨D,a,PE,A,y,p,k,F⟩:=E;sleep 2;obtain rfl:D=C:=by rw[a] at b;injection b with z;injection z
 sleep 1;obtain⟨B,j,x,w,v,u,t,s,r,o,n,m,l,i,h,g,f,e,d⟩:=S;sleep 2;exact{a,PE,A,y,q,st,B,j,x,w,v,u,t,s,r,o,n,m,l,i,h,p,k,F,g,f,e.to F,d}
def QV(E:GW K mg c q st)(b:mg c=Y (.ref C)):LO K C/\findIn K (.ref C) "line"=Y Z:=by
 sleep 1;obtain⟨d,a,PE,f,e,p,k,F⟩:=E;sleep 2;obtain rfl:d=C:=by rw[a] at b;injection b with z;injection z
 exact{k.xg,k.ln}
end
structure QW (K:Frag) (mg:Str->Ow) (C R D A1 A2 A3:Addr):Prop where
 cl:iq K "NoProgram" C/\iq K "NoRow" R
 mC:mg "NoProgram"=Y (.ref C)
 mD:mg "PointError"=Y (.ref D)
 m1:mg "TooGreat"=Y (.ref A1)
 m2:mg "NoFact"=Y (.ref A2)
 m3:mg "NoChange"=Y (.ref A3)
 r0:Vy K mg "NoRow" R
 kC:E1 K C
 kD:E1 K D
 sub:subIn K (.ref C) (.ref C)=Y true/\subIn K (.ref R) (.ref C)=Y false/\subIn K (.ref R) (.ref D)=Y true
 t1:qO K (.ref A1) [("NoProgram",false),("NoRow",false)]
 t2:qO K (.ref A2) [("NoProgram",false),("NoRow",false)]
 t3:qO K (.ref A3) [("NoProgram",false),("NoRow",false)]
 tR:qO K (.ref R) [("NoProgram",false),("NoRow",true)]
 tC:qO K (.ref C) [("NoProgram",true),("NoRow",false)]
 tV:qO K (.type "ValueError") [("NoProgram",true),("NoRow",true)]
def GX(K:Frag)(a:Str->Ow):Prop:=∃q:Addr×Addr×Addr×Addr×Addr×Addr,QW K a q.1 q.2.1 q.2.2.1 q.2.2.2.1 q.2.2.2.2.1 q.2.2.2.2.2
def JA{K:Frag}(E:GX K mg):Addr×Addr×Addr×Addr×Addr×Addr:=Classical.choose E
def mF{K:Frag}(E:GX K mg):QW K mg (JA E).1 (JA E).2.1 (JA E).2.2.1 (JA E).2.2.2.1 (JA E).2.2.2.2.1 (JA E).2.2.2.2.2:=Classical.choose_spec E
section
variable {K:Frag}{R D A1 A2 A3:Addr}
def Yd(X:K.In h) (G:h.Ns mainGlobals mg) (d:nsIn K mainGlobals "NoProgram"=Y (Y (.ref C))) (c:nsIn K mainGlobals "NoRow"=Y (Y (.ref R))) (F:nsIn K mainGlobals "PointError"=Y (Y (.ref D))) (J:nsIn K mainGlobals "TooGreat"=Y (Y (.ref A1))) (I:nsIn K mainGlobals "NoFact"=Y (Y (.ref A2))) (H:nsIn K mainGlobals "NoChange"=Y (Y (.ref A3)))
  (z:QM K R LR "ValueError.__new__"=true) (N:keepIn K (.ref R)=true)
  (l:typeIn K (.ref C)=Y (.type "type")) (k:typeIn K (.ref D)=Y (.type "type")) (i:(clsIn K C).isSome=true) (M:(clsIn K D).isSome=true) (L:(clsIn K R).isSome=true)
  (j:subIn K (.ref C) (.type "BaseException")=Y true) (bD:subIn K (.ref D) (.type "BaseException")=Y true) (bR:subIn K (.ref R) (.type "BaseException")=Y true)
  (r:subIn K (.ref C) (.ref C)=Y true) (p:subIn K (.ref R) (.ref C)=Y false) (o:subIn K (.ref R) (.ref D)=Y true)
  (S:findIn K (.ref C) "__getattribute__"=Y (Y (.builtin "BaseException.__getattribute__"))) (Q:findIn K (.ref R) "__getattribute__"=Y (Y (.builtin "BaseException.__getattribute__"))) (P:findIn K (.ref C) "__getattr__"=Y Z) (O:findIn K (.ref R) "__getattr__"=Y Z)
  (aC:findIn K (.ref C) "__class__"=Y (Y (.builtin "object.__class__"))) (aR:findIn K (.ref R) "__class__"=Y (Y (.builtin "object.__class__"))) (g:specialIn K (.builtin "object.__class__") "__get__"=Y (Y (.builtin "getset_descriptor.__get__"))) (f:takesIn K (.builtin "object.__class__")=Y true)
  (E:mroIn K C (.type "object")=Y true) (B:mroIn K R (.type "object")=Y true)
  (c1:kitOne K (.ref C) (.ref A1)=Y false) (y:kitOne K (.ref R) (.ref A1)=Y false) (c2:kitOne K (.ref C) (.ref A2)=Y false) (x:kitOne K (.ref R) (.ref A2)=Y false) (W:kitOne K (.ref C) (.ref A3)=Y false) (w:kitOne K (.ref R) (.ref A3)=Y false)
  (V:kitOne K (.ref C) (.ref R)=Y false) (v:kitOne K (.ref R) (.ref R)=Y true) (U:kitOne K (.ref C) (.ref C)=Y true) (u:kitOne K (.ref R) (.ref C)=Y false) (T:kitOne K (.ref C) (.type "ValueError")=Y true) (s:kitOne K (.ref R) (.type "ValueError")=Y true):GX K mg:=by
 have n:Yb K C:={(S),P,j,i,aC,g,f,E}
 have m:Yb K R:={(Q),O,bR,L,aR,g,f,B}
 have a:∀(t:Value) (b e:Bool),kitOne K (.ref C) t=Y b->kitOne K (.ref R) t=Y e->qO K t [("NoProgram",b),("NoRow",e)]:=λt b e q A=>bO.mpr {{(C),d,n,q},bO.mpr {{(R),c,m,A},List.forall_mem_nil _}};exact{(C,R,D,A1,A2,A3),{(d),c},mg_of X G d,mg_of X G F,mg_of X G J,mg_of X G I,mg_of X G H,{mg_of X G c,z,N},{(l),i,j},{(k),M,bD},{(r),p,o},a _ _ _ c1 y,a _ _ _ c2 x,a _ _ _ W w,a _ _ _ V v,a _ _ _ U u,a _ _ _ T s}
end
def yj.hit{e c D:Addr}{h:a0->Option Out}{n:Str}{b:Pos}{a:List Stmt}{r:List (Str×Pos×List Stmt×Pos)}(g:Gl X n)(f:X.mg n=Y (.ref D))(k:E1 X.K D)(s:subIn X.K (.ref c) (.ref D)=Y true)(hs:k9 (X.susp e) m O a h)(d:zr 11 (a≠[]))(i:zd0 (zg n)):yj X e c m O h ((n,b,a,pos)::r) :=
 {D,true,{(g),f,i},k,s,d,hs}
def yj.miss{e c D:Addr}{h:a0->Option Out}{n:Str}{b:Pos}{a:List Stmt}{r:List (Str×Pos×List Stmt×Pos)}(f:Gl X n)(d:X.mg n=Y (.ref D))(k:E1 X.K D)(s:subIn X.K (.ref c) (.ref D)=Y false)(t:yj X e c m O h r)(g:zd0 (zg n)):yj X e c m O h ((n,b,a,pos)::r) :=
 {D,false,{(f),d,g},k,s,t}
section
variable {R D:Addr}{A1 A2 A3:Addr}{fn:Str}{ok:Lp->Bool}{f:Lp->Od}{sf p1 np np2 Zs ps2:Pos}{k jj:Nat}{h1 h2:a0->Option Out}{SQ Zt:List Stmt}
def Mb(j:Nat) (T:QW X.K X.mg C R D A1 A2 A3) (F:yi X.prog X.w X.K X.mg X.base C R fn jj n f) (v:hG k X.A) (E:X.N.Nodup) (h:Gl X fn) (i:Gl X "NoProgram") (B:ux X (e::es) ff) (r:∀ea,k9 (X.susp ea) m O SQ h1)
  (s:zr 11 (SQ≠[])) (x:zd0 (jj<=k)) (u:zd0 (j∉O)) (d:zr0 (X.xe=λ_ _=>False)) (g:zr0 (X.N[j]?=Y y)) (t:zr0 (X.env.scope.names.lookup y=Y .local)) (a:zr0 (X.stack=X.env::X.outer)) (l:zr0 (X.env.frame=Y X.env.locals)) (o:zr0 (X.ex=[]))
  (b:zr0 (swapsWith (.Call (.Name fn p) (e::es) [] fQ) Z sf.line X.env=pure false)) (q:zd0 (zg fn)) (z:zr0 (zE e es X)) (c:zr0 ((backTo fQ (starEach es X.env)).any (·.1)=false)):
  me X m O (.Try [.Expr (.Call (.Name fn p) (e::es) [] fQ) sf] [.ExceptHandler (Y (.Name "NoProgram" np)) (Y y) SQ Zs] [] [] pos) (uI n f ff j "NoProgram" "NoRow" h1 λ_=>Z) :=
 L5 (q0:=("NoProgram",np,SQ,Zs)) (hs:=[]) j F v E h B T.cl.1 T.cl.2 (λea=>yj.hit i T.mC T.kC T.sub.1 (r ea) s) (.inl λ_=>rfl) x u d g t a l o b q z c
def Mc(i j:Nat) (T:QW X.K X.mg C R D A1 A2 A3) (F:wF X.prog X.w X.K X.mg X.base C R fn ok jj n f) (J:hG k X.A) (Q:X.N.Nodup) (q:Gl X fn) (a:Gl X "NoProgram") (r:Gl X "PointError") (P:ux X (e::es) ff) (z:∀ea,k9 (X.susp ea) m O SQ h1) (v:∀ea,k9 (X.susp ea) m O Zt h2)
  (B:zr 11 (SQ≠[])) (b:zr 11 (Zt≠[])) (L:zd0 (jj<=k)) (I:zd0 (i∉O)) (H:zd0 (j∉O)) (h:zr0 (X.xe=λ_ _=>False)) (o:zr0 (X.N[i]?=Y x)) (G:zr0 (X.env.scope.names.lookup x=Y .local)) (l:zr0 (X.N[j]?=Y y)) (E:zr0 (X.env.scope.names.lookup y=Y .local)) (c:zr0 (X.stack=X.env::X.outer)) (s:zr0 (X.env.frame=Y X.env.locals)) (t:zr0 (X.ex=[]))
  (d:zr0 (swapsWith (.Call (.Name fn p) (e::es) [] fQ) (Y (.Name x p1)) sf.line X.env=pure false)) (u:zd0 (zg fn)) (M:zr0 (zE e es X)) (g:zr0 ((backTo fQ (starEach es X.env)).any (·.1)=false)):
  me X m O (.Try [.Assign [.Name x p1] (.Call (.Name fn p) (e::es) [] fQ) sf] [.ExceptHandler (Y (.Name "NoProgram" np)) (Y y) SQ Zs,.ExceptHandler (Y (.Name "PointError" np2)) (Y y) Zt ps2] [] [] pos) (qN ok n f ff i j "NoProgram" "NoRow" h1 h2) :=
 L6 (q0:=("NoProgram",np,SQ,Zs)) (hs:=[("PointError",np2,Zt,ps2)]) i j F J Q q P T.cl.1 T.cl.2 (λea=>yj.hit a T.mC T.kC T.sub.1 (z ea) B) (.inr λea=>yj.miss a T.mC T.kC T.sub.2.1 (yj.hit r T.mD T.kD T.sub.2.2 (v ea) b)) L I H h o G l E c s t d u M g
end
section
variable {P:Program}{K:Frag}{N:Lr}{k:Nat}{R:Addr}
abbrev SR(P:Program)(w:World)(K:Frag)(f:Str->Option Value)(c:Heap)(C R:Addr)(q:Str)(d:Stmt)(N:List Str)(k:Nat)(h:(Int->Hp->Prop)->Md)(O:List Nat)(g:a0->Option Out):Prop :=
 ∀{e:Addr}{b:Value}{A:Around}{a:List Env}{s:Shared}{H:Hp}{E:XK},hG k (A.deeper (envOfC q (bC d) (zB s) e b))->(A.deeper (envOfC q (bC d) (zB s) e b)).units+64<cLine->N.Nodup->O.Nodup ->
  k9 (q8 (vk P w C R) P w K f c N q (bC d) e b A a s H E) (h λn H'=>E (.int n 0) Z H') O (gK d) g
theorem VD(O:List Nat) (F:gX K mg x st) (f:SR P w K mg base C R x st N k .exc O g) (S:zr 4 (gU N (N.take n) (bC st))) (e:zr0 (n=(N.take n).length)) (h:zd0 (∀i∈O,n<=i)) (c:zd0 (O.Nodup))
  (o:zr 5 (IP x x st (N.take n))):yi P w K mg base C R x (k+1) n (gL N g):=by
 obtain⟨a,l,j,F⟩:=F;exact{a,l,N.take n,QS F S e h λm A b s H E d=>f d d.units S.nd c,j,F.kp,o.to F}
theorem Me(O:List Nat) (F:gX K mg x st) (f:SR P w K mg base C R x st N k .Jx O g) (S:zr 4 (gU N (N.take n) (bC st))) (e:zr0 (n=(N.take n).length)) (h:zd0 (∀i∈O,n<=i)) (c:zd0 (O.Nodup))
  (o:zr 5 (IP x x st (N.take n))):wF P w K mg base C R x (λ_=>true) (k+1) n (gL N g):=by
 obtain⟨a,l,j,F⟩:=F;exact{a,l,N.take n,L4 F S e h λm A b s H E d=>f d d.units S.nd c,j,F.kp,o.to F}
theorem VE(F:gX K mg x st) (d:∀{fa:Addr}{l4:Value}{A:Around}{outer:List Env}{s:Shared}{H:Hp},(A.deeper (envOfC x (bC st) (zB s) fa l4)).units+64<cLine->N.Nodup->k9 (Zr P w K mg base N x (bC st) fa l4 A outer s H) .dat [] (gK st) g) (S:zr 4 (gU N (N.take n) (bC st))) (c:zr0 (n=(N.take n).length))
  (h:zr 5 (IP x x st (N.take n))):Ma P w K mg base x (k+1) n (gL N g):=by
 obtain⟨a,f,e,F⟩:=F;exact{a,f,N.take n,J' F S c λl4 A outer s H b=>d b S.nd,e,F.kp,h.to F}
end
end L2
namespace L2
open PySem PySem.Spec PyProof.Rows
section
variable {a c:Expr}
def E5(k v:fJ):Od:=(qC k).bind λ_=>Y (.dict [(k,v)])
def Mf(B:PD X a fa)(z:PD X b fb):PD X (.Dict [Y a] [b] pos) (d2 E5 fa fb) :=
 PE.imp (Pk (Kh (PE.frame B) (PE.frame z) Pj) rfl rfl (by simp) (by simp)) <| by
  rintro K H Q ⟨m,d,r,e,k⟩;obtain⟨x,I,e⟩:=bind_some e;obtain⟨y,G,e⟩:=bind_some e;obtain⟨f,F,E⟩:=bind_some e;have:=iG F;subst this;cases E;intro p A;have C:jd H [(p,HO.dK [])]:={by simp,(λx q=>by simp at q;subst q;exact A),.one aZ .nil}
  refine{H,[(p,HO.dK [])],rfl,C,m,_,r,I,λv J o w l=>{J,[(p,HO.dK [])],rfl,l,m,y,r.same o,G,λu g s t j=>?_}};have i:g p=Z:=j.free (p,.dK []) (by simp);refine{da,[(f,u)],by rw[jv w];rfl,by simp,?_};rw[show tu [] [(f,u)]=[(f,u)] from rfl];have D:upd (c7 g [(p,HO.dK [])]) p (.dK [(f,u)])=upd g p (.dK [(f,u)]):=by
   funext c
   by_cases h:c=p
   .subst h;rw[da,da]
   .rw[cp h,cp h];exact cp h
  rw[D];have n:dn g (upd g p (.dK [(f,u)])):=iX i;exact k _ _ (o.trans (s.trans n)) (c5.jN.mpr {p,rfl,.inl {_,.inl da,gi.dt.mpr {f,u,[],rfl,rfl,t.same n,gi.eB.mpr rfl}}})
def wH(g b:fJ->fJ->Od)(e d c:a0->Od):a0->Od:=λa=>(lS g b e d c a).map .bool
def Mg{n f:CmpOp}{g D:fJ->fJ->Od} (M:rf X (compareOp n) g) (q:rf X (compareOp f) D) (R:PD X a fa) (P:PD X b fb) (O:PD X c fc)
  (N:zr 7 (lastMarks [n,f] [b,c]=false)):PD X (.Compare a [n,f] [b,c] pos) (wH g D fa fb fc) :=
 PE.imp (JV M q R P O N) <| by
  rintro σ H Q ⟨m,d,p,e,k⟩;obtain⟨b,E,rfl⟩:=ak.mp e;obtain⟨x,e1,B⟩:=bind_some E;obtain⟨y,e2,A⟩:=bind_some B;obtain⟨r,W,t⟩:=bind_some A;obtain⟨o,V,l⟩:=bind_some t;have:=qm V;subst this;clear e E B A t;refine{m,x,p,e1,λv H1 j L=>{m,y,p.same j,e2,λu H2 i C=>{x,y,.bool o,L.same i,C,W,λw H3 h K=>{o,c5.ej.mp K,?_}}}};cases o with
  |false=>rw[aq aS] at l ⊢;cases l;exact k _ H3 (j.trans (i.trans h)) (c5.ej.mpr rfl)
  |true=>rw[ah rfl] at l ⊢;obtain⟨z,U,G⟩:=bind_some l;obtain⟨r2,T,S⟩:=bind_some G;have:=qm S;subst this;exact{m,z,p.same (j.trans (i.trans h)),U,λw2 H4 s J=>{y,z,.bool b,C.same (h.trans s),J,T,λw3 H5 F I=>k _ H5 (j.trans (i.trans (h.trans (s.trans F)))) I}}
def VF(f:a0->Od):a0->Option Lp:=λa=>(f a).bind λd=>match d with | .str x=>Y (oB x)|_=>Z
def QX(h:PD X a fa):Gz X tg a (VF fa) :=
 PI.imp (Lg h) <| by
  rintro w H R ⟨m,A,s,e,k⟩;obtain⟨d,t,g⟩:=bind_some e;obtain⟨x,rfl⟩:∃x,d=.str x:=by cases d<;>first|exact{_,rfl}|cases g
  cases g;refine{m,_,s,t,λv l p r=>{x,c5.e9.mp r,k _ l p λu f=>?_}};obtain⟨o,c⟩:=wt (K:=X.K) x l u f;refine{o,λi d q=>{(c i d q).1,λy j z=>?_}};obtain⟨b,n⟩:=(c i d q).2 y j z;exact{b,n j (f.trans b) λ_ _=>rfl}
end
end L2
namespace K47
open PySem L2
def k7(i:Nat):Stmt:=PySem.Challenge.pw_pointsure_k47_a_row_otherwise.main.body.getD i (.Pass {(0),0,0,0})
def GY:List (fJ×fJ):=kvS [("new",["X","KIND"]),("row",["X"]),("func",["X","FUNCTION","A"]),("copy",["X","Y"]),("take",["X","Y","FIELD"]),("put",["Y","FIELD","X"]),("push",["Y","X"]),("pull",["X","Y"]),("do",["X","Y","A"]),("ask",["X","Y","METHOD","A"]),("straight",["X","Y","KIND","METHOD","A"]),("give",["X"]),("tell",["X"]),("rest",[]),("check",["Y","FIELD"]),("fresh",["X","KIND"]),("own",["X","Y","FIELD"]),("place",["Y","FIELD","X"])]
def oF:List (fJ×fJ):=kvS [("choose",[]),("some",["X"]),("same",["X","Y"])]
abbrev gz:=gq 0
abbrev iu:=gq 1
abbrev lT:=zI 0
abbrev iZ:=gq 3
abbrev kO:=gq 4
abbrev iT:=(ir (nF (uE iu) (fB (d2 D2 gz lT)))
(bo (gA (.sl 2) (fY [2] (d2 iW gz (zI 5040))))
(dV (fY [2] (d2 Et gz (zI 5040))) 0))
(bo (dV (fY [2] (d2 iW (d2 fU (d2 oV iZ (zI 48271)) kO) (zI 2147483647))) 3)
(gA (.sl 2) (fY [2] (d2 iW (d2 oV (d2 iW (d2 oV iZ (zI 69621)) (zI 99991)) (zI 16807)) (zI 99989))))))
abbrev iD:=gq 2
abbrev lL:=zI 1
abbrev tS:=gk fW
abbrev Mi:=jI (fY [2] tS) 2
abbrev E6:=(bo Mi
(bo (dV (fY [2] (d2 fU (d2 iW gz (zI 1000000007)) lL)) 3)
(bo (jf (wh [2] (iI (zI 14))) (.one 4) iT)
(f9 iD))))
def gM:=gL ["_law_cell","_law_digits","_law_found","_law_number","_law_k"] E6
abbrev uJ:=dC .none
abbrev pP:=(uy (fB (d2 ET iu uJ)) (fB (d2 rK gz (mz (zC "g" (zC "h" fW))))))
abbrev hJ:=gz
abbrev pQ:=gq 4
abbrev pR:=zI 2
abbrev za:=zQ pQ
abbrev uK:=zI 3
abbrev hU:=(bo (dV (fY [1] uJ) 3)
(bo (ir (nF (fB (d2 D2 iD lT)) (fB (d2 D2 (d2 iW (zX gz iD) uK) lT)))
(dV (fY [1] (zX (gk (zC "ka" (zC "kb" fW))) (d2 iW (zX gz (d2 fU pR iD)) iD))) 3)
f7)
(bo (dV (fY [1] (ko (zX (gk (c4 (gk (zC "f" (zC "u" fW))) (c4 (gk (zC "g" (zC "f" fW))) (zQ (gk (zC "h" (zC "u" fW))))))) iD) lJ (kJ (d2 iW (zX gz (d2 fU (zI 5) iD)) uK)))) 4)
(bo (dV (fY [1] (iJ (pb kO) [(3,"_law_elder")] pP hJ)) 4)
(gA (.sl 1) (fY [1] (mz (c4 (zX (gk (zC "ka" (zC "kb" (zC "kc" fW)))) iD) (c4 iZ za)))))))))
abbrev gF:=gq 0
abbrev lU:=zI 0
abbrev g9:=gq 1
abbrev pS:=zX gF lU
abbrev zb:=f9 g9
abbrev Mj:=jI (fY [1] tS) 1
abbrev uL:=(bo Mj
(bo (jf (wh [1] (iI (d2 fU lL (d2 iW pS uK)))) (.one 2) hU)
zb))
def jS:=gL ["_law_draw_here","_law_kinds_here","_law_k","_law_elder","_law_own"] uL
abbrev bS:a0->Option Bool:=(λ_=>Y true)
abbrev i0:=(zX (gq 0) (zI 0))
abbrev nM:=gq 3
abbrev mG:=gq 5
abbrev si:=zN g9
abbrev SS:=zQ tS
abbrev Ml:=zX gF (d2 fU (zI 7) nM)
abbrev tT:=zI 4
abbrev Mm:=gk (zC "m" (zC "n" fW))
abbrev jT:=(bo (dV (fY [2] (ko (gk (zC "p" (zC "q" (zC "s" fW)))) lJ (kJ (d2 iW (zX gz (d2 fU lL iZ)) tT)))) 4)
(bo (dV (fY [2] (d2 fU (d2 fU (zX (zX iu (d2 iW (zX gz (d2 fU tT iZ)) si)) lT) (zA ".")) (zX Mm (d2 iW Ml pR)))) 5)
(ir (nF (fB (d2 j7 (d2 iW (zX gz (d2 fU (zI 10) iZ)) pR) lT)) (fB (d2 lh mG (iJ (pb iD) [] bS i0))))
(gA (.sl 2) (fY [2] (mz (c4 mG (c4 kO SS)))))
(gA (.sl 2) (fY [2] (mz (c4 (zX (gk (zC "fa" (zC "fb" (zC "fc" fW)))) iZ) (c4 kO (zQ (ko (gk (zC "k" (zC "l" (zC "j" fW)))) lJ (kJ (d2 iW Ml tT))))))))))))
abbrev uM:=(bo Mi
(bo (jf (wh [2] (iI (d2 iW pS tT))) (.one 3) jT)
(f9 iD)))
def kB:=gL ["_law_draw_here","_law_kinds_here","_law_heads_here","_law_k","_law_params","_law_method"] uM
abbrev nh:=gk fW
abbrev kP:=(P5 nh)
abbrev mH:=(bo (ir (nF (fB (d2 j7 (d2 iW (zX kO (zI 13)) (zI 6)) (zI 5))) (fB (d2 vX iZ iu)))
(dV (fY [2,99] (d2 fU iZ lL)) 3)
f7)
(EV (.sl 2) (fY [2,99] iZ) (fY [2,99] kO)))
abbrev uN:=(bo (jI (fY [2,99] (iJ (iI (d2 fU iu lL)) [] bS kP)) 2)
(bo (dV (fY [2,99] lT) 3)
(bo (jf (wh [2,99] (oW gz)) (.one 4) mH)
(f9 iD))))
def pT:=gL ["_law_draws","_law_many","_law_parts_here","_law_at","_law_draw_here"] uN
abbrev jU:=(fB (d2 lh (zA ".") (zX (gq 0) (zI 0))))
abbrev ro:=gq 6
abbrev kx:=gq 2
abbrev oG:=zI 1
abbrev uO:=gq 6
abbrev GZ:=zX g9 oG
abbrev Mn:=zN kx
abbrev CY:=zX ro lU
abbrev G3:=zX g9 lU
abbrev G4:=zA "main"
abbrev pU:=(bo (ir (fB (d2 mY pS G4))
(f9 nh)
f7)
(bo (jI (fY [4] (gk (zQ (gk (zC "new" (zC "x" (zQ (zX (zX iD (d2 iW G3 Mn)) lT)))))))) 4)
(bo (dV (fY [4] (iJ (pb iZ) [] jU hJ)) 5)
(bo (ir (fB (d2 mY mG nh))
(bo (dV (fY [4] (zX mG (d2 iW GZ (zN mG)))) 6)
(gA (.sl 4) (fY [4] (d2 fU (gk (zC "func" (zC "y" (zQ CY)))) (ko (gk (zC "x" (zC "z" (zC "x" fW)))) lJ (kJ (zN (zX uO pR))))))))
f7)
(f9 kO)))))
def lM:=gL ["_law_head","_law_draw_here","_law_kinds_here","_law_heads_here","_law_rows","_law_funcs","_law_one"] pU
abbrev zc:=zN gF
abbrev nN:=(bo (ir (fB (d2 vX iu zc))
(f9 (zX gz iu))
f7)
(f9 lT))
def eT:=gL ["_law_script","_law_k"] nN
abbrev wI:=gq 0
abbrev oH:=zI 2
abbrev AV:=zQ (gq 3)
abbrev uP:=zX gF oG
abbrev CZ:=zX gF oH
abbrev uQ:=zA " "
abbrev E7:=zX wI (zI 0)
abbrev Mo:=fB (d2 rK (zA ".") E7)
abbrev Mp:=c4 g9 AV
abbrev kQ:=(bo (ir Mo
(bo (yU (fY [] (qL ll pS (zC "." fW))) (.many [1,2,3]))
(f9 (qL iE uQ (zQ (d2 fU (gk (zC "method" Mp)) uP)))))
f7)
(bo (dV (fY [] (d2 fU (gk (zC "func" (zQ pS))) uP)) 4)
(bo (ir (fB (d2 mY CZ nh))
(dV (fY [] (d2 fU (d2 fU kO (gk (zC "keeps" fW))) CZ)) 4)
f7)
(f9 (qL iE uQ za)))))
def i5:=gL ["_law_head","_law_kind","_law_dot","_law_method","_law_row"] kQ
abbrev pV:=(bo (dV (fY [] (d2 fU (d2 fU uP CZ) (gk (zC "x" (zC "y" (zC "z" fW)))))) 1)
(bo (ir Mo
(dV (fY [] (d2 fU iu (gk (zC "self" fW)))) 1)
f7)
zb))
def iL:=gL ["_law_head","_law_names_here"] pV
abbrev E8:=(bo (dV (fY [] (gk (zC "new" (zC "copy" (zC "take" (zC "put" (zC "ask" (zC "do" (zC "new" (zC "func" (zC "tell" (zC "if" (zC "while" (zC "end" (zC "else" (zC "push" fW)))))))))))))))) 2)
(bo (dV (fY [] (d2 fU iD (gk (zC "pull" (zC "row" (zC "give" (zC "take" (zC "put" (zC "ask" (zC "do" (zC "end" (zC "rest" (zC "copy" fW))))))))))))) 2)
(bo (ir (uE iu)
(dV (fY [] (d2 fU iD (gk (zC "straight" (zC "check" (zC "fresh" (zC "own" (zC "place" fW)))))))) 2)
f7)
(f9 (zX iD (d2 iW pS Mn))))))
def oJ:=gL ["_law_draw_here","_law_wide","_law_some"] E8
abbrev uR:=zQ kx
abbrev Mq:=d2 iW (zX gF (zI 3)) (zI 3)
abbrev E9:=zC "choose" fW
abbrev lV:=(bo (dV (fY [] (zX iu (d2 iW uP si))) 2)
(bo (ir (fB (d2 j7 Mq lT))
(f9 (gk E9))
f7)
(bo (ir (fB (d2 j7 Mq lL))
(f9 (gk (zC "some" uR)))
f7)
(f9 (gk (zC "same" (c4 iD (zQ (zX iu (d2 iW CZ si))))))))))
def lW:=gL ["_law_draw_here","_law_names_here","_law_x"] lV
abbrev tU:=zI 8
abbrev kh:=(zX iu (d2 iW (d2 fU (zX iD (d2 fU tU gz)) (d2 oV (zI 5) gz)) si))
abbrev AW:=(f9 (iJ (iI iD) [(1,"_law_names_here"),(0,"_law_draw_here")] bS kh))
def kR:=gL ["_law_draw_here","_law_names_here","_law_many"] AW
abbrev ki:=(fB (d2 rK (zA ".") (zX (gq 0) (zI 0))))
abbrev tW:=gq 2
abbrev AX:=zN tW
abbrev mI:=gq 7
abbrev Mr:=zQ (gq 5)
abbrev Ms:=c4 tW (zQ (gq 6))
abbrev Mt:=ji 3 kR (c4 g9 Ms)
abbrev SU:=fY [] (zX kx (d2 iW (zX g9 oG) AX))
abbrev SW:=fY [] (zX kx (d2 iW (zX g9 oH) AX))
abbrev G5:=zX g9 (zI 5)
abbrev Mu:=c4 (gq 8) (zQ (gq 10))
abbrev Mv:=c4 pQ Mr
abbrev sj:=(bo (dV SU 4)
(bo (dV SW 5)
(bo (dV (fY [] (zX (gk (c4 lT (c4 lL (c4 pR (zQ uK))))) (d2 iW (zX iu (zI 7)) tT))) 6)
(bo (dV (fY [] (iJ (pb iZ) [] ki i0)) 7)
(bo (ir (fB (d2 j7 gz (zA "ask")))
(f9 (d2 fU (gk (zC "ask" (c4 kO (c4 mG (zQ (zX Mm (d2 iW G5 pR))))))) Mt))
f7)
(bo (ir (nF (fB (d2 j7 gz (zA "straight"))) (fB (d2 mY mI nh)))
(bo (yU (fY [] (qL ll (zX mI (d2 iW G5 (zN mI))) (zC "." fW))) (.many [8,9,10]))
(f9 (d2 fU (gk (zC "straight" (c4 kO (c4 mG Mu)))) Mt)))
f7)
(f9 (d2 fU (gk (zC "do" Mv)) Mt))))))))
def jo:=gL ["_law_word_here","_law_draw_here","_law_names_here","_law_heads_here","_law_x","_law_y","_law_many","_law_methods","_law_kind","_law_dot","_law_method"] sj
abbrev rp:=gq 5
abbrev mJ:=gq 7
abbrev Ha:=zQ rp
abbrev VG:=zQ (gq 6)
abbrev C0:=gq 8
abbrev Mw:=fB (d2 mY (gq 8) tS)
abbrev Ye:=c4 ro (zQ mJ)
abbrev AY:=zA "func"
abbrev oK:=gq 9
abbrev Mx:=c4 rp (c4 ro (zQ mJ))
abbrev AZ:=zN (gq 8)
abbrev My:=c4 rp VG
abbrev uS:=(bo (dV SU 5)
(bo (dV SW 6)
(bo (dV (fY [] (zX (gk (zC "f" (zC "g" (zC "h" (zC "u" (zC "v" fW)))))) (d2 iW (zX iu tT) (zI 5)))) 7)
(bo (dV (fY [] (iJ (pb kO) [] jU hJ)) 8)
(bo (ir (fB (d2 rK gz (mz (zC "new" (zC "fresh" fW)))))
(f9 (gk (c4 gz (c4 mG (zQ (zX (zX iZ (d2 iW G5 (zN iZ))) lT))))))
f7)
(bo (ir (nF (fB (d2 j7 gz AY)) Mw)
(bo (dV (fY [] (zX C0 (d2 iW G5 AZ))) 9)
(f9 (d2 fU (gk (zC "func" (c4 mG (zQ (zX oK lT))))) (ji 3 kR (c4 iu (c4 iD (zQ (zN (zX oK pR)))))))))
f7)
(bo (ir (fB (d2 rK gz (mz (zC "row" (zC "give" (zC "tell" fW))))))
(f9 (gk (c4 gz Ha)))
f7)
(bo (ir (fB (d2 rK gz (mz (zC "take" (zC "own" fW)))))
(f9 (gk (c4 gz Mx)))
f7)
(bo (ir (fB (d2 rK gz (mz (zC "put" (zC "place" fW)))))
(f9 (gk (c4 gz (c4 uO (c4 mI Ha)))))
f7)
(bo (ir (fB (d2 j7 gz (zA "check")))
(f9 (gk (zC "check" Ye)))
f7)
(bo (ir (fB (d2 rK gz (mz (zC "push" (zC "pull" fW)))))
(f9 (gk (c4 gz My)))
f7)
(bo (ir (fB (d2 j7 gz (zA "rest")))
(f9 (gk (zC "rest" fW)))
f7)
(f9 (gk (zC "copy" My)))))))))))))))
def kF:=gL ["_law_word_here","_law_draw_here","_law_names_here","_law_kinds_here","_law_heads_here","_law_x","_law_y","_law_field","_law_funcs","_law_head"] uS
abbrev mK:=zQ gF
abbrev lE:=(qL iE uQ mK)
abbrev Mz:=mz (zC "ask" (zC "do" (zC "straight" fW)))
abbrev MA:=zC "if" (zC "while" fW)
abbrev uT:=zQ nM
abbrev MB:=zQ ro
abbrev wJ:=gq 10
abbrev SX:=zQ (gq 10)
abbrev SY:=c4 kx AV
abbrev MC:=mz MA
abbrev C1:=zI (-1)
abbrev C2:=zA "else"
abbrev wK:=zA "end"
abbrev ME:=fY [7,8] (zA "else")
abbrev jz:=(bo (dV (fY [7,8] (ji 2 oJ (c4 oK za))) 10)
(ir (nF (fB (d2 rK wJ MC)) (fB (d2 vX AZ tU)))
(bo (gA (.sl 7) (fY [7,8] (qL iE uQ (zQ (d2 fU (gk SX) (ji 2 lW (c4 oK MB)))))))
(gA (.sl 8) (fY [7,8] wJ)))
(ir (nF (fB (d2 j7 wJ wK)) Mw)
(bo (EE (.sl 8))
(gA (.sl 7) (fY [7,8] wK)))
(ir (nF (fB (d2 j7 wJ C2)) (nF Mw (fB (d2 j7 (zX C0 C1) (zA "if")))))
(bo (ri (.sl 8) (fY [7,8] C1) ME)
(gA (.sl 7) ME))
(ir (fB (d2 rK wJ Mz))
(gA (.sl 7) (fY [7,8] (qL iE uQ (zQ (ji 4 jo (c4 wJ (c4 oK (c4 uO uT))))))))
(gA (.sl 7) (fY [7,8] (qL iE uQ (zQ (ji 5 kF (c4 wJ (c4 oK (c4 uO SY)))))))))))))
abbrev zd:=gk (zC "end" fW)
abbrev wL:=(bo (dV (fY [7,8] (ji 1 iL mK)) 6)
(bo (jI (fY [7,8] (iJ (pb mG) [] bS lE)) 7)
(bo (jI (fY [7,8] nh) 8)
(bo (jf (wh [7,8] (oW iu)) (.one 9) jz)
(f9 (d2 fU mI (d2 IL zd AZ)))))))
def mM:=gL ["_law_head","_law_draws","_law_kinds_here","_law_heads_here","_law_wide","_law_begun_here","_law_names_here","_law_rows","_law_nest","_law_draw_here","_law_word_here"] wL
abbrev tX:=zQ (gq 1)
abbrev MF:=c4 gF tX
abbrev kU:=(ji 2 gM MF)
abbrev mO:=(bo (dV (fY [9] (gk (zC "kind" SX))) 13)
(bo (ir (fB (d2 oD (gq 11) uJ))
(dV (fY [9] (d2 fU (gq 13) (gk (zC "of" (zQ (gq 11)))))) 13)
f7)
(gA (.sl 9) (fY [9] (qL iE uQ (zQ (d2 fU (d2 fU (gq 13) (ko (gk (zC "fields" fW)) lJ (kJ (zN (gq 12))))) (gq 12))))))))
abbrev mP:=(bo (gA (.sl 9) (fY [9] (ji 1 i5 (zQ (zX mI (gq 15))))))
(jI (P5 (d2 CD (d2 fU oK (ji 6 mM (c4 (zX mI (gq 15)) (c4 (zX C0 (d2 fU (gq 15) lL)) (c4 uO (c4 mI (c4 iZ SS))))))) zd)) 9))
abbrev MG:=ji 2 eT (c4 wI (zQ (zI 0)))
abbrev S0:=d2 j7 (d2 iW MG oH) lU
abbrev S1:=d2 Et MG oH
abbrev MH:=mz (zC "main" (c4 tS (zQ tS)))
abbrev Fb:=gk (zC "main" fW)
abbrev MI:=ji 2 eT (c4 gF (zQ oG))
abbrev C3:=(bo (dV (fY [9] S0) 4)
(bo (dV (fY [9] (ji 2 gM (c4 S1 za))) 5)
(bo (dV (fY [9] (ji 1 jS Ha)) 6)
(bo (dV (fY [9] (ji 2 kB (c4 (ji 2 gM (c4 MI za)) MB))) 7)
(bo (dV (fY [9] (ji 2 pT (c4 (iJ (pb (ko gz (kJ iu) (kJ iD))) [(4,"_law_digits")] bS kU) (zQ (zN mI))))) 8)
(bo (jI (fY [9] nh) 9)
(bo (jf (wh [9] (oW uO)) (.many [10,11,12]) mO)
(bo (dV (fY [9] MH) 14)
(bo (jf (wh [9] (iI (zN mI))) (.one 15) mP)
(bo (dV (fY [9] (ji 4 lM (c4 (gq 14) Mx))) 16)
(f9 (d2 fU (d2 fU (d2 fU oK Fb) (ji 6 mM (c4 (gq 14) (c4 (zX C0 lT) (c4 uO (c4 mI (c4 iZ (zQ (gq 16))))))))) zd))))))))))))
def nj:=gL ["_law_script","_law_start","_law_stop","_law_wide","_law_digits","_law_first","_law_kinds_here","_law_heads_here","_law_parts_here","_law_lines_here","_law_name","_law_elder","_law_own","_law_row","_law_main","_law_k","_law_begun_here"] C3
abbrev A0:=dC .none
abbrev L':=dC (.bool false)
abbrev S2:=je 0 "Reading" "body" (fY [0] A0)
abbrev wM:=(bo (yT 0 "Reading" "fields" (fY [0] (dC (.dict []))))
(bo (yT 0 "Reading" "heads" (fY [0] (dC (.dict []))))
(bo S2
(bo (yT 0 "Reading" "blocks" (fY [0] nh))
(bo (je 0 "Reading" "over" (fY [0] L'))
(yT 0 "Reading" "later" (fY [0] nh)))))))
def mQ:=n0 ["self"] wM
abbrev nO:=(f9 (C_ (Ct (XU gz) (Ct (zA ".") (Ct (XU iu) (λ_=>Y Str.empty))))))
def jA:=gL ["kind","method"] nO
abbrev S3:=fB (d2 j7 E7 (zA "method"))
abbrev S4:=fB (d2 j7 E7 AY)
abbrev pW:=(bo (ir S3
(f9 (ji 2 jA (c4 uP (zQ CZ))))
f7)
(bo (ir S4
(f9 uP)
f7)
(f9 G4)))
def gP:=gL ["head"] pW
abbrev wN:=zQ tW
abbrev A4:=zC " " fW
abbrev zf:=fY [1] oG
abbrev S5:=fY [1] (mz (c4 pQ (c4 ro wN)))
abbrev A5:=zA "kind"
abbrev ew:=(bo (dV (fY [1] (qL iF mG A4)) 6)
(ir (fB (d2 j7 CY wK))
(EG 3 (λi j=>i - j) zf)
(ir (fB (d2 D2 iZ lT))
(bo (ir (fB (d2 mY CY C2))
(ri (.sl 1) (P4 si) S5)
f7)
(ir (fB (d2 rK CY (dC (.tuple [(.str "if"),(.str "while")]))))
(EG 3 (λi j=>i+j) zf)
f7))
(ir (fB (d2 mY CY A5))
(bo (dV (fY [1] (ji 1 gP MB)) 2)
(dV zf 3))
f7))))
abbrev VH:=fY [1] lU
abbrev MJ:=qL iF gF (zC "\n" fW)
abbrev oY:=(bo (jI (fY [1] (dC (.dict []))) 1)
(bo (dV (fY [1] uJ) 2)
(bo (dV VH 3)
(bo (jf (wh [1] (yZ MJ)) (.many [4,5]) ew)
zb))))
def kj:=gL ["text","rows","body","depth","line","row","words"] oY
abbrev oZ:=(f9 (lj ["Program"] "text" gz))
def gB:=gL ["self"] oZ
abbrev jq:=(qL iF gz A4)
abbrev S6:=qL iF (jJ "Program" "shown" 1 gB gF fW) (zC "\n" fW)
abbrev o1:=(f9 (iJ (pb S6) [] bS jq))
def kl:=gL ["program"] o1
abbrev Fc:=zX nM lU
abbrev MK:=fB (d2 j7 kx lU)
abbrev fL:=(ir (fB (d2 j7 Fc wK))
(EG 2 (λi j=>i - j) zf)
(ir (nF MK (fB (d2 mY Fc A5)))
(bo (ri (.sl 1) (fY [1] (ji 1 gP uT)) (fY [1] iZ))
(dV zf 2))
(ir (fB (d2 rK Fc MC))
(EG 2 (λi j=>i+j) zf)
f7)))
abbrev ML:=dV (fY [1] lU) 2
abbrev sk:=(bo (jI (fY [1] (dC (.dict []))) 1)
(bo ML
(bo (jf (wh [1] (oW (ji 1 kl mK))) (.one 3) fL)
zb)))
def mh:=gL ["program","heads","depth","words"] sk
abbrev A6:=zQ wI
abbrev MM:=P5 (iH iY (zQ (ji 1 mh A6)))
abbrev MN:=fY [0] (ji 1 kj tX)
abbrev pX:=(bo (je 0 "Program" "text" (fY [0] iu))
(bo (je 0 "Program" "numbered" MN)
(je 0 "Program" "body_texts" MM)))
def hV:=n0 ["self","text"] pX
abbrev S7:=ko gF (kJ oH) lJ
abbrev MO:=iH iY (zQ (ko gF (kJ oH) lJ))
abbrev MP:=Qx AG g9 (zC "keeps" fW)
abbrev Fd:=zA "keeps"
abbrev nq:=(bo (ir (uy (fB (d2 mY pS AY)) (fB (d2 lh Fd S7)))
(f9 nh)
f7)
(bo (dV (fY [] MO) 1)
(f9 (ql iu (kJ (d2 fU MP lL)) lJ))))
def gQ:=Az ["head","names"] nq
abbrev Fe:=dC (.bool false)
abbrev zj:=f9 Fe
abbrev Hc:=lj ["Reading"] "heads" gF
abbrev MQ:=lj ["Row"] "function" g9
abbrev hY:=(bo (ir (fB (d2 j7 (lj ["Row"] "word" iu) (zA "straight")))
(f9 (d2 rK (ji 2 jA (c4 (lj ["Row"] "kind" iu) (zQ (lj ["Row"] "method" iu)))) Hc))
f7)
(bo (ir (uy (fB (d2 j7 MQ G4)) (fB (d2 lh MQ Hc)))
zj
f7)
(f9 (d2 j7 (zN (ji 1 gQ (zQ (zX Hc MQ)))) (zN (lj ["Row"] "handed" iu))))))
def ek:=gL ["reading","row"] hY
abbrev IY:=(bo (ir (fB (d2 rK pS (dC (.tuple [(.str "if"),(.str "while")]))))
(bo (ir (nF (fB (d2 D2 zc lL)) (fB (λρ=>(uP ρ).bind (Lv oF))))
(f9 (d2 fU (mz (zC "CONDITION" fW)) (λρ=>(uP ρ).bind (Ly oF))))
f7)
(f9 uJ))
f7)
(f9 (λρ=>(pS ρ).bind (SM GY))))
def tY:=gL ["words"] IY
abbrev yk:=(gA (.sl 1) (fY [1] (zA "A")))
abbrev Ff:=(bo (jI (fY [1] (iH iY (zQ (ji 1 tY mK)))) 1)
(bo (K2 (fB (d2 vX si (d2 Iq zc lL))) yk)
(f9 (d2 Vg iu (ko gz (kJ lL) lJ)))))
def rq:=gL ["words","form"] Ff
abbrev yl:=(fB (d2 j7 gz (zA "A")))
abbrev qP:=iu
abbrev ym:=(fB (d2 rK gz (mz (zC "X" (zC "Y" (zC "A" fW))))))
abbrev VI:=ji 1 rq tX
abbrev MR:=pb (ji 1 rq tX)
abbrev Fi:=(bo (dV (fY [0] (iH AI (zQ VI))) 2)
(bo (je 0 "Row" "word" (fY [0] G3))
(bo (je 0 "Row" "condition" (fY [0] (d2 mE iD (zA "CONDITION"))))
(bo (je 0 "Row" "x" (fY [0] (d2 mE iD (zA "X"))))
(bo (je 0 "Row" "y" (fY [0] (d2 mE iD (zA "Y"))))
(bo (je 0 "Row" "kind" (fY [0] (d2 mE iD (zA "KIND"))))
(bo (je 0 "Row" "field" (fY [0] (d2 mE iD (zA "FIELD"))))
(bo (je 0 "Row" "method" (fY [0] (d2 mE iD (zA "METHOD"))))
(bo (je 0 "Row" "function" (fY [0] (d2 mE iD (zA "FUNCTION"))))
(bo (je 0 "Row" "handed" (fY [0] (wy MR [] yl qP)))
(je 0 "Row" "names" (fY [0] (wy MR [] ym qP)))))))))))))
def mR:=n0 ["self","words","parts"] Fi
abbrev MS:=lj ["Reading"] "body" wI
abbrev S9:=P4 (d2 j7 MS (zA "main"))
abbrev MT:=uE (lj ["Reading"] "blocks" gF)
abbrev lF:=(bo (ir MT
(bo (EE (.fl 0 "Reading" "blocks"))
K5)
f7)
(bo (je 0 "Reading" "over" S9)
S2))
def jB:=n0 ["reading"] lF
abbrev wO:=wj Fe
abbrev Ta:=lj ["Reading"] "blocks" gF
abbrev Fj:=wj (dC (.bool true))
abbrev lX:=(bo (ir (uy (pa MT) (fB (d2 mY (zX Ta C1) (zA "if"))))
wO
f7)
(bo (ri (.fl 0 "Reading" "blocks") (fY [0] C1) (fY [0] C2))
Fj))
def km:=n0 ["reading"] lX
abbrev jx:=(ir (pa (lS oz oz (zA "a") iu (zA "z")))
zj
f7)
abbrev Fm:=zA ""
abbrev oM:=(bo (jf (wh [] (oW gz)) (.one 1) jx)
(f9 (d2 mY gz Fm)))
def hI:=gL ["word","sign"] oM
abbrev zo:=(f9 (oX (d2 oz zc tU) (ji 1 hI mK)))
def n5:=gL ["word"] zo
abbrev lN:=(ji 1 n5 mK)
abbrev Fo:=f9 (dC (.bool false))
abbrev Tb:=bo (dV (fY [] (ji 1 tY A6)) 1) (bo (ir (fB (d2 ET g9 A0)) Fo f7) (bo (ir (nF (uE g9) (fB (d2 j7 (zX g9 (zI (-1))) (zA "A")))) (f9 (d2 Zj (zN gF) (zN g9))) f7) (f9 (d2 j7 (zN gF) (d2 fU (zN g9) oG)))))
abbrev MU:=(bo (ir (uy (pa (uE gz)) (pa (uE (iH CA (zQ (iJ (pb gz) [] bS lN))))))
zj
f7)
Tb)
def mS:=gL ["words","form"] MU
abbrev A7:=lj ["Reading"] "fields" wI
abbrev MV:=lj ["Row"] "kind" (gq 3)
abbrev Tc:=nF (fB (d2 oD MV A0)) (fB (d2 lh MV A7))
abbrev MW:=lj ["Row"] "word" nM
abbrev hZ:=(bo (ir (fB (d2 j7 iD zd))
(bo (EK (wm [0] 0 1 jB fW))
Fj)
f7)
(bo (ir (fB (d2 j7 iD (gk (zC "else" fW))))
(Cq (wm [0] 0 1 km fW))
f7)
(bo (ir (pa (uE (ji 1 mS uR)))
wO
f7)
(bo (dV (fY [0] (pJ "Row" 2 mR uR)) 3)
(bo (ir Tc
wO
f7)
(bo (ir (fB (d2 rK MW (dC (.tuple [(.str "if"),(.str "while")]))))
(gA (.fl 0 "Reading" "blocks") (fY [0] MW))
f7)
(bo (ir (fB (d2 rK MW (mz (zC "func" (zC "straight" fW)))))
(gA (.fl 0 "Reading" "later") (fY [0] (mz Mp)))
f7)
(wj (d2 oz (zN Ta) tU)))))))))
def fM:=n0 ["reading","line","words","row"] hZ
abbrev wQ:=(f9 (d2 j7 (AM gz) zc))
def mT:=gL ["names"] wQ
abbrev Yf:=ir (nF (uE kx) (fB (d2 j7 (zX kx lU) (zA "of")))) (bo (ir (uy (fB (d2 vX AX oH)) (fB (d2 lh (zX kx oG) A7))) (wj Fe) f7) (bo (jI (P5 (iH iY (zQ (zX A7 (zX kx oG))))) 3) (dV (fY [0,3] (ko kx (kJ oH) lJ)) 2))) f7
abbrev Td:=uy (uE (lj ["Reading"] "heads" gF)) (uy (fB (d2 vX (zN g9) oH)) (fB (d2 rK (zX g9 oG) A7)))
abbrev oN:=(bo (ir Td
wO
f7)
(bo (dV (fY [0,3] (ko iu (kJ pR) lJ)) 2)
(bo (jI (fY [0,3] nh) 3)
(bo Yf
(bo (ir (nF (uE iD) (uy (fB (d2 mY (zX iD lT) (zA "fields"))) (fB (d2 vX Mn pR))))
wO
f7)
(bo (Au (.sl 3) (fY [0,3] (ql iD (kJ lL) lJ)))
(LC 3 (bo (ri (.fl 0 "Reading" "fields") (fY [0] GZ) (fY [0] iZ))
(wj (ji 1 mT uT))))))))))
def mi:=n0 ["reading","words","behind","fields"] oN
abbrev lG:=(bo (ir S3
(f9 (iH iY (zQ (ko gz (kJ uK) lJ))))
f7)
(bo (jI (fY [1] MO) 1)
(bo (ir (fB (d2 rK Fd iu))
(f9 (ql iu lJ (kJ MP)))
f7)
zb)))
def iU:=Az ["head","names"] lG
abbrev Te:=f9 (oX (d2 lh (zA "self") g9) (ji 1 mT tX))
abbrev jM:=(bo (ir (nF S4 (nF (fB (d2 rK Fd S7)) (pa (uE (ji 1 gQ mK)))))
zj
f7)
(bo (dV (fY [] (d2 fU (ji 1 iU mK) (ji 1 gQ mK))) 1)
Te))
def gd:=gL ["words","names"] jM
abbrev Yg:=lj ["Reading"] "fields" gF
abbrev He:=zQ g9
abbrev tZ:=(bo (ir (fB (d2 j7 G3 AY))
(f9 (oX (d2 D2 si lL) (oX (d2 mY GZ G4) (ji 1 gd He))))
f7)
(bo (ir (fB (d2 j7 G3 (zA "method")))
(f9 (oX (d2 D2 si pR) (oX (d2 rK GZ Yg) (ji 1 gd He))))
f7)
(f9 (d2 j7 iu Fb))))
def lz:=gL ["reading","words"] tZ
abbrev Yh:=lj ["Reading"] "body" gF
abbrev VJ:=ji 1 gP wN
abbrev MX:=P4 MS
abbrev MY:=fY [0] (ji 1 gP wN)
abbrev kG:=(bo (ir (uE (lj ["Reading"] "over" gz))
wO
f7)
(bo (ir (fB (d2 oD Yh uJ))
(Cq (wm [0] 0 3 fM (c4 iu uR)))
f7)
(bo (ir (fB (d2 j7 (zX iD lT) A5))
(Cq (wm [0] 0 2 mi uR))
f7)
(bo (ir (uy (pa (uE (ji 2 lz (c4 gz uR)))) (fB (d2 rK VJ Hc)))
wO
f7)
(bo (je 0 "Reading" "body" MY)
(bo (ri (.fl 0 "Reading" "heads") MX (fY [0] iD))
Fj))))))
def fO:=n0 ["reading","line","words"] kG
abbrev Tf:=Zq (pa (uE (iH CA (zQ (iJ (pb pQ) [] bS lN))))) (Vc (hT (wm [1] 1 3 fO (c4 nM (zQ pQ)))))
abbrev d6:=(Qm Tf
(pO iZ)
f7)
abbrev fP:=(ir (pa (uE (ji 2 ek (c4 iu Ha))))
(pO iZ)
f7)
abbrev Th:=ir (pa (uE (lj ["Reading"] "over" g9))) (pO AX) f7
abbrev Ti:=wh [] (oW (lj ["Reading"] "later" g9))
abbrev Tj:=jf (wh [1] (yZ kx)) (.many [3,4]) d6
abbrev mU:=(bo (jI (fY [1] (pJ "Reading" 1 mQ fW)) 1)
(bo (dV (fY [1] (iJ (pb MJ) [] bS jq)) 2)
(bo Tj
(bo Th
(LC 1 (bo (jf Ti (.many [3,5]) fP)
(CN (pJ "Program" 2 hV mK))))))))
def ez:=gL ["text","reading","rows","line","words","row"] mU
abbrev Yi:=lj ["Program"] "numbered" gF
abbrev l6:=(f9 (zN Yi))
def fZ:=gL ["self"] l6
abbrev so:=(bo (ir (fB (d2 D2 (d2 iW iu uK) lT))
(f9 gz)
f7)
(bo (dV (fY [] (gk (c4 nh (c4 (gk (zC "if" E9)) (c4 (gk (zC "while" E9)) (c4 (gk (zC "else" fW)) (c4 zd (c4 (d2 fU gz (gk (zC "" fW))) (c4 (gk (zC "Rest" fW)) (zQ (d2 fU gz (gk (zC "x1" fW))))))))))))) 2)
(bo (dV (fY [] (d2 fU iD (gk (c4 (gk (zC "rest" (zC "" fW))) (c4 (gk (zC "jump" (zC "x" fW))) (c4 (gk (zC "copy" (zC "x" (zC "abcdefghi" fW)))) (c4 (gk (zC "func" (zC "x" (zC "nowhere" fW)))) (zQ Fb)))))))) 2)
(bo (dV (fY [] (d2 fU iD (gk (c4 (gk (zC "kind" (zC "zz" fW))) (c4 (d2 fU gz (gk (zC "x" (zC "x" (zC "x" fW))))) (c4 (gk (zC "new" (zC "x" (zC "nokind" fW)))) (zQ (gk (zC "copy x" (zC "y" fW)))))))))) 2)
(f9 (zX iD (d2 iW (d2 Et iu uK) (zI 17))))))))
def kW:=gL ["_law_words","_law_pick","_law_some"] so
abbrev Tn:=bo (ir (fB (d2 rK rp Mz)) (f9 (ji 4 jo (c4 rp (c4 gF (c4 pQ AV))))) f7) (f9 (ji 5 kF (c4 rp (c4 gF (c4 pQ (c4 kx AV))))))
abbrev MZ:=dC (.bool true)
abbrev pY:=(bo (dV (fY [] (ji 1 iL He)) 4)
(bo (dV (fY [] (ji 2 oJ (c4 gz (zQ MZ)))) 5)
Tn))
def jV:=gL ["_law_draw_here","_law_head","_law_kinds_here","_law_heads_here","_law_names_here","_law_word_here"] pY
abbrev lY:=(bo (dV (fY [1] (zX (qL iF (zX gz iZ) A4) lT)) 4)
(ir MK
(dV (fY [1] (iH rn (zQ (d2 mY kO A5)))) 2)
(ir (fB (d2 j7 kO wK))
(dV (fY [1] (d2 Iq iD lL)) 2)
(ir (fB (d2 mY kO C2))
(bo (gA (.sl 1) (fY [1] iZ))
(dV (fY [1] (d2 fU iD (iH rn (zQ (d2 rK kO MC))))) 2))
f7))))
abbrev sr:=(bo Mj
(bo ML
(bo (jf (wh [1] (iI zc)) (.one 3) lY)
zb)))
def kX:=gL ["_law_lines_here","_law_places_here","_law_depth","_law_k","_law_word_here"] sr
abbrev oO:=(fB (d2 lh gz (zA "abcdefghijklmnopqrstuvwxyz")))
abbrev M0:=mz (zC "row" (zQ (gk fW)))
abbrev C4:=f9 M0
abbrev iM:=(ir (uy (fB (d2 j7 kO Fm)) (fB (d2 mY (iJ (VF kO) [] oO hJ) nh)))
C4
f7)
abbrev M3:=qL iE (zA "\n") (zQ (gq 5))
abbrev M4:=fB (d2 rK (zX tW (zI 0)) (gk (zC "if" (zC "while" (zC "else" (zC "end" fW))))))
abbrev M5:=fB (d2 j7 tW (gk fW))
abbrev VL:=ir (uy M5 M4) (f9 M0) f7
abbrev To:=uy (fB (d2 vX g9 lU)) (uy (fB (d2 Zj g9 (zN nM))) (fB (d2 rK (zX (qL iF (zX gF (zX nM g9)) A4) lU) (gk MA))))
abbrev Tp:=ri (.sl 5) (fY [5] (zX nM g9)) (fY [5] (qL iE (zA " ") wN))
abbrev M6:=jf (wh [5] (oW kx)) (.one 4) iM
abbrev M7:=zQ M3
abbrev Tq:=f9 (mz (zC "program" (zQ (L9 "NoProgram" ro))))
abbrev M8:=dV (fY [5] (ji 1 kX A6)) 3
abbrev M9:=jI (fY [5] (iH iY A6)) 5
abbrev Na:=f9 (mz (zC "" Mr))
abbrev qo:=(bo M8
(bo (ir To
C4
f7)
(bo VL
(bo M6
(bo M9
(bo Tp
(bo (uI 1 ez M7 6 "NoProgram" "NoRow"
Tq λ_=>Z)
Na)))))))
def jC:=gL ["_law_lines_here","_law_number","_law_words","_law_places_here","_law_word_here","_law_changed_lines","_law_error"] qo
abbrev Tr:=zX (lj ["Program"] "numbered" gF) g9
abbrev mV:=(f9 (zX Tr lT))
def iA:=gL ["self","number"] mV
abbrev jW:=(ri (.sl 2) (fY [2] (jJ "Program" "row_line" 2 iA gz uT)) (fY [2] (qL iE uQ (zQ (zX iu iZ)))))
abbrev Nb:=zA "\n"
abbrev uU:=(bo (jI (fY [2] S6) 2)
(bo (GO (fY [2] iu) (.one 3) jW)
(CP (λds=>ds.all lK) 1 ez (zQ (qL iE Nb uR)))))
def nu:=gL ["program","changed","rows","number"] uU
abbrev l7:=(f9 (iH iY (zQ (zX Tr lL))))
def ik:=Az ["self","number"] l7
abbrev Hf:=jJ "Program" "many_rows" 1 fZ gF fW
abbrev jr:=(f9 (oX (wH oz vX lT iu Hf) (d2 lh (zX (jJ "Program" "row_words" 2 ik gz He) lT) (dC (.tuple [(.str "if"),(.str "while")])))))
def fV:=gL ["program","number"] jr
abbrev eL:=(ji 1 hI mK)
abbrev Yj:=zC "end" fW
abbrev jX:=(bo (ir (uy (pa (uE gz)) (pa (uE (iH CA (zQ (iJ (pb gz) [] bS eL))))))
zj
f7)
(f9 (oX (d2 lh pS (dC (.tuple [(.str "if"),(.str "while")]))) (d2 lh pS (mz (zC "else" Yj))))))
def gf:=gL ["words"] jX
abbrev lZ:=(bo (ir (uy (pa (uE (ji 2 fV MF))) (pa (uE (ji 1 gf uR))))
(GQ (zA "no row that may be put so"))
f7)
(CP (λ_=>true) 2 nu (c4 gz (zQ (d2 E5 iu iD)))))
def gC:=gL ["program","number","words"] lZ
abbrev n6:=(f9 (iH iY (zQ (lj ["Program"] "body_texts" gz))))
def i6:=Az ["self"] n6
abbrev Nc:=uE (E4 [("NoProgram",false),("NoRow",false)] gF)
abbrev C5:=(bo (ir (uy Nc (uy Nc Nc))
(f9 (zA "other"))
f7)
(bo (ir (pa (uE (E4 [("NoProgram",true),("NoRow",true)] gz)))
(f9 (zA "other"))
f7)
(f9 (d2 fU (zX (gk (zC "" (zC "row" fW))) (iH rn (zQ (E4 [("NoProgram",false),("NoRow",true)] gz)))) (zX (gk (zC "" (zC "program" fW))) (iH rn (zQ (E4 [("NoProgram",true),("NoRow",false)] gz))))))))
def uV:=gL ["_law_error"] C5
abbrev Nd:=d2 mY (gq 4) (zA "")
abbrev Yk:=bo (ir (uy (fB (d2 mY ro nM)) (uy (fB (d2 mY (gq 8) pQ)) (fB (d2 mY Nd (d2 ET mJ A0))))) Fo f7) (bo (gA (.sl 6) (fY [6] (zA "zz"))) (bo (ir (fB Nd) (f9 (d2 j7 (gq 9) rp)) f7) (bo (ir (uy (fB (d2 mY (jJ "Program" "shown" 1 gB mJ fW) M3)) (fB (d2 mY (jJ "Program" "many_rows" 1 fZ mJ fW) (jJ "Program" "many_rows" 1 fZ gF fW)))) Fo f7) (f9 (oX (d2 j7 (jJ "Program" "row_words" 2 ik mJ wN) nM) (d2 j7 (jJ "Program" "bodies" 1 i6 mJ fW) (jJ "Program" "bodies" 1 i6 gF fW)))))))
abbrev Nf:=fY [6] (ji 1 uV (zQ (gq 10)))
abbrev Ts:=dV Nf 8
abbrev Tt:=bo (dV Nf 8) (dV (fY [6] (L9 "NoProgram" (gq 10))) 9)
abbrev Ng:=c4 gF Ms
abbrev wR:=(bo (yU (fY [6] (ji 3 jC (c4 iu SY))) (.many [4,5]))
(bo (jI (fY [6] (iH iY uT)) 6)
(bo (dV (fY [6] uJ) 7)
(bo (dV (fY [6] Fm) 8)
(bo (dV (fY [6] nh) 9)
(bo (qN (λ_=>true) 3 gC Ng 7 10 "NoProgram" "NoRow"
Tt
Ts)
Yk))))))
def jY:=gL ["_law_program","_law_lines_here","_law_number","_law_words","_law_due_here","_law_more","_law_handed_here","_law_found","_law_refused","_law_line","_law_error"] wR
abbrev Nh:=jJ "Program" "many_rows" 1 fZ tW fW
abbrev Yl:=ir (fB (d2 j7 (d2 iW (zX mJ (zI 12)) (zI 6)) lU)) (dV (fY [] (zX (gk (c4 (zI (-1)) (c4 Nh (c4 (d2 Iq (zI (-2)) (zX mJ (zI 11))) (zQ (d2 fU Nh (zX mJ (zI 11)))))))) (d2 iW (d2 Et (zX mJ (zI 12)) (zI 6)) (zI 4)))) 8) f7
abbrev Ni:=qL iE Nb tX
abbrev pZ:=(bo (dV (fY [] (ji 2 gM (c4 (d2 fU (d2 oV (ji 2 eT (c4 gz (zQ pR))) tU) (d2 oV (zI 613) uO)) uT))) 7)
(bo (dV (fY [] (d2 iW (zX mI (zI 11)) (jJ "Program" "many_rows" 1 fZ iD fW))) 8)
(bo Yl
(bo (dV (fY [] (zX (d2 fU mG (gk (zQ MH))) (d2 iW (zX mI (zI 10)) (d2 fU (zN mG) lL)))) 9)
(bo (dV (fY [] (ji 2 kW (c4 (ji 4 jV (c4 mI (c4 oK Mv))) (zQ (zX mI (zI 9)))))) 10)
(ir (uy (pa (uE (ji 4 jY (c4 iD (c4 iu Mu))))) (fB (d2 mY (jJ "Program" "shown" 1 gB iD fW) Ni)))
zj
f7))))))
abbrev Tu:=(bo (dV (fY [] (ji 4 nj (c4 gz (c4 uK (c4 (zI 33) (zQ MZ)))))) 1)
(bo (dV (fY [] (ji 1 (y8 ez) (zQ Ni))) 2)
(bo (dV (fY [] S0) 3)
(bo (dV (fY [] (ji 1 jS (zQ (ji 2 gM (c4 S1 uT))))) 4)
(bo (dV (fY [] (ji 2 kB (c4 (ji 2 gM (c4 MI uT)) za))) 5)
(bo (jf (wh [] (iI tU)) (.one 6) pZ)
(f9 MZ)))))))
def Hg:=gL ["_law_script","_law_lines_here","_law_program","_law_digits","_law_kinds_here","_law_heads_here","_law_k","_law_draw_here","_law_number","_law_head","_law_words"] Tu
def nP:XSt "NoProgram.__init__" (lB (k7 6) 0):={_,_,_,_,_,_,_,_,_,_,_,_,_,_,_,{rfl,rfl,rfl,by decide +kernel,rfl,by decide +kernel,by decide +kernel},rfl,(by intro _ _ _ _ _ _;(repeat' intro _);exact rfl),rfl,rfl,rfl,by decide,λa=>{_,rfl}}
structure Md (P:Program) (w:World) (K:Fg) (mg:Str->Ow):Prop where
 ValueError:mg "ValueError"=Z
 all:mg "all"=Z
 dict:mg "dict"=Z
 enumerate:mg "enumerate"=Z
 int:mg "int"=Z
 isinstance:mg "isinstance"=Z
 len:mg "len"=Z
 list:mg "list"=Z
 range:mg "range"=Z
 set:mg "set"=Z
 zip:mg "zip"=Z
 p0:jw K "Program" "body_texts"
 rz:jw K "Program" "numbered"
 wU:jw K "Program" "text"
 t4:jw K "Reading" "blocks"
 wV:jw K "Reading" "body"
 t5:jw K "Reading" "fields"
 vl:jw K "Reading" "heads"
 vm:jw K "Reading" "later"
 wW:jw K "Reading" "over"
 vn:jw K "Row" "condition"
 C6:jw K "Row" "field"
 wX:jw K "Row" "function"
 A8:jw K "Row" "handed"
 Fp:jw K "Row" "kind"
 A9:jw K "Row" "method"
 C7:jw K "Row" "names"
 Fq:jw K "Row" "word"
 QY:jw K "Row" "x"
 QZ:jw K "Row" "y"
 yn:IH K mg "BLOCK_WORDS" (.tuple [(.str "if"),(.str "while")])
 su:oE P w K mg "CONDITIONS" oF
 Q0:oE P w K mg "FORMS" GY
 yo:IH K mg "MOST_BLOCKS" (.int 8)
 jZ:GW K mg "NoProgram" "NoProgram.__init__" (lB (k7 6) 0)
 xt:GX K mg
 Fs:gX K mg "_law_draw" (k7 48)
 C8:gX K mg "_law_kinds" (k7 49)
 C9:gX K mg "_law_heads" (k7 50)
 Dc:gX K mg "_law_parts" (k7 60)
 Dd:gX K mg "_law_begun" (k7 58)
 yp:gX K mg "_law_cell_at" (k7 47)
 wY:gX K mg "_law_head_row" (k7 51)
 De:gX K mg "_law_names" (k7 52)
 Ft:gX K mg "_law_word" (k7 57)
 vo:gX K mg "_law_condition" (k7 56)
 Ba:gX K mg "_law_handed" (k7 53)
 Bb:gX K mg "_law_caller" (k7 54)
 Df:gX K mg "_law_plain" (k7 55)
 Fv:gX K mg "_law_body" (k7 59)
 Dg:gX K mg "_law_lines" (k7 61)
 wZ:LF K mg "Reading" "Reading.__init__" (lB (k7 30) 0)
 yq:gX K mg "method_body" (k7 11)
 Dh:gX K mg "head_body" (k7 12)
 vp:gX K mg "numbered_rows" (k7 27)
 vq:CH K "Program" "shown" "Program.shown" (lB (k7 26) 1)
 vr:gX K mg "rows_of_words" (k7 13)
 Bc:gX K mg "body_heads" (k7 14)
 w8:LF K mg "Program" "Program.__init__" (lB (k7 26) 0)
 Di:gX K mg "head_kept" (k7 10)
 qa:gX K mg "names_what_is_told" (k7 40)
 IZ:gX K mg "form_of" (k7 23)
 Fw:gX K mg "parts_of" (k7 24)
 Fx:LF K mg "Row" "Row.__init__" (lB (k7 19) 0)
 yr:gX K mg "close_block" (k7 38)
 vt:gX K mg "turns_to_else" (k7 39)
 Be:gX K mg "is_letters" (k7 20)
 I7:gX K mg "is_name" (k7 21)
 Nj:gX K mg "is_row" (k7 22)
 w9:gX K mg "reads_within" (k7 37)
 Fy:gX K mg "are_once" (k7 36)
 Bf:gX K mg "reads_kind" (k7 33)
 yt:gX K mg "head_params" (k7 9)
 sv:gX K mg "are_heads_names" (k7 35)
 I8:gX K mg "is_head" (k7 34)
 Dj:gX K mg "reads_row" (k7 32)
 xa:gX K mg "read_program" (k7 31)
 qE:CH K "Program" "many_rows" "Program.many_rows" (lB (k7 26) 3)
 Bg:gX K mg "_law_spoilt" (k7 64)
 xb:gX K mg "_law_some_row" (k7 63)
 Bh:gX K mg "_law_places" (k7 62)
 Ja:gX K mg "_law_due" (k7 65)
 rA:CH K "Program" "row_line" "Program.row_line" (lB (k7 26) 6)
 Dk:gX K mg "with_rows" (k7 45)
 qF:CH K "Program" "row_words" "Program.row_words" (lB (k7 26) 4)
 rB:gX K mg "may_be_otherwise" (k7 43)
 qb:gX K mg "are_words_of_a_row" (k7 44)
 vu:gX K mg "row_otherwise" (k7 42)
 t6:CH K "Program" "bodies" "Program.bodies" (lB (k7 26) 2)
 Dl:gX K mg "_law_class" (k7 66)
 Fz:gX K mg "_law_good" (k7 67)
 Ym:gX K mg "law" (k7 68)
local macro_rules
  |`(tactic|sleep 0)=>do
  let f:=λs=>zzz s #[]
  let n:=λs:String=>((s.splitOn " ").toArray.map λx=>(Lean.mkIdent x.toName:Lean.TSyntax `term))
  let b:=("iQ _:PD _ _ (gq _),rT ? ?:ux _ _ _,Es:PD _ _ (dC _),tw:PD _ _ (dC _),UJ:PD _ _ (dC _),Xl:PD _ _ (dC _),QD:PD _ _ (dC _),Lu (Md.yn !) rfl:PD _ _ (dC _),Lu (Md.yo !) rfl:PD _ _ (dC _),ixA ? ? ?:PD _ _ (d2 gH _ _),W_ ? ? ?:Al _ _ (fB (d2 _ _ _)),PF.pd (Vn ? ?):PD _ _ (d2 IL _ _),Xm ? ? ?:PD _ (.BinOp _ _ _ _) _,KL ? ? ? #:PD _ _ (d2 mE _ _),X_ ? ? ?:PD _ (.Compare _ [1 _ _) _,KW _ !:me _ .own _ (.Return (some (.Name _ _)) _) _,KU ?:me _ .own _ _ (f9 _),Qi _ ! ? ! ? ?:PX _ _ _ _,Lz _ _ ? ? @ @:me _ _ _ _ (dV (fY _ (iJ _ _ _ _)) _),vE _ ? ?:me _ _ _ _ (dV _ _),P6 _ ? ? ?:me _ _ _ _ (jI _ _),ED ? ? ?:me _ _ _ _ (gA _ _),P8 ? ? ? ? ?:me _ _ _ _ (ri _ _ _),Ay PassesOwn.never ? ? ? ? ?:me _ _ _ _ (jf _ _ _),P9 _ ? ? ?:me _ _ _ _ (je _ _ _ _),K0 _ ? ? ?:me _ _ _ _ (yT _ _ _ _),Qa _ ? ? ?:me _ _ _ _ (EG _ _ _),Qd ? ? ?:me _ _ _ _ (yU _ _),P7 ? ?:me _ _ _ _ (EE _),KZ _:PP _ _ (.sl _),XQ _ ?:PP _ _ _,EH ? (Md.range !) ?:Va _ _ _ (iI _),Li ? (Md.enumerate !) ?:Va _ _ _ (yZ _),Qb _ ?:PG _ (.Name _ _) _,Qc _ _ ? ?:PG _ (.Tuple [2 _ _) _,Iv _ _ _ ? ?:PG _ _ _,Ls ?:Al _ _ (uE _),Xv ?:Al _ (.BoolOp _ _ _) _,Kw ! ! ? ?:PD _ _ (ji _ _ _),PF.pd (K7 ! ! ? ?):PD _ _ (ji _ _ _),Cd P0 ? (Md.len !) ? ?:PD _ _ (iH jQ _),Cd (Vi ?) ? (Md.all !) ? ?:PD _ _ (iH CA _),yP Vl ? (Md.int !) ? ?:PD _ _ (iH rn _),U2 % ?:PD _ _ (lj _ _ _),La ! ? !:PD _ _ (jJ _ _ _ _ _ fW),PF.pd (CG ! ? !):PD _ _ (jJ _ _ _ _ _ fW),Qh ! ? ! ?:PD _ _ (jJ _ _ _ _ _ _),PF.pd (GN ! ? ! ?):PD _ _ (jJ _ _ _ _ _ _),Lc PySem.F.slot_str_join PySem.F.type_str_join Qo ? ?:PD _ _ (qL iE _ _),Lc PySem.F.slot_str_partition PySem.F.type_str_partition AB ? ?:PD _ _ (qL ll _ _),Vh PySem.F.slot_list_index PySem.F.type_list_index (Ll !) ? ?:PD _ _ (Qx _ _ _),Lq _ ? @ @:PD _ _ (iJ _ _ _ _),II _ ? @ @:PD _ _ (wy _ _ _ _),Ex ? (Md.range !) ?:Gz _ _ _ (iI _),Ld ? ?:PF _ _ (qL _ _ _),Qw ? ? (Md.list !) ?:PF _ _ (iH iY _),K7 ! ! ? ?:PF _ _ (ji _ _ _),CG ! ? !:PF _ _ (jJ _ _ _ _ _ fW),GN ! ? ! ?:PF _ _ (jJ _ _ _ _ _ _),Qg ! ! ? ?:PF _ _ (pJ _ _ _ _),PF.pd ?:PD _ _ (qL iF _ _),PF.pd ?:PD _ _ (iH iY _),PF.pd ?:PD _ _ (ql _ _ _),PF.pd ?:PD _ _ (pJ _ _ _ _),PF.pd ?:PD _ _ (d2 Vg _ _)".splitOn ",").toArray.map (·.splitOn ":")
  let t<-b.mapM λx=>f x[0]!
  let g<-b.mapM λx=>f x[1]!
  let a0:=n "Gw wg Kq v8 U8 UR UQ Sx Xp Qq UP AE UN Vj IG Xr Ue Ug"
  let a1:=n "UU Kp kM GH XO U5 U6 U7 GI Vb Lh Py Ko Pq Kr Qy PM Kz Xt XN Xu KP"
  let a2:=n "tF K4 Lb Pu UT Qz"
  let a3:=n "KY Ks K8"
  let a4:=n "Md.p0 Md.rz Md.wU Md.t4 Md.wV Md.t5 Md.vl Md.vm Md.wW Md.vn Md.C6 Md.wX Md.A8 Md.Fp Md.A9 Md.C7 Md.Fq Md.QY Md.QZ"
  `(tactic|((try((with_reducible show k9 _ _ _ _ _);conv=>arg 4;whnf));repeat' first|(with_reducible first $[|exact $a0]* $[|refine $a1 ?_]* $[|refine $a2 ?_ ?_]* $[|refine $a3 ?_ ?_ ?_]*)|(first $[|((with_reducible show $g);refine $t)]*)|((with_reducible show jw _ _ _);first $[|exact $a4 ‹_›]*)|assumption|rfl|decide))
  |`(zS 0)=>`(by sleep 0)
section
variable {P:Program}{K:Fg} (M:Md P w K mg)
include M
theorem uW:oq P w K mg base "_law_draw" 1 2 gM :=
 gu [2] M.Fs λd c b a=>zS 0
theorem sx:oq P w K mg base "_law_kinds" 1 1 jS :=
 gu [1] M.C8 λd c b a=>zS 0
theorem sy:oq P w K mg base "_law_heads" 1 2 kB :=
 gu [2] M.C9 λd c b a=>zS 0
theorem Bj:oq P w K mg base "_law_parts" 1 2 pT :=
 gu [2,99] M.Dc λd c b a=>by
  sleep 0
  exact IK 2 [] b a (zS 0) (λ_ _ _ _=>v8) (λ_ _ _ _=>(zS 0));exact IJ c a (KZ 2) (zS 0) (zS 0) (λ_ _=>rfl) (λ_ _=>rfl)
theorem Bl:oq P w K mg base "_law_begun" 1 4 lM :=
 gu [4] M.Dd λd c b a=>zS 0
theorem qc:oq P w K mg base "_law_cell_at" 1 2 eT :=
 gu [] M.yp λd c b a=>zS 0
theorem vv:oq P w K mg base "_law_head_row" 1 1 i5 :=
 gu [] M.wY λd c b a=>zS 0
theorem sC:oq P w K mg base "_law_names" 1 1 iL :=
 gu [] M.De λd c b a=>zS 0
theorem uX:oq P w K mg base "_law_word" 1 2 oJ :=
 gu [] M.Ft λd c b a=>zS 0
theorem t7:oq P w K mg base "_law_condition" 1 2 lW :=
 gu [] M.vo λd c b a=>zS 0
theorem qQ:oq P w K mg base "_law_handed" 1 3 kR :=
 gu [] M.Ba λd c b a=>zS 0
theorem qR:oq P w K mg base "_law_caller" 2 4 jo :=
 gu [] M.Bb λd c b a=>have:=qQ M;zS 0
theorem sD:oq P w K mg base "_law_plain" 2 5 kF :=
 gu [] M.Df λd c b a=>have:=qQ M;zS 0
theorem Dm:oq P w K mg base "_law_body" 3 6 mM :=
 gu [7,8] M.Fv λd c b a=>have:=qR M;have:=t7 M;have:=sC M;have:=sD M;have:=uX M;by
  sleep 0
  exact IM 7 [] b a (zS 0) (λ_ _ _ _=>v8) (λ_ _ _ _=>(zS 0))
theorem Bm:oq P w K mg base "_law_lines" 4 4 nj :=
 gu [9] M.Dg λd c b a=>have:=Bl M;have:=Dm M;have:=qc M;have:=uW M;have:=vv M;have:=sy M;have:=sx M;have:=Bj M;by
  sleep 0
  exact Vm (zS 0) (zS 0)
theorem vw:tH P w K mg base "Reading" 1 1 mQ :=
 AO [] M.wZ λd c b a=>zS 0
theorem qd:oq P w K mg base "method_body" 1 2 jA :=
 gu [] M.yq λd c b a=>by
  sleep 0
  exact Qr (AF (SH (iQ 0)) (AF tw (AF (SH (iQ 1)) Vf)))
theorem oP:oq P w K mg base "head_body" 2 1 gP :=
 gu [] M.Dh λd c b a=>have:=qd M;zS 0
theorem t8:oq P w K mg base "numbered_rows" 3 1 kj :=
 gu [1] M.vp λd c b a=>have:=oP M;zS 0
theorem j4:qk P w K mg base "Program" "shown" 1 1 gB :=
 LH [] M.vq λd c b a=>zS 0
theorem t9:oq P w K mg base "rows_of_words" 2 1 kl :=
 gu [] M.vr λd c b a=>have:=j4 M;zS 0
theorem yu:oq P w K mg base "body_heads" 3 1 mh :=
 gu [1] M.Bc λd c b a=>have:=oP M;have:=t9 M;zS 0
theorem vx:tH P w K mg base "Program" 4 2 hV :=
 AO [] M.w8 λd c b a=>have:=yu M;have:=t8 M;by
  sleep 0
  exact X2 (zS 0)
theorem sE:AA P w K mg base "head_kept" 1 1 gQ :=
 LG [] M.Di λd c b a=>zS 0
theorem pj:oq P w K mg base "names_what_is_told" 2 2 ek :=
 gu [] M.qa λd c b a=>have:=sE M;have:=qd M;zS 0
theorem xf:oq P w K mg base "form_of" 1 1 tY :=
 gu [] M.IZ λd c b a=>by
  sleep 0
  exact QE M.su rfl (zS 0);exact Vk M.su rfl (zS 0) (λ_ _=>rfl);exact QA M.Q0 rfl (zS 0) {(rfl),rfl,rfl,rfl}
theorem Dn:oq P w K mg base "parts_of" 2 1 rq :=
 gu [1] M.Fw λd c b a=>have:=xf M;by
  sleep 0
  exact Iw PassesOwn.never (zS 0) (zS 0);exact EO rfl rfl M.list rfl M.zip (iQ 1) (zS 0)
theorem Dp:tH P w K mg base "Row" 3 2 mR :=
 AO [] M.Fx λd c b a=>have:=Dn M;by
  sleep 0
  exact yP (Qs rfl) rfl M.dict (by rfl) (zS 0)
theorem xh:Cp P w K mg base "close_block" 1 1 jB :=
 CI [] M.yr λd c b a=>by
  sleep 0
  exact Iy a
theorem ua:Cp P w K mg base "turns_to_else" 1 1 km :=
 CI [] M.vt λd c b a=>zS 0
theorem qS:oq P w K mg base "is_letters" 1 1 hI :=
 gu [] M.Be λd c b a=>by
  sleep 0
  exact IC AE AE tw (iQ 1) tw
theorem xi:oq P w K mg base "is_name" 2 1 n5 :=
 gu [] M.I7 λd c b a=>have:=qS M;zS 0
theorem Jb:oq P w K mg base "is_row" 3 1 mS :=
 gu [] M.Nj λd c b a=>have:=xf M;have:=xi M;zS 0
theorem vy:Cp P w K mg base "reads_within" 5 3 fM :=
 CI [] M.w9 λd c b a=>have:=Dp M;have:=xh M;have:=Jb M;have:=ua M;by
  sleep 0
  exact Iz (zS 0)
theorem uY:oq P w K mg base "are_once" 1 1 mT :=
 gu [] M.Fy λd c b a=>by
  sleep 0
  exact IF rfl rfl M.len rfl M.set (iQ 0)
theorem yv:Cp P w K mg base "reads_kind" 2 2 mi :=
 CI [3] M.Bf λd c b a=>have:=uY M;by
  sleep 0
  exact EF a (KZ 3) (zS 0);exact uF (O':=[0]) 3 (by decide) (by decide) (have a:([0]:List Nat).Nodup:=by decide
  (zS 0))
theorem xj:AA P w K mg base "head_params" 1 1 iU :=
 LG [1] M.yt λd c b a=>zS 0
theorem rD:oq P w K mg base "are_heads_names" 2 1 gd :=
 gu [] M.sv λd c b a=>have:=uY M;have:=sE M;have:=xj M;zS 0
theorem FA:oq P w K mg base "is_head" 3 2 lz :=
 gu [] M.I8 λd c b a=>have:=rD M;zS 0
theorem Bn:Cp P w K mg base "reads_row" 6 3 fO :=
 CI [] M.Dj λd c b a=>have:=oP M;have:=FA M;have:=yv M;have:=vy M;zS 0
theorem l3:yi P w K mg base (JA M.xt).1 (JA M.xt).2.1 "read_program" 7 1 ez :=
 VD [1] M.xa λa d c b=>have:=vx M;have:=xi M;have:=pj M;have:=Bn M;by
  sleep 0
  exact K9 (vw M) a rfl;exact Ay PassesOwn.leaving rfl (zS 0) (zS 0) (by decide) (kM (Qn (XT (Vd (zS 0) (Ql (Qk (Qj (zS 0)))))) (kM (tQ (K' M.jZ nP (mF M.xt).mC) rfl (iQ 3) a)) wg));exact tQ (K' M.jZ nP (mF M.xt).mC) rfl (zS 0) a;exact uF (O':=[]) 1 (by decide) (by decide) (have b:([]:List Nat).Nodup:=by decide
  (tF (Ay PassesOwn.leaving rfl (zS 0) (zS 0) (by decide) (kM (KY (zS 0) (kM (tQ (K' M.jZ nP (mF M.xt).mC) rfl (iQ 3) a)) wg))) (kM (L3 (zS 0)))))
theorem j0:qk P w K mg base "Program" "many_rows" 1 1 fZ :=
 LH [] M.qE λd c b a=>zS 0
theorem yw:oq P w K mg base "_law_spoilt" 1 2 kW :=
 gu [] M.Bg λd c b a=>zS 0
theorem vz:oq P w K mg base "_law_some_row" 3 4 jV :=
 gu [] M.xb λd c b a=>have:=qR M;have:=sC M;have:=sD M;have:=uX M;zS 0
theorem yx:oq P w K mg base "_law_places" 1 1 kX :=
 gu [1] M.Bh λd c b a=>zS 0
theorem FC:oq P w K mg base "_law_due" 8 3 jC :=
 gu [5] M.Ja λc d b a=>have:=yx M;by
  sleep 0
  exact QX (iQ 4);exact Mb 6 (mF M.xt) (l3 M) c b rfl rfl (zS 0) (λ_=>(kM (GI (Kp (rT tw (zO (GU (iQ 6) (mF M.xt).cl.1 (QV M.jZ (mF M.xt).mC).1 (QV M.jZ (mF M.xt).mC).2)))))))
theorem qG:qk P w K mg base "Program" "row_line" 1 2 iA :=
 LH [] M.rA λd c b a=>zS 0
theorem Bp:wF P w K mg base (JA M.xt).1 (JA M.xt).2.1 "with_rows" (λ_=>true) 8 2 nu :=
 Me [2] M.Dk λb d c a=>have:=qG M;have:=j4 M;by
  sleep 0
  exact LM PassesOwn.leaving rfl (zS 0) (zS 0) (by decide) (zS 0);exact CQ (yi.fresh (l3 M)) b rfl (zS 0)
theorem lO:pL P w K mg base "Program" "row_words" 1 2 ik :=
 LI [] M.qF λd c b a=>zS 0
theorem qH:oq P w K mg base "may_be_otherwise" 2 2 fV :=
 gu [] M.rB λd c b a=>have:=j0 M;have:=lO M;by
  sleep 0
  exact Mg AE Sx Es (iQ 1) (zS 0)
theorem pk:oq P w K mg base "are_words_of_a_row" 2 1 gf :=
 gu [] M.qb λd c b a=>have:=qS M;zS 0
theorem ub:wF P w K mg base (JA M.xt).1 (JA M.xt).2.1 "row_otherwise" (λ_=>true) 9 3 gC :=
 Me [] M.vu λb d c a=>have:=pk M;have:=qH M;by
  sleep 0
  exact E3 (mF M.xt).r0 rfl tw;exact CQ (Bp M) b rfl (rT (iQ 0) (zO (Mf (iQ 1) (iQ 2))))
theorem sF:pL P w K mg base "Program" "bodies" 1 1 i6 :=
 LI [] M.t6 λd c b a=>zS 0
theorem sJ:Ma P w K mg base "_law_class" 1 1 uV :=
 VE M.Dl λb a=>by
  sleep 0
  exact wG (iQ 0) rfl M.isinstance rfl (mF M.xt).m1 (mF M.xt).t1;exact wG (iQ 0) rfl M.isinstance rfl (mF M.xt).m2 (mF M.xt).t2;exact wG (iQ 0) rfl M.isinstance rfl (mF M.xt).m3 (mF M.xt).t3;exact VB (iQ 0) rfl M.isinstance rfl M.ValueError (by rfl) (mF M.xt).tV;exact wG (iQ 0) rfl M.isinstance rfl (mF M.xt).r0.at_ (mF M.xt).tR;exact wG (iQ 0) rfl M.isinstance rfl (mF M.xt).mC (mF M.xt).tC
theorem Dq:oq P w K mg base "_law_good" 10 4 jY :=
 gu [6] M.Fz λb d a c=>have:=sF M;have:=j0 M;have:=lO M;have:=j4 M;have:=FC M;by
  sleep 0
  exact Mc 7 10 (mF M.xt) (ub M) b a rfl rfl rfl (zS 0) (λ_=>(tF (vE 8 a (GH (CW (sJ M) b rfl (zS 0)))) (kM (vE 9 a (GH (GU (iQ 10) (mF M.xt).cl.1 (QV M.jZ (mF M.xt).mC).1 (QV M.jZ (mF M.xt).mC).2)))))) (λ_=>(kM (vE 8 a (GH (CW (sJ M) b rfl (zS 0))))))
theorem VM{d:Addr}(b:mg "law"=Y (.ref d)):∃c:FuncData,(∀(s:Shared) (u:Value),BindsTo s c {[u],[]} [("_law_script",u)])/\∀a:Heap,K.In a->a.Ns mainGlobals mg->j6 P w K mg a vd 11 d c ["_law_script"] (OK K 1 Hg) :=
 Vp [] b M.Ym λ_=>λf h g e=>have:=j0 M;have:=j4 M;have:=qc M;have:=uW M;have:=Dq M;have:=sy M;have:=sx M;have:=Bm M;have:=vz M;have:=yw M;by
  sleep 0
  exact Kw (yi.own (l3 M)) f rfl (zS 0)
end
open PySem L2 PySem.StrLaws PySem.Builtin PySem.Builtin.Str
open PySem
def Hh(i:Nat)(a:a0):gq i a=(a[i]?).join:=rfl
def Bq(d:fJ)(a:a0):dC d a=Y d:=rfl
def FE(o:fJ->fJ->Od)(f g:a0->Od)(a:a0):d2 o f g a=(f a).bind λx=>(g a).bind λy=>o x y:=rfl
def VN(n:Nat)(f:Lp->Od)(b:a0->Option Lp)(a:a0):ji n f b a=(b a).bind λc=>if c.length=n then f c else Z:=rfl
def Nk(f:Lp->Od)(b:a0->Option Lp)(a:a0):iH f b a=(b a).bind f:=rfl
def xk(a:a0):fW a=Y []:=rfl
def nv(f:a0->Od)(b:a0->Option Lp)(a:a0):c4 f b a=(f a).bind λx=>(b a).bind λc=>Y (x::c):=rfl
def Yn(c:a0->Option Lp)(a:a0):mz c a=(c a).bind λb=>if b.length<=sizeLine then Y (.tuple b) else Z:=rfl
def Yo(c:a0->Option Lp)(a:a0):gk c a=(c a).bind λb=>if b.length<=sizeLine then Y (.list b) else Z:=rfl
def Q1(f:a0->Od)(l h:FO)(a:a0):ko f l h a=(f a).bind λx=>(l a).bind λb=>(h a).bind λc=>D3 x b c:=rfl
def Q2(f:a0->Od)(a:a0):kJ f a=(f a).bind λd=>match d with | .int i=>Y (Y i)|_=>Z:=rfl
def Q3(a:a0):lJ a=Y Z:=rfl
def Nl(f:a0->Od)(l h:FO)(a:a0):ql f l h a=(f a).bind λx=>(l a).bind λb=>(h a).bind λc=>match x with | .list xs=>Y (.list (m9 xs b c))|_=>Z:=rfl
def Yp(o:fJ->Lp->Od)(f:a0->Od)(b:a0->Option Lp)(a:a0):qL o f b a=(f a).bind λd=>(b a).bind λc=>match d with | .str z=>o (.str z) c|_=>Z:=rfl
def Yq(o:fJ->Lp->Od)(f:a0->Od)(b:a0->Option Lp)(a:a0):Qx o f b a=(f a).bind λd=>(b a).bind λc=>match d with | .list z=>o (.list z) c|_=>Z:=rfl
def Tv(b:Lr)(n:Str)(f:a0->Od)(a:a0):lj b n f a=(f a).bind (iK b n):=rfl
def Nm(q:a0->Option Lp)(a:List (Nat×Str))(g:a0->Option Bool)(f:a0->Od)(b:a0):iJ q a g f b=(q b).bind λc=>if c.length<=sizeLine then (gG g f (md a b) c).map .list else Z:=rfl
def VO(f:a0->Od)(a:a0):pb f a=(f a).bind λd=>match d with | .list ds=>Y ds | .tuple ds=>Y ds|_=>Z:=rfl
def VP(f:a0->Od)(a:a0):oW f a=(f a).bind λd=>match d with | .list ds=>Y ds | .tuple ds=>Y ds | .str x=>Y (oB x)|_=>Z:=rfl
def Nn(f:a0->Od)(ρ:a0):f9 f ρ=(f ρ).map .rt:=rfl
def FF(f:a0->Od)(i:Nat)(a:a0):dV f i a=(f a).map λd=>.nx (a.set i (Y d)):=rfl
def FG(f:a0->Od)(i:Nat)(ρ:a0):jI f i ρ=(f ρ).bind λd=>if i<ρ.length then Y (.nx (ρ.set i (Y d))) else Z:=rfl
def Yr(a:a0):f7 a=Y (.nx a):=rfl
def xm(O:List Nat)(f:a0->Od)(ρ:a0):fY O f ρ=f (il O ρ):=rfl
def Tw(f:a0->Od)(a:a0):P4 f a=(f a).bind λd=>if lK d=true then Y d else Z:=rfl
def Ys(f:a0->Od)(a:a0):P5 f a=(f a).bind λd=>if yc d=true then Y d else Z:=rfl
def zp(O:List Nat)(f:a0->Option Lp)(a:a0):wh O f a=f (il O a):=rfl
def Q4(f:a0->Od)(a:a0):fB f a=(f a).bind λd=>match d with | .bool b=>Y b|_=>Z:=rfl
def Yt(f:a0->Od)(a:a0):uE f a=(f a).bind jL:=rfl
def VQ(f:a0->Option Bool)(a:a0):pa f a=(f a).map (!·):=rfl
def Yu(i:Nat)(o:Int->Int->Int)(f:a0->Od)(c:a0):EG i o f c=(c[i]?).join.bind λx=>(f c).bind λd=>match x,d with | .int a,.int b=>Y (.nx (c.set i (Y (.int (o a b)))))|_,_=>Z:=rfl
def uZ(b:Pl)(e c:a0->Od)(a:a0):ri b e c a=(ph b a).bind λl=>(c a).bind λd=>(e a).bind λg=>(vi g d l).map λf=>.nx (rY b f a):=rfl
def Hj(b:Pl)(f:a0->Od)(a:a0):gA b f a=(ph b a).bind λl=>(f a).bind λd=>match l with | .list ds=>if ds.length<sizeLine then Y (.nx (rY b (.list (ds++[d])) a)) else Z|_=>Z:=rfl
def Yv(f:a0->Od)(b:Tg)(a:a0):yU f b a=(f a).bind λd=>(mZ b d a).map .nx:=rfl
def zq(q:a0->Option Lp)(b:Tg)(g:a0->Option Out)(a:a0):jf q b g a=(q a).bind λc=>ib (mZ b) g c a:=rfl
def Np(f:a0->Od)(a:a0):wj f a=(P4 f a).bind λd=>(a[0]?).join.map λb=>.rt (.tuple [d,b]):=rfl
def uc(i:Nat)(c n:Str)(f:a0->Od)(a:a0):je i c n f a=(a[i]?).join.bind λx=>(f a).bind λd=>match x with | .dict ((.none,.str c')::r)=>if c'=c/\kK c n=false/\r.length<1000 then Y (.nx (a.set i (Y (.dict ((.none,.str c)::ou n d r))))) else Z|_=>Z:=rfl
def VR(c b:Str)(n:Nat)(F:Lp->Od)(f:a0->Od)(e:a0->Option Lp)(a:a0):jJ c b n F f e a=(f a).bind λd=>if jF c b d=true then (e a).bind λg=>if g.length+1=n then F (d::g) else Z else Z:=rfl
def VS(c:Str)(n:Nat)(F:Lp->Option (fJ×fJ))(b:a0->Option Lp)(a:a0):pJ c n F b a=(b a).bind λe=>if e.length+1=n then (F (.dict [(.none,.str c)]::e)).bind λr=>match r with|(.none,d)=>Y d|_=>Z else Z:=rfl
def M'(b:a0->Option Str)(a:a0):C_ b a=(b a).bind λz=>if z.length<=sizeLine then Y (.str z) else Z:=rfl
def N'(f:a0->Od)(b:a0->Option Str)(a:a0):Ct f b a=(f a).bind λd=>(b a).bind λz=>match d with | .str y=>Y (y++z)|_=>Z:=rfl
def P'(f:a0->Od)(a:a0):XU f a=(f a).bind λd=>match d with | .str x=>if x.length<=sizeLine then Y (.str x) else Z|_=>Z:=rfl
def Q5(O:List Nat)(i n:Nat)(F:Lp->Option (fJ×fJ))(b:a0->Option Lp)(a:a0):wm O i n F b a=(a[i]?).join.bind λd=>(b (il O a)).bind λc=>if c.length+1=n then (F (d::c)).bind λr=>if lK r.1=true then Y (r.1,a.set i (Y r.2)) else Z else Z:=rfl
def VT(h:a0->Option (fJ×a0))(a:a0):Cq h a=(h a).bind λr=>(r.2[0]?).join.map λb=>.rt (.tuple [r.1,b]):=rfl
def Q'(h:a0->Option (fJ×a0))(a:a0):hT h a=(h a).bind λr=>match r with|(.bool b,ρ')=>Y (b,ρ')|_=>Z:=rfl
def VU(h:a0->Option (Bool×a0))(a:a0):Vc h a=(h a).map λr=>(!r.1,r.2):=rfl
def S'(f:a0->Od)(a:a0):iI f a=(f a).bind λd=>match d with | .int j=>if -(2 ^ 62)<=j/\j<2 ^ 62 then Y (mB 0 j.toNat) else Z|_=>Z:=rfl
def VW(f:a0->Od)(a:a0):yZ f a=(f a).bind λd=>match d with | .list ds=>Y (pK ds)|_=>Z:=rfl
def Yw(b:Pl)(f:a0->Od)(a:a0):Au b f a=(ph b a).bind λl=>(f a).bind λd=>match l,d with | .list ds,.list es=>if ds.length+es.length<=sizeLine then Y (.nx (rY b (.list (ds++es)) a)) else Z|_,_=>Z:=rfl
def Zu(h:a0->Option Out):Option Out->Option Out
 |some (.nx ρ)=>h ρ
 |o=>o
def qT(g h:a0->Option Out)(a:a0):bo g h a=Zu h (g a):=by
 unfold bo Zu;cases g a with
 |none=>rfl
 |some o=>cases o<;>rfl
def xn(h:a0->Option Out)(a:a0):Zu h (Y (.nx a))=h a:=rfl
def Nq(h:a0->Option Out)(d:fJ):Zu h (Y (.rt d))=Y (.rt d):=rfl
def JB(c:Option Bool)(g h:a0->Option α)(ρ:a0):Option α:=match c with
 |some true=>g ρ
 |some false=>h ρ
 |none=>none
def Yx{α:Type}(g h:a0->Option α)(a:a0):JB (Y true) g h a=g a:=rfl
def Yy{α:Type}(g h:a0->Option α)(ρ:a0):JB (Y false) g h ρ=h ρ:=rfl
def VX(c:a0->Option Bool)(g h:a0->Option Out)(ρ:a0):ir c g h ρ=JB (c ρ) g h ρ:=by unfold ir JB;rcases c ρ with _|_|_<;>rfl
def Yz(f g:a0->Option Bool)(ρ:a0):nF f g ρ=JB (f ρ) g (λ_=>Y false) ρ:=by unfold nF JB;rcases f ρ with _|_|_<;>rfl
def YA(f g:a0->Option Bool)(ρ:a0):uy f g ρ=JB (f ρ) (λ_=>Y true) g ρ:=by unfold uy JB;rcases f ρ with _|_|_<;>rfl
def VY(f g:a0->Od)(ρ:a0):oX f g ρ=JB ((f ρ).bind XY) g (λ_=>Y (.bool false)) ρ:=by
 unfold oX JB;rcases f ρ with _|d
 .rfl
 .simp only[aJ];rcases XY d with _|_|_<;>rfl
def YB(b:Bool):XY (.bool b)=Y b:=rfl
def FH:Option Out->Od
 |some (.rt d)=>Y d
 |some (.nx _)=>Y .none
 |_=>Z
def xp(N:Lr)(g:a0->Option Out)(a:Lp):gL N g a=FH (g (gm N a)):=by
 unfold gL FH;cases g (gm N a) with
 |none=>rfl
 |some o=>cases o<;>rfl
def Br(d:fJ):FH (Y (.rt d))=Y d:=rfl
def Q6(a:a0):FH (Y (.nx a))=Y .none:=rfl
def VZ:Option Out->Od
 |some (.rt d)=>Y d
 |_=>Z
def V0(N:Lr)(g:a0->Option Out)(a:Lp):Az N g a=VZ (g (gm N a)):=by
 unfold Az VZ;cases g (gm N a) with
 |none=>rfl
 |some o=>cases o<;>rfl
def Q7(d:fJ):VZ (Y (.rt d))=Y d:=rfl
def FI:Option Out->Option (fJ×fJ)
 |some (.rt (.tuple [d,d0]))=>Y (d,d0)
 |some (.nx ρ)=>(ρ[0]?).join.map λd0=>(.none,d0)
 |_=>Z
def ud(N:Lr)(g:a0->Option Out)(e:Lp):n0 N g e=FI (g (gm N e)):=by
 unfold n0;cases g (gm N e) with
 |none=>rfl
 |some o=>cases o<;>first|rfl|(rename_i d;cases d<;>first|rfl|(rename_i l;rcases l with _ | ⟨a,_ | ⟨b,_ | ⟨c,l⟩⟩⟩<;>rfl))
def sL(a b:fJ):FI (Y (.rt (.tuple [a,b])))=Y (a,b):=rfl
def Q8(a:a0):FI (Y (.nx a))=(a[0]?).join.map λb=>(.none,b):=rfl
def oQ(N:Lr)(a:Lp):gm N a=a.map Y++List.replicate (N.length - a.length) Z:=rfl
def ue(ρ:a0):il [] ρ=ρ:=rfl
def x3(i:Nat)(O:List Nat)(ρ:a0):il (i::O) ρ=(il O ρ).set i Z:=rfl
def Tz(i:Nat)(a:a0):ph (.sl i) a=(a[i]?).join:=rfl
def TB(i:Nat)(d:fJ)(a:a0):rY (.sl i) d a=a.set i (Y d):=rfl
def sizeLine_eq:sizeLine=16777216:=by decide
def k8{a b:Prop}(x:a)(y:b):a/\b:={(x),y}
def U':=k8 @Hh (k8 @Bq (k8 @FE (k8 @VN @Nk)))
def V':=k8 @xk (k8 @nv (k8 @Yn (k8 @Yo (k8 @Q1 @Q2))))
def W':=k8 @Q3 (k8 @Nl (k8 @Yp (k8 @Yq (k8 @Tv @Nm))))
def Y':=k8 @VO (k8 @VP (k8 @Nn (k8 @FF (k8 @FG @Yr))))
def Z':=k8 @xm (k8 @Tw (k8 @Ys (k8 @zp (k8 @Q4 @Yt))))
def aaa:=k8 @VQ (k8 @Yu (k8 @Hj (k8 @Yv (k8 @zq @Np))))
def aab:=k8 @VR (k8 @VS (k8 @M' (k8 @N' @P')))
def aac:=k8 @Q5 (k8 @VT (k8 @Q' (k8 @VU (k8 @VW @Yw))))
def aad:=k8 @qT (k8 @xn (k8 @Nq (k8 @Yx (k8 @Yy @VX))))
def aae:=k8 @Yz (k8 @YA (k8 @VY (k8 @YB (k8 @xp @Br))))
def YC:=k8 @Q6 (k8 @V0 (k8 @Q7 (k8 @ud (k8 @sL @Q8))))
def YD:=k8 @oQ (k8 @ue (k8 @x3 (k8 @Tz (k8 @TB @sizeLine_eq))))
local macro_rules
  |`(tactic|simp? only[$a,*])=>do
  let l:=("U' V' W' Y' Z' aaa aab aac aad aae YC YD List.map_cons List.map_nil List.length_cons List.length_nil List.cons_append List.nil_append List.getElem?_cons_zero List.getElem?_cons_succ List.getElem?_nil Option.join_some Option.join_none Option.bind_some Option.bind_none Option.map_some Option.map_none List.set_cons_zero List.set_cons_succ List.replicate_zero List.replicate_succ Nat.reduceAdd Nat.reduceSub Nat.reduceLeDiff Nat.reduceLT Nat.reduceEqDiff Nat.zero_add if_true if_false Bool.not_true Bool.not_false reduceCtorEq and_self and_true true_and Nat.zero_le".splitOn " ").toArray.map λx=>(Lean.mkIdent x.toName:Lean.TSyntax `term)
  `(tactic|simp only[$a,*,↓reduceIte,$[$l:term],*])
def Nr:zZ "\n"={#[10]}:=by decide +kernel
def qe:zZ " "={#[32]}:=by decide +kernel
def Q9:zZ "."={#[46]}:=by decide +kernel
theorem Bs{c:Nat}:∀(f d i g:List Nat),c∉f->c∉d->f++c::i=d++c::g->f=d/\i=g
 |[],[],_,_,_,_,h=>by simp at h;exact{(rfl),h}
 |[],a::d,_,_,_,h2,h=>by simp at h;exact absurd h.1 (by intro e;subst e;simp at h2)
 |a::f,[],_,_,h1,_,h=>by simp at h;exact absurd h.1 (by intro e;subst e;simp at h1)
 |a::f,b::d,i,g,h1,h2,h=>by simp only[bf,List.cons.injEq] at h;simp only[ag,not_or] at h1 h2;obtain⟨k,j⟩:=Bs f d i g h1.2 h2.2 h.2;exact{by rw[h.1,k],j}
def Nt{c:Nat}(a d b:List Nat)(e:c∉a)(h:a=d++c::b):False:=e (by rw[h];simp)
def qp(c:Nat)(a b:Str)(r:Lr):(Str.join {#[c]} (a::b::r)).cps.toList=a.cps.toList++c::(Str.join {#[c]} (b::r)).cps.toList:=by show (a++({#[c]}:Str)++Str.join {#[c]} (b::r)).cps.toList=_;simp[fE]
theorem Dr(c:Nat):∀(g f:Lr),g≠[]->f≠[]->(∀p∈g,c∉p.cps.toList)->(∀p∈f,c∉p.cps.toList)->Str.join {#[c]} g=Str.join {#[c]} f->g=f
 |[],_,h,_,_,_,_=>absurd rfl h
 |_::_,[],_,h,_,_,_=>absurd rfl h
 |[a],[b],_,_,_,_,h=>by have:a=b:=h;rw[this]
 |[a],b::j::r,_,_,h1,_,h=>by have e:=bJ (λz:Str=>z.cps.toList) h;simp only[qp] at e;exact(Nt _ _ _ (h1 a (by simp)) e).elim
 |a::a2::r,[b],_,_,_,d,h=>by have e:=bJ (λz:Str=>z.cps.toList) h;simp only[qp] at e;exact(Nt _ _ _ (d b (by simp)) e.symm).elim
 |a::a2::r,b::j::t,_,_,h1,d,h=>by have e:=bJ (λz:Str=>z.cps.toList) h;simp only[qp] at e;obtain⟨n,m⟩:=Bs _ _ _ _ (h1 a (by simp)) (d b (by simp)) e;have l:a=b:=Str.ext' (dU.mp n);have k:=Dr c (a2::r) (j::t) (by simp) (by simp) (λp i=>h1 p (by simp[i])) (λp i=>d p (by simp[i])) (Str.ext' (dU.mp m));rw[l,k]
def Nu(x y:Str):Txt.split x y≠[]:=by
 unfold Txt.split;split
 .simp
 .split
  .simp
  .rw[partsBetween_eq];obtain⟨p,r,e⟩:=partsFrom_ne x y.length 0 (occurrences x y 0 x.length (x.length+1));rw[e];simp
def FJ(c:Nat)(a:Lr)(d:a≠[])(h:∀p∈a,c∉p.cps.toList):Txt.split (Str.join {#[c]} a) {#[c]}=a :=
 Dr c _ _ (Nu _ _) d (λp b=>split_free _ c p b) h (join_split _ _)
theorem qU(x:Str)(w:Nat):∀(b:List Nat) (a:Nat),(partsFrom x w a b).length=b.length+1
 |[],_=>rfl
 |c::r,a=>by show (strSub x a c::partsFrom x w (c+w) r).length=_;simp[qU x w r]
abbrev wl(ws:List Str):fJ:=.list (ws.map .str)
def Hl(c:Nat)(a:Lr)(b:a≠[])(h:∀p∈a,c∉p.cps.toList)(d:(Str.join {#[c]} a).length<=1000000):
  iF (.str (Str.join {#[c]} a)) [.str {#[c]}]=Y (wl a):=by
 have e:=occ_length_le_len (Str.join {#[c]} a) {#[c]} 0 (Str.join {#[c]} a).length ((Str.join {#[c]} a).length+1);show (if _ then _ else Z)=_;rw[ah {rfl,by rw[sizeLine_eq];omega,by rw[partsBetween_eq,qU,sizeLine_eq];omega},FJ c a b h]
theorem oy:∀a:Lr,nL (a.map .str)=Y a
 |[]=>rfl
 |p::a=>by show (nL (a.map .str)).map (p::·)=_;rw[oy a];rfl
def Nv(c:Nat)(a:Lr){B:Nat}(b:∀y∈a,y.length<=B)(h:a.length*B+a.length<=1000000):
  iE (.str {#[c]}) [wl a]=Y (.str (Str.join {#[c]} a)):=by
 show (nL (a.map .str)).bind (λtexts=>if JoinOk {#[c]} texts=true then Y (fJ.str (Txt.join {#[c]} texts)) else Z)=_;rw[oy];have:JoinOk {#[c]} a=true:=by unfold JoinOk;rw[joinFits b (by show _+a.length*1<=_;omega)];rfl
 show (if JoinOk {#[c]} a=true then Y (fJ.str (glued {#[c]} a)) else Z)=_;rw[ah this,glued_eq_join]
def Ds(c:Nat)(a:Lr){B:Nat}(b:∀y∈a,y.length<=B):(Str.join {#[c]} a).length<=a.length*B+a.length:=by have d:=join_length_le {#[c]} a;have e:=sumLen_le a b;have:({#[c]}:Str).length=1:=rfl;rw[this] at d;omega
theorem zr(c k:Nat)(e:k≠c):∀d:Lr,(∀p∈d,k∉p.cps.toList)->k∉(Str.join {#[c]} d).cps.toList
 |[],_=>by simp[Str.join,Str.empty]
 |[a],h=>h a (by simp)
 |a::b::r,h=>by rw[qp];have:=zr c k e (b::r) (λp f=>h p (by simp[f]));have g:=h a (by simp);simp only[ax,ag,not_or];exact{(g),e,this}
def lH(x:Str):Bool:=decide (1<=x.length)&&decide (x.length<=8)&&x.cps.toList.all λc=>decide (97<=c)&&decide (c<=122)
def kz:lH x=true↔1<=x.length/\x.length<=8/\∀c∈x.cps.toList,97<=c/\c<=122:=by simp only[lH,bH,cj,aY,and_assoc]
def sM(h:lH x=true){c:Nat}(b:c<97):c∉x.cps.toList:=λa=>by have:=((kz.mp h).2.2 c a).1;omega
def kY(h:lH x=true):fJ.strOk x=true:=by unfold fJ.strOk;rw[Array.all_eq_true_iff_forall_mem];intro c a;have:=((kz.mp h).2.2 c (by simpa using a)).2;simp;omega
def iN(h:fJ.strOk x=true):SeqAt.shaped (.str x)=true:=by simp[SeqAt.shaped,fJ.canLay0,fJ.depth,h]
def Bt(a b:Str):fJ.eqv (.str a) (.str b)=(a==b):=by rw[fJ.eqv]
def Dt{a b:Str}(d:fJ.strOk a=true)(c:fJ.strOk b=true):j7 (.str a) (.str b)=Y (.bool (a==b)):=by rw[j7,ah {iN d,iN c},Bt]
def Du{a b:Str}(d:fJ.strOk a=true)(c:fJ.strOk b=true):mY (.str a) (.str b)=Y (.bool (!(a==b))):=by rw[mY,ah {iN d,iN c},Bt]
theorem rE:∀a:Lr,fJ.depthAll (a.map .str)=0
 |[]=>by simp[fJ.depthAll]
 |w::a=>by simp[fJ.depthAll,fJ.depth,rE a]
def qq{a:Lr}(h:∀w∈a,fJ.strOk w=true):SeqAt.shaped (wl a)=true:=by
 have:fJ.canLayAll0 (a.map .str)=true:=by rw[eE];simpa using h
 simp[SeqAt.shaped,fJ.canLay0,fJ.depth,this,rE]
theorem u3:∀d c:Lr,fJ.eqvAll (d.map .str) (c.map .str)=decide (d=c)
 |[],[]=>by rw[bj,fJ.eqvAll];rfl
 |[],b::c=>by rw[bj,af,fJ.eqvAll];simp
 |a::d,[]=>by rw[bj,af,fJ.eqvAll];simp
 |a::d,b::c=>by
  rw[af,af,fJ.eqvAll,Bt,u3 d c];by_cases e:a=b
  .subst e;simp
  .simp[e]
def Nw(b a:Lr):fJ.eqv (wl b) (wl a)=decide (b=a):=by rw[fJ.eqv,u3]
def rF{b a:Lr}(d:∀w∈b,fJ.strOk w=true)(c:∀w∈a,fJ.strOk w=true):j7 (wl b) (wl a)=Y (.bool (decide (b=a))):=by rw[j7,ah {qq d,qq c},Nw]
def Nx{a bs:Lr}(c:∀w∈a,fJ.strOk w=true)(b:∀w∈bs,fJ.strOk w=true):mY (wl a) (wl bs)=Y (.bool (!decide (a=bs))):=by rw[mY,ah {qq c,qq b},Nw]
theorem Dv(x:Str):∀a:Lr,(a.map fJ.str).any (λy=>fJ.eqv y (.str x))=decide (x∈a)
 |[]=>by simp
 |y::a=>by
  rw[af,bQ,Bt,Dv x a];by_cases e:y=x
  .subst e;simp
  .have b:¬ x=y:=λz=>e z.symm;simp[e,b]
def nA{ys:Lr}(b:fJ.strOk x=true)(a:∀w∈ys,fJ.strOk w=true):j9 (.str x) (wl ys)=Y (decide (x∈ys)):=by show (if _ then _ else Z)=_;rw[ah {iN b,by rw[List.all_map,aY];intro w hw;exact iN (a w hw),by simp[fJ.depth]},Dv]
def lt1(c d:Nat):decide (([c]:List Nat)<[d])=decide (c<d):=by rw[lt_cons_cons];simp
def YE:zZ "a"={#[97]}:=by decide +kernel
def YF:zZ "z"={#[122]}:=by decide +kernel
def Jc{c:Nat}(h:97<=c/\c<=122)(x:fJ):jx [Y x,Y (.str {#[c]})]=Y (.nx [Y x,Y (.str {#[c]})]):=by
 have d:oz (.str {#[97]}) (.str {#[c]})=Y (.bool true):=by show Y (fJ.bool (!decide (([c]:List Nat)<[97])))=_;rw[lt1,az (by omega)];rfl
 have b:oz (.str {#[c]}) (.str {#[122]})=Y (.bool true):=by show Y (fJ.bool (!decide (([122]:List Nat)<[c])))=_;rw[lt1,az (by omega)];rfl
 have a:lS oz oz (zA "a") iu (zA "z") [Y x,Y (.str {#[c]})]=Y true:=by simp only[lS,dC,gq,YE,YF,bM,bW,dW,aJ,d,b];rfl
 simp? only[jx,a]
theorem rG(x:fJ):∀(l:List Nat) (o:Od),(∀c∈l,97<=c/\c<=122)->∃a,ib (mZ (.one 1)) jx (l.map λc=>.str {#[c]}) [Y x,o]=Y (.nx [Y x,a])
 |[],o,_=>{(o),rfl}
 |c::l,o,h=>by obtain⟨a,e⟩:=rG x l (Y (.str {#[c]})) λz b=>h z (by simp[b]);refine{a,?_};rw[af,ib];show ((jx [Y x,Y (.str {#[c]})])).bind _=_;rw[Jc (h c (by simp))];exact e
def sN:fJ.strOk (zZ "")=true:=by decide +kernel
def Ra(h:lH x=true):n5 [.str x]=Y (.bool true):=by
 obtain⟨i,l,g⟩:=kz.mp h;obtain⟨k,e⟩:=rG (.str x) x.cps.toList Z g;have a:(x==zZ "")=false:=by rw[aT];intro z;subst z;exact absurd i (by decide +kernel)
 have f:hI [.str x]=Y (.bool true):=by
  simp? only[hI,oM]
  rw[show oB x=x.cps.toList.map λc=>fJ.str {#[c]} from rfl,e]
  simp? only[Du (kY h) sN,a]
 have b:(x.length:Int)<=8:=by omega
 have d:x.length<=16777216:=by omega
 have j:oz (.int x.length) (.int 8)=Y (.bool true):=by simp[oz,Zi,dI,b]
 simp? only[n5,zo,jQ,PC,ah d,f,j]
def hF(a b:String):j7 (.str (zZ a)) (.str (zZ b))=Y (.bool (a==b)):=by rw[Dt (ba a) (ba b),jk]
def lP(a b:String):mY (.str (zZ a)) (.str (zZ b))=Y (.bool (!(a==b))):=by rw[Du (ba a) (ba b),jk]
def qV(l:Lp)(i:Int):gH (.list l) (.int i)=q9 l i:=rfl
def WB(l:Lp)(i:Int):gH (.tuple l) (.int i)=q9 l i:=rfl
def xq(a:α)(l:List α):q9 (a::l) 0=Y a:=by
 have:(0:Int)<((l.length:Nat):Int)+1:=by omega
 simp[q9,yJ,this]
def Rb(a b:α)(l:List α):q9 (a::b::l) 1=Y b:=by
 have:(1:Int)<((l.length:Nat):Int)+1+1:=by omega
 simp[q9,yJ,this]
def at2(a b c:α)(l:List α):q9 (a::b::c::l) 2=Y c:=by
 have:(2:Int)<((l.length:Nat):Int)+1+1+1:=by omega
 simp[q9,yJ,this]
def xr(n d:Nat)(v:Int):HT.j3 n d (Y v)=if v<0 then (v+(n:Int)).toNat else min v.toNat n:=rfl
def sO(l:List α)(k:Nat)(a:k<=l.length):m9 l (Y (k:Int)) Z=l.drop k:=by unfold m9;rw[xr,aq (by omega)];simp only[HT.j3];rw[dF,Nat.min_eq_left a,fw];simp
def V1(l:List α)(k:Nat)(a:k<=l.length):m9 l Z (Y (k:Int))=l.take k:=by unfold m9;rw[xr,aq (by omega)];simp only[HT.j3];rw[dF,Nat.min_eq_left a];simp
def Bu(a b:α)(l:List α):m9 (a::b::l) (Y 2) Z=l:=by have:=sO (a::b::l) 2 (by simp);simpa using this
def aaf(a b c:α)(l:List α):m9 (a::b::c::l) (Y 3) Z=l:=by have:=sO (a::b::c::l) 3 (by simp);simpa using this
def qr(l:Lp):iY [.list l]=Y (.list l):=rfl
def JC(l:Lp)(a b:Option Int):D3 (.list l) a b=Y (.list (m9 l a b)):=rfl
def mj(l:Lp):jQ [.list l]=Y (.int l.length):=rfl
theorem sP(x:Str)(r:Lr):∀(a:Lr) (n:Nat),x∉a->oA (λy=>fJ.eqv y (.str x)) ((a++x::r).map .str) n=Y (n+a.length)
 |[],n,_=>by rw[bE,af,oA,Bt];simp
 |p::a,n,h=>by
  simp only[ag,not_or] at h;rw[bf,af,oA,Bt,sP x r a (n+1) h.2];have:¬ (p==x)=true:=by simpa using λz:p=x=>h.1 z.symm
  rw[aq this];simp only[ay]
  congr 1;omega
def zt{r:Lr}(b:fJ.strOk x=true)(a:∀w∈ps++x::r,fJ.strOk w=true)(h:x∉ps)(c:(ps++x::r).length<=1000):
  AG (.list ((ps++x::r).map .str)) [.str x]=Y (.int ps.length):=by
 show (if _ then _ else Z)=_;rw[ah {iN b,by rw[List.all_map,aY];intro w hw;exact iN (a w hw),by simp[fJ.depth],by rw[aj,sizeLine_eq];omega},sP x r ps 0 h];simp
def gJ(x y:fJ):rK x y=(j9 x y).map .bool:=rfl
def iP(x y:fJ):lh x y=(j9 x y).map λb=>.bool (!b):=rfl
def kw(a:Lr):Lr:=if a=[] then [] else zZ "keeps"::a
def Hm(f:Str)(r:Lr):gP [wl (zZ "func"::f::r)]=Y (.str f):=by
 have b:("func"=="method")=false:=by decide
 have a:("func"=="func")=true:=by decide
 simp? only[gP,pW,wl,qV,xq,Rb,hF,b,a]
def Ho(k m:Str)(r:Lr)(f:k.length<=8)(e:m.length<=8):gP [wl (zZ "method"::k::m::r)]=Y (.str (k++(zZ "."++m))):=by
 have d:("method"=="method")=true:=by decide
 have c:k.length<=16777216:=by omega
 have b:m.length<=16777216:=by omega
 have a:(k++(zZ "."++m)).length<=16777216:=by rw[cX,cX,show (zZ ".").length=1 by decide +kernel];omega
 simp? only[gP,pW,jA,nO,wl,qV,xq,Rb,at2,hF,d,ah c,ah b,ah a,Str.append_empty]
def Hq:gP [wl ["main"]]=Y (.str "main"):=by kernel_rfl
def Rc(k m:Str)(r:Lr):iU [wl (zZ "method"::k::m::r)]=Y (wl r):=by
 have a:("method"=="method")=true:=by decide
 simp? only[iU,lG,wl,qV,xq,hF,a,JC,aaf,qr]
def Rf(k m:Str)(r:Lr):gQ [wl (zZ "method"::k::m::r)]=Y (wl []):=by
 have a:("method"=="func")=false:=by decide
 simp? only[gQ,nq,wl,qV,xq,lP,a]
def Ny{a:Lr}(h:∀w∈a,fJ.strOk w=true):∀w∈kw a,fJ.strOk w=true:=by
 intro w hw;unfold kw at hw;split at hw
 .simp at hw
 .rcases ag.mp hw with rfl|hw
  .exact ba _
  .exact h w hw
def Rh(f:Str){a:Lr}(i:∀w∈ps,fJ.strOk w=true)(j:∀w∈a,fJ.strOk w=true)(e:zZ "keeps"∉ps)(l:ps.length+a.length<=900):
  iU [wl (zZ "func"::f::(ps++kw a))]=Y (wl ps):=by
 have g:("func"=="method")=false:=by decide
 have c:∀w∈ps++kw a,fJ.strOk w=true:=λw hw=>(ax.mp hw).elim (i w) (Ny j w);have b:=nA (ba "keeps") c;by_cases q:a=[]
 .subst q;have d:ps++kw []=ps:=by simp[kw]
  rw[d] at b ⊢;rw[az e] at b
  simp? only[iU,lG,wl,qV,xq,hF,g,JC,Bu,qr,gJ,b]
 .have d:kw a=zZ "keeps"::a:=by simp[kw,q]
  rw[d] at b c ⊢;rw[aU (by simp)] at b;have h:=zt (ba "keeps") c e (by simp;omega);have k:m9 ((ps++zZ "keeps"::a).map fJ.str) Z (Y (ps.length:Int))=ps.map .str:=by rw[V1 _ _ (by simp)];simp
  simp? only[iU,lG,wl,qV,xq,hF,g,JC,Bu,qr,gJ,b,h,k]
def Hr(f:Str){a:Lr}(i:∀w∈ps,fJ.strOk w=true)(j:∀w∈a,fJ.strOk w=true)(e:zZ "keeps"∉ps)(m:ps.length+a.length<=900):
  gQ [wl (zZ "func"::f::(ps++kw a))]=Y (wl a):=by
 have g:("func"=="func")=true:=by decide
 have c:∀w∈ps++kw a,fJ.strOk w=true:=λw hw=>(ax.mp hw).elim (i w) (Ny j w);have b:=nA (ba "keeps") c;by_cases q:a=[]
 .subst q;have d:ps++kw []=ps:=by simp[kw]
  rw[d] at b ⊢;rw[az e] at b
  simp? only[gQ,nq,wl,qV,xq,lP,g,JC,Bu,qr,iP,b]
 .have d:kw a=zZ "keeps"::a:=by simp[kw,q]
  rw[d] at b c ⊢;rw[aU (by simp)] at b;have h:=zt (ba "keeps") c e (by simp;omega);have k:fU (zi ps.length) (.int 1)=Y (zi (ps.length+1:Nat)):=rfl;have l:m9 ((ps++zZ "keeps"::a).map fJ.str) (Y ((ps.length+1:Nat):Int)) Z=a.map .str:=by
   rw[sO _ _ (by simp),<-List.map_drop]
   congr 1
   simp[List.drop_append]
  simp? only[gQ,nq,wl,qV,xq,lP,g,JC,Bu,qr,iP,b,h,k,l]
theorem zu:∀a:Lr,rm (a.map .str)=Y (a.map .inr)
 |[]=>rfl
 |w::a=>by show ((qC (.str w)).bind λk=>(rm (a.map .str)).map (k::·))=_;rw[zu a];rfl
theorem xu{K:Type}[DecidableEq K]:∀(b a:List K),(a++b).Nodup->l5 a b=a++b
 |[],a,_=>by simp[l5]
 |k::b,a,h=>by
  have c:k∉a:=λz=>by rw[bc] at h;exact h.2.2 k z k (by simp) rfl
  show l5 (rk a k) b=_;have e:rk a k=a++[k]:=by simp[rk,c]
  rw[e,xu b (a++[k]) (by simpa using h)];simp
def Hs{c:Lr}(h:c.Nodup)(g:c.length<=900):mT [wl c]=Y (.bool true):=by
 have d:(c.map (Sum.inr:Str->Key)).Nodup:=by unfold List.Nodup at h ⊢;exact List.Pairwise.map _ (λa b q z=>q (by injection z)) h
 have f:AM gz [Y (.list (c.map .str))]=Y (.int c.length):=by show (rm (c.map .str)).bind _=_;rw[zu];show (if _ then _ else Z)=_;rw[ah (by rw[aj];omega),xu _ _ (by simpa using d)];simp
 have e:j7 (zi c.length) (zi c.length)=Y (.bool true):=by rw[j7,ah {by rfl,by rfl},fJ.eqv];simp
 simp? only[mT,wQ,wl,f,mj,aj,e]
def gD(H:List (Str×fJ)):fJ:=.dict (H.map λp=>(.str p.1,p.2))
theorem zx{t:Str}:∀{H:List (Str×fJ)},t∉H.map (·.1)->j8 (.str t) (H.map λp=>(.str p.1,p.2))=Z
 |[],_=>rfl
 |p::H,h=>by simp only[af,ag,not_or] at h;rw[af,j8,aq (by show ¬ (decide (p.1=t))=true;simpa using λz:p.1=t=>h.1 z.symm)];exact zx h.2
theorem zD{t:Str}{d:fJ}:∀{H:List (Str×fJ)},(H.map (·.1)).Nodup->(t,d)∈H->j8 (.str t) (H.map λp=>(.str p.1,p.2))=Y d
 |[],_,h=>by simp at h
 |p::H,nd,h=>by
  rw[af,bP] at nd;rw[af,j8];rcases ag.mp h with e|e
  .subst e;rw[ah (by show (decide (t=t))=true;simp)]
  .have:p.1≠t:=λz=>nd.1 (by rw[z];exact av.mpr {(t,d),e,rfl});rw[aq (by show ¬ (decide (p.1=t))=true;simpa using this)];exact zD nd.2 e
theorem Dw{t:Str}:∀{H:List (Str×fJ)},t∉H.map (·.1)->((H.map λp=>((.str p.1:fJ),p.2)).any λx=>kL x.1 (.str t))=false
 |[],_=>rfl
 |p::H,h=>by
  simp only[af,ag,not_or] at h;rw[af,bQ,Dw h.2];have:kL (.str p.1) (.str t)=false:=by show decide (p.1=t)=false;simpa using λz:p.1=t=>h.1 z.symm
  rw[this];rfl
def vG(H:List (Str×fJ)):gw (H.map λp=>((.str p.1:fJ),p.2))=false:=by cases H<;>rfl
def FK{H:List (Str×fJ)}(h:t∉H.map (·.1))(a:H.length<=900):vi (.str t) d (gD H)=Y (gD (H++[(t,d)])):=by show (if _ then _ else Z)=_;rw[ah {by rw[aj,sizeLine_eq];omega,vG H}];show Y (fJ.dict (Cm (.str t) d _))=_;rw[Cm,aq (by rw[Dw h];simp)];simp[gD]
theorem Ht{t:Str}:∀{H:List (Str×fJ)},t∈H.map (·.1)->(j8 (.str t) (H.map λp=>(.str p.1,p.2))).isSome=true
 |[],h=>by simp at h
 |p::H,h=>by
  rw[af,j8];by_cases q:p.1=t
  .rw[ah (by show (decide (p.1=t))=true;simpa using q)];rfl
  .rw[aq (by show ¬ (decide (p.1=t))=true;simpa using q)];refine Ht ?_;rw[af] at h;rcases ag.mp h with e|e
   .exact absurd e.symm q
   .exact e
def qW{H:List (Str×fJ)}:j9 (.str t) (gD H)=Y (decide (t∈H.map (·.1))):=by
 show (if gw _=true then Z else _)=_;rw[aq (by rw[vG];simp)];show Y (j8 (.str t) _).isSome=_;by_cases h:t∈H.map (·.1)
 .rw[aU h,Ht h]
 .rw[az h,zx h];rfl
def Nz{H:List (Str×fJ)}(a:(H.map (·.1)).Nodup)(h:(t,d)∈H):gH (gD H) (.str t)=Y d:=by show (if gw _=true then Z else _)=_;rw[aq (by rw[vG];simp)];exact zD a h
def Ri(H:List (Str×fJ)):iY [gD H]=Y (wl (H.map (·.1))):=by show (if gw _=true then Z else _)=_;rw[aq (by rw[vG];simp)];simp[wl,cW]
def Bv:oD .none .none=Y (.bool false):=rfl
def sQ(t:Str):oD (.str t) .none=Y (.bool true):=rfl
def mW(b:Bool):jL (.bool b)=Y b:=rfl
def js(b:Bool):lK (.bool b)=true:=rfl
def V2(b:Str):lK (.str b)=true:=rfl
def V3(b:Int):lK (.int b)=true:=rfl
def Hu:lK .none=true:=rfl
def sR(a:Lr):yc (wl a)=true:=by simp[yc,wl,lK]
def Rj(l:List α)(a:α):q9 (l++[a]) (-1)=Y a:=by
 have c:(1:Int)<=(l.length:Int)+1:=by omega
 have b:(-1+((l.length:Int)+1)).toNat=l.length:=by omega
 simp[q9,yJ,c,b]
def iy{a:BD}{ρ1:a0}(h:(a d ρ).bind g=Y (.nx ρ1)):ib a g (d::ds) ρ=ib a g ds ρ1:=by rw[ib,h];rfl
def d5{A B:a0->Option Out}{a ρ1:a0}{o:Option Out}(c:A a=Y (.nx ρ1))(b:B ρ1=o):bo A B a=o:=by rw[qT,c,xn,b]
def kZ{c:a0->Option Bool}{A B:a0->Option Out}{o:Option Out}(b:c ρ=Y true)(a:A ρ=o):ir c A B ρ=o:=by rw[VX,b,Yx,a]
def gS{c:a0->Option Bool}{A B:a0->Option Out}{o:Option Out}(b:c ρ=Y false)(a:B ρ=o):ir c A B ρ=o:=by rw[VX,b,Yy,a]
local macro_rules
| `(zF $a) => `(d5 (gS (by kernel_rfl) rfl) $a)
def f6(h:f (il O ρ)=Y d):dV (fY O f) i ρ=Y (.nx (ρ.set i (Y d))):=by rw[FF,xm,h];rfl
abbrev tl{a b:a0->Option Out}(_:g=bo a b):a0->Option Out:=b
abbrev el{c:a0->Option Bool}{a b:a0->Option Out}(_:g=ir c a b):a0->Option Out:=b
abbrev tl4{a b c e r:a0->Option Out}(_:g=bo a (bo b (bo c (bo e r)))):a0->Option Out:=r
def NA{acc:Lp}{x:fJ}(a:(ρ[i]?).join=Y (.list acc))(b:acc.length<=1000)(h:f ρ=Y x):gA (.sl i) f ρ=Y (.nx (ρ.set i (Y (.list (acc++[x]))))):=by
 rw[Hj,Tz,a,h];have z:acc.length<sizeLine:=by rw[sizeLine_eq];omega
 simp only[aJ,ah z,TB]
def aag{N:Lr}{A B C E:a0->Option Out}{ρ0 ρ1 ρ2 a:a0}(g:gm N ds=ρ0)(f:A ρ0=Y (.nx ρ1))(e:B ρ1=Y (.nx ρ2))(c:C ρ2=Y (.nx a))(b:E a=Y (.rt d)):gL N (bo A (bo B (bo C E))) ds=Y d:=by rw[xp,g,qT,f,xn,qT,e,xn,qT,c,xn,b,Br]
def qs{a:Tg}{o:Option Out}(h:q (ρ.set i Z)=Y ds)(e:ib (mZ a) g ds ρ=o):jf (wh [i] q) a g ρ=o:=by rw[zq,zp,x3,ue,h];exact e
def Rl{a:Tg}{o:Option Out}(h:q ((ρ.set j Z).set i Z)=Y ds)(e:ib (mZ a) g ds ρ=o):jf (wh [i,j] q) a g ρ=o:=by rw[zq,zp,x3,x3,ue,h];exact e
def nB{T:a0->Option Bool}{C:a0->Od}{a:Lp}(c:q ρ=Y ds)(d:ds.length<=1000)(b:gG T C (md caps ρ) ds=Y a):iJ q caps T C ρ=Y (.list a):=by rw[Nm,c];simp only[aJ];rw[ah (by rw[sizeLine_eq];omega),b];rfl
def NB(a b:Str)(h:a.length+b.length<=1000):fU (.str a) (.str b)=Y (.str (a++b)):=by show (if _ then _ else Z)=_;rw[ah (by rw[sizeLine_eq];omega)]
def TC(i j:Int):j7 (.int i) (.int j)=Y (.bool (i==j)):=by rw[j7,ah {by rfl,by rfl},fJ.eqv]
def neI(i j:Int):mY (.int i) (.int j)=Y (.bool (!(i==j))):=by rw[mY,ah {by rfl,by rfl},fJ.eqv]
def ml(k m:Str):Str:=k++(zZ "."++m)
def ln(ws:Lr):Str:=Str.join {#[32]} ws
def GR(ws:Lr):Prop:=ws≠[]/\(∀w∈ws,lH w=true)/\ws.length<=12
def GR.len{ws:Lr}(h:GR ws):(Str.join {#[32]} ws).length<=108:=by have:=Ds 32 ws (B:=8) λw hw=>(kz.mp (h.2.1 w hw)).2.1;have:=h.2.2;omega
def GR.split{a:Lr}(h:GR a):iF (.str (Str.join {#[32]} a)) [.str {#[32]}]=Y (wl a) :=
 Hl 32 a h.1 (λw hw=>sM (h.2.1 w hw) (by decide)) (by have:=h.len;omega)
def GR.ok{ws:Lr}(h:GR ws):∀w∈ws,fJ.strOk w=true:=λw hw=>kY (h.2.1 w hw)
structure Hb (t:Str) (ws:Lr):Prop where
 hd:(∃r,ws=zZ "func"::t::r)\/(∃k m r,ws=zZ "method"::k::m::r/\t=ml k m/\k.length<=8/\m.length<=8)\/(ws=[zZ "main"]/\t=zZ "main")
 tok:fJ.strOk t=true
def Hb.YG{a:Lr}(h:Hb t a):gP [wl a]=Y (.str t):=by
 rcases h.hd with ⟨r,rfl⟩ | ⟨k,m,r,rfl,rfl,c,b⟩ | ⟨rfl,rfl⟩
 .exact Hm t r
 .exact Ho k m r c b
 .exact Hq
theorem Hb.w0{t:Str}{ws:Lr}(h:Hb t ws):∃(w0:String) (r:Lr),ws=zZ w0::r/\(w0="func"\/w0="method"\/w0="main"):=by
 rcases h.hd with ⟨r,rfl⟩ | ⟨k,m,r,rfl,_⟩ | ⟨rfl,_⟩
 .exact{"func",_,rfl,.inl rfl}
 .exact{"method",_,rfl,.inr (.inl rfl)}
 .exact{"main",_,rfl,.inr (.inr rfl)}
inductive Wk:Nat->Str->List Lr->List (Str×Lr)->List (Lr×Str)->Prop
 |nil (b:Str):Wk 0 b [] [] []
 |kind (b:Str) (r:Lr) {rest:List Lr}{hs:List (Str×Lr)}{ns:List (Lr×Str)}:Wk 0 b rest hs ns->Wk 0 b ((zZ "kind"::r)::rest) hs ns
 |head (b:Str) {t:Str}{ws:Lr}{rest:List Lr}{hs:List (Str×Lr)}{ns:List (Lr×Str)}:Hb t ws->Wk 1 t rest hs ns->Wk 0 b (ws::rest) ((t,ws)::hs) ns
 |fin {d:Nat}{b:Str}{rest:List Lr}{hs:List (Str×Lr)}{ns:List (Lr×Str)}:Wk d b rest hs ns->Wk (d+1) b ([zZ "end"]::rest) hs ns
 |Jd {d:Nat}{b:Str}{rest:List Lr}{hs:List (Str×Lr)}{ns:List (Lr×Str)}:Wk (d+1) b rest hs ns->Wk (d+1) b ([zZ "else"]::rest) hs ns
 |row {d:Nat}{b:Str} (w0:String) (r:Lr) (bl:Bool) {rest:List Lr}{hs:List (Str×Lr)}{ns:List (Lr×Str)}:(w0=="end")=false->(w0=="else")=false->(w0=="if"||w0=="while")=bl ->
   Wk (if bl then d+2 else d+1) b rest hs ns->Wk (d+1) b ((zZ w0::r)::rest) hs ((zZ w0::r,b)::ns)
def sS(w0:String):j9 (.str (zZ w0)) (.tuple [.str (zZ "if"),.str (zZ "while")])=Y (w0=="if"||w0=="while"):=by
 show (if _ then _ else Z)=_;rw[ah {iN (ba _),by simp[iN (ba _)],by simp[fJ.depth]}];simp only[bQ,List.any_nil,df,Bt,jk]
 congr 1
 rw[cU,cU (b:="while")]
abbrev qf:=Int×(List Str×Str)
def NC(i:Nat)(x:qf):fJ×fJ:=(.int (i:Int),.tuple [.int x.1,wl x.2.1,.str x.2.2])
def qt:Nat->List qf->List (fJ×fJ)
 |_,[]=>[]
 |i,x::r=>NC i x::qt (i+1) r
theorem Hv:∀(E:List qf) (i:Nat) (x:qf),qt i (E++[x])=qt i E++[NC (i+E.length) x]
 |[],i,x=>rfl
 |y::E,i,x=>by
  rw[bf,qt,qt,Hv E (i+1) x,bf,ay]
  congr 4;omega
theorem Bw:∀(E:List qf) (i:Nat),(qt i E).length=E.length
 |[],_=>rfl
 |y::E,i=>by rw[qt,ay,Bw E,ay]
def xv(E:List qf)(i:Nat):gw (qt i E)=false:=by cases E<;>rfl
theorem Hw:∀(E:List qf) (i n:Nat),i+E.length<=n->((qt i E).any λx=>kL x.1 (zi n))=false
 |[],_,_,_=>rfl
 |y::E,i,n,h=>by
  rw[ay] at h;rw[qt,bQ,Hw E (i+1) n (by omega)];have:kL (zi i) (zi n)=false:=by show decide ((i:Int)=(n:Int))=false;exact az (by omega)
  show (kL (zi i) (zi n)||false)=false;rw[this];rfl
theorem Hx:∀(E:List qf) (i k:Nat) (x:qf),E[k]?=Y x->j8 (zi (i+k:Nat)) (qt i E)=Y (.tuple [.int x.1,wl x.2.1,.str x.2.2])
 |[],_,_,_,h=>by simp at h
 |y::E,i,0,x,h=>by rw[bW] at h;cases h;rw[qt,NC,j8,ah (by show decide ((i:Int)=((i+0:Nat):Int))=true;simp)]
 |y::E,i,k+1,x,h=>by rw[bM] at h;rw[qt,NC,j8,aq (by show ¬ decide ((i:Int)=((i+(k+1):Nat):Int))=true;simp;omega)];have:=Hx E (i+1) k x h;rwa[show i+1+k=i+(k+1) by omega] at this
def NF(E:List qf):jQ [.dict (qt 0 E)]=Y (zi E.length):=by show (if gw _=true then Z else Y (fJ.int ((qt 0 E).length:Int)))=_;rw[aq (by rw[xv];simp),Bw]
def V4(E:List qf)(x:qf)(a:E.length<=900):vi (zi E.length) (.tuple [.int x.1,wl x.2.1,.str x.2.2]) (.dict (qt 0 E))=Y (.dict (qt 0 (E++[x]))):=by show (if _ then _ else Z)=_;rw[ah {by rw[Bw,sizeLine_eq];omega,xv E 0}];show Y (fJ.dict (Cm _ _ _))=_;rw[Cm,aq (by rw[Hw E 0 E.length (by omega)];simp),Hv,NC,cZ]
def TF{E:List qf}{k:Nat}{x:qf}(h:E[k]?=Y x):gH (.dict (qt 0 E)) (zi k)=Y (.tuple [.int x.1,wl x.2.1,.str x.2.2]):=by show (if gw _=true then Z else _)=_;rw[aq (by rw[xv];simp)];have:=Hx E 0 k x h;rw[cZ] at this;exact this
def YH:D2 (.int 0) (.int 0)=Y (.bool false):=by kernel_rfl
def gtS(d:Nat):D2 (zi (d+1:Nat)) (.int 0)=Y (.bool true):=by show Y (fJ.bool (decide ((0:Int)<((d+1:Nat):Int))))=_;rw[aU (by omega)]
def V5:j7 (.int 0) (.int 0)=Y (.bool true):=by kernel_rfl
def Zv(d:Nat):j7 (zi (d+1:Nat)) (.int 0)=Y (.bool false):=by
 rw[TC]
 congr 2
def uf(d:Nat):(((d+1:Nat):Int) - 1)=(d:Int):=by omega
def zG(d:Nat):((d:Nat):Int)+1=((d+1:Nat):Int):=by omega
def ug(k:Nat)(a:List Lr):Lp:=((a.map λb=>fJ.str (Str.join {#[32]} b)).zipIdx k).map λx=>.tuple [.int x.2,x.1]
def lQ(k:Nat)(b:Lr)(a:List Lr):ug k (b::a)=.tuple [.int (k:Int),.str (Str.join {#[32]} b)]::ug (k+1) a:=by simp[ug,fi]
def l8(a:Str)(r:Lr):gH (wl (a::r)) (.int 0)=Y (.str a):=by simp only[wl,af,qV,xq]
def hq(s:String)(a:Lr):Bool:=decide (a.head?=Y (zZ s))
def o2:Nat->Nat->List Lr->List Nat
 |_,_,[]=>[]
 |0,k,ws::rest=>o2 (if hq "kind" ws then 0 else 1) (k+1) rest
 |d+1,k,ws::rest=>if hq "end" ws then o2 d (k+1) rest else if hq "else" ws then o2 (d+1) (k+1) rest else k::o2 (if hq "if" ws||hq "while" ws then d+2 else d+1) (k+1) rest
def lR(s w:String)(r:Lr):hq s (zZ w::r)=(w==s):=by unfold hq;rw[List.head?_cons,<-jk,Bool.eq_iff_iff];simp
def Rm(x:fJ):∀{d:Nat}{b:Str}{a:List Lr}{D:List (Str×Lr)}{B:List (Lr×Str)},Wk d b a D B->∀(k:Nat) (E:List qf) (bd:fJ) (l r w:Od),(0<d->bd=.str b)->E.length+a.length<=900->(∀f∈a,GR f) ->
  ∃o u s q p,o.map (·.2)=B/\o.map (·.1)=(o2 d k a).map (λ(n:Nat)=>(n:Int))/\ib (mZ (.many [4,5])) ew (ug k a) [Y x,Y (.dict (qt 0 E)),Y bd,Y (zi d),l,r,w]=Y (.nx [Y x,Y (.dict (qt 0 (E++o))),u,Y (.int 0),s,q,p]):=by
 intro d b a D B h;induction h with
 |nil b=>intro k E bd l r w _ _ _;exact{[],Y bd,l,r,w,rfl,rfl,by rw[aG];rfl}
 |@kind b i j D B J y=>
  intro k E bd l r w F v m;have g:=m _ (bh ..);sleep 1;obtain⟨o,u,s,q,p,A,z,e⟩:=y (k+1) E bd (Y (zi k)) (Y (.str (Str.join {#[32]} (zZ "kind"::i)))) (Y (wl (zZ "kind"::i))) (by omega) (by simp at v ⊢;omega) λf hw=>m f (ai _ hw);sleep 2;refine{o,u,s,q,p,A,by rw[z,o2,lR];rfl,?_};rw[lQ,iy ?_,e];show ew [Y x,Y (.dict (qt 0 E)),Y bd,Y (.int 0),Y (zi k),Y (.str (Str.join {#[32]} (zZ "kind"::i))),w]=_;have G:("kind"=="end")=false:=by decide
  have N:(!("kind"=="kind"))=false:=by decide
  simp? only[ew,qe,g.split,l8,hF,lP,G,N,YH]
  rfl
 |@head b t f j D B O J y=>
  intro k E bd l r w F v m;have g:=m _ (bh ..);sleep 1;obtain⟨o,u,s,q,p,A,z,e⟩:=y (k+1) E (.str t) (Y (zi k)) (Y (.str (Str.join {#[32]} f))) (Y (wl f)) (λ_=>rfl) (by simp at v ⊢;omega) λf hw=>m f (ai _ hw);sleep 2;refine{o,u,s,q,p,A,by
   obtain⟨c,r,M,hw⟩:=O.w0;have C:(c=="kind")=false:=by rcases hw with rfl|rfl|rfl<;>decide
   rw[z,o2,M,lR,C];rfl,?_}
  rw[lQ,iy ?_,e];show ew [Y x,Y (.dict (qt 0 E)),Y bd,Y (.int 0),Y (zi k),Y (.str (Str.join {#[32]} f)),w]=_;obtain⟨c,r,M,hw⟩:=O.w0;have I:(c=="end")=false:=by rcases hw with rfl|rfl|rfl<;>decide
  have C:(c=="kind")=false:=by rcases hw with rfl|rfl|rfl<;>decide
  have G:gH (wl f) (.int 0)=Y (.str (zZ c)):=by rw[M];exact l8 _ _
  simp? only[ew,qe,g.split,G,hF,lP,I,C,YH,O.YG]
  rfl
 |@fin d b j D B J y=>
  intro k E bd l r w F v m;have g:=m _ (bh ..);sleep 1;obtain⟨o,u,s,q,p,A,z,e⟩:=y (k+1) E bd (Y (zi k)) (Y (.str (Str.join {#[32]} [zZ "end"]))) (Y (wl [zZ "end"])) (λ_=>F (by omega)) (by simp at v ⊢;omega) λf hw=>m f (ai _ hw);sleep 2;refine{o,u,s,q,p,A,by rw[z,o2,lR];rfl,?_};rw[lQ,iy ?_,e];show ew [Y x,Y (.dict (qt 0 E)),Y bd,Y (zi (d+1:Nat)),Y (zi k),Y (.str (Str.join {#[32]} [zZ "end"])),w]=_;have G:("end"=="end")=true:=by decide
  simp? only[ew,qe,g.split,l8,hF,lP,G,uf]
 |@Jd d b j D B J y=>
  intro k E bd l r w F v m;have g:=m _ (bh ..);sleep 1;obtain⟨o,u,s,q,p,A,z,e⟩:=y (k+1) E bd (Y (zi k)) (Y (.str (Str.join {#[32]} [zZ "else"]))) (Y (wl [zZ "else"])) (λ_=>F (by omega)) (by simp at v ⊢;omega) λf hw=>m f (ai _ hw);sleep 2;refine{o,u,s,q,p,A,by rw[z,o2,lR,lR];rfl,?_};rw[lQ,iy ?_,e];show ew [Y x,Y (.dict (qt 0 E)),Y bd,Y (zi (d+1:Nat)),Y (zi k),Y (.str (Str.join {#[32]} [zZ "else"])),w]=_;have G:("else"=="end")=false:=by decide
  have N:(!("else"=="else"))=false:=by decide
  have U:("else"=="if"||"else"=="while")=false:=by decide
  simp? only[ew,qe,g.split,l8,hF,lP,G,N,gtS,gJ,sS,U]
 |@row d b c i V j D B I C P J y=>
  intro k E bd l r w F v m;have g:=m _ (bh ..);have L:=F (by omega);subst L;sleep 1;obtain⟨o,u,s,q,p,A,z,e⟩:=y (k+1) (E++[((k:Int),(zZ c::i,b))]) (.str b) (Y (zi k)) (Y (.str (Str.join {#[32]} (zZ c::i)))) (Y (wl (zZ c::i))) (λ_=>rfl) (by simp at v ⊢;omega) λf hw=>m f (ai _ hw);sleep 2;refine{((k:Int),(zZ c::i,b))::o,u,s,q,p,by rw[af,A],by rw[af,z,o2,lR,lR,lR,lR,I,C,P];rfl,?_};rw[aW,fz] at e;rw[lQ,iy ?_,e];show ew [Y x,Y (.dict (qt 0 E)),Y (.str b),Y (zi (d+1:Nat)),Y (zi k),Y (.str (Str.join {#[32]} (zZ c::i))),w]=_;have S:E.length<=900:=by simp at v;omega
  have Q:=V4 E ((k:Int),(zZ c::i,b)) S;have R:=NF E;have K:=sS c;rw[P] at K;have H:ri (.sl 1) (P4 si) S5 [Y x,Y (.dict (qt 0 E)),Y (.str b),Y (zi (d+1:Nat)),Y (zi k),Y (.str (Str.join {#[32]} (zZ c::i))),Y (wl (zZ c::i))] =
    Y (.nx [Y x,Y (.dict (qt 0 (E++[((k:Int),(zZ c::i,b))]))),Y (.str b),Y (zi (d+1:Nat)),Y (zi k),Y (.str (Str.join {#[32]} (zZ c::i))),Y (wl (zZ c::i))]):=by
   simp? only[uZ,R,Q,V3]
  have T:(!(c=="else"))=true:=by rw[C];rfl
  cases V with
  |false=>simp? only[ew,qe,g.split,l8,hF,lP,I,C,gtS,H,gJ,K,cy]
  |true=>simp? only[ew,qe,g.split,l8,hF,lP,I,C,gtS,H,gJ,K,zG]
def hg(hs:List (Str×Lr)):List (Str×fJ):=hs.map λp=>(p.1,wl p.2)
def mn(a:List (Str×Lr)):(hg a).map (·.1)=a.map (·.1):=by simp[hg,cW]
def Rn(m:Od):∀{d:Nat}{b:Str}{a:List Lr}{i:List (Str×Lr)}{n:List (Lr×Str)},Wk d b a i n->∀(H:List (Str×fJ)) (w:Od),(H.map (·.1)++i.map (·.1)).Nodup->H.length+a.length<=900 ->
  ∃f,ib (mZ (.one 3)) fL (a.map wl) [m,Y (gD H),Y (zi d),w]=Y (.nx [m,Y (gD (H++hg i)),Y (.int 0),f]):=by
 intro d b a i n h;induction h with
 |nil b=>intro H w _ _;exact{w,by rw[show hg []=[] from rfl,aG];rfl}
 |@kind b q c i n s k=>
  intro H w g j;obtain⟨f,e⟩:=k H (Y (wl (zZ "kind"::q))) g (by simp at j ⊢;omega);refine{f,?_};rw[af,iy ?_,e];show fL [m,Y (gD H),Y (.int 0),Y (wl (zZ "kind"::q))]=_;have o:("kind"=="end")=false:=by decide
  have E:(!("kind"=="kind"))=false:=by decide
  have x:("kind"=="if"||"kind"=="while")=false:=by decide
  simp? only[fL,l8,hF,lP,o,E,V5,gJ,sS,x]
  rfl
 |@head b t p c i n O s k=>
  intro H w g j;have A:t∉H.map (·.1):=λz=>by rw[bc] at g;exact g.2.2 t z t (by simp) rfl
  obtain⟨f,e⟩:=k (H++[(t,wl p)]) (Y (wl p)) (by simpa using g) (by simp at j ⊢;omega);refine{f,?_};have D:H++hg ((t,p)::i)=H++[(t,wl p)]++hg i:=by simp[hg]
  rw[af,iy ?_,e,D];show fL [m,Y (gD H),Y (.int 0),Y (wl p)]=_;obtain⟨l,r,C,hw⟩:=O.w0;have u:(l=="end")=false:=by rcases hw with rfl|rfl|rfl<;>decide
  have y:(l=="kind")=false:=by rcases hw with rfl|rfl|rfl<;>decide
  have o:gH (wl p) (.int 0)=Y (.str (zZ l)):=by rw[C];exact l8 _ _
  simp? only[fL,uZ,o,hF,lP,u,y,V5,O.YG,FK A (show H.length<=900 by simp at j;omega)]
  rfl
 |@fin d b c i n s k=>
  intro H w g j;obtain⟨f,e⟩:=k H (Y (wl [zZ "end"])) g (by simp at j ⊢;omega);refine{f,?_};rw[af,iy ?_,e];show fL [m,Y (gD H),Y (zi (d+1:Nat)),Y (wl [zZ "end"])]=_;have o:("end"=="end")=true:=by decide
  simp? only[fL,l8,hF,lP,o,uf]
 |@Jd d b c i n s k=>
  intro H w g j;obtain⟨f,e⟩:=k H (Y (wl [zZ "else"])) g (by simp at j ⊢;omega);refine{f,?_};rw[af,iy ?_,e];show fL [m,Y (gD H),Y (zi (d+1:Nat)),Y (wl [zZ "else"])]=_;have o:("else"=="end")=false:=by decide
  have x:("else"=="if"||"else"=="while")=false:=by decide
  simp? only[fL,l8,hF,lP,o,Zv,gJ,sS,x]
 |@row d b l q F c i n u y B s k=>
  intro H w g j;obtain⟨f,e⟩:=k H (Y (wl (zZ l::q))) g (by simp at j ⊢;omega);refine{f,?_};rw[af,iy ?_,e];show fL [m,Y (gD H),Y (zi (d+1:Nat)),Y (wl (zZ l::q))]=_;have v:=sS l;rw[B] at v;cases F with
  |false=>simp? only[fL,l8,hF,lP,u,Zv,gJ,v,cy]
  |true=>simp? only[fL,l8,hF,lP,u,Zv,gJ,v,zG]
def Dx(l:Lp)(a d:fJ):vi (.int (-1)) d (.list (l++[a]))=Y (.list (l++[d])):=by
 have c:(1:Int)<=(l.length:Int)+1:=by omega
 have b:(-1+((l.length:Int)+1)).toNat=l.length:=by omega
 show (yJ _ (-1)).map _=_;simp[yJ,c,b]
def nQ(b a:Lr):wl (b++a)=.list (b.map .str++a.map .str):=by simp[wl]
def Hy(B:Lr)(b:Str):gH (wl (B++[b])) (.int (-1))=Y (.str b):=by rw[nQ];exact Rj _ _
def Zw(s:String):∀w∈[zZ s],fJ.strOk w=true:=by intro w hw;simp at hw;subst hw;exact ba _
def k6{a b:String}(h:(a==b)=false):zZ a≠zZ b:=by intro z;have:=jk a b;rw[z] at this;simp at this;rw[this] at h;simp at h
def NG(b:Bool):rn [.bool b]=Y (.int (if b then 1 else 0)):=rfl
def tx(rows:List Lr):Str:=Str.join {#[10]} (rows.map ln)
structure Rt (rows:List Lr) (hs:List (Str×Lr)) (ns:List (Lr×Str)):Prop where
 wk:Wk 0 {#[]} rows hs ns
 gr:∀ws∈rows,GR ws
 nd:(hs.map (·.1)).Nodup
 tok:∀w∈hs.map (·.1),fJ.strOk w=true
 len:rows.length<=800
 ne:rows≠[]
def Pr(a:List (fJ×fJ)):fJ:=.dict ((.none,.str "Program")::a)
def Ro(a:fJ)(x:Str):Prop:=iK ["Program"] "text" a=Y (.str x)/\jF "Program" "shown" a=true
def sT{a:fJ}(h:Ro a x):gB [a]=Y (.str x):=by
 simp? only[gB,oZ,h.1]
structure NH (ws:Lr):Prop where
 line:10∉(ln ws).cps.toList
 len:(ln ws).length<=108
 split:iF (.str (ln ws)) [.str {#[32]}]=Y (wl ws)
def GR.line{a:Lr}(h:GR a):10∉(ln a).cps.toList:=zr 32 10 (by decide) a λw hw=>sM (h.2.1 w hw) (by decide)
def GR.Hz{a:Lr}(h:GR a):NH a:={h.line,h.len,h.split}
theorem qg(T:a0->Option Bool)(C:a0->Od)(b:T=λ_=>Y true)(c:C=qL iF gz (zC (zZ " ") fW)):∀{a:List Lr},(∀ws∈a,NH ws)->gG T C [] ((a.map ln).map .str)=Y (a.map wl)
 |[],_=>rfl
 |ws::a,h=>by
  have d:=qg T C b c λx (f:x∈a)=>h x (by simp[f]);have g:=h ws (by simp);have e:C [Y (.str (ln ws))]=Y (wl ws):=by
   rw[c]
   simp? only[qe]
   exact g.split
  have i:T [Y (.str (ln ws))]=Y true:=by rw[b]
  rw[af,af,gG,i]
  simp? only[e,d]
def HA{a:List Lr}(h:∀ws∈a,NH ws):∀y∈a.map ln,y.length<=108:=by intro y b;obtain⟨ws,hw,rfl⟩:=av.mp b;exact(h ws hw).len
def zH{a:List Lr}(h:∀ws∈a,NH ws)(d:a.length<=800)(b:a≠[]):iF (.str (tx a)) [.str (zZ "\n")]=Y (wl (a.map ln)):=by
 rw[Nr];refine Hl 10 (a.map ln) (by simpa using b) (λp c=>?_) ?_
 .obtain⟨ws,hw,rfl⟩:=av.mp c;exact(h ws hw).line
 .have:=Ds 10 (a.map ln) (HA h);rw[aj] at this;omega
def Dy{a:List Lr}(h:∀ws∈a,NH ws)(b:a.length<=800):iE (.str (zZ "\n")) [wl (a.map ln)]=Y (.str (tx a)):=by rw[Nr];exact Nv 10 (a.map ln) (HA h) (by rw[aj];omega)
def FN(T:a0->Option Bool)(C:a0->Od)(b:T=λ_=>Y true)(c:C=qL iF gz (zC (zZ " ") fW)){a:List Lr}(h:∀ws∈a,GR ws):gG T C [] ((a.map ln).map .str)=Y (a.map wl):=qg T C b c λws hw=>(h ws hw).Hz
def xw{a:List Lr}(h:∀ws∈a,GR ws)(c:a.length<=800)(b:a≠[]):iF (.str (tx a)) [.str (zZ "\n")]=Y (wl (a.map ln)):=zH (λws hw=>(h ws hw).Hz) c b
def HB{a:List Lr}(h:∀ws∈a,GR ws)(b:a.length<=800):iE (.str (zZ "\n")) [wl (a.map ln)]=Y (.str (tx a)):=Dy (λws hw=>(h ws hw).Hz) b
section
variable {rows:List Lr}
def Rp(H:Rt rows hs ns){a:fJ}(b:Ro a (tx rows)):kl [a]=Y (.list (rows.map wl)):=by
 have f:=H.len;have e:=xw H.gr H.len H.ne;have d:=FN bS jq rfl rfl H.gr;have c:((rows.map ln).map fJ.str).length<=16777216:=by simp;omega
 simp? only[kl,o1,b.2,sT b,e,ah c,md,d]
def NI(H:Rt rows hs ns){pr:fJ}(c:Ro pr (tx rows)):mh [pr]=Y (gD (hg hs)):=by
 have d:=Rp H c;have f:=H.len;obtain⟨e,a⟩:=Rn (Y pr) H.wk [] Z (by simpa using H.nd) (by simp;omega);have b:fJ.dict []=gD []:=rfl;rw[bE] at a
 simp? only[mh,sk,d,b]
 rw[show fJ.int 0=.int ((0:Nat):Int) from rfl,a]
 simp? only[Bq]
def prog(rows:List Lr)(hs:List (Str×Lr))(E:List qf):fJ:=Pr [(.str "text",.str (tx rows)),(.str "numbered",.dict (qt 0 E)),(.str "body_texts",wl (hs.map (·.1)))]
def Dz(H:Rt rows hs ns):∃E,(E.map (·.2)=ns/\E.map (·.1)=(o2 0 0 rows).map λ(n:Nat)=>(n:Int))/\kj [.str (tx rows)]=Y (.dict (qt 0 E)):=by
 have h:=H.len;have c:=xw H.gr H.len H.ne;sleep 1;obtain⟨E,i,g,f,d,b,a,e⟩:=Rm (.str (tx rows)) H.wk 0 [] .none Z Z Z (by omega) (by simp;omega) H.gr;sleep 2;refine{E,{(b),a},?_};have q:pK ((rows.map ln).map fJ.str)=ug 0 rows:=by unfold pK ug;rw[dH];rfl
 rw[bE,show qt 0 []=[] from rfl,show fJ.int ((0:Nat):Int)=.int 0 from rfl] at e
 simp? only[kj,oY,c,q,e]
def Rq{x:fJ}(h:f [Y (Pr []),Y x]=Y d):je 0 "Program" "text" f [Y (Pr []),Y x]=Y (.nx [Y (Pr [(.str "text",d)]),Y x]):=by rw[uc,h];kernel_rfl
def Ru{a x:fJ}(h:f [Y (Pr [(.str "text",a)]),Y x]=Y d):je 0 "Program" "numbered" f [Y (Pr [(.str "text",a)]),Y x]=Y (.nx [Y (Pr [(.str "text",a),(.str "numbered",d)]),Y x]):=by rw[uc,h];kernel_rfl
def Rv{a b x:fJ}(h:f [Y (Pr [(.str "text",a),(.str "numbered",b)]),Y x]=Y d):je 0 "Program" "body_texts" f [Y (Pr [(.str "text",a),(.str "numbered",b)]),Y x]=Y (.nx [Y (Pr [(.str "text",a),(.str "numbered",b),(.str "body_texts",d)]),Y x]):=by rw[uc,h];kernel_rfl
def HC(H:Rt rows hs ns):∃E,(E.map (·.2)=ns/\E.map (·.1)=(o2 0 0 rows).map λ(n:Nat)=>(n:Int))/\hV [Pr [],.str (tx rows)]=Y (.none,prog rows hs E):=by
 obtain⟨E,d,f⟩:=Dz H;refine{E,d,?_};have e:=NI H (pr:=Pr [(.str "text",.str (tx rows)),(.str "numbered",.dict (qt 0 E))]) {by kernel_rfl,by kernel_rfl};have c:(fY [0] iu) [Y (Pr []),Y (.str (tx rows))]=Y (.str (tx rows)):=rfl;have b:MN [Y (Pr [(.str "text",.str (tx rows))]),Y (.str (tx rows))]=Y (.dict (qt 0 E)):=by
  simp? only[f]
 have a:MM [Y (Pr [(.str "text",.str (tx rows)),(.str "numbered",.dict (qt 0 E))]),Y (.str (tx rows))]=Y (wl (hs.map (·.1))):=by
  simp? only[e,Ri,mn,sR]
 simp? only[hV,pX,ud,oQ,qT,Rq c,Ru b,Rv a]
 rfl
def Bx(E:List qf):Ro (prog rows hs E) (tx rows):={by kernel_rfl,by kernel_rfl}
def xx(E:List qf):iK ["Program"] "numbered" (prog rows hs E)=Y (.dict (qt 0 E)):=by kernel_rfl
end
def NJ(l:List α)(k:Nat):q9 l (k:Int)=l[k]?:=by
 unfold q9 yJ;by_cases h:k<l.length
 .simp[h]
 .simp[h]
def Wv(h:n<=1000):(-(2 ^ 62)<=(n:Int)/\(n:Int)<2 ^ 62):=by
 have e:(2:Int) ^ 62=4611686018427387904:=by decide
 rw[e];omega
def aah{j:Int}(h:f ρ=Y (.int j))(a:-(2 ^ 62)<=j/\j<2 ^ 62):iI f ρ=Y (mB 0 j.toNat):=by rw[S',h];simp only[aJ];rw[ah a]
def FP(n:Nat):mB 0 n=(List.range' 0 n).map λ(i:Nat)=>fJ.int (i:Int):=by unfold mB;rw[List.range_eq_range'];refine List.map_congr_left λa _=>?_;rw[Int.zero_add]
def u4(b:n<=1000)(a:a0)(f:a0->Od)(h:f a=Y (zi n)):iI f a=Y ((List.range' 0 n).map λ(i:Nat)=>fJ.int (i:Int)):=by rw[aah h (Wv b),dF,FP]
section
variable {rows:List Lr}
def HE(E:List qf):jF "Program" "row_words" (prog rows hs E)=true:=by kernel_rfl
def NK(E:List qf):jF "Program" "bodies" (prog rows hs E)=true:=by kernel_rfl
def By(E:List qf):jF "Program" "many_rows" (prog rows hs E)=true:=by kernel_rfl
def Bz(E:List qf):jF "Program" "shown" (prog rows hs E)=true:=by kernel_rfl
def qu{a b:Str}(d:fJ.strOk a=true)(c:fJ.strOk b=true):fJ.strOk (a++b)=true:=by unfold fJ.strOk at *;rw[fE,Array.all_append,d,c];rfl
theorem mX{c:Str}(e:fJ.strOk c=true):∀{d:Lr},(∀w∈d,fJ.strOk w=true)->fJ.strOk (Str.join c d)=true
 |[],_=>sN
 |[a],h=>h a (by simp)
 |a::b::r,h=>qu (qu (h a (by simp)) e) (mX e λw hw=>h w (by simp[hw]))
def YI(h:∀ws∈rows,GR ws):fJ.strOk (tx rows)=true:=by refine mX (by decide +kernel) λy a=>?_;obtain⟨ws,hw,rfl⟩:=av.mp a;exact mX (by decide +kernel) (h ws hw).ok
end
section
structure KR where
 nm:Str
 el:Option Str
 own:Lr
def vH:Option Str->Lr
 |none=>[]
 |some j=>[zZ "of",j]
def uh:Lr->Lr
 |[]=>[]
 |a::l=>zZ "fields"::a::l
def ie(r:KR):Lr:=zZ "kind"::r.nm::(vH r.el++uh r.own)
def aai(a:α)(l:List α):m9 (a::l) (Y 1) Z=l:=by have:=sO (a::l) 1 (by simp);simpa using this
def BA:jL (.list [])=Y false:=rfl
def DA(a:fJ)(l:Lp):jL (.list (a::l))=Y true:=rfl
def Rg(c a b bl la:fJ)(ov:Bool):fJ:=.dict [(.none,.str "Reading"),(.str "fields",c),(.str "heads",a),(.str "body",b),(.str "blocks",bl),(.str "over",.bool ov),(.str "later",la)]
abbrev R0:fJ:=Rg (gD []) (gD []) .none (.list []) (.list []) false
variable {la:fJ}
def qv(d c b e:fJ)(a:Bool):iK ["Reading"] "over" (Rg d c b e la a)=Y (.bool a):=by kernel_rfl
def oR(d c b e:fJ)(a:Bool):iK ["Reading"] "body" (Rg d c b e la a)=Y b:=by kernel_rfl
def n7(d a b e:fJ)(c:Bool):iK ["Reading"] "heads" (Rg d a b e la c)=Y a:=by kernel_rfl
def mu(a d b e:fJ)(c:Bool):iK ["Reading"] "fields" (Rg a d b e la c)=Y a:=by kernel_rfl
def qw(e d b a:fJ)(c:Bool):iK ["Reading"] "blocks" (Rg e d b a la c)=Y a:=by kernel_rfl
def NL(d c b e:fJ)(a:Bool):iK ["Reading"] "later" (Rg d c b e la a)=Y la:=by kernel_rfl
def FQ{c a b e:fJ}{x y:Od}(h:f [Y (Rg c a b e la ov),x,y]=Y d):
  je 0 "Reading" "body" f [Y (Rg c a b e la ov),x,y]=Y (.nx [Y (Rg c a d e la ov),x,y]):=by
 rw[uc,h];kernel_rfl
def DB{g f:a0->Od}{a b c:fJ}{H:List (Str×fJ)}{x y:Od}(k:g [Y (Rg a (gD H) b c la ov),x,y]=Y (.str t))(j:f [Y (Rg a (gD H) b c la ov),x,y]=Y d)(h:t∉H.map (·.1))(i:H.length<=900):
  ri (.fl 0 "Reading" "heads") g f [Y (Rg a (gD H) b c la ov),x,y]=Y (.nx [Y (Rg a (gD (H++[(t,d)])) b c la ov),x,y]):=by
 have e:ph (.fl 0 "Reading" "heads") [Y (Rg a (gD H) b c la ov),x,y]=Y (gD H):=by kernel_rfl
 rw[uZ,e,k,j];simp only[aJ,FK h i,cD]
 kernel_rfl
theorem BB{g f:a0->Od}{a b c:fJ}{x y z:Od}(k:g [Y (Rg (gD F) a b c la ov),x,y,z]=Y (.str t))(j:f [Y (Rg (gD F) a b c la ov),x,y,z]=Y d)(h:t∉F.map (·.1))(i:F.length<=900):
  ri (.fl 0 "Reading" "fields") g f [Y (Rg (gD F) a b c la ov),x,y,z]=Y (.nx [Y (Rg (gD (F++[(t,d)])) a b c la ov),x,y,z]):=by
 have e:ph (.fl 0 "Reading" "fields") [Y (Rg (gD F) a b c la ov),x,y,z]=Y (gD F):=by kernel_rfl
 rw[uZ,e,k,j];simp only[aJ,FK h i,cD]
 kernel_rfl
structure Je (F:fJ) (t:Str) (ws:Lr):Prop where
 nm:∀w∈ws,lH w=true
 hd:∃w0 r,ws=zZ w0::r/\(w0="func"\/w0="method"\/w0="main")
 len:ws.length<=12
 YG:gP [wl ws]=Y (.str t)
 ish:∀hs b bl la ov,lz [Rg F hs b bl la ov,wl ws]=Y (.bool true)
 tok:fJ.strOk t=true
def Rw{F:fJ}{a:Lr}(O:Je F t a){H:List (Str×fJ)}(c:t∉H.map (·.1))(e:H.length<=900)(i:Int):
  fO [Rg F (gD H) .none (.list []) la false,.int i,wl a]=Y (.bool true,Rg F (gD (H++[(t,wl a)])) (.str t) (.list []) la false):=by
 obtain⟨b,r,g,hw⟩:=O.hd;have f:(b=="kind")=false:=by rcases hw with rfl|rfl|rfl<;>decide
 have m:gH (wl a) (.int 0)=Y (.str (zZ b)):=by rw[g];simp only[wl,af,qV,xq]
 have l:=O.ish (gD H) .none (.list []) la false;have d:=qW (t:=t) (H:=H);rw[az c] at d;have k:MY [Y (Rg F (gD H) .none (.list []) la false),Y (.int i),Y (wl a)]=Y (.str t):=by
  simp? only[O.YG]
 have j:MX [Y (Rg F (gD H) (.str t) (.list []) la false),Y (.int i),Y (wl a)]=Y (.str t):=by
  simp? only[oR,V2]
 have h:(fY [0] iD) [Y (Rg F (gD H) (.str t) (.list []) la false),Y (.int i),Y (wl a)]=Y (wl a):=by
  simp? only[Bq]
 simp? only[fO,kG,qv,oR,n7,mW,Bv,m,hF,f,l,O.YG,gJ,d,FQ k,DB j h c e,js]
def Zx{i j:Int}(h:¬ i<j):vX (.int i) (.int j)=Y (.bool false):=by simp[vX,dI,h]
def V6:jL (gD [])=Y false:=by kernel_rfl
def TH(j:Nat)(g:a0->Option Out)(a:a0):LC j g a=(g a).map (LB j):=rfl
def Rx(b:Lr):m9 ((uh b).map fJ.str) (Y 1) Z=b.map .str:=by
 cases b with
 |nil=>rfl
 |cons a l=>rw[uh,af,aai]
def YJ{a b c d:Od}{x:fJ}(h:f [Z,b,c,Z]=Y x):dV (fY [0,3] f) 2 [a,b,c,d]=Y (.nx [a,b,Y x,d]):=by rw[FF,xm,x3,x3,ue];show (f [Z,b,c,Z]).map _=_;rw[h];rfl
theorem NM{r:KR}{a:fJ}(d:r.nm∉F.map (·.1))(e:jL a=Y false){b i:fJ}:
  Td [Y (Rg (gD F) a b i la ov),Y (wl (ie r)),Z,Z]=Y false:=by
 have h:gH (wl (ie r)) (.int 1)=Y (.str (r.nm)):=by simp only[ie,wl,af,qV,Rb]
 have g:jQ [wl (ie r)]=Y (.int (((ie r).map fJ.str).length:Int)):=mj _;have f:vX (.int (((ie r).map fJ.str).length:Int)) (.int 2)=Y (.bool false):=Zx (by simp[ie];omega);have c:=qW (t:=r.nm) (H:=F);rw[az d] at c
 simp? only[n7,e,g,f,h,mu,gJ,c]
def Zy(F:List (Str×fJ))(b:Option Str)(a:Lr):Prop:=match b with
 |none=>a=[]
 |some j=>(j,wl a)∈F
theorem NN{h:Option Str}{c d:Lr}(p:(F.map (·.1)).Nodup)(i:Zy F h d){f b g w:fJ}:
  Yf [Y (Rg (gD F) f b g la ov),Y w,Y (wl (vH h++uh c)),Y (wl [])]=Y (.nx [Y (Rg (gD F) f b g la ov),Y w,Y (wl (uh c)),Y (wl d)]):=by
 cases h with
 |none=>
  have e:d=[]:=i;subst e;refine gS ?_ ?_
  .cases c with
   |nil=>simp? only[vH,uh,wl,BA]
   |cons a l=>
    have o:("fields"=="of")=false:=by decide
    simp? only[vH,uh,wl,DA,qV,xq,hF,o]
  .rfl
 |some j=>
  have e:(j,wl d)∈F:=i;have n:("of"=="of")=true:=by decide
  have x:gH (wl (vH (Y j)++uh c)) (.int 0)=Y (.str (zZ "of")):=by simp only[vH,wl,bf,af,qV,xq]
  have m:gH (wl (vH (Y j)++uh c)) (.int 1)=Y (.str (j)):=by simp only[vH,wl,bf,af,qV,Rb]
  have v:D3 (wl (vH (Y j)++uh c)) (Y 2) Z=Y (wl (uh c)):=by simp only[vH,wl,bf,bE,af,JC,Bu]
  have u:jL (wl (vH (Y j)++uh c))=Y true:=rfl;have s:jQ [wl (vH (Y j)++uh c)]=Y (.int (((vH (Y j)++uh c).map fJ.str).length:Int)):=mj _;have r:vX (.int (((vH (Y j)++uh c).map fJ.str).length:Int)) (.int 2)=Y (.bool false):=Zx (by simp[vH];omega);have k:=qW (t:=j) (H:=F);rw[aU (av.mpr {_,e,rfl})] at k;have q:=Nz p e;refine kZ ?_ (d5 (ρ1:=[Y (Rg (gD F) f b g la ov),Y w,Y (wl (vH (Y j)++uh c)),Y (wl [])]) (gS ?_ rfl) (d5 (ρ1:=[Y (Rg (gD F) f b g la ov),Y w,Y (wl (vH (Y j)++uh c)),Y (wl d)]) ?_ (YJ ?_)))
  .simp? only[u,x,hF,n]
  .simp? only[s,r,m,mu,iP,k]
  .simp? only[mu,m,q,qr,sR]
  .simp? only[v]
theorem Ry{r:KR}{b:Lr}{c:fJ}(j:(F.map (·.1)).Nodup)(e:r.nm∉F.map (·.1))(u:jL c=Y false)(n:Zy F r.el b)(k:(b++r.own).Nodup)(m:F.length<=900)(s:b.length+r.own.length<=900):
  mi [Rg (gD F) c .none (.list []) la false,wl (ie r)]=Y (.bool true,Rg (gD (F++[(r.nm,wl (b++r.own))])) c .none (.list []) la false):=by
 have z:(b.map fJ.str).length+(r.own.map fJ.str).length<=16777216:=by simp;omega
 have w:gH (wl (ie r)) (.int 1)=Y (.str (r.nm)):=by simp only[ie,wl,af,qV,Rb]
 have v:D3 (wl (ie r)) (Y 2) Z=Y (wl (vH r.el++uh r.own)):=by simp only[ie,wl,af,JC,Bu]
 have i:=Hs k (by simpa using s);have g:oN [Y (Rg (gD F) c .none (.list []) la false),Y (wl (ie r)),Z,Z]=Y (.rt (.tuple [.bool true,Rg (gD (F++[(r.nm,wl (b++r.own))])) c .none (.list []) la false])):=by
  refine d5 (gS (NM e u) rfl) (d5 (YJ (x:=wl (vH r.el++uh r.own)) ?_) (d5 (ρ1:=[Y (Rg (gD F) c .none (.list []) la false),Y (wl (ie r)),Y (wl (vH r.el++uh r.own)),Y (wl [])]) ?_ (d5 (NN j n) (d5 (ρ1:=[Y (Rg (gD F) c .none (.list []) la false),Y (wl (ie r)),Y (wl (uh r.own)),Y (wl b)]) (gS ?_ rfl) (d5 (ρ1:=[Y (Rg (gD F) c .none (.list []) la false),Y (wl (ie r)),Y (wl (uh r.own)),Y (wl (b++r.own))]) ?_ ?_)))))
  .simp? only[v]
  .simp? only[Bq];rfl
  .have p:r.own=[]\/∃a l,r.own=a::l:=by cases r.own<;>simp
   rcases p with q | ⟨a,l,q⟩
   .rw[q];simp? only[uh,wl,BA]
   .have h:(!("fields"=="fields"))=false:=by decide
    have f:vX (zi ((l.map fJ.str).length+1+1:Nat)) (.int 2)=Y (.bool false):=Zx (by omega);rw[q];simp? only[uh,wl,DA,qV,xq,lP,h,mj,f]
  .simp? only[wl,Rx,ah z,aV]
  .rw[TH,d5 (BB (t:=r.nm) (d:=wl (b++r.own)) ?_ ?_ e m) (o:=Y (.rt (.tuple [.bool true,Rg (gD (F++[(r.nm,wl (b++r.own))])) c .none (.list []) la false]))) ?_]
   .rfl
   .simp? only[w]
   .simp? only[Bq]
   .simp? only[i,js]
 rw[mi,ud];show FI (oN [Y (Rg (gD F) c .none (.list []) la false),Y (wl (ie r)),Z,Z])=_;rw[g,sL]
theorem Rz{r:KR}{a:Lr}{b:fJ}(d:(F.map (·.1)).Nodup)(f:r.nm∉F.map (·.1))(k:jL b=Y false)(h:Zy F r.el a)(e:(a++r.own).Nodup)(g:F.length<=900)(j:a.length+r.own.length<=900)(i:Int):
  fO [Rg (gD F) b .none (.list []) la false,.int i,wl (ie r)]=Y (.bool true,Rg (gD (F++[(r.nm,wl (a++r.own))])) b .none (.list []) la false):=by
 have c:("kind"=="kind")=true:=by decide
 have m:gH (wl (ie r)) (.int 0)=Y (.str (zZ "kind")):=by simp only[ie,wl,af,qV,xq]
 have l:=Ry (la:=la) d f k h e g j
 simp? only[fO,kG,qv,oR,mW,Bv,m,hF,c,l,js]
def HF(h:a0->Option (fJ×a0))(a:a0):EK h a=(h a).map λr=>.nx r.2:=rfl
def NO{c a b e:fJ}{d:Bool}(h:f [Y (Rg c a b e la ov)]=Y (.bool d)):
  je 0 "Reading" "over" f [Y (Rg c a b e la ov)]=Y (.nx [Y (Rg c a b e la d)]):=by
 rw[uc,h];kernel_rfl
def NP{c a b e:fJ}(h:f [Y (Rg c a b e la ov)]=Y d):
  je 0 "Reading" "body" f [Y (Rg c a b e la ov)]=Y (.nx [Y (Rg c a d e la ov)]):=by
 rw[uc,h];kernel_rfl
def NQ(b:fJ.strOk t=true)(F a:fJ):
  jB [Rg F a (.str t) (.list []) la false]=Y (.none,Rg F a .none (.list []) la (t==zZ "main")):=by
 have d:S9 [Y (Rg F a (.str t) (.list []) la false)]=Y (.bool (t==zZ "main")):=by
  simp? only[oR,Dt b (ba _),js]
 have c:(fY [0] uJ) [Y (Rg F a (.str t) (.list []) la (t==zZ "main"))]=Y .none:=rfl
 simp? only[jB,lF,qw,BA,NO d,NP c]
def RA:j7 (.list [.str "end"]) (.list [.str "end"])=Y (.bool true):=by kernel_rfl
def V7(b:fJ.strOk t=true)(F a:fJ)(i:Int):
  fO [Rg F a (.str t) (.list []) la false,.int i,wl ["end"]]=Y (.bool true,Rg F a .none (.list []) la (t==zZ "main")):=by
 have c:fM [Rg F a (.str t) (.list []) la false,.int i,.list [.str "end"]]=Y (.bool true,Rg F a .none (.list []) la (t==zZ "main")):=by
  simp? only[fM,hZ,RA,HF,NQ b,Hu,js]
 simp? only[fO,kG,wl,qv,oR,mW,sQ,c,js]
theorem qx(T:a0->Option Bool)(C:a0->Od)(b:T=λ_=>Y true)(c:C=ji 1 n5 mK):∀(a:Lr),(∀w∈a,lH w=true)->gG T C [] (a.map .str)=Y (a.map λ_=>.bool true)
 |[],_=>rfl
 |w::a,h=>by
  have d:=qx T C b c a λz f=>h z (by simp[f]);have e:C [Y (.str w)]=Y (.bool true):=by rw[c];simp? only[Ra (h w (by simp))]
  have g:T [Y (.str w)]=Y true:=by rw[b]
  rw[af,gG,g]
  simp? only[e,d]
theorem xy{α:Type}:∀a:List α,lD (a.map λ_=>fJ.bool true)=Y (a.map λ_=>true)
 |[]=>rfl
 |w::a=>by show (lD (a.map λ_=>fJ.bool true)).map (true::·)=_;rw[xy a];rfl
def sU(ws:List α):CA [.list (ws.map λ_=>fJ.bool true)]=Y (.bool true):=by show (lD (ws.map λ_=>fJ.bool true)).map _=_;rw[xy];simp
def Reads:Nat->fJ->List Lr->fJ->Prop
 |_,R,[],R'=>R=R'
 |n,R,ws::r,R'=>∃a,(∀w∈ws,lH w=true)/\fO [R,.int (n:Int),wl ws]=Y (.bool true,a)/\Reads (n+1) a r R'
theorem Reads.app:∀{d bs:List Lr}{n:Nat}{R f e:fJ},Reads n R d f->Reads (n+d.length) f bs e->Reads n R (d++bs) e
 |[],_,_,_,_,_,h1,h2=>by cases h1;exact h2
 |_::d,_,n,_,_,_,⟨Q,a,b,c⟩,h2=>{Q,a,b,c.app (by rw[ay] at h2;rwa[show n+1+d.length=n+(d.length+1) by omega])}
def V8:∀w∈[zZ "end"],lH w=true:=by intro w hw;simp at hw;subst hw;decide +kernel
def RB:∀w∈[zZ "else"],lH w=true:=by intro w hw;simp at hw;subst hw;decide +kernel
def Zz(c:Option (Bool×a0))(g h:a0->Option Out):Option Out:=match c with
 |some (true,a)=>g a
 |some (false,a)=>h a
 |none=>Z
def TJ(g h:a0->Option Out)(a:a0):Zz (Y (false,a)) g h=h a:=rfl
def NR(c:a0->Option (Bool×a0))(g h:a0->Option Out)(a:a0):Qm c g h a=Zz (c a) g h:=by unfold Qm Zz;rcases c a with _ | ⟨_|_,b⟩<;>rfl
def TK(g:a0->Option Bool)(h:a0->Option (Bool×a0))(ρ:a0):Zq g h ρ=JB (g ρ) (λρ=>Y (true,ρ)) h ρ:=by unfold Zq JB;rcases g ρ with _|_|_<;>rfl
def Jf{a:Lr}{R d b rw:fJ}{c:Od}{i:Int}(h:∀w∈a,lH w=true)(hw:a.length<=900)(e:fO [R,.int i,wl a]=Y (.bool true,d)):
  d6 [Y b,Y R,Y rw,Y (.int i),Y (wl a),c]=Y (.nx [Y b,Y d,Y rw,Y (.int i),Y (wl a),c]):=by
 have j:=qx bS lN rfl rfl a h;have g:=sU a;have f:a.length<=16777216:=by omega
 simp? only[d6,NR,TJ,TK,wl,aj,ah f,md,j,g,mW]
 rw[show (fJ.list (List.map fJ.str a))=wl a from rfl,e]
 simp? only[js,TJ]
def xA{n:Int}(h:f ρ=Y (.int n))(a:0<=n/\n<10000):pO f ρ=Y (.rt (.int n)):=by unfold pO;rw[h];exact ah a
def NS(g h:a0->Option Out)(a:a0):Zz (Y (true,a)) g h=g a:=rfl
def DC{a:Lr}{R d b rw:fJ}{c:Od}{i:Int}(h:∀w∈a,lH w=true)(hw:a.length<=900)(e:fO [R,.int i,wl a]=Y (.bool false,d))(g:0<=i/\i<10000):
  d6 [Y b,Y R,Y rw,Y (.int i),Y (wl a),c]=Y (.rt (.int i)):=by
 have k:=qx bS lN rfl rfl a h;have j:=sU a;have f:a.length<=16777216:=by omega
 have r:pO iZ [Y b,Y d,Y rw,Y (.int i),Y (wl a),c]=Y (.rt (.int i)):=xA rfl g
 simp? only[d6,NR,NS,TK,wl,aj,ah f,md,k,j,mW]
 rw[show (fJ.list (List.map fJ.str a))=wl a from rfl,e]
 simp? only[js,NS]
 exact r
theorem rH(i rw:fJ)(c:Od):∀(d:List Lr) (n:Nat) (R g:fJ) (a b:Od),Reads n R d g->(∀ws∈d,ws.length<=900) ->
  ∃k j,∀f,ib (mZ (.many [3,4])) d6 ((((d.map wl).zipIdx n).map λx=>.tuple [.int x.2,x.1])++f) [Y i,Y R,Y rw,a,b,c]=ib (mZ (.many [3,4])) d6 f [Y i,Y g,Y rw,k,j,c]
 |[],n,R,g,a,b,h,_=>by cases h;exact{a,b,λ_=>rfl}
 |ws::d,n,R,g,a,b,⟨R1,h1,h2,h3⟩,hl=>by obtain⟨k,j,e⟩:=rH i rw c d (n+1) R1 g (Y (.int n)) (Y (wl ws)) h3 λx l=>hl x (by simp[l]);refine{k,j,λf=>?_};rw[af,fi,af,bf,ib];show (d6 [Y i,Y R,Y rw,Y (.int n),Y (wl ws),c]).bind _=_;rw[Jf h1 (hl ws (by simp)) h2];exact e f
end
def gtI{i j:Int}(h:j<i):D2 (.int i) (.int j)=Y (.bool true):=by simp[D2,dI,h]
def i8(b a:Lr)(h:b.length+a.length<=900):fU (wl b) (wl a)=Y (wl (b++a)):=by show (if _ then _ else Z)=_;rw[ah (by rw[aj,aj,sizeLine_eq];omega),<-aV]
def DD{ks:Lr}(e:∀w∈ps++ks,fJ.strOk w=true)(c:zZ "self"∉ps++ks)(b:(ps++ks).Nodup)(d:ps.length+ks.length<=900){x:fJ}:
  Te [x,Y (wl (ps++ks))]=Y (.rt (.bool true)):=by
 have a:=nA (ba "self") e;rw[az c] at a;have f:=Hs b (by simpa using d)
 simp? only[iP,a,f]
def FR{ws:Lr}(h:ws≠[]):jL (wl ws)=Y true:=by
 cases ws with
 |nil=>exact absurd rfl h
 |cons a l=>rfl
def RC(f:Str){a:Lr}(g:∀w∈ps,fJ.strOk w=true)(i:∀w∈a,fJ.strOk w=true)(k:zZ "keeps"∉ps)(p:zZ "self"∉ps++a)(o:(ps++a).Nodup)(h:ps.length+a.length<=900):
  gd [wl (zZ "func"::f::(ps++kw a))]=Y (.bool true):=by
 have n:("func"=="func")=true:=by decide
 have r:∀w∈ps++kw a,fJ.strOk w=true:=λw hw=>(ax.mp hw).elim (g w) (Ny i w);have s:∀w∈ps++a,fJ.strOk w=true:=λw hw=>(ax.mp hw).elim (g w) (i w);have b:=nA (ba "keeps") r;have e:=Rh f g i k h;have d:=Hr f g i k h;have j:=i8 ps a h;have c:=λx=>DD (x:=x) s p o h;by_cases q:a=[]
 .have l:ps++kw a=ps:=by simp[kw,q]
  rw[l] at b e d ⊢;rw[az k] at b;simp only[wl,af] at e d j c
  simp? only[gd,jM,xp,oQ,qT,c,wl,qV,xq,hF,n,JC,Bu,gJ,b,e,d,j,c]
 .have l:kw a=zZ "keeps"::a:=by simp[kw,q]
  rw[l] at b e d ⊢;rw[aU (by simp)] at b;have m:=FR q;simp only[wl,af] at e d j c m
  simp? only[gd,jM,xp,oQ,qT,c,wl,qV,xq,hF,n,JC,Bu,gJ,b,e,d,j,c,m]
def RD(k m:Str)(h:∀w∈ps,fJ.strOk w=true)(g:zZ "self"∉ps)(f:ps.Nodup)(c:ps.length<=900):
  gd [wl (zZ "method"::k::m::ps)]=Y (.bool true):=by
 have i:("method"=="func")=false:=by decide
 have e:=Rc k m ps;have d:=Rf k m ps;have b:=i8 ps [] (by simpa using c);have a:=λx=>DD (x:=x) (ps:=ps) (ks:=[]) (by simpa using h) (by simpa using g) (by simpa using f) (by simpa using c);simp only[aG] at b a;simp only[wl,af,bj] at e d b a
 simp? only[gd,jM,xp,oQ,qT,a,wl,qV,xq,hF,i,JC,Bu,gJ,e,d,b,a]
def RE(f:Str)(r:Lr)(c:fJ.strOk f=true)(b:f≠zZ "main")(a:gd [wl (zZ "func"::f::r)]=Y (.bool true))(x:fJ):
  lz [x,wl (zZ "func"::f::r)]=Y (.bool true):=by
 have g:("func"=="func")=true:=by decide
 have d:(f==zZ "main")=false:=by simpa using b
 have e:D2 (zi (((r.map fJ.str).length+1+1:Nat))) (.int 1)=Y (.bool true):=gtI (by omega);simp only[wl,af] at a
 simp? only[lz,tZ,wl,qV,xq,Rb,hF,g,mj,e,Du c (ba "main"),d,a]
theorem RF(k m:Str)(r:Lr)(g:k∈F.map (·.1))(a:gd [wl (zZ "method"::k::m::r)]=Y (.bool true))(f b l e:fJ)(d:Bool):
  lz [Rg (gD F) f b l e d,wl (zZ "method"::k::m::r)]=Y (.bool true):=by
 have j:("method"=="func")=false:=by decide
 have h:("method"=="method")=true:=by decide
 have i:D2 (zi (((r.map fJ.str).length+1+1+1:Nat))) (.int 2)=Y (.bool true):=gtI (by omega);have c:=qW (t:=k) (H:=F);rw[aU g] at c;simp only[wl,af] at a
 simp? only[lz,tZ,wl,qV,xq,Rb,hF,j,h,mj,i,mu,gJ,c,a]
def RG{F:fJ}{f:Str}{a:Lr}(c:lH f=true)(m:f≠zZ "main")(d:∀w∈ps,lH w=true)(e:∀w∈a,lH w=true)(l:zZ "keeps"∉ps)(k:zZ "self"∉ps++a)(i:(ps++a).Nodup)(r:ps.length<=5)(q:a.length<=3):
  Je F f (zZ "func"::f::(ps++kw a)):=by
 have g:=λw hw=>kY (d w hw);have h:=λw hw=>kY (e w hw);have n:ps.length+a.length<=900:=by omega
 refine{?_,{"func",_,rfl,.inl rfl},?_,Hm _ _,λj b s p o=>RE f _ (kY c) m (RC f g h l k i n) _,kY c}
 .intro w hw;rcases ag.mp hw with rfl|hw
  .decide +kernel
  rcases ag.mp hw with rfl|hw
  .exact c
  rcases ax.mp hw with hw|hw
  .exact d w hw
  .unfold kw at hw;split at hw
   .simp at hw
   .rcases ag.mp hw with rfl|hw
    .decide +kernel
    .exact e w hw
 .have:(kw a).length<=a.length+1:=by unfold kw;split<;>simp
  simp only[ay,aL];omega
def BC{k m:Str}(a:lH k=true)(b:lH m=true):fJ.strOk (ml k m)=true :=
 qu (kY a) (qu (ba _) (kY b))
theorem RH{k m:Str}(l:k∈F.map (·.1))(a:lH k=true)(c:lH m=true)(d:∀w∈ps,lH w=true)(j:zZ "self"∉ps)(f:ps.Nodup)(p:ps.length<=5):
  Je (gD F) (ml k m) (zZ "method"::k::m::ps):=by
 have e:=λw hw=>kY (d w hw);have h:=(kz.mp a).2.1;have g:=(kz.mp c).2.1;refine{?_,{"method",_,rfl,.inr (.inl rfl)},?_,Ho _ _ _ h g,λi b q o n=>RF k m ps l (RD k m e j f (by omega)) _ _ _ _ _,BC a c}
 .intro w hw;rcases ag.mp hw with rfl|hw
  .decide +kernel
  rcases ag.mp hw with rfl|hw
  .exact a
  rcases ag.mp hw with rfl|hw
  .exact c
  .exact d w hw
 .simp only[ay];omega
def RI(F:fJ):Je F (zZ "main") [zZ "main"] :=
 {by intro w hw;simp at hw;subst hw;decide +kernel,{"main",[],rfl,.inr (.inr rfl)},by decide,Hq,λd b e c a=>by kernel_rfl,ba _}
def RJ(w:String)(c x y k e m d:fJ)(b a:Lp):fJ:=.dict [(.none,.str "Row"),(.str "word",.str (zZ w)),(.str "condition",c),(.str "x",x),(.str "y",y),(.str "kind",k),(.str "field",e),(.str "method",m),(.str "function",d),(.str "handed",.list b),(.str "names",.list a)]
def HG(a:Lr):fJ:=match mR [.dict [(.none,.str "Row")],wl a] with
 |some (_,r)=>r
 |none=>.none
def FT:a0->Option Out:=Tb
def rJ{a:Lr}(g:GR a):mS [wl a]=FH (FT [Y (wl a),Z]):=by
 have e:=qx bS lN rfl rfl a g.2.1;have d:=sU a;have c:(a.map fJ.str).length<=16777216:=by have:=g.2.2;rw[aj];omega
 have b:=FR g.1;show gL _ (bo _ FT) _=_;rw[xp,oQ];refine bJ FH (d5 (ρ1:=[Y (wl a),Z]) ?_ rfl);simp only[wl] at b
 simp? only[wl,b,ah c,md,e,d,mW]
local macro_rules
| `(zR 0) => `(⟨⟨_, rfl⟩, fun h => (rJ h).trans (by kernel_rfl), by kernel_rfl, by kernel_rfl, by kernel_rfl⟩)
structure qX (ws:Lr) (w0:String) (kd:Option Str) (row:fJ):Prop where
 hd:∃r,ws=zZ w0::r
 isr:GR ws->mS [wl ws]=Y (.bool true)
 ini:mR [.dict [(.none,.str "Row")],wl ws]=Y (.none,row)
 kd:iK ["Row"] "kind" row=Y (kd.elim .none .str)
 wd:iK ["Row"] "word" row=Y (.str (zZ w0))
def qX.of{d:Lr}{f:String}{g:Option Str}(h:∃r,d=zZ f::r)(a:FH (FT [Y (wl d),Z])=Y (.bool true))(b:mR [.dict [(.none,.str "Row")],wl d]=Y (.none,HG d))(c:iK ["Row"] "kind" (HG d)=Y (g.elim .none .str))(e:iK ["Row"] "word" (HG d)=Y (.str (zZ f))):qX d f g (HG d):={h,λh=>(rJ h).trans a,b,c,e}
def BE(a b:Str){hs:Lr}(h:hs.length<=6):qX (zZ "func"::a::b::hs) "func" Z (RJ "func" .none (.str a) .none .none .none .none (.str b) (hs.map .str) (.str a::hs.map .str)):=by
 rcases hs with _ | ⟨j,_ | ⟨i,_ | ⟨g,_ | ⟨f,_ | ⟨e,_ | ⟨d,_ | ⟨c,l⟩⟩⟩⟩⟩⟩⟩
 all_goals first|(exfalso;simp at h;done)|exact zR 0
def TL(a b:Str){c:Lr}(h:c.length<=6):qX (zZ "do"::a::b::c) "do" Z (RJ "do" .none (.str a) (.str b) .none .none .none .none (c.map .str) (.str a::.str b::c.map .str)):=by
 rcases c with _ | ⟨k,_ | ⟨j,_ | ⟨i,_ | ⟨g,_ | ⟨f,_ | ⟨e,_ | ⟨d,l⟩⟩⟩⟩⟩⟩⟩
 all_goals first|(exfalso;simp at h;done)|exact zR 0
def NT(a b c:Str){d:Lr}(h:d.length<=6):qX (zZ "ask"::a::b::c::d) "ask" Z (RJ "ask" .none (.str a) (.str b) .none .none (.str c) .none (d.map .str) (.str a::.str b::d.map .str)):=by
 rcases d with _ | ⟨m,_ | ⟨k,_ | ⟨j,_ | ⟨i,_ | ⟨g,_ | ⟨f,_ | ⟨e,l⟩⟩⟩⟩⟩⟩⟩
 all_goals first|(exfalso;simp at h;done)|exact zR 0
def u5(a b c d:Str){e:Lr}(h:e.length<=6):qX (zZ "straight"::a::b::c::d::e) "straight" (Y c) (RJ "straight" .none (.str a) (.str b) (.str c) .none (.str d) .none (e.map .str) (.str a::.str b::e.map .str)):=by
 rcases e with _ | ⟨n,_ | ⟨m,_ | ⟨k,_ | ⟨j,_ | ⟨i,_ | ⟨g,_ | ⟨f,l⟩⟩⟩⟩⟩⟩⟩
 all_goals first|(exfalso;simp at h;done)|exact zR 0
def BF{g d b c:fJ}{a:Lr}{w:Str}{x y z:Od}(h:f [Y (Rg g d b (wl a) c ov),x,y,z]=Y (.str w))(i:a.length<=900):
  gA (.fl 0 "Reading" "blocks") f [Y (Rg g d b (wl a) c ov),x,y,z]=Y (.nx [Y (Rg g d b (wl (a++[w])) c ov),x,y,z]):=by
 have e:ph (.fl 0 "Reading" "blocks") [Y (Rg g d b (wl a) c ov),x,y,z]=Y (.list (a.map .str)):=by kernel_rfl
 have z:(a.map fJ.str).length<sizeLine:=by rw[sizeLine_eq,aj];omega
 rw[Hj,e,h];simp only[aJ,ah z,nQ,af,bj]
 kernel_rfl
def DE{c a b g:fJ}{L:Lp}{x y z:Od}(h:f [Y (Rg c a b g (.list L) ov),x,y,z]=Y d)(i:L.length<=900):
  gA (.fl 0 "Reading" "later") f [Y (Rg c a b g (.list L) ov),x,y,z]=Y (.nx [Y (Rg c a b g (.list (L++[d])) ov),x,y,z]):=by
 have e:ph (.fl 0 "Reading" "later") [Y (Rg c a b g (.list L) ov),x,y,z]=Y (.list L):=by kernel_rfl
 have z:L.length<sizeLine:=by rw[sizeLine_eq];omega
 rw[Hj,e,h];simp only[aJ,ah z]
 kernel_rfl
def YK(w0:String):j9 (.str (zZ w0)) (.tuple [.str (zZ "func"),.str (zZ "straight")])=Y (w0=="func"||w0=="straight"):=by
 show (if _ then _ else Z)=_;rw[ah {iN (ba _),by simp[iN (ba _)],by simp[fJ.depth]}];simp only[bQ,List.any_nil,df,Bt,jk]
 congr 1
 rw[cU,cU (b:="straight")]
def le8(h:n<=8):oz (zi n) (.int 8)=Y (.bool true):=by
 have:(n:Int)<=8:=by omega
 simp[oz,Zi,dI,this]
section
variable {hs:fJ}{bs:Lr}{L:Lp}
theorem RK{a w:fJ}{i:Int}{b:Option Str}(h:iK ["Row"] "kind" a=Y (b.elim .none .str))(c:∀k,b=Y k->k∈F.map (·.1)){R:fJ}(d:iK ["Reading"] "fields" R=Y (gD F)):
  Tc [Y R,Y (.int i),Y w,Y a]=Y false:=by
 cases b with
 |none=>simp only[Option.elim] at h;simp? only[h,Bv]
 |some k=>
  simp only[Option.elim] at h;have e:=qW (t:=k) (H:=F);rw[aU (c k rfl)] at e
  simp? only[h,sQ,d,iP,e]
theorem ui{b:Lr}{w0:String}{l:Option Str}{a:fJ}(O:qX b w0 l a)(g:GR b)(y:(w0=="end")=false)(x:(w0=="else")=false)(v:∀k,l=Y k->k∈F.map (·.1)){b1 b2:Bool}(u:(w0=="if"||w0=="while")=b1)(s:(w0=="func"||w0=="straight")=b2)(m:(if b1 then bs++[zZ w0] else bs).length<=8)(w:L.length<=900)(i:Int):
  fM [Rg (gD F) hs (.str t) (wl bs) (.list L) false,.int i,wl b]=Y (.bool true,Rg (gD F) hs (.str t) (wl (if b1 then bs++[zZ w0] else bs)) (.list (if b2 then L++[.tuple [.int i,a]] else L)) false):=by
 obtain⟨r,n⟩:=O.hd;have q:=rF g.ok (Zw "end");rw[az (by intro z;rw[n] at z;injection z with z _;exact k6 y z)] at q;have j:=rF g.ok (Zw "else");rw[az (by intro z;rw[n] at z;injection z with z _;exact k6 x z)] at j;have o:j7 (wl b) (.list [.str (zZ "end")])=Y (.bool false):=q;have c:j7 (wl b) (.list [.str (zZ "else")])=Y (.bool false):=j;have f:=sS w0;have e:=YK w0;rw[u] at f;rw[s] at e;have h:bs.length<=900:=by cases b1<;>simp at m<;>omega
 have d:=O.ini;have A:hZ [Y (Rg (gD F) hs (.str t) (wl bs) (.list L) false),Y (.int i),Y (wl b),Z]=Y (.rt (.tuple [.bool true,Rg (gD F) hs (.str t) (wl (if b1 then bs++[zZ w0] else bs)) (.list (if b2 then L++[.tuple [.int i,a]] else L)) false])):=by
  refine d5 (gS (by simp? only[o]) rfl) (d5 (gS (by simp? only[c]) rfl) (d5 (gS (by simp? only[O.isr g,mW]) rfl) (d5 (ρ1:=[Y (Rg (gD F) hs (.str t) (wl bs) (.list L) false),Y (.int i),Y (wl b),Y a]) ?_ (d5 (gS (RK O.kd v (mu ..)) rfl) (d5 (ρ1:=[Y (Rg (gD F) hs (.str t) (wl (if b1 then bs++[zZ w0] else bs)) (.list L) false),Y (.int i),Y (wl b),Y a]) ?_ (d5 (ρ1:=[Y (Rg (gD F) hs (.str t) (wl (if b1 then bs++[zZ w0] else bs)) (.list (if b2 then L++[.tuple [.int i,a]] else L)) false),Y (.int i),Y (wl b),Y a]) ?_ ?_))))))
  .simp? only[d]
  .cases b1 with
   |false=>exact gS (by simp? only[O.wd,gJ,f]) rfl
   |true=>exact kZ (by simp? only[O.wd,gJ,f]) (BF (by simp? only[O.wd]) h)
  .cases b2 with
   |false=>exact gS (by simp? only[O.wd,gJ,e]) rfl
   |true=>exact kZ (by simp? only[O.wd,gJ,e]) (DE (by simp? only[Bq]) w)
  .have p:jQ [wl (if b1 then bs++[zZ w0] else bs)]=Y (.int ((if b1 then bs++[zZ w0] else bs).length:Int)):=by rw[mj,aj]
   simp only[Np,Tw,FE,Nk,nv,Tv,Hh,xk,Bq,bW,dW,aJ,qw,p,le8 m,js,dk,cD]
 rw[fM,ud];show FI (hZ [Y (Rg (gD F) hs (.str t) (wl bs) (.list L) false),Y (.int i),Y (wl b),Z])=_;rw[A,sL]
def n8{R b:fJ}{e c:fJ}{a:Lr}{i:Int}(d:R=Rg (gD F) hs (.str t) e c false)(h:fM [R,.int i,wl a]=Y (.bool true,b)):fO [R,.int i,wl a]=Y (.bool true,b):=by
 subst d
 simp? only[fO,kG,qv,oR,mW,sQ,h,js]
def jG{A B:a0->Option Out}{a:a0}(b:A a=Y (.rt d)):bo A B a=Y (.rt d):=by rw[qT,b,Nq]
def xB(a:Lr)(x:Str):jL (wl (a++[x]))=Y true:=by cases a<;>rfl
def V9(x:Str)(i:Int):fM [Rg (gD F) hs (.str t) (wl (bs++[x])) (.list L) false,.int i,wl [zZ "end"]]=Y (.bool true,Rg (gD F) hs (.str t) (wl bs) (.list L) false):=by
 have c:jB [Rg (gD F) hs (.str t) (wl (bs++[x])) (.list L) false]=Y (.none,Rg (gD F) hs (.str t) (wl bs) (.list L) false):=by
  have b:lF [Y (Rg (gD F) hs (.str t) (wl (bs++[x])) (.list L) false)]=Y (.rt (.tuple [.none,Rg (gD F) hs (.str t) (wl bs) (.list L) false])):=by
   have p:EE (.fl 0 "Reading" "blocks") [Y (Rg (gD F) hs (.str t) (wl (bs++[x])) (.list L) false)]=Y (.nx [Y (Rg (gD F) hs (.str t) (wl bs) (.list L) false)]):=by
    have e:ph (.fl 0 "Reading" "blocks") [Y (Rg (gD F) hs (.str t) (wl (bs++[x])) (.list L) false)]=Y (wl (bs++[x])):=by kernel_rfl
    unfold EE;rw[e,nQ];have a:(bs.map fJ.str++[fJ.str x]).isEmpty=false:=by simp
    simp only[aJ,af,bj,List.dropLast_concat,a,cy,fC]
    kernel_rfl
   refine jG (kZ ?_ (d5 p rfl))
   simp? only[qw,xB]
  rw[jB,ud];show FI (lF [Y (Rg (gD F) hs (.str t) (wl (bs++[x])) (.list L) false)])=_;rw[b,sL]
 have q:j7 (wl [zZ "end"]) (.list [.str (zZ "end")])=Y (.bool true):=by kernel_rfl
 simp? only[fM,hZ,q,HF,c,Hu,js]
def Wa(i:Int):fM [Rg (gD F) hs (.str t) (wl (bs++[zZ "if"])) (.list L) false,.int i,wl [zZ "else"]]=Y (.bool true,Rg (gD F) hs (.str t) (wl (bs++[zZ "else"])) (.list L) false):=by
 have c:km [Rg (gD F) hs (.str t) (wl (bs++[zZ "if"])) (.list L) false]=Y (.bool true,Rg (gD F) hs (.str t) (wl (bs++[zZ "else"])) (.list L) false):=by
  have d:(!("if"=="if"))=false:=by decide
  have p:ri (.fl 0 "Reading" "blocks") (fY [0] C1) (fY [0] C2) [Y (Rg (gD F) hs (.str t) (wl (bs++[zZ "if"])) (.list L) false)]=Y (.nx [Y (Rg (gD F) hs (.str t) (wl (bs++[zZ "else"])) (.list L) false)]):=by
   have e:ph (.fl 0 "Reading" "blocks") [Y (Rg (gD F) hs (.str t) (wl (bs++[zZ "if"])) (.list L) false)]=Y (wl (bs++[zZ "if"])):=by kernel_rfl
   rw[uZ,e]
   simp? only[nQ,Dx]
   kernel_rfl
  have b:lX [Y (Rg (gD F) hs (.str t) (wl (bs++[zZ "if"])) (.list L) false)]=Y (.rt (.tuple [.bool true,Rg (gD F) hs (.str t) (wl (bs++[zZ "else"])) (.list L) false])):=by
   refine d5 (gS ?_ rfl) (d5 p rfl)
   simp? only[qw,xB,Hy,lP,d]
  rw[km,ud];show FI (lX [Y (Rg (gD F) hs (.str t) (wl (bs++[zZ "if"])) (.list L) false)])=_;rw[b,sL]
 have q:j7 (wl [zZ "else"]) (.list [.str (zZ "end")])=Y (.bool false):=by kernel_rfl
 have a:j7 (wl [zZ "else"]) (.list [.str (zZ "else")])=Y (.bool true):=by kernel_rfl
 simp? only[fM,hZ,q,a,c,js]
end
inductive Rk (K:Lr) (M:List (Str×Str)) (Fu:List (Str×Nat)):String->Lr->Prop
 |new {x k:Str}:k∈K->Rk K M Fu "new" [x,k]
 |fresh {x k:Str}:k∈K->Rk K M Fu "fresh" [x,k]
 |row {x:Str}:Rk K M Fu "row" [x]
 |give {x:Str}:Rk K M Fu "give" [x]
 |tell {x:Str}:Rk K M Fu "tell" [x]
 |take {x y z:Str}:Rk K M Fu "take" [x,y,z]
 |own {x y z:Str}:Rk K M Fu "own" [x,y,z]
 |put {x y z:Str}:Rk K M Fu "put" [x,y,z]
 |place {x y z:Str}:Rk K M Fu "place" [x,y,z]
 |check {x y:Str}:Rk K M Fu "check" [x,y]
 |push {x y:Str}:Rk K M Fu "push" [x,y]
 |pull {x y:Str}:Rk K M Fu "pull" [x,y]
 |copy {x y:Str}:Rk K M Fu "copy" [x,y]
 |rest:Rk K M Fu "rest" []
 |ask {x y m:Str}{hs:Lr}:hs.length<=3->Rk K M Fu "ask" (x::y::m::hs)
 |doo {x y:Str}{hs:Lr}:hs.length<=3->Rk K M Fu "do" (x::y::hs)
 |xC {x y k m:Str}{hs:Lr}:hs.length<=3->k∈K->(k,m)∈M->Rk K M Fu "straight" (x::y::k::m::hs)
 |func {x f:Str}{hs:Lr}:hs.length<=3->(f,hs.length)∈Fu->Rk K M Fu "func" (x::f::hs)
inductive Ck:Lr->Prop
 |choose:Ck [zZ "choose"]
 |some {x:Str}:Ck [zZ "some",x]
 |same {x y:Str}:Ck [zZ "same",x,y]
inductive Bk (K:Lr) (M:List (Str×Str)) (Fu:List (Str×Nat)):Lr->List Lr->Lr->Prop
 |nil (bs:Lr):Bk K M Fu bs [] bs
 |row {bs NU:Lr}{w:String}{r:Lr}{rest:List Lr}:Rk K M Fu w r->Bk K M Fu bs rest NU->Bk K M Fu bs ((zZ w::r)::rest) NU
 |YL {bs NU:Lr}{w:String}{r:Lr}{rest:List Lr}:w="if"\/w="while"->Ck r->bs.length<8->Bk K M Fu (bs++[zZ w]) rest NU->Bk K M Fu bs ((zZ w::r)::rest) NU
 |Jd {bs NU:Lr}{rest:List Lr}:Bk K M Fu (bs++[zZ "else"]) rest NU->Bk K M Fu (bs++[zZ "if"]) ([zZ "else"]::rest) NU
 |fin {bs NU:Lr}{x:Str}{rest:List Lr}:Bk K M Fu bs rest NU->Bk K M Fu (bs++[x]) ([zZ "end"]::rest) NU
def Bk.app{K:Lr}{M:List (Str×Str)}{f:List (Str×Nat)}{a b c:Lr}{g bs:List Lr}(h:Bk K M f a g b)(e:Bk K M f b bs c):Bk K M f a (g++bs) c:=by
 induction h with
 |nil bs=>exact e
 |row k _ d=>exact .row k (d e)
 |YL w k l _ d=>exact .YL w k l (d e)
 |Jd _ d=>exact .Jd (d e)
 |fin _ d=>exact .fin (d e)
def Lt(M:List (Str×Str))(Fu:List (Str×Nat))(e:fJ):Prop:=∃i a,e=.tuple [.int i,a] /\
  ((∃k m,(k,m)∈M/\iK ["Row"] "word" a=Y (.str (zZ "straight"))/\iK ["Row"] "kind" a=Y (.str k)/\iK ["Row"] "method" a=Y (.str m)) \/
   (∃f n b,(f,n)∈Fu/\iK ["Row"] "word" a=Y (.str (zZ "func"))/\iK ["Row"] "function" a=Y (.str f)/\iK ["Row"] "handed" a=Y (.list b)/\b.length=n))
section
variable {K:Lr}{M:List (Str×Str)}{Fu:List (Str×Nat)}
structure Rr (K:Lr) (M:List (Str×Str)) (Fu:List (Str×Nat)) (ws:Lr) (w:String):Prop where
 ok:∃kd row,qX ws w kd row/\(∀k,kd=Y k->k∈K)/\∀i:Int,(w=="func"||w=="straight")=true->Lt M Fu (.tuple [.int i,row])
 e1:(w=="end")=false
 e2:(w=="else")=false
def Rk.ok{w:String}{r:Lr}(h:Rk K M Fu w r):Rr K M Fu (zZ w::r) w/\(w=="if"||w=="while")=false:=by
 cases h with
 |@new _ k a | @fresh _ k a=>exact{{{Y k,_,.of {_,rfl} (zK 0) (zK 0) (zK 0) (zK 0),λk e=>by injection e with e;subst e;exact a,λi z=>absurd z (by decide)},by decide,by decide},by decide}
 |ask c=>exact{{{_,_,NT _ _ _ (by omega),nofun,λi z=>absurd z (by decide)},by decide,by decide},by decide}
 |doo c=>exact{{{_,_,TL _ _ (by omega),nofun,λi z=>absurd z (by decide)},by decide,by decide},by decide}
 |@xC x y k m hs c a b=>exact{{{_,_,u5 _ _ _ _ (by omega),λk e=>by injection e with e;subst e;exact a,λi _=>{i,_,rfl,.inl {k,m,b,by kernel_rfl,by kernel_rfl,by kernel_rfl}}},by decide,by decide},by decide}
 |@func x f hs c b=>exact{{{_,_,BE _ _ (by omega),nofun,λi _=>{i,_,rfl,.inr {f,_,hs.map .str,b,by kernel_rfl,by kernel_rfl,by kernel_rfl,aj ..}}},by decide,by decide},by decide}
 |_=>exact{{{Z,_,.of {_,rfl} (zK 0) (zK 0) (zK 0) (zK 0),nofun,λi z=>absurd z (by decide)},by decide,by decide},by decide}
def Ck.ok{w:String}(hw:w="if"\/w="while"){r:Lr}(h:Ck r):Rr K M Fu (zZ w::r) w/\(w=="if"||w=="while")=true/\(w=="func"||w=="straight")=false:=by rcases hw with rfl|rfl<;>cases h<;>exact{{{Z,_,.of {_,rfl} (zK 0) (zK 0) (zK 0) (zK 0),nofun,λi z=>absurd z (by decide)},by decide,by decide},by decide,by decide}
end
section
variable {K:Lr}{M:List (Str×Str)}{Fu:List (Str×Nat)}
structure TS where
 F:List (Str×fJ)
 H:List (Str×fJ)
 cur:Option (Str×Lr)
 ov:Bool
def TS.rg(a:TS)(L:Lp):fJ:=Rg (gD a.F) (gD a.H) (match a.cur with|none=>.none|some p=>.str p.1) (match a.cur with|none=>wl []|some p=>wl p.2) (.list L) a.ov
def TS.dep(a:TS):Nat:=match a.cur with|none=>0|some p=>p.2.length+1
def ke(a:Lr)(d:Nat):Nat:=if d=0/\a.head?≠Y (zZ "kind") then 1 else if a=[zZ "end"] then d - 1 else if (a.head?=Y (zZ "if")\/a.head?=Y (zZ "while"))/\0<d then d+1 else d
structure StR (F₀:List (Str×fJ)) (Ok:fJ->Prop) (σ:TS) (ws:Lr) (nR:TS):Prop where
 iv:0<nR.dep->nR.F=F₀/\nR.ov=false/\nR.dep<=9
 gr:GR ws
 dp:ke ws σ.dep=nR.dep
 rd:∀(n:Nat) (L:Lp),L.length<=900->∃l,(∀e∈l,Ok e)/\l.length<=1/\fO [σ.rg L,.int (n:Int),wl ws]=Y (.bool true,nR.rg (L++l))
 sm:0<σ.dep->(∀w∈["end","else","if","while"],ws.head?≠Y (zZ w))->nR=σ
inductive Pt (F₀:List (Str×fJ)) (Ok:fJ->Prop):TS->List Lr->TS->Prop
 |nil (σ:TS):Pt F₀ Ok σ [] σ
 |cons {σ σ1 Wb:TS}{ws:Lr}{rest:List Lr}:StR F₀ Ok σ ws σ1->Pt F₀ Ok σ1 rest Wb->Pt F₀ Ok σ (ws::rest) Wb
section
variable {Ok Ok':fJ->Prop}{σ σ1 Wb:TS}
def Pt.app{b bs:List Lr}(h:Pt F₀ Ok σ b σ1)(a:Pt F₀ Ok σ1 bs Wb):Pt F₀ Ok σ (b++bs) Wb:=by
 induction h with
 |nil=>exact a
 |cons s _ c=>exact .cons s (c a)
theorem Pt.split:∀{d c:List Lr}{σ:TS},Pt F₀ Ok σ (d++c) Wb->∃σ1,Pt F₀ Ok σ d σ1/\Pt F₀ Ok σ1 c Wb
 |[],_,σ,h=>{σ,.nil σ,h}
 |_::d,c,_,.cons s h=>by obtain⟨σ1,a,b⟩:=Pt.split h;exact{σ1,.cons s a,b}
def Pt.reads{a:List Lr}(h:Pt F₀ Ok σ a σ1):∀(n:Nat) (L:Lp),L.length+a.length<=900->∃l,(∀e∈l,Ok e)/\l.length<=a.length/\Reads n (σ.rg L) a (σ1.rg (L++l)):=by
 induction h with
 |nil σ=>intro n L _;exact{[],by simp,by simp,by rw[aG];rfl}
 |cons s _ c=>intro n L f;simp only[ay] at f;obtain⟨l,j,k,i⟩:=s.rd n L (by omega);obtain⟨b,b1,b2,g⟩:=c (n+1) (L++l) (by rw[aL];omega);refine{l++b,λe d=>(ax.mp d).elim (j e) (b1 e),by simp only[aL,ay];omega,_,s.gr.2.1,i,?_};rw[<-aW];exact g
theorem Pt.gr{a:List Lr}(h:Pt F₀ Ok σ a σ1):∀b∈a,GR b:=by
 induction h with
 |nil=>simp
 |cons s _ c=>
  intro b hw;rcases ag.mp hw with rfl|hw
  .exact s.gr
  .exact c b hw
theorem Pt.dep{a:List Lr}(h:Pt F₀ Ok σ a σ1):σ1.dep=a.foldl (λd ws=>ke ws d) σ.dep:=by
 induction h with
 |nil=>rfl
 |cons s _ b=>rw[b,List.foldl_cons,s.dp]
end
def vI{a b:String}:zZ a=zZ b↔(a==b)=true:=by
 constructor
 .intro h;cases q:a==b with
  |true=>rfl
  |false=>exact absurd h (k6 q)
 .intro h;rw[bF.mp h]
def qy{w:String}{r:Lr}(a:(w=="end")=false)(d:Nat):ke (zZ w::r) (d+1)=if (w=="if"||w=="while")=true then d+2 else d+1:=by unfold ke;rw[aq (by omega),aq (by intro z;injection z with z _;exact k6 a z)];simp only[List.head?_cons,Option.some.injEq,vI,Nat.zero_lt_succ,and_true,eD]
def uj(d:Nat):ke [zZ "end"] (d+1)=d:=by unfold ke;rw[aq (by omega),ah rfl];rfl
theorem xD{b:Lr}{w:String}(O:Rr K M Fu b w)(m:∀k∈K,k∈F.map (·.1))(g:GR b){b1:Bool}(a:(w=="if"||w=="while")=b1){H:List (Str×fJ)}{bs:Lr}(j:(if b1 then bs++[zZ w] else bs).length<=8):
  StR F (Lt M Fu) {F,H,Y (t,bs),false} b {F,H,Y (t,if b1 then bs++[zZ w] else bs),false}:=by
 sleep 1;obtain⟨s,c,o,h,f⟩:=O.ok;sleep 2;obtain⟨r,p⟩:=o.hd;refine{λ_=>{rfl,rfl,by show (if b1 then bs++[zZ w] else bs).length+1<=9;omega},g,?_,λn L l=>?_,λ_ q=>?_}
 .rw[p];show ke _ (bs.length+1)=_;rw[qy O.e1,a];cases b1<;>simp[TS.dep]
 .cases d:(w=="func"||w=="straight") with
  |false=>exact{[],by simp,by simp,by rw[aG];exact n8 rfl (ui o g O.e1 O.e2 (λk e=>m k (h k e)) a d j l n)}
  |true=>refine{[.tuple [.int (n:Int),c]],λe i=>?_,by simp,n8 rfl (ui o g O.e1 O.e2 (λk e=>m k (h k e)) a d j l n)};simp at i;subst i;exact f n d
 .cases b1 with
  |false=>rfl
  |true=>simp only[eD,bF] at a;exact absurd (by rw[p];rfl) (q w (by rcases a with rfl|rfl<;>simp))
theorem Bk.pt{e a:Lr}{b:List Lr}(h:Bk K M Fu e b a)(j:∀k∈K,k∈F.map (·.1)){H:List (Str×fJ)}:e.length<=8->(∀ws∈b,GR ws)->Pt F (Lt M Fu) {F,H,Y (t,e),false} b {F,H,Y (t,a),false}:=by
 induction h with
 |nil e=>intro _ _;exact .nil _
 |@row e a w r c k _ g=>intro f d;obtain⟨O,i⟩:=k.ok;exact .cons (xD O j (d _ (bh ..)) i (by simpa using f)) (g f λws hw=>d ws (ai _ hw))
 |@YL e a w r c hw k l _ g=>intro f d;obtain⟨O,i,_⟩:=k.ok (K:=K) (M:=M) (Fu:=Fu) hw;exact .cons (xD O j (d _ (bh ..)) i (by simp;omega)) (g (by simp;omega) λws hw=>d ws (ai _ hw))
 |@Jd e a c _ g=>intro f d;refine .cons {λ_=>{rfl,rfl,by simp[TS.dep] at f ⊢;omega},d _ (bh ..),?_,λn L _=>{[],by simp,by simp,by rw[aG];exact n8 rfl (Wa n)},λ_ h=>absurd rfl (h "else" (by simp))} (g (by simpa using f) λws hw=>d ws (ai _ hw));show ke _ ((e++[zZ "if"]).length+1)=_;rw[qy (by decide)];simp[TS.dep]
 |@fin e a x c _ g=>intro f d;refine .cons {λ_=>{rfl,rfl,by simp[TS.dep] at f ⊢;omega},d _ (bh ..),?_,λn L _=>{[],by simp,by simp,by rw[aG];exact n8 rfl (V9 x n)},λ_ h=>absurd rfl (h "end" (by simp))} (g (by simp at f;omega) λws hw=>d ws (ai _ hw));show ke _ ((e++[x]).length+1)=_;rw[uj];simp[TS.dep]
structure Bo where
 t:Str
 hd:Lr
 rows:List Lr
def Bo.txt(b:Bo):List Lr:=b.hd::(b.rows++[[zZ "end"]])
def Bo.ent(b:Bo):Str×Lr:=(b.t,b.hd)
structure Jg (K:Lr) (M:List (Str×Str)) (Fu:List (Str×Nat)) (F:List (Str×fJ)) (b:Bo):Prop where
 hd:Je (gD F) b.t b.hd
 gr:∀ws∈b.rows,GR ws
 bk:Bk K M Fu [] b.rows []
 hb:Hb b.t b.hd
 gh:GR b.hd
def FU:GR [zZ "end"]:={by simp,V8,by simp}
theorem Bo.pt(e:∀k∈K,k∈F.map (·.1)){b:Bo}(O:Jg K M Fu F b){H:List (Str×fJ)}(a:b.t∉H.map (·.1))(c:H.length<=900):
  Pt F (Lt M Fu) {(F),H,Z,false} b.txt {F,H++[(b.t,wl b.hd)],Z,b.t==zZ "main"}:=by
 obtain⟨g,r,f,hw⟩:=O.hd.hd;refine .cons (σ1:={F,H++[(b.t,wl b.hd)],Y (b.t,[]),false}) {λ_=>{rfl,rfl,by simp[TS.dep]},O.gh,?_,λn L _=>{[],by simp,by simp,by rw[aG];exact Rw O.hd a c n},λz=>absurd z (by simp[TS.dep])} ((O.bk.pt e (by simp) O.gr).app (.cons (σ1:={F,H++[(b.t,wl b.hd)],Z,b.t==zZ "main"}) {λz=>absurd z (by simp[TS.dep]),FU,uj 0,λn L _=>{[],by simp,by simp,by rw[aG];exact V7 O.hd.tok _ _ _},λ_ h=>absurd rfl (h "end" (by simp))} (.nil _)));have d:b.hd.head?≠Y (zZ "kind"):=by
  rw[f];intro z;injection z with z
  rcases hw with rfl|rfl|rfl<;>exact k6 (by decide) z
 show ke b.hd 0=1;rw[ke,ah {(rfl),d}]
theorem zJ(c:∀k∈K,k∈F.map (·.1)):∀(a:List Bo) (H:List (Str×fJ)),(∀b∈a,Jg K M Fu F b/\b.t≠zZ "main")->(H.map (·.1)++a.map (·.t)).Nodup->H.length+a.length<=900 ->
  Pt F (Lt M Fu) {(F),H,Z,false} (a.flatMap Bo.txt) {F,H++hg (a.map Bo.ent),Z,false}
 |[],H,_,_,_=>by rw[bj,show hg []=[] from rfl,aG];exact .nil _
 |b::a,H,ho,nd,hl=>by
  have o:=ho b (by simp);have e:b.t∉H.map (·.1):=λz=>by rw[bc] at nd;exact nd.2.2 b.t z b.t (by simp) rfl
  have p:=Bo.pt c o.1 e (by omega);have g:(b.t==zZ "main")=false:=by simpa using o.2
  rw[g] at p;have q:=zJ c a (H++[(b.t,wl b.hd)]) (λx d=>ho x (by simp[d])) (by simpa using nd) (by simp at hl ⊢;omega);have f:H++hg ((b::a).map Bo.ent)=H++[(b.t,wl b.hd)]++hg (a.map Bo.ent):=by simp[hg,Bo.ent]
  rw[f];exact p.app q
def Bk.wk{g a:Lr}{c:List Lr}(h:Bk K M Fu g c a){rest:List Lr}:∀{d:List (Lr×Str)},Wk (a.length+1) t rest hs d->∃b,Wk (g.length+1) t (c++rest) hs b:=by
 induction h with
 |nil g=>intro d h;exact{(d),h}
 |@row g a w r rest k _ f=>intro d h;obtain⟨O,i⟩:=k.ok;obtain⟨b,e⟩:=f h;exact{_,.row w r false O.e1 O.e2 i e}
 |@YL g a w r rest hw k j _ f=>intro d h;obtain⟨O,i,_⟩:=k.ok (K:=K) (M:=M) (Fu:=Fu) hw;obtain⟨b,e⟩:=f h;rw[aL] at e;exact{_,.row w r true O.e1 O.e2 i e}
 |@Jd g a rest _ f=>intro d h;obtain⟨b,e⟩:=f h;rw[aL] at e ⊢;exact{_,.Jd e}
 |@fin g a x rest _ f=>intro d h;obtain⟨b,e⟩:=f h;rw[aL];exact{_,.fin e}
theorem zL:∀(a:List Bo) (b:Str),(∀b∈a,Jg K M Fu F b)->∃d,Wk 0 b (a.flatMap Bo.txt) (a.map Bo.ent) d
 |[],b,_=>{[],.nil b}
 |x::a,b,ho=>by obtain⟨d,e⟩:=zL a x.t λy f=>ho y (by simp[f]);have o:=ho x (by simp);obtain⟨c,g⟩:=o.bk.wk (t:=x.t) (rest:=[zZ "end"]::a.flatMap Bo.txt) (.fin e);refine{c,?_};rw[List.flatMap_cons,af,Bo.txt,bf,aW];exact .head b o.hb g
theorem DF(b:Str){a:List Lr}{e:List (Str×Lr)}{d:List (Lr×Str)}(h:Wk 0 b a e d):∀c:List KR,Wk 0 b (c.map ie++a) e d
 |[]=>h
 |k::c=>.kind b _ (DF b h c)
structure FV (M:List (Str×Str)) (Fu:List (Str×Nat)) (H:List (Str×fJ)):Prop where
 nd:(H.map (·.1)).Nodup
 m:∀k m,(k,m)∈M->ml k m∈H.map (·.1)/\k.length<=8/\m.length<=8
 f:∀f n,(f,n)∈Fu->fJ.strOk f=true/\f≠zZ "main"/\∃ws ks,(f,wl ws)∈H/\gQ [wl ws]=Y (wl ks)/\ks.length=n
def YM(k m:Str)(e:k.length<=8)(d:m.length<=8):jA [.str k,.str m]=Y (.str (ml k m)):=by
 have c:k.length<=16777216:=by omega
 have b:m.length<=16777216:=by omega
 have a:(k++(zZ "."++m)).length<=16777216:=by rw[cX,cX,show (zZ ".").length=1 by decide +kernel];omega
 simp? only[jA,nO,ah c,ah b,ah a,Str.append_empty,ml]
def NV{H:List (Str×fJ)}(T:FV M Fu H){e:fJ}(x:Lt M Fu e){F b bl la:fJ}:∃i a,e=.tuple [.int i,a]/\ek [Rg F (gD H) b bl la ov,a]=Y (.bool true):=by
 obtain⟨i,a,rfl,h⟩:=x;refine{i,a,rfl,?_};rcases h with ⟨k,m,v,l,j,g⟩ | ⟨f,n,y,w,l,j,g,z⟩
 .obtain⟨q,p,d⟩:=T.m k m v;have o:("straight"=="straight")=true:=by decide
  have c:=qW (t:=ml k m) (H:=H);rw[aU q] at c
  simp? only[ek,hY,l,hF,o,j,g,YM k m p d,n7,gJ,c]
 .obtain⟨q,p,I,u,d,G,E⟩:=T.f f n w;have o:("func"=="straight")=false:=by decide
  have c:=qW (t:=f) (H:=H);rw[aU (av.mpr {_,d,rfl})] at c;have D:=Nz T.nd d;have C:(f==zZ "main")=false:=by simpa using p
  have s:=Dt q (ba "main");rw[C] at s;have B:jQ [wl u]=Y (zi n):=by rw[mj,aj,E]
  have A:jQ [.list y]=Y (zi n):=by rw[mj,z]
  have r:=TC (n:Int) (n:Int);rw[c8] at r
  simp? only[ek,hY,l,hF,o,j,g,s,n7,iP,c,D,G,B,A,r]
theorem qh{H:List (Str×fJ)}(T:FV M Fu H){F b bl la:fJ}{ov:Bool}(g rw w:Od):∀(L:Lp) (a c:Od),(∀e∈L,Lt M Fu e) ->
  ∃k j,∀d,ib (mZ (.many [3,5])) fP (L++d) [g,Y (Rg F (gD H) b bl la ov),rw,a,w,c]=ib (mZ (.many [3,5])) fP d [g,Y (Rg F (gD H) b bl la ov),rw,k,w,j]
 |[],a,c,_=>{a,c,λ_=>rfl}
 |e::L,a,c,h=>by
  obtain⟨i,f,rfl,n⟩:=NV T (h e (by simp)) (F:=F) (b:=b) (bl:=bl) (la:=la) (ov:=ov);obtain⟨k,j,m⟩:=qh T g rw w L (Y (.int i)) (Y f) λx l=>h x (by simp[l]);refine{k,j,λd=>?_};rw[bf,iy (ρ1:=[g,Y (Rg F (gD H) b bl la ov),rw,Y (.int i),w,Y f]) ?_]
  .exact m d
  .show fP [g,Y (Rg F (gD H) b bl la ov),rw,Y (.int i),w,Y f]=_
   simp? only[fP,n,mW]
def DG{c R rw w:Od}{b:fJ}{a:fJ}{i:Int}(h:R=Y b)(e:ek [b,a]=Y (.bool false))(d:0<=i/\i<10000):fP [c,R,rw,Y (.int i),w,Y a]=Y (.rt (.int i)):=by
 subst h;refine kZ ?_ (xA rfl d)
 simp? only[e,mW]
end
def rp3:a0->Option Out:=LC 1 (bo (jf (wh [] (oW (lj ["Reading"] "later" (gq 1)))) (.many [3,5]) fP) (CN (pJ "Program" 2 hV (zQ (gq 0)))))
def rp2:a0->Option Out:=bo Th rp3
def YN:a0->Option Out:=bo Tj rp2
section
variable {rows:List Lr} (hr:∀ws∈rows,NH ws) (hl:rows.length<=800) (ne:rows≠[])
include hr hl ne in
theorem sV(h:YN [Y (.str (tx rows)),Y R0,Y (.list (rows.map wl)),Z,Z,Z]=Y (.rt d)):ez [.str (tx rows)]=Y d:=by
 have c:=zH hr hl ne;have b:=qg bS jq rfl rfl hr;have a:((rows.map ln).map fJ.str).length<=16777216:=by simp;omega
 have e:mQ [.dict [(.none,.str (zZ "Reading"))]]=Y (.none,R0):=by kernel_rfl
 have g:mU [Y (.str (tx rows)),Z,Z,Z,Z,Z]=Y (.rt d):=by
  refine d5 (ρ1:=[Y (.str (tx rows)),Y R0,Z,Z,Z,Z]) ?_ (d5 (ρ1:=[Y (.str (tx rows)),Y R0,Y (.list (rows.map wl)),Z,Z,Z]) ?_ h)
  .simp? only[e]
  .simp? only[c,ah a,md,b]
 show (mU [Y (.str (tx rows)),Z,Z,Z,Z,Z]).bind _=_;rw[g];rfl
abbrev TM:=wh [1] (yZ kx)
theorem HH{x rw R:fJ}{o:Option Out}(h:ib (mZ (.many [3,4])) d6 (pK (rows.map wl)) [Y x,Y R,Y (.list (rows.map wl)),Z,Z,Z]=o):jf TM (.many [3,4]) d6 [Y x,Y R,Y (.list (rows.map wl)),Z,Z,Z]=o:=by
 simp? only[Bq]
 exact h
end
section
variable {rows:List Lr}{x:fJ}
def NW(a:List Lr)(d:Lr)(b:List Lr):∃c,pK ((a++d::b).map wl)=(((a.map wl).zipIdx 0).map λx=>fJ.tuple [.int x.2,x.1])++(.tuple [.int (a.length:Int),wl d]::c):=by refine{((b.map wl).zipIdx (a.length+1)).map λx=>fJ.tuple [.int x.2,x.1],?_};show (((a++d::b).map wl).zipIdx 0).map _=_;rw[aV,List.zipIdx_append,aV,af,fi,af,aj,cZ]
def Wc{a b:List Lr}{c:Lr}{R:fJ}(g:Reads 0 R0 a R)(h:∀c∈a,c.length<=900)(f:∀rw,d6 [Y x,Y R,Y rw,Y (zi a.length),Y (wl c),Z]=Y (.rt (zi a.length))):
  YN [Y x,Y R0,Y (.list ((a++c::b).map wl)),Z,Z,Z]=Y (.rt (zi a.length)):=by
 obtain⟨d,e⟩:=NW a c b;obtain⟨k,j,i⟩:=rH x (.list ((a++c::b).map wl)) Z a 0 R0 R Z Z g h;refine jG (HH (rw:=x) ?_);rw[e,i,ib];show (Option.bind (d6 [Y x,Y R,Y (.list ((a++c::b).map wl)),Y (zi a.length),Y (wl c),Z]) _)=_;rw[f];rfl
def We{R:fJ}(c:Reads 0 R0 rows R)(d:∀ws∈rows,ws.length<=900):∃a b,jf TM (.many [3,4]) d6 [Y x,Y R0,Y (.list (rows.map wl)),Z,Z,Z]=Y (.nx [Y x,Y R,Y (.list (rows.map wl)),a,b,Z]):=by obtain⟨g,f,e⟩:=rH x (.list (rows.map wl)) Z rows 0 R0 R Z Z c d;refine{g,f,HH (rw:=x) ?_};have:=e [];rw[aG] at this;exact this
def HJ{F c b bl:fJ}{L:Lp} (f:Reads 0 R0 rows (Rg F c b bl (.list L) true)) (g:∀ws∈rows,ws.length<=900)
  (h:∀a b',bo (jf (wh [] (oW (lj ["Reading"] "later" (gq 1)))) (.many [3,5]) fP) (CN (pJ "Program" 2 hV (zQ (gq 0)))) [Y x,Y (Rg F c b bl (.list L) true),Y (.list (rows.map wl)),a,b',Z]=Y (.rt d)):
  YN [Y x,Y R0,Y (.list (rows.map wl)),Z,Z,Z]=Y (.rt d):=by
 obtain⟨a,b',e⟩:=We (x:=x) f g;refine d5 e (d5 (gS (by simp? only[qv,mW]) rfl) ?_);rw[rp3,TH,h];rfl
def DH{F d b bl:fJ}{L:Lp}{a e c rw:Od}{o:Option Out}(h:ib (mZ (.many [3,5])) fP L [Y x,Y (Rg F d b bl (.list L) true),rw,a,e,c]=o):
  jf Ti (.many [3,5]) fP [Y x,Y (Rg F d b bl (.list L) true),rw,a,e,c]=o:=by
 simp? only[NL]
 exact h
def Jh{M:List (Str×Str)}{h:List (Str×Nat)}{F b bl:fJ}{H:List (Str×fJ)}{d f:Lp}{i:Int}{c:fJ} (T:FV M h H) (m:∀e∈d,Lt M h e) (l:Reads 0 R0 rows (Rg F (gD H) b bl (.list (d++.tuple [.int i,c]::f)) true)) (n:∀ws∈rows,ws.length<=900)
  (j:ek [Rg F (gD H) b bl (.list (d++.tuple [.int i,c]::f)) true,c]=Y (.bool false)) (k:0<=i/\i<10000):YN [Y x,Y R0,Y (.list (rows.map wl)),Z,Z,Z]=Y (.rt (.int i)):=by
 refine HJ l n λa g=>jG (DH ?_);obtain⟨p,o,e⟩:=qh T (F:=F) (b:=b) (bl:=bl) (la:=.list (d++.tuple [.int i,c]::f)) (ov:=true) (Y x) (Y (.list (rows.map wl))) g d a Z m;rw[e,ib];show (Option.bind (fP [Y x,_,Y (.list (rows.map wl)),Y (.int i),g,Y c]) _)=_;rw[DG rfl j k];rfl
def HK{M:List (Str×Str)}{d:List (Str×Nat)}{F b bl:fJ}{H:List (Str×fJ)}{L:Lp} (T:FV M d H) (i:∀e∈L,Lt M d e) (h:Reads 0 R0 rows (Rg F (gD H) b bl (.list L) true)) (j:∀ws∈rows,ws.length<=900)
  {p:fJ} (g:hV [.dict [(.none,.str (zZ "Program"))],x]=Y (.none,p)) (f:∀n,p≠.int n):YN [Y x,Y R0,Y (.list (rows.map wl)),Z,Z,Z]=Y (.rt p):=by
 refine HJ h j λa c=>?_;obtain⟨l,k,e⟩:=qh T (F:=F) (b:=b) (bl:=bl) (la:=.list L) (ov:=true) (Y x) (Y (.list (rows.map wl))) c L a Z i;have:=e [];rw[aG] at this;refine d5 (DH this) ?_;have m:pJ "Program" 2 hV mK [Y x,Y (Rg F (gD H) b bl (.list L) true),Y (.list (rows.map wl)),l,c,k]=Y p:=by
  simp? only[g]
 unfold CN;rw[m];cases p<;>first|rfl|exact absurd rfl (f _)
end
def rL:Lr:=["ka","kb","kc","fa","fb","fc","f","g","h","u","v","m","n","p","q","l","x","y","z","k","s","j"].map Str.ofString
abbrev Fl:=List (Str×List Str)
inductive TN:Fl->List KR->Fl->Prop
 |nil (F:Fl):TN F [] F
 |cons {F F':Fl}{r:KR}{ks:List KR}{inh:Lr}:r.nm∉F.map (·.1)->(match r.el with|none=>inh=[]|some j=>(j,inh)∈F)->(inh++r.own).Nodup->inh.length+r.own.length<=90->r.own.length<=6->TN (F++[(r.nm,inh++r.own)]) ks F'->TN F (r::ks) F'
structure KV (r:KR):Prop where
 nm:r.nm∈rL
 el:∀j,r.el=Y j->j∈rL
 own:∀w∈r.own,w∈rL
def gI:∀w∈rL,lH w=true:=by
 have:(rL.all λw=>lH w)=true:=by decide +kernel
 simpa using this
inductive Hk
 |lA (k m:Str)
 |func (f:Str)
def Hk.nm:Hk->Str
 |.lA k m=>ml k m
 |.func f=>f
structure Hd where
 key:Hk
 ps:Lr
 ks:Lr
def Hd.ws(h:Hd):Lr:=match h.key with
 |.lA k m=>zZ "method"::k::m::h.ps
 |.func f=>zZ "func"::f::(h.ps++kw h.ks)
structure HV (K:Lr) (h:Hd):Prop where
 key:match h.key with | .lA k m=>k∈K/\k∈rL/\m∈rL | .func f=>f∈rL
 ps:∀w∈h.ps,w∈rL
 ks:∀w∈h.ks,w∈rL
 nd:(h.ps++h.ks).Nodup
 nk:zZ "k"∉h.ps
 lp:h.ps.length<=3
 lk:h.ks.length<=3
def DI(k m:Str):(ml k m).cps.toList=k.cps.toList++46::m.cps.toList:=by rw[ml,Q9];simp[fE]
def RL{k m c d:Str}(g:lH k=true)(f:lH c=true)(h:ml k m=ml c d):k=c/\m=d:=by have e:=bJ (λz:Str=>z.cps.toList) h;simp only[DI] at e;obtain⟨a,b⟩:=Bs _ _ _ _ (sM g (by decide)) (sM f (by decide)) e;exact{Str.ext' (dU.mp a),Str.ext' (dU.mp b)}
def BG{k m f:Str}(h:lH f=true):ml k m≠f:=λz=>by have e:=bJ (λz:Str=>z.cps.toList) z;simp only[DI] at e;exact sM h (c:=46) (by decide) (by rw[<-e];simp)
def uk:∀w∈rL,w≠zZ "main"/\w≠zZ "self"/\w≠zZ "keeps":=by decide +kernel
def xE:Hk->Prop
 |.lA k m=>k∈rL/\m∈rL
 |.func f=>f∈rL
def RM{a b:Hk}(d:xE a)(c:xE b)(h:a.nm=b.nm):a=b:=by
 cases a with
 |lA k m=>
  cases b with
  |lA g e=>obtain⟨j,i⟩:=RL (gI _ d.1) (gI _ c.1) h;rw[j,i]
  |func f=>exact absurd h (BG (gI _ c))
 |func f=>
  cases b with
  |lA g e=>exact absurd h.symm (BG (gI _ d))
  |func l=>exact bJ Hk.func h
theorem HV.xE{K:Lr}{h:Hd}(v:HV K h):xE h.key:=by
 have:=v.key;cases q:h.key with
 |lA k m=>rw[q] at this;exact this.2
 |func f=>rw[q] at this;exact this
def DJ{a:Hk}(b:xE a):a.nm≠zZ "main":=by
 cases a with
 |lA k m=>exact BG (by decide +kernel)
 |func f=>exact(uk f b).1
theorem HV.hd{K:Lr}{h:Hd}(v:HV K h)(d:∀k∈K,k∈F.map (·.1)):Je (gD F) h.key.nm h.ws/\Hb h.key.nm h.ws:=by
 have c:=λw hw=>gI w (v.ps w hw);have hs:zZ "self"∉h.ps++h.ks:=λz=>(uk _ ((ax.mp z).elim (v.ps _) (v.ks _))).2.1 rfl;have e:=v.lp;have g:=v.lk;have a:=v.key;unfold Hd.ws;cases q:h.key with
 |lA k m=>rw[q] at a;have b:=gI _ a.2.1;have nm:=gI _ a.2.2;exact{RH (d k a.1) b nm c (λz=>hs (aD _ z)) (bc.mp v.nd).1 (by omega),{.inr (.inl {_,_,_,rfl,rfl,(kz.mp b).2.1,(kz.mp nm).2.1}),BC b nm}}
 |func f=>rw[q] at a;exact{RG (gI _ a) (uk f a).1 c (λw hw=>gI w (v.ks w hw)) (λz=>(uk _ (v.ps _ z)).2.2 rfl) hs v.nd (by omega) (by omega),{.inl {_,rfl},kY (gI _ a)}}
def HV.kept{K:Lr}{h:Hd}(v:HV K h){f:Str}(q:h.key=.func f):gQ [wl h.ws]=Y (wl h.ks):=by have a:=v.lp;have b:=v.lk;unfold Hd.ws;rw[q];exact Hr _ (λw hw=>kY (gI w (v.ps w hw))) (λw hw=>kY (gI w (v.ks w hw))) (λz=>(uk _ (v.ps _ z)).2.2 rfl) (by omega)
structure Tx where
 ks:List KR
 hs:List (Hd×List Lr)
 mr:List Lr
def Tx.K(t:Tx):Lr:=t.ks.map (·.nm)
def WC(h:Hd):Option (Str×Str):=match h.key with | .lA k m=>Y (k,m) | .func _=>Z
def Wf(h:Hd):Option (Str×Nat):=match h.key with | .lA _ _=>Z | .func f=>Y (f,h.ks.length)
def Tx.M(t:Tx):List (Str×Str):=t.hs.filterMap λh=>WC h.1
def Tx.Fu(t:Tx):List (Str×Nat):=t.hs.filterMap λh=>Wf h.1
def lg(b:Lr)(a:List Lr):List Lr:=b::(a++[[zZ "end"]])
def Tx.rows(t:Tx):List Lr:=t.ks.map ie++(t.hs.flatMap (λh=>lg h.1.ws h.2)++lg [zZ "main"] t.mr)
structure FW (t:Tx):Prop where
 kd:∃F',TN [] t.ks F'
 kv:∀r∈t.ks,KV r
 kg:∀r∈t.ks,GR (ie r)
 hv:∀h∈t.hs,HV t.K h.1
 nd:(t.hs.map (·.1.key)).Nodup
 bk:∀h∈t.hs,Bk t.K t.M t.Fu [] h.2 []
 mb:Bk t.K t.M t.Fu [] t.mr []
 gr:∀h∈t.hs,∀ws∈h.2,GR ws
 mg:∀ws∈t.mr,GR ws
 len:t.rows.length<=700
def RN:GR [zZ "main"]:={by simp,by intro w hw;simp at hw;subst hw;decide +kernel,by simp}
def xF(r:Lr):ke (zZ "kind"::r) 0=0:=by unfold ke;rw[aq (by simp),aq (by intro z;injection z with z _;exact k6 (by decide) z),aq (by simp)]
theorem TN.pt{Ok:fJ->Prop}{F g:Fl}{d:List KR}(h:TN F d g):(F.map (·.1)).Nodup->(∀r∈d,GR (ie r))->F.length+d.length<=900->Pt F₀ Ok {hg F,[],Z,false} (d.map ie) {hg g,[],Z,false}/\(g.map (·.1)).Nodup/\g.map (·.1)=F.map (·.1)++d.map (·.nm):=by
 induction h with
 |nil F=>intro i _ _;exact{.nil _,i,by simp}
 |@cons F g r d c s k A C B _ t=>
  intro i f o;have l:((F++[(r.nm,c++r.own)]).map (·.1)).Nodup:=by rw[aV,bc];refine{i,by simp,λa ha b p=>?_};simp at p;subst p;exact λz=>s (z▸ha)
  obtain⟨m,v,u⟩:=t l (λx w=>f x (by simp[w])) (by simp at o ⊢;omega);have y:Zy (hg F) r.el c:=by
   cases q:r.el with
   |none=>rw[q] at k;exact k
   |some j=>rw[q] at k;exact av.mpr {_,k,rfl}
  have e:hg (F++[(r.nm,c++r.own)])=hg F++[(r.nm,wl (c++r.own))]:=by simp[hg]
  rw[e] at m;refine{.cons (σ1:={hg F++[(r.nm,wl (c++r.own))],[],Z,false}) {λz=>absurd z (by simp[TS.dep]),f r (by simp),xF _,λn L _=>{[],by simp,by simp,?_},λz=>absurd z (by simp[TS.dep])} m,v,?_}
  .rw[aG];exact Rz (la:=.list L) (by rw[mn];exact i) (by rw[mn];exact s) V6 y A (by simp[hg] at o ⊢;omega) (by omega) n
  .rw[u];simp
def vA(h:Hd×List Lr):Bo:={h.1.key.nm,h.1.ws,h.2}
def vJ(t:Tx):Bo:={zZ "main",[zZ "main"],t.mr}
def RO(t:Tx):t.rows=t.ks.map ie++(t.hs.map vA++[vJ t]).flatMap Bo.txt:=by simp[Tx.rows,lg,Bo.txt,vA,vJ,eK,List.flatMap_map]
def RP{t:Tx}(T:FW t):((t.hs.map vA++[vJ t]).map (·.t)).Nodup:=by
 have e:(t.hs.map vA++[vJ t]).map (·.t)=(t.hs.map (·.1.key)).map Hk.nm++[zZ "main"]:=by simp[vA,vJ,cW]
 have g:∀a∈t.hs.map (·.1.key),xE a:=λa c=>by obtain⟨h,i,rfl⟩:=av.mp c;exact(T.hv h i).xE
 rw[e,bc];refine{List.pairwise_map.mpr (T.nd.imp_of_mem λc d h z=>h (RM (g _ c) (g _ d) z)),by simp,λa c b d=>?_};simp at d;subst d;obtain⟨j,f,rfl⟩:=av.mp c;exact DJ (g j f)
structure ZA (t:Tx) (F H:List (Str×fJ)):Prop where
 pt:Pt F (Lt t.M t.Fu) {[],[],Z,false} t.rows {(F),H,Z,true}
 td:FV t.M t.Fu H
 eF:F.map (·.1)=t.ks.map (·.nm)
 eH:H=hg ((t.hs.map vA++[vJ t]).map Bo.ent)
 rt:∃ns,Rt t.rows ((t.hs.map vA++[vJ t]).map Bo.ent) ns
def RQ{t:Tx}(T:FW t):∃F H,ZA t F H:=by
 obtain⟨i,U⟩:=T.kd;have A:=T.len;have s:=RO t;have y:(t.ks.map ie++(t.hs.map vA++[vJ t]).flatMap Bo.txt).length<=700:=by rw[<-s];exact A
 rw[aL,aj] at y;obtain⟨X,P,G⟩:=U.pt (F₀:=hg i) (Ok:=Lt t.M t.Fu) (by simp) T.kg (by simp;omega);have B:∀k∈t.K,k∈(hg i).map (·.1):=λk R=>by rw[mn,G];exact ar _ R
 have V:∀h∈t.hs,Jg t.K t.M t.Fu (hg i) (vA h):=λh d=>by obtain⟨u,N⟩:=(T.hv h d).hd B;refine{u,T.gr h d,T.bk h d,N,{?_,u.nm,u.len}};obtain⟨w0,r,e,_⟩:=u.hd;show h.1.ws≠[];rw[e];simp
 have I:Jg t.K t.M t.Fu (hg i) (vJ t):={RI _,T.mg,T.mb,{.inr (.inr {(rfl),rfl}),ba _},RN}
 have C:∀b∈t.hs.map vA++[vJ t],Jg t.K t.M t.Fu (hg i) b:=λb hb=>by
  rcases ax.mp hb with hb|hb
  .obtain⟨h,d,rfl⟩:=av.mp hb;exact V h d
  .simp at hb;subst hb;exact I
 have j:=RP T;have x:((t.hs.map vA).map (·.t)).Nodup:=by rw[aV,bc] at j;exact j.1
 rw[eK,aL] at y;have g:([vJ t].flatMap Bo.txt)=(vJ t).txt:=by simp
 rw[g] at y;have lb:(t.hs.map vA).length<=((t.hs.map vA).flatMap Bo.txt).length:=by
  generalize t.hs.map vA=l;induction l with
  |nil=>simp
  |cons a l ih=>
   rw[List.flatMap_cons,aL,ay];have:1<=a.txt.length:=by simp[Bo.txt]
   omega
 have W:=zJ B (t.hs.map vA) [] (λb hb=>by refine{C b (aD _ hb),?_};obtain⟨h,d,rfl⟩:=av.mp hb;exact DJ (T.hv h d).xE) (by simpa using x) (by rw[d9];omega);have J:=Bo.pt B I (H:=[]++hg ((t.hs.map vA).map Bo.ent)) (by rw[bE,mn];intro z;rw[aV,bc] at j;refine j.2.2 (zZ "main") ?_ (zZ "main") (by simp[vJ]) rfl;simpa [Bo.ent,cW,vJ] using z) (by rw[bE,hg,aj,aj];omega);have p:((vJ t).t==zZ "main")=true:=by simp[vJ]
 rw[p] at J;have o:hg ((t.hs.map vA++[vJ t]).map Bo.ent)=[]++hg ((t.hs.map vA).map Bo.ent)++[((vJ t).t,wl (vJ t).hd)]:=by simp[hg,Bo.ent]
 have c:((t.hs.map vA++[vJ t]).map Bo.ent).map (·.1)=(t.hs.map vA++[vJ t]).map (·.t):=by rw[dH];rfl
 have E:Pt (hg i) (Lt t.M t.Fu) {[],[],Z,false} t.rows {hg i,hg ((t.hs.map vA++[vJ t]).map Bo.ent),Z,true}:=by rw[s,eK,g,o];exact X.app (W.app J)
 refine{_,_,E,{by rw[mn,c];exact j,λk m Q=>?_,λf n S=>?_},by rw[mn,G];rfl,rfl,?_}
 .obtain⟨h,d,e⟩:=bu.mp Q;have v:=(T.hv h d).xE;unfold WC at e;cases q:h.1.key with
  |func f=>rw[q] at e;cases e
  |lA k m=>
   rw[q] at e v;injection e with e
   injection e with p o;subst p;subst o;refine{?_,(kz.mp (gI _ v.1)).2.1,(kz.mp (gI _ v.2)).2.1};rw[mn,c];refine av.mpr {vA h,aD _ (av.mpr {(h),d,rfl}),?_};show h.1.key.nm=_;rw[q];rfl
 .obtain⟨h,d,e⟩:=bu.mp S;have v:=(T.hv h d).xE;unfold Wf at e;cases q:h.1.key with
  |lA k m=>rw[q] at e;cases e
  |func f=>
   rw[q] at e v;injection e with e
   injection e with p o;subst p;subst o;refine{kY (gI _ v),(uk f v).1,h.1.ws,h.1.ks,?_,(T.hv h d).kept q,by simp};refine av.mpr {Bo.ent (vA h),av.mpr {_,aD _ (av.mpr {(h),d,rfl}),rfl},?_};show (h.1.key.nm,_)=_;rw[q];rfl
 .obtain⟨O,L⟩:=zL (t.hs.map vA++[vJ t]) {#[]} C;have D:=DF {#[]} L t.ks;rw[<-s] at D;refine{O,D,E.gr,by rw[c];exact j,?_,by omega,by rw[s];simp[Bo.txt]};intro w hw;rw[c] at hw;obtain⟨b,hb,rfl⟩:=av.mp hw;exact(C b hb).hd.tok
def GR.join{ws:Lr}(g:GR ws):iE (.str (zZ " ")) [wl ws]=Y (.str (ln ws)):=by rw[qe];refine Nv 32 ws (B:=8) (λw hw=>(kz.mp (g.2.1 w hw)).2.1) ?_;have:=g.2.2;omega
def JD{i:Int}(a:0<=i)(h:i<4294967296):jE i=true:=by
 unfold jE Builtin.Int.intBits;rw[decide_eq_true_iff];split
 .exact dq _
 .rename_i q;have:i.natAbs≠0:=by simpa using q
  rw[Nat.succ_le_iff];refine(Nat.log2_lt this).mpr (aI (show i.natAbs<2 ^ 32 by omega) (Nat.pow_le_pow_right (by decide) (by decide)))
def Ji{i j:Int}(b:jE i=true)(a:jE j=true):oV (.int i) (.int j)=Y (.int (i*j)):=by simp[oV,UM,dI,b,a]
def i9{i j:Int}(h:0<j):iW (.int i) (.int j)=Y (.int (i % j)):=by simp[iW,dI,h]
def NX{i j:Int}(h:0<j)(a:j<1073741824):Et (.int i) (.int j)=Y (.int (i / j)):=by simp[Et,dI,h,a]
def vB(i j:Int):fU (.int i) (.int j)=Y (.int (i+j)):=rfl
def NY(x:Int):D2 (.int x) (.int 0)=Y (.bool (decide (0<x))):=rfl
def Jj{c n k:Int}{dg:Bool}{xs:List Int}(q:0<=n/\n<=2147483647)(v:0<=k)(u:xs.length<=100):
  ∃t d x,(0<=d/\d<=2147483647)/\iT [Y (.int c),Y (.bool dg),Y (.list (xs.map .int)),Y (.int n),Y (.int k)]=Y (.nx [Y (.int t),Y (.bool dg),Y (.list ((xs++[x]).map .int)),Y (.int d),Y (.int k)]):=by
 have p:=Ji (JD q.1 (by omega)) (show jE 48271=true from JD (by omega) (by omega));have o:=vB (n*48271) k;have e:=i9 (i:=n*48271+k) (j:=2147483647) (by omega);have a:0<=(n*48271+k) % 2147483647/\(n*48271+k) % 2147483647<=2147483647:=by omega
 generalize w:(n*48271+k) % 2147483647=N at e a;have m:=Ji (JD a.1 (by omega)) (show jE 69621=true from JD (by omega) (by omega));have l:=i9 (i:=N*69621) (j:=99991) (by omega);have h:=Ji (i:=N*69621 % 99991) (JD (by omega) (by omega)) (show jE 16807=true from JD (by omega) (by omega));have g:=i9 (i:=N*69621 % 99991*16807) (j:=99989) (by omega);have s:=i9 (i:=c) (j:=5040) (by omega);have r:=NX (i:=c) (j:=5040) (by omega) (by omega);have z:(xs.map fJ.int).length<16777216:=by simp;omega
 have f:=NY c;generalize decide (0<c)=b at f;cases dg with
 |false=>
  refine{c,N,N*69621 % 99991*16807 % 99989,a,?_}
  simp? only[iT,p,o,e,m,l,h,g,mW,ah z,aV]
 |true=>
  cases b with
  |false=>
   refine{c,N,N*69621 % 99991*16807 % 99989,a,?_}
   simp? only[iT,p,o,e,m,l,h,g,mW,f,ah z,aV]
  |true=>
   refine{c / 5040,n,c % 5040,q,?_}
   simp? only[iT,s,r,mW,f,ah z,aV]
theorem zP(dg:Bool):∀(m s:Nat) (c n:Int) (xs:List Int) (k:Od),(0<=n/\n<=2147483647)->xs.length+m<=100 ->
  ∃(g b:Od) (a:List Int) (d:Od),a.length=xs.length+m/\ib (mZ (.one 4)) iT ((List.range' s m).map λ(i:Nat)=>fJ.int (i:Int)) [Y (.int c),Y (.bool dg),Y (.list (xs.map .int)),Y (.int n),k]=Y (.nx [g,Y (.bool dg),Y (.list (a.map .int)),b,d])
 |0,s,c,n,xs,k,_,_=>{Y (.int c),Y (.int n),xs,k,rfl,rfl}
 |m+1,s,c,n,xs,k,hn,hx=>by sleep 1;obtain⟨p,h,x,l,o⟩:=Jj (c:=c) (n:=n) (k:=(s:Int)) (dg:=dg) (xs:=xs) hn (by omega) (by omega);sleep 2;sleep 1;obtain⟨g,b,a,d,j,e⟩:=zP dg m (s+1) p h (xs++[x]) (Y (.int s)) l (by simp;omega);sleep 2;refine{g,b,a,d,by simp at j;omega,?_};have f:(mZ (.one 4) (fJ.int (s:Int)) [Y (.int c),Y (.bool dg),Y (.list (xs.map .int)),Y (.int n),k]).bind iT=_:=o;rw[c9,af,iy f,e]
def RR(c:Int)(a:Bool):∃b:List Int,b.length=14/\gM [.int c,.bool a]=Y (.list (b.map .int)):=by
 have f:=i9 (i:=c) (j:=1000000007) (by omega);sleep 1;obtain⟨l,h,d,k,g,e⟩:=zP a 14 0 c (c % 1000000007+1) [] Z (by omega) (by simp);sleep 2;refine{d,by simpa using g,?_};refine aag (ρ0:=[Y (.int c),Y (.bool a),Z,Z,Z]) (ρ1:=[Y (.int c),Y (.bool a),Y (.list []),Z,Z]) (ρ2:=[Y (.int c),Y (.bool a),Y (.list []),Y (.int (c % 1000000007+1)),Z]) (by rw[oQ];rfl) ?_ ?_ (qs (u4 (n:=14) (by decide) _ _ rfl) e) ?_
 .simp? only[Bq]
 .simp? only[f,vB]
 .simp? only[Bq]
def aaj(l:List α)(h:l≠[])(x:Int):∃d∈l,q9 l (x % (l.length:Int))=Y d:=by
 have e:0<l.length:=bb.mpr h;have c:(((x % (l.length:Int)).toNat:Nat):Int)=x % (l.length:Int):=fH (Int.emod_nonneg _ (by omega));have b:(x % (l.length:Int)).toNat<l.length:=by have:=Int.emod_lt_of_pos x (show (0:Int)<(l.length:Int) by omega);omega
 have a:=NJ l (x % (l.length:Int)).toNat;rw[c,aH b] at a;exact{l[(x % (l.length:Int)).toNat],cw b,a}
def xG(l:Lp)(h:l≠[])(x:Int):∃d∈l,gH (.list l) (.int (x % (l.length:Int)))=Y d:=by obtain⟨d,b,a⟩:=aaj l h x;exact{(d),b,a}
def o3(a:Lr)(h:a≠[])(x:Int):∃w∈a,gH (wl a) (.int (x % (a.length:Int)))=Y (.str w):=by obtain⟨d,c,b⟩:=xG (a.map .str) (by simpa using h) x;obtain⟨w,hw,rfl⟩:=av.mp c;rw[aj] at b;exact{(w),hw,b}
def sW{o:fJ->fJ->Od}{A B:a0->Od}{a b:fJ}(d:A ρ=Y a)(c:B ρ=Y b):d2 o A B ρ=o a b:=by rw[FE,d,c];rfl
def WD{p:α->Prop}{a:α}(h:p a):∀v∈[a],p v:=bO.2 {(h),nofun}
def D4{p:α->Prop}{a b:α}(h:p a)(k:p b):∀v∈[a,b],p v:=bO.2 {h,WD k}
def WE{p:α->Prop}{a b c:α}(h:p a)(k:p b)(l:p c):∀v∈[a,b,c],p v:=bO.2 {h,D4 k l}
def sX{A B:a0->Od}{a b r:Lr}(d:A ρ=Y (wl a))(c:B ρ=Y (wl b))(e:fU (wl a) (wl b)=Y (wl r)):f9 (d2 fU A B) ρ=Y (.rt (wl r)):=by rw[Nn,sW d c,e];rfl
def yy(a:Lr):jQ [wl a]=Y (zi a.length):=by rw[wl,mj,aj]
def YO{F:Lp->Od}{A B C:a0->Od}{a b c:fJ}{r:Od}(g:A ρ=Y a)(f:B ρ=Y b)(d:C ρ=Y c)(e:F [a,b,c]=r):ji 3 F (c4 A (c4 B (zQ C))) ρ=r:=by rw[VN,nv,g,nv,f,nv,d,xk];exact e
def iB{N:Lr}(h:g (gm N ds)=Y (.rt d)):gL N g ds=Y d:=by rw[xp,h,Br]
def vK(d:fJ):Prop:=∃a:List Int,a.length=14/\d=.list (a.map .int)
def vK.at(h:vK d)(i:Nat)(b:i<14):∃x:Int,gH d (zi i)=Y (.int x):=by
 obtain⟨xs,a,rfl⟩:=h;have:i<xs.length:=by omega
 refine{xs[i],?_};rw[qV,NJ,aB,aH this];rfl
def vK.ix(h:vK d)(i:Int)(a:zd0 (0<=i/\i<14)):∃x:Int,gH d (.int i)=Y (.int x):=by obtain⟨k,rfl⟩:=Int.eq_ofNat_of_zero_le a.1;exact h.at k (by omega)
def JE:Option Str->fJ
 |none=>.none
 |some j=>.str j
def um(r:KR):fJ:=.tuple [.str r.nm,JE r.el,wl r.own]
local macro_rules
| `(zk $k) => `(.list (($k).map um))
def kN:Lr:=["ka","kb","kc"].map Str.ofString
def uo(a b:String):List Lr:=[[],[zZ a],[zZ a,zZ b]]
def NZ(a b:String)(x:Int):∃c∈uo a b,D3 (wl [zZ a,zZ b]) Z (Y (x % 3))=Y (wl c):=by
 have h:x % 3=0\/x % 3=1\/x % 3=2:=by omega
 rcases h with h|h|h<;>rw[h]
 .exact{[],by simp[uo],by kernel_rfl}
 .exact{[zZ a],by simp[uo],by kernel_rfl}
 .exact{[zZ a,zZ b],by simp[uo],by kernel_rfl}
abbrev kT:=tl (g:=tl (g:=hU) rfl) rfl
def eN(k:Int):List (Option Str):=Z::if k=0 then [] else Y (zZ "ka")::if k=1 then [] else [Y (zZ "kb")]
def pN(k:Int):String×String:=if k=0 then ("f","u") else if k=1 then ("g","f") else ("h","u")
def fo(b:Option Str)(a:Lr):Lr:=a.filter λw=>b.isNone||w==zZ "g"||w==zZ "h"
def op(k:Int):List KR:=(eN k).flatMap λb=>(uo (pN k).1 (pN k).2).map λa=>{kN.getD k.toNat default,b,fo b a}
section
variable (hd:vK d) (acc:Lp) (ha:acc.length<=100)
include hd in
theorem N1{k:Int}(n:k=0\/k=1\/k=2)(e o:Od):∃u∈eN k,∀r,kT [Y d,Y (.list acc),Y (.int k),Y (JE u),o]=r->hU [Y d,Y (.list acc),Y (.int k),e,o]=r:=by
 obtain⟨a,f⟩:=hd.ix k (by omega);obtain⟨b,t⟩:=hd.ix (2+k) (by omega);have c:=i9 (i:=a) (j:=3) (by decide);have g:=NY k;by_cases l:k=0
 .subst l;exact{Z,by simp[eN],λr h=>d5 (f6 (d:=.none) rfl) (zF h)}
 rw[aU (by omega:0<k)] at g;by_cases h:0<a % 3
 .have m:=i9 (i:=b) (j:=k) (by omega);have q:=NY (a % 3);rw[aU h] at q;have p:∃j,Y j∈eN k/\gH (.list [.str (zZ "ka"),.str (zZ "kb")]) (.int (b % k))=Y (.str j):=by
   rcases n with rfl|rfl|rfl
   .exact absurd rfl l
   .exact{zZ "ka",by simp[eN],by rw[Int.emod_one];kernel_rfl}
   .rcases(by omega:b % 2=0\/b % 2=1) with z|z<;>rw[z]
    .exact{zZ "ka",by simp[eN],by kernel_rfl}
    .exact{zZ "kb",by simp[eN],by kernel_rfl}
  obtain⟨j,s,v⟩:=p;refine{Y j,s,λr h=>d5 (f6 (d:=.none) rfl) (d5 (kZ ?_ (f6 (d:=.str j) ?_)) h)}
  .simp? only[f,c,g,q]
  .rw[x3,ue]
   simp? only[vB,t,m,v]
 .have q:=NY (a % 3);rw[az h] at q;refine{Z,by simp[eN],λr h=>d5 (f6 (d:=.none) rfl) (d5 (gS ?_ rfl) h)}
  simp? only[f,c,g,q]
include hd ha in
theorem oS{k:Int}(f:k=0\/k=1\/k=2)(e o:Od):∃r∈op k,∃v m,hU [Y d,Y (.list acc),Y (.int k),e,o]=Y (.nx [Y d,Y (.list (acc++[um r])),Y (.int k),v,m]):=by
 obtain⟨b,l,u⟩:=N1 hd acc f e o;obtain⟨c,s⟩:=hd.ix (5+k) (by omega);obtain⟨a,g,t⟩:=NZ (pN k).1 (pN k).2 c;have n:=i9 (i:=c) (j:=3) (by decide);have w:a.length<=10:=by simp only[uo,ag,aN,cu] at g;rcases g with rfl|rfl|rfl<;>simp
 have p:gG pP hJ [Y (JE b)] (a.map .str)=Y ((fo b a).map .str):=by
  have:b=Z\/b=Y (zZ "ka")\/b=Y (zZ "kb"):=by rcases f with rfl|rfl|rfl<;>simp[eN] at l<;>first|exact l|simp[l]|(rcases l with h|h<;>simp[h])
  simp only[uo,ag,aN,cu] at g;rcases f with rfl|rfl|rfl<;>rcases this with rfl|rfl|rfl<;>rcases g with rfl|rfl|rfl<;>kernel_rfl
 have q:gH (.list [.list [.str (zZ "f"),.str (zZ "u")],.list [.str (zZ "g"),.str (zZ "f")],.list [.str (zZ "h"),.str (zZ "u")]]) (.int k)=Y (wl [zZ (pN k).1,zZ (pN k).2]):=by rcases f with rfl|rfl|rfl<;>kernel_rfl
 refine{_,List.mem_flatMap.mpr {b,l,av.mpr {(a),g,rfl}},_,_,u _ (d5 (f6 (d:=wl a) ?_) (d5 (f6 (nB (ds:=a.map .str) rfl (by rw[aj];omega) p)) (NA rfl (by omega) ?_)))}
 .rw[x3,ue]
  simp? only[vB,s,n,q,t]
 .rw[xm,x3,ue];rcases f with rfl|rfl|rfl<;>kernel_rfl
end
def xH:Fl->List KR->Option Fl
 |F,[]=>Y F
 |F,r::ks=>if decide (r.nm∈F.map (·.1)) then Z else match (match r.el with|none=>Y []|some j=>F.lookup j) with
  |none=>Z
  |some inh=>if decide ((inh++r.own).Nodup)&&decide (inh.length+r.own.length<=90)&&decide (r.own.length<=6) then xH (F++[(r.nm,inh++r.own)]) ks else Z
theorem u6{β:Type}{w:Str}{v:β}:∀{a:List (Str×β)},a.lookup w=Y v->(w,v)∈a
 |[],h=>by simp at h
 | (k,u)::a,h=>by
  rw[bp] at h;cases q:w==k with
  |true=>rw[q] at h;injection h with h;subst h;rw[eq_of_beq q];simp
  |false=>rw[q] at h;exact ai _ (u6 h)
theorem DK:∀{d:List KR}{F c:Fl},xH F d=Y c->TN F d c
 |[],F,c,h=>by injection h with h;subst h;exact .nil F
 |r::d,F,c,h=>by
  rw[xH] at h;split at h
  .cases h
  .rename_i e;split at h
   .cases h
   .rename_i inh a;split at h
    .rename_i b;simp only[bH,cj] at b;refine .cons (inh:=inh) (by simpa using e) ?_ b.1.1 b.1.2 b.2 (DK h);cases q:r.el with
     |none=>rw[q] at a;injection a with a;exact a.symm
     |some j=>rw[q] at a;exact u6 a
    .cases h
def kvB(r:KR):Bool:=decide (r.nm∈rL)&&(r.el.all λj=>decide (j∈rL))&&(r.own.all λw=>decide (w∈rL))&&((ie r).all lH)&&decide ((ie r).length<=12)
def TQ{r:KR}(h:kvB r=true):KV r/\GR (ie r):=by simp only[kvB,bH,cj,aY] at h;sleep 1;obtain⟨⟨⟨⟨f,a⟩,d⟩,c⟩,b⟩:=h;sleep 2;refine{{f,λj e=>?_,d},by simp[ie],c,b};rw[e] at a;simpa using a
def YP:((op 0++op 1++op 2).all kvB)=true:=by decide +kernel
def kr1:((op 0).all λa=>(xH [] [a]).isSome)=true:=by decide +kernel
def kr2:((op 0).all λa=>(op 1).all λb=>(xH [] [a,b]).isSome)=true:=by decide +kernel
def kr3:((op 0).all λa=>(op 1).all λb=>(op 2).all λc=>(xH [] [a,b,c]).isSome)=true:=by decide +kernel
structure vC (ks:List KR):Prop where
 rd:∃F',TN [] ks F'
 kv:∀r∈ks,KV r
 gr:∀r∈ks,GR (ie r)
 ne:ks≠[]
 len:ks.length<=3
 nm:∀r∈ks,r.nm∈kN
 ka:zZ "ka"∈ks.map (·.nm)
def FX:∀r∈op 0,r.nm=zZ "ka":=by intro r a;obtain⟨_,_,h⟩:=List.mem_flatMap.mp a;obtain⟨o,_,rfl⟩:=av.mp h;rfl
def YQ:((op 0++op 1++op 2).all λr=>decide (r.nm∈kN))=true:=by decide +kernel
def N2{c:List KR}(e:∀r∈c,r∈op 0++op 1++op 2)(j:(xH [] c).isSome=true)(i:c≠[])(h:c.length<=3)(g:zZ "ka"∈c.map (·.nm)):vC c:=by have a:=aY.mp YP;have b:=aY.mp YQ;obtain⟨k,f⟩:=Option.isSome_iff_exists.mp j;exact{{k,DK f},λr d=>(TQ (a r (e r d))).1,λr d=>(TQ (a r (e r d))).2,i,h,λr d=>by simpa using b r (e r d),g}
def iC{a:Tg}{ρ' ρ1:a0}{o:Option Out}(b:mZ a d ρ=Y ρ')(h:g ρ'=Y (.nx ρ1))(e:ib (mZ a) g ds ρ1=o):ib (mZ a) g (d::ds) ρ=o:=by rw[iy (ρ1:=ρ1) (by rw[b];exact h),e]
def N3(q:vK d):∃l,vC l/\jS [d]=Y (zk l):=by
 obtain⟨p,y⟩:=q.ix 0;have E:=i9 (i:=p) (j:=3) (by decide);sleep 1;obtain⟨a,b,A,x,u⟩:=oS q [] (by simp) (k:=0) (by omega) Z Z;sleep 2;have m:∀(n:Nat) (l:List KR) (k e o:Od),n<=3->(1+p % 3=(n:Int))->ib (mZ (.one 2)) hU ((List.range' 0 n).map λ(i:Nat)=>fJ.int (i:Int)) [Y d,Y (.list []),Z,Z,Z]=Y (.nx [Y d,Y (zk l),k,e,o])->jS [d]=Y (zk l):=λn l k e o I F G=>by
  have g:uL [Y d,Z,Z,Z,Z]=Y (.rt (zk l)):=by
   refine d5 (ρ1:=[Y d,Y (.list []),Z,Z,Z]) rfl (d5 (qs (u4 (n:=n) (by omega) _ _ ?_) G) rfl);rw[<-F]
   simp? only[y,E,vB]
  exact iB g
 have h:p % 3=0\/p % 3=1\/p % 3=2:=by omega
 rcases h with h|h|h
 .refine{[a],N2 ?_ (aY.mp kr1 a b) (by simp) (by simp) (by simp[FX a b]),m 1 [a] (Y (.int 0)) A x (by omega) (by omega) ?_}
  .intro r f;simp at f;subst f;simp[b]
  .show ib (mZ (.one 2)) hU [.int ((0:Nat):Int)] _=_;exact iC rfl u rfl
 .obtain⟨c,s,z,w,t⟩:=oS q ([]++[um a]) (by simp) (k:=1) (by omega) A x;refine{[a,c],N2 ?_ (aY.mp (aY.mp kr2 a b) c s) (by simp) (by simp) (by simp[FX a b]),m 2 [a,c] (Y (.int 1)) z w (by omega) (by omega) ?_}
  .intro r f;simp at f;rcases f with rfl|rfl<;>simp[b,s]
  .show ib (mZ (.one 2)) hU [.int ((0:Nat):Int),.int ((1:Nat):Int)] _=_;exact iC rfl u (iC rfl t rfl)
 .obtain⟨c,s,z,w,t⟩:=oS q ([]++[um a]) (by simp) (k:=1) (by omega) A x;sleep 1;obtain⟨v,B,H,D,C⟩:=oS q ([]++[um a]++[um c]) (by simp) (k:=2) (by omega) z w;sleep 2;refine{[a,c,v],N2 ?_ (aY.mp (aY.mp (aY.mp kr3 a b) c s) v B) (by simp) (by simp) (by simp[FX a b]),m 3 [a,c,v] (Y (.int 2)) H D (by omega) (by omega) ?_}
  .intro r f;simp at f;rcases f with rfl|rfl|rfl<;>simp[b,s,B]
  .show ib (mZ (.one 2)) hU [.int ((0:Nat):Int),.int ((1:Nat):Int),.int ((2:Nat):Int)] _=_;exact iC rfl u (iC rfl t (iC rfl C rfl))
def mN:Lr:=["m","n"].map Str.ofString
def fN:Lr:=["fa","fb","fc"].map Str.ofString
def fv(h:Hd):fJ:=.tuple [.str (h.key.nm),wl h.ps,wl h.ks]
local macro_rules
| `(zh $k) => `(.list (($k).map fv))
def OP:Hk->Prop
 |.lA k m=>k∈kN/\m∈mN
 |.func f=>f∈fN
structure HI (K:Lr) (n:Nat) (hs:List Hd):Prop where
 len:hs.length=n
 hv:∀h∈hs,HV K h
 kk:∀h∈hs,OP h.key
 nd:(hs.map (·.key)).Nodup
 fn:∀h∈hs,∀f,h.key=.func f->f∈fN.take n
def Jk:∀w∈kN,w∈rL:=by
 have:(kN.all λw=>decide (w∈rL))=true:=by decide +kernel
 simpa using this
def N4:∀w∈mN,w∈rL:=by
 have:(mN.all λw=>decide (w∈rL))=true:=by decide +kernel
 simpa using this
def RS:∀w∈fN,w∈rL:=by
 have:(fN.all λw=>decide (w∈rL))=true:=by decide +kernel
 simpa using this
def yz(a b c:String):List Lr:=uo a b++[[zZ a,zZ b,zZ c]]
def DL(a b c:String)(x:Int):∃d∈yz a b c,D3 (wl [zZ a,zZ b,zZ c]) Z (Y (x % 4))=Y (wl d):=by
 have h:x % 4=0\/x % 4=1\/x % 4=2\/x % 4=3:=by omega
 rcases h with h|h|h|h<;>rw[h]
 .exact{[],by simp[yz,uo],by kernel_rfl}
 .exact{[zZ a],by simp[yz,uo],by kernel_rfl}
 .exact{[zZ a,zZ b],by simp[yz,uo],by kernel_rfl}
 .exact{[zZ a,zZ b,zZ c],by simp[yz,uo],by kernel_rfl}
def pkB(a b:Lr):Bool:=(a.all λw=>decide (w∈rL))&&(b.all λw=>decide (w∈rL))&&decide ((a++b).Nodup)&&decide (zZ "k"∉a)&&decide (a.length<=3)&&decide (b.length<=3)
def Wg:((yz "p" "q" "s").all λa=>(yz "k" "l" "j").all λb=>pkB a b)=true:=by decide +kernel
def TR{K:Lr}{a:Hk}{b:Lr}(e:match a with | .lA k m=>k∈K/\k∈rL/\m∈rL | .func f=>f∈rL)(d:ps∈yz "p" "q" "s")(c:b∈yz "k" "l" "j"):HV K {(a),ps,b}:=by have h:=aY.mp (aY.mp Wg ps d) b c;simp only[pkB,bH,cj,aY] at h;sleep 1;obtain⟨⟨⟨⟨⟨o,n⟩,l⟩,j⟩,i⟩,g⟩:=h;sleep 2;exact{(e),o,n,l,j,i,g}
def RT(r:KR):gH (um r) (.int 0)=Y (.str r.nm):=by rw[um,WB,xq]
def RU(h:Hd):gH (fv h) (.int 0)=Y (.str (h.key.nm)):=by rw[fv,WB,xq]
def hd1(h:Hd):gH (fv h) (.int 1)=Y (wl h.ps):=by rw[fv,WB,Rb]
def hd2(h:Hd):gH (fv h) (.int 2)=Y (wl h.ks):=by rw[fv,WB,at2]
theorem xI(T:a0->Option Bool)(C:a0->Od)(b:T=λ_=>Y true)(c:C=d2 gH gz lT):∀a:List Hd,gG T C [] (a.map fv)=Y ((a.map λh=>h.key.nm).map .str)
 |[]=>rfl
 |h::a=>by
  have d:=xI T C b c a;have e:C [Y (fv h)]=Y (.str (h.key.nm)):=by rw[c];simp? only[RU]
  have f:T [Y (fv h)]=Y true:=by rw[b]
  rw[af,gG,f]
  simp? only[e,d]
def FY{a:Hk}(h:OP a):fJ.strOk (a.nm)=true:=by
 cases a with
 |lA k m=>exact BC (gI _ (Jk _ h.1)) (gI _ (N4 _ h.2))
 |func f=>exact kY (gI _ (RS _ h))
def uq{a:List KR}(e:vC a)(x:Int):∃r∈a,gH (zk a) (.int (x % (a.length:Int)))=Y (um r):=by obtain⟨d,f,b⟩:=xG (a.map um) (by simpa using e.ne) x;obtain⟨r,c,rfl⟩:=av.mp f;rw[aj] at b;exact{(r),c,b}
def qz(a:List KR):jQ [.list (a.map um)]=Y (zi a.length):=by rw[mj,aj]
def eq2(x:Int):∃b,j7 (.int (x % 2)) (.int 0)=Y (.bool b):={_,TC _ _}
section
variable (hd:vK d) {ks:List KR} (hk:vC ks)
theorem HI.snoc{K:Lr}{n:Nat}{d:List Hd}(H:HI K n d){h:Hd}(v:HV K h)(k:OP h.key)(l:h.key∉d.map (·.key))(f:∀f,h.key=.func f->f∈fN.take (n+1)):HI K (n+1) (d++[h]):=by
 have i:∀{p:Hd->Prop},(∀x∈d,p x)->p h->∀x∈d++[h],p x:=λa b x c=>by
  rcases ax.mp c with c|c
  .exact a x c
  .simp at c;subst c;exact b
 refine{by simp[H.len],i H.hv v,i H.kk k,?_,i (λx c g e=>?_) f}
 .rw[aV,bc];exact{H.nd,by simp,λa m b j e=>l (by simp at j;subst j;exact e▸m)}
 .rw[fF];exact aD _ (H.fn x c g e)
include hd hk in
theorem FZ(hn:n<3){a:List Hd}(H:HI (ks.map (·.nm)) n a)(p m:Od):∃h,HI (ks.map (·.nm)) (n+1) (a++[h])/\∃p' m',jT [Y d,Y (zk ks),Y (zh a),Y (zi n),p,m]=Y (.nx [Y d,Y (zk ks),Y (.list ((a++[h]).map fv)),Y (zi n),p',m']):=by
 obtain⟨J,y⟩:=hd.ix (1+(n:Int)) (by omega);obtain⟨V,v⟩:=hd.ix (4+(n:Int)) (by omega);obtain⟨o,u⟩:=hd.ix (7+(n:Int)) (by omega);obtain⟨s,g⟩:=hd.ix (10+(n:Int)) (by omega);obtain⟨t,A,Q⟩:=DL "p" "q" "s" J;obtain⟨kq,N,R⟩:=DL "k" "l" "j" o;obtain⟨r,hr,er⟩:=uq hk V;obtain⟨c,l,em⟩:=o3 mN (by simp[mN]) o;have L:(0:Int)<(ks.length:Int):=by have:=bb.mpr hk.ne;omega
 have K:=hk.nm r hr;have X:=gI _ (Jk _ K);have nm:=gI _ (N4 _ l);have l1:=(kz.mp X).2.1;have l2:=(kz.mp nm).2.1;have ld:(zZ ".").length=1:=by decide +kernel
 have a1:=NB r.nm (zZ ".") (by omega);have T:=NB (r.nm++zZ ".") c (by rw[cX];omega);rw[show r.nm++zZ "."++c=ml r.nm c by rw[ml,Str.append_assoc]] at T;have d1:=i9 (i:=J) (j:=4) (by decide);have d4:=i9 (i:=V) L;have d7:=i9 (i:=o) (j:=2) (by decide);have S:=i9 (i:=o) (j:=4) (by decide);have F:=i9 (i:=s) (j:=2) (by decide);obtain⟨b,hb⟩:=eq2 s;have hsl:=H.len;have c1:=xI bS i0 rfl rfl a;have c3:=nA (x:=ml r.nm c) (ys:=a.map λh=>h.key.nm) (BC X nm) (λw hw=>by obtain⟨h,B,rfl⟩:=av.mp hw;exact FY (H.kk h B));have lk:=qz ks;have z:(a.map fv).length<=16777216:=by rw[aj];omega
 have U:(a.map fv).length<16777216:=by rw[aj];omega
 have O:r.nm∈ks.map (·.nm):=av.mpr {(r),hr,rfl};have D:gH (.list [.str (zZ "m"),.str (zZ "n")]) (.int (o % 2))=Y (.str c):=em;have W:=RT r;have k:D3 (.list [.str (zZ "p"),.str (zZ "q"),.str (zZ "s")]) Z (Y (J % 4))=Y (wl t):=Q;have E:D3 (.list [.str (zZ "k"),.str (zZ "l"),.str (zZ "j")]) Z (Y (o % 4))=Y (wl kq):=R;have G:j9 (.str (ml r.nm c)) (.list ((a.map λh=>h.key.nm).map .str))=_:=c3;cases I:(b&&!decide (ml r.nm c∈a.map λh=>h.key.nm)) with
 |true=>
  refine{{.lA r.nm c,t,[]},H.snoc (TR {O,Jk _ K,N4 _ l} A (by simp[yz,uo])) {(K),l} ?_ (λf e=>by cases e),Y (wl t),Y (.str (ml r.nm c)),?_}
  .intro q;obtain⟨h,B,e⟩:=av.mp q;simp only[bH,Bool.not_eq_true',fq] at I;exact I.2 (av.mpr {h,B,by rw[e];rfl})
  .rw[aV];generalize a.map fv=HD at *;generalize (a.map λh=>h.key.nm).map fJ.str=ND at *;generalize decide (ml r.nm c∈a.map λh=>h.key.nm)=q at *;cases b<;>cases q<;>simp at I
   simp? only[jT,vB,y,d1,k,v,lk,d4,er,W,a1,u,d7,D,T,g,F,hb,ah z,md,c1,iP,G,ah U]
   rfl
 |false=>
  have P:fN[n]?=Y (fN.getD n default):=by
   rw[List.getD_eq_getElem?_getD];have h2:n<fN.length:=by rw[show fN.length=3 by decide];exact hn
   rw[aH h2];rfl
  have C:fN.getD n default∈fN:=b9 P;refine{{.func (fN.getD n default),t,kq},H.snoc (TR (RS _ C) A N) C ?_ (λf e=>?_),Y (wl t),Y (.str (ml r.nm c)),?_}
  .intro q;obtain⟨h,B,e⟩:=av.mp q;have M:∀n<3,decide (fN.getD n default∈fN.take n)=false:=by decide +kernel
   have k0:=M n hn;rw[fq] at k0;exact k0 (H.fn h B _ e)
  .injection e with e;subst e;rw[fF,P];simp
  .have q1:gH (.list [.str (zZ "fa"),.str (zZ "fb"),.str (zZ "fc")]) (zi n)=Y (.str (fN.getD n default)):=by
    show gH (.list (fN.map .str)) _=_;rw[qV,NJ,aB,P];rfl
   rw[aV];generalize a.map fv=HD at *;generalize (a.map λh=>h.key.nm).map fJ.str=ND at *;generalize decide (ml r.nm c∈a.map λh=>h.key.nm)=q at *;cases b<;>cases q<;>simp at I<;>simp? only[jT,vB,y,d1,k,v,lk,d4,er,W,a1,u,d7,D,T,g,F,hb,ah z,md,c1,iP,G,ah U,q1,S,E]<;>rfl
include hd hk in
theorem xJ:∀(m n:Nat) (hs:List Hd) (k p q:Od),n+m<=3->HI (ks.map (·.nm)) n hs->∃a,HI (ks.map (·.nm)) (n+m) a/\∃f c b,ib (mZ (.one 3)) jT ((List.range' n m).map λ(i:Nat)=>fJ.int (i:Int)) [Y d,Y (zk ks),Y (zh hs),k,p,q]=Y (.nx [Y d,Y (zk ks),Y (zh a),f,c,b])
 |0,n,hs,k,p,q,_,H=>{(hs),H,k,p,q,rfl}
 |m+1,n,hs,k,p,q,hn,H=>by sleep 1;obtain⟨h,o,l,j,g⟩:=FZ hd hk (n:=n) (by omega) H p q;sleep 2;sleep 1;obtain⟨a,r,f,c,b,e⟩:=xJ m (n+1) (hs++[h]) (Y (zi n)) l j (by omega) o;sleep 2;refine{a,by rwa[show n+(m+1)=n+1+m by omega],f,c,b,?_};rw[c9,af];exact iC rfl g e
include hd hk in
theorem BH:∃b n,n<=3/\HI (ks.map (·.nm)) n b/\kB [d,.list (ks.map um)]=Y (zh b):=by
 obtain⟨a,c⟩:=hd.ix 0;have f:=i9 (i:=a) (j:=4) (by decide);have h:((a % 4).toNat:Int)=a % 4:=fH (by omega);have k:(a % 4).toNat<=3:=by omega
 sleep 1;obtain⟨b,H,o,m,l,e⟩:=xJ hd hk (a % 4).toNat 0 [] Z Z Z (by omega) {rfl,by simp,by simp,by simp,by simp};sleep 2;refine{b,_,k,by rwa[cZ] at H,?_};have g:uM [Y d,Y (zk ks),Z,Z,Z,Z]=Y (.rt (zh b)):=by
  refine d5 (ρ1:=[Y d,Y (zk ks),Y (.list []),Z,Z,Z]) rfl (d5 (qs (u4 (n:=(a % 4).toNat) (by omega) _ _ ?_) e) rfl);rw[h]
  simp? only[c,f]
 exact iB g
end
def YR:Hk->Bool
 |.lA _ _=>true
 |.func _=>false
def RV{a:Hk}(h:OP a):j9 (.str (zZ ".")) (.str (a.nm))=Y (YR a):=by
 cases a with
 |lA k m=>obtain⟨b,c⟩:=h;simp only[kN,mN,af,bj,ag,aN,cu] at b c;rcases b with rfl|rfl|rfl<;>rcases c with rfl|rfl<;>kernel_rfl
 |func f=>have b:f∈fN:=h;simp only[fN,af,bj,ag,aN,cu] at b;rcases b with rfl|rfl|rfl<;>kernel_rfl
def DM{k m:Str}(h:OP (.lA k m)):ll (.str (ml k m)) [.str (zZ ".")]=Y (.tuple [.str k,.str (zZ "."),.str m]):=by obtain⟨b,a⟩:=h;simp only[kN,mN,af,bj,ag,aN,cu] at b a;rcases b with rfl|rfl|rfl<;>rcases a with rfl|rfl<;>kernel_rfl
def yA(h:Hd):Bool:=YR h.key
local macro_rules
| `(zm $k) => `((($k).filter fun h => !yA h).map fv)
def BI{h:Hd}(k:OP h.key):j9 (.str (zZ ".")) (.str (h.key.nm))=Y (yA h):=RV k
theorem Wh{T:a0->Option Bool}{C:a0->Od}{p:Hd->Bool}{f:Hd->fJ}:∀{hs:List Hd},(∀h∈hs,T [Y (fv h)]=Y (p h)/\C [Y (fv h)]=Y (f h))->gG T C [] (hs.map fv)=Y ((hs.filter p).map f)
 |[],_=>rfl
 |h::hs,q=>by
  have a:=Wh (T:=T) (C:=C) (p:=p) (f:=f) λx (d:x∈hs)=>q x (by simp[d]);obtain⟨c,b⟩:=q h (by simp);rw[af,gG,c];cases e:p h with
  |false=>rw[List.filter_cons_of_neg (by simp[e])];simpa using a
  |true=>rw[List.filter_cons_of_pos e,af];simp[b,a]
def zT{a:Lr}(h:∀w∈a,fJ.strOk w=true):fJ.canLayAll0 (a.map .str)=true:=by rw[eE];simpa using h
def F0{w:Str}(h:w∈rL):fJ.strOk w=true:=kY (gI w h)
theorem sY{K:Lr}:∀{d:List Hd},(∀h∈d,HV K h/\OP h.key)->fJ.canLayAll0 (d.map fv)=true/\fJ.depthAll (d.map fv)<=2
 |[],_=>by simp[fJ.canLayAll0,fJ.depthAll]
 |h::d,q=>by
  obtain⟨e,g⟩:=sY λx (f:x∈d)=>q x (by simp[f]);obtain⟨v,k⟩:=q h (by simp);have a:=FY k;have b:=zT λw hw=>F0 (v.ps w hw);have c:=zT λw hw=>F0 (v.ks w hw);constructor
  .rw[af,fJ.canLayAll0,e];simp[fv,fJ.canLay0,fJ.canLayAll0,a,b,c]
  .rw[af,fJ.depthAll];have:fJ.depth (fv h)<=2:=by simp[fv,fJ.depth,fJ.depthAll,rE]
   omega
def DN{K:Lr}{hs:List Hd}(q:∀h∈hs,HV K h/\OP h.key):mY (zh hs) (.list [])=Y (.bool (!hs.isEmpty)):=by
 obtain⟨d,e⟩:=sY q;have c:SeqAt.shaped (zh hs)=true:=by
  have:fJ.depth (zh hs)<=64:=by rw[fJ.depth];omega
  simp[SeqAt.shaped,fJ.canLay0,d,this]
 have b:SeqAt.shaped (.list [])=true:=by rfl
 rw[mY,ah {(c),b}];cases hs with
 |nil=>rfl
 |cons a l=>rw[af,fJ.eqv,fJ.eqvAll];rfl
def N5{ws:Lr}(q:∀w∈ws,fJ.strOk w=true):mY (wl ws) (.list [])=Y (.bool (!ws.isEmpty)):=by
 have:=Nx (bs:=[]) q (by simp);cases ws with
 |nil=>exact this
 |cons a l=>rw[az (by simp)] at this;exact this
def jg{w:String}{r:Lr}(h:lH (zZ w)=true)(a:∀v∈r,lH v=true)(b:r.length<=11):GR (zZ w::r):=by
 refine{by simp,λv hv=>?_,by simp;omega};rcases ag.mp hv with rfl|hv
 .exact h
 .exact a v hv
def RW:List String:=["new","copy","take","put","ask","do","new","func","tell","if","while","end","else","push","pull","row","give","take","put","ask","do","end","rest","copy","straight","check","fresh","own","place"]
def HL(c:vK d):∃w∈RW,oJ [d,.bool true]=Y (.str (zZ w)):=by
 obtain⟨x,a⟩:=c.ix 0;obtain⟨w,hw,e⟩:=o3 (RW.map Str.ofString) (by simp[RW]) x;obtain⟨s,b,rfl⟩:=av.mp hw;have m:=i9 (i:=x) (j:=((RW.map Str.ofString).length:Int)) (by decide);refine{s,b,iB (d5 (ρ1:=[Y d,Y (.bool true),Y (wl ((RW.take 14).map Str.ofString))]) (zK 0) (d5 (ρ1:=[Y d,Y (.bool true),Y (wl ((RW.take 24).map Str.ofString))]) (zK 0) (d5 (ρ1:=[Y d,Y (.bool true),Y (wl (RW.map Str.ofString))]) (zK 0) ?_)))}
 simp? only[a,yy,m,e]
section
variable (hd:vK d) {ns:Lr} (hn:ns≠[]) (hN:∀w∈ns,lH w=true)
include hd hn in
theorem N6(k:Nat)(b:k<3):∃w∈ns,kh [Y (zi k),Y (wl ns),Y d]=Y (.str w):=by obtain⟨x,a⟩:=hd.ix (8+(k:Int)) (by omega);obtain⟨w,hw,e⟩:=o3 ns hn (x+5*(k:Int));have m:=i9 (i:=x+5*(k:Int)) (j:=(ns.length:Int)) (by have:=bb.mpr hn;omega);have q:=Ji (i:=5) (j:=(k:Int)) (JD (by omega) (by omega)) (JD (by omega) (by omega));exact{w,hw,by simp? only[kh,vB,a,q,yy,m,e]}
include hd hn in
theorem zU(n:Nat)(h:n<=3):∃f:Lr,f.length=n/\(∀w∈f,w∈ns)/\kR [d,wl ns,.int (n:Int)]=Y (wl f):=by
 obtain⟨a,f,j⟩:=N6 hd hn 0 (by omega);obtain⟨b,k,l⟩:=N6 hd hn 1 (by omega);obtain⟨c,o,p⟩:=N6 hd hn 2 (by omega);have g:∀(f:Lr),gG bS kh [Y (wl ns),Y d] ((List.range' 0 n).map λ(i:Nat)=>fJ.int (i:Int))=Y (f.map .str)->kR [d,wl ns,.int (n:Int)]=Y (wl f):=λf e=>iB (bJ (Option.map Out.rt) (nB (u4 (n:=n) (by omega) _ iD rfl) (by simp;omega) e));have t:∀m,bS m=Y true:=λ_=>rfl;rcases n with _|_|_|_|n
 .exact{[],rfl,by simp,g [] rfl}
 .refine{[a],rfl,WD f,g [a] ?_};show gG _ _ _ [.int ((0:Nat):Int)]=_;simp only[aJ,dk,j,gG,t];rfl
 .refine{[a,b],rfl,D4 f k,g [a,b] ?_};show gG _ _ _ [.int ((0:Nat):Int),.int ((1:Nat):Int)]=_;simp only[aJ,dk,j,gG,t,l];rfl
 .refine{[a,b,c],rfl,WE f k o,g [a,b,c] ?_};show gG _ _ _ [.int ((0:Nat):Int),.int ((1:Nat):Int),.int ((2:Nat):Int)]=_;simp only[aJ,dk,j,gG,t,l,p];rfl
 .omega
include hd hn hN in
theorem RX:∃c,Ck c/\(∀w∈c,lH w=true)/\c.length<=3/\lW [d,wl ns]=Y (wl c):=by
 obtain⟨l,t⟩:=hd.ix 1;obtain⟨k,s⟩:=hd.ix 2;obtain⟨e,b⟩:=hd.ix 3;obtain⟨x,n,v⟩:=o3 ns hn l;obtain⟨y,q,u⟩:=o3 ns hn k;have m:(0:Int)<(ns.length:Int):=by have:=bb.mpr hn;omega
 have p:=i9 (i:=l) m;have o:=i9 (i:=k) m;have a:=i9 (i:=e) (j:=3) (by decide);have f:∀(r:Option Out),tl (g:=lV) rfl [Y d,Y (wl ns),Y (.str x)]=r->lV [Y d,Y (wl ns),Z]=r:=λr h=>d5 (f6 (d:=.str x) (by rw[ue];simp? only[t,yy,p,v])) h;rcases(by omega:e % 3=0\/e % 3=1\/e % 3=2) with h|h|h<;>rw[h] at a
 .exact{_,.choose,WD (by decide +kernel),by simp,iB (f _ (jG (kZ (by simp? only[b,a];rfl) rfl)))}
 .exact{[zZ "some",x],.some,D4 (by decide +kernel) (hN _ n),by simp,iB (f _ (d5 (gS (by simp? only[b,a];rfl) rfl) (jG (kZ (by simp? only[b,a];rfl) rfl))))}
 .exact{[zZ "same",x,y],.same,WE (by decide +kernel) (hN _ n) (hN _ q),by simp,iB (f _ (d5 (gS (by simp? only[b,a];rfl) rfl) (d5 (gS (by simp? only[b,a];rfl) rfl) (by simp? only[s,yy,o,u];rfl))))}
end
section
variable (hd:vK d) {ks:List KR} (hk:vC ks) (xK:n<=3) {hs:List Hd} (Hi:HI (ks.map (·.nm)) n hs) {ns:Lr} (hn:ns≠[]) (hN:∀w∈ns,lH w=true)
abbrev N7:=tl4 (g:=uS) rfl
def gN:Lr:=["f","g","h","u","v"].map Str.ofString
theorem YS:∀w∈gN,lH w=true:=by
 have:(gN.all lH)=true:=by decide +kernel
 simpa using this
abbrev Mh(hs:List Hd):List (Str×Str):=hs.filterMap WC
abbrev Fh(hs:List Hd):List (Str×Nat):=hs.filterMap Wf
def BJ:List String:=["new","fresh","func","row","give","tell","take","own","put","place","check","push","pull","rest","copy","if","while","end","else"]
theorem BL{f:Str}(l:lH x=true)(k:lH y=true)(m:lH f=true){K:Lr}{M:List (Str×Str)}{Fu:List (Str×Nat)}(a b c e g:Od){w:String}(hw:w∈BJ)(j:w≠"new")(i:w≠"fresh")(h:w≠"func"):∃d r,Rk K M Fu d r/\GR (zZ d::r)/\N7 [Y (.str (zZ w)),a,b,c,e,Y (.str x),Y (.str y),Y (.str f),g,Z]=Y (.rt (wl (zZ d::r))):=by
 simp only[BJ,ag,aN,cu] at hw;rcases hw with rfl|rfl|rfl|rfl|rfl|rfl|rfl|rfl|rfl|rfl|rfl|rfl|rfl|rfl|rfl|rfl|rfl|rfl|rfl
 .exact absurd rfl j
 .exact absurd rfl i
 .exact absurd rfl h
 .exact{"row",[x],.row,jg (by decide +kernel) (WD ‹_›) (by simp),by kernel_rfl}
 .exact{"give",[x],.give,jg (by decide +kernel) (WD ‹_›) (by simp),by kernel_rfl}
 .exact{"tell",[x],.tell,jg (by decide +kernel) (WD ‹_›) (by simp),by kernel_rfl}
 .exact{"take",[x,y,f],.take,jg (by decide +kernel) (WE ‹_› ‹_› ‹_›) (by simp),by kernel_rfl}
 .exact{"own",[x,y,f],.own,jg (by decide +kernel) (WE ‹_› ‹_› ‹_›) (by simp),by kernel_rfl}
 .exact{"put",[y,f,x],.put,jg (by decide +kernel) (WE ‹_› ‹_› ‹_›) (by simp),by kernel_rfl}
 .exact{"place",[y,f,x],.place,jg (by decide +kernel) (WE ‹_› ‹_› ‹_›) (by simp),by kernel_rfl}
 .exact{"check",[y,f],.check,jg (by decide +kernel) (D4 ‹_› ‹_›) (by simp),by kernel_rfl}
 .exact{"push",[x,y],.push,jg (by decide +kernel) (D4 ‹_› ‹_›) (by simp),by kernel_rfl}
 .exact{"pull",[x,y],.pull,jg (by decide +kernel) (D4 ‹_› ‹_›) (by simp),by kernel_rfl}
 .exact{"rest",[],.rest,jg (by decide +kernel) (by simp) (by simp),by kernel_rfl}
 .exact{"copy",[x,y],.copy,jg (by decide +kernel) (D4 ‹_› ‹_›) (by simp),by kernel_rfl}
 .exact{"copy",[x,y],.copy,jg (by decide +kernel) (D4 ‹_› ‹_›) (by simp),by kernel_rfl}
 .exact{"copy",[x,y],.copy,jg (by decide +kernel) (D4 ‹_› ‹_›) (by simp),by kernel_rfl}
 .exact{"copy",[x,y],.copy,jg (by decide +kernel) (D4 ‹_› ‹_›) (by simp),by kernel_rfl}
 .exact{"copy",[x,y],.copy,jg (by decide +kernel) (D4 ‹_› ‹_›) (by simp),by kernel_rfl}
include Hi in
theorem xM:gG jU hJ [] (hs.map fv)=Y (zm hs):=by
 refine Wh λh a=>{?_,rfl}
 have e:=BI (Hi.kk h a);rw[jU,Q4,FE,Bq,FE,Bq,Hh];simp only[bW,dW,aJ,RU,iP,e,cD]
include hd hk xK Hi hn hN in
theorem DP{w:String}(hw:w∈BJ):∃n r,Rk (ks.map (·.nm)) (Mh hs) (Fh hs) n r/\GR (zZ n::r)/\kF [.str (zZ w),d,wl ns,.list (ks.map um),.list (hs.map fv)]=Y (wl (zZ n::r)):=by
 obtain⟨L,h1⟩:=hd.ix 1;obtain⟨J,h2⟩:=hd.ix 2;obtain⟨I,h4⟩:=hd.ix 4;obtain⟨u,H⟩:=hd.ix 5;obtain⟨x,hx,ex⟩:=o3 ns hn L;obtain⟨y,hy,ey⟩:=o3 ns hn J;obtain⟨f,hf,ef⟩:=o3 gN (by simp[gN]) I;obtain⟨r,S,U⟩:=uq hk u;have O:=hN x hx;have ny:=hN y hy;have nf:=YS f hf;have fc:=xM Hi;have hl:=Hi.len;have Q:(0:Int)<(ns.length:Int):=by have:=bb.mpr hn;omega
 have B:(0:Int)<(ks.length:Int):=by have:=bb.mpr hk.ne;omega
 have m1:=i9 (i:=L) Q;have m2:=i9 (i:=J) Q;have m4:=i9 (i:=I) (j:=5) (by decide);have P:=i9 (i:=u) B;have b:∀l:Lr,N7 [Y (.str (zZ w)),Y d,Y (wl ns),Y (zk ks),Y (zh hs),Y (.str x),Y (.str y),Y (.str f),Y (.list (zm hs)),Z]=Y (.rt (wl l))->kF [.str (zZ w),d,wl ns,.list (ks.map um),.list (hs.map fv)]=Y (wl l):=λl e=>by
  refine iB (d5 (f6 (d:=.str x) ?_) (d5 (f6 (d:=.str y) ?_) (d5 (f6 (d:=.str f) ?_) (d5 (f6 (nB (ds:=hs.map fv) rfl (by rw[aj];omega) fc)) e))))
  all_goals
   rw[ue]
   simp? only[h1,h2,h4,yy,m1,m2,m4,ex,ey]
  exact ef
 have nr:=gI _ (Jk _ (hk.nm r S));have p:r.nm∈ks.map (·.nm):=av.mpr {(r),S,rfl};by_cases X:w="new"
 .subst X;exact{"new",[x,r.nm],.new p,jg (by decide +kernel) (D4 ‹_› ‹_›) (by simp),b _ (jG (kZ (zK 0) (by simp? only[H,qz,P,U,RT];rfl)))}
 by_cases W:w="fresh"
 .subst W;exact{"fresh",[x,r.nm],.fresh p,jg (by decide +kernel) (D4 ‹_› ‹_›) (by simp),b _ (jG (kZ (zK 0) (by simp? only[H,qz,P,U,RT];rfl)))}
 by_cases V:w="func"
 .subst V;have A:=DN (hs:=hs.filter λh=>!yA h) (K:=ks.map (·.nm)) λh D=>have:=(bZ.mp D).1;{Hi.hv h this,Hi.kk h this};have N:("func"=="func")=true:=by decide
  cases hb:(!(hs.filter λh=>!yA h).isEmpty) with
  |false=>rw[hb] at A;exact{"copy",[x,y],.copy,jg (by decide +kernel) (D4 ‹_› ‹_›) (by simp),b _ (zF (d5 (gS (by simp? only[hF,N,A]) rfl) (zK 0)))}
  |true=>
   rw[hb] at A;have o:(hs.filter λh=>!yA h).map fv≠[]:=by intro z;rw[List.map_eq_nil_iff.mp z] at hb;cases hb
   obtain⟨dd,F,ed⟩:=xG _ o u;obtain⟨h,D,rfl⟩:=av.mp F;obtain⟨c,q⟩:=bZ.mp D;have hv:=Hi.hv h c;have s:=Hi.kk h c;have B:=hv.lk;have m6:=i9 (i:=u) (j:=((zm hs).length:Int)) (by have:=bb.mpr o;omega);obtain⟨T,t,G,eh⟩:=zU hd hn h.ks.length B;have R:=RU h;cases C:h.key with
   |lA k m=>rw[yA,C] at q;cases q
   |func g=>
    rw[C] at s R;have E:(g,T.length)∈Fh hs:=bu.mpr {h,c,by rw[Wf,C,t]};refine{"func",x::g::T,.func (by rw[t];exact B) E,jg (by decide +kernel) (λv hv=>?_) (by simp;omega),b _ (zF (jG (kZ (by simp? only[hF,N,A]) (d5 (f6 (d:=fv h) ?_) ?_))))}
    .simp at hv;rcases hv with rfl|rfl|hv
     .exact O
     .exact gI _ (RS _ s)
     .exact hN _ (G _ hv)
    .rw[ue]
     simp? only[H,mj,m6,ed]
    .exact sX (a:=[zZ "func",x,g]) (by simp? only[R];rfl) (YO rfl rfl (by simp? only[hd2,yy]) eh) (i8 _ _ (by simp;omega))
 sleep 1;obtain⟨n,r',k1,k2,k3⟩:=BL (K:=ks.map (·.nm)) (M:=Mh hs) (Fu:=Fh hs) O ny nf (Y d) (Y (wl ns)) (Y (zk ks)) (Y (zh hs)) (Y (.list (zm hs))) hw X W V;sleep 2;exact{n,r',k1,k2,b _ k3}
end
section
variable (hd:vK d) {ks:List KR} (hk:vC ks) (xK:n<=3) {hs:List Hd} (Hi:HI (ks.map (·.nm)) n hs) {ns:Lr} (hn:ns≠[]) (hN:∀w∈ns,lH w=true)
include Hi in
theorem F4:gG ki i0 [] (hs.map fv)=Y (((hs.filter yA).map λh=>h.key.nm).map .str):=by
 have:=Wh (T:=ki) (C:=i0) (p:=yA) (f:=λh=>.str (h.key.nm)) (hs:=hs) λh b=>by
  have e:=BI (Hi.kk h b);refine{?_,?_}
  .rw[ki,Q4,FE,Bq,FE,Bq,Hh];simp only[bW,dW,aJ,RU,gJ,e,cD]
  .rw[i0,sW (A:=gq 0) (B:=dC (.int 0)) (a:=fv h) rfl rfl,RU]
 rw[this,dH];rfl
def BM:List String:=["ask","do","straight"]
theorem Jl(x:Int):∃n:Nat,n<=3/\gH (.list [.int 0,.int 1,.int 2,.int 3]) (.int (x % 4))=Y (zi n):=by
 have h:x % 4=0\/x % 4=1\/x % 4=2\/x % 4=3:=by omega
 rcases h with h|h|h|h<;>rw[h]
 .exact{0,by omega,by kernel_rfl}
 .exact{1,by omega,by kernel_rfl}
 .exact{2,by omega,by kernel_rfl}
 .exact{3,by omega,by kernel_rfl}
abbrev TU:=tl4 (g:=sj) rfl
include hd hk xK Hi hn hN in
theorem zV{w:String}(hw:w∈BM):∃f r,Rk (ks.map (·.nm)) (Mh hs) (Fh hs) f r/\GR (zZ f::r)/\jo [.str (zZ w),d,wl ns,.list (hs.map fv)]=Y (wl (zZ f::r)):=by
 obtain⟨S,h1⟩:=hd.ix 1;obtain⟨R,h2⟩:=hd.ix 2;obtain⟨Q,h7⟩:=hd.ix 7;obtain⟨q,X⟩:=hd.ix 5;obtain⟨x,hx,ex⟩:=o3 ns hn S;obtain⟨y,hy,ey⟩:=o3 ns hn R;obtain⟨u,M,em⟩:=Jl Q;obtain⟨D,hal,P,H⟩:=zU hd hn u M;have K:=hN x hx;have J:=hN y hy;have V:=F4 Hi;have hl:=Hi.len;have W:(0:Int)<(ns.length:Int):=by have:=bb.mpr hn;omega
 have m1:=i9 (i:=S) W;have m2:=i9 (i:=R) W;have m7:=i9 (i:=Q) (j:=4) (by decide);generalize E:((hs.filter yA).map λh=>h.key.nm)=c at V;have p:∀l:Lr,TU [Y (.str (zZ w)),Y d,Y (wl ns),Y (zh hs),Y (.str x),Y (.str y),Y (zi u),Y (wl c),Z,Z,Z]=Y (.rt (wl l))->jo [.str (zZ w),d,wl ns,.list (hs.map fv)]=Y (wl l):=λl e=>by
  refine iB (d5 (f6 (d:=.str x) ?_) (d5 (f6 (d:=.str y) ?_) (d5 (f6 (d:=.int (u:Int)) ?_) (d5 (f6 (nB (ds:=hs.map fv) rfl (by rw[aj];omega) V)) e))))
  all_goals
   rw[ue]
   simp? only[h1,h2,h7,yy,m1,m2,m7,ex,ey,em]
 have o:∀v∈D,lH v=true:=λv hv=>hN v (P v hv);have DO:(TU [Y (.str (zZ w)),Y d,Y (wl ns),Y (zh hs),Y (.str x),Y (.str y),Y (zi u),Y (wl c),Z,Z,Z]=Y (.rt (wl (zZ "do"::x::y::D))))->∃f r,Rk (ks.map (·.nm)) (Mh hs) (Fh hs) f r/\GR (zZ f::r)/\jo [.str (zZ w),d,wl ns,.list (hs.map fv)]=Y (wl (zZ f::r)):=λe=>by
  refine{"do",x::y::D,.doo (by omega),jg (by decide +kernel) (λv hv=>?_) (by simp;omega),p _ e};simp at hv;rcases hv with rfl|rfl|hv
  .exact K
  .exact J
  .exact o v hv
 simp only[BM,ag,aN,cu] at hw;rcases hw with rfl|rfl|rfl
 .obtain⟨U,N,e5⟩:=o3 mN (by simp[mN]) q;have L:=i9 (i:=q) (j:=2) (by decide);refine{"ask",x::y::U::D,.ask (by omega),jg (by decide +kernel) (λv hv=>?_) (by simp;omega),p _ (jG (kZ (zK 0) (sX (a:=[zZ "ask",x,y,U]) ?_ (YO rfl rfl rfl H) (i8 _ _ (by simp;omega)))))}
  .simp at hv;rcases hv with rfl|rfl|rfl|hv
   .exact K
   .exact J
   .exact gI _ (N4 _ N)
   .exact o v hv
  .simp? only[X,L,show gH (.list [.str (zZ "m"),.str (zZ "n")]) (.int (q % 2))=_ from e5]
   rfl
 .exact DO (zF (zF (sX (a:=[zZ "do",x,y]) rfl (YO rfl rfl rfl H) (i8 _ _ (by simp;omega)))))
 .have G:=N5 (ws:=c) λt B=>by
   rw[<-E] at B;obtain⟨h,O,rfl⟩:=av.mp B;exact FY (Hi.kk h (bZ.mp O).1)
  have T:("straight"=="straight")=true:=by decide
  cases hb:(!c.isEmpty) with
  |false=>rw[hb] at G;exact DO (zF (d5 (gS (by simp? only[hF,T,G]) rfl) (sX (a:=[zZ "do",x,y]) rfl (YO rfl rfl rfl H) (i8 _ _ (by simp;omega)))))
  |true=>
   rw[hb] at G;have s:c≠[]:=by intro z;rw[z] at hb;cases hb
   obtain⟨t,B,et⟩:=o3 c s q;have L:=i9 (i:=q) (j:=(c.length:Int)) (by have:=bb.mpr s;omega);rw[<-E] at B;obtain⟨h,O,F⟩:=av.mp B;obtain⟨n,C⟩:=bZ.mp O;have b:=Hi.kk h n;have A:=(Hi.hv h n).key;cases I:h.key with
   |func g=>rw[yA,I] at C;cases C
   |lA k m=>
    rw[I] at b F A;have pt:=DM b;subst F;refine{"straight",x::y::k::m::D,.xC (by omega) A.1 (bu.mpr {h,n,by rw[WC,I]}),jg (by decide +kernel) (λv hv=>?_) (by simp;omega),p _ (zF (jG (kZ (by simp? only[hF,T,G]) (d5 (ρ1:=[Y (.str (zZ "straight")),Y d,Y (wl ns),Y (zh hs),Y (.str x),Y (.str y),Y (zi u),Y (wl c),Y (.str k),Y (.str (zZ ".")),Y (.str m)]) ?_ (sX (a:=[zZ "straight",x,y,k,m]) rfl (YO rfl rfl rfl H) (i8 _ _ (by simp;omega)))))))}
    .simp at hv;rcases hv with rfl|rfl|rfl|rfl|hv
     .exact K
     .exact J
     .exact gI _ (Jk _ b.1)
     .exact gI _ (N4 _ b.2)
     .exact o v hv
    .simp? only[X,yy,L,et,Hk.nm,pt]
     rfl
end
def F5:∀w∈["x","y","z"].map Str.ofString,lH w=true:=by
 have:((["x","y","z"].map Str.ofString).all lH)=true:=by decide +kernel
 simpa using this
def o4:fJ:=.tuple [.str (zZ "main"),.list [],.list []]
def xN:iL [o4]=Y (wl (["x","y","z"].map Str.ofString)):=by kernel_rfl
def zW{K:Lr}{h:Hd}(v:HV K h)(k:OP h.key):∃a,a≠[]/\(∀w∈a,lH w=true)/\iL [fv h]=Y (wl a):=by
 have l:=v.lp;have m:=v.lk;have j:=i8 h.ps h.ks (by omega);have i:=i8 (h.ps++h.ks) (["x","y","z"].map Str.ofString) (by simp;omega);have f:=i8 (h.ps++h.ks++["x","y","z"].map Str.ofString) [zZ "self"] (by simp;omega);have b:=BI k;have c:∀w∈h.ps++h.ks++["x","y","z"].map Str.ofString,lH w=true:=λw hw=>by
  rcases ax.mp hw with hw|hw
  .rcases ax.mp hw with hw|hw
   .exact gI w (v.ps w hw)
   .exact gI w (v.ks w hw)
  .exact F5 w hw
 have S:∀r,tl (g:=pV) rfl [Y (fv h),Y (wl (h.ps++h.ks++["x","y","z"].map Str.ofString))]=r->pV [Y (fv h),Z]=r:=λr e=>d5 (f6 (by rw[ue];simp? only[hd1,hd2,j,show fU (wl (h.ps++h.ks)) (.list [.str (zZ "x"),.str (zZ "y"),.str (zZ "z")])=_ from i])) e;cases q:yA h<;>rw[q] at b
 .exact{_,by simp,c,iB (S _ (d5 (gS (by simp? only[RU,gJ,b]) rfl) rfl))}
 .refine{h.ps++h.ks++["x","y","z"].map Str.ofString++[zZ "self"],by simp,λw hw=>?_,iB (S _ (d5 (kZ (by simp? only[RU,gJ,b]) (f6 (d:=wl (h.ps++h.ks++["x","y","z"].map Str.ofString++[zZ "self"])) f)) rfl))};rcases ax.mp hw with hw|hw
  .exact c w hw
  .simp at hw;subst hw;decide +kernel
theorem Bk.ends{K:Lr}{M:List (Str×Str)}{b:List (Str×Nat)}:∀(n:Nat) (bs:Lr),bs.length=n->Bk K M b bs (List.replicate n [zZ "end"]) []
 |0,bs,h=>by rw[List.length_eq_zero_iff.mp h];exact .nil []
 |n+1,bs,h=>by
  have a:bs≠[]:=by intro z;rw[z] at h;simp at h
  rw[<-eG a,bT];exact .fin (Bk.ends n _ (by simp;omega))
def DQ(a:Lr):a=[]\/∃b x,a=b++[x]:=by
 by_cases h:a=[]
 .exact .inl h
 .exact .inr {_,_,(eG h).symm}
def YT(i j:Int):vX (.int i) (.int j)=Y (.bool (decide (i<j))):=rfl
section
variable {ks:List KR} (hk:vC ks) (xK:n<=3) {hs:List Hd} (Hi:HI (ks.map (·.nm)) n hs) {ns:Lr} (hn:ns≠[]) (hN:∀w∈ns,lH w=true)
abbrev BK(a:List KR)(hs:List Hd):=Bk (a.map (·.nm)) (Mh hs) (Fh hs)
def o5(e f g:fJ)(b:List KR)(c:List Hd)(a:Lr)(R:List Lr)(bs:Lr)(d w:Od):a0:=[Y e,Y f,Y (zk b),Y (zh c),Y (.bool true),Y g,Y (wl a),Y (wl (R.map ln)),Y (wl bs),d,w]
variable (hd dr bg:fJ)
theorem RY{A:a0->Od}{a:Lr}(g:GR a)(h:A ρ=Y (wl a)):(qL iE (zA " ") (zQ A)) ρ=Y (.str (ln a)):=by rw[Yp,Bq,nv,h,xk];exact g.join
theorem YU(t:String):j9 (.str (zZ t)) (.tuple [.str (zZ "ask"),.str (zZ "do"),.str (zZ "straight")])=Y (t=="ask"||(t=="do"||t=="straight")):=by
 show (if _ then _ else Z)=_;rw[ah {iN (ba _),by simp[iN (ba _)],by simp[fJ.depth]}];simp only[bQ,List.any_nil,df,Bt,jk]
 congr 1
 rw[cU,cU (b:="do"),cU (b:="straight")]
theorem HM:∀s∈RW,((s=="ask"||(s=="do"||s=="straight"))=true/\s∈BM)\/((s=="ask"||(s=="do"||s=="straight"))=false/\s∈BJ):=by decide
theorem RZ:∀s∈RW,(s=="if"||s=="while")=true->(s=="end")=false/\(s=="else")=false/\lH (zZ s)=true:=by decide +kernel
variable {R:List Lr}{bs:Lr} (hR:R.length<=900) (hb:∀b∈bs,fJ.strOk b=true) (h8:bs.length<=8) (D:vK d)
abbrev YV:=el (g:=el (g:=el (g:=tl (g:=jz) rfl) rfl) rfl) rfl
include hk xK Hi hn hN hR hb h8 D in
theorem Jm(w:Od):∃f t,BK ks hs bs [f] t/\GR f/\(∀b∈t,fJ.strOk b=true)/\t.length<=8/\∃P,jz (o5 hd dr bg ks hs ns R bs (Y d) w)=Y (.nx (o5 hd dr bg ks hs ns (R++[f]) t (Y d) P)):=by
 obtain⟨s,A,U⟩:=HL D;have o:=N5 hb;have q:=sS s;have J:=YU s;have m:=hF s "end";have l:=hF s "else";have z:((R.map ln).map fJ.str).length<16777216:=by simp;omega
 have O:(bs.map fJ.str).length<16777216:=by simp;omega
 have N:=yy bs;have C:=YT (bs.length:Int) 8;have B:∀f:Lr,wl ((R++[f]).map ln)=.list ((R.map ln).map fJ.str++[.str (ln f)]):=λf=>by simp[wl]
 obtain⟨f,k,g,e⟩:∃f,BK ks hs bs [f] bs/\GR f/\((s=="ask"||(s=="do"||s=="straight"))=true/\jo [.str (zZ s),d,wl ns,.list (hs.map fv)]=Y (wl f)\/(s=="ask"||(s=="do"||s=="straight"))=false/\kF [.str (zZ s),d,wl ns,.list (ks.map um),.list (hs.map fv)]=Y (wl f)):=by
  rcases HM s A with x|x
  .obtain⟨_,_,k,g,e⟩:=zV D hk xK Hi hn hN x.2;exact{_,.row k (.nil bs),g,.inl {x.1,e}}
  .obtain⟨_,_,k,g,e⟩:=DP D hk xK Hi hn hN x.2;exact{_,.row k (.nil bs),g,.inr {x.1,e}}
 have v:=g.join;have i:∀r,tl (g:=jz) rfl (o5 hd dr bg ks hs ns R bs (Y d) (Y (.str (zZ s))))=r->jz (o5 hd dr bg ks hs ns R bs (Y d) w)=r:=λr h=>d5 (f6 (d:=.str (zZ s)) (by rw[x3,x3,ue];simp? only[o5,U])) h;have F:YV (o5 hd dr bg ks hs ns R bs (Y d) (Y (.str (zZ s))))=Y (.nx (o5 hd dr bg ks hs ns (R++[f]) bs (Y d) (Y (.str (zZ s))))):=by unfold o5;rw[B];rcases e with ⟨n,e⟩ | ⟨n,e⟩<;>rw[n] at J<;>unfold wl at e v ⊢<;>simp? only[gJ,J,e,v,ah z]
 cases h1:(s=="if"||s=="while")<;>rw[h1] at q
 .cases L:(s=="end")<;>rw[L] at m
  .cases S:(s=="else")<;>rw[S] at l
   .exact{f,bs,k,g,hb,h8,_,i _ (gS (by simp? only[o5,gJ,q]) (gS (by simp? only[o5,m]) (gS (by simp? only[o5,l]) F)))}
   .rcases DQ bs with a | ⟨b,x,a⟩
    .rw[show (!bs.isEmpty)=false by rw[a];rfl] at o;exact{f,bs,k,g,hb,h8,_,i _ (gS (by simp? only[o5,gJ,q]) (gS (by simp? only[o5,m]) (gS (by simp? only[o5,l,o]) F)))}
    .have G:=Dt (hb x (by rw[a];simp)) (ba "if");have I:gH (wl bs) (.int (-1))=Y (.str x):=by rw[a];exact Hy b x
     rw[show (!bs.isEmpty)=true by rw[a];simp] at o;cases y:(x==zZ "if")<;>rw[y] at G
     .exact{f,bs,k,g,hb,h8,_,i _ (gS (by simp? only[o5,gJ,q]) (gS (by simp? only[o5,m]) (gS (by simp? only[o5,l,o,I,G]) F)))}
     .have E:x=zZ "if":=eq_of_beq y;subst E;have p:vi (.int (-1)) (.str (zZ "else")) (wl bs)=Y (wl (b++[zZ "else"])):=by rw[a,nQ,nQ];exact Dx (b.map .str) (.str (zZ "if")) (.str (zZ "else"))
      refine{[zZ "else"],b++[zZ "else"],by rw[a];exact .Jd (.nil _),{by simp,RB,by simp},λz u=>?_,by rw[a] at h8;simpa using h8,Y (.str (zZ s)),i _ (gS (by simp? only[o5,gJ,q]) (gS (by simp? only[o5,m]) (kZ (by simp? only[o5,l,o,I,G]) ?_)))}
      .rcases ax.mp u with u|u
       .exact hb z (by rw[a];simp[u])
       .simp at u;subst u;exact ba _
      .unfold o5;rw[B,show ln [zZ "else"]=zZ "else" from rfl];generalize wl (b++[zZ "else"])=X at p;unfold wl at p ⊢
       simp? only[uZ,p,ah z]
  .rcases DQ bs with a | ⟨b,x,a⟩
   .rw[show (s=="else")=false by rw[bF.mp L];rfl] at l;rw[show (!bs.isEmpty)=false by rw[a];rfl] at o;exact{f,bs,k,g,hb,h8,_,i _ (gS (by simp? only[o5,gJ,q]) (gS (by simp? only[o5,m,o]) (gS (by simp? only[o5,l]) F)))}
   .have Q:(b.map fJ.str++[fJ.str x]).isEmpty=false:=by simp
    rw[show (!bs.isEmpty)=true by rw[a];simp] at o;refine{[zZ "end"],b,by rw[a];exact .fin (.nil b),FU,λz u=>hb z (by rw[a];simp[u]),by rw[a] at h8;simp at h8;omega,Y (.str (zZ s)),i _ (gS (by simp? only[o5,gJ,q]) (kZ (by simp? only[o5,m,o]) ?_))};unfold o5;rw[B,a,nQ,show ln [zZ "end"]=zZ "end" from rfl];unfold wl
    simp? only[EE,Q,cy,List.dropLast_concat,ah z]
 .obtain⟨W,V,T⟩:=RZ s A h1;rw[W] at m;rw[V] at l;cases K:decide ((bs.length:Int)<8)<;>rw[K] at C
  .exact{f,bs,k,g,hb,h8,_,i _ (gS (by simp? only[o5,gJ,q,N,C]) (gS (by simp? only[o5,m]) (gS (by simp? only[o5,l]) F)))}
  .rw[cj] at K;sleep 1;obtain⟨c,ck,cn,cl,M⟩:=RX D hn hN;sleep 2;have g:=jg T cn (by omega);have H:fU (.list [.str (zZ s)]) (wl c)=Y (wl (zZ s::c)):=i8 [zZ s] c (by simp;omega);have v:=g.join;refine{zZ s::c,bs++[zZ s],.YL (by simpa using h1) ck (by omega) (.nil _),g,λb j=>?_,by simp;omega,Y (.str (zZ s)),i _ (kZ (by simp? only[o5,gJ,q,N,C]) ?_)}
   .rcases ax.mp j with j | j
    .exact hb b j
    .simp at j;subst j;exact ba _
   .unfold o5;rw[B,nQ bs];generalize wl (zZ s::c)=X at H v;unfold wl at M H ⊢
    simp? only[M,H,v,ah z,ah O]
end
section
variable {ks:List KR} (hk:vC ks) (xK:n<=3) {hs:List Hd} (Hi:HI (ks.map (·.nm)) n hs) {ns:Lr} (hn:ns≠[]) (hN:∀w∈ns,lH w=true) (hd dr bg:fJ)
include hk xK Hi hn hN in
theorem zY:∀(ds:Lp) (R:List Lr) (bs:Lr) (d w:Od),(∀x∈ds,vK x)->R.length+ds.length<=900->(∀b∈bs,fJ.strOk b=true)->bs.length<=8 ->
  ∃c a,BK ks hs bs c a/\(∀e∈c,GR e)/\c.length=ds.length/\a.length<=8/\∃g f,ib (mZ (.one 9)) jz ds (o5 hd dr bg ks hs ns R bs d w)=Y (.nx (o5 hd dr bg ks hs ns (R++c) a g f))
 |[],R,bs,d,w,_,_,_,h8=>{[],bs,.nil bs,by simp,rfl,h8,d,w,by rw[aG];rfl}
 |x::ds,R,bs,d,w,hD,hl,hb,h8=>by
  rw[ay] at hl;sleep 1;obtain⟨e,h,o,r,t,m,j,s⟩:=Jm hk xK Hi hn hN hd dr bg (R:=R) (bs:=bs) (by omega) hb h8 (hD x (by simp)) w;sleep 2;sleep 1;obtain⟨c,a,n,q,k,l,g,f,i⟩:=zY ds (R++[e]) h (Y x) j (λy p=>hD y (by simp[p])) (by simp;omega) t m;sleep 2;refine{e::c,a,o.app n,λv hv=>?_,by simp[k],l,g,f,?_}
  .rcases ag.mp hv with rfl|hv
   .exact r
   .exact q v hv
  .rw[aW] at i;exact iC (ρ':=o5 hd dr bg ks hs ns R bs (Y x) w) rfl s i
theorem z0(T:a0->Option Bool)(C:a0->Od)(b:T=λ_=>Y true)(c:C=qL iE (zA (zZ " ")) mK):∀{a:List Lr},(∀ws∈a,GR ws)->gG T C [] (a.map wl)=Y ((a.map ln).map .str)
 |[],_=>rfl
 |ws::a,h=>by
  have d:=z0 T C b c λx (f:x∈a)=>h x (by simp[f]);have e:C [Y (wl ws)]=Y (.str (ln ws)):=by rw[c];exact RY (h ws (by simp)) rfl
  have g:T [Y (wl ws)]=Y true:=by rw[b]
  rw[af,gG,g]
  simp? only[e,d]
theorem R3(n:Nat)(h:n<=8):IL (.list [.str (zZ "end")]) (zi n)=Y (wl ((List.replicate n [zZ "end"]).map ln)):=by
 rcases n with _|_|_|_|_|_|_|_|_|n
 all_goals first|omega|kernel_rfl
include hk xK Hi hn hN in
theorem u7(v:∀x∈ds,vK x)(F:ds.length<=100){B:List Lr}(j:∀ws∈B,GR ws)(s:BK ks hs [] B [])(E:B.length<=2)(y:iL [hd]=Y (wl ns)):
  ∃R,BK ks hs [] R []/\(∀ws∈R,GR ws)/\R.length<=ds.length+10/\mM [hd,.list ds,.list (ks.map um),.list (hs.map fv),.bool true,.list (B.map wl)]=Y (wl (R.map ln))/\(∀a f,B=a::f->∃d,R=a::d):=by
 sleep 1;obtain⟨d,b,t,w,l,r,k,i,e⟩:=zY hk xK Hi hn hN hd (.list ds) (.list (B.map wl)) ds B [] Z Z v (by omega) (by simp) (by simp);sleep 2;refine{B++d++List.replicate b.length [zZ "end"],(s.app t).app (Bk.ends _ b rfl),λws hw=>?_,by simp[l];omega,?_,λa f h=>{f++d++List.replicate b.length [zZ "end"],by rw[h];rfl}}
 .rcases ax.mp hw with hw|hw
  .rcases ax.mp hw with hw|hw
   .exact j ws hw
   .exact w ws hw
  .rw[List.mem_replicate] at hw;rw[hw.2];exact FU
 .have D:jQ [wl b]=Y (zi b.length):=by rw[mj,aj]
  have u:=z0 bS lE rfl rfl j;have z:=i8 ((B++d).map ln) ((List.replicate b.length [zZ "end"]).map ln) (by simp;omega);have g:wL [Y hd,Y (.list ds),Y (zk ks),Y (zh hs),Y (.bool true),Y (.list (B.map wl)),Z,Z,Z,Z,Z]=Y (.rt (wl ((B++d++List.replicate b.length [zZ "end"]).map ln))):=by
   refine d5 (ρ1:=[Y hd,Y (.list ds),Y (zk ks),Y (zh hs),Y (.bool true),Y (.list (B.map wl)),Y (wl ns),Z,Z,Z,Z]) (f6 ?_) (d5 (ρ1:=[Y hd,Y (.list ds),Y (zk ks),Y (zh hs),Y (.bool true),Y (.list (B.map wl)),Y (wl ns),Y (wl (B.map ln)),Z,Z,Z]) ?_ (d5 (ρ1:=o5 hd (.list ds) (.list (B.map wl)) ks hs ns B [] Z Z) rfl (d5 (Rl rfl e) ?_)))
   .show ji 1 iL mK [Y hd,Y (.list ds),Y (zk ks),Y (zh hs),Y (.bool true),Y (.list (B.map wl)),Z,Z,Z,Z,Z]=_
    simp? only[y]
   .have c:=nB (q:=pb mG) (caps:=[]) (T:=bS) (C:=lE) (ρ:=[Y hd,Y (.list ds),Y (zk ks),Y (zh hs),Y (.bool true),Y (.list (B.map wl)),Y (wl ns),Z,Z,Z,Z]) (ds:=B.map wl) rfl (by rw[aj];omega) u;rw[FG,xm,x3,x3,ue];show (iJ (pb mG) [] bS lE [Y hd,Y (.list ds),Y (zk ks),Y (zh hs),Y (.bool true),Y (.list (B.map wl)),Y (wl ns),Z,Z,Z,Z]).bind _=_;rw[c];rfl
   .have p:iH jQ (zQ C0) (o5 hd (.list ds) (.list (B.map wl)) ks hs ns (B++d) b k i)=Y (zi b.length):=D;have n:d2 IL zd AZ (o5 hd (.list ds) (.list (B.map wl)) ks hs ns (B++d) b k i)=Y (wl ((List.replicate b.length [zZ "end"]).map ln)):=(sW (a:=.list [.str (zZ "end")]) rfl p).trans (R3 _ r);have m:=(sW (o:=fU) (A:=gq 7) (a:=wl ((B++d).map ln)) rfl n).trans z;rw[Nn,m,aV (l₁:=B++d)];rfl
  exact iB g
end
section
variable {ks:List KR} (hk:vC ks) (xK:n<=3) {hs:List Hd} (Hi:HI (ks.map (·.nm)) n hs) (D:vK d)
theorem Wi(m:Nat)(h:m<=3):∃l:Lr,l.length=m/\(∀w∈l,lH w=true)/\D3 (wl [zZ "x",zZ "z",zZ "x"]) Z (Y (m:Int))=Y (wl l):=by
 rcases m with _|_|_|_|m
 .exact{[],rfl,by simp,by kernel_rfl}
 .exact{[zZ "x"],rfl,by intro w hw;simp at hw;subst hw;decide +kernel,by kernel_rfl}
 .exact{[zZ "x",zZ "z"],rfl,by intro w hw;simp at hw;rcases hw with rfl|rfl<;>decide +kernel,by kernel_rfl}
 .exact{[zZ "x",zZ "z",zZ "x"],rfl,by intro w hw;simp at hw;rcases hw with rfl|rfl|rfl<;>decide +kernel,by kernel_rfl}
 .omega
include Hi in
theorem F6:gG jU hJ [] (hs.map fv)=Y (zm hs):=xM Hi
include hk xK Hi D in
theorem N8:∃B,(∀T∈B,GR T)/\BK ks hs [] B []/\B.length<=2/\(∃r B',B=(zZ "new"::r)::B')/\lM [o4,d,.list (ks.map um),.list (hs.map fv)]=Y (.list (B.map wl)):=by
 obtain⟨s,w⟩:=D.at 0 (by omega);obtain⟨q,v⟩:=D.at 1 (by omega);have a:gH d (.int 0)=Y (.int s):=w;have e:gH d (.int 1)=Y (.int q):=v;obtain⟨r,M,P⟩:=uq hk s;have t:(0:Int)<(ks.length:Int):=by have:=bb.mpr hk.ne;omega
 have U:=gI _ (Jk _ (hk.nm r M));have x:r.nm∈ks.map (·.nm):=av.mpr {(r),M,rfl};have O:=F6 Hi;have hl:=Hi.len;have N:GR [zZ "new",zZ "x",r.nm]:=jg (by decide +kernel) (D4 (by decide +kernel) U) (by simp);have R:BK ks hs [] [[zZ "new",zZ "x",r.nm]] []:=.row (.new x) (.nil []);have J:=qz ks;have Q:=i9 (i:=s) t;have G:=RT r;have z:(hs.map fv).length<=16777216:=by rw[aj];omega
 have I:gH o4 (.int 0)=Y (.str (zZ "main")):=by kernel_rfl
 have H:mY (.str (zZ "main")) (.str (zZ "main"))=Y (.bool false):=by kernel_rfl
 have o:=DN (hs:=hs.filter λh=>!yA h) λh p=>{Hi.hv h (bZ.mp p).1,Hi.kk h (bZ.mp p).1}
 cases hb:(!(hs.filter λh=>!yA h).isEmpty) with
 |false=>
  rw[hb] at o;refine{[[zZ "new",zZ "x",r.nm]],by simpa using N,R,by simp,{_,_,rfl},?_};generalize o4=MD at *;generalize hs.map fv=HD at *
  simp? only[lM,pU,I,H,a,J,Q,P,G,ah z,md,O,o]
  rfl
 |true=>
  rw[hb] at o;have c:hs.filter (λh=>!yA h)≠[]:=by intro z;rw[z] at hb;cases hb
  obtain⟨dd,E,ed⟩:=xG (zm hs) (by simpa using c) q;obtain⟨h,p,rfl⟩:=av.mp E;obtain⟨b,f⟩:=bZ.mp p;have L:=Hi.hv h b;have j:=Hi.kk h b;have W:(0:Int)<((zm hs).length:Int):=by have:=bb.mpr (show (hs.filter λh=>!yA h).map fv≠[] by simpa using c);omega
  obtain⟨l,A,y,el⟩:=Wi h.ks.length L.lk;cases n:h.key with
  |lA k m=>rw[yA,n] at f;cases f
  |func g=>
   have hg:g∈fN:=by rw[n] at j;exact j
   have V:=gI _ (RS _ hg);have C:(g,l.length)∈Fh hs:=bu.mpr {h,b,by rw[Wf,n,A]};have lk3:=L.lk;have g2:GR (zZ "func"::zZ "y"::g::l):=jg (by decide +kernel) (bO.2 {by decide +kernel,bO.2 {(V),y}}) (by simp;omega);have K:=RU h;rw[n] at K;have u:gH (fv h) (.int 0)=Y (.str g):=K;have i2:=hd2 h;have X:jQ [wl h.ks]=Y (zi h.ks.length):=by rw[mj,aj]
   have S:fU (.list [.str (zZ "func"),.str (zZ "y"),.str g]) (wl l)=Y (wl (zZ "func"::zZ "y"::g::l)):=i8 [zZ "func",zZ "y",g] l (by simp;omega);have F:D3 (.list [.str (zZ "x"),.str (zZ "z"),.str (zZ "x")]) Z (Y (h.ks.length:Int))=Y (wl l):=el;refine{[[zZ "new",zZ "x",r.nm],zZ "func"::zZ "y"::g::l],D4 N g2,R.app (.row (.func (by omega) C) (.nil [])),by simp,{_,_,rfl},?_};have d1:=i9 (i:=q) W;have lf:=mj (zm hs);have z2:(1:Nat)<16777216:=by decide
   rw[af,af,bj];generalize wl (zZ "func"::zZ "y"::g::l)=Y at S;generalize o4=MD at *;generalize hs.map fv=HD at *;generalize (hs.filter λh=>!yA h).map fv=FD at *
   simp? only[lM,pU,I,H,a,J,Q,P,G,ah z,md,O,o,e,lf,d1,ed,u,i2,X,F,S]
   rfl
end
def DR{K:Lr}{h:Hd}(v:HV K h)(k:OP h.key)(g:GR (h.ws)):i5 [fv h]=Y (.str (ln (h.ws))):=by
 have x:=v.lp;have y:=v.lk;have c:=BI k;have e:=RU h;have n:=hd1 h;have s:=hd2 h;have a:=g.join;cases j:h.key with
 |lA d m=>
  rw[j] at k e c;have t:=DM k;rw[show yA h=true by rw[yA,j];rfl] at c;have o:h.ws=zZ "method"::d::m::h.ps:=by unfold Hd.ws;rw[j]
  rw[o] at a ⊢;have i:fU (.list [.str (zZ "method"),.str d,.str m]) (wl h.ps)=Y (wl (zZ "method"::d::m::h.ps)):=i8 [zZ "method",d,m] h.ps (by simp;omega);rw[show Hk.nm (Hk.lA d m)=ml d m from rfl] at e c;generalize wl (zZ "method"::d::m::h.ps)=X at i a
  simp? only[i5,kQ,e,gJ,c,t]
  simp? only[mZ,vF,n,i,a]
 |func f=>
  rw[j] at e c;rw[show yA h=false by rw[yA,j];rfl] at c;have o:h.ws=zZ "func"::f::(h.ps++kw h.ks):=by unfold Hd.ws;rw[j]
  rw[o] at a ⊢;rw[show Hk.nm (Hk.func f)=f from rfl] at e c;have i:fU (.list [.str (zZ "func"),.str f]) (wl h.ps)=Y (wl ([zZ "func",f]++h.ps)):=i8 [zZ "func",f] h.ps (by simp;omega);have l:=N5 (ws:=h.ks) λw hw=>F0 (v.ks w hw);by_cases b:h.ks=[]
  .rw[show zZ "func"::f::(h.ps++kw h.ks)=[zZ "func",f]++h.ps by simp[kw,b]] at a ⊢;rw[show (!h.ks.isEmpty)=false by rw[b];rfl] at l;generalize wl ([zZ "func",f]++h.ps)=X at i a
   simp? only[i5,kQ,e,gJ,c,n,i,s,l,a]
  .rw[show zZ "func"::f::(h.ps++kw h.ks)=[zZ "func",f]++h.ps++[zZ "keeps"]++h.ks by simp[kw,b]] at a ⊢;rw[show (!h.ks.isEmpty)=true by simpa using b] at l;have r:=i8 ([zZ "func",f]++h.ps) [zZ "keeps"] (by simp;omega);have p:=i8 ([zZ "func",f]++h.ps++[zZ "keeps"]) h.ks (by simp;omega);generalize wl ([zZ "func",f]++h.ps++[zZ "keeps"]++h.ks)=z at p a;generalize wl ([zZ "func",f]++h.ps++[zZ "keeps"])=u at r p;generalize wl ([zZ "func",f]++h.ps)=X at i r;have q:fU X (.list [.str (zZ "keeps")])=Y u:=r
   simp? only[i5,kQ,e,gJ,c,n,i,s,l,q,p,a]
structure PI (m k:Nat) (ps:List Lp):Prop where
 len:ps.length=m+1
 le:∀p∈ps,p.length<=k
 ok:∀p∈ps,∀x∈p,vK x
def HN{a:Nat}(h:a<n):yJ n (a:Int)=Y a:=by
 unfold yJ;have b:(a:Int)<(n:Int):=by omega
 simp[b]
def xO{b:List Lp}{a:Nat}(c:a<b.length){x:fJ}(i:∀p∈b,p.length<=900)(s m:Od):
  EV (.sl 2) (fY [2,99] iZ) (fY [2,99] kO) [s,m,Y (.list (b.map .list)),Y (zi a),Y x]=Y (.nx [s,m,Y (.list ((b.set a (b[a]++[x])).map .list)),Y (zi a),Y x]):=by
 have h:EU (.list (b.map .list)) (zi a)=Y b[a]:=by show X3 (q9 (b.map .list) (a:Int))=_;rw[NJ,aB,aH c];rfl
 have g:y4 (.list (b.map .list)) (zi a) (b[a]++[x])=fJ.list ((b.set a (b[a]++[x])).map fJ.list):=by show (match yJ (b.map fJ.list).length (a:Int) with|some j=>fJ.list ((b.map fJ.list).set j (.list (b[a]++[x])))|none=>_)=_;rw[HN (by rw[aj];exact c)];simp only;rw[List.map_set]
 have z:b[a].length<sizeLine:=by have:=i _ (cw c);rw[sizeLine_eq];omega
 show ((Y (fJ.list (b.map .list))).bind λl=>(Y (fJ.int (a:Int))).bind λf=>(EU l f).bind λe=>(Y x).bind λd=>if e.length<sizeLine then Y (Out.nx (rY (.sl 2) (y4 l f (e++[d])) [s,m,Y (.list (b.map .list)),Y (zi a),Y x])) else Z)=_;simp only[aJ,h,ah z,g];rfl
def PI.put{m k a:Nat}{d:List Lp}(h:PI m k d)(e:a<d.length){x:fJ}(f:vK x):PI m (k+1) (d.set a (d[a]++[x])):=by
 refine{by rw[d8,h.len],λp c=>?_,λp c y b=>?_}
 .rcases eV c with c|rfl
  .have:=h.le p c;omega
  .have:=h.le _ (cw e);simp;omega
 .rcases eV c with c|rfl
  .exact h.ok p c y b
  .rcases ax.mp b with b|b
   .exact h.ok _ (cw e) y b
   .simp at b;subst b;exact f
def F7{m k a:Nat}{c:List Lp}(h:PI m k c)(v:k<=800)(o:a<=m){x:fJ}(d:vK x)(s:Od):
  ∃t b,t<=m/\PI m (k+1) b/\mH [s,Y (zi m),Y (.list (c.map .list)),Y (zi a),Y x]=Y (.nx [s,Y (zi m),Y (.list (b.map .list)),Y (zi t),Y x]):=by
 obtain⟨y,g⟩:=d.ix 13;have n:∀p∈c,p.length<=900:=λp u=>by have:=h.le p u;omega
 have e:=i9 (i:=y) (j:=6) (by decide);have q:=TC (y % 6) 5;have f:=YT (a:Int) (m:Int);have l:=h.len;cases h1:(y % 6==5)<;>rw[h1] at q
 .exact{a,_,o,h.put (by omega) d,d5 (gS (by simp? only[g,e,q]) rfl) (xO (by omega) n _ _)}
 cases r:decide ((a:Int)<(m:Int))<;>rw[r] at f
 .exact{a,_,o,h.put (by omega) d,d5 (gS (by simp? only[g,e,q,f]) rfl) (xO (by omega) n _ _)}
 .have:=eX r;exact{a+1,_,by omega,h.put (by omega) d,d5 (ρ1:=[s,Y (zi m),Y (.list (c.map .list)),Y (zi (a+1:Nat)),Y x]) (kZ (by simp? only[g,e,q,f]) rfl) (xO (by omega) n _ _)}
theorem xP{m:Nat}(s:Od):∀(c:Lp) (k a:Nat) (ps:List Lp) (d:Od),PI m k ps->a<=m->(∀x∈c,vK x)->k+c.length<=800 ->
  ∃b g f,PI m (k+c.length) b/\ib (mZ (.one 4)) mH c [s,Y (zi m),Y (.list (ps.map .list)),Y (zi a),d]=Y (.nx [s,Y (zi m),Y (.list (b.map .list)),g,f])
 |[],k,a,ps,d,h,_,_,_=>{(ps),_,d,h,rfl}
 |x::c,k,a,ps,d,h,ha,hD,hl=>by rw[ay] at hl;sleep 1;obtain⟨q,e,n,l,p⟩:=F7 h (by omega) ha (hD x (by simp)) s;sleep 2;sleep 1;obtain⟨b,g,f,j,o⟩:=xP s c (k+1) q e (Y x) l n (λy i=>hD y (by simp[i])) (by omega);sleep 2;exact{b,g,f,by rw[ay,show k+(c.length+1)=k+1+c.length by omega];exact j,iC rfl p o}
def N9(b:∀x∈ds,vK x)(l:ds.length<=100){m:Nat}(k:m<=3):∃a,PI m ds.length a/\pT [.list ds,.int (m:Int)]=Y (.list (a.map .list)):=by
 sleep 1;obtain⟨a,f,d,h,e⟩:=xP (m:=m) (Y (.list ds)) ds 0 0 (List.replicate (m+1) []) Z {by simp,by simp,by simp} (by omega) b (by omega);sleep 2;refine{a,by simpa using h,?_};have j:(jI (fY [2,99] (iJ (iI (d2 fU (gq 1) (zI 1))) [] bS kP)) 2) [Y (.list ds),Y (zi m),Z,Z,Z]=Y (.nx [Y (.list ds),Y (zi m),Y (.list ((List.replicate (m+1) []).map .list)),Z,Z]):=by
  have c:gG bS kP [] ((List.range' 0 (m+1)).map λ(i:Nat)=>fJ.int (i:Int))=Y ((List.replicate (m+1) []).map .list):=by
   rcases m with _|_|_|_|m
   all_goals first|omega|rfl
  rw[FG];show (iJ (iI (d2 fU (gq 1) (zI 1))) [] bS kP [Y (.list ds),Y (zi m),Z,Z,Z]).bind _=_;rw[nB (u4 (n:=m+1) (by omega) _ _ rfl) (by simp;omega) c];rfl
 have g:uN [Y (.list ds),Y (zi m),Z,Z,Z]=Y (.rt (.list (a.map .list))):=by refine d5 j (d5 (ρ1:=[Y (.list ds),Y (zi m),Y (.list ((List.replicate (m+1) []).map .list)),Y (zi (0:Nat)),Z]) rfl (d5 (ρ1:=[Y (.list ds),Y (zi m),Y (.list (a.map .list)),f,d]) ?_ rfl));rw[zq,zp];exact e
 exact iB g
def R4(b a:Lr)(h:b.length+a.length<=900):CD (wl b) (wl a)=Y (wl (b++a)):=by show (if _ then _ else Z)=_;rw[ah (by rw[aj,aj,sizeLine_eq];omega),<-aV]
def DS(a:List Int)(k:Nat):∃c:Int,(c=0\/c∈a)/\eT [.list (a.map .int),.int (k:Int)]=Y (.int c):=by
 by_cases h:k<a.length
 .refine{a[k],.inr (cw h),?_};have b:vX (zi k) (zi ((a.map fJ.int).length:Nat))=Y (.bool true):=by
   have:(k:Int)<((a.length:Nat):Int):=by omega
   simp[vX,dI,this]
  have d:gH (.list (a.map .int)) (zi k)=Y (.int a[k]):=by rw[qV,NJ,aB,aH h];rfl
  simp? only[eT,nN,mj,b,d]
 .refine{0,.inl rfl,?_};have b:vX (zi k) (zi ((a.map fJ.int).length:Nat))=Y (.bool false):=Zx (by simp;omega)
  simp? only[eT,nN,mj,b]
def HP(ns:List Int)(k:Nat):∃c:Int,eT [.list (ns.map .int),.int (k:Int)]=Y (.int c):=let ⟨c,_,e⟩:=DS ns k;{(c),e}
def sZ(c:Int)(b:Bool):∃d,vK d/\gM [.int c,.bool b]=Y d:=by obtain⟨a,f,e⟩:=RR c b;exact{_,{(a),f,rfl},e}
theorem xQ(b:Bool):∀ns:List Int,∃ds:Lp,ds.length=ns.length/\(∀x∈ds,vK x)/\gG bS kU [Y (.bool b)] (ns.map .int)=Y ds
 |[]=>{[],rfl,by simp,rfl}
 |c::ns=>by
  obtain⟨ds,i,h,g⟩:=xQ b ns;obtain⟨d,f,e⟩:=sZ c b;refine{d::ds,by simp[i],λx a=>?_,?_}
  .rcases ag.mp a with rfl|a
   .exact f
   .exact h x a
  .have k:bS [Y (.int c),Y (.bool b)]=Y true:=rfl;have j:kU [Y (.int c),Y (.bool b)]=Y d:=by
    rw[kU];simp? only[e]
   rw[af,gG,k]
   simp? only[j,g]
def Oa(ns:List Int)(a b:Option Int):∃l:List Int,l.length<=ns.length/\m9 (ns.map fJ.int) a b=l.map .int:=by unfold m9;rw[<-List.map_drop,<-List.map_take];exact{_,by simp;omega,rfl}
def HQ(r:KR):ie r=zZ "kind"::r.nm::(vH r.el++uh r.own):=rfl
def F8(b:Lr):D3 (wl [zZ "fields"]) Z (Y ((b.length:Nat):Int))=Y (wl (if b=[] then [] else [zZ "fields"])):=by
 cases b with
 |nil=>kernel_rfl
 |cons a l=>
  rw[aq (by simp),JC]
  congr 2
  have:((((a::l).length:Nat):Int))=(((l.length+1:Nat)):Int):=by simp
  rw[this];unfold m9;rw[xr,aq (by omega)];have:min ((((l.length+1:Nat)):Int)).toNat 1=1:=by omega
  simp[HT.j3,this]
def Ob(a:Lr):uh a=(if a=[] then [] else [zZ "fields"])++a:=by cases a<;>rfl
def lst(A:List Od)(L:List Lr)(B:List Od):a0:=A++Y (wl (L.map ln))::B
section
variable (s f kd hd pt:fJ) (b:Bool)
def l1(L:List Lr)(n e o r:Od):a0:=[Y s,Y (.int 3),Y (.int 33),Y (.bool true),Y (.bool b),Y f,Y kd,Y hd,Y pt,Y (wl (L.map ln)),n,e,o,r,Z,Z,Z]
theorem F9{r:KR}(g:GR (ie r)){L:List Lr}(v:L.length<=900)(e:Od):∃d,mO (l1 s f kd hd pt b L (Y (.str r.nm)) (Y (JE r.el)) (Y (wl r.own)) e)=Y (.nx (l1 s f kd hd pt b (L++[ie r]) (Y (.str r.nm)) (Y (JE r.el)) (Y (wl r.own)) d)):=by
 have m:=g.2.2;rw[HQ] at m;simp only[ay,aL] at m;have t:r.own.length<=(uh r.own).length:=by rw[Ob];simp
 have k:∃c:Lr,c=zZ "kind"::r.nm::vH r.el/\(ir (fB (d2 oD (gq 11) (dC .none))) (dV (fY [9] (d2 fU (gq 13) (gk (zC "of" (zQ (gq 11)))))) 13) f7) (l1 s f kd hd pt b L (Y (.str r.nm)) (Y (JE r.el)) (Y (wl r.own)) (Y (wl [zZ "kind",r.nm])))=Y (.nx (l1 s f kd hd pt b L (Y (.str r.nm)) (Y (JE r.el)) (Y (wl r.own)) (Y (wl c)))):=by
  cases q:r.el with
  |none=>exact{_,rfl,gS rfl rfl}
  |some j=>have a:=i8 [zZ "kind",r.nm] [zZ "of",j] (by simp);exact{_,rfl,kZ rfl (f6 (O:=[9]) ((sW (o:=fU) (A:=gq 13) (B:=gk (zC "of" (zQ (gq 11)))) (a:=wl [zZ "kind",r.nm]) (b:=wl [zZ "of",j]) rfl rfl).trans a))}
 obtain⟨c,h,k⟩:=k;have p:=yy r.own;refine{Y (wl c),d5 (ρ1:=l1 s f kd hd pt b L (Y (.str r.nm)) (Y (JE r.el)) (Y (wl r.own)) (Y (wl [zZ "kind",r.nm]))) rfl (d5 k ?_)};have X:(fY [9] (qL iE (zA " ") (zQ (d2 fU (d2 fU (gq 13) (ko (gk (zC "fields" fW)) lJ (kJ (zN (gq 12))))) (gq 12))))) (l1 s f kd hd pt b L (Y (.str r.nm)) (Y (JE r.el)) (Y (wl r.own)) (Y (wl c)))=Y (.str (ln (ie r))):=by
  have w:(if r.own=[] then [] else [zZ "fields"]).length<=1:=by split<;>simp
  have u:(vH r.el).length<=2:=by cases r.el<;>simp[vH]
  have n:=i8 c (if r.own=[] then [] else [zZ "fields"]) (by rw[h];simp;omega);have l:=i8 (c++(if r.own=[] then [] else [zZ "fields"])) r.own (by rw[h];simp;omega);rw[show c++(if r.own=[] then [] else [zZ "fields"])++r.own=ie r by rw[h,HQ,Ob];simp] at l;rw[xm,x3,ue]
  simp? only[l1,p,show D3 (.list [.str (zZ "fields")]) Z (Y (r.own.length:Int))=_ from F8 r.own,n,l,g.join]
 have:=NA (ρ:=l1 s f kd hd pt b L (Y (.str r.nm)) (Y (JE r.el)) (Y (wl r.own)) (Y (wl c))) (i:=9) (acc:=(L.map ln).map .str) rfl (by simp;omega) X;rw[this];unfold l1;rw[aV,af,bj,nQ];rfl
theorem u9:∀(a:List KR) (L:List Lr) (n e o r:Od),(∀r∈a,GR (ie r))->L.length+a.length<=900 ->
  ∃g h d c,ib (mZ (.many [10,11,12])) mO (a.map um) (l1 s f kd hd pt b L n e o r)=Y (.nx (l1 s f kd hd pt b (L++a.map ie) g h d c))
 |[],L,n,e,o,r,_,_=>{n,e,o,r,by rw[show L++List.map ie []=L from aG L];rfl}
 |k::a,L,n,e,o,r,hg,hl=>by rw[ay] at hl;obtain⟨j,m⟩:=F9 s f kd hd pt b (hg k (by simp)) (L:=L) (by omega) r;sleep 1;obtain⟨g,h,d,c,i⟩:=u9 a (L++[ie k]) (Y (.str k.nm)) (Y (JE k.el)) (Y (wl k.own)) j (λx l=>hg x (by simp[l])) (by simp;omega);sleep 2;refine{g,h,d,c,?_};rw[aW] at i;exact iC (ρ':=l1 s f kd hd pt b L (Y (.str k.nm)) (Y (JE k.el)) (Y (wl k.own)) r) rfl m i
end
def YW{K:Lr}{h:Hd}(v:HV K h):GR (h.ws):=by have o:=(v.hd (F:=K.map λk=>(k,.none)) λk a=>av.mpr {(k,.none),av.mpr {(k),a,rfl},rfl}).1;refine{?_,o.nm,o.len};obtain⟨b,r,e,_⟩:=o.hd;rw[e];simp
section
variable {ks:List KR} (hk:vC ks) (xK:n<=3) {hs:List Hd} (Hi:HI (ks.map (·.nm)) n hs) {ps:List Lp}{q:Nat} (hq:q<=63) (hp:PI n q ps) (s f:fJ) (b:Bool)
def l2(s f:fJ)(b:Bool)(c:List KR)(d:List Hd)(a:List Lp)(L:List Lr)(x y z u v:Od):a0:=[Y s,Y (.int 3),Y (.int 33),Y (.bool true),Y (.bool b),Y f,Y (zk c),Y (zh d),Y (.list (a.map .list)),Y (wl (L.map ln)),x,y,z,u,Y o4,v,Z]
include hk xK Hi hq hp in
theorem Ga{h:Hd}(d:hs[i]?=Y h){L:List Lr}(J:L.length<=700)(x y z u:Od):∃R,BK ks hs [] R []/\(∀m∈R,GR m)/\R.length<=73/\mP (l2 s f b ks hs ps L x y z u (Y (zi i)))=Y (.nx (l2 s f b ks hs ps (L++lg (h.ws) R) x y z u (Y (zi i)))):=by
 have l:h∈hs:=b9 d;have v:=Hi.hv h l;have j:=Hi.kk h l;have D:=YW v;have g:i<hs.length:=by
  rcases Nat.lt_or_ge i hs.length with h1|h1
  .exact h1
  .rw[bU h1] at d;cases d
 rw[Hi.len] at g;have c:i+1<ps.length:=by rw[hp.len];omega
 obtain⟨G,p,o,n⟩:=zW v j;have a:=cw c;sleep 1;obtain⟨R,w,t,I,r,_⟩:=u7 hk xK Hi p o (fv h) (ds:=ps[i+1]) (hp.ok _ a) (by have:=hp.le _ a;omega) (B:=[]) (by simp) (.nil []) (by simp) n;sleep 2;have H:=hp.le _ a;refine{R,w,t,by omega,?_};have k:gH (zh hs) (zi i)=Y (fv h):=by rw[qV,NJ,aB,d];rfl
 have A:gH (.list (ps.map .list)) (zi (i+1:Nat))=Y (.list ps[i+1]):=by rw[qV,NJ,aB,aH c];rfl
 have C:=DR v j D;refine d5 (ρ1:=l2 s f b ks hs ps (L++[h.ws]) x y z u (Y (zi i))) ((NA (acc:=(L.map ln).map .str) (x:=.str (ln h.ws)) rfl (by simp;omega) ?_).trans ?_) ?_
 .rw[xm,x3,ue]
  simp? only[l2,k,C]
 .unfold l2;rw[aV,af,bj,nQ];rfl
 have F:=i8 ((L++[h.ws]).map ln) (R.map ln) (by simp;omega);have E:=R4 ((L++[h.ws]).map ln++R.map ln) [zZ "end"] (by simp;omega);have e:(L++lg (h.ws) R).map ln=(L++[h.ws]).map ln++R.map ln++[zZ "end"]:=by simp[lg];rfl
 unfold l2;rw[e];have q:mM [fv h,_,_,_,_,.list []]=_:=r
 simp? only[k,show fU (zi i) (.int 1)=Y (zi (i+1:Nat)) from rfl,A,q,F,show CD (wl ((L++[h.ws]).map ln++R.map ln)) (.list [.str (zZ "end")])=_ from E,sR]
def n9(a:List (Hd×List Lr)):List Lr:=a.flatMap λh=>lg (h.1.ws) h.2
def Oc(c:List KR)(d:List Hd)(a:List (Hd×List Lr)):Prop:=∀h∈a,BK c d [] h.2 []/\(∀b∈h.2,GR b)/\h.2.length<=73
theorem xR{b:List KR}{d:List Hd}:∀{a:List (Hd×List Lr)},Oc b d a->(n9 a).length<=a.length*75
 |[],_=>by simp[n9]
 |h::a,o=>by
  have f:=xR λx (c:x∈a)=>o x (by simp[c]);have:=(o h (by simp)).2.2;have e:n9 (h::a)=lg (h.1.ws) h.2++n9 a:=rfl;rw[e,aL,ay];have:(lg (h.1.ws) h.2).length=h.2.length+2:=by simp[lg]
  omega
include hk xK Hi hq hp in
theorem tf{L0:List Lr}(g:L0.length<=3)(x y z u:Od):∀(m i:Nat) (acc:List (Hd×List Lr)) (v:Od),i+m=n->acc.map (·.1)=hs.take i->Oc ks hs acc ->
  ∃a d,a.map (·.1)=hs/\Oc ks hs a/\ib (mZ (.one 15)) mP ((List.range' i m).map λ(i:Nat)=>fJ.int (i:Int)) (l2 s f b ks hs ps (L0++n9 acc) x y z u v)=Y (.nx (l2 s f b ks hs ps (L0++n9 a) x y z u d))
 |0,i,acc,v,hi,ha,ho=>{acc,v,by rw[ha,fw (by rw[Hi.len];omega)],ho,rfl}
 |m+1,i,acc,v,hi,ha,ho=>by
  have e:i<hs.length:=by rw[Hi.len];omega
  have q:acc.length=i:=by have:=bJ List.length ha;rw[aj,dO] at this;omega
  have B:=xR ho;have j:hs[i]?=Y hs[i]:=aH e;sleep 1;obtain⟨R,p,o,l,k⟩:=Ga hk xK Hi hq hp s f b j (L:=L0++n9 acc) (by rw[aL];omega) x y z u;sleep 2;have w:L0++n9 acc++lg (hs[i].ws) R=L0++n9 (acc++[(hs[i],R)]):=by simp[n9]
  rw[w] at k;obtain⟨a,d,t,r,A⟩:=tf g x y z u m (i+1) (acc++[(hs[i],R)]) (Y (zi i)) (by omega) (by rw[aV,ha,fF,j];rfl) (λh c=>by
   rcases ax.mp c with c|c
   .exact ho h c
   .simp at c;subst c;exact{(p),o,l})
  refine{a,d,t,r,?_};rw[c9,af];exact iC (ρ':=l2 s f b ks hs ps (L0++n9 acc) x y z u (Y (zi i))) rfl k A
end
def fn2{F:Lp->Od}{A B:a0->Od}{a b:fJ}(d:A ρ=Y a)(c:B ρ=Y b):ji 2 F (c4 A (zQ B)) ρ=F [a,b]:=by rw[VN,nv,d,nv,c,xk];rfl
structure Wj (ns:List Int) (t:Tx) (hs:List Hd) (n:Nat):Prop where
 ok:FW t
 kk:vC t.ks
 hi:HI t.K n hs
 n3:n<=3
 eM:t.M=Mh hs
 eF:t.Fu=Fh hs
 ln:nj [.list (ns.map .int),.int 3,.int 33,.bool true]=Y (wl (t.rows.map ln))
 rl:t.rows.length<=700
 b0:∃r R,t.mr=(zZ "new"::r)::R
 dr:∃(c0 c1:Int) (b:Bool) (f d1:fJ),eT [.list (ns.map .int),.int 0]=Y (.int c0)/\eT [.list (ns.map .int),.int 1]=Y (.int c1)/\j7 (.int (c0 % 2)) (.int 0)=Y (.bool b)/\gM [.int (c0 / 2),.bool b]=Y f/\gM [.int c1,.bool b]=Y d1/\jS [f]=Y (.list (t.ks.map um))/\kB [d1,.list (t.ks.map um)]=Y (zh hs)
def Oe{ns:List Int}(hns:ns.length<=63):∃t k n,Wj ns t k n:=by
 obtain⟨J,Q⟩:=HP ns 0;obtain⟨c1,e1⟩:=HP ns 1;obtain⟨b,V⟩:∃b,j7 (.int (J % 2)) (.int 0)=Y (.bool b):={_,TC _ _}
 obtain⟨f,U,ef⟩:=sZ (J / 2) b;obtain⟨d1,D,F⟩:=sZ c1 b;obtain⟨g,p,W⟩:=N3 U;sleep 1;obtain⟨k,n,m,H,X⟩:=BH D p;sleep 2;obtain⟨l,hll,G⟩:=Oa ns (Y 3) (Y 33);obtain⟨ds,hdl,hD,ec⟩:=xQ b l;obtain⟨s,L,ep⟩:=N9 hD (by omega) m;sleep 1;obtain⟨B,B1,B2,B3,B0,eb⟩:=N8 p m H U;sleep 2;have C:0<s.length:=by rw[L.len];omega
 have A:=cw C;have lq:=L.le _ A;sleep 1;obtain⟨R,k1,k2,k3,k4,k0⟩:=u7 p m H (ns:=["x","y","z"].map Str.ofString) (by simp) F5 o4 (ds:=s[0]) (L.ok _ A) (by omega) B1 B2 B3 xN;sleep 2;have hkl:=p.len;sleep 1;obtain⟨x,y,z,u,E⟩:=u9 (.list (ns.map .int)) f (zk g) (zh k) (.list (s.map .list)) b g [] Z Z Z Z p.gr (by simp;omega);sleep 2;sleep 1;obtain⟨c,v,K,S,I⟩:=tf p m H (q:=ds.length) (by omega) L (.list (ns.map .int)) f b (L0:=g.map ie) (by simp;omega) x y z u n 0 [] Z (by omega) (by simp) (by intro h w;simp at w);sleep 2;rw[bE] at E;have N:n9 ([]:List (Hd×List Lr))=[]:=rfl;rw[N,aG] at I;have al:c.length<=3:=by have:=bJ List.length K;rw[aj,H.len] at this;omega
 have bl:=xR S;let t:Tx:={(g),c,R}
 have O:t.M=Mh k:=by show c.filterMap (λh=>WC h.1)=k.filterMap WC;rw[<-K,eQ];rfl
 have P:t.Fu=Fh k:=by show c.filterMap (λh=>Wf h.1)=k.filterMap Wf;rw[<-K,eQ];rfl
 have eR:t.rows=g.map ie++n9 c++lg [zZ "main"] R:=by show g.map ie++(n9 c++lg [zZ "main"] R)=_;rw[aW]
 have T:t.rows.length<=700:=by
  rw[eR];have:(lg [zZ "main"] R).length=R.length+2:=by simp[lg]
  simp only[aL,aj,this];omega
 have hm:∀h∈c,h.1∈k:=λh w=>by rw[<-K];exact av.mpr {(h),w,rfl}
 refine{t,k,n,{p.rd,p.kv,p.gr,λh w=>H.hv _ (hm h w),?_,λh w=>?_,?_,λh w=>(S h w).2.1,k2,T},p,H,m,O,P,?_,T,(let ⟨r,B',e⟩:=B0;let ⟨R',e2⟩:=k0 _ _ e;{(r),R',e2}),J,c1,b,f,d1,Q,e1,V,ef,F,W,X}
 .show (c.map (·.1.key)).Nodup;have:c.map (·.1.key)=k.map (·.key):=by rw[<-K,dH];rfl
  rw[this];exact H.nd
 .rw[O,P];exact(S h w).1
 .rw[O,P];exact k1
 have m0:=i9 (i:=J) (j:=2) (by decide);have v0:=NX (i:=J) (j:=2) (by omega) (by omega);have ix:gH (.list (s.map .list)) (zi (0:Nat))=Y (.list s[0]):=by rw[qV,NJ,aB,aH C];rfl
 refine iB (d5 (f6 (d:=.bool b) ?_) (d5 (f6 (d:=f) ?_) (d5 (f6 (d:=.list (g.map um)) ?_) (d5 (f6 (d:=.list (k.map fv)) ?_) (d5 (f6 (d:=.list (s.map .list)) ?_) (d5 (ρ1:=l1 (.list (ns.map .int)) f (zk g) (zh k) (.list (s.map .list)) b [] Z Z Z Z) rfl (d5 (qs rfl E) (d5 (ρ1:=l2 (.list (ns.map .int)) f b g k s (g.map ie) x y z u Z) rfl (d5 (qs (u4 (n:=n) (by omega) _ _ ?_) I) (d5 (f6 (d:=.list (B.map wl)) ?_) ?_))))))))))
 .rw[x3,ue]
  simp? only[show eT [.list (ns.map .int),.int 0]=_ from Q,m0,V]
 .rw[x3,ue]
  simp? only[show eT [.list (ns.map .int),.int 0]=_ from Q,v0,ef]
 .rw[x3,ue]
  simp? only[W]
 .rw[x3,ue]
  simp? only[show eT [.list (ns.map .int),.int 1]=_ from e1,F,X]
 .rw[x3,ue];refine(fn2 (nB (ds:=l.map .int) ?_ (by rw[aj];omega) ec) (b:=.int (n:Int)) ?_).trans ep
  .simp? only[JC,G]
  .simp? only[mj,aj,H.len]
 .show jQ [.list (k.map fv)]=_;rw[mj,aj,H.len]
 .rw[x3,ue]
  simp? only[l2,eb]
 .have a3:=i8 ((g.map ie++n9 c).map ln) [zZ "main"] (by simp;omega);have a4:=i8 ((g.map ie++n9 c).map ln++[zZ "main"]) (R.map ln) (by simp;omega);have a5:=i8 ((g.map ie++n9 c).map ln++[zZ "main"]++R.map ln) [zZ "end"] (by simp;omega);have e:(g.map ie++n9 c++lg [zZ "main"] R).map ln=(g.map ie++n9 c).map ln++[zZ "main"]++R.map ln++[zZ "end"]:=by
   simp[lg];exact{(rfl),rfl}
  rw[eR,e];refine bJ (Option.map Out.rt) (((sW (o:=fU) (b:=wl [zZ "end"]) (((sW (o:=fU) (((sW (o:=fU) (a:=wl ((g.map ie++n9 c).map ln)) (b:=wl [zZ "main"]) rfl rfl).trans a3)) ?_).trans a4)) rfl)).trans a5)
  simp? only[l2,show gH (.list (s.map .list)) (.int 0)=_ from ix,k4]
def OQ:Nat->Lr->Nat
 |0,ws=>if hq "kind" ws then 0 else 1
 |d+1,ws=>if hq "end" ws then d else if hq "else" ws then d+1 else if hq "if" ws||hq "while" ws then d+2 else d+1
def pin(d:Nat)(a:Lr):Bool:=decide (0<d)&&(!hq "end" a&&!hq "else" a)
def Of(d k:Nat)(b:Lr)(a:List Lr):o2 d k (b::a)=(if pin d b then [k] else [])++o2 (OQ d b) (k+1) a:=by
 cases d with
 |zero=>rfl
 |succ d=>rw[o2,pin,OQ];cases hq "end" b<;>cases hq "else" b<;>simp
def xS(s:String)(w:Str)(r:Lr):hq s (w::r)=(w==zZ s):=by unfold hq;rw[List.head?_cons,Bool.eq_iff_iff];simp
def Wl{a:Lr}(c:fJ.strOk x=true)(b:∀w∈a,fJ.strOk w=true):rK (.str x) (.tuple (a.map .str))=Y (.bool (decide (x∈a))):=by have:=nA c b;rw[gJ,show j9 (.str x) (.tuple (a.map .str))=j9 (.str x) (wl a) from rfl,this];rfl
def ok2(a b:String):∀w∈[zZ a,zZ b],fJ.strOk w=true:=by
 intro w hw;rcases ag.mp hw with rfl|hw
 .exact ba _
 .simp at hw;subst hw;exact ba _
theorem GR.cons{ws:Lr}(g:GR ws):∃b r,ws=b::r:=by
 cases ws with
 |nil=>exact absurd rfl g.1
 |cons a l=>exact{(a),l,rfl}
def DT{i:fJ}{f:Lr}(g:GR f){k:Nat}(s:gH i (zi k)=Y (.str (ln f)))(P:Lp)(u:P.length<=900)(d:Nat)(w:Od):
  ∃n,lY [Y i,Y (.list P),Y (zi d),Y (zi k),w]=Y (.nx [Y i,Y (.list (P++if pin d f then [.int (k:Int)] else [])),Y (.int (OQ d f:Nat)),Y (zi k),n]):=by
 obtain⟨a,r,rfl⟩:=g.cons;have h:=g.ok a (by simp);have q:gH (wl (a::r)) (.int 0)=Y (.str a):=by simp only[wl,af,qV,xq]
 have l:=Du h (ba "kind");have e:=Dt h (ba "end");have c:=Du h (ba "else");have j:rK (.str a) (.tuple [.str (zZ "if"),.str (zZ "while")])=Y (.bool (hq "if" (a::r)||hq "while" (a::r))):=by
  rw[show fJ.tuple [.str (zZ "if"),.str (zZ "while")]=.tuple ([zZ "if",zZ "while"].map .str) from rfl,Wl h (ok2 "if" "while"),xS,xS]
  congr 2
  rw[Bool.eq_iff_iff];simp
 rw[<-xS "kind" a r] at l;rw[<-xS "end" a r] at e;rw[<-xS "else" a r] at c;have o:iF (.str (ln (a::r))) [.str (zZ " ")]=Y (wl (a::r)):=g.split;refine{Y (.str a),d5 (ρ1:=[Y i,Y (.list P),Y (zi d),Y (zi k),Y (.str a)]) ?_ ?_}
 .simp? only[s,o,q]
 .cases d with
  |zero=>
   refine kZ (by simp? only[Int.ofNat_zero,V5]) ?_
   simp? only[l,NG]
   rw[pin,OQ];cases hq "kind" (a::r)<;>simp
  |succ d=>
   refine gS (by simp? only[Zv]) ?_;rw[pin,OQ];cases h1:hq "end" (a::r) with
   |true=>
    rw[h1] at e;refine kZ (by simp? only[e]) ?_;have p:Iq (zi (d+1:Nat)) (.int 1)=Y (zi d):=by rw[<-uf d];rfl
    simp? only[p];simp
   |false=>
    rw[h1] at e;refine gS (by simp? only[e]) ?_;cases m:hq "else" (a::r) with
    |true=>rw[m] at c;refine gS (by simp? only[c]) ?_;simp[f7]
    |false=>
     rw[m] at c;refine kZ (by simp? only[c]) ?_;have z:P.length<16777216:=by omega
     generalize (hq "if" (a::r)||hq "while" (a::r))=b at j;have t:=vB ((d+1:Nat):Int) (if b then 1 else 0)
     simp? only[ah z,j,NG,t]
     cases b<;>simp<;>omega
theorem va{ls:fJ}:∀(b:List Lr) (k d:Nat) (P:Lp) (a w:Od),(∀(i:Nat) ws,b[i]?=Y ws->gH ls (zi (k+i:Nat))=Y (.str (ln ws)))->(∀ws∈b,GR ws)->P.length+b.length<=900 ->
  ∃g f c,ib (mZ (.one 3)) lY ((List.range' k b.length).map λ(i:Nat)=>fJ.int (i:Int)) [Y ls,Y (.list P),Y (zi d),a,w]=Y (.nx [Y ls,Y (.list (P++(o2 d k b).map λ(p:Nat)=>.int (p:Int))),f,g,c])
 |[],k,d,P,a,w,_,_,_=>{a,Y (zi d),w,by rw[show o2 d k []=[] by cases d<;>rfl];simp[ib]}
 |ws::rest,k,d,P,a,w,hx,hg,hl=>by
  simp only[ay] at hl;obtain⟨j,l⟩:=DT (k:=k) (hg ws (by simp)) (by have:=hx 0 ws rfl;rwa[Nat.add_zero] at this) P (by omega) d w;obtain⟨g,f,c,e⟩:=va rest (k+1) (OQ d ws) (P++if pin d ws then [.int (k:Int)] else []) (Y (zi k)) j (λi x h=>by have:=hx (i+1) x (by simpa using h);rwa[show k+(i+1)=k+1+i by omega] at this) (λx hx=>hg x (by simp[hx])) (by split<;>simp<;>omega);refine{g,f,c,?_};rw[ay,c9,af];refine iC rfl l ?_;rw[e,Of,aV,<-aW]
  congr 6
  split<;>rfl
def TV{a:List Lr}{b:Lr}(h:a[i]?=Y b):gH (wl (a.map ln)) (zi i)=Y (.str (ln b)):=by simp only[wl,qV];rw[NJ,aB,aB,h];rfl
def Jn{a:List Lr}(b:∀ws∈a,GR ws)(d:a.length<=800):kX [wl (a.map ln)]=Y (.list ((o2 0 0 a).map λ(p:Nat)=>.int (p:Int))):=by
 obtain⟨j,f,c,e⟩:=va (ls:=wl (a.map ln)) a 0 0 [] Z Z (λi ws h=>by rw[cZ];exact TV h) b (by simp;omega);have g:sr [Y (wl (a.map ln)),Z,Z,Z,Z]=Y (.rt (.list ((o2 0 0 a).map λ(p:Nat)=>.int (p:Int)))):=by
  refine d5 (ρ1:=[Y (wl (a.map ln)),Y (.list []),Z,Z,Z]) (by simp? only[Bq]) (d5 (ρ1:=[Y (wl (a.map ln)),Y (.list []),Y (.int 0),Z,Z]) (by simp? only[Bq]) (d5 (qs (u4 (n:=a.length) (by omega) _ _ ?_) e) ?_))
  .show jQ [wl (a.map ln)]=_;simp only[wl,mj,aj]
  .rfl
 exact iB g
def Jo{d:Nat}{a:Lr}(h:hq "end" a=true->a=[zZ "end"]):ke a d=OQ d a:=by
 cases d with
 |zero=>
  unfold ke OQ hq;by_cases q:a.head?=Y (zZ "kind")
  .rw[aq (by simp[q]),aq (by intro z;rw[z] at q;injection q with q;exact k6 (by decide) q),aq (by simp)];simp[q]
  .rw[ah {(rfl),q}];simp[q]
 |succ d=>
  have k:OQ (d+1) a=if hq "end" a then d else if hq "else" a then d+1 else if hq "if" a||hq "while" a then d+2 else d+1:=rfl
  rw[k];unfold ke;rw[aq (by simp)];cases q:hq "end" a with
  |true=>rw[ah (h q)];rfl
  |false=>
   rw[aq (by intro z;rw[z,lR] at q;simp at q)];cases q2:hq "else" a with
   |true=>
    have:a.head?=Y (zZ "else"):=by simpa [hq] using q2
    rw[aq (by rw[this];intro z;rcases z.1 with z|z<;>(injection z with z;exact k6 (by decide) z))];rfl
   |false=>
    by_cases b:a.head?=Y (zZ "if")\/a.head?=Y (zZ "while")
    .rw[ah {b,by omega}];simp[hq,b]
    .rw[aq (λz=>b z.1)];rw[not_or] at b;simp[hq,b.1,b.2]
def Pw(a:Lr):Prop:=∀w∈["end","else","if","while"],a.head?≠Y (zZ w)
theorem Pw.hq{a:Lr}(h:Pw a):hq "end" a=false/\hq "else" a=false/\(hq "if" a||hq "while" a)=false:=by unfold K47.hq;simp only[az (h "end" (by simp)),az (h "else" (by simp)),az (h "if" (by simp)),az (h "while" (by simp))];simp
def Wk.cut{d:Nat}{b:Str}{g:List Lr}(h:Wk d b g hs ns):∀(k n:Nat) (ws:Lr) (t:Str),ns[n]?=Y (ws,t) ->
  ∃f a,g=f++ws::a/\(o2 d k g)[n]?=Y (k+f.length)/\0<f.foldl (λd ws=>ke ws d) d/\(∃w r,ws=zZ w::r) /\
   (Pw ws->∀W:Lr,Pw W->(∃w r,W=zZ w::r)->Wk d b (f++W::a) hs (ns.set n (W,t))):=by
 induction h with
 |nil b=>intro k n ws t e;simp at e
 |@kind b r c hs ns A j=>
  intro k n ws t e;sleep 1;obtain⟨f,a,s,q,o,m,l⟩:=j (k+1) n ws t e;sleep 2;refine{(zZ "kind"::r)::f,a,by rw[s];rfl,?_,?_,m,λp W i hw=>.kind b r (l p W i hw)}
  .rw[o2,lR];show (o2 0 (k+1) c)[n]?=_;rw[q];simp;omega
  .rw[List.foldl_cons,xF];exact o
 |@head b u x c hs ns O A j=>
  intro k n ws t e;sleep 1;obtain⟨f,a,s,q,o,m,l⟩:=j (k+1) n ws t e;sleep 2;obtain⟨v,r,F,y⟩:=O.w0;have B:(v=="kind")=false:=by rcases y with rfl|rfl|rfl<;>decide
  refine{x::f,a,by rw[s];rfl,?_,?_,m,λp W i hw=>.head b O (l p W i hw)}
  .rw[o2,F,lR,B];show (o2 1 (k+1) c)[n]?=_;rw[q];simp;omega
  .have:ke x 0=1:=by
    rw[Jo (λz=>by rw[F,lR] at z;rcases y with rfl|rfl|rfl<;>simp at z),OQ,F,lR,B];rfl
   rw[List.foldl_cons,this];exact o
 |@fin d b c hs ns A j=>
  intro k n ws t e;sleep 1;obtain⟨f,a,s,q,o,m,l⟩:=j (k+1) n ws t e;sleep 2;refine{[zZ "end"]::f,a,by rw[s];rfl,?_,?_,m,λp W i hw=>.fin (l p W i hw)}
  .rw[o2,lR];show (o2 d (k+1) c)[n]?=_;rw[q];simp;omega
  .rw[List.foldl_cons,uj];exact o
 |@Jd d b c hs ns A j=>
  intro k n ws t e;sleep 1;obtain⟨f,a,s,q,o,m,l⟩:=j (k+1) n ws t e;sleep 2;refine{[zZ "else"]::f,a,by rw[s];rfl,?_,?_,m,λp W i hw=>.Jd (l p W i hw)}
  .rw[o2,lR,lR];show (o2 (d+1) (k+1) c)[n]?=_;rw[q];simp;omega
  .rw[List.foldl_cons,qy (by decide)];exact o
 |@row d b v C G c hs ns E B D A j=>
  intro k n ws t e;have I:o2 (d+1) k ((zZ v::C)::c)=k::o2 (if G then d+2 else d+1) (k+1) c:=by rw[o2,lR,lR,lR,lR,E,B,D];rfl
  cases n with
  |zero=>simp at e;obtain⟨rfl,rfl⟩:=e;refine{[],c,rfl,by rw[I];simp,by simp,{(v),C,rfl},λp W i hw=>?_};obtain⟨w,r,rfl⟩:=hw;have H:=p.hq.2.2;rw[lR,lR,D] at H;subst H;obtain⟨L,K,J⟩:=i.hq;rw[lR] at L K;rw[lR,lR] at J;exact .row w r false L K J A
  |succ n=>
   sleep 1;obtain⟨f,a,s,q,o,m,l⟩:=j (k+1) n ws t (by simpa using e);sleep 2;refine{(zZ v::C)::f,a,by rw[s];rfl,?_,?_,m,λp W i hw=>.row v C G E B D (l p W i hw)}
   .rw[I,bM,q];simp;omega
   .rw[List.foldl_cons,qy E,D];cases G<;>exact o
theorem Pt.iv{b:List (Str×fJ)}{e:fJ->Prop}{σ a:TS}{c:List Lr}(h:Pt b e σ c a):(0<σ.dep->σ.F=b/\σ.ov=false/\σ.dep<=9)->0<a.dep->a.F=b/\a.ov=false/\a.dep<=9:=by
 induction h with
 |nil σ=>exact λh=>h
 |cons s _ d=>exact λ_=>d s.iv
def Pt.mid{o:fJ->Prop}{g j:TS}{i f:List Lr}{k:Lr}(h:Pt F₀ o g (i++k::f) j)(w:g.dep=0)(y:0<i.foldl (λd k=>ke k d) 0)(p:Pw k):
  ∃H t n,n.length<=8/\Pt F₀ o g i {F₀,H,Y (t,n),false}/\Pt F₀ o {F₀,H,Y (t,n),false} f j:=by
 obtain⟨q,a,b⟩:=h.split;have e:=a.dep;rw[w] at e;have l:0<q.dep:=by omega
 obtain⟨u,r,v⟩:=a.iv (by omega) l;cases b with
 |cons s b=>
  rw[s.sm l p] at b;clear s;obtain⟨F,H,m,x⟩:=q;simp only at u r;subst u;subst r;cases m with
  |none=>simp[TS.dep] at l
  |some c=>exact{H,c.1,c.2,by simp[TS.dep] at v;omega,a,b}
def Jp(a:List Lr)(hs:List (Str×Lr))(b:List (Lr×Str))(d:fJ):Prop:=(∃v:Int,(0<=v/\v<10000)/\d=.int v)\/∃E,E.map (·.2)=b/\d=prog a hs E
def Og(b a:List Lr)(W:Lr):b++W::a≠[]:=by simp
section
variable {H:List (Str×fJ)}{M:List (Str×Str)}{Fu:List (Str×Nat)}{pre post:List Lr}{W:Lr}
variable {H1:List (Str×fJ)}{bs:Lr} (hb:bs.length<=8)
 (P1:Pt F (Lt M Fu) {[],[],Z,false} pre {F,H1,Y (t,bs),false}) (P2:Pt F (Lt M Fu) {F,H1,Y (t,bs),false} post {(F),H,Z,true})
 (hl:(pre++W::post).length<=800)
include P1 P2 hl in
theorem BN(d:NH W)(b:∀(L:Lp) (tx rw:fJ),L.length<=900->d6 [Y tx,Y (TS.rg {F,H1,Y (t,bs),false} L),Y rw,Y (zi pre.length),Y (wl W),Z]=Y (.rt (zi pre.length))):
  ez [.str (tx (pre++W::post))]=Y (zi pre.length):=by
 have e:=hl;rw[aL] at e;have f:∀a∈pre++W::post,NH a:=λa hw=>by
  rcases ax.mp hw with hw|hw
  .exact(P1.gr a hw).Hz
  .rcases ag.mp hw with rfl|hw
   .exact d
   .exact(P2.gr a hw).Hz
 obtain⟨l,_,g,c⟩:=P1.reads 0 [] (by simp;omega);rw[bE] at c;exact sV f hl (Og _ _ _) (Wc (R:=TS.rg {F,H1,Y (t,bs),false} l) c (λa hw=>by have:=(P1.gr a hw).2.2;omega) λrw=>b l _ rw (by omega))
include hb P1 P2 hl in
theorem Oh{K:Lr}(e:∀k∈K,k∈F.map (·.1))(T:FV M Fu H){w:String}(O:Rr K M Fu W w)(d:(w=="if"||w=="while")=false)(g:GR W)(b:Rt (pre++W::post) hs ns):
  ∃E,E.map (·.2)=ns/\ez [.str (tx (pre++W::post))]=Y (prog (pre++W::post) hs E):=by
 have s:=xD (F:=F) O e g (b1:=false) d (H:=H1) (t:=t) (bs:=bs) (by simpa using hb);have P:=P1.app (.cons s P2);obtain⟨l,c,i,a⟩:=P.reads 0 [] (by simp at hl ⊢;omega);rw[bE] at a;obtain⟨E,⟨f,_⟩,h⟩:=HC b;refine{E,f,sV (λws hw=>(P.gr ws hw).Hz) hl (Og _ _ _) (HK T c a (λws hw=>by have:=(P.gr ws hw).2.2;omega) h (λn=>by intro z;cases z))}
include hb P1 P2 hl in
theorem xT(T:FV M Fu H){w:String}{f:Option Str}{a:fJ}(O:qX W w f a)(hw:w="func")(g:GR W)(o:f=Z)(n:∀b bl la ov,ek [Rg (gD F) (gD H) b bl la ov,a]=Y (.bool false)):
  ez [.str (tx (pre++W::post))]=Y (zi pre.length):=by
 subst hw;subst o;have l:=hl;rw[aL,ay] at l;obtain⟨d,q,r,j⟩:=P1.reads 0 [] (by simp;omega);rw[bE] at j;have p:fO [TS.rg {F,H1,Y (t,bs),false} d,.int (pre.length:Int),wl W]=Y (.bool true,TS.rg {F,H1,Y (t,bs),false} (d++[.tuple [.int (pre.length:Int),a]])) :=
  n8 rfl (ui O g (by decide) (by decide) (λk e=>by cases e) (b1:=false) (b2:=true) (by decide) (by decide) (by simpa using hb) (by omega) _)
 obtain⟨m,b1,b2,i⟩:=P2.reads (pre.length+1) (d++[.tuple [.int (pre.length:Int),a]]) (by simp;omega);rw[aW,fz] at i;have R:Reads 0 R0 (pre++W::post) (TS.rg {(F),H,Z,true} (d++.tuple [.int (pre.length:Int),a]::m)):=j.app (by rw[cZ];exact{_,g.2.1,p,i});have h:∀c∈pre++W::post,GR c:=λc hw=>by
  rcases ax.mp hw with hw|hw
  .exact P1.gr c hw
  .rcases ag.mp hw with rfl|hw
   .exact g
   .exact P2.gr c hw
 exact sV (λc hw=>(h c hw).Hz) hl (Og _ _ _) (Jh T q R (λc hw=>by have:=(h c hw).2.2;omega) (n _ _ _ _) (by omega))
end
def Oi{F d t f c:fJ}{R b:fJ}{v:Bool}{a:Lr}{i:Int}(e:R=Rg F d (.str x) f c false)(h:fM [R,.int i,wl a]=Y (.bool v,b)):fO [R,.int i,wl a]=Y (.bool v,b):=by
 subst e
 simp? only[fO,kG,qv,oR,mW,sQ,h,js]
def Pw.ne{ws:Lr}(p:Pw ws){s:String}(h:s∈["end","else","if","while"]):ws≠[zZ s]:=λz=>p s h (by rw[z];rfl)
section
variable {hs bl la:fJ}{W:Lr}
def HR(p:Pw W)(g:GR W):j7 (wl W) (.list [.str (zZ "end")])=Y (.bool false)/\j7 (wl W) (.list [.str (zZ "else")])=Y (.bool false):=by have q:=rF g.ok (Zw "end");rw[az (p.ne (by simp))] at q;have a:=rF g.ok (Zw "else");rw[az (p.ne (by simp))] at a;exact{(q),a}
def Wm(p:Pw W)(g:GR W)(h:mS [wl W]=Y (.bool false))(i:Int):fO [Rg (gD F) hs (.str t) bl la false,.int i,wl W]=Y (.bool false,Rg (gD F) hs (.str t) bl la false):=by
 obtain⟨b,a⟩:=HR p g;refine Oi rfl (t:=la) ?_
 simp? only[fM,hZ,b,a,h,mW,js]
theorem R5(p:Pw W)(g:GR W){w:String}{k:Str}{a:fJ}(O:qX W w (Y k) a)(h:k∉F.map (·.1))(i:Int):fO [Rg (gD F) hs (.str t) bl la false,.int i,wl W]=Y (.bool false,Rg (gD F) hs (.str t) bl la false):=by
 obtain⟨f,d⟩:=HR p g;have b:=O.ini;have c:=O.kd;simp only[Option.elim] at c;have e:=qW (t:=k) (H:=F);rw[az h] at e;refine Oi rfl (t:=la) ?_
 simp? only[fM,hZ,f,d,O.isr g,mW,b,c,sQ,mu,iP,e,js]
end
def Jq{R a rw:fJ}{c:Od}{i:Int}(b:0<=i/\i<10000):d6 [Y a,Y R,Y rw,Y (.int i),Y (wl (["copy","x","abcdefghi"].map Str.ofString)),c]=Y (.rt (.int i)):=by
 have r:pO iZ [Y a,Y R,Y rw,Y (.int i),Y (wl (["copy","x","abcdefghi"].map Str.ofString)),c]=Y (.rt (.int i)):=xA rfl b;have e:Tf [Y a,Y R,Y rw,Y (.int i),Y (wl (["copy","x","abcdefghi"].map Str.ofString)),c]=Y (true,[Y a,Y R,Y rw,Y (.int i),Y (wl (["copy","x","abcdefghi"].map Str.ofString)),c]):=by kernel_rfl
 rw[d6,NR,e,NS];exact r
def DU:Lr:=["x","x","x"].map Str.ofString
def DV:List Lr:=[["jump","x"],["copy","x","abcdefghi"],["func","x","nowhere"],["main"],["kind","zz"],["new","x","nokind"]].map (·.map Str.ofString)
inductive Wd (K:Lr) (M:List (Str×Str)) (Fu:List (Str×Nat)):Lr->Prop
 |Jr {w:String}{r:Lr}:Rk K M Fu w r->GR (zZ w::r)->Wd K M Fu (zZ w::r)
 |ext {w:String}{r:Lr}:Rk K M Fu w r->GR (zZ w::r)->Wd K M Fu (zZ w::(r++DU))
 |lit {W:Lr}:W∈DV->Wd K M Fu W
section
variable {K:Lr}{M:List (Str×Str)}{Fu:List (Str×Nat)}
def Rk.len{w:String}{r:Lr}(h:Rk K M Fu w r):r.length<=7:=by cases h<;>simp<;>omega
def Rk.pw{w:String}{r:Lr}(h:Rk K M Fu w r)(s:Lr):Pw (zZ w::s):=by
 intro v a z;injection z with z
 have:(w==v)=false:=by simp only[ag,aN,cu] at a;cases h<;>(rcases a with rfl|rfl|rfl|rfl<;>decide)
 exact k6 this z
def Oj{w:String}{r:Lr}(h:Rk K M Fu w r)(g:GR (zZ w::r)):GR (zZ w::(r++DU)):=by
 refine{by simp,λv hv=>?_,?_}
 .rcases ag.mp hv with rfl|hv
  .exact g.2.1 _ (by simp)
  .rcases ax.mp hv with hv|hv
   .exact g.2.1 _ (by simp[hv])
   .simp[DU] at hv;subst hv;decide +kernel
 .have:=h.len;simp[DU];omega
def Js{w:String}{r:Lr}(h:Rk K M Fu w r)(g:GR (zZ w::(r++DU))):mS [wl (zZ w::(r++DU))]=Y (.bool false)\/(Rr K M Fu (zZ w::(r++DU)) w/\(w=="if"||w=="while")=false) \/
  ∃x f hs,w="func"/\r=x::f::hs/\hs.length<=3/\(f,hs.length)∈Fu:=by
 cases h with
 |ask a=>exact .inr (.inl {{{_,_,NT _ _ _ (by simp[DU];omega),by simp,λi z=>absurd z (by decide)},by decide,by decide},by decide})
 |doo a=>exact .inr (.inl {{{_,_,TL _ _ (by simp[DU];omega),by simp,λi z=>absurd z (by decide)},by decide,by decide},by decide})
 |@xC x y k m hs a c b=>exact .inr (.inl {{{_,_,u5 _ _ _ _ (by simp[DU];omega),λk e=>by injection e with e;subst e;exact c,λi _=>{i,_,rfl,.inl {k,m,b,by kernel_rfl,by kernel_rfl,by kernel_rfl}}},by decide,by decide},by decide})
 |@func x f hs a b=>exact .inr (.inr {(x),f,hs,rfl,rfl,a,b})
 |_=>exact .inl ((rJ g).trans (zK 0))
end
section
variable {H:List (Str×fJ)}
def Ol{a:fJ}{f:Str}(l:iK ["Row"] "word" a=Y (.str (zZ "func")))(k:iK ["Row"] "function" a=Y (.str f))(h:fJ.strOk f=true)(j:f≠zZ "main")(i:f∉H.map (·.1))(F b o g:fJ)(e:Bool):ek [Rg F (gD H) b o g e,a]=Y (.bool false):=by
 have n:("func"=="straight")=false:=by decide
 have d:=qW (t:=f) (H:=H);rw[az i] at d;have m:(f==zZ "main")=false:=by simpa using j
 have c:=Dt h (ba "main");rw[m] at c
 simp? only[ek,hY,l,hF,n,k,c,n7,iP,d]
def Om{a:fJ}{f:Str}{d c:Lr}{ha:Lp}(q:iK ["Row"] "word" a=Y (.str (zZ "func")))(p:iK ["Row"] "function" a=Y (.str f))(o:iK ["Row"] "handed" a=Y (.list ha))(m:fJ.strOk f=true)(n:f≠zZ "main")(k:(H.map (·.1)).Nodup)(i:(f,wl d)∈H)(y:gQ [wl d]=Y (wl c))(z:c.length≠ha.length)(F b x l:fJ)(j:Bool):ek [Rg F (gD H) b x l j,a]=Y (.bool false):=by
 have w:("func"=="straight")=false:=by decide
 have h:=qW (t:=f) (H:=H);rw[aU (av.mpr {_,i,rfl})] at h;have v:=Nz k i;have u:(f==zZ "main")=false:=by simpa using n
 have g:=Dt m (ba "main");rw[u] at g;have s:jQ [wl c]=Y (zi c.length):=by rw[mj,aj]
 have r:jQ [.list ha]=Y (zi ha.length):=mj ha;have e:=TC (c.length:Int) (ha.length:Int);rw[show ((c.length:Int)==(ha.length:Int))=false by simp only[aT,ne_eq];omega] at e
 simp? only[ek,hY,q,hF,w,p,o,g,n7,iP,h,v,y,s,r,e]
end
def x4(t:Tx):List (Str×Lr):=(t.hs.map vA++[vJ t]).map Bo.ent
def aak{t:Tx}(T:FW t){f:Str}(d:lH f=true)(i:f∉rL)(l:f≠zZ "main"):f∉(hg (x4 t)).map (·.1):=by
 rw[mn];intro z;obtain⟨p,j,e⟩:=av.mp z;obtain⟨b,hb,rfl⟩:=av.mp j;rcases ax.mp hb with hb|hb
 .obtain⟨h,n,rfl⟩:=av.mp hb;have c:=(T.hv h n).xE;have a:h.1.key.nm=f:=e;cases q:h.1.key with
  |func g=>rw[q] at c a;exact i (a▸c)
  |lA k m=>rw[q] at a;exact BG d a
 .simp at hb;subst hb;exact l e.symm
section
variable {t:Tx} (T:FW t) {H:List (Str×fJ)} (Xq:ZA t F H) {pre post:List Lr}{ws W:Lr} (er:t.rows=pre++ws::post) (hd:0<pre.foldl (λd ws=>ke ws d) 0) (pw:Pw ws)
include T Xq er hd pw in
theorem Wd.read(h:Wd t.K t.M t.Fu W)(J:GR W->Rt (pre++W::post) (x4 t) ns):
  ∃d,ez [.str (tx (pre++W::post))]=Y d/\Jp (pre++W::post) (x4 t) ns d:=by
 have P:=Xq.pt;rw[er] at P;sleep 1;obtain⟨H1,u,bs,C,o,n⟩:=P.mid rfl hd pw;sleep 2;have j:=T.len;rw[er] at j;have m:(pre++W::post).length<=800:=by simp at j ⊢;omega
 have y:(0:Int)<=(pre.length:Int)/\(pre.length:Int)<10000:=by simp at j;omega
 have S:∀k∈t.K,k∈F.map (·.1):=λk B=>by rw[Xq.eF];exact B
 have c:∀d,ez [.str (tx (pre++W::post))]=Y d->d=.int (pre.length:Int)->∃d,ez [.str (tx (pre++W::post))]=Y d/\Jp (pre++W::post) (x4 t) ns d:=λd e q=>{d,e,.inl {_,y,q}}
 have Jr:∀{w:String},Rr t.K t.M t.Fu W w->(w=="if"||w=="while")=false->GR W->∃d,ez [.str (tx (pre++W::post))]=Y d/\Jp (pre++W::post) (x4 t) ns d:=λO p g=>by obtain⟨E,X,e⟩:=Oh C o n m S Xq.td O p g (J g);exact{_,e,.inr {(E),X,rfl}}
 have s:Pw W->GR W->mS [wl W]=Y (.bool false)->∃d,ez [.str (tx (pre++W::post))]=Y d/\Jp (pre++W::post) (x4 t) ns d:=λpw g e=>
  c _ (BN o n m g.Hz λL tx rw G=>DC g.2.1 (by have:=g.2.2;omega) (Wm pw g e _) y) rfl
 cases h with
 |Jr k g=>obtain⟨O,p⟩:=k.ok;exact Jr O p g
 |@ext w r k g=>
  have A:=Oj k g;rcases Js k A with e | ⟨O,p⟩ | ⟨x,f,hs,rfl,rfl,I,R⟩
  .exact s (k.pw _) A e
  .exact Jr O p A
  .obtain⟨a1,a2,vs,ks,a3,a4,a5⟩:=Xq.td.f f _ R;exact c _ (xT C o n m Xq.td (BE x f (hs:=hs++DU) (by simp[DU];omega)) rfl A rfl (Om (ha:=(hs++DU).map .str) (zK 0) (zK 0) (zK 0) a1 a2 Xq.td.nd a3 a4 (by simp[DU];omega) _)) rfl
 |lit h=>
  have b:∀l:List String,(∀w∈l.map Str.ofString,lH w=true)->l≠[]->l.length<=12->GR (l.map Str.ofString):=λl V U I=>{by simpa using U,V,by simpa using I}
  have i:∀l:List String,l.head?∉["end","else","if","while"].map Y->Pw (l.map Str.ofString):=λl h v N z=>by
   cases l with
   |nil=>simp at z
   |cons a l=>simp only[af,List.head?_cons,Option.some.injEq] at z;have:=bF.mp (vI.mp z);exact h (by rw[List.head?_cons,this];exact av.mpr {(v),N,rfl})
  simp only[DV,af,bj,ag,aN,cu] at h;rcases h with rfl|rfl|rfl|rfl|rfl|rfl
  .exact s (i ["jump","x"] (by decide)) (b ["jump","x"] (by decide +kernel) (by decide) (by decide)) (zK 0)
  .exact c _ (BN o n m {by decide +kernel,by decide +kernel,by kernel_rfl} λL tx rw G=>Jq y) rfl
  .have D:=aak T (f:=zZ "nowhere") (by decide +kernel) (by decide +kernel) (by decide +kernel);rw[show hg (x4 t)=H from Xq.eH.symm] at D;exact c _ (xT C o n m Xq.td (BE (zZ "x") (zZ "nowhere") (hs:=[]) (by simp)) rfl (b ["func","x","nowhere"] (by decide +kernel) (by decide) (by decide)) rfl (Ol (zK 0) (zK 0) (ba _) (by decide +kernel) D _)) rfl
  .exact s (i ["main"] (by decide)) (b ["main"] (by decide +kernel) (by decide) (by decide)) (zK 0)
  .exact s (i ["kind","zz"] (by decide)) (b ["kind","zz"] (by decide +kernel) (by decide) (by decide)) (zK 0)
  .have g:=b ["new","x","nokind"] (by decide +kernel) (by decide) (by decide);have B:zZ "nokind"∉F.map (·.1):=by
    rw[Xq.eF];intro z;obtain⟨r,Q,e⟩:=av.mp z;have:=(T.kv r Q).nm;rw[e] at this;exact absurd this (by decide +kernel)
   exact c _ (BN o n m g.Hz λL tx rw G=>DC g.2.1 (by simp) (R5 (i ["new","x","nokind"] (by decide)) g (k:=zZ "nokind") (w:="new") (.of {_,rfl} (zK 0) (zK 0) (zK 0) (zK 0)) B _) y) rfl
end
section
variable (D:vK d) {ks:List KR} (hk:vC ks) (xK:n<=3) {hs:List Hd} (Hi:HI (ks.map (·.nm)) n hs)
include D hk xK Hi in
theorem DW{h:fJ}{a:Lr}(m:a≠[])(n:∀w∈a,lH w=true)(q:iL [h]=Y (wl a)):∃w r,Rk (ks.map (·.nm)) (Mh hs) (Fh hs) w r/\GR (zZ w::r)/\jV [d,h,.list (ks.map um),.list (hs.map fv)]=Y (wl (zZ w::r)):=by
 obtain⟨s,i,p⟩:=HL D;have c:=YU s;have b:∀l:Lr,Tn [Y d,Y h,Y (zk ks),Y (zh hs),Y (wl a),Y (.str (zZ s))]=Y (.rt (wl l))->jV [d,h,.list (ks.map um),.list (hs.map fv)]=Y (wl l):=λl g=>by
  have o:pY [Y d,Y h,Y (zk ks),Y (zh hs),Z,Z]=Y (.rt (wl l)):=by
   refine d5 (ρ1:=[Y d,Y h,Y (zk ks),Y (zh hs),Y (wl a),Z]) (f6 (O:=[]) ?_) (d5 (ρ1:=[Y d,Y h,Y (zk ks),Y (zh hs),Y (wl a),Y (.str (zZ s))]) (f6 (O:=[]) ?_) g)
   .simp? only[q]
   .simp? only[p]
  exact iB o
 rcases HM s i with ⟨k,j⟩ | ⟨k,j⟩
 .obtain⟨w,r,f,g,e⟩:=zV D hk xK Hi m n j;rw[k] at c;exact{w,r,f,g,b _ (jG (kZ (by simp? only[gJ,c]) (by simp? only[e])))}
 .obtain⟨w,r,f,g,e⟩:=DP D hk xK Hi m n j;rw[k] at c;exact{w,r,f,g,b _ (d5 (gS (by simp? only[gJ,c]) rfl) (by simp? only[e]))}
end
def S8(a:Lr):List Lr:=[[],["if","choose"].map Str.ofString,["while","choose"].map Str.ofString,["else"].map Str.ofString,["end"].map Str.ofString,a++[zZ ""],["Rest"].map Str.ofString,a++[zZ "x1"]]
def YX:List Lr:=[["rest",""],["jump","x"],["copy","x","abcdefghi"],["func","x","nowhere"],["main"]].map (·.map Str.ofString)
def ZC(a:Lr):List Lr:=[["kind","zz"].map Str.ofString,a++DU,["new","x","nokind"].map Str.ofString,["copy x","y"].map Str.ofString]
inductive Bd (K:Lr) (M:List (Str×Str)) (Fu:List (Str×Nat)):Lr->Prop
 |lit {W:Lr}:W∈[["if","choose"],["while","choose"],["else"],["end"],["Rest"],["rest",""],["copy x","y"],[]].map (·.map Str.ofString)->Bd K M Fu W
 |snoc {w:String}{r:Lr}{s:String}:Rk K M Fu w r->GR (zZ w::r)->s=""\/s="x1"->Bd K M Fu (zZ w::(r++[zZ s]))
def Jt{K:Lr}{M:List (Str×Str)}{m:List (Str×Nat)}{w:String}{r:Lr}(b:Rk K M m w r)(g:GR (zZ w::r))(p:Int):∃W,(Wd K M m W\/Bd K M m W)/\kW [wl (zZ w::r),.int p]=Y (wl W):=by
 have A:=b.len;have z:=i8 (zZ w::r) [zZ ""] (by simp;omega);have y:=i8 (zZ w::r) [zZ "x1"] (by simp;omega);have x:=i8 (zZ w::r) DU (by simp[DU];omega);have n:=i9 (i:=p) (j:=3) (by decide);have d:=NY (p % 3);have t:=NX (i:=p) (j:=3) (by omega) (by omega);have c:∀l:Lr,so [Y (wl (zZ w::r)),Y (.int p),Z]=Y (.rt (wl l))->kW [wl (zZ w::r),.int p]=Y (wl l):=λl v=>iB v;cases hb:decide (0<p % 3) with
 |true=>rw[hb] at d;exact{_,.inl (.Jr b g),c _ (jG (kZ (by simp? only[n,d]) (by simp? only[Bq])))}
 |false=>
  rw[hb] at d;obtain⟨q,u,o⟩:=xG ((S8 (zZ w::r)++YX++ZC (zZ w::r)).map wl) (by simp[S8]) (p / 3);obtain⟨W,a,rfl⟩:=av.mp u;have e:(((S8 (zZ w::r)++YX++ZC (zZ w::r)).map wl).length:Int)=17:=rfl;rw[e] at o;have s:=i9 (i:=p / 3) (j:=17) (by decide);refine{W,?_,c _ (d5 (gS (by simp? only[n,d]) rfl) (d5 (ρ1:=[Y (wl (zZ w::r)),Y (.int p),Y (.list ((S8 (zZ w::r)).map wl))]) (f6 (O:=[]) ?_) (d5 (ρ1:=[Y (wl (zZ w::r)),Y (.int p),Y (.list ((S8 (zZ w::r)++YX).map wl))]) (f6 (O:=[]) ?_) (d5 (ρ1:=[Y (wl (zZ w::r)),Y (.int p),Y (.list ((S8 (zZ w::r)++YX++ZC (zZ w::r)).map wl))]) (f6 (O:=[]) ?_) ?_))))}
  .rcases ax.mp a with a|a
   .rcases ax.mp a with a|a
    .simp only[S8,ag,aN,cu] at a;rcases a with rfl|rfl|rfl|rfl|rfl|rfl|rfl|rfl
     .exact .inr (.lit (by simp))
     .exact .inr (.lit (by simp))
     .exact .inr (.lit (by simp))
     .exact .inr (.lit (by simp))
     .exact .inr (.lit (by simp))
     .exact .inr (.snoc b g (.inl rfl))
     .exact .inr (.lit (by simp))
     .exact .inr (.snoc b g (.inr rfl))
    .simp only[YX,af,bj,ag,aN,cu] at a;rcases a with rfl|rfl|rfl|rfl|rfl
     .exact .inr (.lit (by simp))
     .exact .inl (.lit (by simp[DV]))
     .exact .inl (.lit (by simp[DV]))
     .exact .inl (.lit (by simp[DV]))
     .exact .inl (.lit (by simp[DV]))
   .simp only[ZC,ag,aN,cu] at a;rcases a with rfl|rfl|rfl|rfl
    .exact .inl (.lit (by simp[DV]))
    .exact .inl (.ext b g)
    .exact .inl (.lit (by simp[DV]))
    .exact .inr (.lit (by simp))
  .have k:fU (wl (zZ w::r)) (.list [.str (zZ "")])=_:=z;have h:fU (wl (zZ w::r)) (.list [.str (zZ "x1")])=_:=y;rw[ue]
   simp? only[k,h]
   rfl
  .rw[ue]
   simp? only[Bq]
   rfl
  .have f:fU (wl (zZ w::r)) (.list [.str (zZ "x"),.str (zZ "x"),.str (zZ "x")])=_:=x;rw[ue]
   simp? only[f]
   rfl
  .simp? only[t,s,o]
def Oo(w:Str):Prop:=lH w=true\/w=zZ "abcdefghi"
def R6(h:lH x=true):hI [.str x]=Y (.bool true):=by
 obtain⟨d,g,b⟩:=kz.mp h;obtain⟨f,e⟩:=rG (.str x) x.cps.toList Z b;have a:(x==zZ "")=false:=by rw[aT];intro z;subst z;exact absurd d (by decide +kernel)
 simp? only[hI,oM]
 rw[show oB x=x.cps.toList.map λc=>fJ.str {#[c]} from rfl,e]
 simp? only[Du (kY h) sN,a]
def Oo.lets(h:Oo x):hI [.str x]=Y (.bool true):=by
 rcases h with h|rfl
 .exact R6 h
 .kernel_rfl
def Oo.ok(h:Oo x):fJ.strOk x=true:=by
 rcases h with h|rfl
 .exact kY h
 .exact ba _
theorem z4:∀{ws:Lr},(∀w∈ws,Oo w)->gG bS eL [] (ws.map .str)=Y (ws.map λ_=>.bool true)
 |[],_=>rfl
 |w::ws,h=>by
  have a:=z4 λx (b:x∈ws)=>h x (by simp[b]);have e:eL [Y (.str w)]=Y (.bool true):=by simp? only[eL,(h w (by simp)).lets]
  rw[af,gG,show bS [Y (.str w)]=Y true from rfl]
  simp? only[e,a]
def Oq:(List.range 26).map (λi=>oO [Y (.str {#[97+i]})])=(List.range 26).map λ_=>Y false:=by kernel_rfl
theorem z5:∀l:List Nat,(∀c∈l,97<=c/\c<=122)->gG oO hJ [] (l.map λc=>.str {#[c]})=Y []
 |[],_=>rfl
 |c::l,h=>by
  have b:=h c (by simp);have e:=List.map_inj_left.mp Oq (c - 97) (by rw[List.mem_range];omega);rw[show 97+(c - 97)=c by omega] at e;rw[af,gG,e]
  simp? only[z5 l λz a=>h z (by simp[a])]
section
variable (a b c e f g:Od)
theorem Ot{w:Str}(h:Oo w):iM [a,b,c,e,Y (.str w),f,g]=Y (.nx [a,b,c,e,Y (.str w),f,g]):=by
 rcases h with h|rfl
 .obtain⟨k,m,j⟩:=kz.mp h;have d:(w==zZ "")=false:=by
   rw[aT];intro z;subst z;exact absurd k (by decide +kernel)
  have q:=Dt (kY h) sN;rw[d] at q;have s:VF kO [a,b,c,e,Y (.str w),f,g]=Y (w.cps.toList.map λc=>fJ.str {#[c]}):=rfl;have l:=nB (caps:=[]) s (by rw[aj];have:w.cps.toList.length=w.length:=rfl;omega) (z5 _ j);have i:mY (.list []) (.list [])=Y (.bool false):=by kernel_rfl
  refine gS ?_ rfl;rw[YA,Q4,sW (A:=gq 4) (B:=dC (.str "")) (a:=.str w) (b:=.str (zZ "")) rfl rfl,q]
  simp? only[l,i]
 .kernel_rfl
theorem ur:∀(i:Lr) (o:Od),(∀w∈i,Oo w)->∃j,∀d,ib (mZ (.one 4)) iM (i.map .str++d) [a,b,c,e,o,f,g]=ib (mZ (.one 4)) iM d [a,b,c,e,j,f,g]
 |[],o,_=>{o,λ_=>rfl}
 |w::i,o,h=>by obtain⟨j,q⟩:=ur i (Y (.str w)) λx k=>h x (by simp[k]);exact{j,λd=>by rw[af,bf,iC rfl (Ot a b c e f g (h w (by simp))) (q d)]}
end
noncomputable abbrev ZD:fJ:=.tuple [.str (zZ "row"),.list []]
structure Ref (W:Lr):Prop where
 pr:gf [wl W]=Y (.bool false)
 due:∀(a b e f g:Od) (K:a0->Option Out),(bo VL (bo M6 K)) [a,b,Y (wl W),e,Z,f,g]=Y (.rt ZD)
def YY{l:Lp}{a b e f g o:Od}{K:a0->Option Out}{r:Option Out}(h:ib (mZ (.one 4)) iM l [a,b,Y (.list l),e,o,f,g]=r):jf (wh [5] (oW iD)) (.one 4) iM [a,b,Y (.list l),e,o,f,g]=r:=by rw[zq,zp,x3,ue];exact h
section
variable {W:Lr} (h0:W≠[]) (pw:Pw W) (hk:∀w∈W,fJ.strOk w=true)
theorem ok4:∀w∈["if","while","else","end"].map Str.ofString,fJ.strOk w=true:=by intro w hw;obtain⟨s,_,rfl⟩:=av.mp hw;exact ba _
abbrev aal:=uy M5 M4
include h0 pw hk in
theorem DX(a b e f g o:Od):aal [a,b,Y (wl W),e,o,f,g]=Y false:=by
 obtain⟨c,r,rfl⟩:∃c r,W=c::r:=by cases W with|nil=>exact absurd rfl h0|cons x y=>exact{(x),y,rfl}
 have j:=rF hk (show ∀w∈([]:Lr),fJ.strOk w=true by simp);rw[az (by simp)] at j;have i:=nA (hk c (by simp)) ok4;rw[az ?_] at i
 .have h:j7 (wl (c::r)) (.list [])=Y (.bool false):=j;have d:j9 (.str c) (.list [.str (zZ "if"),.str (zZ "while"),.str (zZ "else"),.str (zZ "end")])=Y false:=i
  simp? only[h,l8,gJ,d]
 .intro z;obtain⟨s,k,e⟩:=av.mp z;refine pw s ?_ (by rw[List.head?_cons,e]);simp at k ⊢;rcases k with rfl|rfl|rfl|rfl<;>simp
include h0 pw in
theorem Ou(h:∀w∈W,Oo w)(p:W.length<=100):gf [wl W]=Y (.bool true):=by
 obtain⟨a,r,rfl⟩:∃a r,W=a::r:=by cases W with|nil=>exact absurd rfl h0|cons x y=>exact{(x),y,rfl}
 have j:=(h a (by simp)).ok;have f:=z4 h;have i:=sU (a::r);have g:((a::r).map fJ.str).length<=16777216:=by rw[aj];omega
 have e:=FR (ws:=a::r) (by simp);have b:∀s t:String,s∈["end","else","if","while"]->t∈["end","else","if","while"]->j9 (.str a) (.tuple [.str (zZ s),.str (zZ t)])=Y false:=λs t o d=>by
  have:=nA j (ok2 s t);rw[az ?_] at this
  .exact this
  .intro z;simp at z;rcases z with rfl|rfl
   .exact pw s o rfl
   .exact pw t d rfl
 have n:=b "if" "while" (by simp) (by simp);have k:=b "else" "end" (by simp) (by simp);simp only[wl] at e;have c:=l8 a r;simp only[wl] at c;unfold wl;generalize (a::r).map fJ.str=l at f g e c ⊢;generalize (a::r).map (λ_=>fJ.bool true)=m at f i
 simp? only[gf,jX,e,ah g,md,f,i,mW,c,iP,n,k]
end
theorem xU:∀a:Lr,lD (a.map (λ_=>fJ.bool true)++[.bool false])=Y (a.map (λ_=>true)++[false])
 |[]=>rfl
 |_::a=>by simp[lD,xU a]
def Ov(a:Lr):CA [.list (a.map (λ_=>fJ.bool true)++[.bool false])]=Y (.bool false):=by rw[CA,xU];simp
theorem z6{s:Str}(b:hI [.str s]=Y (.bool false)):∀{a:Lr},(∀w∈a,Oo w)->gG bS eL [] (a.map .str++[.str s])=Y (a.map (λ_=>.bool true)++[.bool false])
 |[],_=>by
  have e:eL [Y (.str s)]=Y (.bool false):=by simp? only[eL,b]
  rw[bj,bE,gG,show bS [Y (.str s)]=Y true from rfl]
  simp? only[e];rfl
 |w::a,h=>by
  have c:=z6 b λx (d:x∈a)=>h x (by simp[d]);have e:eL [Y (.str w)]=Y (.bool true):=by simp? only[eL,(h w (by simp)).lets]
  rw[af,bf,gG,show bS [Y (.str w)]=Y true from rfl]
  simp? only[e,c]
section
variable {K:Lr}{M:List (Str×Str)}{Fu:List (Str×Nat)}{W:Lr}
def Bd.ref(h:Bd K M Fu W):Ref W:=by
 cases h with
 |lit h=>
  simp only[af,bj,ag,aN,cu] at h;rcases h with rfl|rfl|rfl|rfl|rfl|rfl|rfl|rfl
  all_goals exact{by kernel_rfl,λa b e f g K=>by kernel_rfl}
 |@snoc w r s u g p=>
  have k:∀v∈zZ w::r,Oo v:=λv hv=>.inl (g.2.1 v hv);have y:hI [.str (zZ s)]=Y (.bool false):=by rcases p with rfl|rfl<;>kernel_rfl
  refine{?_,λa b e f i K=>?_}
  .have n:=z6 y k;have t:=Ov (zZ w::r);have hz:((zZ w::r).map fJ.str++[fJ.str (zZ s)]).length<=16777216:=by have:=g.2.2;simp at this ⊢;omega
   have x:=xB (zZ w::r) (zZ s);have j:wl (zZ w::(r++[zZ s]))=.list ((zZ w::r).map fJ.str++[.str (zZ s)]):=by simp[wl]
   have d:jL (.list ((zZ w::r).map fJ.str++[.str (zZ s)]))=Y true:=by rw[<-j];exact x
   rw[j];generalize (zZ w::r).map fJ.str++[fJ.str (zZ s)]=l at n hz d ⊢;generalize (zZ w::r).map (λ_=>fJ.bool true)++[fJ.bool false]=m at n t
   simp? only[gf,jX,d,ah hz,md,n,t,mW]
  .refine d5 (gS (DX (W:=zZ w::(r++[zZ s])) (by simp) (u.pw _) (λv hv=>?_) a b e f i Z) rfl) (jG ?_)
   .rcases ag.mp hv with rfl|hv
    .exact ba _
    .rcases ax.mp hv with hv|hv
     .exact(k v (by simp[hv])).ok
     .simp at hv;subst hv;exact ba _
   .refine YY (K:=K) ?_;have j:(zZ w::(r++[zZ s])).map fJ.str=(zZ w::r).map fJ.str++[.str (zZ s)]:=by simp
    obtain⟨z,q⟩:=ur a b (Y (.list ((zZ w::(r++[zZ s])).map fJ.str))) e f i (zZ w::r) Z k;have o:∀c:Od,iM [a,b,c,e,Y (.str (zZ s)),f,i]=Y (.rt ZD):=λc=>by rcases p with rfl|rfl<;>kernel_rfl
    rw[j] at q ⊢;rw[q,ib];show (iM [a,b,_,e,Y (.str (zZ s)),f,i]).bind _=_;rw[o];rfl
structure YZ (W:Lr):Prop where
 ne:W≠[]
 pw:Pw W
 lt:∀w∈W,Oo w
 l12:W.length<=12
 wd:∃w r,W=zZ w::r
 jn:iE (.str (zZ " ")) [wl W]=Y (.str (ln W))
 lr:NH W
def Wd.good(h:Wd K M Fu W):YZ W:=by
 cases h with
 |Jr c g=>exact{by simp,c.pw _,λv b=>.inl (g.2.1 v b),g.2.2,{_,_,rfl},g.join,g.Hz}
 |ext c g=>have d:=Oj c g;exact{by simp,c.pw _,λv b=>.inl (d.2.1 v b),d.2.2,{_,_,rfl},d.join,d.Hz}
 |lit h=>
  have e:∀l:List String,l≠[]->l.head?∉["end","else","if","while"].map Y->(∀w∈l,lH (zZ w)=true\/w="abcdefghi")->l.length<=12->iE (.str (zZ " ")) [wl (l.map Str.ofString)]=Y (.str (ln (l.map Str.ofString)))->NH (l.map Str.ofString)->YZ (l.map Str.ofString):=λl p o n m k j=>by
   cases l with
   |nil=>exact absurd rfl p
   |cons a l=>
    refine{by simp,λv b z=>?_,λv b=>?_,by simpa using m,{a,l.map Str.ofString,rfl},k,j}
    .simp only[af,List.head?_cons,Option.some.injEq] at z;have:=bF.mp (vI.mp z);exact o (by rw[List.head?_cons,this];exact av.mpr {(v),b,rfl})
    .obtain⟨s,i,rfl⟩:=av.mp b;rcases n s i with h|rfl
     .exact .inl h
     .exact .inr rfl
  obtain⟨l,f,rfl⟩:=av.mp h;simp only[ag,aN,cu] at f;rcases f with rfl|rfl|rfl|rfl|rfl|rfl<;>exact e _ (by simp) (by decide) (by decide +kernel) (by simp) (zK 0) {by decide +kernel,by decide +kernel,by kernel_rfl}
end
def Ox{l:Lp}{k:Nat}(h:k<l.length)(d:fJ):vi (zi k) d (.list l)=Y (.list (l.set k d)):=by show (yJ l.length (k:Int)).map _=_;rw[HN h];rfl
def R7(b a:List Lr)(c W:Lr):(((b++c::a).map ln).map fJ.str).set b.length (.str (ln W))=((b++W::a).map ln).map fJ.str:=by simp[List.set_append]
def Wk.first{d:Nat}{b:Str}{c:List Lr}(h:Wk d b c hs ns):∀x∈ns,∀(w:String) (r:Lr),x.1=zZ w::r->(w=="end")=false/\(w=="else")=false:=by
 induction h with
 |nil=>simp
 |kind _ _ _ a=>exact a
 |head _ _ _ a=>exact a
 |fin _ a=>exact a
 |Jd _ a=>exact a
 |row j r bl i g l k a=>
  intro x f w r e;rcases ag.mp f with rfl|f
  .injection e with e _;have:=bF.mp (vI.mp e);subst this;exact{(i),g}
  .exact a x f w r e
structure OR (t:Tx) (F H:List (Str×fJ)) (ns:List (Lr×Str)) (E:List qf):Prop where
 T:FW t
 X:ZA t F H
 rt:Rt t.rows (x4 t) ns
 en:E.map (·.2)=ns
 ep:E.map (·.1)=(o2 0 0 t.rows).map λ(n:Nat)=>(n:Int)
section
variable {rows:List Lr}{E:List qf}
def ti:fZ [prog rows hs E]=Y (zi E.length):=by
 simp? only[fZ,l6,xx,NF]
def DY{x:qf}(h:E[n]?=Y x):ik [prog rows hs E,.int (n:Int)]=Y (wl x.2.1):=by
 have e:=TF h;have b:gH (.tuple [.int x.1,wl x.2.1,.str x.2.2]) (.int 1)=Y (wl x.2.1):=by rw[WB,Rb]
 have a:iY [wl x.2.1]=Y (wl x.2.1):=by kernel_rfl
 simp? only[ik,l7,xx,e,b,a,sR]
def R8{x:qf}(h:E[n]?=Y x):iA [prog rows hs E,.int (n:Int)]=Y (.int x.1):=by
 have e:=TF h;have a:gH (.tuple [.int x.1,wl x.2.1,.str x.2.2]) (.int 0)=Y (.int x.1):=by rw[WB,xq]
 simp? only[iA,mV,xx,e,a]
def Ju:i6 [prog rows hs E]=Y (wl (hs.map (·.1))):=by
 have b:iK ["Program"] "body_texts" (prog rows hs E)=Y (wl (hs.map (·.1))):=by kernel_rfl
 have a:iY [wl (hs.map (·.1))]=Y (wl (hs.map (·.1))):=by kernel_rfl
 simp? only[i6,n6,b,a,sR]
def Wn:jF "Program" "row_line" (prog rows hs E)=true:=by kernel_rfl
end
section
variable {t:Tx}{H:List (Str×fJ)}{E:List qf} (S:OR t F H ns E)
include S in
theorem OR.at{n:Nat}(h:n<E.length):∃a ws b u w r,t.rows=a++ws::b/\E[n]?=Y ((a.length:Int),(ws,u))/\ns[n]?=Y (ws,u)/\(o2 0 0 t.rows)[n]?=Y a.length/\ws=zZ w::r/\0<a.foldl (λd ws=>ke ws d) 0 /\
  (Pw ws->∀W:Lr,Pw W->(∃w r,W=zZ w::r)->Wk 0 {#[]} (a++W::b) (x4 t) (ns.set n (W,u))):=by
 obtain⟨l,ws,u,e⟩:∃l ws u,E[n]?=Y (l,(ws,u)):={_,_,_,aH h}
 have g:ns[n]?=Y (ws,u):=by rw[<-S.en,aB,e];rfl
 sleep 1;obtain⟨a,b,m,c,k,⟨w,r,j⟩,i⟩:=S.rt.wk.cut 0 n ws u g;sleep 2;rw[cZ] at c;have f:=bJ (λz=>z[n]?) S.ep;simp only[aB,e,c,cD,Option.some.injEq] at f;subst f;exact{(a),ws,b,u,w,r,m,e,g,c,j,k,i}
include S in
theorem OR.TX(b:n<E.length){x:qf}(a:E[n]?=Y x){w:String}{r:Lr}(h:x.2.1=zZ w::r):(w=="end")=false/\(w=="else")=false:=by
 have e:x.2∈ns:=by rw[<-S.en];exact av.mpr {x,b9 a,rfl}
 exact S.rt.wk.first x.2 e w r h
include S in
theorem OR.len:E.length=ns.length:=by rw[<-S.en,aj]
include S in
theorem OR.pl:(o2 0 0 t.rows).length=E.length:=by have:=bJ List.length S.ep;simpa using this.symm
end
def Y0(i j:Int):vX (.int i) (.int j)=Y (.bool (decide (i<j))):=rfl
def geX(i j:Int):Zj (.int i) (.int j)=Y (.bool (decide (j<=i))):=rfl
def leX(i j:Int):oz (.int i) (.int j)=Y (.bool (decide (i<=j))):=rfl
def Oy:a0->Option Out:=(bo M9
(bo Tp
(bo (uI 1 ez M7 6 "NoProgram" "NoRow"
Tq λ_=>Z)
Na)))
def R9:a0->Option Out:=(bo VL (bo M6 Oy))
def DZ:a0->Option Bool:=To
def Wo:qo=bo M8 (bo (ir DZ C4 f7) R9):=by unfold qo R9 Oy DZ;rfl
section
variable {t:Tx}{H:List (Str×fJ)}{E:List qf} (S:OR t F H ns E)
noncomputable abbrev WG(t:Tx):fJ:=.list ((o2 0 0 t.rows).map λ(p:Nat)=>.int (p:Int))
noncomputable abbrev dρ(t:Tx)(k:Int)(W:fJ):a0:=[Y (wl (t.rows.map ln)),Y (.int k),Y W,Y (WG t),Z,Z,Z]
theorem Sa{a k W P o:fJ}(e:kX [a]=Y P)(h:(bo (ir DZ C4 f7) R9) [Y a,Y k,Y W,Y P,Z,Z,Z]=Y (.rt o)):jC [a,k,W]=Y o:=by
 have g:qo [Y a,Y k,Y W,Z,Z,Z,Z]=Y (.rt o):=by
  rw[Wo];refine d5 (ρ1:=[Y a,Y k,Y W,Y P,Z,Z,Z]) (f6 (O:=[5]) ?_) h;show ji 1 kX _ [Y a,Y k,Y W,Z,Z,Z,Z]=_
  simp? only[e]
 exact iB g
include S in
theorem xV{k:Int}{W o:fJ}(h:(bo (ir DZ C4 f7) R9) (dρ t k W)=Y (.rt o)):jC [wl (t.rows.map ln),.int k,W]=Y o:=Sa (Jn S.rt.gr S.rt.len) h
theorem Oz:jQ [WG t]=Y (.int ((o2 0 0 t.rows).length:Int)):=by rw[mj,aj]
include S in
theorem Sb(n:Nat)(p:n<E.length){b:Lr}{w:String}{r:Lr}{a:List Lr}(o:(o2 0 0 t.rows)[n]?=Y a.length)(h:t.rows[a.length]?=Y b)(m:b=zZ w::r)(W:fJ):DZ (dρ t (n:Int) W)=Y (w=="if"||w=="while"):=by
 have g:=S.rt.gr b (b9 h);have d:=Y0 (n:Int) 0;rw[az (by omega)] at d;have c:=geX (n:Int) ((o2 0 0 t.rows).length:Int);rw[S.pl,az (by omega)] at c;have k:gH (WG t) (zi n)=Y (zi a.length):=by rw[qV,NJ,aB,o];rfl
 have j:=TV h;have i:iF (.str (ln b)) [.str (zZ " ")]=Y (wl b):=g.split;have f:=l8 (zZ w) r;rw[<-m] at f;have l:j9 (.str (zZ w)) (.list [.str (zZ "if"),.str (zZ "while")])=Y (w=="if"||w=="while"):=sS w;have e:=Oz (t:=t);rw[S.pl] at e
 simp? only[DZ,d,e,c,k,j,i,f,gJ,l]
include S in
theorem Wq(n:Nat)(h:n<E.length){x:qf}(f:E[n]?=Y x){w:String}{r:Lr}(g:x.2.1=zZ w::r):fV [prog t.rows (x4 t) E,.int (n:Int)]=Y (.bool (!(w=="if"||w=="while"))):=by
 have b:=leX 0 (n:Int);rw[aU (by omega)] at b;have a:=Y0 (n:Int) (E.length:Int);rw[aU (by omega)] at a;have d:=l8 (zZ w) r;rw[<-g] at d;have e:=sS w;have c:lS oz vX lT iu Hf [Y (prog t.rows (x4 t) E),Y (zi n)]=Y true:=by
  simp? only[lS,By,ti,b,a]
  rfl
 simp? only[fV,jr,wH,c,HE,DY f,d,iP,e]
include S in
theorem Sd{k:Int}(h:k<0\/(E.length:Int)<=k)(W:fJ):jC [wl (t.rows.map ln),.int k,W]=Y ZD/\fV [prog t.rows (x4 t) E,.int k]=Y (.bool false):=by
 have d:=Oz (t:=t);rw[S.pl] at d;by_cases e:k<0
 .have a:=Y0 k 0;rw[aU e] at a;refine{xV S (jG (kZ ?_ rfl)),?_}
  .simp? only[DZ,a]
  .have a:=leX 0 k;rw[az (by omega)] at a;have c:lS oz vX lT iu Hf [Y (prog t.rows (x4 t) E),Y (.int k)]=Y false:=by
    simp? only[lS,a]
    rfl
   simp? only[fV,jr,wH,c]
 .have a:=Y0 k 0;rw[az e] at a;have b:=geX k (E.length:Int);rw[aU (by omega)] at b;refine{xV S (jG (kZ ?_ rfl)),?_}
  .simp? only[DZ,a,d,b]
  .have a:=leX 0 k;rw[aU (by omega)] at a;have b:=Y0 k (E.length:Int);rw[az (by omega)] at b;have c:lS oz vX lT iu Hf [Y (prog t.rows (x4 t) E),Y (.int k)]=Y false:=by
    simp? only[lS,By,ti,a,b]
    rfl
   simp? only[fV,jr,wH,c]
end
section
variable {f:Lp->Od}{cP cR:Str}{h1 h2:a0->Option Out}{ok:Lp->Bool}{v:Int}
def Y1(a:ff ρ=Y ds)(b:ds.length=n)(c:f ds=Y (.int v))(d:0<=v):uI n f ff j cP cR h1 h2 ρ=(h1 (ρ.set j (Y (.dict [(.bool true,.str cP),(.str "line",.int v)])))).map (VA j):=by
 have z:¬ v<0:=by omega
 unfold uI CS;rw[a];simp only[aJ,ah b,c,aq z]
def Y2(a:ff ρ=Y ds)(b:ds.length=n)(c:f ds=Y (.dict iV)):uI n f ff j cP cR h1 h2 ρ=Y (.nx ρ):=by unfold uI;rw[a];simp only[aJ,ah b,c]
def Y3(a:ff ρ=Y ds)(b:ds.length=n/\ok ds=true)(c:f ds=Y (.int v))(d:0<=v):qN ok n f ff i j cP cR h1 h2 ρ=(h1 (ρ.set j (Y (.dict [(.bool true,.str cP),(.str "line",.int v)])))).map (VA j):=by
 have z:¬ v<0:=by omega
 unfold qN CS;rw[a];simp only[aJ,ah b,c,aq z]
def Y4(a:ff ρ=Y ds)(b:ds.length=n/\ok ds=true)(c:f ds=Y (.int (-1))):qN ok n f ff i j cP cR h1 h2 ρ=(h2 (ρ.set j (Y (.dict [(.bool true,.str cR)])))).map (VA j):=by
 unfold qN CS;rw[a];have z:(-1:Int)<0:=by omega
 simp only[aJ,ah b,c,ah z]
def Y5(a:ff ρ=Y ds)(b:ds.length=n/\ok ds=true)(c:f ds=Y (.dict iV)):qN ok n f ff i j cP cR h1 h2 ρ=Y (.nx (ρ.set i (Y (.dict iV)))):=by unfold qN;rw[a];simp only[aJ,ah b,c]
def Y6(a:ff ρ=Y ds)(b:ds.length=n/\ok ds=true):CP ok n f ff ρ=(f ds).map .rt:=by unfold CP;rw[a];simp only[aJ,ah b]
end
def TY(d L:fJ):fJ:=match d with
 |.int v=>.tuple [.str (zZ "program"),.int v]
 |_=>.tuple [.str (zZ ""),L]
def Tot(d:fJ):Prop:=(∃v:Int,(0<=v/\v<10000)/\d=.int v)\/∃a,d=.dict a
def Jp.ZE{a:List Lr}(h:Jp a hs ns d):Tot d:=by
 rcases h with h | ⟨E,_,rfl⟩
 .exact .inl h
 .exact .inr {_,rfl}
section
variable {L:Lp}{k W P:fJ}{m:Nat} (hm:m<L.length) (hk:gH P k=Y (zi m)) {T:Str} (jn:iE (.str (zZ " ")) [W]=Y (.str x)) (jl:iE (.str (zZ "\n")) [.list (L.set m (.str x))]=Y (.str T)) (rd:ez [.str T]=Y d) (ZE:Tot d)
include hm hk jn jl rd ZE in
theorem Se(o:Od):Oy [Y (.list L),Y k,Y W,Y P,o,Z,Z]=Y (.rt (TY d (.list (L.set m (.str x))))):=by
 have b:iY [.list L]=Y (.list L):=by kernel_rfl
 refine d5 (ρ1:=[Y (.list L),Y k,Y W,Y P,o,Y (.list L),Z]) (by simp? only[b]) (d5 (ρ1:=[Y (.list L),Y k,Y W,Y P,o,Y (.list (L.set m (.str x))),Z]) ?_ ?_)
 .simp? only[uZ,hk,jn,Ox hm]
 .have a:M7 [Y (.list L),Y k,Y W,Y P,o,Y (.list (L.set m (.str x))),Z]=Y [.str T]:=by
   simp? only[jl]
  rcases ZE with ⟨v,e,rfl⟩ | ⟨c,rfl⟩
  .refine jG ((Y1 a rfl rd e.1).trans ?_)
   kernel_rfl
  .exact d5 (Y2 a rfl rd) rfl
variable {p:fJ}{n:Int}
include hm jn jl rd in
theorem Sf{a:Str}(b:gB [p]=Y (.str a))(f:jF "Program" "shown" p=true)(g:jF "Program" "row_line" p=true)(c:iF (.str a) [.str (zZ "\n")]=Y (.list L))(i:iA [p,.int n]=Y (zi m)):
  nu [p,.dict [(.int n,W)]]=Y d:=by
 have h:gH (.dict [(.int n,W)]) (.int n)=Y W:=by show (if _ then _ else _)=_;simp[gw,qC,j8,kL]
 have k:jW [Y p,Y (.dict [(.int n,W)]),Y (.list L),Y (.int n)]=Y (.nx [Y p,Y (.dict [(.int n,W)]),Y (.list (L.set m (.str x))),Y (.int n)]):=by
  simp? only[jW,uZ,g,i,h,jn,Ox hm]
 have l:GO (fY [2] iu) (.one 3) jW [Y p,Y (.dict [(.int n,W)]),Y (.list L),Z]=Y (.nx [Y p,Y (.dict [(.int n,W)]),Y (.list (L.set m (.str x))),Y (.int n)]):=by unfold GO;have e:fY [2] iu [Y p,Y (.dict [(.int n,W)]),Y (.list L),Z]=Y (.dict [(.int n,W)]):=rfl;rw[e];show (if gw [(fJ.int n,W)]=true then Z else (ib (mZ (.one 3)) jW [.int n] _).bind LL)=_;rw[aq (by simp[gw]),iC rfl k rfl];rfl
 have j:uU [Y p,Y (.dict [(.int n,W)]),Z,Z]=Y (.rt d):=by refine d5 (ρ1:=[Y p,Y (.dict [(.int n,W)]),Y (.list L),Z]) (by simp? only[f,b,c]) (d5 l ?_);rw[Y6 (ds:=[.str T]) (by simp? only[jl]) (by exact{(rfl),rfl}),rd];rfl
 exact iB j
theorem OA(c:fV [p,.int n]=Y (.bool true))(a:gf [W]=Y (.bool true))(h:nu [p,.dict [(.int n,W)]]=Y d):gC [p,.int n,W]=Y d:=by
 have b:E5 (.int n) W=Y (.dict [(.int n,W)]):=rfl;have e:lZ [Y p,Y (.int n),Y W]=Y (.rt d):=by refine d5 (gS (by simp? only[c,a,mW]) rfl) ?_;rw[Y6 (ds:=[p,.dict [(.int n,W)]]) (by simp? only[b]) (by exact{(rfl),rfl}),h];rfl
 exact iB e
theorem xW(h:fV [p,.int n]=Y (.bool false)\/(fV [p,.int n]=Y (.bool true)/\gf [W]=Y (.bool false))):gC [p,.int n,W]=Y (.int (-1)):=by
 have b:lZ [Y p,Y (.int n),Y W]=Y (.rt (.int (-1))):=by
  refine jG (kZ ?_ rfl);rcases h with h | ⟨h,a⟩
  .simp? only[h,mW]
  .simp? only[h,a,mW]
 exact iB b
end
def Wr{a:List Lr}(h:∀ws∈a,∀w∈ws,fJ.strOk w=true):fJ.strOk (tx a)=true:=by refine mX (by decide +kernel) λy b=>?_;obtain⟨ws,hw,rfl⟩:=av.mp b;exact mX (by decide +kernel) (h ws hw)
def xX{a:Lr}(b:∀w∈a,fJ.strOk w=true):mY (wl a) (wl a)=Y (.bool false):=by rw[Nx b b];simp
def Y7:a0->Option Out:=(qN (λ_=>true) 3 gC Ng 7 10 "NoProgram" "NoRow"
Tt
Ts)
def HS:a0->Option Out:=Yk
section
variable {p ls k a b fo re li o:fJ}{W:Lr}{n:Int}
def xY(f:jC [ls,k,wl W]=Y (.tuple [a,b])) (d:Y7 [Y p,Y ls,Y k,Y (wl W),Y a,Y b,Y (wl W),Y .none,Y (.str (zZ "")),Y (.list []),Z]=Y (.nx [Y p,Y ls,Y k,Y (wl W),Y a,Y b,Y (wl W),Y fo,Y re,Y li,Z]))
  (c:HS [Y p,Y ls,Y k,Y (wl W),Y a,Y b,Y (wl W),Y fo,Y re,Y li,Z]=Y (.rt o)):jY [p,ls,k,wl W]=Y o:=by
 have e:iY [wl W]=Y (wl W):=by kernel_rfl
 have g:wR [Y p,Y ls,Y k,Y (wl W),Z,Z,Z,Z,Z,Z,Z]=Y (.rt o):=by
  refine d5 (ρ1:=[Y p,Y ls,Y k,Y (wl W),Y a,Y b,Z,Z,Z,Z,Z]) ?_ (d5 (ρ1:=[Y p,Y ls,Y k,Y (wl W),Y a,Y b,Y (wl W),Z,Z,Z,Z]) ?_ (d5 (ρ1:=[Y p,Y ls,Y k,Y (wl W),Y a,Y b,Y (wl W),Y .none,Z,Z,Z]) rfl (d5 (ρ1:=[Y p,Y ls,Y k,Y (wl W),Y a,Y b,Y (wl W),Y .none,Y (.str (zZ "")),Z,Z]) rfl (d5 (ρ1:=[Y p,Y ls,Y k,Y (wl W),Y a,Y b,Y (wl W),Y .none,Y (.str (zZ "")),Y (.list []),Z]) rfl (d5 d c)))))
  .simp? only[f]
   rfl
  .simp? only[e]
 exact iB g
variable (hW:∀w∈W,fJ.strOk w=true) (hl:W.length<=100)
include hW hl in
theorem BO(c:jC [ls,.int n,wl W]=Y ZD)(b:gC [p,.int n,wl W]=Y (.int (-1))):jY [p,ls,.int n,wl W]=Y (.bool true):=by
 have a:=xX hW;have z:(W.map fJ.str).length<16777216:=by rw[aj];omega
 refine xY (fo:=.none) (re:=.str (zZ "row")) (li:=.list []) c ?_ ?_
 .refine(Y4 (ds:=[p,.int n,wl W]) rfl {(rfl),rfl} b).trans ?_
  kernel_rfl
 .have h:mY (.str (zZ "row")) (.str (zZ "row"))=Y (.bool false):=by kernel_rfl
  have g:mY (.str (zZ "row")) (.str (zZ ""))=Y (.bool true):=by kernel_rfl
  have f:ET .none .none=Y (.bool true):=by kernel_rfl
  have e:mY (.bool true) (.bool true)=Y (.bool false):=by kernel_rfl
  have d:j7 (.list []) (.list [])=Y (.bool true):=by kernel_rfl
  unfold HS;unfold wl at a ⊢
  simp? only[a,h,g,f,e,d,ah z]
include hW hl in
theorem Jv{v:Int}(c:0<=v)(e:jC [ls,.int n,wl W]=Y (.tuple [.str (zZ "program"),.int v]))(d:gC [p,.int n,wl W]=Y (.int v)):jY [p,ls,.int n,wl W]=Y (.bool true):=by
 have a:=xX hW;have z:(W.map fJ.str).length<16777216:=by rw[aj];omega
 refine xY (fo:=.none) (re:=.str (zZ "program")) (li:=.int v) e ?_ ?_
 .refine(Y3 (ds:=[p,.int n,wl W]) rfl {(rfl),rfl} d c).trans ?_
  kernel_rfl
 .have i:mY (.str (zZ "program")) (.str (zZ "program"))=Y (.bool false):=by kernel_rfl
  have h:mY (.str (zZ "program")) (.str (zZ ""))=Y (.bool true):=by kernel_rfl
  have g:ET .none .none=Y (.bool true):=by kernel_rfl
  have f:mY (.bool true) (.bool true)=Y (.bool false):=by kernel_rfl
  have b:=TC v v;rw[c8] at b;unfold HS;unfold wl at a ⊢
  simp? only[a,i,h,g,f,b,ah z]
include hW hl in
theorem OB{rows a:List Lr}  {E b:List qf}  {x:qf} (g:∀w∈hs.map (·.1),fJ.strOk w=true) (f:fJ.strOk (tx a)=true) (p:iE (.str (zZ "\n")) [wl (a.map ln)]=Y (.str (tx a))) (t:b.length=E.length) (q:b[i]?=Y x) (c:x.2.1=W)
  (s:jC [ls,.int (i:Int),wl W]=Y (.tuple [.str (zZ ""),wl (a.map ln)])) (r:gC [prog rows hs E,.int (i:Int),wl W]=Y (prog a hs b)):jY [prog rows hs E,ls,.int (i:Int),wl W]=Y (.bool true):=by
 have o:=xX hW;have z:(W.map fJ.str).length<16777216:=by rw[aj];omega
 refine xY (fo:=prog a hs b) (re:=.str (zZ "")) (li:=.list []) s (Y5 (ds:=[prog rows hs E,.int (i:Int),wl W]) rfl {(rfl),rfl} r) ?_;have m:mY (.str (zZ "")) (.str (zZ ""))=Y (.bool false):=by kernel_rfl
 have v:ET (prog a hs b) .none=Y (.bool false):=by kernel_rfl
 have u:mY (.bool false) (.bool false)=Y (.bool false):=by kernel_rfl
 have n:gB [prog a hs b]=Y (.str (tx a)):=sT (Bx b);have l:=Du f f;rw[c8] at l;have k:=neI (E.length:Int) (E.length:Int);rw[c8] at k;have e:=ti (rows:=a) (hs:=hs) (E:=b);rw[t] at e;have d:=DY (rows:=a) (hs:=hs) q;rw[c] at d;have j:=rF hW hW;rw[aU rfl] at j;have h:=rF g g;rw[aU rfl] at h;unfold HS;refine d5 (gS ?_ rfl) (d5 (ρ1:=[Y (prog rows hs E),Y ls,Y (zi i),Y (wl W),Y (.str (zZ "")),Y (wl (a.map ln)),Y (.list (W.map .str++[.str (zZ "zz")])),Y (prog a hs b),Y (.str (zZ "")),Y (.list []),Z]) ?_ (d5 (gS ?_ rfl) (d5 (gS ?_ rfl) ?_)))
 .simp? only[o,m,v,u]
 .simp? only[wl,ah z]
 .simp? only[m]
 .simp? only[Bz,n,p,l,By,e,ti,k]
 .simp? only[HE,d,j,NK,Ju,h]
end
def Bd.ok{K:Lr}{M:List (Str×Str)}{Fu:List (Str×Nat)}{W:Lr}(h:Bd K M Fu W):(∀w∈W,fJ.strOk w=true)/\W.length<=100:=by
 cases h with
 |lit h=>
  obtain⟨l,a,rfl⟩:=av.mp h;refine{λw hw=>?_,?_}
  .obtain⟨s,_,rfl⟩:=av.mp hw;exact ba _
  .rw[aj];simp only[ag,aN,cu] at a;rcases a with rfl|rfl|rfl|rfl|rfl|rfl|rfl|rfl<;>simp
 |snoc b g hs=>
  refine{λv hv=>?_,by have:=b.len;simp;omega};rcases ag.mp hv with rfl|hv
  .exact ba _
  .rcases ax.mp hv with hv|hv
   .exact kY (g.2.1 v (by simp[hv]))
   .simp at hv;subst hv;exact ba _
section
variable {t:Tx}{H:List (Str×fJ)}{E:List qf} (S:OR t F H ns E)
include S in
theorem Y8{W:Lr}(h:Wd t.K t.M t.Fu W\/Bd t.K t.M t.Fu W)(k:Int):jY [prog t.rows (x4 t) E,wl (t.rows.map ln),.int k,wl W]=Y (.bool true):=by
 have i:(∀w∈W,fJ.strOk w=true)/\W.length<=100:=by
  rcases h with h|h
  .have g:=h.good;exact{λw hw=>(g.lt w hw).ok,by have:=g.l12;omega}
  .exact h.ok
 by_cases hk:k<0\/(E.length:Int)<=k
 .obtain⟨a,b⟩:=Sd S hk (wl W);exact BO i.1 i.2 a (xW (.inl b))
 obtain⟨n,rfl⟩:∃n:Nat,k=(n:Int):={k.toNat,by omega}
 have m:n<E.length:=by omega
 sleep 1;obtain⟨e,F,f,u,w,r,j,D,e3,e4,y,e6,e7⟩:=S.at m;sleep 2;have er:t.rows[e.length]?=Y F:=by rw[j];simp
 have B:=Sb S n m e4 er y (wl W);have p:=Wq S n m D y;cases hb:(w=="if"||w=="while") with
 |true=>rw[hb] at B p;exact BO i.1 i.2 (xV S (jG (kZ B rfl))) (xW (.inl p))
 |false=>
  rw[hb] at B p;rcases h with h|h
  .have g:=h.good;have O:Pw F:=by
    intro v C z;rw[y] at z;injection z with z
    have gg:=S.rt.wk;have:(w==v)=false:=by
     simp only[ag,aN,cu] at C;rw[Bool.or_eq_false_iff] at hb;rcases C with rfl|rfl|rfl|rfl
     .exact S.TX m D y |>.1
     .exact S.TX m D y |>.2
     .exact hb.1
     .exact hb.2
    exact k6 this z
   have wk:=e7 O W g.pw g.wd;have l:=S.T.len;rw[j] at l;have rt:GR W->Rt (e++W::f) (x4 t) (ns.set n (W,u)):=λgW=>{wk,λx c=>by
    have:=S.rt.gr;rw[j] at this;rcases ax.mp c with c|c
    .exact this x (aD _ c)
    .rcases ag.mp c with rfl|c
     .exact gW
     .exact this x (ar _ (ai _ c)),S.rt.nd,S.rt.tok,by simp at l ⊢;omega,by simp}
   obtain⟨d,L,Q⟩:=h.read S.T S.X j e6 O rt;have lr:∀x∈e++W::f,NH x:=λx c=>by
    have:=S.rt.gr;rw[j] at this;rcases ax.mp c with c|c
    .exact(this x (aD _ c)).Hz
    .rcases ag.mp c with rfl|c
     .exact g.lr
     .exact(this x (ar _ (ai _ c))).Hz
   have R:=Dy lr (by simp at l ⊢;omega);have U:e.length<((t.rows.map ln).map fJ.str).length:=by rw[j];simp
   have V:((t.rows.map ln).map fJ.str).set e.length (.str (ln W))=((e++W::f).map ln).map fJ.str:=by rw[j];exact R7 e f F W
   have s:iE (.str (zZ "\n")) [.list (((t.rows.map ln).map fJ.str).set e.length (.str (ln W)))]=Y (.str (tx (e++W::f))):=by rw[V];exact R
   have hP:gH (WG t) (zi n)=Y (zi e.length):=by rw[qV,NJ,aB,e4];rfl
   have A:jC [wl (t.rows.map ln),.int (n:Int),wl W]=Y (TY d (wl ((e++W::f).map ln))):=by refine xV S (d5 (gS B rfl) ?_);obtain⟨o',q⟩:=ur (Y (wl (t.rows.map ln))) (Y (zi n)) (Y (wl W)) (Y (WG t)) Z Z W Z g.lt;have N:=q [];rw[aG] at N;refine d5 (gS (DX g.ne g.pw i.1 _ _ _ _ _ _) rfl) (d5 (YY (K:=Oy) N) ?_);have:=Se (P:=WG t) U hP g.jn s L Q.ZE o';rw[V] at this;exact this
   have o:gC [prog t.rows (x4 t) E,.int (n:Int),wl W]=Y d:=by refine OA p (Ou g.ne g.pw g.lt (by have:=g.l12;omega)) (Sf U g.jn s L (sT (Bx E)) (Bz E) Wn (xw S.rt.gr S.rt.len S.rt.ne) (R8 D))
   rcases Q with ⟨v,C,rfl⟩ | ⟨I,en,rfl⟩
   .exact Jv i.1 i.2 C.1 A o
   .have hE:I.length=E.length:=by
     have:=bJ List.length en;rw[aj,d8,<-S.len] at this;exact this
    have H:n<I.length:=by omega
    have c:=aH H;have G:I[n].2=(W,u):=by have:=bJ (λz=>z[n]?) en;simp only[aB,c,cD] at this;rw[aK (by rw[<-S.len];exact m)] at this;injection this
    refine OB i.1 i.2 S.rt.tok (Wr λx c w hw=>?_) R hE c (by rw[G]) A o;have:=S.rt.gr;rw[j] at this;rcases ax.mp c with c|c
    .exact(this x (aD _ c)).ok w hw
    .rcases ag.mp c with rfl|c
     .exact i.1 w hw
     .exact(this x (ar _ (ai _ c))).ok w hw
  .have J:=h.ref;exact BO i.1 i.2 (xV S (d5 (gS B rfl) (J.due _ _ _ _ _ Oy))) (xW (.inr {p,J.pr}))
end
def Wk.noNew{d:Nat}{b:Str}{c:List Lr}(h:Wk d b c hs ns):ns=[]->∀a∈c,∀r,a≠zZ "new"::r:=by
 induction h with
 |nil=>simp
 |kind _ _ _ f=>
  intro e a hw r z;rcases ag.mp hw with rfl|hw
  .injection z with z _;exact k6 (by decide) z
  .exact f e a hw r z
 |head _ O _ f=>
  intro e a hw r z;rcases ag.mp hw with rfl|hw
  .obtain⟨j,k,i,g⟩:=O.w0;rw[i] at z;injection z with z _
   rcases g with rfl|rfl|rfl<;>exact k6 (by decide) z
  .exact f e a hw r z
 |fin _ f=>
  intro e a hw r z;rcases ag.mp hw with rfl|hw
  .injection z with z _;exact k6 (by decide) z
  .exact f e a hw r z
 |Jd _ f=>
  intro e a hw r z;rcases ag.mp hw with rfl|hw
  .injection z with z _;exact k6 (by decide) z
  .exact f e a hw r z
 |row=>intro e;cases e
def Gb{t:Tx}(T:FW t){H:List (Str×fJ)}(P:ZA t F H):∃b E,OR t F H b E/\ez [.str (tx t.rows)]=Y (prog t.rows (x4 t) E):=by obtain⟨b,a⟩:=P.rt;obtain⟨E,⟨e,d⟩,f⟩:=HC a;have c:=T.len;obtain⟨l,h,i,g⟩:=P.pt.reads 0 [] (by simp;omega);refine{b,E,{(T),P,a,e,d},?_};refine sV (λws hw=>(P.pt.gr ws hw).Hz) (by omega) a.ne ?_;exact HK P.td h g (λws hw=>by have:=(P.pt.gr ws hw).2.2;omega) f (λn z=>by cases z)
def aam(i j:Int):Iq (.int i) (.int j)=Y (.int (i - j)):=rfl
section
variable {ns:List Int}{t:Tx}{hs:List Hd} (L:Wj ns t hs n) {H:List (Str×fJ)}{us:List (Lr×Str)}{E:List qf} (S:OR t F H us E)
include L S in
theorem OC:0<E.length:=by rw[S.len];refine bb.mpr λz=>?_;obtain⟨r,R,e⟩:=L.b0;refine S.rt.wk.noNew z (zZ "new"::r) ?_ r rfl;unfold Tx.rows lg;rw[e];simp
variable (D:vK d)
include L D in
theorem Jw{x:Int}:∃h f,gH (.list (hs.map fv++[o4])) (.int (x % ((hs.length:Int)+1)))=Y h/\f≠[]/\(∀w∈f,lH w=true)/\iL [h]=Y (wl f):=by
 obtain⟨q,d,e⟩:=xG (hs.map fv++[o4]) (by simp) x;rw[show (((hs.map fv++[o4]).length:Nat):Int)=(hs.length:Int)+1 by simp] at e;rcases ax.mp d with d|d
 .obtain⟨h,g,rfl⟩:=av.mp d;obtain⟨f,a,b,c⟩:=zW (L.hi.hv h g) (L.hi.kk h g);exact{_,f,e,a,b,c}
 .simp at d;subst d;exact{_,_,e,by simp,F5,xN}
end
section
variable {sc ls p kd hl h q:fJ}{b:Bool}{k c N x9 x10 Ws Wt m:Int}{W:Lr}{a1 a2 a3 a4:Od}
def OD(N a z:Int):∃y:Int,gH (.list [.int (-1),.int N,.int (-2 - a),.int (N+a)]) (.int (z % 4))=Y (.int y):=by
 obtain⟨d,b,e⟩:=xG [.int (-1),.int N,.int (-2 - a),.int (N+a)] (by simp) z;simp only[ag,aN,cu] at b;rcases b with rfl|rfl|rfl|rfl
 .exact{_,e}
 .exact{_,e}
 .exact{_,e}
 .exact{_,e}
def OE(ec:eT [sc,.int 2]=Y (.int c)) (O:oV (.int c) (.int 8)=Y (.int (c*8))) (M:oV (.int 613) (.int k)=Y (.int (613*k))) (ed:gM [.int (c*8+613*k),.bool b]=Y d)
  (U:gH d (.int 9)=Y (.int x9)) (g:gH d (.int 10)=Y (.int x10)) (e:gH d (.int 11)=Y (.int Ws)) (a:gH d (.int 12)=Y (.int Wt))
  (t:jF "Program" "many_rows" p=true) (s:fZ [p]=Y (.int N)) (T:0<N) (L:jF "Program" "shown" p=true) (A:gB [p]=Y (.str x)) (Q:iE (.str (zZ "\n")) [ls]=Y (.str x)) (o:fJ.strOk x=true)
  (ad:fU hl (.list [o4])=Y q) (P:jQ [hl]=Y (.int m)) (R:0<m+1) (S:gH q (.int (x10 % (m+1)))=Y h)
  (z:∃w,jV [d,h,kd,hl]=Y w/\kW [w,.int x9]=Y (wl W)) (V:∀y:Int,jY [p,ls,.int y,wl W]=Y (.bool true)):
  ∃b1 b2 b3 b4,pZ [Y sc,Y ls,Y p,Y (.bool b),Y kd,Y hl,Y (.int k),a1,a2,a3,a4]=Y (.nx [Y sc,Y ls,Y p,Y (.bool b),Y kd,Y hl,Y (.int k),b1,b2,b3,b4]):=by
 obtain⟨w,C,B⟩:=z;obtain⟨v,X⟩:=OD N Ws (Wt / 6);have J:=i9 (i:=Ws) (j:=N) T;have r:=i9 (i:=Wt) (j:=6) (by decide);have f:=TC (Wt % 6) 0;have I:=NX (i:=Wt) (j:=6) (by omega) (by omega);have H:=i9 (i:=Wt / 6) (j:=4) (by decide);have G:=i9 (i:=x10) (j:=m+1) R;have F:=aam (-2) Ws;have E:=vB N Ws;have D:=vB m 1;have K:=vB (c*8) (613*k);have u:=Du o o;rw[c8] at u;have n:∃y:Int,Yl [Y sc,Y ls,Y p,Y (.bool b),Y kd,Y hl,Y (.int k),Y d,Y (.int (Ws % N)),a3,a4]=Y (.nx [Y sc,Y ls,Y p,Y (.bool b),Y kd,Y hl,Y (.int k),Y d,Y (.int y),a3,a4]):=by
  cases hb:(Wt % 6==0) with
  |false=>rw[hb] at f;exact{_,gS (by simp? only[a,r,f]) rfl}
  |true=>rw[hb] at f;exact{v,kZ (by simp? only[a,r,f]) (by simp? only[t,s,e,a,F,E,I,H,X])}
 obtain⟨y,n⟩:=n;refine{Y d,Y (.int y),Y h,Y (wl W),d5 (ρ1:=[Y sc,Y ls,Y p,Y (.bool b),Y kd,Y hl,Y (.int k),Y d,a2,a3,a4]) ?_ (d5 (ρ1:=[Y sc,Y ls,Y p,Y (.bool b),Y kd,Y hl,Y (.int k),Y d,Y (.int (Ws % N)),a3,a4]) ?_ (d5 n (d5 (ρ1:=[Y sc,Y ls,Y p,Y (.bool b),Y kd,Y hl,Y (.int k),Y d,Y (.int y),Y h,a4]) ?_ (d5 (ρ1:=[Y sc,Y ls,Y p,Y (.bool b),Y kd,Y hl,Y (.int k),Y d,Y (.int y),Y h,Y (wl W)]) ?_ (gS ?_ rfl)))))}
 .simp? only[ec,O,M,K,ed]
 .simp? only[e,t,s,J]
 .have l:fU hl (.list [.tuple [.str (zZ "main"),.list [],.list []]])=Y q:=ad
  simp? only[l,g,P,D,G,S]
 .simp? only[C,U,B]
 .simp? only[V,mW,L,A,Q,u]
end
section
variable {ns:List Int}{t:Tx}{hs:List Hd} (L:Wj ns t hs n) {H:List (Str×fJ)}{us:List (Lr×Str)}{E:List qf} (S:OR t F H us E)
include L S in
theorem OF(b:Bool)(c:Int)(u:jE c=true)(F:eT [.list (ns.map .int),.int 2]=Y (.int c))(k:Nat)(hk:k<8)(V U T R:Od):
  ∃Q P O N,pZ [Y (.list (ns.map .int)),Y (wl (t.rows.map ln)),Y (prog t.rows (x4 t) E),Y (.bool b),Y (.list (t.ks.map um)),Y (zh hs),Y (zi k),V,U,T,R]=Y (.nx [Y (.list (ns.map .int)),Y (wl (t.rows.map ln)),Y (prog t.rows (x4 t) E),Y (.bool b),Y (.list (t.ks.map um)),Y (zh hs),Y (zi k),Q,P,O,N]):=by
 obtain⟨d,D,C⟩:=sZ (c*8+613*(k:Int)) b;obtain⟨l,z⟩:=D.at 9 (by omega);obtain⟨a,j⟩:=D.at 10 (by omega);obtain⟨o,i⟩:=D.at 11 (by omega);obtain⟨n,f⟩:=D.at 12 (by omega);sleep 1;obtain⟨h,ms,J,I,H,G⟩:=Jw L D (x:=a);sleep 2;sleep 1;obtain⟨w,r,p,g,B⟩:=DW D L.kk L.n3 L.hi I H G;sleep 2;obtain⟨W,v,A⟩:=Jt p g l;have e:Wd t.K t.M t.Fu W\/Bd t.K t.M t.Fu W:=by rw[L.eM,L.eF];exact v
 have hl:=L.hi.len;have X:=L.n3;have s:=OC L S;refine OE F (Ji u (JD (by omega) (by omega))) (Ji (JD (by omega) (by omega)) (JD (by omega) (by omega))) C z j i f (By E) ti (by omega) (Bz E) (sT (Bx E)) (HB S.rt.gr S.rt.len) (YI S.rt.gr) (q:=.list (hs.map fv++[o4])) (m:=(hs.length:Int)) ?_ ?_ (by omega) J {_,B,A} λy=>Y8 S e y
 .show (if _ then _ else Z)=_;rw[ah (by rw[aj,sizeLine_eq];simp;omega)]
 .rw[mj,aj]
include L S in
theorem D0(b:Bool)(c:Int)(p:jE c=true)(q:eT [.list (ns.map .int),.int 2]=Y (.int c)):∀(m k:Nat) (f a1 a2 d a:Od),k+m<=8 ->
  ∃o n l j g,ib (mZ (.one 6)) pZ ((List.range' k m).map λ(i:Nat)=>fJ.int (i:Int)) [Y (.list (ns.map .int)),Y (wl (t.rows.map ln)),Y (prog t.rows (x4 t) E),Y (.bool b),Y (.list (t.ks.map um)),Y (zh hs),f,a1,a2,d,a]=Y (.nx [Y (.list (ns.map .int)),Y (wl (t.rows.map ln)),Y (prog t.rows (x4 t) E),Y (.bool b),Y (.list (t.ks.map um)),Y (zh hs),o,n,l,j,g])
 |0,k,f,a1,a2,d,a,_=>{(f),a1,a2,d,a,rfl}
 |m+1,k,f,a1,a2,d,a,h=>by sleep 1;obtain⟨w,v,u,s,r⟩:=OF L S b c p q k (by omega) a1 a2 d a;sleep 2;sleep 1;obtain⟨o,n,l,j,g,e⟩:=D0 b c p q m (k+1) (Y (zi k)) w v u s (by omega);sleep 2;refine{o,n,l,j,g,?_};rw[c9,af];exact iC rfl r e
end
def Sg{f:Lp->Od}(h:f ds=Y (.dict iV)):y8 f ds=Y (.dict iV):=by unfold y8;rw[h];rfl
def Sh{a c p d e f t:fJ}{h u:Int}{b:Bool}{T:Str}{r q o m l:Od} (F:nj [a,.int 3,.int 33,.bool true]=Y c) (E:iE (.str (zZ "\n")) [c]=Y (.str T)) (D:y8 ez [.str T]=Y p) (s:eT [a,.int 0]=Y (.int h)) (C:eT [a,.int 1]=Y (.int u)) (B:j7 (.int (h % 2)) (.int 0)=Y (.bool b)) (A:gM [.int (h / 2),.bool b]=Y f) (z:gM [.int u,.bool b]=Y t) (y:jS [f]=Y d) (k:kB [t,d]=Y e)
  (x:ib (mZ (.one 6)) pZ ((List.range' 0 8).map λ(i:Nat)=>fJ.int (i:Int)) [Y a,Y c,Y p,Y (.bool b),Y d,Y e,Z,Z,Z,Z,Z]=Y (.nx [Y a,Y c,Y p,Y (.bool b),Y d,Y e,r,q,o,m,l])):Hg [a]=Y (.bool true):=by
 have w:=i9 (i:=h) (j:=2) (by decide);have v:=NX (i:=h) (j:=2) (by omega) (by omega);have g:Tu [Y a,Z,Z,Z,Z,Z,Z,Z,Z,Z,Z]=Y (.rt (.bool true)):=by
  refine d5 (ρ1:=[Y a,Y c,Z,Z,Z,Z,Z,Z,Z,Z,Z]) (by simp? only[F]) (d5 (ρ1:=[Y a,Y c,Y p,Z,Z,Z,Z,Z,Z,Z,Z]) (by simp? only[E,D]) (d5 (ρ1:=[Y a,Y c,Y p,Y (.bool b),Z,Z,Z,Z,Z,Z,Z]) (by simp? only[s,w,B]) (d5 (ρ1:=[Y a,Y c,Y p,Y (.bool b),Y d,Z,Z,Z,Z,Z,Z]) (by simp? only[s,v,A,y]) (d5 (ρ1:=[Y a,Y c,Y p,Y (.bool b),Y d,Y e,Z,Z,Z,Z,Z]) (by simp? only[C,z,k]) (d5 (ρ1:=[Y a,Y c,Y p,Y (.bool b),Y d,Y e,r,q,o,m,l]) ?_ rfl)))))
  .rw[zq,zp,ue,u4 (n:=8) (by omega) _ _ rfl];exact x
 exact iB g
def OG:∀a:List Int,a.length<=63->(∀x∈a,jE x=true)->Hg [.list (a.map .int)]=Y (.bool true):=λa h i=>by
 obtain⟨t,A,n,L⟩:=Oe h;obtain⟨F,H,P⟩:=RQ L.ok;obtain⟨s,E,S,j⟩:=Gb L.ok P;obtain⟨c,hc,k⟩:=DS a 2;have d:jE c=true:=by
  rcases hc with rfl|hc
  .exact JD (by omega) (by omega)
  .exact i c hc
 sleep 1;obtain⟨D,C,b,f,B,r,q,p,o,m,l,e⟩:=L.dr;sleep 2;sleep 1;obtain⟨z,y,w,v,u,g⟩:=D0 L S b c d k 8 0 Z Z Z Z Z (by omega);sleep 2;exact Sh L.ln (HB S.rt.gr S.rt.len) (Sg j) r q p o m l e g
end K47
namespace PySem.W.Fast
local macro_rules|`(#check $s:str)=>return Lean.mkNullNode (<-(s.getString.splitOn " ").toArray.mapM λx=>`(def $(Lean.mkIdent (.mkSimple s!"tw{x.foldl (λn c=>n*52+(c.toNat-if c.toNat<97 then 39 else 97)) 0}")):ident:=0))
#check "cdVUDegAeSWH bHaEKjewjiSS bvymvPvqabRo WmTapEAhdLh cobJPkeaqKCX bAJgIDHPsGdn RygrELQgIIX bvStUFmkFUaH HzVTwkuxKYb HvYONDsiMQX cdHgNOEZgPhz vrMxunWTbnD YyiyfpmcpAN FMcUlypfOuu bogppkkIUVTa qsCTWOkcxcs coBVhWcBwsPY buHUpLdkhxIf YIABMHqqSMa cuyrMldrBacT FLcplOwGUic bwPOrwqRoSXh bbliuJBwuAOz pydGWpiMkRk EquyNuEwBcF bPMVknUsGNym cqcvsgoZWKhB EPLSMzjpLJq qyNpxZYQVal bDMqPUrCDySN bNKIzjFZToE wRdwoIQLsmL cjgFHGNvOVDk ZnOXqOSnmL ZAsHQSgchjE bUUmTCoUmspC qfddylWBScc bWQobsLbDBSV eRjbBCwGKei brqTvVNxfMSR catjuIRbyFph wqOOUIASdvA cbqmVuSLdEKm OLIZTDBbeLj HkAQkoTTzQT lvunSciPDfo bcTvRUVysYfa oQvqKfpoamT bfcHARWyDwZN cdvBMDudZexv btpSnmkbkazO GdQGJDMzHmC ciLyEtGBHUNc beFPooRioJeA iKEbjleDFUm bWYfrxhFvaMW bDCgmSUtMlVS beCSbGbePsFo ckJleoVEvSoc RxkERPsSZfK cnWhGBZskuor JwYZMVGuohf MOIxstEwnA bmaiMQaKZxAE bTNZPADcWque bQEyUlmtQxzy bHbHEZzJuQVZ uhHwyLYTsJm gzvPaBQyEVd hwppdyaQJlj wbrUtgXzWXA fttSfbvkeCo bZTWKRAhsngs XYEKgrsUqfk CcUbRbxDRcE cfRJwuICGfTB jWclzsvbjpR kKXtkCprITd bLeJQpgGgHju lYYiVTTUwUS bwAwKhdZHjPY gGWXHhzGkOw bXiFRJMcLwcr PntCuiHoNAL BYWFnZjwkQI ZuJyhNymImD DVwjnDmnczi rrOMGEuhlvG bjsCQVDdlbmX cqNprWdHFvha VeCRmihZnEe bogLpteJIqKx DemhsotqPhu yjuoSCYthmP SyKuOkzjyJR KwIzFrXciCZ bJdbvFahtUJQ buxxsryDHOJL qIMmWwPLPlX bCjGshVoqADT XRsTZquugZF gelzjraqqoB YhLtAxZQFxU bedmTFmVXNUV byywbuTJigJh bZorBLpPMSyC ihkhIhjLXTv LdQXdNpCCka bksBzqRmrZaP bPDybFWhovmr btepWjONdXAa VHENocRAdfj bRhhfDsnPMYe bIygtGRnJHOb btndXAwYpXkj bLXCqjHFwFtJ vpeNVboLCcW bwkZfugHdmqY bdrfrKEPkEQG KXtAhCsnvAa UUVotOSiokD bidcUJfaQVXs dNGteIUlQTX BTrHZLttrBB bUVqDuXUggHh bgbSBJpyMJmN bOsDrDJnYTGp bolZamhmUeJm pDOBtLqbBSn crQqUfHyxmvz tmtLXViEANe btloNzCgeUlq bxXueecWDrqo crbQnLKUulf tAMGzQrIjng jEUOpXmFRll biMSIHGlesPJ JYgWnswlJHR boUnWbuvzyEu bPvDdDQSYXPS yAXcaGvXPHY GnbXLMNZzlD gAMVzWfYKqr bDXSBSAbugFy cbHaLnrCKsqw oVQAavUOELy ceqGkjSxOTTG bSNjgpINrlpB hBNGAKbPlND bibdNSOucZiw bSqyDzPTcBcr cbEENIhgIsmv bJVUksVgUedH bjVvFbTBTMfu VgAroOzpiaO bpAbSYANgDZI bKuuCoccSQSV bWeBMQPNUVBh bULNuDslwvyM bunHJxgrdCqr bKWEVFCuSIgZ bsuVcFXwQktS OpxveFxwBuJ AXBBwOtZacd bFxdGRjIdgJv xhDsGmvOdcf bUawfWDZlTqH ciLBelsLPpEP eRlpJjGlPbe TapyGNOEWTD bCWNOcTnHmHB bsLYYChrFEWX ciitAUcRCnLZ cpvXQVpGkfcL bvDfgFEweCLP bxseYxNmDBff bctTgyaVWuff FDoGFhOaeha baUmvmddbEDC IrmeCcxPvWj cbNQacoNnxnl cxfktlXrrRTt CkDHlOFJFDn dddSouFVXBa bDNLDhpsJTv bnplgacXZRyK TCxIhzqcjlJ sjFWmnCzbPn bvpOarbkZfMT bGUuFxqUUNpq cgCpScQSPTZY XhrBzAPtojU FJtJnkuHiAi bJNrFRTyISyi GhooZskUMnK cmWYsNeiNQkG bchneusrdSjc bXyDqScHXIPo bGvkReRRmrXb ctIVbcdrUSBG bCFrKNnEjEOz btezsSLiwYuQ bBVCUnmsqSQp bdDewtxUNpBw eQueymnVfKP cgnILUDjOYoB bizKztbqpibF bjOcIBQyxxpj bDoccAHhJsdn bRWLcLZPrCor YcOmyeCPdXN bqyJjbPlEQeG bVjkRHarlsfD rPReXYIbQcl bkTypeGaoNRM rWuQCWxKywI bIcZAkiTuqyV csbPsPRcihVW bsanbEghavlC bFAaOXNUezNo bnTZZirizNws pXSsbykgfgR bAJvZlkwCnCi gcIFSTTvPYa xbAhULxJDdr crrUcfUqjASU bXTNbSZoCXMP qtwJhMGParc eEZRUMLXVCD cbeXlbonllPU ciTHeAvZJjnN bvWxHtoJCqMp cwAsMdVYsWRk cvtShRqzAjHr bswwWsCDCRAn bFRWoJfcHGyA XNcMHeDQcXq srGBQGqURUo gfarjXCQQB cdlwMpCitbnT cuJwzuwwbIUz YtivqRcldum tKCRWVinzss bugSGkHDpUAX KbUPYABOCNl cmEmUoKyBNcL VcMRzspuJsB KvFnUunHimb cjdVMEViqQeY yNjWVcnoCnC tBVXGxtLEwi bfNhFqFcsqXg bMKxWViBbJhJ mYhOykwHzUt buriYYBswCMy IdrwSXWvfsk sCQNVnQOlMU ckmYvMZhTYZE bCTRRHiGYxFC bAiShNahXQLr bDvzvqYMedh fxqilifLVKe cxzGxJCAvSQo cigMVpuLDass bBqenzigRfoS cwBvNjQtFsOJ sevceGwKsmi bYngvEoMlCpk cuLciEzRVUPL fpxxVstEYHd dkJMooZSXQl VtWdcRiWfPJ lUDGTtQGzwj EvGWAQrvCbp biLtxZtwodaz bDlAvjNMwiLU bOAmhfXYhgiJ bTBQwrBxQcwT bDdvkugaEKpj bnAPiuJDSXxH KPvaOFkbFDj dDwShQBfSrh bvADClQWWmST bthgduYdOyvC bPZSmHuREVjS cumvcGdTAGnU bIwwDSzbwsKe"
end PySem.W.Fast
end
set_option Elab.async false
set_option linter.all false
set_option maxRecDepth 100000
open PySem PySem.W PyProof.Rows
set_option maxHeartbeats 0 in
theorem PySem.Challenge.cw_pointsure_k47_a_row_otherwise_holds : PySem.Challenge.rw_pointsure_k47_a_row_otherwise.Holds := by
  w_on; o_law; k_head; (case hw => w_witness2)
  k_fill
  refine L2.Ir (l := PySem.Challenge.rw_pointsure_k47_a_row_otherwise) (n := 63) (k := 11) (x := "_law_script") (f := K47.Hg) rfl (by decide) rfl ⟨rfl, by decide, by decide⟩ (fun w h Y => PySem.W.kIn_of Y) ?F K47.OG
  case F =>
    intro w mg fa h KX G hmg
    refine K47.VM ?zM hmg
    constructor
    all_goals first
   |(refine PySem.W.mg_none_of KX G ?_;first|k_is|decide)
   |(apply L2.X6<;>first|k_is|decide)
   |(apply L2.fnAt KX G<;>first|k_is|decide)
   |(apply L2.V_<;>first|k_is|decide)
   |(apply L2.Vo KX G<;>first|k_is|decide)
   |(apply L2.excAt KX G <;> first | k_is | decide | kernel_rfl)
   |(apply L2.Yd KX G <;> first | k_is | decide | kernel_rfl)
   |(apply L2.X1 KX G <;> first | k_is | decide | (repeat' constructor))
   |(apply L2.dictAt KX G <;> first | k_is | decide +kernel | (repeat' first | k_is | decide | constructor))
   |(apply L2.intAt KX G<;>first|k_is|decide)
